import PyProof.Rows.All
import PyProof.WalksMore
import PyProof.SumWalkG
import PyProof.AttrMissHeap
import KE.KDictList
import KE.KTabLook
import KE.KLam
import Wide.All
import OpenK.AllK
import Wide.FinOn
import Lean
import PyProof.EqAt
import PyProof.EqKinds
import PyProof.TupleCall
import PySem.Challenge.RW_bentwires_k24_whole_plain_forms
set_option compiler.extract_closed false
set_option maxHeartbeats 3900000
set_option maxRecDepth 100000
set_option Elab.async false
set_option linter.all false
open PySem.W(Frag keepIn nsIn fnOf kitOne CodeHd tabIn kqdOk Dat)
noncomputable section
abbrev bO:=@List.length_map
abbrev bY:=@List.length_append
abbrev ck:=@Nat.le_refl
abbrev cC:=@List.getElem?_eq_getElem
abbrev cH:=@List.getD_eq_getElem?_getD
abbrev cJ:=@List.mem_singleton
abbrev cU:=@List.mem_cons_self
abbrev cY:=@List.mem_map
abbrev dj:=@PySem.Heap.get?_push_of_some
abbrev dq:=@List.mem_append
abbrev du:=@List.getElem?_map
abbrev dB:=@PySem.Heap.lt_size
abbrev dE:=@List.length_take
abbrev dH:=@List.getElem?_eq_some_iff
abbrev dI:=@List.mem_of_getElem?
abbrev dX:=@List.mem_cons
abbrev dZ:=@Option.some.inj
abbrev eE:=@List.size_toArray
abbrev eJ:=@List.mem_append_right
abbrev eK:=@List.length_cons
abbrev eM:=@List.map_append
abbrev eN:=@PySem.W.mg_of
abbrev eS:=@Nat.le_trans
abbrev e7:=@List.mem_append_left
abbrev fu:=@Nat.ne_of_lt
abbrev fK:=@List.mem_cons_of_mem
abbrev gJ:=@PySem.Heap.get?_push_size
abbrev gS:=@List.getElem?_append_left
abbrev g8:=@List.mem_filter
abbrev hJ:=@List.append_nil
abbrev hU:=@List.getElem?_append_right
abbrev hW:=@List.append_assoc
abbrev ic:=@Int.one_mul
abbrev ir:=@Bool.and_eq_true
abbrev iB:=@List.take_add_one
abbrev iK:=@List.length_drop
abbrev iR:=@List.getElem?_eq_none
abbrev i4:=@Bool.false_ne_true
abbrev jf:=@Nat.zero_le
abbrev js:=@Nat.lt_of_lt_of_le
abbrev jt:=@List.map_cons
abbrev jG:=@List.length_replicate
abbrev jS:=@Int.dvd_sub
abbrev kf:=@Int.dvd_mul_of_dvd_right
abbrev lX:=@PySem.Heap.size_push
abbrev lY:=@List.nil_append
abbrev lZ:=@List.take_length
abbrev mU:=@List.mem_range
abbrev mV:=@PySem.F.plainAttrs_list
abbrev mX:=@PySem.PassesOwn.never
abbrev mY:=@PySem.W.mg_none_of
abbrev nW:=@PySem.Heap.SameBut.update
abbrev nX:=@Int.mul_comm
abbrev nZ:=@Int.dvd_add
abbrev n6:=@List.getElem_mem
abbrev n8:=@List.mem_map_of_mem
abbrev n9:=@List.filter_nil
abbrev og:=@Nat.add_assoc
abbrev o4:=@List.take_of_length_le
abbrev o5:=@List.filter_append
abbrev o6:=@List.map_map
abbrev pR:=@PySem.W.kia_one
abbrev pS:=@PySem.mem_of_lookup
abbrev pT:=@Nat.le_add_right
abbrev pU:=@List.all_eq_true
abbrev pV:=@Int.zero_add
abbrev pW:=@List.mem_iff_getElem?
abbrev qO:=@Nat.lt_irrefl
abbrev qP:=@PySem.F.slot_list_append
abbrev qQ:=@PySem.F.type_list_append
abbrev qR:=@List.nodup_append
abbrev sE:=@Int.mul_one
abbrev sG:=@List.nodup_cons
abbrev sH:=@List.lookup_cons
abbrev sJ:=@List.getElem?_drop
abbrev sM:=@Int.emod_nonneg
abbrev sN:=@Int.emod_lt_of_pos
abbrev sO:=@Int.dvd_neg
abbrev sP:=@List.find?_cons
abbrev uF:=@PySem.Heap.get?_update_self
abbrev uG:=@List.replicate_succ
abbrev uH:=@List.cons_append
abbrev uI:=@PySem.AutoSeq1.wpAny_loadPart'
abbrev uJ:=@List.map_congr_left
abbrev uK:=@List.length_filter_le
abbrev uL:=@List.mem_of_mem_drop
abbrev v9:=@List.of_mem_zip
abbrev wc:=@List.length_nil
abbrev wd:=@List.mem_of_mem_take
abbrev we:=@Nat.min_le_left
abbrev yh:=@Array.length_toList
abbrev yi:=@List.not_mem_nil
abbrev yj:=@List.find?_eq_none
abbrev yk:=@List.range_succ
abbrev Bf:=@List.getElem?_replicate
abbrev Bg:=@PyProof.Rows.slot_tuple_getitem
abbrev Bh:=@List.flatten_cons
abbrev Bi:=@List.length_range
abbrev Bj:=@List.mem_iff_getElem
abbrev Bk:=@List.filter_cons_of_pos
abbrev Bl:=@List.filter_cons_of_neg
abbrev Bm:=@List.reverse_cons
abbrev Bn:=@List.getD_cons_zero
abbrev Bo:=@List.getD_cons_succ
abbrev Bp:=@List.length_range'
abbrev Bq:=@List.count_append
abbrev EU:=@PyProof.Rows.callWith_type1
abbrev EV:=@PySem.W.cellsFrom_some
abbrev EW:=@PySem.F.slot_dict_get
abbrev EX:=@List.getElem?_zip_eq_some
abbrev EY:=@PySem.F.slot_dict_keyiterator_next
abbrev K5:=@PySem.F.slot_tuple_iterator_next
abbrev K6:=@Int.mul_le_mul_of_nonneg_left
abbrev ae:=@decide_eq_false
abbrev af:=@if_pos
abbrev ag:=@if_neg
abbrev ah:=@PySem.wpAny_mono
abbrev ai:=@PySem.wpAny_truthy_bool
abbrev aj:=@congrArg
abbrev ak:=@PySem.wpAny_bind
abbrev ao:=@PySem.wpAny_holding
abbrev aq:=@PySem.wpAny_pure
abbrev au:=@PySem.wpAny_passesOwn
abbrev av:=@PySem.wpAny_Call_Name_kw
abbrev ax:=@PySem.wpAny_newFunctionEnv_cells
abbrev ay:=@PySem.wpAny_callSpecial?_slot
abbrev az:=@PySem.wpAny_call_entry
abbrev aA:=@PySem.wpAny_newObj_type
abbrev aC:=@decide_eq_true
abbrev aD:=@PySem.wpAny_ite_false
abbrev aE:=@decide_eq_false_iff_not
abbrev aF:=@decide_eq_true_eq
abbrev aG:=@PySem.tupleKind_room_in1
abbrev aI:=@of_decide_eq_true
abbrev aJ:=@PySem.wpAny_typeNameOfWhole_keyiter
abbrev aK:=@PySem.wpAny_typeNameOf_keyiter
abbrev Kp(K:Frag)(f:PySem.Addr):Prop:=keepIn K (.ref f)=true
abbrev Mg(m:PySem.Str→Option PySem.Value)(x:PySem.Str)(f:PySem.Addr):Prop:=m x=some (.ref f)
abbrev QV:=PySem.Value→PySem.Shared→Prop
abbrev LL:=List (List Int)
variable{P:PySem.Program}{w:PySem.World}{K:Frag}{mg:PySem.Str→Option PySem.Value}{base:PySem.Heap}
namespace L2
open PySem PySem.Spec PyProof.Rows
variable{A:Around}{E:QV}{H:Hp}{M:Model}{Q:Unit→Shared→Prop}{X:Cx}{a b:Addr}{ch fp:List Addr}{e tg:Expr}{f:Value→Value→Sem Value}{g:TG}{h:Heap}{i n t':Nat}{o:HO}{op:CmpOp}{aL:List (Addr×Obj)}{r:R2}{s:Shared}{t:TE}{tb:TS}{u:Value}{us:List Value}{v:V}{x:Str}{σ:St}
abbrev Key:=Sum Int Str
noncomputable def wg:Key→Value→Bool
 | .inl k,v=>Value.isInt k v
 | .inr x,v=>Value.isStrOf x v
noncomputable def T9(w:World):Key→Int
 | .inl k=>hashInt k
 | .inr x=>hashStr w x
theorem pX:∀{k:Key}{v:Value},wg k v=true→(∃i t,k=Sum.inl i∧v=Value.int i t)∨(∃x t,k=Sum.inr x∧v=Value.str x t)
 | .inl i,v,h=>by
  obtain⟨t,e⟩:=Value.isInt_shape (k:=i) (v:=v) h;exact .inl ⟨i,t,rfl,e⟩
 | .inr x,v,h=>by
  obtain⟨t,e⟩:=Value.isStrOf_shape (x:=x) (v:=v) h;exact .inr ⟨x,t,rfl,e⟩
theorem Ua(i:Int)(t:Tok):wg (.inl i) (.int i t)=true:=by simp[wg,Value.isInt]
theorem Ub(x:Str)(t:Tok):wg (.inr x) (.str x t)=true:=by simp[wg,Value.isStrOf]
theorem Uc(a b:Int):decide ((Sum.inl a:Key)=Sum.inl b)=(a==b):=by
 by_cases e:a=b
 ·subst e;simp
 ·have h:¬(Sum.inl a:Key)=Sum.inl b:=λq=>e (Sum.inl.inj q);rw[ae h];exact(beq_eq_false_iff_ne.mpr e).symm
theorem Ud(a b:Str):decide ((Sum.inr a:Key)=Sum.inr b)=decide (a=b):=by
 by_cases e:a=b
 ·subst e;simp
 ·have h:¬(Sum.inr a:Key)=Sum.inr b:=λq=>e (Sum.inr.inj q);rw[ae h,ae e]
theorem Ue(a:Int)(b:Str):decide ((Sum.inl a:Key)=Sum.inr b)=false:=ae (λq=>nomatch q)
theorem Ug(a:Str)(b:Int):decide ((Sum.inr a:Key)=Sum.inl b)=false:=ae (λq=>nomatch q)
noncomputable def iC(prog:Program)(w:World):PySem.KeyKind prog w Key where
 is:=wg
 hash:=T9 w
 inj:=λv a b ha hb=>by
  rcases pX ha with⟨i,t,rfl,rfl⟩|⟨x,t,rfl,rfl⟩
  ·rcases pX hb with⟨j,u,rfl,e⟩|⟨y,u,rfl,e⟩
   ·injection e with e1 _;rw[e1]
   ·exact nomatch e
  ·rcases pX hb with⟨j,u,rfl,e⟩|⟨y,u,rfl,e⟩
   ·exact nomatch e
   ·injection e with e1 _;rw[e1]
 byValue:=λk v h=>by
  rcases pX h with⟨i,t,rfl,rfl⟩|⟨x,t,rfl,rfl⟩<;>rfl
 pyHash:=λhv h=>by
  rcases pX hv with⟨i,t,rfl,rfl⟩|⟨x,t,rfl,rfl⟩
  ·exact wpAny_pyHash_int h
  ·exact wpAny_pyHash_str h
 eqBool:=λhu hv h=>by
  rcases pX hu with⟨i,t,rfl,rfl⟩|⟨x,t,rfl,rfl⟩
  ·rcases pX hv with⟨j,u,rfl,rfl⟩|⟨y,u,rfl,rfl⟩
   ·rw[Uc]at h;exact wpAny_eqBool_int h
   ·rw[Ue]at h;exact SeqAt.EqAt.int_str i t y u _ _ _ _ h
  ·rcases pX hv with⟨j,u,rfl,rfl⟩|⟨y,u,rfl,rfl⟩
   ·rw[Ug]at h;exact SeqAt.EqAt.str_int x t j u _ _ _ _ h
   ·rw[Ud]at h;exact wpAny_eqBool_str h
 «strs»:=λk x t v h=>by
  rcases pX h with⟨i,u,rfl,e⟩|⟨y,u,rfl,e⟩
  ·exact nomatch e
  ·injection e with e1 _;subst e1;cases v<;>rfl
theorem Uh(prog:Program)(w:World)(i:Int)(t:Tok):(iC prog w).is (.inl i) (.int i t)=true:=Ua i t
theorem Ui(prog:Program)(w:World)(x:Str)(t:Tok):(iC prog w).is (.inr x) (.str x t)=true:=Ub x t
inductive V where
 |da|bl (b:Bool)|int (i:Int)|str (x:Str)|mZ (b:Array UInt8)|wj (b:UInt64)|ref (a:Addr)|ty (n:String)
 deriving DecidableEq
def RelV:V→Value→Prop
 | .da,u=>u=Value.none
 | .bl b,u=>u=Value.bool b
 | .int i,u=>∃t,u=Value.int i t
 | .str x,u=>∃t,u=Value.str x t
 | .mZ b,u=>∃t,u=Value.bytes b t
 | .wj b,u=>∃t,u=Value.float b t
 | .ref a,u=>u=Value.ref a
 | .ty n,u=>u=Value.type n
abbrev Vals:List V→List Value→Prop:=Paired RelV
theorem Vals.length{xs:List V}{us:List Value}(r:Vals xs us):xs.length=us.length:=Paired.length r
theorem Vals.get:∀{xs:List V}{us:List Value}{i:Nat}{x:V},Vals xs us→xs[i]?=some x→∃u,us[i]?=some u∧RelV x u
 |_,_,_,_,.nil,e=>by simp at e
 |_,_,0,_,.cons r _,e=>by simp at e;subst e;exact⟨_,rfl,r⟩
 |_,_,i+1,x,.cons _ t,e=>by
  obtain⟨u,h1,h2⟩:=Vals.get (i:=i) (x:=x) t (by simpa using e);exact⟨u,by simpa using h1,h2⟩
theorem Vals.set{x:V}{u:Value}(r:RelV x u):∀{xs:List V}{us:List Value}(i:Nat),Vals xs us→Vals (xs.set i x) (us.set i u)
 |_,_,_,.nil=>.nil
 |_,_,0,.cons _ t=>.cons r t
 |_,_,i+1,.cons q t=>.cons q (Vals.set r i t)
theorem Vals.append:∀{xs ys:List V}{us ws:List Value},Vals xs us→Vals ys ws→Vals (xs++ys) (us++ws)
 |_,_,_,_,.nil,s=>s
 |_,_,_,_,.cons r t,s=>.cons r (Vals.append t s)
theorem Vals.take:∀{xs:List V}{us:List Value}(n:Nat),Vals xs us→Vals (xs.take n) (us.take n)
 |_,_,0,_=>.nil
 |_,_,_+1,.nil=>.nil
 |_,_,n+1,.cons r t=>.cons r (Vals.take n t)
theorem Vals.drop:∀{xs:List V}{us:List Value}(n:Nat),Vals xs us→Vals (xs.drop n) (us.drop n)
 |_,_,0,r=>r
 |_,_,_+1,.nil=>.nil
 |_,_,n+1,.cons _ t=>Vals.drop n t
def nc:Option V→Option Value→Prop
 |some v,some u=>RelV v u
 |none,none=>True
 |_,_=>False
def KV{κ:Type}:List (κ×V)→List (κ×Value)→Prop:=Paired λ(p:κ×V)(q:κ×Value)=>p.1=q.1∧RelV p.2 q.2
noncomputable def kV:Key→V
 | .inl i=>.int i
 | .inr x=>.str x
inductive HO where
 |lst (xs:List V)
 |tup (xs:List V)
 |dK (aM:List (Key×V))|dT (aM:List (List Key×V))
 |set (S:Int→Bool) (n:Nat)
 |ins (C dx:Addr) (fs:List (Str×V))
 |own (x:Addr)
 |xd (fs:List (Str×V))
 |met (f x:Addr)
 |qS (lo hi:Int)
 |dC (o:Obj) (u:HO)
 |iu (ps:Array Value)
 |ext (φ:Heap→Prop)
abbrev Hp:=Addr→Option HO
noncomputable def upd(H:Hp)(a:Addr)(o:HO):Hp:=λb=>if b=a then some o else H b
theorem bg:upd H a o a=some o:=by unfold upd;rw[af rfl]
theorem bU(h:b≠a):upd H a o b=H b:=by unfold upd;rw[ag h]
theorem Br{u:HO}:upd (upd H a o) a u=upd H a u:=by
 funext b;unfold upd;split<;>rfl
theorem Uj{u:HO}(h:H a=some o)(h':H b=some u)(d:o≠u):a≠b:=by
 intro e;subst e;rw[h]at h';exact d (dZ h')
theorem fg(h:H a=some o)(h':H b=none):a≠b:=by
 intro e;subst e;rw[h]at h';cases h'
def pY(h:Heap)(a:Addr)(items:Array Value):Prop:=∃o,h.get? a=some o∧o.cls=.type "tuple"∧o.dict=none∧∃n,o.data=.seq items n
theorem pY.tup{items:Array Value}(x:pY h a items):IsTup h a items:=let ⟨o,e,c,_,n,d⟩:=x;⟨o,e,c,n,d⟩
theorem pY.new(h:Heap)(items:Array Value):pY (h.push { cls:=.type "tuple",data:=.seq items }) h.objs.size items:=⟨_,gJ _ rfl,rfl,rfl,_,rfl⟩
section
variable(P:Program)(w:World)
def gv(H:Hp)(h:Heap)(a:Addr):HO→Prop
 | .lst xs=>xs.length≤sizeLine∧∃(its:List Value)(n:Nat),Vals xs its∧h.get? a=some { cls:=.type "list",data:=.seq its.toArray n }
 | .tup xs=>xs.length≤sizeLine∧∃its:List Value,Vals xs its∧pY h a its.toArray
 | .dK aM=>aM.length≤sizeLine∧(a==sysModules)=false∧∃vs,KV aM vs∧h.DictOf (iC P w) a vs
 | .dT aM=>aM.length≤sizeLine∧(a==sysModules)=false∧∃xs:List (List Key×Addr×Value),
   Paired (λ(p:List Key×V)(q:List Key×Addr×Value)=>p.1=q.1∧H q.2.1=some (.tup (p.1.map kV))∧RelV p.2 q.2.2) aM xs∧
   ∃o es ep,h.get? a=some o∧o.ExactDict∧o.data=.dict es ep∧es.toList=xs.map (entryOfKey (tupleKind (iC P w)))∧(xs.map (·.1)).Nodup
 | .set S n=>h.SetOf (intKind P w) a S n
 | .ins C dx fs=>H dx=some (.own a)∧fs.length≤1000∧dx≠a∧h.get? a=some (PySem.W.instObj C dx)∧
   ∃mA,h.Ns1 dx mA∧(∀f,nc (fs.lookup f) (mA f))∧PySem.Within mA (fs.map (·.1))
 | .own _=>∃o,h.get? a=some o
 | .xd fs=>∃mA,h.Ns1 a mA∧∀f,nc (fs.lookup f) (mA f)
 | .qS lo hi=>∃t u v,h.get? a=some { cls:=.type "range",data:=.fields #[.int lo t,.int hi u,.int 1 v] }
 | .dC o u=>h.get? a=some o∧gv H h a u
 | .iu ps=>h.get? a=some { cls:=.none,data:=.fields ps }
 | .met f x=>h.get? a=some (PySem.W.methodObj (.ref f) (.ref x))
 | .ext φ=>φ h∧(∃o,h.get? a=some o)∧∀h1 h2:Heap,φ h1→(∀o,h1.get? a=some o→h2.get? a=some o)→φ h2
def gy(H:Hp)(h:Heap):Prop:=∀a o,H a=some o→gv P w H h a o
end
section
variable{P:Program}{w:World}{H H':Hp}{h h':Heap}{a:Addr}{o:HO}
theorem gv.lt(x:gv P w H h a o):a<h.objs.size:=by
 cases o with
 |lst xs=>obtain⟨_,_,_,_,e⟩:=x;exact dB e
 |tup xs=>obtain⟨_,_,_,p⟩:=x;exact p.tup.lt
 |dK aM=>obtain⟨_,_,_,_,o,_,_,e,_⟩:=x;exact dB e
 |dT aM=>obtain⟨_,_,_,_,o,_,_,e,_⟩:=x;exact dB e
 |set S n=>obtain⟨o,_,_,_,e,_⟩:=x;exact dB e
 |ins C dx fs=>obtain⟨_,_,_,e,_⟩:=x;exact dB e
 |own y=>obtain⟨_,e⟩:=x;exact dB e
 |xd fs=>obtain⟨_,⟨_,_,_,e,_⟩,_⟩:=x;exact dB e
 |qS lo hi=>obtain⟨_,_,_,e⟩:=x;exact dB e
 |dC ob u=>obtain⟨e,_⟩:=x;exact dB e
 |iu ps=>exact dB (show h.get? a=some _ from x)
 |met f y=>exact dB (show h.get? a=some _ from x)
 |ext φ=>obtain⟨_,⟨_,e⟩,_⟩:=x;exact dB e
theorem Paired.EZ{α β:Type}{F G:α→β→Prop}:∀{l₁:List α}{l₂:List β},Paired F l₁ l₂→(∀a b,F a b→G a b)→Paired G l₁ l₂
 |_,_,.nil,_=>.nil
 |_,_,.cons r t,f=>.cons (f _ _ r) (Paired.EZ t f)
theorem gv.pZ(x:gv P w H h a o)(k:∀b u,(b=a∨H b=some (.own a))→h.get? b=some u→h'.get? b=some u)
  (ho:∀b,H b=some (.own a)→H' b=some (.own a)) (ht:∀b xs,H b=some (.tup xs)→H' b=some (.tup xs)):gv P w H' h' a o:=by
 induction o with
 |lst xs=>obtain⟨z,its,n,r,e⟩:=x;exact⟨z,its,n,r,k _ _ (.inl rfl) e⟩
 |tup xs=>obtain⟨z,its,r,ob,e,c⟩:=x;exact⟨z,its,r,ob,k _ _ (.inl rfl) e,c⟩
 |dK aM=>obtain⟨z,y,vs,r,ob,es,ep,e,c⟩:=x;exact⟨z,y,vs,r,ob,es,ep,k _ _ (.inl rfl) e,c⟩
 |dT aM=>
  obtain⟨z,y,xs,r,ob,es,ep,e,c⟩:=x;exact⟨z,y,xs,Paired.EZ r λp q z=>⟨z.1,ht _ _ z.2.1,z.2.2⟩,ob,es,ep,k _ _ (.inl rfl) e,c⟩
 |set S n=>obtain⟨ob,es,ep,t,e,c⟩:=x;exact⟨ob,es,ep,t,k _ _ (.inl rfl) e,c⟩
 |ins C dx fs=>
  obtain⟨d,z,ne,e,mA,⟨od,es,ep,e2,c⟩,r⟩:=x;exact⟨ho _ d,z,ne,k _ _ (.inl rfl) e,mA,⟨od,es,ep,k _ _ (.inr d) e2,c⟩,r⟩
 |own y=>obtain⟨ob,e⟩:=x;exact⟨ob,k _ _ (.inl rfl) e⟩
 |xd fs=>obtain⟨mA,⟨od,es,ep,e,c⟩,r⟩:=x;exact⟨mA,⟨od,es,ep,k _ _ (.inl rfl) e,c⟩,r⟩
 |qS lo hi=>obtain⟨t,u,v,e⟩:=x;exact⟨t,u,v,k _ _ (.inl rfl) e⟩
 |dC ob u ih=>obtain⟨e,q⟩:=x;exact⟨k _ _ (.inl rfl) e,ih q⟩
 |iu ps=>
  have e:h.get? a=some { cls:=.none,data:=.fields ps }:=x;show h'.get? a=some { cls:=.none,data:=.fields ps };exact k a _ (.inl rfl) e
 |met f y=>
  have e:h.get? a=some (PySem.W.methodObj (.ref f) (.ref y)):=x;show h'.get? a=some (PySem.W.methodObj (.ref f) (.ref y));exact k a _ (.inl rfl) e
 |ext φ=>obtain⟨p,⟨o,e⟩,st⟩:=x;exact⟨st _ _ p λo q=>k _ _ (.inl rfl) q,⟨o,k _ _ (.inl rfl) e⟩,st⟩
theorem gy.lt(x:gy P w H h)(e:H a=some o):a<h.objs.size:=(x a o e).lt
theorem gy.fresh(x:gy P w H h)(e:h.objs.size≤a):H a=none:=by
 cases q:H a with
 |none=>rfl
 |some u=>exact absurd (js (x.lt q) e) (qO _)
theorem gy.kept(x:gy P w H h)(k:∀b u,h.get? b=some u→h'.get? b=some u):gy P w H h':=λa o e=>
 (x a o e).pZ (λb u _ q=>k b u q) (λ_ q=>q) λ_ _ q=>q
theorem gy.laid(x:gy P w H h)(k:∀b u,h.get? b=some u→h'.get? b=some u)(hp:h.objs.size≤a)(new:gv P w (upd H a o) h' a o):gy P w (upd H a o) h':=λb u e=>by
 have hn:=x.fresh hp;by_cases hb:b=a
 ·subst hb;rw[bg]at e;cases e;exact new
 ·rw[bU hb]at e;exact(x b u e).pZ (λc v _ q=>k c v q) (λc q=>by rw[bU (fg q hn)];exact q) λc xs q=>by rw[bU (fg q hn)];exact q
end
def Rd(H:Hp)(a:Addr)(u:HO):Prop:=H a=some u∨∃o,H a=some (.dC o u)
theorem Rd.of{u:HO}(h:H a=some u):Rd H a u:=.inl h
theorem Rd.ok{P:Program}{w:World}{u:HO}(r:Rd H a u)(x:gy P w H h):gv P w H h a u:=by
 rcases r with r|⟨o,r⟩
 ·exact x a u r
 ·obtain⟨_,q⟩:=x a _ r;exact q
def ym:Option HO→Prop
 |some (.lst _)=>True
 |some (.dK _)=>True
 |some (.dT _)=>True
 |some (.set _ _)=>True
 |some (.ins _ _ _)=>True
 |some (.ext _)=>True
 |_=>False
section
variable{P:Program}{w:World}{H:Hp}{h h':Heap}{x e:Addr}{o':HO}
theorem gy.write(ok:gy P w H h)(mu:ym (H x))(he:e=x∨H e=some (.own x))(k:∀b u,b≠e→h.get? b=some u→h'.get? b=some u)(wk:∃u,h'.get? e=some u)
  (new:gv P w (upd H x o') h' x o'):gy P w (upd H x o') h':=λb u q=>by
 have K7:∀c y,H c=some (.own y)→c≠x:=λc y r z=>by subst z;rw[r]at mu;exact mu
 have Uk:∀c xs,H c=some (.tup xs)→c≠x:=λc xs r z=>by subst z;rw[r]at mu;exact mu
 by_cases hb:b=x
 ·subst hb;rw[bg]at q;cases q;exact new
 ·rw[bU hb]at q;by_cases uM:b=e
  ·have q':H b=some (.own x):=by
    rcases he with z|z
    ·exact absurd (uM.trans z) hb
    ·rw[uM];exact z
   rw[q]at q';cases q';obtain⟨v,hv⟩:=wk;exact⟨v,by rw[uM];exact hv⟩
  ·refine(ok b u q).pZ (λc v hc r=>k c v ?_ r) (λc r=>by rw[bU (K7 c b r)];exact r) λc xs r=>by rw[bU (Uk c xs r)];exact r
   rcases hc with rfl|hc
   ·exact uM
   ·rintro rfl;rcases he with z|z
    ·exact K7 c b hc z
    ·rw[hc]at z;cases z;exact hb rfl
end
structure Un(fs ex:List Addr)(H H':Hp)(h h':Heap):Prop where
 keep:∀b o,h.get? b=some o→H b=none→b ∉ fs→b ∉ ex→h'.get? b=some o
 slot:∀b o,h.get? b=some o→H b=none→b∈fs→b ∉ ex→∃sl,h'.get? b=some { o with slots:=sl }
 free:∀b o,h.get? b=some o→H b=none→b ∉ ex→H' b=none
 there:∀b o,h.get? b=some o→b ∉ ex→∃o',h'.get? b=some o'
 p6:∀b xs,H b=some (.tup xs)→H' b=some (.tup xs)
 oh:∀b o u,H b=some (.dC o u)→H' b=some (.dC o u)
 o7:∀b ps,H b=some (.iu ps)→∃ig,H' b=some (.iu (ps++ig))
section
variable{fs wm ex ex':List Addr}{H H1 H2:Hp}{h h1 h2 h':Heap}{a x e:Addr}{o:HO}
theorem Un.any(u:Un fs ex H H1 h h1){ob:Obj}(q:h.get? b=some ob)(n:H b=none)(hx:b ∉ ex):∃sl,h1.get? b=some { ob with slots:=sl }:=by
 by_cases hb:b∈fs
 ·exact u.slot b ob q n hb hx
 ·exact⟨ob.slots,u.keep b ob q n hb hx⟩
theorem Un.kept(k:∀b u,h.get? b=some u→h'.get? b=some u):Un fs ex H H h h':=
 ⟨λb ob q _ _ _=>k b ob q,λb ob q _ _ _=>⟨ob.slots,k b ob q⟩,λ_ _ _ n _=>n,λb ob q _=>⟨ob,k b ob q⟩,λ_ _ q=>q,λ_ _ _ q=>q,λ_ ps q=>⟨#[],by rw[q];simp⟩⟩
theorem Un.refl:Un fs ex H H h h:=Un.kept λ_ _ q=>q
theorem Un.laid(k:∀b u,h.get? b=some u→h'.get? b=some u)(hp:h.objs.size≤a)(hn:H a=none):Un fs ex H (upd H a o) h h' where
 keep:=λb u q _ _ _=>k b u q
 slot:=λb u q _ _ _=>⟨u.slots,k b u q⟩
 free:=λb u q n _=>by rw[bU (fu (js (dB q) hp))];exact n
 there:=λb u q _=>⟨u,k b u q⟩
 p6:=λb xs q=>by rw[bU (fg q hn)];exact q
 oh:=λb u xs q=>by rw[bU (fg q hn)];exact q
 o7:=λb ps q=>⟨#[],by rw[bU (fg q hn),q];simp⟩
theorem Un.write(mu:ym (H x))(he:e=x∨H e=some (.own x))(k:∀b u,b≠e→h.get? b=some u→h'.get? b=some u)(wk:∃u,h'.get? e=some u):Un fs ex H (upd H x o) h h':=by
 have hx:∀b,H b=none→b≠x:=λb n z=>by subst z;rw[n]at mu;exact mu
 have hb:∀b,H b=none→b≠e:=λb n z=>by
  subst z;rcases he with r|r
  ·exact hx b n r
  ·rw[n]at r;cases r
 have hm:∀b u,H b=some u→¬ym (some u)→b≠x:=λb u q nm z=>by subst z;rw[q]at mu;exact nm mu
 refine⟨λb u q n _ _=>k b u (hb b n) q,λb u q n _ _=>⟨u.slots,k b u (hb b n) q⟩,λb u q n _=>by rw[bU (hx b n)];exact n,λb u q _=>?_,
  λb xs q=>by rw[bU (hm b _ q λz=>z)];exact q,λb u xs q=>by rw[bU (hm b _ q λz=>z)];exact q,λb ps q=>⟨#[],by rw[bU (hm b _ q λz=>z),q];simp⟩⟩
 by_cases uM:b=e
 ·subst uM;exact wk
 ·exact⟨u,k b u uM q⟩
end
noncomputable def Bs(h:Heap)(H:Hp):List Addr:=(List.range h.objs.size).filter λa=>(H a).isSome
noncomputable def o8(h:Heap)(H:Hp):Heap:=PySem.W.hideAll h (Bs h H)
theorem Ul(h:Heap)(H:Hp):(o8 h H).objs.size=h.objs.size:=PySem.W.hideAll_size _ _
theorem Um{o:Obj}(e:h.get? b=some o)(n:H b=none):(o8 h H).get? b=some o:=
 PySem.W.hideAll_get _ e λhm=>by
  have q:(H b).isSome=true:=(g8.mp hm).2;rw[n]at q;simp at q
theorem Uo{o:Obj}(e:(o8 h H).get? b=some o):h.get? b=some o∧H b=none:=by
 have e':h.get? b=some o:=PySem.W.of_hideAll (Bs h H) e;refine⟨e',?_⟩;cases q:H b with
 |none=>rfl
 |some x=>
  have hm:b∈Bs h H:=g8.mpr ⟨mU.mpr (dB e'),by simp[q]⟩;have z:(o8 h H).get? b=none:=PySem.W.hideAll_none (Bs h H) hm;rw[z]at e;cases e
noncomputable def Up(g h:Heap)(L:Addr):List (Addr×Obj):=(List.range h.objs.size).filterMap λa=>if a=L∨(g.get? a).isSome=true then none else(h.get? a).map λo=>(a,o)
noncomputable def eh(g h:Heap)(L d:Addr):List (Addr×Obj):=(Up g h L).filter λp=>decide (p.1≠d)
structure Mod(K:Frag)(mg:Str→Option Value)(base:Heap):Prop where
 uN:K.In base
 glob:base.Ns mainGlobals mg
 blt:∃mb,base.Ns builtinsNs mb∧∀x:Str,x ≠ "__name__"→mb x=bootBuiltins x
 nolimit:base.NoLimit
structure Cx where
 prog:Program
 w:World
 K:Frag
 mg:Str→Option Value
 base:Heap
 A:Around
 N:List Str
 s₀:Shared
 H₀:Hp
 env:Env
 outer:List Env
 stack:List Env
 ex:List Addr
 fn:Str→Bool
 calm:Bool
 pn:List (Addr×Obj)
 xe:QV
noncomputable def l4(l:List Env):List Addr:=l.filterMap (·.frame)
noncomputable abbrev Cx.fs(X:Cx):List Addr:=l4 X.outer
def yn(sc:Scope)(x:Str):Prop:=sc.names.lookup x=some .local∨sc.names.lookup x=some .cell∨sc.names.lookup x=some .free
def Loc(sc:Scope)(x:Str):Prop:=sc.names.lookup x=some .local∨sc.names.lookup x=some .cell
def Look(env:Env)(h:Heap)(m:Str→Option Value)(x:Str)(u:Value):Prop:=
 (env.kindOf x=some .local∧m x=some u)∨((env.kindOf x=some .cell∨env.kindOf x=some .free)∧∃c,env.cells.lookup x=some c∧h.IsCell c (some u))
structure Cx.Ok(X:Cx):Prop where
 mod:Mod X.K X.mg X.base
 kind:X.env.scope.kind=.function
 glob:X.env.globals=mainGlobals
 blt:X.env.builtins=builtinsNs
 above:X.s₀.heap.objs.size≤X.env.locals
 inj:∀x y c,X.env.cells.lookup x=some c→X.env.cells.lookup y=some c→x=y
 has:∀x,(X.env.kindOf x=some .cell∨X.env.kindOf x=some .free)→∃c,X.env.cells.lookup x=some c
 yo:∀x c,X.fn x=true→X.env.cells.lookup x=some c→X.s₀.heap.objs.size≤c
 hd:X.calm=true→X.A.handled=none
 frames:X.A.frames=some X.stack
 Bt:X.stack=X.outer∨(X.stack=X.env::X.outer∧X.env.frame=some X.env.locals)
 yq:∀b∈X.ex,b≠X.env.locals∧∀x c,X.env.cells.lookup x=some c→c≠b
 bs:∀b o,X.base.get? b=some o→X.s₀.heap.get? b=some o∧X.H₀ b=none
 qT:X.base.objs.size≤X.s₀.heap.objs.size
 yr:∀b o,X.base.get? b=some o→b ∉ X.ex
 wo:∀b∈X.ex,b ∉ X.fs
 oj:X.s₀.heap.FunFrames X.base X.outer
 uO:∀b∈X.fs,X.H₀ b=none
structure Inv(X:Cx)(aL:List (Addr×Obj))(σ:List (Option V))(H:Hp)(s:Shared):Prop where
 ok:X.Ok
 os:s.os=X.s₀.os
 bare:AllBare s.gens
 base:Un X.fs X.ex X.H₀ H X.s₀.heap s.heap
 loc:∃m,s.heap.Ns X.env.locals m∧∀(i:Nat)(x:Str)(v:V),X.N[i]?=some x→σ[i]?=some (some v)→yn X.env.scope x→∃u,RelV v u∧Look X.env s.heap m x u
 cell:∀x c,X.env.cells.lookup x=some c→∃v,s.heap.IsCell c v
 free:H X.env.locals=none
 ng:∀x c,X.env.cells.lookup x=some c→H c=none
 pin:∀p∈X.pn++aL,s.heap.get? p.1=some p.2∧H p.1=none∧p.1≠X.env.locals∧p.1 ∉ X.fs∧∀v,p.2.data≠.cell v
 bz:gy X.prog X.w H s.heap
 len:σ.length=X.N.length
section
variable{X:Cx}{aL:List (Addr×Obj)}{σ:List (Option V)}{H H':Hp}{s:Shared}{h':Heap}
theorem Cx.Ok.Uq(ok:X.Ok){o:Obj}(e:X.base.get? b=some o):b ∉ X.fs:=λhb=>by
 have:=(ok.oj.mem hb).1
 rw[e]at this;cases this
theorem Inv.bs(I:Inv X aL σ H s):∀b o,X.base.get? b=some o→s.heap.get? b=some o∧H b=none:=λb o e=>
 ⟨I.base.keep b o (I.ok.bs b o e).1 (I.ok.bs b o e).2 (I.ok.Uq e) (I.ok.yr b o e),I.base.free b o (I.ok.bs b o e).1 (I.ok.bs b o e).2 (I.ok.yr b o e)⟩
theorem Inv.bk(I:Inv X aL σ H s):∀b o,X.base.get? b=some o→s.heap.get? b=some o:=λb o e=>(I.bs b o e).1
theorem Inv.mod(I:Inv X aL σ H s):Mod X.K X.mg X.base:=I.ok.mod
theorem Inv.ij(I:Inv X aL σ H s):X.K.In s.heap:=I.ok.mod.uN.keeps I.bk
theorem Inv.lt(I:Inv X aL σ H s):X.env.locals<s.heap.objs.size:=let ⟨_,hn,_⟩:=I.loc;hn.lt
theorem Inv.sz(I:Inv X aL σ H s):X.s₀.heap.objs.size≤s.heap.objs.size:=eS I.ok.above (Nat.le_of_lt I.lt)
theorem Inv.Ur(I:Inv X aL σ H s)(h:s.heap.objs.size≤a):a ∉ X.fs:=λhb=>by
 obtain⟨_,o,ho,_⟩:=I.ok.oj.mem hb;exact absurd (js (dB ho) (eS I.sz h)) (qO _)
theorem Inv.uP(I:Inv X aL σ H s):∀x c,X.env.cells.lookup x=some c→c≠X.env.locals:=λx c e z=>by
 obtain⟨v,o,ho,hd⟩:=I.cell x c e;obtain⟨m,⟨o',es,ep,uQ,jT,_⟩,_⟩:=I.loc;rw[z,uQ]at ho;cases ho;rw[jT]at hd;cases hd
theorem Inv.oj(I:Inv X aL σ H s):s.heap.FunFrames X.base X.outer:=by
 have all:∀(l:List Env),(∀b∈l4 l,b∈X.fs)→X.s₀.heap.FunFrames X.base l→s.heap.FunFrames X.base l:=by
  intro l;induction l with
  |nil=>intro _ _;trivial
  |cons env r ih=>
   intro hs hl;obtain⟨hk,⟨L,o,hf,hn,ho,hd⟩,hr⟩:=hl;have hL:L∈X.fs:=hs L (by unfold l4;rw[List.filterMap_cons,hf];exact cU);obtain⟨sl,e⟩:=I.base.slot L o ho (I.ok.uO L hL) hL λz=>I.ok.wo L z hL;exact⟨hk,⟨L,_,hf,hn,e,hd⟩,ih (λb hb=>hs b (by unfold l4;rw[List.filterMap_cons,hf];exact fK _ hb)) hr⟩
 exact all X.outer (λ_ hb=>hb) I.ok.oj
theorem Inv.stack(I:Inv X aL σ H s):s.heap.FunFrames X.base X.stack:=by
 rcases I.ok.Bt with e|⟨e,hf⟩
 ·rw[e];exact I.oj
 ·rw[e];obtain⟨m,hn,_⟩:=I.loc;refine .cons (by rw[I.ok.kind];decide) hf hn ?_ I.oj;exact Heap.get?_none_of_le (eS I.ok.qT I.ok.above)
theorem Inv.E2(I:Inv X aL σ H s):∀b∈l4 X.stack,b∈X.env.locals::X.fs:=λb hb=>by
 rcases I.ok.Bt with e|⟨e,hf⟩
 ·rw[e]at hb;exact fK _ hb
 ·rw[e]at hb;unfold l4 at hb;rw[List.filterMap_cons,hf]at hb;exact hb
theorem Inv.K8(I:Inv X aL σ H s):∀b∈l4 X.stack,H b=none:=λb hb=>by
 rcases dX.mp (I.E2 b hb)with e|hb
 ·rw[e];exact I.free
 ·obtain⟨_,o,ho,_⟩:=I.ok.oj.mem hb;exact I.base.free b o ho (I.ok.uO b hb) λz=>I.ok.wo b z hb
theorem Inv.step{g':Array GenState}{d':Drawn}(I:Inv X aL σ H s)
  (p7:∀b∈ch,(b∈X.ex∨X.s₀.heap.objs.size≤b)∧b≠X.env.locals∧(∀x c,X.env.cells.lookup x=some c→c≠b)∧∀p∈X.pn++aL,p.1≠b)
  (keep:∀b o,b≠X.env.locals→b ∉ X.fs→b ∉ ch→s.heap.get? b=some o→H b=none→h'.get? b=some o)
  (slot:∀b o,b≠X.env.locals→b∈X.fs→b ∉ ch→s.heap.get? b=some o→H b=none→∃sl,h'.get? b=some { o with slots:=sl }) (free:∀b o,b ∉ ch→s.heap.get? b=some o→H b=none→H' b=none)
  (there:∀b o,b ∉ ch→s.heap.get? b=some o→∃o',h'.get? b=some o')
  (p6:∀b xs,H b=some (.tup xs)→H' b=some (.tup xs)) (oh:∀b o u,H b=some (.dC o u)→H' b=some (.dC o u)) (o7:∀b ps,H b=some (.iu ps)→∃ig,H' b=some (.iu (ps++ig)))
  (ns:∀m,s.heap.Ns X.env.locals m→h'.Ns X.env.locals m) (bz:gy X.prog X.w H' h') (hg:AllBare g') :
  Inv X aL σ H' { s with heap:=h',gens:=g',drawn:=d',toks:=t' }:=by
 have K9:∀b o,X.s₀.heap.get? b=some o→b≠X.env.locals:=λb o e=>fu (js (dB e) I.ok.above);have Bu:∀b o,X.s₀.heap.get? b=some o→b ∉ X.ex→b ∉ ch:=λb o e hx hb=>by
  rcases(p7 b hb).1 with z|z
  ·exact hx z
  ·exact absurd (js (dB e) z) (qO _)
 have La:∀x c,X.env.cells.lookup x=some c→∀v,s.heap.IsCell c v→h'.IsCell c v:=λx c e v ⟨o,ho,hd⟩=>by
  have yu:c ∉ ch:=λz=>(p7 c z).2.2.1 x c e rfl;by_cases hc:c∈X.fs
  ·obtain⟨sl,q⟩:=slot c o (I.uP x c e) hc yu ho (I.ng x c e);exact⟨_,q,hd⟩
  ·exact⟨o,keep c o (I.uP x c e) hc yu ho (I.ng x c e),hd⟩
 refine⟨I.ok,I.os,hg,⟨λb o e n hb hx=>?_,λb o e n hb hx=>?_,λb o e n hx=>?_,λb o e hx=>?_,λb xs e=>p6 b xs (I.base.p6 b xs e),λb o xs e=>oh b o xs (I.base.oh b o xs e),λb ps e=>?_⟩,?_,λx c e=>?_,?_,λx c e=>?_,λp hp=>?_,bz,I.len⟩
 ·exact keep b o (K9 b o e) hb (Bu b o e hx) (I.base.keep b o e n hb hx) (I.base.free b o e n hx)
 ·obtain⟨sl,e1⟩:=I.base.slot b o e n hb hx;obtain⟨E3,e2⟩:=slot b _ (K9 b o e) hb (Bu b o e hx) e1 (I.base.free b o e n hx);exact⟨E3,e2⟩
 ·obtain⟨o',e1⟩:=I.base.there b o e hx;exact free b o' (Bu b o e hx) e1 (I.base.free b o e n hx)
 ·obtain⟨o',e1⟩:=I.base.there b o e hx;exact there b o' (Bu b o e hx) e1
 ·obtain⟨m1,e1⟩:=I.base.o7 b ps e;obtain⟨m2,e2⟩:=o7 b _ e1;exact⟨m1++m2,by rw[e2,Array.append_assoc]⟩
 ·obtain⟨m,hn,hl⟩:=I.loc;refine⟨m,ns m hn,λi x v e1 e2 e3=>?_⟩;obtain⟨u,r,l⟩:=hl i x v e1 e2 e3;refine⟨u,r,?_⟩;rcases l with l|⟨k,c,e,z⟩
  ·exact .inl l
  ·exact .inr ⟨k,c,e,La x c e _ z⟩
 ·obtain⟨v,z⟩:=I.cell x c e;exact⟨v,La x c e v z⟩
 ·obtain⟨m,⟨o,_,_,ho,_⟩,_⟩:=I.loc;exact free _ o (λz=>(p7 _ z).2.1 rfl) ho I.free
 ·obtain⟨v,o,ho,hd⟩:=I.cell x c e;exact free c o (λz=>(p7 c z).2.2.1 x c e rfl) ho (I.ng x c e)
 ·obtain⟨e,n,ne,nf,d⟩:=I.pin p hp;have yu:p.1 ∉ ch:=λz=>(p7 p.1 z).2.2.2 p hp rfl;exact⟨keep p.1 p.2 ne nf yu e n,free p.1 p.2 yu e n,ne,nf,d⟩
theorem Inv.un(I:Inv X aL σ H s)(u:Un X.fs [] H H' s.heap h')(bz:gy X.prog X.w H' h'):Inv X aL σ H' { s with heap:=h',toks:=t' }:=by
 obtain⟨m,⟨o,es,ep,ho,r⟩,_⟩:=id I.loc;obtain⟨sl,hL⟩:=u.any ho I.free (by simp);exact I.step (g':=s.gens) (d':=s.drawn) (ch:=[]) (λ_ z=>nomatch z) (λb o _ hb _ e n=>u.keep b o e n hb (by simp)) (λb o _ hb _ e n=>u.slot b o e n hb (by simp)) (λb o _ e n=>u.free b o e n (by simp)) (λb o _ e=>u.there b o e (by simp)) u.p6 u.oh u.o7 (λm' hm=>by
  obtain⟨o',es',Bv,uQ,r'⟩:=hm;rw[ho]at uQ;cases uQ;exact⟨_,es',Bv,hL,r'⟩) bz I.bare
theorem Inv.call{g':Array GenState}{d':Drawn}(I:Inv X aL σ H s)(u:Un (l4 X.stack) ch H H' s.heap h')(bz:gy X.prog X.w H' h')(hg:AllBare g')
  (p7:∀b∈ch,(b∈X.ex∨X.s₀.heap.objs.size≤b)∧b≠X.env.locals∧(∀x c,X.env.cells.lookup x=some c→c≠b)∧∀p∈X.pn++aL,p.1≠b) :
  Inv X aL σ H' { s with heap:=h',gens:=g',drawn:=d',toks:=t' }:=by
 obtain⟨m,⟨o,es,ep,ho,r⟩,_⟩:=id I.loc;obtain⟨sl,hL⟩:=u.any ho I.free λz=>(p7 _ z).2.1 rfl;exact I.step (ch:=ch) p7 (λb o hL hb hc e n=>u.keep b o e n (λz=>(dX.mp (I.E2 b z)).elim hL hb) hc) (λb o _ _ hc e n=>u.any e n hc) (λb o hc e n=>u.free b o e n hc) (λb o hc e=>u.there b o e hc) u.p6 u.oh u.o7 (λm' hm=>by
  obtain⟨o',es',Bv,uQ,r'⟩:=hm;rw[ho]at uQ;cases uQ;exact⟨_,es',Bv,hL,r'⟩) bz hg
theorem Inv.turned{it:Addr}(I:Inv X aL σ H s)(k:∀b o,b≠it→s.heap.get? b=some o→h'.get? b=some o)(hn:H it=none)(hL:it≠X.env.locals)
  (h1:it∈X.ex∨X.s₀.heap.objs.size≤it) (h2:∀x c,X.env.cells.lookup x=some c→c≠it) (h3:∀p∈X.pn++aL,p.1≠it):Inv X aL σ H { s with heap:=h',toks:=t' }:=by
 have yv:∀b u,H b=some u→b≠it:=λb u e z=>by rw[z,hn]at e;cases e
 refine I.step (g':=s.gens) (d':=s.drawn) (ch:=[it]) (λb hb=>?_) (λb o _ _ hc e _=>k b o (λz=>hc (by simp[z])) e) (λb o _ _ hc e _=>⟨o.slots,k b o (λz=>hc (by simp[z])) e⟩) (λ_ _ _ _ n=>n)
  (λb o hc e=>⟨o,k b o (λz=>hc (by simp[z])) e⟩) (λ_ _ e=>e) (λ_ _ _ e=>e) (λb ps e=>⟨#[],by rw[e];simp⟩) (λm hm=>?_) (λb u e=>?_) I.bare
 ·have e:b=it:=by simpa using hb
  subst e;exact⟨h1,hL,h2,h3⟩
 ·obtain⟨o,es,ep,ho,r⟩:=hm;exact⟨o,es,ep,k _ o (Ne.symm hL) ho,r⟩
 ·refine(I.bz b u e).pZ (λc v hc q=>k c v ?_ q) (λ_ q=>q) λ_ _ q=>q;rcases hc with z|z
  ·rw[z];exact yv b u e
  ·exact yv c _ z
theorem Inv.tok(I:Inv X aL σ H s)(t:Nat):Inv X aL σ H { s with toks:=t }:=I.un (h':=s.heap) (t':=t) Un.refl I.bz
theorem Inv.kept{t':Nat}(I:Inv X aL σ H s)(k:∀b u,s.heap.get? b=some u→h'.get? b=some u):Inv X aL σ H { s with heap:=h',toks:=t' }:=I.un (Un.kept k) (I.bz.kept k)
theorem Inv.laid{a:Addr}{o:HO}{t':Nat}(I:Inv X aL σ H s)(k:∀b u,s.heap.get? b=some u→h'.get? b=some u)(hp:s.heap.objs.size≤a)(new:gv X.prog X.w (upd H a o) h' a o) :
  Inv X aL σ (upd H a o) { s with heap:=h',toks:=t' }:=I.un (Un.laid k hp (I.bz.fresh hp)) (I.bz.laid k hp new)
theorem Inv.write{x e:Addr}{o:HO}{t':Nat}(I:Inv X aL σ H s)(mu:ym (H x))(he:e=x∨H e=some (.own x))(k:∀b u,b≠e→s.heap.get? b=some u→h'.get? b=some u)(wk:∃u,h'.get? e=some u)
  (new:gv X.prog X.w (upd H x o) h' x o):Inv X aL σ (upd H x o) { s with heap:=h',toks:=t' }:=I.un (Un.write mu he k wk) (I.bz.write mu he k wk new)
theorem Inv.By{Lb:List (Addr×Obj)}(I:Inv X aL σ H s)(h:∀p∈Lb,s.heap.get? p.1=some p.2∧H p.1=none∧p.1≠X.env.locals∧p.1 ∉ X.fs∧∀v,p.2.data≠.cell v):Inv X Lb σ H s:=
 ⟨I.ok,I.os,I.bare,I.base,I.loc,I.cell,I.free,I.ng,λp hp=>(dq.mp hp).elim (λz=>I.pin p (e7 _ z)) (h p),I.bz,I.len⟩
theorem Lc{N:List Str}(hN:N.Nodup){j:Nat}(a:N[i]?=some x)(b:N[j]?=some x):i=j:=by
 obtain⟨h1,e1⟩:=dH.mp a;obtain⟨h2,e2⟩:=dH.mp b;exact(List.getElem_inj hN).mp (e1.trans e2.symm)
theorem Ld(I:Inv X aL σ H s)(hN:X.N.Nodup)(hi:X.N[i]?=some x)(hx:Loc X.env.scope x)(r:RelV v u)
  (h:∀s',Inv X aL (σ.set i (some v)) H s'→(∃a,Heap.SameBut a s.heap s'.heap∧(a=X.env.locals∨X.env.cells.lookup x=some a))→Q () s') (hf:X.fn x=true∨X.env.scope.names.lookup x=some .local:=by first|exact .inl rfl|exact .inr rfl|assumption):wpAny M A (storeName X.env x u) Q E s:=by
 obtain⟨m,hn,hl⟩:=id I.loc;have Us:(X.env.scope.kind == .class||(X.env.scope.kind == .module&&X.env.locals != X.env.globals))=false:=by rw[I.ok.kind];rfl
 have Le:i<σ.length:=by rw[I.len];exact(dH.mp hi).1
 have uP:=I.uP;have Lf:∀{a:Addr}{h':Heap},(∃o,s.heap.get? a=some o∧H a=none)→Heap.SameBut a s.heap h'→gy X.prog X.w H h':=λ{a h'} ha hs b ob e=>by
  obtain⟨_,_,Lg⟩:=ha;refine(I.bz b ob e).pZ (λc w' hc q=>(hs.2 c ?_).trans q) (λ_ q=>q) λ_ _ q=>q;rintro rfl;rcases hc with rfl|hc
  ·rw[Lg]at e;cases e
  ·rw[Lg]at hc;cases hc
 rcases hx with hk|hk
 ·refine wpAny_storeName_local hk hn (λh' Ut hs=>?_) Us;obtain⟨oL,_,_,Uu,_⟩:=id hn;refine h _ ⟨I.ok,I.os,I.bare,⟨λb o e n hb hx=>?_,λb o e n hb hx=>?_,I.base.free,λb o e hx=>?_,I.base.p6,I.base.oh,I.base.o7⟩,⟨_,Ut,λj y v' e1 e2 e3=>?_⟩,λy c e=>?_,I.free,I.ng,λp hp=>?_,Lf ⟨oL,Uu,I.free⟩ hs,by simpa using I.len⟩ ⟨_,hs,.inl rfl⟩
  ·exact(hs.2 b (fu (js (dB e) I.ok.above))).trans (I.base.keep b o e n hb hx)
  ·obtain⟨sl,e1⟩:=I.base.slot b o e n hb hx;exact⟨sl,(hs.2 b (fu (js (dB e) I.ok.above))).trans e1⟩
  ·obtain⟨o',e1⟩:=I.base.there b o e hx;exact⟨o',(hs.2 b (fu (js (dB e) I.ok.above))).trans e1⟩
  ·by_cases hj:j=i
   ·subst hj;rw[hi]at e1;cases e1;rw[List.getElem?_set_self Le]at e2;cases e2;exact⟨u,r,.inl ⟨hk,by simp⟩⟩
   ·rw[List.getElem?_set_ne (Ne.symm hj)]at e2;obtain⟨u',r',q⟩:=hl j y v' e1 e2 e3;refine⟨u',r',?_⟩;rcases q with⟨k,e⟩|⟨k,c,e,z⟩
    ·refine .inl ⟨k,?_⟩
     have:y≠x:=λe=>hj (Lc hN e1 (e▸hi))
     simp[this,e]
    ·exact .inr ⟨k,c,e,z.sameBut hs (uP y c e)⟩
  ·obtain⟨w',z⟩:=I.cell y c e;exact⟨w',z.sameBut hs (uP y c e)⟩
  ·obtain⟨e,n,ne,nf,d⟩:=I.pin p hp;exact⟨(hs.2 p.1 ne).trans e,n,ne,nf,d⟩
 ·have yw:X.fn x=true:=by
   rcases hf with z|z
   ·exact z
   ·rw[z]at hk;cases hk
  obtain⟨c,hc⟩:=I.ok.has x (.inl hk);obtain⟨w',z⟩:=I.cell x c hc;refine wpAny_storeName_cell I.ok.kind hk hc z (λh' i5 hs=>?_);obtain⟨oc,Lh,Uv⟩:=id z;refine h { s with heap:=h' } ⟨I.ok,I.os,I.bare,⟨λb o e n hb hx=>?_,λb o e n hb hx=>?_,I.base.free,λb o e hx=>?_,I.base.p6,I.base.oh,I.base.o7⟩,⟨m,hn.sameBut hs (Ne.symm (uP x c hc)),λj y v' e1 e2 e3=>?_⟩,λy c' e=>?_,I.free,I.ng,λp hp=>?_,Lf ⟨oc,Lh,I.ng x c hc⟩ hs,by simpa using I.len⟩ ⟨c,hs,.inr hc⟩
  ·exact(hs.2 b (fu (js (dB e) (I.ok.yo x c yw hc)))).trans (I.base.keep b o e n hb hx)
  ·obtain⟨sl,e1⟩:=I.base.slot b o e n hb hx;exact⟨sl,(hs.2 b (fu (js (dB e) (I.ok.yo x c yw hc)))).trans e1⟩
  ·obtain⟨o',e1⟩:=I.base.there b o e hx;exact⟨o',(hs.2 b (fu (js (dB e) (I.ok.yo x c yw hc)))).trans e1⟩
  ·by_cases hj:j=i
   ·subst hj;rw[hi]at e1;cases e1;rw[List.getElem?_set_self Le]at e2;cases e2;exact⟨u,r,.inr ⟨.inl hk,c,hc,i5⟩⟩
   ·rw[List.getElem?_set_ne (Ne.symm hj)]at e2;obtain⟨u',r',q⟩:=hl j y v' e1 e2 e3;refine⟨u',r',?_⟩;rcases q with q|⟨k,c',e,z'⟩
    ·exact .inl q
    ·refine .inr ⟨k,c',e,z'.sameBut hs ?_⟩;rintro rfl;exact hj (Lc hN e1 (I.ok.inj _ _ _ e hc▸hi))
  ·by_cases Bz:c'=c
   ·subst Bz;exact⟨_,i5⟩
   ·obtain⟨w2,z2⟩:=I.cell y c' e;exact⟨w2,z2.sameBut hs Bz⟩
  ·obtain⟨e,n,ne,nf,d⟩:=I.pin p hp;refine⟨(hs.2 p.1 ?_).trans e,n,ne,nf,d⟩;intro q;rw[q,Lh]at e;have q':oc=p.2:=dZ e;exact d w' (by rw[← q'];exact Uv)
theorem Li(I:Inv X aL σ H s)(hN:X.N.Nodup)(hi:X.N[i]?=some x)(hx:Loc X.env.scope x)(r:RelV v u)
  (h:∀s',Inv X aL (σ.set i (some v)) H s'→Q () s') (hf:X.fn x=true∨X.env.scope.names.lookup x=some .local:=by first|exact .inl rfl|exact .inr rfl|assumption):wpAny M A (storeName X.env x u) Q E s:=
 Ld I hN hi hx r (λs' I' _=>h s' I') hf
theorem Inv.Uw{s':Shared}(I:Inv X aL σ H s)(ho:s'.os=s.os)(u:Un (l4 X.stack) ch H H' s.heap s'.heap)(bz:gy X.prog X.w H' s'.heap)(hg:AllBare s'.gens)
  (p7:∀b∈ch,(b∈X.ex∨X.s₀.heap.objs.size≤b)∧b≠X.env.locals∧(∀x c,X.env.cells.lookup x=some c→c≠b)∧∀p∈X.pn++aL,p.1≠b):Inv X aL σ H' s':=by
 obtain⟨h',g',d',t',o'⟩:=s';have e:o'=s.os:=ho;subst e;exact I.call (g':=g') (t':=t') (d':=d') u bz hg p7
end
abbrev XK:=Value→Option Addr→Hp→Prop
abbrev St:=List (Option V)
abbrev VK:=V→Hp→Prop
abbrev TE:=St→Hp→VK→Prop
abbrev TT:=St→Hp→(Bool→Hp→Prop)→Prop
abbrev TA:=St→Hp→(List V→Hp→Prop)→Prop
structure Ends where
 nx:St→Hp→Prop
 rt:VK
 bk:St→Hp→Prop:=λ_ _=>False
 ct:St→Hp→Prop:=λ_ _=>False
abbrev TS:=Ends→St→Hp→Prop
def EP(X:Cx)(aL:List (Addr×Obj))(σ:St)(Q:VK)(u:Value)(s':Shared):Prop:=∃v H',Inv X aL σ H' s'∧RelV v u∧Q v H'
def TP(X:Cx)(aL:List (Addr×Obj))(σ:St)(Q:Bool→Hp→Prop)(b:Bool)(s':Shared):Prop:=∃H',Inv X aL σ H' s'∧Q b H'
def AP(X:Cx)(aL:List (Addr×Obj))(σ:St)(Q:List V→Hp→Prop)(us:List Value)(s':Shared):Prop:=∃vs H',Inv X aL σ H' s'∧Vals vs us∧Q vs H'
def SP(X:Cx)(aL:List (Addr×Obj))(D:Ends)(f:Flow)(s':Shared):Prop:=
 match f with
 | .next=>∃σ' H',Inv X aL σ' H' s'∧D.nx σ' H'
 | .brk=>∃σ' H',Inv X aL σ' H' s'∧D.bk σ' H'
 | .cont=>∃σ' H',Inv X aL σ' H' s'∧D.ct σ' H'
 | .ret u=>∃v σ' H',Inv X aL σ' H' s'∧RelV v u∧D.rt v H'
def PE(X:Cx)(e:Expr)(t:TE):Prop:=
 ∀(aL:List (Addr×Obj))(s:Shared)(σ:St)(H:Hp)(Q:VK),Inv X aL σ H s→t σ H Q→wpAny (model X.prog X.w) X.A (eval e X.env) (EP X aL σ Q) X.xe s
def PT(X:Cx)(e:Expr)(t:TT):Prop:=
 ∀(aL:List (Addr×Obj))(s:Shared)(σ:St)(H:Hp)(Q:Bool→Hp→Prop),Inv X aL σ H s→t σ H Q→wpAny (model X.prog X.w) X.A (isTrue e X.env (eval e X.env)) (TP X aL σ Q) X.xe s
def PW(X:Cx)(e:Expr)(t:TT):Prop:=
 ∀(uR:Sem Value)(aL:List (Addr×Obj))(s:Shared)(σ:St)(H:Hp)(Q:Bool→Hp→Prop),Inv X aL σ H s→t σ H Q→wpAny (model X.prog X.w) X.A (isTrue e X.env uR) (TP X aL σ Q) X.xe s
theorem PW.pt{t:TT}(h:PW X e t):PT X e t:=h _
def PA(X:Cx)(es:List Expr)(t:TA):Prop:=
 ∀(pos:Pos)(aL:List (Addr×Obj))(s:Shared)(σ:St)(H:Hp)(Q:List V→Hp→Prop),Inv X aL σ H s→t σ H Q→wpAny (model X.prog X.w) X.A (spliced (backTo pos (starEach es X.env))) (AP X aL σ Q) X.xe s
def PS(X:Cx)(st:Stmt)(t:TS):Prop:=
 ∀(aL:List (Addr×Obj))(s:Shared)(σ:St)(H:Hp)(D:Ends),Inv X aL σ H s→t D σ H→wpAny (model X.prog X.w) X.A (exec st X.env) (SP X aL D) X.xe s
def kg(X:Cx)(st:List Stmt)(t:TS):Prop:=
 ∀(aL:List (Addr×Obj))(s:Shared)(σ:St)(H:Hp)(D:Ends),Inv X aL σ H s→t D σ H→wpAny (model X.prog X.w) X.A (execs st X.env) (SP X aL D) X.xe s
theorem bh{α:Type}{t:Sem α}{Q Q':α→Shared→Prop}(h:wpAny M A t Q E s)(hQ:∀a s,Q a s→Q' a s):wpAny M A t Q' E s:=ah h hQ λ_ _ x=>x
section
variable{X:Cx}
theorem bin{a b:Expr}{ta tb:TE}(ha:PE X a ta)(hb:PE X b tb){R:V→V→Hp→Prop}(I:Inv X aL σ H s)(h:ta σ H λx H1=>tb σ H1 λy H2=>R x y H2)
  {α:Type} {Q:α→Shared→Prop} {f:Value→Value→Sem α}
  (hf:∀v u s2 x y H2,Inv X aL σ H2 s2→RelV x v→RelV y u→R x y H2→wpAny (model X.prog X.w) X.A (f v u) Q X.xe s2) :
  wpAny (model X.prog X.w) X.A (eval a X.env) (λv s₁=>wpAny (model X.prog X.w) X.A (eval b X.env) (λu s₂=>wpAny (model X.prog X.w) X.A (f v u) Q X.xe s₂) X.xe s₁) X.xe s:=by
 refine bh (ha aL s σ H _ I h) λv s1 ⟨x,H1,I1,r1,q1⟩=>?_;refine bh (hb aL s1 σ H1 _ I1 q1) λu s2 ⟨y,H2,I2,r2,q2⟩=>?_;exact hf v u s2 x y H2 I2 r1 r2 q2
def aX(i:Nat):TE:=λσ H Q=>∃v,σ[i]?=some (some v)∧Q v H
def tC(v:V):TE:=λ_ H Q=>Q v H
theorem Lj{pos:Pos}(hN:X.N[i]?=some x)(hv:yn X.env.scope x)(hd:(x==("__debug__":Str))=false:=by decide)(i6:(x==("__classdict__":Str))=false:=by decide):PE X (.Name x pos) (aX i):=by
 intro aL s σ H Q I h;obtain⟨v,e,h⟩:=h;obtain⟨m,hn,hl⟩:=I.loc;obtain⟨u,r,l⟩:=hl i x v hN e hv;have fin:EP X aL σ Q u s:=⟨v,H,I,r,h⟩;rcases l with⟨hk,hm⟩|⟨hk,c,hc,wq⟩
 ·exact wpAny_Name (wpAny_loadName_local I.ok.kind hk hn hm fin) hd
 ·rcases hk with hk|hk
  ·exact wpAny_Name (wpAny_loadName_cell I.ok.kind hk hc wq fin) hd
  ·exact wpAny_Name (wpAny_loadName_free I.ok.kind hk hc wq fin i6) hd
theorem aW{i j pos}:PE X (.Constant (.int i) j pos) (tC (.int i)):=λ_ _ _ H _ I h=>wpAny_Constant_int ⟨.int i,H,I.tok _,⟨_,rfl⟩,h⟩
theorem yy{b j pos}:PE X (.Constant (.bool b) j pos) (tC (.bl b)):=λ_ _ _ H _ I h=>Constant_bool ⟨.bl b,H,I,rfl,h⟩
theorem Ux{j pos}:PE X (.Constant .none j pos) (tC .da):=λ_ _ _ H _ I h=>Constant_none ⟨.da,H,I,rfl,h⟩
theorem dM{x j pos}:PE X (.Constant (.str x) j pos) (tC (.str x)):=λ_ _ _ H _ I h=>Calls.Constant_str ⟨.str x,H,I.tok _,⟨_,rfl⟩,h⟩
def Gl(X:Cx)(x:Str):Prop:=X.env.kindOf x=some .globalImplicit
theorem E4{pos:Pos}{Q:QV}(I:Inv X aL σ H s)(hg:Gl X x)(hm:X.mg x=some u)(h:Q u s)
  (hd:(x==("__debug__":Str))=false:=by decide):wpAny (model X.prog X.w) X.A (eval (.Name x pos) X.env) Q E s:=
 Calls.Name_function_global I.ok.kind hg (Calls.loadGlobal_global (by rw[I.ok.glob];exact I.mod.glob.keeps I.bk) hm h) hd
theorem uS{pos:Pos}{Q:QV}(I:Inv X aL σ H s)(hg:Gl X x)(hm:X.mg x=none)(hv:bootBuiltins x=some u)(h:Q u s)
  (hn:x ≠ "__name__":=by decide) (hd:(x==("__debug__":Str))=false:=by decide):wpAny (model X.prog X.w) X.A (eval (.Name x pos) X.env) Q E s:=by
 obtain⟨mb,h1,h2⟩:=I.mod.blt;exact Calls.Name_function_global I.ok.kind hg (Calls.loadGlobal_builtin (by rw[I.ok.glob];exact I.mod.glob.keeps I.bk) hm (by rw[I.ok.blt];exact h1.keeps I.bk) ((h2 x hn).trans hv) h) hd
theorem yz{pos:Pos}(hg:Gl X x)(hm:X.mg x=some u)(r:RelV v u)(hd:(x==("__debug__":Str))=false:=by decide):PE X (.Name x pos) (tC v):=
 λ_ _ _ H _ I h=>E4 I hg hm ⟨v,H,I,r,h⟩ hd
theorem Uy{pos:Pos}(hg:Gl X x)(hm:X.mg x=none)(hv:bootBuiltins x=some u)(r:RelV v u)(hn:x ≠ "__name__":=by decide)(hd:(x==("__debug__":Str))=false:=by decide):PE X (.Name x pos) (tC v):=
 λ_ _ _ H _ I h=>uS I hg hm hv ⟨v,H,I,r,h⟩ hn hd
def Uz(ta tb:TE)(k:Int→Int→Hp→Prop):St→Hp→Prop:=λσ H=>ta σ H λx H1=>tb σ H1 λy H2=>∃i j,x=.int i∧y=.int j∧k i j H2
variable{a b:Expr}{ta tb:TE}{pos:Pos}
def PC(X:Cx)(op:CmpOp)(a b:Expr)(t:TE):Prop:=
 ∀(aL:List (Addr×Obj))(s:Shared)(σ:St)(H:Hp)(Q:VK),Inv X aL σ H s→t σ H Q→
  wpAny (model X.prog X.w) X.A (eval a X.env) (λv s₁=>wpAny (model X.prog X.w) X.A (eval b X.env) (λu s₂=>wpAny (model X.prog X.w) X.A (compareOp op v u) (EP X aL σ Q) X.xe s₂) X.xe s₁) X.xe s
theorem UA(b:Expr)(h:op≠.In)(h2:op≠.NotIn):behindInMarks op b=false:=by
 have e1:(op==CmpOp.In)=false:=by cases op<;>first|rfl|exact absurd rfl h
 have e2:(op==CmpOp.NotIn)=false:=by cases op<;>first|rfl|exact absurd rfl h2
 cases b<;>simp[behindInMarks,e1,e2]
def Lk(p:Int→Int→Bool)(ta tb:TE):TE:=λσ H Q=>Uz ta tb (λi j H2=>Q (.bl (p i j)) H2) σ H
abbrev UB:TE→TE→TE:=Lk λi j=>decide (i≤j)
theorem UC{p:Int→Int→Bool}(ha:PE X a ta)(hb:PE X b tb)
  (rule:∀(i j:Int)(t u:Tok)(Q:QV)(s:Shared),Q (.bool (p i j)) s→wpAny (model X.prog X.w) X.A (compareOp op (.int i t) (.int j u)) Q X.xe s):PC X op a b (Lk p ta tb):=by
 intro aL s σ H Q I h;refine bin ha hb I h λv u s2 x y H2 I2 rx ry q=>?_;obtain⟨i,j,rfl,rfl,q⟩:=q;obtain⟨t,rfl⟩:=rx;obtain⟨t',rfl⟩:=ry;exact rule i j t t' _ s2 ⟨.bl _,H2,I2,rfl,q⟩
theorem Ll(ha:PE X a ta)(hb:PE X b tb):PC X .LtE a b (UB ta tb):=UC ha hb λ_ _ _ _ _ _ h=>le_int h
def tB(t:TE):TT:=λσ H Q=>t σ H λx H1=>∃c,x=.bl c∧Q c H1
theorem yB(h:PC X op a b t)(h1:behindInMarks op b=false:=by first|exact UA _ (by decide) (by decide)|rfl):PT X (.Compare a [op] [b] pos) (tB t):=by
 intro aL s σ H Q I hw;refine wpAny_isTrue_Compare1 (bh (h aL s σ H _ I hw) λv s1 h1=>bh h1 λu s2 h2=>bh h2 λc s3 ⟨x,H1,I1,r1,q1⟩=>?_) h1;obtain⟨d,rfl,q⟩:=q1;cases r1;exact ai ⟨H1,I1,q⟩
theorem p8(h:PE X e t)(he:∀uR,isTrue e X.env uR=(do let v ← uR;standAt e.pos;holding [v] (truthy v)):=by intro _;rfl):PT X e (tB t):=by
 intro aL s σ H Q I hw;refine isTrue_plain (bh (h aL s σ H _ I hw) λv s1 ⟨x,H1,I1,r1,q1⟩=>?_) (he _);obtain⟨d,rfl,q⟩:=q1;cases r1;exact ai ⟨H1,I1,q⟩
variable{tA BA:TT}{eh:List Expr}
def o9(t u:TT):TT:=λσ H Q=>t σ H λc H1=>if c=true then u σ H1 Q else Q false H1
def pb(t u:TT):TT:=λσ H Q=>t σ H λc H1=>if c=true then Q true H1 else u σ H1 Q
def BC(t:TT):TT:=λσ H Q=>t σ H λc H1=>Q (!c) H1
theorem uT(ha:PT X a tA):PW X (.BoolOp .And [a] pos) tA:=by
 intro wh aL s σ H Q I h;refine isTrue_and (bh (ha aL s σ H Q I h) λc s1 e=>?_);cases c with
 |true=>exact isTrue_and_nil e
 |false=>exact e
theorem wt(ha:PT X a tA):PW X (.BoolOp .Or [a] pos) tA:=by
 intro wh aL s σ H Q I h;refine isTrue_or (bh (ha aL s σ H Q I h) λc s1 e=>?_);cases c with
 |false=>exact isTrue_or_nil e
 |true=>exact e
theorem om(ha:PT X a tA)(hb:PW X (.BoolOp .And (b::eh) pos) BA):PW X (.BoolOp .And (a::b::eh) pos) (o9 tA BA):=by
 intro wh aL s σ H Q I h;refine isTrue_and (bh (ha aL s σ H _ I h) λc s1 ⟨H1,I1,q1⟩=>?_);cases c with
 |true=>exact hb wh aL s1 σ H1 Q I1 q1
 |false=>exact⟨H1,I1,q1⟩
theorem wu(ha:PT X a tA)(hb:PW X (.BoolOp .Or (b::eh) pos) BA):PW X (.BoolOp .Or (a::b::eh) pos) (pb tA BA):=by
 intro wh aL s σ H Q I h;refine isTrue_or (bh (ha aL s σ H _ I h) λc s1 ⟨H1,I1,q1⟩=>?_);cases c with
 |true=>exact⟨H1,I1,q1⟩
 |false=>exact hb wh aL s1 σ H1 Q I1 q1
theorem uU(ha:PT X a tA):PT X (.UnaryOp .Not a pos) (BC tA):=by
 intro aL s σ H Q I h;exact isTrue_not (ha aL s σ H (λc H1=>Q (!c) H1) I h)
def UD(ta tb:TE):TE:=λσ H Q=>ta σ H λx H1=>∃c,x=.bl c∧if c=true then tb σ H1 Q else Q (.bl false) H1
def UE(ta:TE):TE:=λσ H Q=>ta σ H λx H1=>∃c,x=.bl c∧Q (.bl (!c)) H1
theorem UG{op}(h:PE X a t):PE X (.BoolOp op [a] pos) t:=λaL s σ H Q I hw=>BoolOp_one (h aL s σ H Q I hw)
theorem E5(ha:PE X a ta)(hb:PE X (.BoolOp .And (b::eh) pos) tb):PE X (.BoolOp .And (a::b::eh) pos) (UD ta tb):=by
 intro aL s σ H Q I h;refine BoolOp_and (bh (ha aL s σ H _ I h) λv s1 ⟨x,H1,I1,r1,q1⟩=>?_);obtain⟨c,rfl,q1⟩:=q1;cases r1;refine ai ?_;cases c with
 |true=>exact hb aL s1 σ H1 Q I1 q1
 |false=>exact⟨.bl false,H1,I1,rfl,q1⟩
theorem UH(ha:PE X a ta):PE X (.UnaryOp .Not a pos) (UE ta):=by
 intro aL s σ H Q I h;refine UnaryOp_ (bh (ha aL s σ H _ I h) λv s1 ⟨x,H1,I1,r1,q1⟩=>?_);obtain⟨c,rfl,q1⟩:=q1;cases r1;exact not_of (ai ⟨.bl (!c),H1,I1,rfl,q1⟩)
def UI(t:TT)(ta tb:TE):TE:=λσ H Q=>t σ H λc H1=>if c=true then ta σ H1 Q else tb σ H1 Q
theorem Lm{c:Expr}(hc:PT X c tA)(ha:PE X a ta)(hb:PE X b tb):PE X (.IfExp c a b pos) (UI tA ta tb):=by
 intro aL s σ H Q I h;refine wpAny_IfExp (bh (hc aL s σ H _ I h) λd s1 ⟨H1,I1,q1⟩=>?_);cases d with
 |true=>exact ha aL s1 σ H1 Q I1 q1
 |false=>exact hb aL s1 σ H1 Q I1 q1
end
def dP(K:Frag)(H:Hp)(a:Addr)(xs:List V):Prop:=
 Rd H a (.lst xs) ∨
  ∃(o:Obj)(its:Array Value)(n:Nat),K.lookup a=some o∧o.cls=.type "list"∧o.dict=none∧o.data=.seq its n∧its.size≤sizeLine∧Vals xs its.toList
def bj(K:Frag)(H:Hp)(a:Addr)(xs:List V):Prop:=
 Rd H a (.tup xs) ∨
  ∃(o:Obj)(its:Array Value)(n:Nat),K.lookup a=some o∧o.cls=.type "tuple"∧o.data=.seq its n∧its.size≤sizeLine∧Vals xs its.toList
noncomputable def UJ:Value→Option V
 | .none=>some .da
 | .bool b=>some (.bl b)
 | .int i _=>some (.int i)
 | .str x _=>some (.str x)
 | .bytes b _=>some (.mZ b)
 | .float b _=>some (.wj b)
 | .ref a=>some (.ref a)
 | .type n=>some (.ty n)
 |_=>none
theorem RelV.abs{x:V}(r:RelV x u):UJ u=some x:=by
 cases x with
 |da=>cases r;rfl
 |bl _=>cases r;rfl
 |int _=>obtain⟨t,rfl⟩:=r;rfl
 |str _=>obtain⟨t,rfl⟩:=r;rfl
 |mZ _=>obtain⟨t,rfl⟩:=r;rfl
 |wj _=>obtain⟨t,rfl⟩:=r;rfl
 |ref _=>cases r;rfl
 |ty _=>cases r;rfl
theorem RelV.inj{x y:V}{u:Value}(r:RelV x u)(q:RelV y u):x=y:=dZ (r.abs.symm.trans q.abs)
theorem Vals.inj:∀{xs ys:List V}{us:List Value},Vals xs us→Vals ys us→xs=ys
 |_,_,_,.nil,.nil=>rfl
 |_,_,_,.cons r t,.cons r' t'=>by rw[r.inj r',Vals.inj t t']
section
variable{X:Cx}{aL:List (Addr×Obj)}{σ:St}{H:Hp}{s:Shared}{a:Addr}{xs ys:List V}
theorem dP.of{K:Frag}(h:H a=some (.lst xs)):dP K H a xs:=.inl (.inl h)
theorem bj.of{K:Frag}(h:H a=some (.tup xs)):bj K H a xs:=.inl (.inl h)
theorem Inv.list(I:Inv X aL σ H s)(h:dP X.K H a xs):∃its:List Value,Vals xs its∧PlainL s.heap a its.toArray∧xs.length≤sizeLine:=by
 rcases h with h|⟨o,its,n,hk,hc,hd,hs,hz,r⟩
 ·obtain⟨z,its,n,r,e⟩:=h.ok I.bz;exact⟨its,r,⟨_,n,e,rfl,rfl,rfl⟩,z⟩
 ·refine⟨its.toList,r,⟨o,n,I.ij a o hk,hc,hd,by simpa using hs⟩,?_⟩;have e:=r.length;simp only[yh]at e;lia
theorem Inv.tuple(I:Inv X aL σ H s)(h:bj X.K H a xs):∃its:List Value,Vals xs its∧IsTup s.heap a its.toArray∧xs.length≤sizeLine:=by
 rcases h with h|⟨o,its,n,hk,hc,hs,hz,r⟩
 ·obtain⟨z,its,r,p⟩:=h.ok I.bz;exact⟨its,r,p.tup,z⟩
 ·refine⟨its.toList,r,⟨o,I.ij a o hk,hc,n,by simpa using hs⟩,?_⟩;have e:=r.length;simp only[yh]at e;lia
theorem Inv.Ln(I:Inv X aL σ H s)(h:dP X.K H a xs)(h':dP X.K H a ys):xs=ys:=by
 obtain⟨its,r,⟨o,n,e,_,_,d⟩,_⟩:=I.list h;obtain⟨its',r',⟨o',n',e',_,_,d'⟩,_⟩:=I.list h';rw[e]at e';cases e';rw[d]at d';injection d' with d1 _
 have:its=its':=by simpa using aj Array.toList d1
 subst this;exact r.inj r'
theorem Inv.Lo(I:Inv X aL σ H s)(h:bj X.K H a xs)(h':bj X.K H a ys):xs=ys:=by
 obtain⟨its,r,⟨o,e,_,n,d⟩,_⟩:=I.tuple h;obtain⟨its',r',⟨o',e',_,n',d'⟩,_⟩:=I.tuple h';rw[e]at e';cases e';rw[d]at d';injection d' with d1 _
 have:its=its':=by simpa using aj Array.toList d1
 subst this;exact r.inj r'
end
noncomputable abbrev Cx.pd(X:Cx)(E:QV):Cx:={ X with xe:=E }
noncomputable abbrev Cx.l5(X:Cx):Cx:=X.pd λ_ _=>False
theorem Cx.Ok.pd{X:Cx}(ok:X.Ok)(E:QV):(X.pd E).Ok:=
 ⟨ok.mod,ok.kind,ok.glob,ok.blt,ok.above,ok.inj,ok.has,ok.yo,ok.hd,ok.frames,ok.Bt,ok.yq,ok.bs,ok.qT,ok.yr,ok.wo,ok.oj,ok.uO⟩
theorem Cx.Ok.qU(ok:(X.pd E).Ok):X.Ok:=
 ⟨ok.mod,ok.kind,ok.glob,ok.blt,ok.above,ok.inj,ok.has,ok.yo,ok.hd,ok.frames,ok.Bt,ok.yq,ok.bs,ok.qT,ok.yr,ok.wo,ok.oj,ok.uO⟩
section
variable{X:Cx}{aL:List (Addr×Obj)}{σ:St}{H:Hp}{s:Shared}{E:QV}
theorem Inv.pd(I:Inv X aL σ H s)(E:QV):Inv (X.pd E) aL σ H s:=⟨I.ok.pd E,I.os,I.bare,I.base,I.loc,I.cell,I.free,I.ng,I.pin,I.bz,I.len⟩
theorem Inv.qU(I:Inv (X.pd E) aL σ H s):Inv X aL σ H s:=⟨I.ok.qU,I.os,I.bare,I.base,I.loc,I.cell,I.free,I.ng,I.pin,I.bz,I.len⟩
theorem SP.qU{D:Ends}{f:Flow}{s':Shared}(h:SP (X.pd E) aL D f s'):SP X aL D f s':=by
 cases f with
 |next=>obtain⟨σ',H',I,q⟩:=h;exact⟨σ',H',I.qU,q⟩
 |brk=>obtain⟨σ',H',I,q⟩:=h;exact⟨σ',H',I.qU,q⟩
 |cont=>obtain⟨σ',H',I,q⟩:=h;exact⟨σ',H',I.qU,q⟩
 |ret u=>obtain⟨v,σ',H',I,r,q⟩:=h;exact⟨v,σ',H',I.qU,r,q⟩
theorem PE.l5{e:Expr}{t:TE}(h:PE X.l5 e t):PE X e t:=λaL s σ H Q I hw=>
 ah (h aL s σ H Q (I.pd _) hw) (λ_ _ ⟨v,H',I',r,q⟩=>⟨v,H',I'.qU,r,q⟩) λ_ _ z=>False.elim z
theorem kg.l5{st:List Stmt}{t:TS}(h:kg X.l5 st t):kg X st t:=λaL s σ H D I hw=>
 ah (h aL s σ H D (I.pd _) hw) (λ_ _ q=>q.qU) λ_ _ z=>False.elim z
end
section
variable{X:Cx}{st:Stmt}{eh:List Stmt}{t u:TS}{e:Expr}{te:TE}{pos:Pos}
def fh:TS:=λD σ H=>D.nx σ H
def cn(t u:TS):TS:=λD σ H=>t { D with nx:=u D } σ H
theorem eA:kg X [] fh:=λ_ _ σ H _ I h=>wpAny_execs_nil ⟨σ,H,I,h⟩
theorem bo(h1:PS X st t)(h2:kg X eh u):kg X (st::eh) (cn t u):=by
 intro aL s σ H D I h;refine wpAny_execs_cons (bh (h1 aL s σ H { D with nx:=u D } I h) λf s1 q=>?_);cases f with
 |next=>
  obtain⟨σ',H',I',q⟩:=q;exact h2 aL s1 σ' H' D I' q
 |ret v=>exact q
 |brk=>exact q
 |cont=>exact q
theorem bZ(h1:PS X st t):kg X [st] t:=by
 intro aL s σ H D I h;refine wpAny_execs_cons (bh (h1 aL s σ H D I h) λf s1 q=>?_);cases f with
 |next=>exact wpAny_execs_nil q
 |ret v=>exact q
 |brk=>exact q
 |cont=>exact q
def wx:TS:=λD σ H=>D.ct σ H
theorem E6:PS X (.Continue pos) wx:=λ_ _ σ H _ I h=>wpAny_Continue ⟨σ,H,I,h⟩
theorem Inv.quiet(I:Inv X aL σ H s):interactive X.env=false:=by simp[interactive,I.ok.kind]
def uV(te:TE):TS:=λD σ H=>te σ H λ_ H1=>D.nx σ H1
theorem nh(he:PE X e te)(hs:swapsWith e none pos.line X.env=pure false:=by rfl):PS X (.Expr e pos) (uV te):=by
 intro aL s σ H D I h;exact wpAny_Expr_any (bh (he aL s σ H _ I h) λv s1 ⟨x,H1,I1,r1,q1⟩=>⟨σ,H1,I1,q1⟩) I.quiet hs
def eB(te:TE):TS:=λD σ H=>te σ H D.rt
theorem cM(he:PE X e te):PS X (.Return (some e) pos) (eB te):=by
 intro aL s σ H D I h;exact wpAny_Return_some (bh (he aL s σ H _ I h) λv s1 ⟨x,H1,I1,r1,q1⟩=>⟨x,σ,H1,I1,r1,q1⟩)
def dF(c:TT)(t u:TS):TS:=λD σ H=>c σ H λb H1=>if b=true then t D σ H1 else u D σ H1
theorem dQ{c:Expr}{a b:List Stmt}{tc:TT}(hc:PT X c tc)(ha:kg X a t)(hb:kg X b u):PS X (.If c a b pos) (dF tc t u):=by
 intro aL s σ H D I h;refine wpAny_If (bh (hc aL s σ H _ I h) λd s1 ⟨H1,I1,q1⟩=>?_);cases d with
 |true=>exact ha aL s1 σ H1 D I1 q1
 |false=>exact hb aL s1 σ H1 D I1 q1
def Lp:TS:=λ_ _ _=>False
theorem UK:PS X st Lp:=λ_ _ _ _ _ _ h=>h.elim
theorem UL{UM:List Stmt}:kg X UM Lp:=λ_ _ _ _ _ _ h=>h.elim
end
abbrev TG:=V→St→Hp→(St→Hp→Prop)→Prop
abbrev p9:=List V→St→Hp→(St→Hp→Prop)→Prop
def PG(X:Cx)(target:Expr)(t:TG):Prop:=
 ∀(aL:List (Addr×Obj))(s:Shared)(σ:St)(H:Hp)(v:V)(u:Value)(Q:St→Hp→Prop),Inv X aL σ H s→RelV v u→t v σ H Q→
  wpAny (model X.prog X.w) X.A (assign target X.env u) (λ_ s'=>∃σ' H',Inv X aL σ' H' s'∧Q σ' H') X.xe s
def wy(X:Cx)(ts:List Expr)(t:p9):Prop:=
 ∀(aL:List (Addr×Obj))(s:Shared)(σ:St)(H:Hp)(vs:List V)(us:List Value)(Q:St→Hp→Prop),Inv X aL σ H s→Vals vs us→t vs σ H Q→
  wpAny (model X.prog X.w) X.A (assignInOrder ((assignEach ts X.env).map (·.2)) us) (λ_ s'=>∃σ' H',Inv X aL σ' H' s'∧Q σ' H') X.xe s
abbrev E7:=V→V→V→Hp→(Hp→Prop)→Prop
def Lq(X:Cx)(t:E7):Prop:=
 ∀(aL:List (Addr×Obj))(s:Shared)(σ:St)(H:Hp)(o i v:V)(ov iv u:Value)(Q:Hp→Prop),Inv X aL σ H s→RelV o ov→RelV i iv→RelV v u→t o i v H Q→
  wpAny (model X.prog X.w) X.A (setItem ov iv u) (λ_ s'=>∃H',Inv X aL σ H' s'∧Q H') X.xe s
section
variable{X:Cx}{pos:Pos}
def cm(i:Nat):TG:=λv σ H Q=>Q (σ.set i (some v)) H
theorem de(hN:X.N.Nodup)(hi:X.N[i]?=some x)(hx:Loc X.env.scope x)(hf:X.fn x=true∨X.env.scope.names.lookup x=some .local:=by first|exact .inl rfl|exact .inr rfl|assumption):PG X (.Name x pos) (cm i):=by
 intro aL s σ H v u Q I r h;exact wpAny_assign_Name (Li I hN hi hx r (λs' I'=>⟨_,H,I',h⟩) hf)
def sQ:p9:=λvs σ H Q=>vs=[]∧Q σ H
def jH(t:TG)(u:p9):p9:=λvs σ H Q=>∃v r,vs=v::r∧t v σ H λσ' H'=>u r σ' H' Q
theorem qa:wy X [] sQ:=by
 intro aL s σ H vs us Q I r h;obtain⟨e,h⟩:=h;subst e;cases r;exact assignInOrder_nil ⟨σ,H,I,h⟩
theorem iF{es:List Expr}{t:TG}{u:p9}(h1:PG X e t)(h2:wy X es u)
  (hs:(assignEach (e::es) X.env).map (·.2)=assign e X.env::(assignEach es X.env).map (·.2):=by rfl):wy X (e::es) (jH t u):=by
 intro aL s σ H vs us Q I r h;obtain⟨v,vr,e1,h⟩:=h;subst e1;cases r with
 |cons r rr=>
  rw[hs];refine assignInOrder_cons (bh (h1 aL s σ H _ _ _ I r h) λ_ s1 ⟨σ1,H1,I1,q1⟩=>?_);exact h2 aL s1 σ1 H1 _ _ Q I1 rr q1
def qV(K:Frag)(n:Nat)(t:p9):TG:=λv σ H Q=>∃a xs,v=.ref a∧bj K H a xs∧xs.length=n∧t xs σ H Q
theorem UN{es:List Expr}{k:Nat}{t:p9}(hc:X.calm=true)(h:wy X es t)
  (hn:(assignEach es X.env).length=n:=by rfl) (yC:(assignEach es X.env).findIdx? (·.1)=none:=by rfl):PG X (.Tuple es k pos) (qV X.K n t):=by
 intro aL s σ H v u Q I r hw;obtain⟨a,xs,e1,hq,hl,hw⟩:=hw;subst e1;cases r;obtain⟨its,rv,ht,hz⟩:=I.tuple hq;refine assign_Tuple_tuple (I.ok.hd hc) ht (by simp[hn,← hl,rv.length]) yC λh' hx=>?_;have I1:Inv X aL σ H { s with heap:=h' }:=I.kept (t':=s.toks) λb o e=>hx b o (fu (dB e)) e;exact h aL _ σ H xs _ Q I1 (by simpa using rv) hw
def UO(to ti:TE)(t:E7):TG:=λv σ H Q=>to σ H λo H1=>ti σ H1 λi H2=>t o i v H2 λH3=>Q σ H3
theorem E8{o i:Expr}{to ti:TE}{t:E7}(ho:PE X o to)(hi:PE X i ti)(hs:Lq X t)
  (ha:∀v,assign (.Subscript o i pos) X.env v=(do
   let ov ← holding [v] (eval o X.env)
   let iv ← holding [v,ov] (eval i X.env)
   standAt pos
   holding [v,ov,iv] (setItem ov iv v)
   release [v,ov,iv] []):=by intro _;rfl):PG X (.Subscript o i pos) (UO to ti t):=by
 intro aL s σ H v u Q I r h;rw[ha];refine ak (ao (bh (ho aL s σ H _ I h) λov s1 ⟨x,H1,I1,r1,q1⟩=>?_));refine ak (ao (bh (hi aL s1 σ H1 _ I1 q1) λiv s2 ⟨y,H2,I2,r2,q2⟩=>?_));refine ak (wpAny_standAt (ak (ao (bh (hs aL s2 σ H2 x y v ov iv u _ I2 r1 r2 r q2) λ_ s3 ⟨H3,I3,q3⟩=>?_))));exact wpAny_release ⟨σ,H3,I3,q3⟩
def cT(te:TE)(g:TG):TS:=λD σ H=>te σ H λx H1=>g x σ H1 D.nx
theorem sR{te:TE}(he:PE X e te)(hg:PG X tg g)(hs:swapsWithSole [tg] e pos.line X.env=pure false:=by rfl)(hw:swappedStores [tg] e X.env=pure none:=by rfl)
  (h1:(assignEach [tg] X.env).map (·.2)=[assign tg X.env]:=by rfl):PS X (.Assign [tg] e pos) (cT te g):=by
 intro aL s σ H D I h;refine wpAny_Assign_stores (bh (he aL s σ H _ I h) λv s1 ⟨x,H1,I1,r1,q1⟩=>?_) hs hw;rw[h1];exact bh (hg aL s1 σ H1 x v _ I1 r1 q1) λ_ s2 q=>q
theorem cy{te:TE}{oo:Pos}(hN:X.N.Nodup)(hi:X.N[i]?=some x)(hx:Loc X.env.scope x)(he:PE X e te)(hs:swapsWith e (some (.Name x oo)) pos.line X.env=pure false:=by rfl)(hf:X.fn x=true∨X.env.scope.names.lookup x=some .local:=by first|exact .inl rfl|exact .inr rfl|assumption) :
  PS X (.Assign [.Name x oo] e pos) (cT te (cm i)):=by
 intro aL s σ H D I h;refine wpAny_Assign_Name (bh (he aL s σ H _ I h) λv s1 ⟨y,H1,I1,r1,q1⟩=>?_) hs;exact Li I1 hN hi hx r1 (λs2 I2=>⟨_,H1,I2,q1⟩) hf
end
section
variable{X:Cx}{pos:Pos}
end
structure It where
 go:Nat→Hp→Prop
 pe:Nat→Hp→V→Hp→Prop
 stop:Nat→Hp→Prop
def jg(X:Cx)(aL:List (Addr×Obj))(H:Hp)(b:Addr):Prop:=
 H b=none∧b≠X.env.locals∧b ∉ X.fs∧(b∈X.ex∨X.s₀.heap.objs.size≤b)∧(∀x c,X.env.cells.lookup x=some c→c≠b)∧∀p∈X.pn++aL,p.1≠b
theorem Inv.l6{H':Hp}(I:Inv X aL σ H s)(hb:s.heap.objs.size≤b)(hn:H' b=none):jg X aL H' b:=by
 refine⟨hn,Nat.ne_of_gt (js I.lt hb),I.Ur hb,.inr (eS I.sz hb),λx c e z=>?_,λp hp z=>?_⟩
 ·obtain⟨v,q⟩:=I.cell x c e;exact absurd (js q.lt (by rw[z];exact hb)) (qO _)
 ·exact absurd (js (dB (I.pin p hp).1) (by rw[z];exact hb)) (qO _)
structure Turn(P:Program)(w:World)(K:Frag)(tg:Expr)(J:It)(fp:List Addr)(it:Addr)(tn:Nat→Heap→Prop):Prop where
 mem:it∈fp
 obj:∀i h,tn i h→∀b∈fp,∃o,h.get? b=some o∧∀v,o.data≠.cell v
 keep:∀i h h',tn i h→(∀b∈fp,∀o,h.get? b=some o→h'.get? b=some o)→tn i h'
 item:∀(X:Cx),X.prog=P→X.w=w→X.K=K→X.calm=true→∀(i:Nat)(aL:List (Addr×Obj))(s:Shared)(σ:St)(H:Hp)(E:QV),Inv X aL σ H s→(∀b∈fp,jg X aL H b)→tn i s.heap→J.go i H→
  wpAny (model P w) X.A (pyNext (.ref it)) (λr s1=>∃u,r=some u∧
   wpAny (model P w) X.A (letOwnedTupleGo tg (.ref it) u) (λ_ s2=>∃x H',Inv X aL σ H' s2∧RelV x u∧J.pe i H x H'∧tn (i+1) s2.heap∧∀b∈fp,H' b=none) E s1) E s
 done:∀(X:Cx),X.prog=P→X.w=w→X.K=K→X.calm=true→∀(i:Nat)(aL:List (Addr×Obj))(s:Shared)(σ:St)(H:Hp)(E:QV),Inv X aL σ H s→(∀b∈fp,jg X aL H b)→tn i s.heap→J.stop i H→
  wpAny (model P w) X.A (pyNext (.ref it)) (λr s1=>r=none∧Inv X aL σ H s1) E s
 self:∀(A:Around)(i:Nat)(s:Shared)(Q:QV)(E:QV),tn i s.heap→Q (.ref it) s→wpAny (model P w) A (pyIter (.ref it)) Q E s
abbrev TI:=St→Hp→(It→Hp→Prop)→Prop
def E9(X:Cx)(aL:List (Addr×Obj))(σ:St)(tg:Expr)(R:It→Hp→Prop)(BD:Value)(s2:Shared):Prop:=
 ∃(it:Addr)(fp:List Addr)(tn:Nat→Heap→Prop)(J:It)(H':Hp),BD=.ref it∧Inv X aL σ H' s2∧Turn X.prog X.w X.K tg J fp it tn∧tn 0 s2.heap∧(∀b∈fp,jg X aL H' b)∧R J H'
def PI(X:Cx)(tg iter:Expr)(wi:TI):Prop:=
 ∀(aL:List (Addr×Obj))(s:Shared)(σ:St)(H:Hp)(R:It→Hp→Prop),Inv X aL σ H s→wi σ H R→
  wpAny (model X.prog X.w) X.A (eval iter X.env) (λv s1=>wpAny (model X.prog X.w) X.A (pyIter v) (E9 X aL σ tg R) X.xe s1) X.xe s
theorem yD{it:Addr}{o:Obj}{n:String}{vs:Array Value}(ho:s.heap.get? it=some o)(hc:o.cls=.type n)(hd:o.data=.fields vs)
  (hn:["enumerate","zip","dict_itemiterator","dict_reverseitemiterator","odict_iterator","itertools.zip_longest","itertools.pairwise"].contains n=false) (hQ:Q () s):wpAny M A (letOwnedTupleGo tg (.ref it) u) Q E s:=by
 unfold letOwnedTupleGo;cases tg<;>first
  |exact aq hQ
  |(cases u<;>first
    |exact aq hQ
    |(refine ak (wpAny_load ho ?_);rw[hc,hd];show wpAny M A (if(["enumerate","zip","dict_itemiterator","dict_reverseitemiterator","odict_iterator","itertools.zip_longest","itertools.pairwise"].contains n&&vs[0]? == some (rawInt _))=true then _ else _) Q E s;rw[ag (by intro h;rw[hn,Bool.false_and]at h;cases h)];exact aq hQ))
noncomputable def uW(K:Frag)(a:Addr):It:=
 ⟨λi H=>∃xs x,dP K H a xs∧xs[i]?=some x,λi H x H'=>H'=H∧∀xs,dP K H a xs→xs[i]?=some x,λi H=>∃xs,dP K H a xs∧xs.length≤i⟩
noncomputable def wz(K:Frag)(a:Addr):It:=
 ⟨λi H=>∃xs x,bj K H a xs∧xs[i]?=some x,λi H x H'=>H'=H∧∀xs,bj K H a xs→xs[i]?=some x,λi H=>∃xs,bj K H a xs∧xs.length≤i⟩
noncomputable def sS(lo:Int)(n:Nat):It:=⟨λi _=>i<n,λi H x H'=>H'=H∧x=.int (lo+i),λi _=>n≤i⟩
theorem UP{P:Program}{w:World}{K:Frag}(a it:Addr):Turn P w K tg (uW K a) [it] it (λi h=>h.IsListIter it a i) where
 mem:=by simp
 obj:=λi h st b hb=>by
  have e:b=it:=by simpa using hb
  subst e;obtain⟨o,e,c,d⟩:=st;exact⟨o,e,λv z=>by rw[d]at z;cases z⟩
 keep:=λi h h' st k=>st.at λo e=>k it (by simp) o e
 item:=by
  intro X hP hw hK hc i aL s σ H E I hf st hg;subst hP hw hK;obtain⟨xs,x,hq,hx⟩:=hg;obtain⟨its,rv,p,hz⟩:=I.list hq;obtain⟨u,hu,ru⟩:=rv.get hx;obtain⟨f0,f1,f2,f3,f4,f5⟩:=hf it (by simp);refine wpAny_pyNext_list_item st p.isList (x:=u) (by simpa using hu) λh' l7 sb=>?_;have I1:Inv X aL σ H { s with heap:=h' }:=I.turned (t':=s.toks) (λb o hb e=>(sb.2 b hb).trans e) f0 f1 f3 f4 f5;obtain⟨o,e,c,d⟩:=id l7;exact⟨u,rfl,yD (s:={ s with heap:=h' }) e c d (by decide) ⟨x,H,I1,ru,⟨rfl,λys hy=>by rw[I.Ln hy hq];exact hx⟩,l7,λb hb=>(hf b hb).1⟩⟩
 done:=by
  intro X hP hw hK hc i aL s σ H E I hf st hg;subst hP hw hK;obtain⟨xs,hq,hx⟩:=hg;obtain⟨its,rv,p,hz⟩:=I.list hq;obtain⟨f0,f1,f2,f3,f4,f5⟩:=hf it (by simp);have hl:=rv.length;exact wpAny_pyNext_list_end (I.ok.hd hc) st p.isList (by simp;lia) λh' eb=>⟨rfl,I.turned (t':=s.toks) (λb o hb e=>eb b o hb e) f0 f1 f3 f4 f5⟩
 self:=λ_ _ _ _ _ st h=>wpAny_pyIter_listiter st h
theorem UQ{P:Program}{w:World}{K:Frag}(a it:Addr):Turn P w K tg (wz K a) [it] it (λi h=>h.IsTupleIter it a i) where
 mem:=by simp
 obj:=λi h st b hb=>by
  have e:b=it:=by simpa using hb
  subst e;obtain⟨o,e,c,d⟩:=st;exact⟨o,e,λv z=>by rw[d]at z;cases z⟩
 keep:=λi h h' st k=>st.at λo e=>k it (by simp) o e
 item:=by
  intro X hP hw hK hc i aL s σ H E I hf st hg;subst hP hw hK;obtain⟨xs,x,hq,hx⟩:=hg;obtain⟨its,rv,p,hz⟩:=I.tuple hq;obtain⟨u,hu,ru⟩:=rv.get hx;obtain⟨f0,f1,f2,f3,f4,f5⟩:=hf it (by simp);refine wpAny_pyNext_tuple_item st (show s.heap.IsTuple a its.toArray from p) (x:=u) (by simpa using hu) λh' l7 sb=>?_
  have I1:Inv X aL σ H { s with heap:=h' }:=I.turned (t':=s.toks) (λb o hb e=>(sb.2 b hb).trans e) f0 f1 f3 f4 f5;obtain⟨o,e,c,d⟩:=id l7;exact⟨u,rfl,yD (s:={ s with heap:=h' }) e c d (by decide) ⟨x,H,I1,ru,⟨rfl,λys hy=>by rw[I.Lo hy hq];exact hx⟩,l7,λb hb=>(hf b hb).1⟩⟩
 done:=by
  intro X hP hw hK hc i aL s σ H E I hf st hg;subst hP hw hK;obtain⟨xs,hq,hx⟩:=hg;obtain⟨its,rv,p,hz⟩:=I.tuple hq;obtain⟨f0,f1,f2,f3,f4,f5⟩:=hf it (by simp);have hl:=rv.length;exact wpAny_pyNext_tuple_end (I.ok.hd hc) st (show s.heap.IsTuple a its.toArray from p) (by simp;lia) λh' eb=>⟨rfl,I.turned (t':=s.toks) (λb o hb e=>eb b o hb e) f0 f1 f3 f4 f5⟩
 self:=λ_ _ _ _ _ st h=>wpAny_pyIter_tupleiter st h
theorem UR{P:Program}{w:World}{K:Frag}(it:Addr)(lo:Int)(n:Nat):Turn P w K tg (sS lo n) [it] it (λi h=>IsRangeIter h it (lo+(i:Nat)*1) ((n:Int)-(i:Nat)) 1) where
 mem:=by simp
 obj:=λi h st b hb=>by
  have e:b=it:=by simpa using hb
  subst e;exact⟨_,st,λv z=>by
   have z':Data.fields _=Data.cell v:=z;cases z'⟩
 keep:=λi h h' st k=>k it (by simp) _ st
 item:=by
  intro X hP hw hK hc i aL s σ H E I hf st hg;subst hP hw hK;obtain⟨f0,f1,f2,f3,f4,f5⟩:=hf it (by simp);have W:=Walks.range (prog:=X.prog) (w:=X.w) (I.ok.hd hc) it lo 1 n;refine W.item i s _ _ hg st λv h' tk hv l7 kk=>?_;obtain⟨t,rfl⟩:=hv;have I1:Inv X aL σ H { s with heap:=h',toks:=tk }:=I.turned (λb o hb e=>kk b o (by simpa using hb) e) f0 f1 f3 f4 f5;refine⟨_,rfl,yD (s:={ s with heap:=h',toks:=tk }) (n := "range_iterator") l7 rfl rfl (by decide) ⟨.int (lo+i),H,I1,⟨t,?_⟩,⟨rfl,rfl⟩,l7,λb hb=>(hf b hb).1⟩⟩;rw[sE]
 done:=by
  intro X hP hw hK hc i aL s σ H E I hf st hg;subst hP hw hK;obtain⟨f0,f1,f2,f3,f4,f5⟩:=hf it (by simp);exact wpAny_pyNext_range_end (I.ok.hd hc) st (by have:n≤i:=hg;lia) λh' eb=>⟨rfl,I.turned (t':=s.toks) (λb o hb e=>eb b o hb e) f0 f1 f3 f4 f5⟩
 self:=λ_ _ _ _ _ st h=>wpAny_pyIter_rangeiter st h
section
variable{X:Cx}{tg:Expr}
def BE(K:Frag)(tl:TE):TI:=λσ H R=>tl σ H λx H1=>∃a,x=.ref a∧(∃xs,dP K H1 a xs)∧R (uW K a) H1
def sT(K:Frag)(tl:TE):TI:=λσ H R=>tl σ H λx H1=>∃a,x=.ref a∧(∃xs,bj K H1 a xs)∧R (wz K a) H1
theorem UT{l:Expr}{tl:TE}(hl:PE X l tl):PI X tg l (BE X.K tl):=by
 intro aL s σ H R I h;refine bh (hl aL s σ H _ I h) λv s1 ⟨x,H1,I1,r1,q1⟩=>?_;obtain⟨a,e,⟨xs,hq⟩,q⟩:=q1;subst e;cases r1;obtain⟨its,rv,p,hz⟩:=I1.list hq;refine wpAny_pyIter_list p.isList ?_;refine⟨s1.heap.objs.size,[s1.heap.objs.size],_,_,H1,rfl,I1.kept (t':=s1.toks) λb o e=>dj _ e,UP a _,⟨_,gJ _ rfl,rfl,rfl⟩,λb hb=>?_,q⟩;have e:b=s1.heap.objs.size:=by simpa using hb
 subst e;exact I1.l6 (ck _) (I1.bz.fresh (ck _))
theorem UU{l:Expr}{tl:TE}(hl:PE X l tl):PI X tg l (sT X.K tl):=by
 intro aL s σ H R I h;refine bh (hl aL s σ H _ I h) λv s1 ⟨x,H1,I1,r1,q1⟩=>?_;obtain⟨a,e,⟨xs,hq⟩,q⟩:=q1;subst e;cases r1;obtain⟨its,rv,p,hz⟩:=I1.tuple hq;refine wpAny_pyIter_tuple (show s1.heap.IsTuple a its.toArray from p) ?_
 refine⟨s1.heap.objs.size,[s1.heap.objs.size],_,_,H1,rfl,I1.kept (t':=s1.toks) λb o e=>dj _ e,UQ a _,⟨_,gJ _ rfl,rfl,rfl⟩,λb hb=>?_,q⟩;have e:b=s1.heap.objs.size:=by simpa using hb
 subst e;exact I1.l6 (ck _) (I1.bz.fresh (ck _))
theorem UW{R:It→Hp→Prop}{lo hi:Int}{t u v:Tok}{tk:Nat}(I:Inv X aL σ H s)(h1:-(2^62)≤lo)(h2:lo<2^62)(h3:-(2^62)≤hi)(h4:hi<2^62)
  (q:R (sS lo (hi-lo).toNat) H):wpAny (model X.prog X.w) X.A (pyIter (.ref s.heap.objs.size)) (E9 X aL σ tg R) E { s with heap:=s.heap.push { cls:=.type "range",data:=.fields #[.int lo t,.int hi u,.int 1 v] },toks:=tk }:=by
 refine wpAny_pyIter_range (IsRange.new ..) (small_one h1 h2 h3 h4) ?_;have I1:Inv X aL σ H { s with heap:=s.heap.push { cls:=.type "range",data:=.fields #[.int lo t,.int hi u,.int 1 v] },toks:=tk }:=I.kept λb o e=>dj _ e;refine⟨(s.heap.push { cls:=.type "range",data:=.fields #[.int lo t,.int hi u,.int 1 v] }).objs.size,[(s.heap.push { cls:=.type "range",data:=.fields #[.int lo t,.int hi u,.int 1 v] }).objs.size],_,_,H,rfl,
  I1.kept (t':=tk) λb o e=>dj _ e,UR _ lo (hi-lo).toNat,?_,λb hb=>?_,q⟩
 ·have e1:lo+((0:Nat):Int)*1=lo:=by simp
  have e2:(((hi-lo).toNat:Nat):Int)-((0:Nat):Int)=Builtin.Range.rangeSize lo hi 1:=by rw[rangeSize_one];split<;>lia
  show IsRangeIter _ _ (lo+((0:Nat):Int)*1) ((((hi-lo).toNat:Nat):Int)-((0:Nat):Int)) 1;rw[e1,e2];exact gJ _ rfl
 ·have e:b=(s.heap.push { cls:=.type "range",data:=.fields #[.int lo t,.int hi u,.int 1 v] }).objs.size:=by simpa using hb
  subst e;exact I1.l6 (ck _) (I1.bz.fresh (ck _))
def Lr(ta:TA):TI:=λσ H R=>ta σ H λvs H1=>∃j:Int,vs=[.int j]∧-(2^62)≤j∧j<2^62∧R (sS 0 j.toNat) H1
theorem uX{a:Expr}{ta:TA}{p pos:Pos}(hg:Gl X "range")(hm:X.mg "range"=none)(ha:PA X [a] ta)(hs:starEach [a] X.env=[(false,eval a X.env)]:=by rfl):PI X tg (.Call (.Name "range" p) [a] [] pos) (Lr ta):=by
 intro aL s σ H R I h;refine Call_ (uS I hg hm boot_range (EU (bh (ha pos aL s σ H _ I h) λus s1 ⟨vs,H1,I1,r1,q1⟩=>?_) hs rfl));obtain⟨j,e,q1,q2,q⟩:=q1;subst e;cases r1 with
 |cons r rr=>
  cases rr;obtain⟨t,rfl⟩:=r;exact call_range_1 (UW I1 (by lia) (by lia) q1 q2 (by simpa using q))
def uY(wi:TI)(g:TG)(tb:TS):TS:=λD σ H=>wi σ H λJ H1=>∃W:Nat→Nat→St→Hp→Prop,(∃m,W 0 m σ H1)∧∀i m σ H,W i m σ H→
 (J.stop i H∧D.nx σ H)∨(J.go i H∧∃N:St→Hp→Prop,(∀σ' H',N σ' H'→∃m',m'<m∧W (i+1) m' σ' H')∧∀x H',J.pe i H x H'→g x σ H' λσ2 H2=>tb { D with nx:=N,ct:=N,bk:=D.nx } σ2 H2)
noncomputable def yE(fp:List Addr)(h:Heap):List (Addr×Obj):=fp.filterMap λb=>(h.get? b).map λo=>(b,o)
theorem BF{o:Obj}(hb:b∈fp)(e:h.get? b=some o):(b,o)∈yE fp h:=List.mem_filterMap.mpr ⟨b,hb,by rw[e];rfl⟩
theorem UX{p:Addr×Obj}(hp:p∈yE fp h):p.1∈fp∧h.get? p.1=some p.2:=by
 obtain⟨b,hb,e⟩:=List.mem_filterMap.mp hp;cases q:h.get? b with
 |none=>rw[q]at e;cases e
 |some o=>
  rw[q]at e;have e':(b,o)=p:=dZ e;subst e';exact⟨hb,q⟩
theorem Inv.pinned(I:Inv X aL σ H s)(hf:∀b∈fp,jg X aL H b)(ho:∀b∈fp,∃o,s.heap.get? b=some o∧∀v,o.data≠.cell v):Inv X (aL++yE fp s.heap) σ H s:=
 I.By λp hp=>(dq.mp hp).elim (λz=>I.pin p (eJ _ z)) λz=>by
  obtain⟨hb,e⟩:=UX z;obtain⟨f0,f1,f2,_⟩:=hf p.1 hb;obtain⟨o,e',d⟩:=ho p.1 hb;rw[e]at e';cases e';exact⟨e,f0,f1,f2,d⟩
theorem Inv.Fb{pl:List (Addr×Obj)}(I:Inv X (aL++pl) σ H s):Inv X aL σ H s:=I.By λp hp=>I.pin p (eJ _ (e7 _ hp))
theorem kZ{iter:Expr}{body:List Stmt}{wi:TI}{pos:Pos}(hp:PassesOwn (model X.prog X.w) X.A X.env X.xe)(hc:X.calm=true)(hi:PI X tg iter wi)(hg:PG X tg g)(hb:kg X body tb)
  (hs:∀x,foldedSetIterable iter X.env x=pure x:=by intro _;rfl):PS X (.For tg iter body [] pos) (uY wi g tb):=by
 intro aL s σ H D I h;refine wpAny_For (bh (hi aL s σ H _ I h) λv s1 h1=>bh h1 λBD s2 h2=>?_) hs;obtain⟨it,fp,tn,J,H2,e,I2,T,ma,f2,W,⟨m0,w0⟩,qW⟩:=h2;subst e;have Fc:∀{H':Hp},(∀b∈fp,H' b=none)→∀b∈fp,jg X aL H' b:=λhn b hb=>⟨hn b hb,(f2 b hb).2⟩;refine codeAny_forLoop_any (λn s'=>∃i σ' H',Inv X aL σ' H' s'∧tn i s'.heap∧(∀b∈fp,H' b=none)∧W i n σ' H') ?_ m0 ⟨0,σ,H2,I2,ma,λb hb=>(f2 b hb).1,w0⟩;rintro n s3 ⟨i,σ3,H3,I3,Ls,Lu,w3⟩;rcases qW i n σ3 H3 w3 with⟨stop,qn⟩|⟨go,N,hN,step⟩
 ·refine au hp (bh (T.done X rfl rfl rfl hc i aL s3 σ3 H3 X.xe I3 (Fc Lu) Ls stop) λr s4 ⟨hr,I4⟩=>?_);subst hr;exact wpAny_execs_nil ⟨σ3,H3,I4,qn⟩
 ·refine au hp (bh (T.item X rfl rfl rfl hc i aL s3 σ3 H3 X.xe I3 (Fc Lu) Ls go) λr s4 ⟨u,hr,h4⟩=>?_);subst hr;refine au hp (bh h4 λ_ s5 ⟨x,H5,I5,r5,y5,Fd,BG⟩=>?_);have UY:=I5.pinned (Fc BG) (T.obj _ _ Fd);refine au hp (bh (hg _ s5 σ3 H5 x u _ UY r5 (step x H5 y5)) λ_ s6 ⟨σ6,H6,I6,q6⟩=>?_);refine au hp (bh (hb _ s6 σ6 H6 _ I6 q6) λf s7 q7=>?_);have again:∀{σ7:St}{H7:Hp},Inv X (aL++yE fp s5.heap) σ7 H7 s7→N σ7 H7→∃m,m<n∧∃i σ' H',Inv X aL σ' H' s7∧tn i s7.heap∧(∀b∈fp,H' b=none)∧W i m σ' H':=λ{σ7 H7} I7 n7=>by
   obtain⟨m',hm,w7⟩:=hN σ7 H7 n7;refine⟨m',hm,i+1,σ7,H7,I7.Fb,T.keep _ _ _ Fd λb hb o e=>(I7.pin (b,o) (eJ _ (eJ _ (BF hb e)))).1,λb hb=>?_,w7⟩;obtain⟨o,e,d⟩:=T.obj _ _ Fd b hb;exact(I7.pin (b,o) (eJ _ (eJ _ (BF hb e)))).2.1
  cases f with
  |next=>obtain⟨σ7,H7,I7,n7⟩:=q7;exact again I7 n7
  |cont=>obtain⟨σ7,H7,I7,n7⟩:=q7;exact again I7 n7
  |brk=>obtain⟨σ7,H7,I7,q7⟩:=q7;exact⟨σ7,H7,I7.Fb,q7⟩
  |ret v=>obtain⟨x7,σ7,H7,I7,r7,q7⟩:=q7;exact⟨x7,σ7,H7,I7.Fb,r7,q7⟩
end
theorem yF{K:Frag}{xs:List V}{D:Ends}(Pv:Nat→St→Hp→Prop)(h0:Pv 0 σ H)(hl:∀i σ H,i≤xs.length→Pv i σ H→dP K H a xs)
  (hs:∀i x σ H,xs[i]?=some x→Pv i σ H→g x σ H λσ2 H2=>tb { D with nx:=Pv (i+1),ct:=Pv (i+1),bk:=D.nx } σ2 H2) (hd:∀σ H,Pv xs.length σ H→D.nx σ H) :
  ∃W:Nat→Nat→St→Hp→Prop,(∃m,W 0 m σ H)∧∀i m σ H,W i m σ H→
   ((uW K a).stop i H∧D.nx σ H)∨((uW K a).go i H∧∃N:St→Hp→Prop,(∀σ' H',N σ' H'→∃m',m'<m∧W (i+1) m' σ' H')∧∀x H',(uW K a).pe i H x H'→g x σ H' λσ2 H2=>tb { D with nx:=N,ct:=N,bk:=D.nx } σ2 H2):=by
 refine⟨λi m σ H=>m=xs.length-i∧i≤xs.length∧Pv i σ H,⟨xs.length,by simp,jf _,h0⟩,?_⟩;rintro i m σ H ⟨rfl,hi,p⟩;have q:=hl i σ H hi p;by_cases cB:i<xs.length
 ·refine .inr ⟨⟨xs,xs[i],q,by simp[cB]⟩,Pv (i+1),λσ' H' p'=>⟨xs.length-(i+1),by lia,rfl,cB,p'⟩,λx H' y=>?_⟩;obtain⟨e,y⟩:=y;subst e;exact hs i x σ _ (y xs q) p
 ·have e:i=xs.length:=by lia
  subst e;exact .inl ⟨⟨xs,q,ck _⟩,hd σ H p⟩
theorem BH{lo:Int}{D:Ends}(Pv:Nat→St→Hp→Prop)(h0:Pv 0 σ H)
  (hs:∀i σ H,i<n→Pv i σ H→g (.int (lo+i)) σ H λσ2 H2=>tb { D with nx:=Pv (i+1),ct:=Pv (i+1),bk:=D.nx } σ2 H2) (hd:∀σ H,Pv n σ H→D.nx σ H) :
  ∃W:Nat→Nat→St→Hp→Prop,(∃m,W 0 m σ H)∧∀i m σ H,W i m σ H→
   ((sS lo n).stop i H∧D.nx σ H)∨((sS lo n).go i H∧∃N:St→Hp→Prop,(∀σ' H',N σ' H'→∃m',m'<m∧W (i+1) m' σ' H')∧∀x H',(sS lo n).pe i H x H'→g x σ H' λσ2 H2=>tb { D with nx:=N,ct:=N,bk:=D.nx } σ2 H2):=by
 refine⟨λi m σ H=>m=n-i∧i≤n∧Pv i σ H,⟨n,by simp,jf _,h0⟩,?_⟩;rintro i m σ H ⟨rfl,hi,p⟩;by_cases cB:i<n
 ·refine .inr ⟨cB,Pv (i+1),λσ' H' p'=>⟨n-(i+1),by lia,rfl,cB,p'⟩,λx H' y=>?_⟩;obtain⟨e,y⟩:=y;subst e y;exact hs i σ _ cB p
 ·have e:i=n:=by lia
  subst e;exact .inl ⟨ck _,hd σ H p⟩
abbrev R2:=V→V→Hp→VK→Prop
def ik(X:Cx)(f:Value→Value→Sem Value)(r:R2):Prop:=
 ∀(aL:List (Addr×Obj))(s:Shared)(σ:St)(H:Hp)(x y:V)(v u:Value)(Q:VK),Inv X aL σ H s→RelV x v→RelV y u→r x y H Q→
  wpAny (model X.prog X.w) X.A (f v u) (EP X aL σ Q) X.xe s
def Fe(X:Cx)(f:Value→Sem Value)(r:V→Hp→VK→Prop):Prop:=
 ∀(aL:List (Addr×Obj))(s:Shared)(σ:St)(H:Hp)(x:V)(v:Value)(Q:VK),Inv X aL σ H s→RelV x v→r x H Q→
  wpAny (model X.prog X.w) X.A (f v) (EP X aL σ Q) X.xe s
def gY(X:Cx)(f:Value)(r:List V→Hp→VK→Prop):Prop:=
 ∀(aL:List (Addr×Obj))(s:Shared)(σ:St)(H:Hp)(xs:List V)(us:List Value)(Q:VK),Inv X aL σ H s→Vals xs us→r xs H Q→
  wpAny (model X.prog X.w) X.A (call f us) (EP X aL σ Q) X.xe s
def UZ(X:Cx)(r:V→Hp→(Bool→Hp→Prop)→Prop):Prop:=
 ∀(aL:List (Addr×Obj))(s:Shared)(σ:St)(H:Hp)(x:V)(v:Value)(Q:Bool→Hp→Prop),Inv X aL σ H s→RelV x v→r x H Q→
  wpAny (model X.prog X.w) X.A (truthy v) (TP X aL σ Q) X.xe s
def cx(r:R2)(ta tb:TE):TE:=λσ H Q=>ta σ H λx H1=>tb σ H1 λy H2=>r x y H2 Q
def yG(r:V→Hp→VK→Prop)(ta:TE):TE:=λσ H Q=>ta σ H λx H1=>r x H1 Q
def rI(C:Int→Int→Prop)(g:Int→Int→V):R2:=λx y H Q=>∃i j,x=.int i∧y=.int j∧C i j∧Q (g i j) H
def ju(g:Int→Int→V):R2:=λx y H Q=>∃i j,x=.int i∧y=.int j∧Q (g i j) H
def rU(g:Int→V):V→Hp→VK→Prop:=λx H Q=>∃i,x=.int i∧Q (g i) H
section
variable{X:Cx}{a b c:Expr}{ta tb tc:TE}{pos:Pos}
theorem Ff(ha:PE X a ta)(hb:PE X b tb){R:V→V→Hp→Prop}(I:Inv X aL σ H s)
  (h:ta σ H λx H1=>tb σ H1 λy H2=>R x y H2) {Q:QV} {f:Value→Value→Sem Value}
  (hf:∀v u s2 x y H2,Inv X aL σ H2 s2→RelV x v→RelV y u→R x y H2→wpAny (model X.prog X.w) X.A (f v u) Q X.xe s2) :
  wpAny (model X.prog X.w) X.A (eval a X.env) (λv s₁=>wpAny (model X.prog X.w) X.A (eval b X.env) (λu s₂=>wpAny (model X.prog X.w) X.A (f v u) Q X.xe s₂) X.xe s₁) X.xe s:=by
 refine bh (ha aL s σ H _ I h) λv s1 ⟨x,H1,I1,r1,q1⟩=>?_;refine bh (hb aL s1 σ H1 _ I1 q1) λu s2 ⟨y,H2,I2,r2,q2⟩=>?_;exact hf v u s2 x y H2 I2 r1 r2 q2
theorem bq{op:Operator}(ho:ik X (binaryOp op) r)(ha:PE X a ta)(hb:PE X b tb):PE X (.BinOp a op b pos) (cx r ta tb):=by
 intro aL s σ H Q I h;exact wpAny_BinOp (Ff ha hb I h λv u s2 x y H2 I2 rx ry q=>ho aL s2 σ H2 x y v u Q I2 rx ry q)
theorem ni{op:UnaryOp}{r:V→Hp→VK→Prop}(ho:Fe X (unaryOp op) r)(ha:PE X a ta):PE X (.UnaryOp op a pos) (yG r ta):=by
 intro aL s σ H Q I h;exact UnaryOp_ (bh (ha aL s σ H _ I h) λv s1 ⟨x,H1,I1,r1,q1⟩=>ho aL s1 σ H1 x v Q I1 r1 q1)
theorem Fg{C:Int→Int→Prop}{g:Int→Int→Int}
  (rule:∀(i j:Int)(t u:Tok)(s:Shared)(Q:QV)(E:QV),C i j→Q (.int (g i j) s.toks) { s with toks:=s.toks+1 }→wpAny (model X.prog X.w) X.A (f (.int i t) (.int j u)) Q E s) :
  ik X f (rI C λi j=>.int (g i j)):=by
 intro aL s σ H x y v u Q I rx ry h;obtain⟨i,j,rfl,rfl,hc,q⟩:=h;obtain⟨t,rfl⟩:=rx;obtain⟨t',rfl⟩:=ry;exact rule i j t t' s _ _ hc ⟨.int (g i j),H,I.tok _,⟨_,rfl⟩,q⟩
theorem Lv{g:Int→Int→Int}
  (rule:∀(i j:Int)(t u:Tok)(s:Shared)(Q:QV)(E:QV),Q (.int (g i j) s.toks) { s with toks:=s.toks+1 }→wpAny (model X.prog X.w) X.A (f (.int i t) (.int j u)) Q E s) :
  ik X f (ju λi j=>.int (g i j)):=by
 intro aL s σ H x y v u Q I rx ry h;obtain⟨i,j,rfl,rfl,q⟩:=h;obtain⟨t,rfl⟩:=rx;obtain⟨t',rfl⟩:=ry;exact rule i j t t' s _ _ ⟨.int (g i j),H,I.tok _,⟨_,rfl⟩,q⟩
theorem BI{g:Int→Int→Bool}
  (rule:∀(i j:Int)(t u:Tok)(s:Shared)(Q:QV)(E:QV),Q (.bool (g i j)) s→wpAny (model X.prog X.w) X.A (f (.int i t) (.int j u)) Q E s) :
  ik X f (ju λi j=>.bl (g i j)):=by
 intro aL s σ H x y v u Q I rx ry h;obtain⟨i,j,rfl,rfl,q⟩:=h;obtain⟨t,rfl⟩:=rx;obtain⟨t',rfl⟩:=ry;exact rule i j t t' s _ _ ⟨.bl (g i j),H,I,rfl,q⟩
def U0(i j:Int):Prop:=0<j∧j<1073741824
def yH(i j:Int):Prop:=(-(2^64)<i∧i<2^64)∨(-(2^64)<j∧j<2^64)
theorem yH.ok{i j:Int}(h:yH i j):IntMulOk i j:=by
 rcases h with⟨h1,h2⟩|⟨h1,h2⟩
 ·exact .of_left (intBits_le_64 h1 h2)
 ·exact .of_right (intBits_le_64 h1 h2)
theorem fi:ik X (binaryOp .Add) (ju λi j=>.int (i+j)):=Lv λ_ _ _ _ _ _ _ q=>add_int q
theorem qX:ik X (binaryOp .Sub) (ju λi j=>.int (i-j)):=Lv λ_ _ _ _ _ _ _ q=>sub_int q
theorem oq:ik X (binaryOp .Mult) (rI yH λi j=>.int (i*j)):=Fg λ_ _ _ _ _ _ _ hc q=>mul_int q hc.ok
theorem Lw:ik X (binaryOp .FloorDiv) (rI U0 λi j=>.int (i/j)):=Fg λi j _ _ _ _ _ hc q=>by
 have h1:(0:Int)<j:=hc.1;have h2:j<1073741824:=hc.2;exact floordiv_int (by lia) (by rw[Int.fdiv_eq_ediv_of_nonneg i (by lia)];exact q) (.inl (PyProof.noPylong_small (by lia)))
theorem kh:ik X (binaryOp .Mod) (rI (λ_ j=>0<j) λi j=>.int (i%j)):=Fg λi j _ _ _ _ _ hc q=>by
 have h1:(0:Int)<j:=hc;exact mod_int' (by lia) (by rw[Int.fmod_eq_emod_of_nonneg i (by lia)];exact q)
theorem U1{f:Value→Sem Value}{g:Int→Int}
  (rule:∀(i:Int)(t:Tok)(s:Shared)(Q:QV)(E:QV),Q (.int (g i) s.toks) { s with toks:=s.toks+1 }→wpAny (model X.prog X.w) X.A (f (.int i t)) Q E s) :
  Fe X f (rU λi=>.int (g i)):=by
 intro aL s σ H x v Q I rx h;obtain⟨i,rfl,q⟩:=h;obtain⟨t,rfl⟩:=rx;exact rule i t s _ _ ⟨.int (g i),H,I.tok _,⟨_,rfl⟩,q⟩
theorem nj:Fe X (unaryOp .USub) (rU λi=>.int (-i)):=U1 λ_ _ _ _ _ q=>neg_int q
end
noncomputable def Fh:V→V→Bool
 | .da,.da=>true | .da,.int _=>true | .int _,.da=>true | .da,.bl _=>true | .bl _,.da=>true | .da,.str _=>true | .str _,.da=>true
 | .int _,.int _=>true | .bl _,.bl _=>true | .str _,.str _=>true | .mZ _,.mZ _=>true
 | .int _,.str _=>true | .str _,.int _=>true | .bl _,.str _=>true | .str _,.bl _=>true
 |_,_=>false
def jI:R2:=λx y H Q=>Fh x y=true∧Q (.bl (decide (x=y))) H
def Fi:R2:=λx y H Q=>Fh x y=true∧Q (.bl (!decide (x=y))) H
theorem yI{i j:Int}:decide (V.int i=V.int j)=(i==j):=by
 rw[Bool.eq_iff_iff];simp
theorem Lx{i j:Bool}:decide (V.bl i=V.bl j)=(i==j):=by
 rw[Bool.eq_iff_iff];simp
theorem Ly{i j:Str}:decide (V.str i=V.str j)=(i==j):=by
 rw[Bool.eq_iff_iff];simp
theorem Lz{i j:Array UInt8}:decide (V.mZ i=V.mZ j)=(i.toList==j.toList):=by
 rw[Bool.eq_iff_iff];cases i;cases j;simp
section
variable{X:Cx}{a b c:Expr}{ta tb tc:TE}{pos:Pos}
theorem gK{Q:VK}{k k':Bool}(I:Inv X aL σ H s)(q:Q (.bl k) H)(e:k=k'):EP X aL σ Q (.bool k') s:=by
 subst e;exact⟨.bl k,H,I,rfl,q⟩
theorem fj:ik X (compareOp .Eq) jI:=by
 intro aL s σ H x y v u Q I rx ry h;obtain⟨hs,q⟩:=h;cases x with
 |da=>
  cases rx;cases y with
  |da=>cases ry;exact PySem.EqNone.eq_none_none (gK I q (by simp))
  |bl j=>cases ry;exact PySem.EqNone.eq_none_bool (gK I q (by simp))
  |int j=>obtain⟨t',rfl⟩:=ry;exact PySem.EqNone.eq_none_int (gK I q (by simp))
  |str j=>obtain⟨t',rfl⟩:=ry;exact PySem.EqNone.eq_none_str (gK I q (by simp))
  |_=>exact absurd (show false=true from hs) i4
 |bl i=>
  cases rx;cases y with
  |da=>cases ry;exact PySem.EqNone.eq_bool_none (gK I q (by simp))
  |bl j=>cases ry;exact eq_bool (gK I q Lx)
  |str j=>obtain⟨t',rfl⟩:=ry;exact PySem.EqMixed.eq_bool_str (gK I q (by simp))
  |_=>exact absurd (show false=true from hs) i4
 |int i=>
  obtain⟨t,rfl⟩:=rx;cases y with
  |da=>cases ry;exact PySem.EqNone.eq_int_none (gK I q (by simp))
  |int j=>obtain⟨t',rfl⟩:=ry;exact eq_int (gK I q yI)
  |str j=>obtain⟨t',rfl⟩:=ry;exact PySem.EqMixed.eq_int_str (gK I q (by simp))
  |_=>exact absurd (show false=true from hs) i4
 |str i=>
  obtain⟨t,rfl⟩:=rx;cases y with
  |da=>cases ry;exact PySem.EqNone.eq_str_none (gK I q (by simp))
  |bl j=>cases ry;exact PySem.EqMixed.eq_str_bool (gK I q (by simp))
  |int j=>obtain⟨t',rfl⟩:=ry;exact PySem.EqMixed.eq_str_int (gK I q (by simp))
  |str j=>obtain⟨t',rfl⟩:=ry;exact eq_str (gK I q Ly)
  |_=>exact absurd (show false=true from hs) i4
 |mZ i=>
  obtain⟨t,rfl⟩:=rx;cases y with
  |mZ j=>obtain⟨t',rfl⟩:=ry;exact PySem.W.eq_bytes (gK I q Lz)
  |_=>exact absurd (show false=true from hs) i4
 |_=>cases y<;>exact absurd (show false=true from hs) i4
theorem sU:ik X (compareOp .NotEq) Fi:=by
 intro aL s σ H x y v u Q I rx ry h;obtain⟨hs,q⟩:=h;cases x with
 |da=>
  cases rx;cases y with
  |da=>cases ry;exact PySem.EqNone.ne_none_none (gK I q (by simp))
  |bl j=>cases ry;exact PySem.EqNone.ne_none_bool (gK I q (by simp))
  |int j=>obtain⟨t',rfl⟩:=ry;exact PySem.EqNone.ne_none_int (gK I q (by simp))
  |str j=>obtain⟨t',rfl⟩:=ry;exact PySem.EqNone.ne_none_str (gK I q (by simp))
  |_=>exact absurd (show false=true from hs) i4
 |bl i=>
  cases rx;cases y with
  |da=>cases ry;exact PySem.EqNone.ne_bool_none (gK I q (by simp))
  |bl j=>cases ry;exact ne_bool (gK I q (aj not Lx))
  |str j=>obtain⟨t',rfl⟩:=ry;exact PySem.EqMixed.ne_bool_str (gK I q (by simp))
  |_=>exact absurd (show false=true from hs) i4
 |int i=>
  obtain⟨t,rfl⟩:=rx;cases y with
  |da=>cases ry;exact PySem.EqNone.ne_int_none (gK I q (by simp))
  |int j=>obtain⟨t',rfl⟩:=ry;exact ne_int (gK I q (aj not yI))
  |str j=>obtain⟨t',rfl⟩:=ry;exact PySem.EqMixed.ne_int_str (gK I q (by simp))
  |_=>exact absurd (show false=true from hs) i4
 |str i=>
  obtain⟨t,rfl⟩:=rx;cases y with
  |da=>cases ry;exact PySem.EqNone.ne_str_none (gK I q (by simp))
  |bl j=>cases ry;exact PySem.EqMixed.ne_str_bool (gK I q (by simp))
  |int j=>obtain⟨t',rfl⟩:=ry;exact PySem.EqMixed.ne_str_int (gK I q (by simp))
  |str j=>obtain⟨t',rfl⟩:=ry;exact ne_str (gK I q (aj not Ly))
  |_=>exact absurd (show false=true from hs) i4
 |mZ i=>
  obtain⟨t,rfl⟩:=rx;cases y with
  |mZ j=>obtain⟨t',rfl⟩:=ry;exact PySem.W.ne_bytes (gK I q (aj not Lz))
  |_=>exact absurd (show false=true from hs) i4
 |_=>cases y<;>exact absurd (show false=true from hs) i4
theorem uZ:ik X (compareOp .Lt) (ju λi j=>.bl (decide (i<j))):=BI λ_ _ _ _ _ _ _ q=>lt_int q
theorem yJ:ik X (compareOp .LtE) (ju λi j=>.bl (decide (i≤j))):=BI λ_ _ _ _ _ _ _ q=>le_int q
theorem yM:ik X (compareOp .Gt) (ju λi j=>.bl (decide (j<i))):=BI λ_ _ _ _ _ _ _ q=>gt_int q
theorem U2:ik X (compareOp .GtE) (ju λi j=>.bl (decide (j≤i))):=BI λ_ _ _ _ _ _ _ q=>ge_int q
theorem cN(b:Expr)(h:op≠.In:=by decide)(h2:op≠.NotIn:=by decide):behindInMarks op b=false:=by
 have e1:(op==CmpOp.In)=false:=by cases op<;>first|rfl|exact absurd rfl h
 have e2:(op==CmpOp.NotIn)=false:=by cases op<;>first|rfl|exact absurd rfl h2
 cases b<;>simp[behindInMarks,e1,e2]
theorem sV(ho:ik X (compareOp op) r)(ha:PE X a ta)(hb:PE X b tb)(hm:behindInMarks op b=false):PE X (.Compare a [op] [b] pos) (cx r ta tb):=by
 intro aL s σ H Q I h;exact wpAny_Compare1 (Ff ha hb I h λv u s2 x y H2 I2 rx ry q=>ho aL s2 σ H2 x y v u Q I2 rx ry q) hm
def gg(t:TE):TT:=λσ H Q=>t σ H λx H'=>∃k,x=.bl k∧Q k H'
theorem df(ho:ik X (compareOp op) r)(ha:PE X a ta)(hb:PE X b tb)(hm:behindInMarks op b=false):PT X (.Compare a [op] [b] pos) (gg (cx r ta tb)):=by
 intro aL s σ H Q I h;refine wpAny_isTrue_Compare1 (bh (ha aL s σ H _ I h) λv s1 ⟨x,H1,I1,r1,q1⟩=>bh (hb aL s1 σ H1 _ I1 q1) λu s2 ⟨y,H2,I2,r2,q2⟩=>
  bh (ho aL s2 σ H2 x y v u _ I2 r1 r2 q2) λc s3 ⟨z,H3,I3,r3,k,e,q3⟩=>?_) hm
 subst e;cases r3;exact ai ⟨H3,I3,q3⟩
def LA(K:Frag)(x:V)(H:Hp)(k:Bool):Prop:=
 match x with
 | .da=>k=false
 | .bl b=>k=b
 | .int i=>k=(i != 0)
 | .str y=>y.length≤sizeLine∧k=((y.length:Int) != 0)
 | .mZ y=>y.size≤sizeLine∧k=((y.size:Int) != 0)
 | .ref p=>(∃xs,dP K H p xs∧k=!xs.isEmpty)∨(∃xs,bj K H p xs∧k=!xs.isEmpty)∨∃aM,H p=some (.dK aM)∧k=!aM.isEmpty
 |_=>False
theorem U3{κ:Type}{aM:List (κ×V)}{vs:List (κ×Value)}(r:KV aM vs):(!vs.isEmpty)=!aM.isEmpty:=by
 cases r<;>rfl
theorem LB{xs:List V}{its:List Value}(r:Vals xs its):(!its.toArray.isEmpty)=!xs.isEmpty:=by
 cases r<;>simp
theorem yN:(sizeLine:Nat)<2^63:=by rw[sizeLine_eq];decide
theorem U4:UZ X (λx H Q=>∃k,LA X.K x H k∧Q k H):=by
 intro aL s σ H x v Q I rx h;obtain⟨k,e,q⟩:=h;have hl:=yN;have hs:sizeLine=16777216:=sizeLine_eq;cases x with
 |da=>
  cases rx;have e':k=false:=e;subst e';exact truthy_none ⟨H,I,q⟩
 |bl b=>
  cases rx;have e':k=b:=e;subst e';exact ai ⟨H,I,q⟩
 |int i=>
  obtain⟨t,rfl⟩:=rx;have e':k=(i != 0):=e;subst e';exact PySem.P.truthy_int ⟨H,I,q⟩
 |str y=>
  obtain⟨t,rfl⟩:=rx;obtain⟨hy,e'⟩:y.length≤sizeLine∧k=((y.length:Int) != 0):=e;subst e';exact PySem.P.truthy_str (by lia) ⟨H,I.tok _,q⟩
 |mZ y=>
  obtain⟨t,rfl⟩:=rx;obtain⟨hy,e'⟩:y.size≤sizeLine∧k=((y.size:Int) != 0):=e;subst e';exact PySem.W.truthy_bytes (by lia) ⟨H,I.tok _,q⟩
 |ref p=>
  cases rx;have e':(∃xs,dP X.K H p xs∧k=!xs.isEmpty)∨(∃xs,bj X.K H p xs∧k=!xs.isEmpty)∨∃aM,H p=some (.dK aM)∧k=!aM.isEmpty:=e;rcases e' with⟨xs,hx,e'⟩|⟨xs,hx,e'⟩|⟨aM,hx,e'⟩
  ·subst e';obtain⟨its,r,pl,hz⟩:=I.list hx;have cD:=r.length;exact wpAny_truthy_list pl.isList (by simp only[eE];lia) ⟨H,I.tok _,by rw[LB r];exact q⟩
  ·subst e';obtain⟨its,r,pl,hz⟩:=I.tuple hx;have cD:=r.length;exact truthy_tuple pl (by simp only[eE];lia) ⟨H,I.tok _,by rw[LB r];exact q⟩
  ·subst e';obtain⟨hz,hS,vs,r,m⟩:aM.length≤sizeLine∧(p==sysModules)=false∧∃vs,KV aM vs∧s.heap.DictOf (iC X.prog X.w) p vs:=I.bz p _ hx;have cD:aM.length=vs.length:=Paired.length r;exact wpAny_truthy_dict hS m (by lia) ⟨H,I.tok _,by rw[U3 r];exact q⟩
 |_=>exact(show False from e).elim
theorem LC(ha:PE X a ta)(he:∀uR,isTrue a X.env uR=(do let v ← uR;standAt a.pos;holding [v] (truthy v))) :
  PT X a (λσ H Q=>ta σ H λx H'=>∃k,LA X.K x H' k∧Q k H'):=by
 intro aL s σ H Q I h;exact isTrue_plain (bh (ha aL s σ H _ I h) λv s1 ⟨x,H1,I1,r1,q1⟩=>U4 aL s1 σ H1 x v Q I1 r1 q1) (he _)
theorem vals1{x:V}(r:Vals [x] us):∃u,us=[u]∧RelV x u:=by
 cases r with
 |cons r1 r2=>cases r2;exact⟨_,rfl,r1⟩
theorem vals2{x y:V}(r:Vals [x,y] us):∃u w',us=[u,w']∧RelV x u∧RelV y w':=by
 cases r with
 |cons r1 r2=>
  cases r2 with
  |cons r3 r4=>cases r4;exact⟨_,_,rfl,r1,r3⟩
theorem yO:gY X (.type "int") (λxs H Q=>(∃i,xs=[.int i]∧Q (.int i) H)∨∃k,xs=[.bl k]∧Q (.int (if k then 1 else 0)) H):=by
 intro aL s σ H xs us Q I r h;rcases h with⟨i,rfl,q⟩|⟨k,rfl,q⟩
 ·obtain⟨u,rfl,t,rfl⟩:=vals1 r;exact call_int_int ⟨.int i,H,I,⟨_,rfl⟩,q⟩
 ·obtain⟨u,rfl,r1⟩:=vals1 r;cases r1;exact call_int_bool ⟨.int (if k then 1 else 0),H,I.tok _,⟨_,rfl⟩,q⟩
end
structure Fj(h:Heap)(x dx C:Addr)(mA:Str→Option Value):Prop where
 obj:h.get? x=some (PySem.W.instObj C dx)
 ns:h.Ns1 dx mA
 ne:dx≠x
theorem U5{dx:Addr}{mA:Str→Option Value}(n:h.Ns1 dx mA):∃od,h.get? dx=some od∧∀name,PySem.W.lookIn name od=some (mA name):=by
 obtain⟨o,es,ep,ho,hd,hk,_,hm⟩:=n;refine⟨o,ho,λname=>?_⟩;have e:=hm name;unfold nsFind findBy at e;rw[← Array.find?_toList]at e;unfold PySem.W.lookIn;rw[hd];dsimp only;split
 ·rename_i y q
  rw[q]at e;exact aj some e
 ·rename_i q
  rw[q]at e;have a:es.toList.any (·.refKey)=false:=by
   rw[List.any_eq_false];intro y hy;obtain⟨z,t,U6⟩:=hk y (Array.mem_toList_iff.mp hy);simp[DictEntry.refKey,U6]
  have a':¬es.toList.any (·.refKey)=true:=by rw[a];exact i4
  rw[ag a'];exact aj some e
theorem Fj.look{x dx C:Addr}{mA:Str→Option Value}(I:Fj h x dx C mA):∃od,PySem.W.InstAt h x (PySem.W.instObj C dx) C (some od)∧∀name,PySem.W.lookIn name od=some (mA name):=
 let ⟨od,ho,hl⟩:=U5 I.ns
 ⟨od,⟨I.obj,rfl,rfl,ho⟩,hl⟩
section
variable{prog:Program}{w:World}{A:Around}{E:QV}{s:Shared}{K:Frag}{x dx C f:Addr}{mA:Str→Option Value}{name:Str}{v:Value}
end
theorem nc.some_of{o:Option Value}(r:nc (some v) o):∃u,o=some u∧RelV v u:=by
 cases o with
 |none=>exact(show False from r).elim
 |some u=>exact⟨u,rfl,r⟩
section
variable{P:Program}{w:World}{H H':Hp}{h h':Heap}{a C dx:Addr}{fs wm:List (Str×V)}
theorem U7(bz:gy P w H h)(e:H a=some (.ins C dx fs)):∃mA,Fj h a dx C mA∧(∀f,nc (fs.lookup f) (mA f))∧PySem.Within mA (fs.map (·.1))∧fs.length≤1000∧H dx=some (.own a):=by
 obtain⟨d,z,ne,ob,mA,n,r,q⟩:=(show gv P w H h a (.ins C dx fs) from bz a _ e)
 exact⟨mA,⟨ob,n,ne⟩,r,q,z,d⟩
end
structure Fl(K:Frag)(C:Addr):Prop where
 pg:PySem.W.plainGet K C Str.empty=true
 hd:PySem.W.hasDictIn K C=true
 po:PySem.W.plainOver K C=true
 sa:PySem.W.findIn K (.ref C) "__setattr__"=some (some (.builtin "object.__setattr__"))
theorem Fl.get{K:Frag}{C:Addr}(c:Fl K C)(f:Str):PySem.W.plainGet K C f=true:=c.pg
section
variable{X:Cx}{aL:List (Addr×Obj)}{σ:St}{H:Hp}{s:Shared}{a C dx:Addr}{fs:List (Str×V)}{f:Str}{v:V}{A:Around}{E:QV}
end
section
variable{X:Cx}{o e value:Expr}{f:Str}{pos oo U8:Pos}{ta tv:TE}
end
section
variable{X:Cx}{aL:List (Addr×Obj)}{σ:St}{H:Hp}{s:Shared}{A:Around}{E:QV}{Q:QV}{c:Value}{b:Bool}
inductive nk(K:Frag)(H:Hp):V→Value→Prop where
 |da:nk K H .da (.type "NoneType")
 |bl (x:Bool):nk K H (.bl x) (.type "bool")
 |int (i:Int):nk K H (.int i) (.type "int")
 |str (x:Str):nk K H (.str x) (.type "str")
 |wj (x:UInt64):nk K H (.wj x) (.type "float")
 |lst {a:Addr} {xs:List V} (e:H a=some (.lst xs)):nk K H (.ref a) (.type "list")
 |dC {a:Addr} {o:Obj} {xs:List V} (e:H a=some (.dC o (.lst xs))):nk K H (.ref a) (.type "list")
 |tup {a:Addr} {xs:List V} (e:H a=some (.tup xs)):nk K H (.ref a) (.type "tuple")
 |dK {a:Addr} {aM:List (Key×V)} (e:H a=some (.dK aM)):nk K H (.ref a) (.type "dict")
 |dT {a:Addr} {aM:List (List Key×V)} (e:H a=some (.dT aM)):nk K H (.ref a) (.type "dict")
 |ins {a C dx:Addr} {fs:List (Str×V)} (e:H a=some (.ins C dx fs)) (cl:Fl K C) (ha:PySem.W.findIn K (.ref C) "__class__"=some (some (.builtin "object.__class__")))
   (hn:PySem.W.specialIn K (.builtin "object.__class__") "__get__"=some (some (.builtin "getset_descriptor.__get__"))) (Fm:PySem.W.takesIn K (.builtin "object.__class__")=some true)
   (hm:PySem.W.mroIn K C (.type "object")=some true):nk K H (.ref a) (.ref C)
theorem U9{x:V}{t:Value}(I:Inv X aL σ H s)(rx:RelV x u)(ty:nk X.K H x t)(e:kitOne X.K t c=some b)(h:∀tk,Q (.bool b) { s with toks:=tk }) :
  wpAny (model X.prog X.w) A (call (.builtin "isinstance") [u,c]) Q E s:=by
 cases ty with
 |da=>cases(show u=Value.none from rx);exact pR PySem.W.kitx_none I.ij True.intro e (λz=>nomatch z) h
 |bl y=>cases(show u=Value.bool y from rx);exact pR PySem.W.kitx_bool I.ij True.intro e (λz=>nomatch z) h
 |int i=>obtain⟨t,q⟩:=(show ∃t,u=Value.int i t from rx);cases q;exact pR PySem.W.kitx_int I.ij True.intro e (λz=>nomatch z) h
 |str y=>obtain⟨t,q⟩:=(show ∃t,u=Value.str y t from rx);cases q;exact pR PySem.W.kitx_str I.ij True.intro e (λz=>nomatch z) h
 |wj y=>obtain⟨t,q⟩:=(show ∃t,u=Value.float y t from rx);cases q;exact pR PySem.W.kitx_float I.ij True.intro e (λz=>nomatch z) h
 | @lst a xs ea=>
  cases(show u=Value.ref a from rx)
  obtain⟨_,_,n,_,h1⟩:=(show gv X.prog X.w H s.heap a (.lst xs) from I.bz a _ ea)
  exact pR PySem.W.kitx_list I.ij ⟨_,h1,rfl⟩ e (λz=>nomatch z) h
 | @dC a ob xs ea=>
  cases(show u=Value.ref a from rx)
  obtain⟨_,_,_,n,_,h1⟩:=(show gv X.prog X.w H s.heap a (.dC ob (.lst xs)) from I.bz a _ ea)
  exact pR PySem.W.kitx_list I.ij ⟨_,h1,rfl⟩ e (λz=>nomatch z) h
 | @tup a xs ea=>
  cases(show u=Value.ref a from rx)
  obtain⟨_,_,_,p⟩:=(show gv X.prog X.w H s.heap a (.tup xs) from I.bz a _ ea)
  obtain⟨o,h1,h2,_⟩:=p;exact pR PySem.W.kitx_tuple I.ij ⟨o,h1,h2⟩ e (λz=>nomatch z) h
 | @dK a aM ea=>
  cases(show u=Value.ref a from rx)
  obtain⟨_,_,vs,_,p⟩:=(show gv X.prog X.w H s.heap a (.dK aM) from I.bz a _ ea)
  obtain⟨o,es,ep,h1,h2,_⟩:=p;exact pR PySem.W.kitx_dict I.ij ⟨o,h1,h2.1⟩ e (λz=>nomatch z) h
 | @dT a aM ea=>
  cases(show u=Value.ref a from rx)
  obtain⟨_,_,xs,_,o,es,ep,h1,h2,_⟩:=(show gv X.prog X.w H s.heap a (.dT aM) from I.bz a _ ea)
  exact pR PySem.W.kitx_dict I.ij ⟨o,h1,h2.1⟩ e (λz=>nomatch z) h
 | @ins a C dx fs ea cl ha hn Fm hm=>
  cases(show u=Value.ref a from rx)
  obtain⟨mA,O,_⟩:=U7 I.bz ea;obtain⟨od,J,_⟩:=O.look;exact pR (PySem.W.kitx_own (cl.get _) cl.hd ha hn Fm hm) I.ij J e (λz=>nomatch z) h
end
structure eW(k:Nat)(A:Around):Prop where
 hd:A.handled=none
 dp:A.depth+3*k+5<recursionLimit
 un:A.units+16*k+200<cLine
theorem eW.mono{j k:Nat}(r:eW k A)(h:j≤k):eW j A:=⟨r.hd,by have:=r.dp;lia,by have:=r.un;lia⟩
theorem eW.deeper{k:Nat}{A:Around}(r:eW (k+1) A)(env:Env):eW k (A.deeper env):=
 ⟨r.hd,by have:=r.dp;show A.depth+1+3*k+5<_;lia,by have:=r.un;show A.units+3+16*k+200<_;lia⟩
theorem eW.depth{k:Nat}{A:Around}(r:eW k A):A.depth<recursionLimit:=by have:=r.dp;lia
theorem eW.units{k:Nat}{A:Around}(r:eW k A):A.units+64<cLine:=by have:=r.un;lia
def bK:TA:=λ_ H Q=>Q [] H
def aZ(ta:TE)(tr:TA):TA:=λσ H Q=>ta σ H λx H1=>tr σ H1 λxs H2=>Q (x::xs) H2
section
variable{X:Cx}{e:Expr}{es:List Expr}{te:TE}{t:TA}{pos:Pos}
theorem aY:PA X [] bK:=λ_ _ _ _ H Q I h=>Calls.spliced_nil ⟨[],H,I,.nil,h⟩
theorem aR(ha:PE X e te)(hr:PA X es t)(hs:starEach (e::es) X.env=(false,eval e X.env)::starEach es X.env:=by rfl):PA X (e::es) (aZ te t):=by
 intro pos aL s σ H Q I h;rw[hs];show wpAny _ _ (spliced ((false,eval e X.env)::backTo pos (starEach es X.env))) _ _ s;refine Calls.spliced_cons (bh (ha aL s σ H _ I h) λu s1 ⟨x,H1,I1,r1,q1⟩=>?_);exact bh (hr pos aL s1 σ H1 _ I1 q1) λus s2 ⟨xs,H2,I2,r2,q2⟩=>⟨x::xs,H2,I2,.cons r1 r2,q2⟩
def dR(t:TA):TE:=λσ H Q=>t σ H λxs H1=>xs.length≤sizeLine∧∀p,H1 p=none→Q (.ref p) (upd H1 p (.tup xs))
def gE(t:TA):TE:=λσ H Q=>t σ H λxs H1=>xs.length≤sizeLine∧∀p,H1 p=none→Q (.ref p) (upd H1 p (.lst xs))
theorem dm{x1}(h:PA X es t):PE X (.Tuple es x1 pos) (dR t):=by
 intro aL s σ H Q I hq;refine wpAny_Tuple_spliced (bh (h pos aL s σ H _ I hq) λus s1 ⟨xs,H1,I1,r,z,q⟩=>⟨by rw[← r.length];exact z,?_⟩);have hf:H1 s1.heap.objs.size=none:=I1.bz.fresh (ck _);refine⟨.ref s1.heap.objs.size,upd H1 s1.heap.objs.size (.tup xs),I1.laid (t':=s1.toks) (λb u e=>dj _ e) (ck _) ?_,rfl,q _ hf⟩;exact⟨z,us,r,⟨_,gJ _ rfl,rfl,rfl,_,rfl⟩⟩
theorem ip(h:PA X es t):PE X (.List es pos) (gE t):=by
 intro aL s σ H Q I hq;refine wpAny_List_spliced (bh (h pos aL s σ H _ I hq) λus s1 ⟨xs,H1,I1,r,z,q⟩=>⟨by rw[← r.length];exact z,?_⟩);have hf:H1 s1.heap.objs.size=none:=I1.bz.fresh (ck _);refine⟨.ref s1.heap.objs.size,upd H1 s1.heap.objs.size (.lst xs),I1.laid (t':=s1.toks) (λb u e=>dj _ e) (ck _) ?_,rfl,q _ hf⟩;exact⟨z,us,0,r,gJ _ rfl⟩
end
abbrev Sp:=List V→Hp→VK→XK→Prop
abbrev qd:=List Env→Hp→Shared→XK→Value→Shared→Prop
structure wA(P:Program)(w:World)(K:Frag)(mg:Str→Option Value)(base:Heap)(A:Around)(outer:List Env)(s:Shared)(H:Hp):Prop where
 frames:A.frames=some outer
 mod:Mod K mg base
 bs:∀b o,base.get? b=some o→s.heap.get? b=some o∧H b=none
 qT:base.objs.size≤s.heap.objs.size
 oj:s.heap.FunFrames base outer
 uO:∀b∈l4 outer,H b=none
 bz:gy P w H s.heap
 bare:AllBare s.gens
def CE(outer:List Env)(P:Program)(w:World)(H:Hp)(s:Shared)(Q:VK)(u:Value)(s':Shared):Prop:=
 ∃v H',s'.os=s.os∧AllBare s'.gens∧Un (l4 outer) [] H H' s.heap s'.heap∧gy P w H' s'.heap∧RelV v u∧Q v H'
def CR(CX:qd)(outer:List Env)(P:Program)(w:World)(H:Hp)(s:Shared)(Q:VK)(E:XK)(r:Result)(s':Shared):Prop:=
 match r with
 | .ok (.ret u)=>CE outer P w H s Q u s'
 | .ok _=>False
 | .error e=>CX outer H s E e s'
structure cj(P:Program)(w:World)(K:Frag)(mg:Str→Option Value)(base:Heap)(CX:qd)(k:Nat)(f:Addr)(fd:FuncData)(ps:List Str)(sp:Sp):Prop where
 len:∀vs H Q E,sp vs H Q E→vs.length=ps.length
 run:∀(A:Around)(outer:List Env)(s:Shared)(H:Hp)(args:Args)(us:List Value)(vs:List V)(Q:VK)(E:XK),eW k A→wA P w K mg base A outer s H→BindsTo s fd args (ps.zip us)→Vals vs us→sp vs H Q E→
  codeAny (model P w) A (.call (.ref f) args) (CR CX outer P w H s Q E) s
theorem cj.mono{P:Program}{w:World}{K:Frag}{mg:Str→Option Value}{base:Heap}{CX:qd}{j k:Nat}{f:Addr}{fd:FuncData}{ps:List Str}{sp:Sp}(F:cj P w K mg base CX j f fd ps sp)(h:j≤k) :
  cj P w K mg base CX k f fd ps sp:=⟨F.len,λA outer s H args us vs Q E hr=>F.run A outer s H args us vs Q E (hr.mono h)⟩
section
variable{X:Cx}{aL:List (Addr×Obj)}{σ:St}{H:Hp}{s s':Shared}
theorem Inv.Fo(I:Inv X aL σ H s):wA X.prog X.w X.K X.mg X.base X.A X.stack s H:=
 ⟨I.ok.frames,I.ok.mod,I.bs,eS I.ok.qT I.sz,I.stack,I.K8,I.bz,I.bare⟩
theorem Inv.after{Q:VK}(I:Inv X aL σ H s)(h:CE X.stack X.prog X.w H s Q u s'):EP X aL σ Q u s':=by
 obtain⟨v,H',os,bare,un,bz,r,q⟩:=h;obtain⟨hh,g,d,t,Va⟩:=s';obtain rfl:Va=s.os:=os;exact⟨v,H',I.call (h':=hh) (g':=g) (d':=d) (t':=t) (ch:=[]) un bz bare (λb z=>absurd z (by simp)),r,q⟩
end
def iw(sp:Sp)(iL:List V)(E:XK)(t:TA):TE:=λσ H Q=>t σ H λvs H1=>sp (vs++iL) H1 Q E
def Binds(K:Frag)(fd:FuncData)(ps:List Str)(ds:List Value):Prop:=
 ∀(s:Shared)(us:List Value),K.In s.heap→(us++ds).length=ps.length→BindsTo s fd ⟨us,[]⟩ (ps.zip (us++ds))
theorem Binds.all{K:Frag}{fd:FuncData}{ps:List Str}(h:∀us:List Value,us.length=ps.length→bindArgs fd ⟨us,[]⟩=pure (ps.zip us)):Binds K fd ps []:=λs us _ hl=>by
 rw[hJ]at hl ⊢;exact .of_eq (h us hl)
def Passes(CX:qd)(X:Cx)(E:XK):Prop:=∀(aL:List (Addr×Obj))(σ:St)(H:Hp)(s:Shared)(e:Value)(s':Shared),Inv X aL σ H s→CX X.stack H s E e s'→X.xe e s'
section
variable{X:Cx}{CX:qd}{k:Nat}{f C:Addr}{fd:FuncData}{ps:List Str}{sp:Sp}{iL:List V}{ds:List Value}{E:XK}{x m:Str}{p pos jJ:Pos}{e o:Expr}{es:List Expr}{ta:TE}{t:TA}
theorem Vb{Q:VK}{vs:List V}(F:cj X.prog X.w X.K X.mg X.base CX k f fd ps sp)(hr:eW k X.A)(hb:Binds X.K fd ps ds)(hd:Vals iL ds)(hx:Passes CX X E)
  (I:Inv X aL σ H s) (r:Vals vs us) (h:sp (vs++iL) H Q E):wpAny (model X.prog X.w) X.A (call (.ref f) us) (EP X aL σ Q) X.xe s:=by
 have r2:Vals (vs++iL) (us++ds):=r.append hd;have hl:(us++ds).length=ps.length:=by rw[← r2.length];exact F.len _ _ _ _ h
 refine wpAny_call (codeAny_mono (F.run X.A X.stack s H ⟨us,[]⟩ (us++ds) (vs++iL) Q E hr I.Fo (hb s us I.ij hl) r2 h) λr s' hq=>?_);cases r with
 |error e=>exact hx aL σ H s e s' I hq
 |ok fl=>
  cases fl with
  |ret u=>exact I.after hq
  |next=>exact False.elim hq
  |brk=>exact False.elim hq
  |cont=>exact False.elim hq
theorem cV(F:cj X.prog X.w X.K X.mg X.base CX k f fd ps sp)(hr:eW k X.A)(hg:Gl X x)(hm:X.mg x=some (.ref f))(hk:Kp X.K f)(hb:Binds X.K fd ps ds)(hd:Vals iL ds)(hx:Passes CX X E)
  (ha:PA X (e::es) t) (u9:(x==("__debug__":Str))=false:=by decide) (he:starEach (e::es) X.env=(false,eval e X.env)::starEach es X.env:=by rfl) (qe:(backTo pos (starEach es X.env)).any (·.1)=false:=by rfl) :
  PE X (.Call (.Name x p) (e::es) [] pos) (iw sp iL E t):=by
 intro aL s σ H Q I h;refine av (E4 I hg hm ?_ u9);refine PySem.W.callWith_K (h₀:=X.base) I.ok.mod.uN hk (bh (ha pos aL s σ H _ I h) λus s1 ⟨vs,H1,I1,r,q⟩=>⟨I1.ij,?_⟩) he qe;exact Vb F hr hb hd hx I1 r q
end
section
variable{X:Cx}{CX:qd}{k:Nat}{f C:Addr}{fd:FuncData}{ps ks:List Str}{sp:Sp}{E:XK}{x m:Str}{p pos jJ adt:Pos}{e o:Expr}{es:List Expr}{kws:List Keyword}{te ta:TE}{t tk:TA}{nm:Option Str}
variable{g:List Value→List Value→List Value}{gV:List V→List V→List V}
end
structure dU(N P:List Str)(sc:Scope):Prop where
 kind:sc.kind=.function
 co:sc.isCoroutine=false
 gen:sc.isGenerator=false
 nd:N.Nodup
 pre:N.take P.length=P
 par:∀x∈P,sc.names.lookup x=some .local∨sc.names.lookup x=some .cell
 Vc:∀y∈sc.names,y.2≠.free
theorem eT{N P:List Str}{sc:Scope}(a:sc.kind=.function)(b:sc.isCoroutine=false)(c:sc.isGenerator=false)(h:N.Nodup∧(∀x∈P,sc.names.lookup x=some .local∨sc.names.lookup x=some .cell)∧∀y∈sc.names,y.2≠.free)(e:N.take P.length=P):dU N P sc:=⟨a,b,c,h.1,e,h.2.1,h.2.2⟩
theorem LD{kindOf:Str→Option NameKind}{x:Str}:∀{binds:List (Str×Value)}{m:Str→Option Value},(∀v,(x,v) ∉ binds)→bindL kindOf binds m x=m x
 | [],_,_=>rfl
 |(n,v)::r,m,h=>by
  unfold bindL;rw[LD λw hw=>h w (fK _ hw)];split
  ·have:x≠n:=by rintro rfl;exact h v cU
   simp[this]
  ·rfl
theorem LF{kindOf:Str→Option NameKind}{x:Str}:∀{binds:List (Str×Value)}{m:Str→Option Value},(∀v,(x,v) ∉ binds)→bindC kindOf binds m x=m x
 | [],_,_=>rfl
 |(n,v)::r,m,h=>by
  unfold bindC;rw[LF λw hw=>h w (fK _ hw)];split
  ·rfl
  ·have:x≠n:=by rintro rfl;exact h v cU
   simp[this]
theorem LG{kindOf:Str→Option NameKind}{x:Str}{v:Value}:∀{P:List Str}{vs:List Value}{i:Nat}{m:Str→Option Value},P.Nodup→P[i]?=some x→vs[i]?=some v→kindOf x=some .local→
  bindL kindOf (P.zip vs) m x=some v
 | [],_,_,_,_,h,_,_=>by simp at h
 |_::_,[],_,_,_,_,h,_=>by simp at h
 |p::P,w::vs,0,m,nd,h1,h2,hk=>by
  simp at h1 h2;subst h1;subst h2;show bindL kindOf ((p,w)::P.zip vs) m p=_;unfold bindL;rw[LD λv hv=>(sG.mp nd).1 (v9 hv).1,af hk];simp
 |p::P,w::vs,i+1,m,nd,h1,h2,hk=>by
  show bindL kindOf ((p,w)::P.zip vs) m x=_;unfold bindL;exact LG (i:=i) (sG.mp nd).2 (by simpa using h1) (by simpa using h2) hk
theorem LH{kindOf:Str→Option NameKind}{x:Str}{v:Value}:∀{P:List Str}{vs:List Value}{i:Nat}{m:Str→Option Value},P.Nodup→P[i]?=some x→vs[i]?=some v→kindOf x≠some .local→
  bindC kindOf (P.zip vs) m x=some v
 | [],_,_,_,_,h,_,_=>by simp at h
 |_::_,[],_,_,_,_,h,_=>by simp at h
 |p::P,w::vs,0,m,nd,h1,h2,hk=>by
  simp at h1 h2;subst h1;subst h2;show bindC kindOf ((p,w)::P.zip vs) m p=_;unfold bindC;rw[LF λv hv=>(sG.mp nd).1 (v9 hv).1,ag hk];simp
 |p::P,w::vs,i+1,m,nd,h1,h2,hk=>by
  show bindC kindOf ((p,w)::P.zip vs) m x=_;unfold bindC;exact LH (i:=i) (sG.mp nd).2 (by simpa using h1) (by simpa using h2) hk
noncomputable def start(N:List Str)(vs:List V):St:=vs.map some++List.replicate (N.length-vs.length) none
noncomputable def nq(CX:qd)(P:Program)(w:World)(K:Frag)(mg:Str→Option Value)(base:Heap)(N:List Str)(qual:Str)(scope:Scope)(f:Addr)(cd:Value)(A:Around)(outer:List Env)(s:Shared)(H:Hp)(E:XK):Cx where
 prog:=P
 w:=w
 K:=K
 mg:=mg
 base:=base
 A:=A.deeper (envOfC qual scope s.heap.objs.size f cd)
 N:=N
 s₀:=s
 H₀:=H
 env:=envOfC qual scope s.heap.objs.size f cd
 outer:=outer
 stack:=envOfC qual scope s.heap.objs.size f cd::outer
 ex:=[]
 calm:=true
 fn:=λ_=>true
 pn:=[]
 xe:=λe s'=>wpAny (model P w) (A.deeper (envOfC qual scope s.heap.objs.size f cd)) (leaving (envOfC qual scope s.heap.objs.size f cd) e) (λ_ iS=>CX outer H s E e iS) (λe' iS=>CX outer H s E e' iS) s'
theorem Fp{sc:Scope}(h:sc.names.lookup x=some .cell):∃c,(cellsFrom n sc.names []).lookup x=some c:=by
 have q:=EV sc.names n [] (.inl h);exact Option.isSome_iff_exists.mp q
theorem Fq{CX:qd}{P:Program}{w:World}{K:Frag}{mg:Str→Option Value}{base:Heap}{N ps:List Str}{qual:Str}{scope:Scope}{f:Addr}{cd:Value}{outer:List Env}{s1:Shared}{E:XK}{vs:List V}
  (S:dU N ps scope) (hd:A.handled=none) (e0:wA P w K mg base A outer s H) (hl:vs.length=ps.length) (r:Vals vs us)
  (x:InCallC s s.heap.objs.size (bindL (envOfC qual scope s.heap.objs.size f cd).kindOf (ps.zip us) λ_=>none) (cellsFrom (s.heap.objs.size+1) scope.names []) (bindC (envOfC qual scope s.heap.objs.size f cd).kindOf (ps.zip us) λ_=>none) s1) :
  Inv (nq CX P w K mg base N qual scope f cd A outer s H E) [] (start N vs) H s1:=by
 have qe:ps.length≤N.length:=by have:=aj List.length S.pre;rw[dE]at this;lia
 obtain⟨h1,tk,rfl,hk⟩:=x.done;have vc:∀b:Addr,b ∉ (nq CX P w K mg base N qual scope f cd A outer s H E).ex:=λb z=>absurd (show b∈([]:List Addr) from z) (by simp)
 refine⟨⟨e0.mod,S.kind,rfl,rfl,ck _,λy z c h1 h2=>?_,λy hy=>?_,λy c _ h=>?_,λ_=>hd,Around.frames_deeper e0.frames,.inr ⟨rfl,rfl⟩,λb z=>absurd z (vc b),e0.bs,e0.qT,λb _ _=>vc b,λb z=>absurd z (vc b),e0.oj,e0.uO⟩,
  rfl,e0.bare,Un.kept hk,⟨_,x.toInCall.ns,λi y v h1 h2 h3=>?_⟩,λy c h=>⟨_,x.cell y c h⟩,e0.bz.fresh (ck _),λy c h=>?_,λp hp=>absurd (show p∈([]:List (Addr×Obj)) from hp) (by simp),e0.bz.kept hk,?_⟩
 ·exact name_of_addr x.apart (pS h1) (pS h2)
 ·have hy:scope.names.lookup y=some .cell∨scope.names.lookup y=some .free:=hy;rcases hy with hy|hy
  ·exact Fp hy
  ·exact absurd rfl (S.Vc _ (pS hy))
 ·exact Nat.le_of_lt (x.above y c (pS h))
 ·have hi:i<vs.length:=by
   unfold start at h2;by_cases hi:i<vs.length
   ·exact hi
   ·rw[hU (by simpa using hi)]at h2;rw[Bf]at h2;split at h2<;>cases h2
  have ha:vs[i]?=some v:=by
   unfold start at h2;rw[gS (by simpa using hi),du]at h2;cases e:vs[i]? with
   |none=>rw[e]at h2;cases h2
   |some a=>rw[e]at h2;cases h2;rfl
  obtain⟨u,hu,rv⟩:=r.get ha;have hp:ps[i]?=some y:=by
   rw[← S.pre,List.getElem?_take_of_lt (by lia)];exact h1
  have LI:ps.Nodup:=by rw[← S.pre];exact S.nd.sublist (List.take_sublist _ _)
  refine⟨u,rv,?_⟩;rcases S.par y (dI hp)with k|k
  ·exact .inl ⟨k,LG LI hp hu k⟩
  ·obtain⟨c,e⟩:=Fp (n:=s.heap.objs.size+1) k;refine .inr ⟨.inl k,c,e,?_⟩;have q:=x.cell y c e;rw[LH LI hp hu (by show scope.names.lookup y≠_;rw[k];decide)]at q;exact q
 ·exact e0.bz.fresh (Nat.le_of_lt (x.above y c (pS h)))
 ·unfold start;show _=N.length;rw[bY,bO,jG];lia
theorem LJ{CX:qd}{P:Program}{w:World}{K:Frag}{mg:Str→Option Value}{base:Heap}{k:Nat}{f:Addr}{name qual:Str}{params:Arguments}{body:List Stmt}{scope:Scope}{dV kV doc pm cq ct oc:Value}{an od:Option Addr}
  {ot:Array (Option Value)} {N ps:List Str} {sp:Sp} (lk:K.lookup f=some ⟨oc,od,.func (fnOf name qual params body scope dV kV doc pm an cq ct),ot⟩) (i6:PySem.W.codeIn K cq qual=true) (S:dU N ps scope)
  (len:∀vs H Q E,sp vs H Q E→vs.length=ps.length)
  (pf:∀(A:Around)(outer:List Env)(s:Shared)(H:Hp)(vs:List V)(Q:VK)(E:XK),eW k (A.deeper (envOfC qual scope s.heap.objs.size f cq))→sp vs H Q E→
   ∃t,kg (nq CX P w K mg base N qual scope f cq A outer s H E) body t∧t { nx:=λ_ H'=>Q .da H',rt:=Q } (start N vs) H) :
  cj P w K mg base CX (k+1) f (fnOf name qual params body scope dV kV doc pm an cq ct) ps sp:=by
 refine⟨len,λA outer s H args us vs Q E hr e0 hb r jv=>?_⟩;have hl:=len _ _ _ _ jv;have KX:K.In s.heap:=e0.mod.uN.keeps λb o e=>(e0.bs b o e).1;have lim:s.heap.NoLimit:=e0.mod.nolimit.keeps λb o e=>(e0.bs b o e).1;have yQ:∀y∈ps.zip us,scope.names.lookup y.1=some .local∨(scope.names.lookup y.1=some .cell∧((cellsFrom (s.heap.objs.size+1) scope.names []).lookup y.1).isSome=true):=λ⟨n,v⟩ hy=>by
  rcases S.par n (v9 hy).1 with q|q
  ·exact .inl q
  ·exact .inr ⟨q,EV _ _ _ (.inl q)⟩
 refine codeAny_call_function hr.depth (KX _ _ lk) rfl S.co S.gen rfl (PySem.W.codeRec_of KX i6) (hb _ _ _ _ ?_);refine ax S.kind yQ λenv he s1 x=>?_;subst he;refine⟨lim.keeps x.toInCall.keep,codeAny_func ?_⟩;obtain⟨t,ht,hq⟩:=pf A outer s H vs Q E (hr.deeper _) jv;have I:Inv (nq CX P w K mg base N qual scope f cq A outer s H E) [] (start N vs) H s1:=Fq S hr.hd e0 hl r x;refine ah (ht [] s1 (start N vs) H _ I hq) (λfl s' hs=>?_) λe s' hs=>hs;have fin:∀{σ':St}{H':Hp}{v:V}{u:Value},Inv (nq CX P w K mg base N qual scope f cq A outer s H E) [] σ' H' s'→RelV v u→Q v H'→CE outer P w H s Q u s':=
  λ{σ' H' v u} J rv q=>⟨v,H',J.os,J.bare,J.base,J.bz,rv,q⟩
 cases fl with
 |ret u=>
  obtain⟨v,σ',H',J,rv,q⟩:=hs;exact fin J rv q
 |next=>
  obtain⟨σ',H',J,q⟩:=hs;exact fin (v:=V.da) (u:=Value.none) J rfl q
 |brk=>
  obtain⟨_,_,_,q⟩:=hs;exact False.elim q
 |cont=>
  obtain⟨_,_,_,q⟩:=hs;exact False.elim q
section
variable{X:Cx}{x:Str}{p pos:Pos}{e:Expr}{es:List Expr}{t:TA}{id T:String}{r:List V→Hp→VK→Prop}
def lg(r:List V→Hp→VK→Prop)(t:TA):TE:=λσ H Q=>t σ H λvs H1=>r vs H1 Q
theorem iD(hc:gY X (.builtin id) r)(hg:Gl X x)(hm:X.mg x=none)(hv:bootBuiltins x=some (.builtin id))(ha:PA X (e::es) t)(hn:x ≠ "__name__":=by decide)(u9:(x==("__debug__":Str))=false:=by decide)
  (he:starEach (e::es) X.env=(false,eval e X.env)::starEach es X.env:=by rfl) (qe:(backTo pos (starEach es X.env)).any (·.1)=false:=by rfl):PE X (.Call (.Name x p) (e::es) [] pos) (lg r t):=by
 intro aL s σ H Q I h;refine av (uS I hg hm hv ?_ hn u9);exact PyProof.Rows.callWith_builtin1 (bh (ha pos aL s σ H _ I h) λus s1 ⟨vs,H1,I1,r1,q1⟩=>hc aL s1 σ H1 vs us Q I1 r1 q1) he qe
theorem iT(hc:gY X (.type T) r)(hg:Gl X x)(hm:X.mg x=none)(hv:bootBuiltins x=some (.type T))(ha:PA X (e::es) t)(hn:x ≠ "__name__":=by decide)(u9:(x==("__debug__":Str))=false:=by decide)
  (he:starEach (e::es) X.env=(false,eval e X.env)::starEach es X.env:=by rfl) (qe:(backTo pos (starEach es X.env)).any (·.1)=false:=by rfl):PE X (.Call (.Name x p) (e::es) [] pos) (lg r t):=by
 intro aL s σ H Q I h;refine av (uS I hg hm hv ?_ hn u9);exact EU (bh (ha pos aL s σ H _ I h) λus s1 ⟨vs,H1,I1,r1,q1⟩=>hc aL s1 σ H1 vs us Q I1 r1 q1) he qe
end
end L2
namespace HT
open PySem PyProof.Rows
section
open PySem.SeqAt
open PySem.AutoSeq1 (wpAny_loadPart')
open PySem.MeetsSeq PySem.MeetsSeq2 PySem.MeetsSeq3
end
section
variable{prog:Program}{w:World}{A:Around}{E:QV}{s:Shared}
theorem Vd{t b:Addr}{vs ws:List Value}{Q:QV}(ht:IsTup s.heap t vs.toArray)(hb:IsTup s.heap b ws.toArray)(hv:vs≠[])
  (h1:ws=[]→Q (.ref t) s) (h2:ws≠[]→Q (.ref s.heap.objs.size) { s with heap:=s.heap.push { cls:=.type "tuple",data:=.seq (vs++ws).toArray } })
  (hsz:vs.length+ws.length≤sizeLine):wpAny (model prog w) A (binaryOp .Add (.ref t) (.ref b)) Q E s:=by
 obtain⟨⟨cls,dd,data,sl⟩,ho,hc,n,hd⟩:=id ht;obtain⟨⟨adu,BJ,data2,BK⟩,vd,ph,n2,jh⟩:=id hb;simp only at hc hd ph jh;subst hc hd ph jh;have e:vs.toArray++ws.toArray=(vs++ws).toArray:=by simp
 by_cases hw:ws=[]
 ·exact concat_meets ⟨_,ho,rfl⟩ ⟨_,vd,rfl⟩ noFill_tuple_add seq_tuple_add PySem.F.slot_tuple_add PySem.F.entry_tuple_add (PySem.F.args_tuple_add_2 _ _)
   (tuple_addW1 t b vs.toArray ws.toArray n n2 dd BJ sl BK (by simpa using hv) (by simp[hw])) ⟨ho,vd,h1 hw⟩
 ·refine concat_meets ⟨_,ho,rfl⟩ ⟨_,vd,rfl⟩ noFill_tuple_add seq_tuple_add PySem.F.slot_tuple_add PySem.F.entry_tuple_add (PySem.F.args_tuple_add_2 _ _)
   (tuple_addW2 t b vs.toArray ws.toArray n n2 dd BJ sl BK (by simpa using hv) (by simpa using hw) (by rw[eE,eE];exact hsz)) ⟨ho,vd,?_⟩
  rw[e];exact h2 hw
noncomputable def cK(n d:Nat):Option Int→Nat
 |none=>d
 |some v=>if v<0 then(v+(n:Int)).toNat else min v.toNat n
theorem LK(n d:Nat):cK n d none=d:=rfl
theorem BL(n d k:Nat):cK n d (some (k:Int))=min k n:=by
 show(if(k:Int)<0 then((k:Int)+(n:Int)).toNat else min (k:Int).toNat n)=min k n
 rw[ag (by lia),Int.toNat_natCast]
theorem Ve(n d:Nat)(hd:d≤n)(o:Option Int):cK n d o≤n:=by
 cases o with
 |none=>exact hd
 |some v=>
  show(if v<0 then(v+(n:Int)).toNat else min v.toNat n)≤n
  by_cases hv:v<0
  ·rw[af hv];lia
  ·rw[ag hv];exact Nat.min_le_right _ _
theorem LM(v:Int)(n d:Nat):(if v<0 then max (v+(n:Int)) 0 else min v (n:Int))=((cK n d (some v):Nat):Int):=by
 show(if v<0 then max (v+(n:Int)) 0 else min v (n:Int))=(((if v<0 then(v+(n:Int)).toNat else min v.toNat n):Nat):Int)
 by_cases hv:v<0
 ·simp only[af hv];lia
 ·simp only[ag hv];lia
theorem Vf(lo hi:Option Int)(n:Nat):Builtin.Slice.sliceAdjust lo hi 1 (n:Int)=(((cK n 0 lo:Nat):Int),((cK n n hi:Nat):Int)):=by
 have h1:¬((1:Int)<0):=by lia
 unfold Builtin.Slice.sliceAdjust;simp only[h1,if_false];refine Prod.ext ?_ ?_
 ·cases lo with
  |none=>rfl
  |some v=>exact LM v n 0
 ·cases hi with
  |none=>rfl
  |some v=>exact LM v n n
theorem Vg(i j:Nat):Builtin.Slice.slicePlaces (i:Int) (j:Int) 1=j-i:=by
 unfold Builtin.Slice.slicePlaces;have h1:(1:Int)>0:=by lia
 simp only[h1,if_true,Int.ediv_one];split<;>lia
theorem LN{v:Value}{o:Option Int}{Q:Option Int→Shared→Prop}(p:IsPart v o)(h:Q o s):wpAny (model prog w) A (Builtin.Slice.slicePartIndex v) Q E s:=by
 cases p with
 |none=>exact slicePart_none h
 |int i t=>exact slicePart_int h
theorem LO{sl:Addr}{vl vu:Value}{lo hi:Option Int}{n:Nat}{Q:Int×Int×Nat→Shared→Prop}(hs:s.heap.IsSliceOf sl vl vu .none)(pl:IsPart vl lo)(pu:IsPart vu hi)
  (h:Q (((cK n 0 lo:Nat):Int),1,cK n n hi-cK n 0 lo) s):wpAny (model prog w) A (Builtin.Slice.sliceApplied (.ref sl) (pure (n:Int))) Q E s:=by
 obtain⟨os,ve,wB,yR⟩:=id hs;unfold Builtin.Slice.sliceApplied Builtin.Slice.sliceFields;refine ak (ak (wpAny_field ve yR (x:=vl) rfl (ak (wpAny_field ve yR (x:=vu) rfl (ak (wpAny_field ve yR (x:=.none) rfl (aq ?_)))))));refine ak (slicePart_none ?_);show wpAny _ _ (if((1:Int)==0)=true then _ else _) _ _ s
 rw[ag (by decide)];refine ak (LN pl (ak (LN pu (ak (aq ?_)))));show wpAny _ _ (match Builtin.Slice.sliceAdjust lo hi 1 (n:Int)with|(lo,hi)=>pure (lo,(1:Int),Builtin.Slice.slicePlaces lo hi 1)) _ _ s
 rw[Vf lo hi n];show wpAny _ _ (pure (((cK n 0 lo:Nat):Int),(1:Int),Builtin.Slice.slicePlaces ((cK n 0 lo:Nat):Int) ((cK n n hi:Nat):Int) 1)) _ _ s;rw[Vg];exact aq h
theorem Vh(xs:Array Value)(i k:Nat):((List.range k).filterMap λ(m:Nat)=>xs[((i:Int)+(m:Int)*1).toNat]?).toArray=((xs.toList.drop i).take k).toArray:=by
 have e:(λ(m:Nat)=>xs[((i:Int)+(m:Int)*1).toNat]?)=λm=>xs[i+m]?:=by
  funext m
  have:((i:Int)+(m:Int)*1).toNat=i+m:=by lia
  rw[this]
 rw[e]
 have:=pick_run xs i k
 rw[List.filterMap_map]at this;have e2:((λx=>xs[x]?) ∘ λx=>i+x)=λm=>xs[i+m]?:=rfl;rw[e2]at this;rw[this]
theorem Vi{t sl:Addr}{items:Array Value}{vl vu:Value}{lo hi:Option Int}{Q:QV}(ht:IsTup s.heap t items)(hs:s.heap.IsSliceOf sl vl vu .none)(pl:IsPart vl lo)(pu:IsPart vu hi)
  (hw:¬(cK items.size 0 lo=0∧cK items.size items.size hi=items.size))
  (h:Q (.ref s.heap.objs.size) { s with heap:=s.heap.push { cls:=.type "tuple",data:=.seq ((items.toList.drop (cK items.size 0 lo)).take (cK items.size items.size hi-cK items.size 0 lo)).toArray } })
  (hsz:items.size≤sizeLine):wpAny (model prog w) A (getItem (.ref t) (.ref sl)) Q E s:=by
 have BM:sizeOk (.seq ((items.toList.drop (cK items.size 0 lo)).take (cK items.size items.size hi-cK items.size 0 lo)).toArray):=by
  show((items.toList.drop (cK items.size 0 lo)).take (cK items.size items.size hi-cK items.size 0 lo)).toArray.size≤sizeLine;rw[eE,dE,iK,yh];lia
 have hj:cK items.size items.size hi≤items.size:=Ve _ _ (ck _) hi;obtain⟨os,ve,wB,yR⟩:=id hs;have Fs:s.TypeIs (.ref sl) "slice":=⟨os,ve,wB⟩;unfold getItem
 try with_reducible refine ao ?_
 first|refine ak (aq ?_)|skip
 refine ak (wpAny_sequenceKey ht.typeIs (by decide) ?_);refine ak (ay (name:=Str.ofString "__getitem__") ht.typeIs Bg (az Bg ht.typeIs entry_tuple_getitem ?_ (args_tuple_getitem _ _)));show wpAny _ _ (Builtin.Tuple.tupleItemsOf (.ref t) >>= _) _ _ s;refine ak (tupleItemsOf_ ht ?_);refine ak (wpAny_typeOf Fs ?_);rw[af (by decide)];refine ak (LO hs pl pu ?_);have qY:¬((((cK items.size 0 lo:Nat):Int)==0&&(1:Int)==1&&(cK items.size items.size hi-cK items.size 0 lo)==items.size)=true):=by
  intro q;rw[ir,ir]at q;have q1:((cK items.size 0 lo:Nat):Int)=0:=eq_of_beq q.1.1;have q2:cK items.size items.size hi-cK items.size 0 lo=items.size:=eq_of_beq q.2;exact hw ⟨by lia,by lia⟩
 show wpAny _ _ (if(((cK items.size 0 lo:Nat):Int)==0&&(1:Int)==1&&(cK items.size items.size hi-cK items.size 0 lo)==items.size)=true then _ else _) _ _ s
 rw[ag qY,Vh];first
  |exact ak (m:=Builtin.Tuple.tupleExact _) (aA (aq ⟨_,rfl,aq h⟩) BM)
  |exact ak (m:=Builtin.Tuple.tupleExact _) (aA (ak (aq (aq ⟨_,rfl,aq h⟩))) BM)
  |exact ak (ak (m:=Builtin.Tuple.tupleExact _) (aA (aq (aq ⟨_,rfl,aq h⟩)) BM))
  |exact ak (ak (m:=Builtin.Tuple.tupleExact _) (aA (aq ⟨_,rfl,aq h⟩) BM))
end
end HT
namespace L2
open PySem PySem.Spec PyProof.Rows
variable{its:List Value}{n:Nat}{s:Shared}{x:V}{α:Type}
abbrev TO:=St→Hp→(Option Int→Hp→Prop)→Prop
def PO(X:Cx)(e:Option Expr)(t:TO):Prop:=
 ∀(aL:List (Addr×Obj))(s:Shared)(σ:St)(H:Hp)(Q:Option Int→Hp→Prop),Inv X aL σ H s→t σ H Q→
  wpAny (model X.prog X.w) X.A (evalPart e X.env) (λu s'=>∃o H',Inv X aL σ H' s'∧IsPart u o∧Q o H') X.xe s
def nr:TO:=λ_ H Q=>Q none H
def jU(t:TE):TO:=λσ H Q=>t σ H λx H1=>∃i,x=.int i∧Q (some i) H1
section
variable{X:Cx}{e:Expr}{te:TE}{lo hi:Option Expr}{tl th:TO}{pos p2:Pos}
theorem ki:PO X none nr:=by
 intro aL s σ H Q I h;rw[evalPart_none];exact aq ⟨none,H,I,.none,h⟩
theorem i7(h:PE X e te):PO X (some e) (jU te):=by
 intro aL s σ H Q I hw;rw[evalPart_some];refine bh (h aL s σ H _ I hw) λu s1 ⟨x,H1,I1,r1,q1⟩=>?_;obtain⟨i,rfl,q⟩:=q1;obtain⟨t,rfl⟩:=r1;exact⟨some i,H1,I1,.int i t,q⟩
def wC(X:Cx)(r:V→Option Int→Option Int→Hp→VK→Prop):Prop:=
 ∀(aL:List (Addr×Obj))(s:Shared)(σ:St)(H:Hp)(x:V)(v vl vu:Value)(lo hi:Option Int)(sl:Addr)(Q:VK),Inv X aL σ H s→RelV x v→s.heap.IsSliceOf sl vl vu .none→IsPart vl lo→IsPart vu hi→r x lo hi H Q→
  ∃T id,typeLookup (.type T) "__getitem__"=pure (some (.builtin id))∧s.TypeIs v T∧wpAny (model X.prog X.w) X.A (getItem v (.ref sl)) (EP X aL σ Q) X.xe s
def lq(r:V→Option Int→Option Int→Hp→VK→Prop)(te:TE)(tl th:TO):TE:=λσ H Q=>te σ H λx H1=>tl σ H1 λl H2=>th σ H2 λu H3=>r x l u H3 Q
theorem jV{r:V→Option Int→Option Int→Hp→VK→Prop}(hr:wC X r)(he:PE X e te)(hl:PO X lo tl)(hu:PO X hi th):PE X (.Subscript e (.Slice lo hi none p2) pos) (lq r te tl th):=by
 intro aL s σ H Q I h;refine Subscript_ (bh (he aL s σ H _ I h) λv s1 ⟨x,H1,I1,r1,q1⟩=>?_);refine wpAny_Slice (bh (hl aL s1 σ H1 _ I1 q1) λvl s2 ⟨l,H2,I2,pl,q2⟩=>bh (hu aL s2 σ H2 _ I2 q2) λvu s3 ⟨u,H3,I3,pu,q3⟩=>?_);rw[evalPart_none];refine aq ?_;have I4:Inv X aL σ H3 { s3 with heap:=s3.heap.push { cls:=.type "slice",data:=.fields #[vl,vu,.none] } }:=I3.kept (t':=s3.toks) λb ob q=>dj _ q;obtain⟨T,id,hT,ht,hg⟩:=hr aL { s3 with heap:=s3.heap.push { cls:=.type "slice",data:=.fields #[vl,vu,.none] } } σ H3 x v vl vu l u s3.heap.objs.size Q I4 r1 (Heap.IsSliceOf.new ..) pl pu q3;show wpAny (model X.prog X.w) X.A (subscriptTail e (.Slice lo hi none p2) v (.ref s3.heap.objs.size)) (EP X aL σ Q) X.xe { s3 with heap:=s3.heap.push { cls:=.type "slice",data:=.fields #[vl,vu,.none] } };exact tail_any (ops:=[.ref s3.heap.objs.size,v]) ht hT hg (by with_unfolding_all rfl)
noncomputable def jW(xs:List V)(lo hi:Option Int):List V:=(xs.drop (HT.cK xs.length 0 lo)).take (HT.cK xs.length xs.length hi-HT.cK xs.length 0 lo)
theorem LP(xs:List V)(lo hi:Option Int):(jW xs lo hi).length≤xs.length:=by
 unfold jW;rw[dE,iK];lia
def Vj(K:Frag):V→Option Int→Option Int→Hp→VK→Prop:=λx lo hi H Q=>∃a xs,x=.ref a∧bj K H a xs∧
 ¬(HT.cK xs.length 0 lo=0∧HT.cK xs.length xs.length hi=xs.length)∧∀p,H p=none→Q (.ref p) (upd H p (.tup (jW xs lo hi)))
theorem Vk:wC X (Vj X.K):=by
 intro aL s σ H x v vl vu lo hi sl Q I rx hs pl pu h;obtain⟨a,xs,rfl,hx,hw,q⟩:=h;cases rx;obtain⟨its,r,ht,hz⟩:=I.tuple hx;have cD:its.toArray.size=xs.length:=by rw[eE];exact r.length.symm
 refine⟨"tuple",_,Bg.lookup,ht.typeIs,?_⟩;refine HT.Vi ht hs pl pu (by rw[cD];exact hw) ?_ (by rw[cD];exact hz);rw[cD];refine⟨.ref s.heap.objs.size,_,I.laid (t':=s.toks) (o:=.tup (jW xs lo hi)) (λb ob q=>dj _ q) (ck _) ?_,rfl,q _ (I.bz.fresh (ck _))⟩;exact⟨eS (LP xs lo hi) hz,_,(r.drop (HT.cK xs.length 0 lo)).take (HT.cK xs.length xs.length hi-HT.cK xs.length 0 lo),pY.new _ _⟩
def Vl(K:Frag):R2:=λx y H Q=>∃a b xs ys,x=.ref a∧y=.ref b∧bj K H a xs∧bj K H b ys∧xs≠[]∧xs.length+ys.length≤sizeLine∧
 (ys=[]→Q (.ref a) H)∧(ys≠[]→∀p,H p=none→Q (.ref p) (upd H p (.tup (xs++ys))))
theorem Vals.BN{xs:List V}{us:List Value}(r:Vals xs us):us=[]↔xs=[]:=by
 cases r with
 |nil=>simp
 |cons _ _=>simp
theorem Vm:ik X (binaryOp .Add) (Vl X.K):=by
 intro aL s σ H x y v u Q I rx ry h;obtain⟨a,b,xs,ys,rfl,rfl,ha,hb,hx,hz,q1,q2⟩:=h;cases rx;cases ry;obtain⟨its,r1,p1,_⟩:=I.tuple ha;obtain⟨wD,r2,p2,_⟩:=I.tuple hb;refine HT.Vd p1 p2 (λz=>hx (r1.BN.mp z)) (λz=>⟨.ref a,H,I,rfl,q1 (r2.BN.mp z)⟩) (λz=>?_) (by rw[← r1.length,← r2.length];exact hz);refine⟨.ref s.heap.objs.size,_,I.laid (t':=s.toks) (o:=.tup (xs++ys)) (λb ob q=>dj _ q) (ck _) ?_,rfl,q2 (λw=>z (r2.BN.mpr w)) _ (I.bz.fresh (ck _))⟩;exact⟨by rw[bY];exact hz,_,r1.append r2,pY.new _ _⟩
end
noncomputable def qZ(n:Nat)(i:Int):Option Nat:=if 0≤i then(if i<n then some i.toNat else none)else if -(n:Int)≤i then some (i+n).toNat else none
noncomputable def q4(xs:List α)(i:Int):Option α:=(qZ xs.length i).bind λj=>xs[j]?
theorem LQ{i:Int}{j:Nat}(h:qZ n i=some j):seqIndex? i n=some j∧j<n∧-(n:Int)≤i∧i<n:=by
 unfold qZ at h;by_cases h0:0≤i
 ·rw[af h0]at h;by_cases h1:i<n
  ·rw[af h1]at h;have e:i.toNat=j:=dZ h;exact⟨by rw[seqIndex_of h0 h1,e],by lia,by lia,h1⟩
  ·rw[ag h1]at h;cases h
 ·rw[ag h0]at h;by_cases h1:-(n:Int)≤i
  ·rw[af h1]at h;have e:(i+n).toNat=j:=dZ h;exact⟨by rw[seqIndex_neg (by lia) h1,e],by lia,h1,by lia⟩
  ·rw[ag h1]at h;cases h
theorem LR{xs:List α}{i:Int}{v:α}(h:q4 xs i=some v):∃j,seqIndex? i xs.length=some j∧xs[j]?=some v∧j<xs.length∧-(xs.length:Int)≤i∧i<xs.length:=by
 unfold q4 at h;cases e:qZ xs.length i with
 |none=>rw[e]at h;cases h
 |some j=>
  rw[e]at h;obtain⟨h1,h2,h3,h4⟩:=LQ e;exact⟨j,h1,h,h2,h3,h4⟩
theorem cw{xs:List α}{j:Nat}{v:α}(h:xs[j]?=some v):q4 xs (j:Int)=some v:=by
 have hj:j<xs.length:=(dH.mp h).1;have e:qZ xs.length (j:Int)=some j:=by
  unfold qZ;rw[af (by lia),af (by lia)];simp
 unfold q4;rw[e];exact h
theorem LU(xs:List α)(v:α):q4 (xs++[v]) (-1)=some v:=by
 have hl:(xs++[v]).length=xs.length+1:=by simp
 have e:qZ (xs++[v]).length (-1)=some xs.length:=by
  unfold qZ;rw[hl,ag (by decide),af (by lia)]
  congr 1
  lia
 unfold q4;rw[e];show(xs++[v])[xs.length]?=some v;simp
def Vn(b:Expr):Prop:=∀o i,subscripted b false o i=operate [o,i] (getItem o i)
def yS(X:Cx)(r:R2):Prop:=
 ∀(value slice:Expr)(aL:List (Addr×Obj))(s:Shared)(σ:St)(H:Hp)(x y:V)(v u:Value)(Q:VK),Inv X aL σ H s→RelV x v→RelV y u→r x y H Q→
  subscripted slice false v u=operate [v,u] (getItem v u)→wpAny (model X.prog X.w) X.A (subscriptTail value slice v u) (EP X aL σ Q) X.xe s
def LV(X:Cx)(id:String)(r:V→List V→Hp→VK→Prop):Prop:=
 ∀(aL:List (Addr×Obj))(s:Shared)(σ:St)(H:Hp)(x:V)(xs:List V)(v:Value)(us:List Value)(Q:VK),Inv X aL σ H s→RelV x v→Vals xs us→r x xs H Q→
  wpAny (model X.prog X.w) X.A (call (.builtin id) (v::us)) (EP X aL σ Q) X.xe s
section
variable{X:Cx}{a b:Expr}{ta tb:TE}{pos:Pos}
theorem br{r:R2}(hr:yS X r)(ha:PE X a ta)(hb:PE X b tb)(hs:Vn b):PE X (.Subscript a b pos) (cx r ta tb):=by
 intro aL s σ H Q I h;exact Subscript_ (Ff ha hb I h λv u s2 x y H2 I2 rx ry q=>hr a b aL s2 σ H2 x y v u Q I2 rx ry q (hs _ _))
def qf(K:Frag):R2:=λx y H Q=>∃p xs i v,x=.ref p∧y=.int i∧dP K H p xs∧q4 xs i=some v∧Q v H
def sW(K:Frag):R2:=λx y H Q=>∃p xs i v,x=.ref p∧y=.int i∧bj K H p xs∧q4 xs i=some v∧Q v H
theorem Vo:yS X (qf X.K):=by
 intro value slice aL s σ H x y v u Q I rx ry h hs;obtain⟨p,xs,i,z,rfl,rfl,hq,he,q⟩:=h;cases rx;obtain⟨t,rfl⟩:=ry;obtain⟨its,r,pl,hz⟩:=I.list hq;obtain⟨j,h1,h2,h3,h4,h5⟩:=LR he;obtain⟨w,ew,rw'⟩:=r.get h2;have hl:=r.length;have hn:=yN;have fin:EP X aL σ Q w s:=⟨z,H,I,rw',q⟩;by_cases h0:0≤i
 ·have hj:i.toNat=j:=by
   rw[seqIndex_of h0 h5]at h1;exact dZ h1
  exact item_listR pl.isList h0 (by lia) (by rw[hj];simpa using ew) fin hs
 ·have hj:(i+(its.toArray.size:Int)).toNat=j:=by
   rw[seqIndex_neg (by lia) h4]at h1;rw[eE,← hl];exact dZ h1
  exact subscriptTail_builtinR (x:=w) pl.isList.typeIs slot_list_getitem.lookup
   (wpAny_getItem_list_neg (Q:=λr s'=>r=w∧EP X aL σ Q r s') pl.isList (by lia) (by rw[eE]<;>lia) (by lia) (by rw[hj];simpa using ew) ⟨rfl,fin⟩) hs
theorem Vp:yS X (sW X.K):=by
 intro value slice aL s σ H x y v u Q I rx ry h hs;obtain⟨p,xs,i,z,rfl,rfl,hq,he,q⟩:=h;cases rx;obtain⟨t,rfl⟩:=ry;obtain⟨its,r,pl,hz⟩:=I.tuple hq;obtain⟨j,h1,h2,h3,h4,h5⟩:=LR he;obtain⟨w,ew,rw'⟩:=r.get h2;have hl:=r.length;have hn:=yN;have fin:EP X aL σ Q w s:=⟨z,H,I,rw',q⟩;exact subscriptTail_builtinR (x:=w) pl.typeIs slot_tuple_getitem.lookup
  (getItem_tuple (j:=j) (Q:=λr s'=>r=w∧EP X aL σ Q r s') pl (by lia) (by lia) (by rw[eE,← hl];exact h1) (by simpa using ew) ⟨rfl,fin⟩) hs
theorem Vq(its:List Value)(n j:Nat)(u:Value):Obj.mapSeq (·.setIfInBounds j u) { cls:=.type "list",data:=.seq its.toArray n }={ cls:=.type "list",data:=.seq (its.set j u).toArray n }:=by
 simp[Obj.mapSeq]
theorem Inv.lst{aL:List (Addr×Obj)}{σ:St}{H:Hp}{s:Shared}{p:Addr}{xs:List V}(I:Inv X aL σ H s)(h:H p=some (.lst xs)) :
  ∃(its:List Value)(n:Nat),Vals xs its∧s.heap.get? p=some { cls:=.type "list",data:=.seq its.toArray n }∧xs.length≤sizeLine:=by
 obtain⟨z,its,n,r,e⟩:=I.bz p _ h;exact⟨its,n,r,e,z⟩
theorem Inv.Vr{aL:List (Addr×Obj)}{σ:St}{H:Hp}{p:Addr}{xs ys:List V}{its':List Value}{n':Nat}{f:Obj→Obj}(I:Inv X aL σ H s)(h:H p=some (.lst xs))
  (ho:s.heap.get? p=some { cls:=.type "list",data:=.seq its.toArray n }) (hf:f { cls:=.type "list",data:=.seq its.toArray n }={ cls:=.type "list",data:=.seq its'.toArray n' }) (r:Vals ys its') (hz:ys.length≤sizeLine) (t:Nat) :
  Inv X aL σ (upd H p (.lst ys)) { s with heap:=s.heap.update p f,toks:=t }:=by
 have e:(s.heap.update p f).get? p=some { cls:=.type "list",data:=.seq its'.toArray n' }:=by
  rw[uF f ho (by rw[hf]<;>rfl),hf]
 refine I.write (x:=p) (e:=p) (by rw[h];trivial) (.inl rfl) (λb u hb q=>(Heap.get?_update_other _ _ (Ne.symm hb)).trans q) ⟨_,e⟩ ?_;exact⟨hz,its',n',r,e⟩
def Vs:V→V→V→Hp→(Hp→Prop)→Prop:=λo i v H Q=>∃p xs k j,o=.ref p∧i=.int k∧H p=some (.lst xs)∧qZ xs.length k=some j∧Q (upd H p (.lst (xs.set j v)))
theorem Ft:Lq X Vs:=by
 intro aL s σ H o i v ov iv u Q I ro ri rv h;obtain⟨p,xs,k,j,rfl,rfl,hp,hj,q⟩:=h;cases ro;obtain⟨t,rfl⟩:=ri;obtain⟨its,n,r,ho,hz⟩:=I.lst hp;obtain⟨h1,h2,h3,h4⟩:=LQ hj;have hl:=r.length;have hn:=yN;have I':Inv X aL σ (upd H p (.lst (xs.set j v))) { s with heap:=s.heap.update p (Obj.mapSeq (·.setIfInBounds j u)) }:=
  I.Vr hp ho (Vq its n j u) (r.set rv j) (by rw[List.length_set];exact hz) s.toks
 by_cases h0:0≤k
 ·have hk:k.toNat=j:=by
   rw[seqIndex_of h0 h4]at h1;exact dZ h1
  exact PySem.W.ki_setAt ho h0 (by lia) (by rw[eE,← hl];exact h4) (by rw[hk];exact⟨_,I',q⟩)
 ·have hk:(k+(its.toArray.size:Int)).toNat=j:=by
   rw[seqIndex_neg (by lia) h3]at h1;rw[eE,← hl];exact dZ h1
  exact PySem.W.ki_setBack ho (by lia) (by rw[eE,← hl];exact h3) (by lia) (by rw[hk];exact⟨_,I',q⟩)
theorem Vt(lo hi:Option Int)(n:Nat):(sliceBounds lo hi none n).1=((HT.cK n 0 lo:Nat):Int)∧(sliceBounds lo hi none n).2.1=((HT.cK n n hi:Nat):Int)∧(sliceBounds lo hi none n).2.2=1:=by
 refine⟨?_,?_,rfl⟩
 ·cases lo with
  |none=>simp[sliceBounds,HT.cK]
  |some i=>
   simp only[sliceBounds,HT.cK,Option.getD_none,show(1:Int)>0 by decide,if_true];by_cases h:i<0
   ·simp only[h,if_true]<;>lia
   ·simp only[h,if_false]<;>lia
 ·cases hi with
  |none=>simp[sliceBounds,HT.cK]
  |some i=>
   simp only[sliceBounds,HT.cK,Option.getD_none,show(1:Int)>0 by decide,if_true];by_cases h:i<0
   ·simp only[h,if_true]<;>lia
   ·simp only[h,if_false]<;>lia
theorem Vu(its:List Value)(lo hi:Option Int):slicePick its.toArray lo hi none=((its.drop (HT.cK its.length 0 lo)).take (HT.cK its.length its.length hi-HT.cK its.length 0 lo)).toArray:=by
 obtain⟨h1,h2,h3⟩:=Vt lo hi its.toArray.size;unfold slicePick;rw[h1,h2,h3];simp only[sliceRange_one,pick_run,eE]<;>rfl
def Fu(K:Frag):V→Option Int→Option Int→Hp→VK→Prop:=λx lo hi H Q=>∃a xs,x=.ref a∧dP K H a xs∧∀p,H p=none→Q (.ref p) (upd H p (.lst (jW xs lo hi)))
theorem Vv:wC X (Fu X.K):=by
 intro aL s σ H x v vl vu lo hi sl Q I rx hs pl pu h;obtain⟨a,xs,rfl,hx,q⟩:=h;cases rx;obtain⟨its,r,ht,hz⟩:=I.list hx;have cD:=r.length;refine⟨"list",_,slot_list_getitem.lookup,ht.isList.typeIs,?_⟩;refine wpAny_getItem_list_slice ht.isList hs pl pu .none (by simp) ?_ (by rw[eE]<;>lia)
 rw[Vu,← cD];refine⟨.ref s.heap.objs.size,_,I.laid (t':=s.toks) (o:=.lst (jW xs lo hi)) (λb ob q=>dj _ q) (ck _) ?_,rfl,q _ (I.bz.fresh (ck _))⟩;exact⟨eS (LP xs lo hi) hz,_,0,(r.drop (HT.cK xs.length 0 lo)).take (HT.cK xs.length xs.length hi-HT.cK xs.length 0 lo),gJ _ rfl⟩
noncomputable def qg:V→Bool
 | .da=>true
 | .bl _=>true
 | .int _=>true
 | .str _=>true
 |_=>false
noncomputable def lB:V→V→Bool
 | .da,.da=>true
 | .bl a,.bl b=>a==b
 | .bl a,.int b=>(if a then 1 else 0)==b
 | .int a,.bl b=>a==(if b then 1 else 0)
 | .int a,.int b=>a==b
 | .str a,.str b=>a==b
 |_,_=>false
theorem Vw{A:Around}{y:V}{u v:Value}(ry:RelV y u)(rx:RelV x v)(fy:qg y=true)(fx:qg x=true):SeqAt.EqAt A s u v (lB y x):=by
 cases y with
 |da=>
  cases ry;cases x with
  |da=>cases rx;exact SeqAt.EqAt.same _
  |bl b=>cases rx;exact SeqAt.EqAt.none_bool b
  |int b=>obtain⟨t,rfl⟩:=rx;exact SeqAt.EqAt.none_int b t
  |str b=>obtain⟨t,rfl⟩:=rx;exact SeqAt.EqAt.none_str b t
  |_=>exact absurd (show false=true from fx) i4
 |bl a=>
  cases ry;cases x with
  |da=>cases rx;exact SeqAt.EqAt.bool_none a
  |bl b=>cases rx;exact SeqAt.EqAt.bool_bool a b
  |int b=>obtain⟨t,rfl⟩:=rx;exact SeqAt.EqAt.bool_int a b t
  |str b=>obtain⟨t,rfl⟩:=rx;exact SeqAt.EqAt.bool_str a b t
  |_=>exact absurd (show false=true from fx) i4
 |int a=>
  obtain⟨t',rfl⟩:=ry;cases x with
  |da=>cases rx;exact SeqAt.EqAt.int_none a t'
  |bl b=>cases rx;exact SeqAt.EqAt.int_bool a t' b
  |int b=>obtain⟨t,rfl⟩:=rx;exact SeqAt.EqAt.int_int a t' b t
  |str b=>obtain⟨t,rfl⟩:=rx;exact SeqAt.EqAt.int_str a t' b t
  |_=>exact absurd (show false=true from fx) i4
 |str a=>
  obtain⟨t',rfl⟩:=ry;cases x with
  |da=>cases rx;exact SeqAt.EqAt.str_none a t'
  |bl b=>cases rx;exact SeqAt.EqAt.str_bool a t' b
  |int b=>obtain⟨t,rfl⟩:=rx;exact SeqAt.EqAt.str_int a t' b t
  |str b=>obtain⟨t,rfl⟩:=rx;exact SeqAt.EqAt.str_str a t' b t
  |_=>exact absurd (show false=true from fx) i4
 |_=>exact absurd (show false=true from fy) i4
noncomputable def q5(x:V)(u:Value):Bool:=match u with
 | .none=>lB .da x
 | .bool b=>lB (.bl b) x
 | .int i _=>lB (.int i) x
 | .str z _=>lB (.str z) x
 |_=>false
theorem LW{y:V}{u:Value}(r:RelV y u)(f:qg y=true):q5 x u=lB y x:=by
 cases y with
 |da=>cases r;rfl
 |bl b=>cases r;rfl
 |int i=>obtain⟨t,rfl⟩:=r;rfl
 |str z=>obtain⟨t,rfl⟩:=r;rfl
 |_=>exact absurd (show false=true from f) i4
theorem Fv{x:V}:∀{xs:List V}{us:List Value},Vals xs us→xs.all qg=true→us.any (q5 x)=xs.any λy=>lB y x
 |_,_,.nil,_=>rfl
 |y::xs,u::us,.cons r t,f=>by
  rw[List.all_cons,ir]at f;rw[List.any_cons,List.any_cons,LW r f.1,Fv t f.2]
theorem Fw{A:Around}{s:Shared}{x:V}{v:Value}(rx:RelV x v)(fx:qg x=true):∀{xs:List V}{us:List Value},Vals xs us→xs.all qg=true→∀u∈us,SeqAt.EqAt A s u v (q5 x u)
 |_,_,.nil,_=>λu hu=>by cases hu
 |y::xs,u::us,.cons r t,f=>λu' hu=>by
  rw[List.all_cons,ir]at f;rcases dX.mp hu with rfl|hu
  ·rw[LW r f.1];exact Vw r rx f.1 fx
  ·exact Fw rx fx t f.2 u' hu
noncomputable def Fx(x:V)(xs:List V):Bool:=xs.any λy=>lB y x
def LX(K:Frag)(neg:Bool):R2:=λx y H Q=>∃p xs,y=.ref p∧(dP K H p xs∨bj K H p xs)∧qg x=true∧xs.all qg=true∧Q (.bl (if neg then !Fx x xs else Fx x xs)) H
theorem Vx:ik X (compareOp .In) (LX X.K false):=by
 intro aL s σ H x y v u Q I rx ry h;obtain⟨p,xs,rfl,hq,fx,fs,q⟩:=h;cases ry;rcases hq with hq|hq
 ·obtain⟨its,r,pl,hz⟩:=I.list hq;refine SeqAt.in_listAt (q5 x) pl.isList (λw hw=>Fw rx fx r fs w (by simpa using hw)) ⟨.bl _,H,I,rfl,?_⟩;rw[show its.toArray.any (q5 x)=its.any (q5 x) by simp,Fv r fs];exact q
 ·obtain⟨its,r,pl,hz⟩:=I.tuple hq;refine SeqAt.in_tupleAt (q5 x) pl (λw hw=>Fw rx fx r fs w (by simpa using hw)) ⟨.bl _,H,I,rfl,?_⟩;rw[show its.toArray.any (q5 x)=its.any (q5 x) by simp,Fv r fs];exact q
theorem Vy:gY X (.builtin "len") (λxs H Q=>∃p ys,xs=[.ref p]∧(dP X.K H p ys∨bj X.K H p ys)∧Q (.int ys.length) H):=by
 intro aL s σ H xs us Q I r h;obtain⟨p,ys,rfl,hq,q⟩:=h;obtain⟨u,rfl,rx⟩:=vals1 r;cases rx;have hn:=yN;rcases hq with hq|hq
 ·obtain⟨its,r',pl,hz⟩:=I.list hq;have cD:=r'.length;exact Calls.call_len_list pl.isList (by simp only[eE]<;>lia) ⟨.int ys.length,H,I.tok _,⟨s.toks+1,by rw[eE,cD]⟩,q⟩
 ·obtain⟨its,r',pl,hz⟩:=I.tuple hq;have cD:=r'.length;exact len_tuple pl (by simp only[eE]<;>lia) ⟨.int ys.length,H,I.tok _,⟨s.toks+1,by rw[eE,cD]⟩,q⟩
theorem Vz:gY X (.type "list") (λxs H Q=>∃p ys,xs=[.ref p]∧(dP X.K H p ys∨bj X.K H p ys)∧∀l,H l=none→Q (.ref l) (upd H l (.lst ys))):=by
 intro aL s σ H xs us Q I r h;obtain⟨p,ys,rfl,hq,q⟩:=h;obtain⟨u,rfl,rx⟩:=vals1 r;cases rx;have fin:∀(its:List Value),Vals ys its→ys.length≤sizeLine→∀(h':Heap)(c':Nat),(∀b o',s.heap.get? b=some o'→h'.get? b=some o')→
   h'.get? s.heap.objs.size=some { cls:=.type "list",dict:=none,data:=.seq its.toArray c',slots:=#[] }→EP X aL σ Q (.ref s.heap.objs.size) { s with heap:=h' }:=λits r' hz h' c' kp e=>
  ⟨.ref s.heap.objs.size,_,I.laid (t':=s.toks) kp (ck _) (show gv X.prog X.w _ h' _ (.lst ys) from⟨hz,its,c',r',e⟩),rfl,q _ (I.bz.fresh (ck _))⟩
 rcases hq with hq|hq
 ·obtain⟨its,r',pl,hz⟩:=I.list hq;have cD:=r'.length;obtain⟨o,ho,hc,n,hd⟩:=pl.isList;exact call_list_seq p (.inl rfl) ho hc hd (λh' c' kp e=>fin its r' hz h' c' kp e) (by simp only[eE]<;>lia)
 ·obtain⟨its,r',pl,hz⟩:=I.tuple hq;have cD:=r'.length;obtain⟨o,ho,hc,n,hd⟩:=pl;exact call_list_seq p (.inr rfl) ho hc hd (λh' c' kp e=>fin its r' hz h' c' kp e) (by simp only[eE]<;>lia)
theorem VA:gY X (.type "tuple") (λxs H Q=>∃p ys,xs=[.ref p]∧((dP X.K H p ys∧∀l,H l=none→Q (.ref l) (upd H l (.tup ys)))∨(bj X.K H p ys∧Q (.ref p) H))):=by
 intro aL s σ H xs us Q I r h;obtain⟨p,ys,rfl,h⟩:=h;obtain⟨u,rfl,rx⟩:=vals1 r;cases rx;rcases h with⟨hq,q⟩|⟨hq,q⟩
 ·obtain⟨its,r',pl,hz⟩:=I.list hq;have cD:=r'.length;refine call_tuple_list pl.isList (λh' kp=>?_) (by simp only[eE]<;>lia)
  have I1:Inv X aL σ H { s with heap:=h' }:=I.kept (t':=s.toks) kp;have I2:Inv X aL σ (upd H h'.objs.size (.tup ys)) { s with heap:=h'.push { cls:=.type "tuple",data:=.seq its.toArray } }:=
   I1.laid (t':=s.toks) (λb o e=>dj _ e) (ck _) (show gv X.prog X.w _ _ _ (.tup ys) from⟨hz,its,r',pY.new _ _⟩)
  exact⟨.ref h'.objs.size,_,I2,rfl,q _ (I1.bz.fresh (ck _))⟩
 ·obtain⟨its,r',pl,hz⟩:=I.tuple hq;exact call_tuple_same pl ⟨.ref p,H,I,rfl,q⟩
def Fy(K:Frag)(T:String)(x:V)(H:Hp):Prop:=match x with
 | .str _=>T="str"
 | .int _=>T="int"
 | .ref p=>(T="list"∧∃xs,dP K H p xs)∨(T="tuple"∧∃o,K.lookup p=some o∧o.cls=.type "tuple"∧o.dict=none) ∨
   (T="dict"∧((∃aM,H p=some (.dK aM))∨∃aM,H p=some (.dT aM)))∨(T="set"∧∃S n,H p=some (.set S n))
 |_=>False
theorem LY{aL:List (Addr×Obj)}{σ:St}{H:Hp}{T:String}{v:Value}(I:Inv X aL σ H s)(r:RelV x v)(ty:Fy X.K T x H) :
  s.TypeIs v T∧∀a,v=.ref a→∃ob,s.heap.get? a=some ob∧ob.dict=none:=by
 cases x with
 |str z=>
  obtain⟨t,rfl⟩:=r;cases(show T="str" from ty)
  exact⟨typeIs_str s z t,λ_ e=>nomatch e⟩
 |int i=>
  obtain⟨t,rfl⟩:=r;cases(show T="int" from ty)
  exact⟨typeIs_int s i t,λ_ e=>nomatch e⟩
 |ref p=>
  cases r;rcases ty with⟨rfl,xs,hq⟩|⟨rfl,o,hk,hc,hd⟩|⟨rfl,hk⟩|⟨rfl,S,n,hk⟩
  ·obtain⟨its,_,pl,_⟩:=I.list hq;refine⟨pl.isList.typeIs,λa e=>?_⟩;cases e;obtain⟨o,n,e,c,hd,_⟩:=pl;exact⟨o,e,hd⟩
  ·refine⟨⟨o,I.ij p o hk,hc⟩,λa e=>?_⟩;cases e;exact⟨o,I.ij _ o hk,hd⟩
  ·have z:∃o,s.heap.get? p=some o∧o.ExactDict:=by
    rcases hk with⟨aM,hk⟩|⟨aM,hk⟩
    ·obtain⟨_,_,_,_,o,_,_,e,ex,_⟩:=I.bz p _ hk;exact⟨o,e,ex⟩
    ·obtain⟨_,_,_,_,o,_,_,e,ex,_⟩:=I.bz p _ hk;exact⟨o,e,ex⟩
   obtain⟨o,e,ex⟩:=z;refine⟨⟨o,e,ex.1⟩,λa e2=>?_⟩;cases e2;exact⟨o,e,ex.2.1⟩
  ·obtain⟨o,_,_,_,e,ex,_⟩:=I.bz p _ hk;refine⟨⟨o,e,ex.1⟩,λa e2=>?_⟩;cases e2;exact⟨o,e,ex.2.1⟩
 |_=>exact False.elim ty
def BO(K:Frag)(T:String)(r:V→List V→Hp→VK→Prop)(to:TE):TE:=λσ H Q=>to σ H λx H1=>Fy K T x H1∧r x [] H1 Q
def yT(K:Frag)(T:String)(r:V→List V→Hp→VK→Prop)(to:TE)(t:TA):TE:=λσ H Q=>to σ H λx H1=>Fy K T x H1∧t σ H1 λxs H2=>r x xs H2 Q
variable{o e:Expr}{es:List Expr}{to:TE}{t:TA}{name:Str}{jJ iE:Pos}{T id:String}{r:V→List V→Hp→VK→Prop}
theorem BP(pa:PlainAttrs T)(slot:Slot T name id)(Fz:typeOf (.builtin id)=pure (.type "method_descriptor"))(hm:LV X id r)(ho:PE X o to)
  (yU:attributeBase o name X.env (eval o X.env)=eval o X.env:=by rfl) (yV:(jJ.endLine==iE.line)=true:=by rfl):PE X (.Call (.Attribute o name jJ) [] [] iE) (BO X.K T r to):=by
 intro aL s σ H Q I h;refine wpAny_Call_method0_late yU yV (bh (ho aL s σ H _ I h) λv s1 ⟨x,H1,I1,r1,ty,q1⟩=>?_);obtain⟨h1,h2⟩:=LY I1 r1 ty;exact⟨T,id,pa,slot,Fz,h1,h2,Calls.callWith_builtin rfl (PySem.evalArgs_none (hm aL s1 σ H1 x [] v [] Q I1 r1 .nil q1))⟩
theorem pj(pa:PlainAttrs T)(slot:Slot T name id)(Fz:typeOf (.builtin id)=pure (.type "method_descriptor"))(hm:LV X id r)(ho:PE X o to)(ha:PA X (e::es) t)
  (yU:attributeBase o name X.env (eval o X.env)=eval o X.env:=by rfl)
  (FD:((backTo iE (starEach (e::es) X.env)).all (λx=>!x.1)&&(backToKw iE (keywordEach [] X.env)).all (λx=>x.1.isSome)
   && decide ((e::es).length+([]:List Keyword).length+(if([]:List Keyword).isEmpty then 0 else 1)<30))=true:=by rfl)
  (yV:(jJ.endLine==iE.line)=true:=by rfl) (hs:starEach (e::es) X.env=(false,eval e X.env)::starEach es X.env:=by rfl) (VB:(backTo iE (starEach es X.env)).any (·.1)=false:=by rfl) :
  PE X (.Call (.Attribute o name jJ) (e::es) [] iE) (yT X.K T r to t):=by
 intro aL s σ H Q I h;refine wpAny_Call_method_late yU FD yV rfl (bh (ho aL s σ H _ I h) λv s1 ⟨x,H1,I1,r1,ty,q1⟩=>?_);obtain⟨h1,h2⟩:=LY I1 r1 ty;refine⟨T,id,pa,slot,Fz,h1,h2,?_⟩;have hA:=ha iE aL s1 σ H1 _ I1 q1;rw[hs]at hA ⊢;refine Calls.callWith_builtin (by show(false||(backTo iE (starEach es X.env)).any (·.1))=false;rw[VB]<;>rfl) (Calls.evalArgs_plain ?_)
 exact bh hA λus s2 ⟨vs,H2,I2,r2,q2⟩=>hm aL s2 σ H2 x vs v us Q I2 r1 r2 q2
end
def LZ(X:Cx)(id:String)(r:V→List V→Hp→VK→Prop):Prop:=
 ∀(aL:List (Addr×Obj))(s:Shared)(σ:St)(H:Hp)(x:V)(xs:List V)(v:Value)(us:List Value)(Q:VK),Inv X aL σ H s→RelV x v→Vals xs us→r x xs H Q→
  wpAny (model X.prog X.w) X.A (call (.builtin id) (v::us)) (EP X aL σ Q) X.xe s
theorem Vals.one:∀{x:V}{us:List Value},Vals [x] us→∃u,us=[u]∧RelV x u
 |_,_,.cons r .nil=>⟨_,rfl,r⟩
theorem Vals.zero:∀{us:List Value},Vals [] us→us=[]
 |_,.nil=>rfl
theorem Vals.dropLast{xs:List V}{us:List Value}(h:Vals xs us):Vals xs.dropLast us.dropLast:=by
 induction h with
 |nil=>exact .nil
 |cons r t ih=>
  cases t with
  |nil=>exact .nil
  |cons q t'=>exact .cons r ih
theorem Vals.rep{xs:List V}{us:List Value}(h:Vals xs us):∀k:Nat,Vals (List.replicate k xs).flatten (List.replicate k us).flatten
 |0=>.nil
 |k+1=>by
  rw[uG,uG,Bh,Bh];exact Vals.append h (Vals.rep h k)
theorem VC(l:List α):l.eraseIdx (l.length-1)=l.dropLast:=by
 induction l with
 |nil=>rfl
 |cons a r ih=>
  cases r with
  |nil=>rfl
  |cons b r=>
   have e:(a::b::r).length-1=((b::r).length-1)+1:=by
    have h1:(a::b::r).length=r.length+2:=rfl;have h2:(b::r).length=r.length+1:=rfl;lia
   rw[e,List.eraseIdx_cons_succ,ih];all_goals rfl
theorem foldl_rep(its:List Value):∀(k:Nat)(cE:List Value),
  List.foldl (λx1 x2=>x1++x2) cE.toArray (List.replicate k its.toArray)=(cE++(List.replicate k its).flatten).toArray
 |0,cE=>by simp
 |k+1,cE=>by
  have e:cE.toArray++its.toArray=(cE++its).toArray:=by simp
  have e2:(cE++its)++(List.replicate k its).flatten=cE++(List.replicate (k+1) its).flatten:=by
   rw[uG,Bh,hW]
  rw[← e2,← foldl_rep its k (cE++its),← e,uG,List.foldl_cons]
section
variable{X:Cx}{aL:List (Addr×Obj)}{σ:St}{H:Hp}{s:Shared}{l b:Addr}{xs ys zs:List V}
theorem Inv.L0{its':List Value}{f:Array Value→Array Value}{t':Nat}(I:Inv X aL σ H s)(hH:H l=some (.lst xs))
  (e:s.heap.get? l=some { cls:=.type "list",data:=.seq its.toArray n }) (hf:f its.toArray=its'.toArray) (hv:Vals ys its') (hz:ys.length≤sizeLine) :
  Inv X aL σ (upd H l (.lst ys)) { s with heap:=s.heap.update l (Obj.mapSeq f),toks:=t' }:=by
 have q:=PySem.IsL.update e f;rw[hf]at q;refine I.write (x:=l) (e:=l) (by rw[hH];exact trivial) (.inl rfl) (λb' u hb hu=>(Heap.get?_update_other s.heap (Obj.mapSeq f) (Ne.symm hb)).trans hu) ⟨_,q⟩ ?_;exact⟨hz,its',_,hv,q⟩
theorem Inv.VD{t':Nat}(I:Inv X aL σ H s)(hv:Vals ys its)(hz:ys.length≤sizeLine) :
  Inv X aL σ (upd H s.heap.objs.size (.lst ys)) { s with heap:=s.heap.push { cls:=.type "list",data:=.seq its.toArray },toks:=t' }:=
 I.laid (λ_ _ q=>dj _ q) (ck _) ⟨hz,its,0,hv,gJ _ rfl⟩
theorem Inv.fresh(I:Inv X aL σ H s):H s.heap.objs.size=none:=I.bz.fresh (ck _)
theorem Inv.BQ(I:Inv X aL σ H s)(hH:H l=some (.lst xs)):xs.length≤sizeLine∧∃(its:List Value)(n:Nat),Vals xs its∧xs.length=its.length∧s.heap.get? l=some { cls:=.type "list",data:=.seq its.toArray n }:=by
 obtain⟨z,its,n,r,e⟩:=I.bz l _ hH;exact⟨z,its,n,r,r.length,e⟩
end
section
variable{X:Cx}
def wF:V→List V→Hp→VK→Prop:=λx vs H Q=>∃l xs y,x=.ref l∧vs=[y]∧H l=some (.lst xs)∧xs.length<sizeLine∧Q .da (upd H l (.lst (xs++[y])))
theorem pk:LZ X "list.append" wF:=by
 intro aL s σ H x vs v us Q I rx rv h;obtain⟨l,xs,y,rfl,rfl,hH,hz,q⟩:=h;cases rx;obtain⟨u,rfl,ru⟩:=rv.one;obtain⟨z,its,n,r,hl,e⟩:=I.BQ hH;refine call_meets F.slot_list_append ⟨_,e,rfl⟩ F.entry_list_append (F.args_list_append_2 _ _) (PySem.list_append l its.toArray n u (by rw[eE];lia)) ⟨e,?_⟩;refine⟨.da,_,I.L0 (its':=its++[u]) hH e (by simp) (r.append (.cons ru .nil)) ?_,rfl,q⟩;rw[bY,List.length_singleton];lia
def BR:V→List V→Hp→VK→Prop:=λx vs H Q=>∃l xs y,x=.ref l∧vs=[]∧H l=some (.lst xs)∧xs[xs.length-1]?=some y∧Q y (upd H l (.lst xs.dropLast))
theorem BS:LZ X "list.pop" BR:=by
 intro aL s σ H x vs v us Q I rx rv h;obtain⟨l,xs,y,rfl,rfl,hH,hy,q⟩:=h;cases rx;have VE:=rv.zero;subst VE;obtain⟨z,its,n,r,hl,e⟩:=I.BQ hH;obtain⟨u,hu,ru⟩:=r.get hy;have BU:its.toArray[its.toArray.size-1]?=some u:=by
  show its.toArray[its.length-1]?=some u;rw[← Array.getElem?_toList,← hl];exact hu
 refine call_meets F.slot_list_pop ⟨_,e,rfl⟩ F.entry_list_pop (F.args_list_pop_1 _) (MeetsSeq.list_pop_last l its.toArray n u BU (by rw[eE];lia)) ⟨e,?_⟩;refine⟨y,_,I.L0 (its':=its.dropLast) hH e ?_ r.dropLast ?_,ru,q⟩
 ·show its.toArray.eraseIdxIfInBounds (its.toArray.size-1)=its.dropLast.toArray;rw[eE,List.eraseIdxIfInBounds_toArray,VC]
 ·rw[List.length_dropLast];lia
def ox:R2:=λx y H Q=>∃l b xs zs,x=.ref l∧y=.ref b∧H l=some (.lst xs)∧H b=some (.lst zs)∧xs.length+zs.length≤sizeLine∧∀p,H p=none→Q (.ref p) (upd H p (.lst (xs++zs)))
theorem oy:ik X (binaryOp .Add) ox:=by
 intro aL s σ H x y v u Q I rx ry h;obtain⟨l,b,xs,zs,rfl,rfl,hH,hB,hz,q⟩:=h;cases rx;cases ry;obtain⟨z,its,n,r,hl,e⟩:=I.BQ hH;obtain⟨z2,wD,n2,r2,nu,e2⟩:=I.BQ hB;refine PySem.P.add_list e e2 ?_ (by rw[eE,eE];lia);have ea:its.toArray++wD.toArray=(its++wD).toArray:=by simp
 rw[ea];exact⟨.ref _,_,I.VD (t':=s.toks) (r.append r2) (by rw[bY];lia),rfl,q _ I.fresh⟩
theorem VF(xs:List α)(k:Nat):(List.replicate k xs).flatten.length=k*xs.length:=by
 induction k with
 |zero=>simp
 |succ k ih=>rw[uG,Bh,bY,ih,Nat.succ_mul,Nat.add_comm]
end
section
variable{prog:Program}{w:World}{A:Around}{E:QV}{s:Shared}
end
section
variable{X:Cx}
end
end L2
namespace Att
open PySem PySem.W PySem.Calls PyProof.Rows
theorem VG{P:Params}{h:Heap}:∀(ns:List Int)(vs:List Value),WellAll P h vs (ns.map WData.int)→IntsAre vs ns:=by
 intro ns;induction ns with
 |nil=>
  intro vs w;rw[List.map_nil]at w;cases w;exact .nil
 |cons n ns ih=>
  intro vs w;rw[jt]at w;cases w with
  |cons a b=>
   cases a;exact .cons _ _ (ih _ b)
theorem VH{l:OpenLaw}{n:Nat}(hn:l.most=some n){P:Params}{h:Heap}{args:List WData}{FE:List Value}
  (BV:l.row.toRowW.claim.pre args=true) (wG:WellAll P h FE args) :
  ∃a vs ns,FE=[Value.ref a]∧args=[WData.list (ns.map WData.int)]∧h.get? a=some { cls:=.type "list",data:=.seq vs.toArray }∧IntsAre vs ns∧ns.length≤n:=by
 have VI:WShape.hasAll [] args [.list .int]=true:=(pre_splitW BV).1;have hc:l.pre.holds [] { args:=args }=true:=(pre_splitW BV).2;obtain⟨d,r,rfl,h1,h2⟩:=hasAllW_cons VI;obtain rfl:=hasAllW_nil h2;obtain⟨xs,rfl,h3⟩:=hasW_list h1;obtain⟨ns,rfl⟩:=items_int h3;have cD:ns.length≤n:=by
  unfold OpenLaw.pre at hc;have h4:(WTm.not (.lt (.lit (.int (n:Int))) (.len (.arg 0)))).holds [] { args:=[.list (ns.map .int)] }=true:=by
   have h4:=(holds_andW hc).1;rw[hn]at h4;exact h4
  have h5:=condW_of h4 (w_not (w_lt w_lit (w_len_list (w_arg rfl))));rw[bO]at h5;refine Nat.le_of_not_lt λq=>?_;have q':(n:Int)<((ns.length:Nat):Int):=by lia
  first
   |(rw[aC q']at h5;exact absurd h5 (by decide))
   |(simp at h5;lia)
 cases wG with
 |cons w1 w2=>
  cases w2;cases w1 with
  |list ho FF=>exact⟨_,_,ns,rfl,rfl,ho,VG ns _ FF,cD⟩
theorem VJ(l:OpenLaw)(args:List WData):l.row.toRowW.claim.post args (.bool true) args=true:=
 postW_of (r:=l.row.toRowW) (X:=(true==true))
  (show WShape.has [] (.bool true) .bool=true by first|rfl|decide|simp[WShape.has,WShape.arms,WShape.armsAll])
  (show(WTm.eq .res (.lit (.bool true))).value [] { args:=args,res:=some (.bool true),after:=args }=some (.bool (true==true)) from w_eq_bool (w_res rfl) w_lit) rfl
theorem VL{l:OpenLaw}{n:Nat}{q:Program}{wH:List Str}{XP:(Str→Option Value)→Heap→Prop}{YP:World→Heap→Prop}{d:DefRec}
  (hn:l.most=some n) (yX:d.params.defaults=[])
  (call:∀(w:World)(s₀ s₁:Shared)(mg mb:Str→Option Value)(fa:Addr)(o:Obj)(pm cd doc:Value)(a:Addr)(vs:List Value)(ns:List Int),
   Ground q wH [] XP w s₀ mg mb s₁.heap→YP w s₁.heap→
   s₁.heap.get? fa=some o→o.data=.func (docDef d.name d.params d.body d.scope pm cd doc)→s₁.heap.CodeRec cd d.name→mg d.name=some (.ref fa)→
   s₁.heap.get? a=some { cls:=.type "list",data:=.seq vs.toArray }→IntsAre vs ns→ns.length≤n→s₁.gens=#[]→
   codeAny (model l.prog w) callerA (.call (.ref fa) ⟨[.ref a],[]⟩) (λr s'=>r=.ok (.ret (.bool true))∧OldK s₁.heap s'.heap∧s'.os=s₁.os∧AllBare s'.gens) s₁) :
  WalkO q wH XP YP l.row.toRowW d [] (λf vs=>PySem.call f vs):=by
 intro w s₀ s₁ mg mb G Y fa o pm cd doc dV kV ho hd i6 hD hmg hg args FE as BV adv hrd wG L1;obtain rfl:dV=.none:=Dflts.none hD yX;obtain rfl:kV=.none:=Dflts.noKw hD;obtain⟨a,vs,ns,rfl,rfl,FG,hints,cD⟩:=VH hn BV wG;refine enter_call (codeAny_mono (call w s₀ s₁ mg mb fa o pm cd doc a vs ns G Y ho (fd_plain hd) i6 hmg FG hints cD hg) λr s' hq=>?_);obtain⟨rfl,h2,h3,h4⟩:=hq;exact⟨.inl ⟨.bool true,.bool true,[],rfl,λ_=>rfl,.bool true,VJ l _,λ_=>⟨List.Pairwise.nil,λ_ hm=>(nomatch hm)⟩⟩,h2,h3,h4⟩
section
variable{prog:Program}{w:World}{A:Around}{E:QV}{s:Shared}{K:Frag}
end
end Att
namespace L2
open PySem PySem.Spec PyProof.Rows
variable{A:Around}{B:Prop}{H H':Hp}{Q:QV}{X:Cx}{a c f it l p:Addr}{b:Bool}{env:Env}{es:List Expr}{h h':Heap}{i kt n:Nat}{its:Array Value}{aL:List (Addr×Obj)}{qual x:Str}{s:Shared}{scope:Scope}{st:Stmt}{v:Value}{xs:List V}
theorem L3:∀{vs:List Value}{ns:List Int},IntsAre vs ns→Vals (ns.map V.int) vs
 |_,_,.nil=>.nil
 |_,_,.cons n t h=>.cons ⟨t,rfl⟩ (L3 h)
noncomputable def rf(s:Stmt):Arguments:=match s with
 | .FunctionDef _ a _ _ _ _ _ _ _ _=>a
 |_=>{ posonlyargs:=[],args:=[],vararg:=none,kwonlyargs:=[],kw_defaults:=[],kwarg:=none,defaults:=[] }
noncomputable def md(s:Stmt):List Stmt:=match s with
 | .FunctionDef _ _ b _ _ _ _ _ _ _=>b
 |_=>[]
noncomputable def cg(s:Stmt):Scope:=match s with
 | .FunctionDef _ _ _ _ _ _ sc _ _ _=>sc
 |_=>{ kind:=.function,names:=[],isGenerator:=false,isCoroutine:=false }
abbrev cb:qd:=λ_ _ _ _ _ _=>False
abbrev E0:XK:=λ_ _ _=>False
theorem cW:Passes cb X E0:=λ_ _ _ _ _ _ _ h=>h.elim
structure cO(K:Frag)(x qual:Str)(st:Stmt)(f:Addr)(fd:FuncData):Prop where
 ex:∃(oc:Value)(od:Option Addr)(kV doc pm:Value)(an:Option Addr)(cq ct:Value)(ot:Array (Option Value)),
  fd=fnOf x qual (rf st) (md st) (cg st) .none kV doc pm an cq ct∧K.lookup f=some ⟨oc,od,.func fd,ot⟩∧PySem.W.codeIn K cq qual=true
 kp:Kp K f
section
variable{P:Program}{w:World}{K:Frag}{mg:Str→Option Value}{base:Heap}
theorem cO.ok{fd:FuncData}{N ps:List Str}{k:Nat}{sp:Sp}(F:cO K x qual st f fd)(S:dU N ps (cg st))(len:∀vs H Q E,sp vs H Q E→vs.length=ps.length)
  (pf:∀(cq:Value)(A:Around)(outer:List Env)(s:Shared)(H:Hp)(vs:List V)(Q:VK)(E:XK),eW k (A.deeper (envOfC qual (cg st) s.heap.objs.size f cq))→sp vs H Q E→
   ∃t,kg (nq cb P w K mg base N qual (cg st) f cq A outer s H E).l5 (md st) t∧t { nx:=λ_ H'=>Q .da H',rt:=Q } (start N vs) H):cj P w K mg base cb (k+1) f fd ps sp:=by
 obtain⟨oc,od,kV,doc,pm,an,cq,ct,ot,rfl,lk,i6⟩:=F.ex;refine LJ lk i6 S len λA outer s H vs Q E hr jv=>?_;obtain⟨t,h,q⟩:=pf cq A outer s H vs Q E hr jv;exact⟨t,h.l5,q⟩
theorem cO.binds{fd:FuncData}{ps:List Str}(F:cO K x qual st f fd)
  (h:∀(kV doc pm:Value)(an:Option Addr)(cq ct:Value)(us:List Value),us.length=ps.length→bindArgs (fnOf x qual (rf st) (md st) (cg st) .none kV doc pm an cq ct) ⟨us,[]⟩=pure (ps.zip us)):Binds K fd ps []:=by
 obtain⟨oc,od,kV,doc,pm,an,cq,ct,ot,rfl,lk,i6⟩:=F.ex;exact .all (h kV doc pm an cq ct)
theorem FH{oc:Value}{od an:Option Addr}{ot:Array (Option Value)}{kV doc pm cq ct:Value}(l:K.lookup f=some ⟨oc,od,.func (fnOf x qual (rf st) (md st) (cg st) .none kV doc pm an cq ct),ot⟩)
  (c:PySem.W.codeIn K cq qual=true) (k:Kp K f):cO K x qual st f (fnOf x qual (rf st) (md st) (cg st) .none kV doc pm an cq ct):=⟨⟨oc,od,kV,doc,pm,an,cq,ct,ot,rfl,l,c⟩,k⟩
end
theorem rh{k:Nat}(hr:eW k A):A.units+1<cLine:=Nat.lt_of_le_of_lt (Nat.add_le_add_left (by decide:1≤64) _) hr.units
theorem FI(h:n≤1000):n<sizeLine:=Nat.lt_of_le_of_lt h (by decide)
section
variable{X:Cx}
theorem pv(i:Nat){pos:Pos}(hN:X.N[i]?=some x:=by rfl)(hv:yn X.env.scope x:=by first|exact Or.inl rfl|exact Or.inr (.inl rfl)|exact Or.inr (Or.inr rfl))(hd:(x==("__debug__":Str))=false:=by decide)
  (i6:(x==("__classdict__":Str))=false:=by decide):PE X (.Name x pos) (aX i):=Lj hN hv hd i6
end
theorem eU{A:Prop}(h:B):if false=true then A else B:=by
 rw[ag i4];exact h
theorem fU{A:Prop}(h:A):if true=true then A else B:=by
 rw[af rfl];exact h
theorem wI{c A:Prop} [Decidable c] (h1:c→A) (h2:¬c→B):if c then A else B:=by
 by_cases h:c
 ·rw[af h];exact h1 h
 ·rw[ag h];exact h2 h
theorem VM{c A:Prop} [Decidable c] (hc:c) (h:B):if(!decide c)=true then A else B:=by
 rw[aC hc];exact eU h
def aU(H H':Hp):Prop:=∀b o,H b=some o→H' b=some o
theorem aU.refl(H:Hp):aU H H:=λ_ _ h=>h
theorem aU.trans{H1 H2:Hp}(a:aU H H1)(b:aU H1 H2):aU H H2:=λc o h=>b c o (a c o h)
theorem aU.seq{K:Frag}(e:aU H H')(h:dP K H a xs):dP K H' a xs:=by
 rcases h with(h|⟨o,h⟩)|h
 ·exact .inl (.inl (e _ _ h))
 ·exact .inl (.inr ⟨o,e _ _ h⟩)
 ·exact .inr h
noncomputable def lC(cells:List (Str×Addr)):List (Str×NameKind)→List (Str×Addr)→List (Str×Addr)
 | [],cE=>cE
 |(n,k)::r,cE=>if k == .free then lC cells r ((n,(cells.lookup n).getD 0)::cE)else lC cells r cE
theorem VN(h:∀x∈scope.names,x.2=.free→∃c,env.cells.lookup x.1=some c):closureFor scope env=pure (lC env.cells scope.names []):=by
 unfold closureFor;have key:∀(names:List (Str×NameKind))(cE:List (Str×Addr)),(∀x∈names,x.2=.free→∃c,env.cells.lookup x.1=some c)→
   (forIn names cE (λ(x:Str×NameKind)(r:List (Str×Addr))=>(if(x.2==NameKind.free)=true then do let c ← cellOf env x.1;pure (ForInStep.yield ((x.1,c)::r))else pure (ForInStep.yield r):Sem (ForInStep (List (Str×Addr))))))=pure (lC env.cells names cE):=by
  intro names;induction names with
  |nil=>intro cE _;rfl
  |cons x r ih=>
   intro cE hx;obtain⟨n,k⟩:=x;rw[List.forIn_cons];unfold lC;by_cases hk:(k==NameKind.free)=true
   ·have iM:k=.free:=by simpa using hk
    obtain⟨c,hc⟩:=hx (n,k) cU iM;have i5:env.cells.lookup n=some c:=hc;simp only[hk,if_true];have e1:cellOf env n=pure c:=by unfold cellOf;rw[i5]
    rw[e1,i5];exact ih ((n,c)::cE) λy hy=>hx y (fK _ hy)
   ·simp only[hk,if_false,Bool.false_eq_true];exact ih cE λy hy=>hx y (fK _ hy)
 have e:=key scope.names [] h;first
  |exact e
  |(simp only[bind_pure];exact e)
theorem BW{cells:List (Str×Addr)}{x:Str}{c:Addr}:∀(names:List (Str×NameKind))(cE:List (Str×Addr)),(lC cells names cE).lookup x=some c→cE.lookup x=some c∨((x,NameKind.free)∈names∧c=(cells.lookup x).getD 0)
 | [],_,h=>.inl h
 |(n,k)::r,cE,h=>by
  unfold lC at h;by_cases hk:(k==NameKind.free)=true
  ·have iM:k=.free:=by simpa using hk
   rw[af hk]at h;rcases BW r _ h with z|⟨z,e⟩
   ·rw[sH]at z;cases hb:x==n with
    |true=>
     rw[hb]at z;have e':x=n:=by simpa using hb
     subst e';subst iM;exact .inr ⟨cU,(dZ z).symm⟩
    |false=>rw[hb]at z;exact .inl z
   ·exact .inr ⟨fK _ z,e⟩
  ·rw[ag hk]at h;rcases BW r _ h with z|⟨z,e⟩
   ·exact .inl z
   ·exact .inr ⟨fK _ z,e⟩
theorem FJ{cells:List (Str×Addr)}{x:Str}:∀(names:List (Str×NameKind))(cE:List (Str×Addr)),((x,NameKind.free)∈names∨(cE.lookup x).isSome=true)→((lC cells names cE).lookup x).isSome=true
 | [],_,h=>by
  rcases h with h|h
  ·cases h
  ·exact h
 |(n,k)::r,cE,h=>by
  unfold lC;by_cases hk:(k==NameKind.free)=true
  ·rw[af hk];refine FJ r _ ?_;rcases h with h|h
   ·rcases(dX.mp h)with(e|h)
    ·cases e;exact .inr (by rw[sH];simp)
    ·exact .inl h
   ·refine .inr ?_;rw[sH];cases hb:x==n<;>simp[h]
  ·rw[ag hk];refine FJ r _ ?_;rcases h with h|h
   ·rcases(dX.mp h)with(e|h)
    ·cases e;exact absurd rfl hk
    ·exact .inl h
   ·exact .inr h
theorem wJ:∀(names:List (Str×NameKind))(n:Nat)(cE:List (Str×Addr)),cellsFrom n names cE=cellsFrom n names []++cE
 | [],_,_=>rfl
 |(x,k)::r,n,cE=>by
  unfold cellsFrom;by_cases hk:(k==NameKind.cell)=true
  ·rw[af hk,af hk,wJ r (n+1) ((x,n)::cE),wJ r (n+1) [(x,n)],hW];rfl
  ·rw[ag hk,ag hk];exact wJ r n cE
theorem FK:∀(names:List (Str×NameKind))(n:Nat)(x:Str)(c:Addr),(x,c)∈cellsFrom n names []→(x,NameKind.cell)∈names
 | [],_,_,_,h=>nomatch h
 |(y,k)::r,n,x,c,h=>by
  unfold cellsFrom at h;by_cases hk:(k==NameKind.cell)=true
  ·have iM:k=.cell:=by simpa using hk
   rw[af hk,wJ]at h;refine(dq.mp h).elim (λh=>?_) λh=>?_
   ·exact fK _ (FK r _ x c h)
   ·have e:(x,c)=(y,n):=by simpa using h
    cases e;subst iM;exact cU
  ·rw[ag hk]at h;exact fK _ (FK r n x c h)
theorem FN{α:Type}{x:Str}:∀(a b:List (Str×α)),(a++b).lookup x=(a.lookup x).or (b.lookup x)
 | [],_=>by simp
 |(y,v)::r,b=>by
  rw[uH,sH,sH];cases hb:x==y with
  |true=>simp
  |false=>exact FN r b
theorem yY{α:Type}{x:Str}{v:α}:∀{l:List (Str×α)},(l.map (·.1)).Nodup→(x,v)∈l→l.lookup x=some v
 | [],_,h=>by cases h
 |(y,w)::r,nd,h=>by
  rw[jt,sG]at nd;rw[sH];cases h with
  |head=>simp
  |tail _ h=>
   have cL:(x==y)=false:=by
    apply beq_false_of_ne;intro VO;exact nd.1 (cY.mpr ⟨(x,v),h,VO⟩)
   rw[cL];exact yY nd.2 h
theorem L4{α β:Type}{x:Str}(f:Str×α→Str×β)(hf:∀p,(f p).1=p.1):∀(l:List (Str×α)),(l.map f).lookup x=(l.lookup x).map λk=>(f (x,k)).2
 | []=>rfl
 |(n,k)::r=>by
  obtain⟨m,z⟩:∃z,f (n,k)=(n,z):=⟨(f (n,k)).2,Prod.ext (hf _) rfl⟩;rw[jt,z,sH,sH];cases hx:x==n with
  |false=>exact L4 f hf r
  |true=>cases(beq_iff_eq.mp hx);simp[z]
theorem VP(names:List (Str×NameKind)):(names.map λ(n,k)=>if(k==NameKind.free&&env.scope.kind == .function&&env.kindOf n==some .cell)then(n,NameKind.cell)else(n,k)).lookup x =
  (names.lookup x).map λk=>if(k==NameKind.free&&env.scope.kind == .function&&env.kindOf x==some .cell)=true then NameKind.cell else k:=by
 rw[L4 _ (λp=>by dsimp only;split<;>rfl)]
 congr 1
 funext k
 dsimp only;split<;>rfl
theorem VQ{M:Model}{E:QV}{cl:List (Str×Addr)}{Q:Env→Shared→Prop}
  (q:Q (newEnv scope s.heap.objs.size env.globals (cellsFrom (s.heap.objs.size+1) scope.names cl) env.qual none .none (some env) builtinsNs)
   { s with heap:=pushCells (s.heap.push { cls:=.type "dict",data:=.dict #[] }) scope.names }) :
  wpAny M A (newFunctionEnv scope env.globals cl [] env.qual none .none (some env)) Q E s:=by
 have z:(s.heap.push { cls:=.type "dict",data:=.dict #[] }).objs.size=s.heap.objs.size+1:=lX ..;rw[← z]at q;unfold newFunctionEnv;have cells:=wpAny_layCells (M:=M) (A:=A) (E:=E) (λx r=>if(x.2==NameKind.cell)=true then(do let c ← alloc { cls:=.type "cell",data:=.cell none };pure (ForInStep.yield ((x.1,c)::r)))else pure (ForInStep.yield r)) (λ_ _ _=>rfl) scope.names cl { s with heap:=s.heap.push { cls:=.type "dict",data:=.dict #[] } }
 exact ak (wpAny_alloc (ak (cells _ (ak (aq (aq q))))))
noncomputable def oz(X:Cx)(N:List Str)(scope:Scope)(cs:List (Str×Addr))(C:Addr)(s₀:Shared)(H₀:Hp)(ex:List Addr):Cx where
 prog:=X.prog
 w:=X.w
 K:=X.K
 mg:=X.mg
 base:=X.base
 A:=X.A
 N:=N
 s₀:=s₀
 H₀:=H₀
 env:=compEnvC scope cs C X.env
 outer:=X.stack
 stack:=X.stack
 ex:=ex
 fn:=λx=>scope.names.lookup x==some .cell
 calm:=X.calm
 pn:=[]
 xe:=λ_ _=>False
structure gM(oN:List Str)(sX:Scope)(N:List Str)(own:Nat)(caps:List Nat)(scope:Scope):Prop where
 kind:scope.kind=.function
 nd:N.Nodup
 BX:(scope.names.map (·.1)).Nodup
 free:∀x∈scope.names,x.2=.free→sX.names.lookup x.1=some .cell∨sX.names.lookup x.1=some .free
 len:N.length=own+caps.length
 oA:caps.map (λi=>oN[i]?)=(N.drop own).map some
 VR:∀x∈N.drop own,scope.names.lookup x=some .free
noncomputable def sY(own:Nat)(caps:List Nat)(σ:St):St:=List.replicate own none++caps.map λi=>(σ[i]?).join
noncomputable abbrev sZ(X:Cx)(scope:Scope)(C:Addr):List (Str×Addr):=cellsFrom (C+1) scope.names (lC X.env.cells scope.names [])
noncomputable abbrev yZ(h:Heap)(scope:Scope):Heap:=pushCells (h.push { cls:=.type "dict",data:=.dict #[] }) scope.names
section
variable{X:Cx}{aL:List (Addr×Obj)}{σ:St}{H:Hp}{s:Shared}{N:List Str}{own:Nat}{caps:List Nat}{scope:Scope}{ex:List Addr}
theorem wK(S:gM X.N X.env.scope N own caps scope)(I:Inv X aL σ H s)(n:Nat)(h:(cellsFrom n scope.names (lC X.env.cells scope.names [])).lookup x=some c) :
  (x,c)∈cellsFrom n scope.names []∨((x,NameKind.free)∈scope.names∧X.env.cells.lookup x=some c):=by
 rw[wJ,FN]at h;cases q:(cellsFrom n scope.names []).lookup x with
 |some c'=>
  rw[q]at h;have e:c'=c:=by simpa using h
  subst e;exact .inl (pS q)
 |none=>
  rw[q]at h;have h':(lC X.env.cells scope.names []).lookup x=some c:=by simpa using h
  rcases BW _ _ h' with z|⟨z,e⟩
  ·cases z
  ·refine .inr ⟨z,?_⟩;obtain⟨c',i5⟩:=I.ok.has x (S.free (x,.free) z rfl);rw[i5]at e ⊢;rw[e];rfl
theorem L5(S:gM X.N X.env.scope N own caps scope)(I:Inv X aL σ H s)(n:Nat)(hx:scope.names.lookup x=some .free) :
  ∃c,X.env.cells.lookup x=some c∧(cellsFrom n scope.names (lC X.env.cells scope.names [])).lookup x=some c:=by
 have hm:(x,NameKind.free)∈scope.names:=pS hx;obtain⟨c,hc⟩:=I.ok.has x (S.free (x,.free) hm rfl);refine⟨c,hc,?_⟩;obtain⟨c',i5⟩:=Option.isSome_iff_exists.mp (FJ (cells:=X.env.cells) (x:=x) scope.names [] (.inl hm));have e0:(cellsFrom n scope.names []).lookup x=none:=by
  cases q:(cellsFrom n scope.names []).lookup x with
  |none=>rfl
  |some d=>
   have:=yY S.BX (FK _ _ _ _ (pS q))
   rw[hx]at this;cases this
 rw[wJ,FN,e0,i5];rcases BW _ _ i5 with z|⟨_,e⟩
 ·cases z
 ·rw[hc]at e;rw[e];rfl
theorem VT(S:gM X.N X.env.scope N own caps scope)(I:Inv X aL σ H s)(hex:∀b∈ex,jg X aL H b∧b<s.heap.objs.size) :
  Inv (oz X N scope (sZ X scope s.heap.objs.size) s.heap.objs.size s H ex) [] (sY own caps σ) H { s with heap:=yZ s.heap scope }:=by
 have k1:∀b o,s.heap.get? b=some o→(yZ s.heap scope).get? b=some o:=λb o e=>pushCells_keeps _ _ b o (dj _ e);have ok:=cellsFrom_ok scope.names (s.heap.push { cls:=.type "dict",data:=.dict #[] }) (s.heap.objs.size+1) [] ⟨λ_ _ hm=>(nomatch hm),List.Pairwise.nil⟩ (by rw[lX];exact ck _);rw[lX]at ok;have L6:∀x c,X.env.cells.lookup x=some c→c<s.heap.objs.size:=λx c e=>by
  obtain⟨v,q⟩:=I.cell x c e;exact q.lt
 have L7:∀x,(compEnvC scope (sZ X scope s.heap.objs.size) s.heap.objs.size X.env).kindOf x=(scope.names.lookup x).map λk=>if(k==NameKind.free&&X.env.scope.kind == .function&&X.env.kindOf x==some .cell)=true then NameKind.cell else k:=
  λx=>VP (env:=X.env) scope.names
 have kk:∀x,(compEnvC scope (sZ X scope s.heap.objs.size) s.heap.objs.size X.env).kindOf x=some .cell∨(compEnvC scope (sZ X scope s.heap.objs.size) s.heap.objs.size X.env).kindOf x=some .free→
   scope.names.lookup x=some .cell∨scope.names.lookup x=some .free:=λx h=>by
  rw[L7]at h;cases q:scope.names.lookup x with
  |none=>rw[q]at h;rcases h with h|h<;>cases h
  |some k=>
   rw[q]at h;by_cases hf:k=.free
   ·exact .inr (by rw[hf])
   ·have hb:(k==NameKind.free)=false:=by simpa using hf
    have e:(some k).map (λk=>if(k==NameKind.free&&X.env.scope.kind == .function&&X.env.kindOf x==some .cell)=true then NameKind.cell else k)=some k:=by
     simp[hf]
    rw[e]at h;exact h
 refine⟨⟨I.ok.mod,S.kind,I.ok.glob,I.ok.blt,ck _,λx y c h1 h2=>?_,λx hx=>?_,λx c hf h=>?_,I.ok.hd,I.ok.frames,.inl rfl,λb hb=>⟨?_,λx c h=>?_⟩,λb o e=>?_,eS I.ok.qT I.sz,λb o e hb=>?_,λb hb hf=>?_,I.stack,I.K8⟩,
  rfl,I.bare,Un.kept k1,⟨λ_=>none,?_,λi x v h1 h2 h3=>?_⟩,λx c h=>?_,I.bz.fresh (ck _),λx c h=>?_,λp hp=>absurd (show p∈([]:List (Addr×Obj)) from hp) (by simp),I.bz.kept k1,?_⟩
 ·
  rcases wK S I _ h1 with a1|⟨_,a1⟩<;>rcases wK S I _ h2 with a2|⟨_,a2⟩
  ·exact name_of_addr ok.apart a1 a2
  ·exact absurd (L6 _ _ a2) (Nat.not_lt.mpr (Nat.le_of_succ_le (ok.empty _ _ a1).2))
  ·exact absurd (L6 _ _ a1) (Nat.not_lt.mpr (Nat.le_of_succ_le (ok.empty _ _ a2).2))
  ·exact I.ok.inj _ _ _ a1 a2
 ·
  rcases kk x hx with q|q
  ·exact Option.isSome_iff_exists.mp (EV scope.names _ _ (.inl q))
  ·obtain⟨c,_,hc⟩:=L5 S I (s.heap.objs.size+1) q;exact⟨c,hc⟩
 ·
  have gT:scope.names.lookup x=some .cell:=by simpa[oz]using hf
  rcases wK S I _ h with a|⟨a,_⟩
  ·exact Nat.le_of_succ_le (ok.empty _ _ a).2
  ·rw[yY S.BX a]at gT;cases gT
 ·exact fu (hex b hb).2
 ·rcases wK S I _ h with a|⟨_,a⟩
  ·exact Nat.ne_of_gt (js (hex b hb).2 (Nat.le_of_succ_le (ok.empty _ _ a).2))
  ·exact(hex b hb).1.2.2.2.2.1 x c a
 ·exact I.bs b o e
 ·rcases(hex b hb).1.2.2.2.1 with z|z
  ·exact I.ok.yr b o e z
  ·exact absurd (js (dB e) (eS I.ok.qT z)) (qO _)
 ·rcases dX.mp (I.E2 b hf)with z|z
  ·exact(hex b hb).1.2.1 z
  ·exact(hex b hb).1.2.2.1 z
 ·exact(Heap.Ns.new s.heap (.type "dict")).keeps (pushCells_keeps _ _)
 ·
  have hi:own≤i:=by
   refine Nat.le_of_not_lt λcB=>?_;unfold sY at h2;rw[gS (by simpa using cB),Bf]at h2;split at h2<;>cases h2
  obtain⟨j,rfl⟩:∃j,i=own+j:=⟨i-own,by lia⟩;unfold sY at h2;rw[hU (by simp),jG,Nat.add_sub_cancel_left,du]at h2;cases hc:caps[j]? with
  |none=>rw[hc]at h2;cases h2
  |some ci=>
   rw[hc]at h2;have hσ:σ[ci]?=some (some v):=by
    have z:(σ[ci]?).join=some v:=by simpa using h2
    cases q:σ[ci]? with
    |none=>rw[q]at z;cases z
    |some o=>rw[q]at z;have z':o=some v:=z;rw[z']
   have L8:(N.drop own)[j]?=some x:=by rw[sJ];exact h1
   have hX:X.N[ci]?=some x:=by
    have e:=aj (λl=>l[j]?) S.oA;simp only[du,hc,L8,Option.map_some]at e;exact dZ e
   have ny:=S.VR x (dI L8);obtain⟨c,y0,ph⟩:=L5 S I (s.heap.objs.size+1) ny;obtain⟨m,hn,hl⟩:=I.loc;have hk:=S.free (x,.free) (pS ny) rfl;have VU:yn X.env.scope x:=.inr hk;obtain⟨u,ru,lk⟩:=hl ci x v hX hσ VU;refine⟨u,ru,?_⟩;rcases lk with⟨z,_⟩|⟨_,c',e',z⟩
   ·have z':X.env.scope.names.lookup x=some .local:=z;rcases hk with hk|hk
    ·have iM:X.env.scope.names.lookup x=some .cell:=hk;rw[z']at iM;cases iM
    ·have iM:X.env.scope.names.lookup x=some .free:=hk;rw[z']at iM;cases iM
   ·rw[y0]at e';cases e';refine .inr ⟨?_,c,ph,z.keeps k1⟩;show(compEnvC scope _ _ X.env).kindOf x=_∨(compEnvC scope _ _ X.env).kindOf x=_;rw[L7,ny];show some (if _ then NameKind.cell else NameKind.free)=_∨some (if _ then NameKind.cell else NameKind.free)=_
    split
    ·exact .inl rfl
    ·exact .inr rfl
 ·rcases wK S I _ h with a|⟨_,a⟩
  ·exact⟨_,(ok.empty _ _ a).1⟩
  ·obtain⟨v,q⟩:=I.cell x c a;exact⟨v,q.keeps k1⟩
 ·rcases wK S I _ h with a|⟨_,a⟩
  ·exact I.bz.fresh (Nat.le_of_succ_le (ok.empty _ _ a).2)
  ·exact I.ng x c a
 ·unfold sY;show _=N.length;rw[S.len,bY,jG,bO]
end
def wL(X:Cx)(jK:List Expr)(t:TT):Prop:=
 ∀(aL:List (Addr×Obj))(s:Shared)(σ:St)(H:Hp)(Q:Bool→Hp→Prop),Inv X aL σ H s→t σ H Q→
  wpAny (model X.prog X.w) X.A (forIn jK true λc r=>if r=true then do let ok ← isTrue c X.env (eval c X.env);pure (ForInStep.yield ok)else pure (ForInStep.yield r)) (TP X aL σ Q) X.xe s
def oB:TT:=λ_ H Q=>Q true H
theorem me:wL X [] oB:=λ_ _ _ H _ I h=>wpAny_tests_nil ⟨H,I,h⟩
theorem vg{c:Expr}{t:TT}(h:PT X c t):wL X [c] t:=λaL s σ H Q I q=>wpAny_tests_one (h aL s σ H Q I q)
def FO(M:Model)(A:Around)(env:Env)(it cE:Value)(tg kj:Expr)(jK:List Expr)(E:QV)(fin ig:Shared→Prop):Shared→Prop:=
 let kept:Shared→Prop:=λu=>wpAny M A (eval kj env) (λx u5=>wpAny M A (call (.builtin "list.append") [cE,x]) (λ_ u6=>ig u6) E u5) E u
 let VW:Shared→Prop:=λu=>wpAny M A (forIn jK true λc r=>if r=true then(do let ok ← isTrue c env (eval c env);pure (ForInStep.yield ok))else pure (ForInStep.yield r)) (λok u4=>if ok=true then kept u4 else ig u4) E u
 let VX:QV:=λv u=>wpAny M A (letOwnedTupleGo tg it v) (λ_ u2=>wpAny M A (assign tg env v) (λ_ u3=>VW u3) E u2) E u
 λu=>wpAny M A (pyNext it) (λo u1=>match o with|none=>fin u1|some v=>VX v u1) E u
theorem VY{prog:Program}{w:World}{R:Result→Shared→Prop}{kj tg iter:Expr}{jK:List Expr}{pos:Pos}{it cE:Value}(I:Nat→Shared→Prop)(n:Nat)(start:I n s)
  (qW:∀m u,I m u→FO (model prog w) A env it cE tg kj jK (notedBy (model prog w) A env λe v=>R (.error e) v) (R (.ok .next)) (λv=>∃j,j<m∧I j v) u) :
  codeAny (model prog w) A (.compLoop (.ListComp kj [⟨tg,iter,jK,0⟩] scope pos) 0 it cE env) R s:=by
 refine codeAny_loop rfl I (λm u hu=>wpAny_noted (m:=compTurn (.ListComp kj [⟨tg,iter,jK,0⟩] scope pos) 0 it cE env) ?_) n start;have go:=qW m u hu;unfold FO at go;rw[compTurn_list];refine ak (wpAny_standAt (ak (bh go λo u1 b1=>?_)))
 match o,b1 with
 |none,b1=>exact aq b1
 |some v,b1=>
  refine ak (bh b1 λ_ u2 b2=>ak (bh b2 λ_ u3 b3=>ak (bh b3 λok u4 b4=>?_)))
  match ok,b4 with
  |false,b4=>exact aq ⟨rfl,b4⟩
  |true,b4=>exact ak (ak (bh b4 λx u5 b5=>ak (bh b5 λ_ u6 b6=>aq (aq ⟨rfl,b6⟩))))
def mf(J:It)(g:TG)(tt:TT)(te:TE)(Q:VK)(W:Nat→Nat→St→Hp→List V→Prop):Prop:=
 ∀i m σ' H' ys,W i m σ' H' ys→
  (J.stop i H'∧ys.length≤sizeLine∧∀p,H' p=none→Q (.ref p) (upd H' p (.lst ys))) ∨
  (J.go i H'∧ys.length<sizeLine∧∃N:St→Hp→List V→Prop,(∀σ2 H2 zs,N σ2 H2 zs→∃m',m'<m∧W (i+1) m' σ2 H2 zs)∧
   ∀x H2,J.pe i H' x H2→g x σ' H2 λσ3 H3=>tt σ3 H3 λb H4=>if b=true then te σ3 H4 λv H5=>N σ3 H5 (ys++[v])else N σ3 H4 ys)
def rl(wi:TI)(own:Nat)(caps:List Nat)(g:TG)(tt:TT)(te:TE):TE:=λσ H Q=>wi σ H λJ H1=>
 ∃W:Nat→Nat→St→Hp→List V→Prop,(∃m,W 0 m (sY own caps σ) H1 [])∧mf J g tt te Q W
section
variable{X:Cx}{tg kj iter:Expr}{jK:List Expr}{scope:Scope}{pos:Pos}{N:List Str}{own:Nat}{caps:List Nat}{wi:TI}{g:TG}{tt:TT}{te:TE}
theorem L9{σ:St}{H2:Hp}{s2:Shared}{J:It}{fp:List Addr}{tn:Nat→Heap→Prop}{Q:VK}{W:Nat→Nat→St→Hp→List V→Prop}{m0:Nat}
  {E:QV} {R:Value→Addr→Result→Shared→Prop} (hc:X.calm=true) (S:gM X.N X.env.scope N own caps scope)
  (hg:∀cs C s₀ H₀ ex,PG (oz X N scope cs C s₀ H₀ ex) tg g) (ht:∀cs C s₀ H₀ ex,wL (oz X N scope cs C s₀ H₀ ex) jK tt) (he:∀cs C s₀ H₀ ex,PE (oz X N scope cs C s₀ H₀ ex) kj te)
  (I2:Inv X aL σ H2 s2) (T:Turn X.prog X.w X.K tg J fp it tn) (ma:tn 0 s2.heap) (f2:∀b∈fp,jg X aL H2 b)
  (w0:W 0 m0 (sY own caps σ) H2 []) (qW:mf J g tt te Q W)
  (VZ:∀D C s' H' ys,Inv X aL σ (upd H' D (.lst ys)) s'→jg X aL (upd H' D (.lst ys)) C→(∃m,s'.heap.Ns C m)→Q (.ref D) (upd H' D (.lst ys))→R (.ref D) C (.ok .next) s') :
  wpAny (model X.prog X.w) X.A (newList []) (λcE s₃=>wpAny (model X.prog X.w) X.A (newFunctionEnv scope X.env.globals (lC X.env.cells scope.names []) [] X.env.qual none .none (some X.env)) (λMa s₄=>
   codeAny (model X.prog X.w) X.A (.compStart (.ListComp kj [⟨tg,iter,jK,0⟩] scope pos) 0 (.ref it) cE { Ma with scope:=relabel scope X.env }) (R cE Ma.locals) s₄) E s₃) E s2:=by
 refine aA (VQ ?_);dsimp only;generalize FQ:s2.heap.push { cls:=.type "list",dict:=none,data:=.seq ([]:List Value).toArray }=h3;have hC:h3.objs.size=s2.heap.objs.size+1:=by rw[← FQ,lX]
 have y3:∀b o,s2.heap.get? b=some o→h3.get? b=some o:=λb o e=>FQ▸dj _ e;have I3:Inv X aL σ H2 { s2 with heap:=h3 }:=I2.kept (t':=s2.toks) y3;have gD:h3.get? s2.heap.objs.size=some { cls:=.type "list",data:=.seq ([]:List Value).toArray }:=FQ▸gJ _ rfl;have fD:jg X aL H2 s2.heap.objs.size:=I2.l6 (ck _) (I2.bz.fresh (ck _));have Mb:∀b∈fp,b<s2.heap.objs.size:=λb hb=>by
  obtain⟨o,e,_⟩:=T.obj 0 _ ma b hb;exact dB e
 have hex:∀b∈s2.heap.objs.size::fp,jg X aL H2 b∧b<({ s2 with heap:=h3 }:Shared).heap.objs.size:=λb hb=>by
  show _∧b<h3.objs.size;rw[hC];cases hb with
  |head=>exact⟨fD,Nat.lt_succ_self _⟩
  |tail _ hb=>exact⟨f2 b hb,Nat.lt_succ_of_lt (Mb b hb)⟩
 have IB:=VT S I3 hex;generalize hY:oz X N scope (sZ X scope h3.objs.size) h3.objs.size { s2 with heap:=h3 } H2 (s2.heap.objs.size::fp)=Y at IB;have yP:Y.prog=X.prog:=by rw[← hY];rfl
 have yW:Y.w=X.w:=by rw[← hY];rfl
 have yK:Y.K=X.K:=by rw[← hY];rfl
 have yc:Y.calm=true:=by rw[← hY];exact hc
 have yA:Y.A=X.A:=by rw[← hY];rfl
 have yx:Y.xe=λ_ _=>False:=by rw[← hY];rfl
 have yL:Y.env.locals=h3.objs.size:=by rw[← hY];rfl
 have Mc:Y.ex=s2.heap.objs.size::fp:=by rw[← hY];rfl
 have V0:Y.fs=l4 X.stack:=by rw[← hY];rfl
 have Md:Y.pn=[]:=by rw[← hY];rfl
 have FR:Y.env=compEnvC scope (sZ X scope h3.objs.size) h3.objs.size X.env:=by rw[← hY];rfl
 have yg:PG Y tg g:=by rw[← hY];exact hg _ _ _ _ _
 have yt:wL Y jK tt:=by rw[← hY];exact ht _ _ _ _ _
 have ye:PE Y kj te:=by rw[← hY];exact he _ _ _ _ _
 have yb:∀{σ':St}{H':Hp}{s':Shared}{pn:List (Addr×Obj)},Inv Y pn σ' H' s'→Un (l4 X.stack) (s2.heap.objs.size::fp) H2 H' h3 s'.heap:=λ{σ' H' s' pn} J=>by
  have b:=J.base;rw[V0,Mc]at b;have e1:Y.H₀=H2:=by rw[← hY];rfl
  have e2:Y.s₀.heap=h3:=by rw[← hY];rfl
  rw[e1,e2]at b;exact b
 have V1:∀{σ':St}{H':Hp}{s':Shared}{pn:List (Addr×Obj)},Inv Y pn σ' H' s'→s'.os=s2.os:=λ{σ' H' s' pn} J=>by
  have e:Y.s₀.os=s2.os:=by rw[← hY];rfl
  exact J.os.trans e
 have DL:s2.heap.objs.size≠Y.env.locals:=by rw[yL,hC];exact fu (Nat.lt_succ_self _)
 have Me:s2.heap.objs.size ∉ fp:=λz=>qO _ (Mb _ z);have FU:∀b∈s2.heap.objs.size::fp,b∈Y.ex:=λb hb=>by rw[Mc];exact hb
 have V2:∀{pn:List (Addr×Obj)}{H':Hp},(∀p∈pn,p.1 ∉ fp)→(∀b∈fp,H' b=none)→∀b∈fp,jg Y pn H' b:=λ{pn H'} hp hn b hb=>by
  have lE:=FU b (fK _ hb);refine⟨hn b hb,(IB.ok.yq b lE).1,IB.ok.wo b lE,.inl lE,(IB.ok.yq b lE).2,λp wM z=>?_⟩;rw[Md,lY]at wM;exact hp p wM (z▸hb)
 have Mf:∀b o,h3.get? b=some o→(yZ h3 scope).get? b=some o:=λb o e=>pushCells_keeps _ _ b o (dj _ e);have Mh:tn 0 (yZ h3 scope):=T.keep 0 s2.heap _ ma λb _ o e=>Mf b o (y3 b o e);have V3:=Mf _ _ gD;have loop:codeAny (model X.prog X.w) X.A (.compLoop (.ListComp kj [⟨tg,iter,jK,0⟩] scope pos) 0 (.ref it) (.ref s2.heap.objs.size) (compEnvC scope (sZ X scope h3.objs.size) h3.objs.size X.env)) (R (.ref s2.heap.objs.size) h3.objs.size)
   { s2 with heap:=yZ h3 scope }:=by
  refine VY (λn s'=>∃i σ' H' ys its oA,Inv Y [] σ' H' s'∧tn i s'.heap∧(∀b∈fp,H' b=none)∧H' s2.heap.objs.size=none∧
   s'.heap.get? s2.heap.objs.size=some { cls:=.type "list",data:=.seq (its:List Value).toArray oA }∧Vals ys its∧W i n σ' H' ys) m0
   ⟨0,_,H2,[],[],_,IB,Mh,λb hb=>(f2 b hb).1,fD.1,V3,.nil,w0⟩ ?_
  rintro n s5 ⟨i,σ5,H5,ys,its,oA,I5,t5,BG,Mi,y4,BY,w5⟩;unfold FO;dsimp only;have Mj:Inv Y [(s2.heap.objs.size,{ cls:=.type "list",data:=.seq its.toArray oA })] σ5 H5 s5:=I5.By λp hp=>by
   have e:=cJ.mp hp;subst e;exact⟨y4,Mi,DL,IB.ok.wo _ (FU _ cU),λv z=>by cases z⟩
  have V4:∀p∈[((s2.heap.objs.size:Addr),({ cls:=.type "list",data:=.seq its.toArray oA }:Obj))],p.1 ∉ fp:=λp hp=>by
   have e:=cJ.mp hp;subst e;exact Me
  have FV:∀{H':Hp},(∀b∈fp,H' b=none)→∀b∈fp,jg Y [((s2.heap.objs.size:Addr),({ cls:=.type "list",data:=.seq its.toArray oA }:Obj))] H' b:=λhn=>V2 V4 hn;rcases qW i n σ5 H5 ys w5 with⟨stop,hz,qn⟩|⟨go,hz,NN,Mk,step⟩
  ·rw[← yA];refine ah (T.done Y yP yW yK yc i _ s5 σ5 H5 (λ_ _=>False) Mj (FV BG) t5 stop) (λr s6 h6=>?_) λ_ _ f=>f.elim;obtain⟨hr,I6⟩:=h6;subst hr;have FW:=I6.pin (s2.heap.objs.size,_) (eJ _ (cJ.mpr rfl));have nD:H2 s2.heap.objs.size=none:=fD.1;have base:=yb I6;have un:Un (l4 X.stack) (s2.heap.objs.size::fp) H2 (upd H5 s2.heap.objs.size (.lst ys)) h3 s6.heap:=⟨base.keep,base.slot,λb o e n hx=>by
     rw[bU (λz=>hx (by rw[z];exact cU))];exact base.free b o e n hx,base.there,
    λb xs e=>by rw[bU (fg e nD)];exact base.p6 b xs e,λb o u e=>by rw[bU (fg e nD)];exact base.oh b o u e,λb ps e=>by
     obtain⟨ig,q⟩:=base.o7 b ps e;exact⟨ig,by rw[bU (fg e nD)];exact q⟩⟩
   have bz:gy X.prog X.w (upd H5 s2.heap.objs.size (.lst ys)) s6.heap:=λb u e=>by
    have Ml:=I6.bz;rw[yP,yW]at Ml;by_cases hb:b=s2.heap.objs.size
    ·subst hb;rw[bg]at e;cases e;exact⟨hz,its,oA,BY,FW.1⟩
    ·rw[bU hb]at e;exact(Ml b u e).pZ (λc v _ q=>q) (λc q=>by rw[bU (fg q FW.2.1)];exact q) λc xs q=>by rw[bU (fg q FW.2.1)];exact q
   have I7:Inv X aL σ (upd H5 s2.heap.objs.size (.lst ys)) s6:=I3.Uw (V1 I6) un bz I6.bare λb hb=>by
    have z:=(hex b hb).1;exact⟨z.2.2.2.1,z.2.1,z.2.2.2.2.1,z.2.2.2.2.2⟩
   have V5:H5 h3.objs.size=none:=by rw[← yL];exact I6.free
   have CD:h3.objs.size≠s2.heap.objs.size:=by rw[hC];exact Nat.succ_ne_self _
   refine VZ _ _ s6 H5 ys I7 (I3.l6 (ck _) (by rw[bU CD];exact V5)) ?_ (qn _ Mi);obtain⟨m,hn,_⟩:=I6.loc;rw[yL]at hn;exact⟨m,hn⟩
  ·rw[← yA];have lift:∀{α:Type}{t:Sem α}{Q1 Q2:α→Shared→Prop}{s':Shared},wpAny (model X.prog X.w) Y.A t Q1 Y.xe s'→(∀a iS,Q1 a iS→Q2 a iS)→
     wpAny (model X.prog X.w) Y.A t Q2 (notedBy (model X.prog X.w) Y.A (compEnvC scope (sZ X scope h3.objs.size) h3.objs.size X.env) λe s'=>R (.ref s2.heap.objs.size) h3.objs.size (.error e) s') s':=λh k=>
    ah h k λ_ _ f=>by rw[yx]at f;exact f.elim
   refine lift (T.item Y yP yW yK yc i _ s5 σ5 H5 Y.xe Mj (FV BG) t5 go) λr s6 h6=>?_;obtain⟨u,hr,h6⟩:=h6;subst hr;refine lift h6 λ_ s7 h7=>?_;obtain⟨x,H7,I7,r7,y7,t7,V6⟩:=h7;have V7:=I7.pinned (FV V6) (T.obj _ _ t7);have ha:=yg _ s7 σ5 H7 x u _ V7 r7 (step x H7 y7);rw[yP,yW,FR]at ha;refine lift ha λ_ s8 h8=>?_;obtain⟨σ8,H8,I8,q8⟩:=h8;have hb:=yt _ s8 σ8 H8 _ I8 q8;rw[yP,yW,FR]at hb;refine lift hb λok s9 h9=>?_;obtain⟨H9,I9,q9⟩:=h9;have after:∀{σ':St}{H':Hp}{s':Shared},Inv Y ([((s2.heap.objs.size:Addr),({ cls:=.type "list",data:=.seq its.toArray oA }:Obj))]++yE fp s7.heap) σ' H' s'→
     Inv Y [] σ' H' s'∧tn (i+1) s'.heap∧(∀b∈fp,H' b=none)∧H' s2.heap.objs.size=none∧s'.heap.get? s2.heap.objs.size=some { cls:=.type "list",data:=.seq its.toArray oA }:=λ{σ' H' s'} J=>by
    have pD:=J.pin (s2.heap.objs.size,_) (eJ _ (e7 _ (cJ.mpr rfl)));refine⟨J.By (λp hp=>by cases hp),T.keep _ _ _ t7 λb hb o e=>(J.pin (b,o) (eJ _ (eJ _ (BF hb e)))).1,λb hb=>?_,pD.2.1,pD.1⟩;obtain⟨o,e,d⟩:=T.obj _ _ t7 b hb;exact(J.pin (b,o) (eJ _ (eJ _ (BF hb e)))).2.1
   cases ok with
   |false=>
    rw[ag (by decide)]at q9;rw[ag (by decide)];obtain⟨m',hm,w9⟩:=Mk _ _ _ q9;obtain⟨a1,a2,a3,a4,a5⟩:=after I9;exact⟨m',hm,i+1,σ8,H9,ys,its,oA,a1,a2,a3,a4,a5,BY,w9⟩
   |true=>
    rw[af rfl]at q9;rw[af rfl];have hd:=ye _ s9 σ8 H9 _ I9 q9;rw[yP,yW,FR]at hd;refine lift hd λv cX V8=>?_;obtain⟨y,Mm,V9,Wa,Wb⟩:=V8;obtain⟨m',hm,Wc⟩:=Mk _ _ _ Wb;obtain⟨a1,a2,a3,a4,a5⟩:=after V9;have cD:=BY.length;refine append_at (hsz:=by rw[eE];lia) a5 λh' sb g'=>?_;have Mn:=FU _ (cU (a:=s2.heap.objs.size) (l:=fp));have Wd:Inv Y [] σ8 Mm { cX with heap:=h' }:=a1.turned (t':=cX.toks) (it:=s2.heap.objs.size) (λb o hb e=>(sb.2 b hb).trans e) a4 DL (.inl Mn) (IB.ok.yq _ Mn).2 (by rw[Md];intro p hp;cases hp);refine⟨m',hm,i+1,σ8,Mm,ys++[y],its++[v],oA+1,Wd,T.keep _ _ _ a2 λb hb o e=>(sb.2 b (λz=>Me (z▸hb))).trans e,a3,a4,?_,BY.snoc Wa,Wc⟩;rw[g',List.push_toArray]
 exact codeAny_compStart_list loop (T.self X.A 0 _ _ _ Mh loop)
theorem Mo(S:gM X.N X.env.scope N own caps scope){σ:St}(I:Inv X aL σ H s):closureFor scope X.env=pure (lC X.env.cells scope.names []):=
 VN λx hx hk=>I.ok.has x.1 (S.free x hx hk)
theorem oC(hc:X.calm=true)(hi:PI X tg iter wi)(S:gM X.N X.env.scope N own caps scope)
  (hg:∀cs C s₀ H₀ ex,PG (oz X N scope cs C s₀ H₀ ex) tg g) (ht:∀cs C s₀ H₀ ex,wL (oz X N scope cs C s₀ H₀ ex) jK tt) (he:∀cs C s₀ H₀ ex,PE (oz X N scope cs C s₀ H₀ ex) kj te)
  (hs:∀x,foldedSetIterable iter X.env x=pure x:=by intro _;rfl):PE X (.ListComp kj [⟨tg,iter,jK,0⟩] scope pos) (rl wi own caps g tt te):=by
 intro aL s σ H Q I h;rw[eval_ListComp];refine wpAny_comprehension_free (use:=none) rfl hs (Mo S I) S.kind (λx hx hl=>yY S.BX (by rw[← hl];exact hx)) ?_;refine bh (hi aL s σ H _ I h) λv s1 h1=>bh h1 λBD s2 h2=>?_;obtain⟨it,fp,tn,J,H2,e,I2,T,ma,f2,W,⟨m0,w0⟩,qW⟩:=h2;subst e;refine L9 hc S hg ht he I2 T ma f2 w0 qW λD C s' H' ys I' F' hn q=>?_;obtain⟨m,hn⟩:=hn;refine⟨m,hn,λh' sb=>⟨.ref D,_,I'.turned (t':=s'.toks) (λb o hb e=>(sb.2 b hb).trans e) F'.1 F'.2.1 F'.2.2.2.1 F'.2.2.2.2.1 F'.2.2.2.2.2,rfl,q⟩⟩
theorem rm{oo Mp:Pos}(hc:X.calm=true)(hN:X.N.Nodup)(We:X.N[i]?=some x)(hx:X.env.scope.names.lookup x=some .local)(hi:PI X tg iter wi)(S:gM X.N X.env.scope N own caps scope)
  (hg:∀cs C s₀ H₀ ex,PG (oz X N scope cs C s₀ H₀ ex) tg g) (ht:∀cs C s₀ H₀ ex,wL (oz X N scope cs C s₀ H₀ ex) jK tt) (he:∀cs C s₀ H₀ ex,PE (oz X N scope cs C s₀ H₀ ex) kj te)
  (Wf:swapsWith (.ListComp kj [⟨tg,iter,jK,0⟩] scope pos) (some (.Name x oo)) Mp.line X.env=pure true:=by rfl)
  (hs:∀x,foldedSetIterable iter X.env x=pure x:=by intro _;rfl):PS X (.Assign [.Name x oo] (.ListComp kj [⟨tg,iter,jK,0⟩] scope pos) Mp) (cT (rl wi own caps g tt te) (cm i)):=by
 intro aL s σ H D I h;rw[exec_Assign_Name_used _ _ _ _ Wf];refine ak (wpAny_standAt (ak ?_));show wpAny _ X.A (do let _ ← comprehension (.ListComp kj [⟨tg,iter,jK,0⟩] scope pos) scope X.env _ (newList []) false (eval iter X.env) (some (assign (.Name x oo) X.env))) _ _ s
 refine ak (ah (wpAny_comprehension_free (use:=some (assign (.Name x oo) X.env)) (Q:=λ_ s'=>SP X aL D .next s') rfl hs (Mo S I) S.kind (λx hx hl=>yY S.BX (by rw[← hl];exact hx)) ?_) (λ_ s' hq=>aq (aq hq)) λ_ _ e=>e);refine bh (hi aL s σ H _ I h) λv s1 h1=>bh h1 λBD s2 h2=>?_;obtain⟨it,fp,tn,J,H2,e,I2,T,ma,f2,W,⟨m0,w0⟩,qW⟩:=h2;subst e;refine L9 hc S hg ht he I2 T ma f2 w0 qW λD' C s' H' ys I' F' hn q=>?_;obtain⟨m,hn⟩:=hn;refine wpAny_assign_Name (Ld (v:=.ref D') I' hN We (.inl hx) rfl (λiS Wg qh=>?_) (.inr hx));obtain⟨a,sb,ha⟩:=qh;have Wh:C≠a:=by
  rcases ha with ha|ha
  ·rw[ha];exact F'.2.1
  ·exact(F'.2.2.2.2.1 x a ha).symm
 exact⟨m,hn.sameBut sb Wh,λh' Wi=>⟨_,_,Wg.turned (t':=iS.toks) (λb o hb e=>(Wi.2 b hb).trans e) F'.1 F'.2.1 F'.2.2.2.1 F'.2.2.2.2.1 F'.2.2.2.2.2,q⟩⟩
end
noncomputable def Wj(b:Bool):String:=match b with
 |true => "list_iterator"
 |false => "tuple_iterator"
noncomputable def Mq(b:Bool):String:=match b with
 |true => "list"
 |false => "tuple"
noncomputable abbrev lG(b:Bool)(a:Addr)(i:Nat):Obj:={ cls:=.type (Wj b),data:=.fields #[.ref a,.int i 0] }
def i8(b:Bool)(h:Heap)(it a:Addr)(i:Nat):Prop:=h.get? it=some (lG b a i)
def jX(b:Bool)(h:Heap)(a:Addr)(its:Array Value):Prop:=∃o n,h.get? a=some o∧o.cls=.type (Mq b)∧o.data=.seq its n
section
variable(it a:Addr)(i:Nat)(its:Array Value)(o:Obj)(n:Nat)(ed:o.data=.seq its n)
include ed
theorem Wk(x:Value)(hx:its[i]?=some x) :
  Meets (Builtin.«tuple_iterator.__next__» ⟨[.ref it],[]⟩) (λ_ R s=>(s.heap.get? it=some (lG false a i)∧s.heap.get? a=some o)∧
   R (.ok (.ret x)) { s with heap:=s.heap.update it (Obj.mapFields λvs=>vs.setIfInBounds 1 (rawInt ((i:Int)+1))) }):=
 .of_wp λprog w A R s hyp=>by
  obtain⟨h,g,dr,tk,os⟩:=s;obtain⟨⟨e1,e2⟩,fin⟩:=hyp;have ji:its[((i:Nat):Int).toNat]?=some x:=by simpa using hx
  wp_walk
  rw[ed];wp_walk
  rw[ji];wp_walk
  exact⟨_,rfl,fin⟩
theorem Wl(x:Value)(hx:its[i]?=some x) :
  Meets (Builtin.«list_iterator.__next__» ⟨[.ref it],[]⟩) (λ_ R s=>(s.heap.get? it=some (lG true a i)∧s.heap.get? a=some o)∧
   R (.ok (.ret x)) { s with heap:=s.heap.update it (Obj.mapFields λvs=>vs.setIfInBounds 1 (rawInt ((i:Int)+1))) }):=
 .of_wp λprog w A R s hyp=>by
  obtain⟨h,g,dr,tk,os⟩:=s;obtain⟨⟨e1,e2⟩,fin⟩:=hyp;have ji:its[((i:Nat):Int).toNat]?=some x:=by simpa using hx
  wp_walk
  rw[ed];wp_walk
  rw[ji];wp_walk
  exact⟨_,rfl,fin⟩
theorem Wm(hx:its[i]?=none) :
  Meets (Builtin.«tuple_iterator.__next__» ⟨[.ref it],[]⟩) (λA R s=>A.handled=none∧(s.heap.get? it=some (lG false a i)∧s.heap.get? a=some o)∧
   ∀h' e,(∀b u,b≠it→s.heap.get? b=some u→h'.get? b=some u)→(∃u,h'.get? e=some u∧u.cls=.type "StopIteration")→R (.error (.ref e)) { s with heap:=h' }):=
 .of_wp λprog w A R s hyp=>by
  obtain⟨h,g,dr,tk,os⟩:=s;obtain⟨hh,⟨e1,e2⟩,fin⟩:=hyp;have Wn:A.in1.handled=none:=hh;have ji:its[((i:Nat):Int).toNat]?=none:=by simpa using hx
  wp_walk
  rw[ed];wp_walk
  rw[ji];wp_walk
  unfold raiseNew;wp_walk
  refine fin _ _ (λb u hb q=>?_) ⟨_,gJ _ rfl,rfl⟩;exact dj _ (dj _ ((Heap.get?_update_other _ _ (Ne.symm hb)).trans q))
theorem Wo(hx:its[i]?=none) :
  Meets (Builtin.«list_iterator.__next__» ⟨[.ref it],[]⟩) (λA R s=>A.handled=none∧(s.heap.get? it=some (lG true a i)∧s.heap.get? a=some o)∧
   ∀h' e,(∀b u,b≠it→s.heap.get? b=some u→h'.get? b=some u)→(∃u,h'.get? e=some u∧u.cls=.type "StopIteration")→R (.error (.ref e)) { s with heap:=h' }):=
 .of_wp λprog w A R s hyp=>by
  obtain⟨h,g,dr,tk,os⟩:=s;obtain⟨hh,⟨e1,e2⟩,fin⟩:=hyp;have Wn:A.in1.handled=none:=hh;have ji:its[((i:Nat):Int).toNat]?=none:=by simpa using hx
  wp_walk
  rw[ed];wp_walk
  rw[ji];wp_walk
  unfold raiseNew;wp_walk
  refine fin _ _ (λb u hb q=>?_) ⟨_,gJ _ rfl,rfl⟩;exact dj _ (dj _ ((Heap.get?_update_other _ _ (Ne.symm hb)).trans q))
end
section
variable{prog:Program}{w:World}{A:Around}{E:QV}{s:Shared}{b:Bool}{it a:Addr}{i:Nat}{its:Array Value}
theorem i8.moved(h:Heap)(e:i8 b h it a i):i8 b (h.update it (Obj.mapFields λvs=>vs.setIfInBounds 1 (rawInt ((i:Int)+1)))) it a (i+1):=uF _ e rfl
theorem Wq{x:Value}(e1:i8 b s.heap it a i)(e2:jX b s.heap a its)(hx:its[i]?=some x)
  (q:∀h',i8 b h' it a (i+1)→Heap.SameBut it s.heap h'→Q x { s with heap:=h' }):wpAny (model prog w) A (Builtin.SmallTypes.nextOf (.ref it)) Q E s:=by
 obtain⟨o,n,eo,ec,ed⟩:=e2;cases b<;>unfold Builtin.SmallTypes.nextOf
 ·exact ak (ay (T := "tuple_iterator") ⟨_,e1,rfl⟩ K5 (call_meets K5 ⟨_,e1,rfl⟩ F.entry_tuple_iterator_next (F.args_tuple_iterator_next_1 _) (Wk it a i its o n ed x hx) ⟨⟨e1,eo⟩,aq (q _ (i8.moved _ e1) (nW ..))⟩))
 ·exact ak (ay (T := "list_iterator") ⟨_,e1,rfl⟩ slot_listiter_next (call_meets slot_listiter_next ⟨_,e1,rfl⟩ entry_listiter_next (args_listiter_next _) (Wl it a i its o n ed x hx) ⟨⟨e1,eo⟩,aq (q _ (i8.moved _ e1) (nW ..))⟩))
theorem Wr(hh:A.handled=none)(e1:i8 b s.heap it a i)(e2:jX b s.heap a its)(hx:its[i]?=none)
  (q:∀h' e,Heap.ExtBut it s.heap h'→(∃u,h'.get? e=some u∧u.cls=.type "StopIteration")→E (.ref e) { s with heap:=h' }):wpAny (model prog w) A (Builtin.SmallTypes.nextOf (.ref it)) Q E s:=by
 obtain⟨o,n,eo,ec,ed⟩:=e2;cases b<;>unfold Builtin.SmallTypes.nextOf
 ·exact ak (ay (T := "tuple_iterator") ⟨_,e1,rfl⟩ K5 (call_meets K5 ⟨_,e1,rfl⟩ F.entry_tuple_iterator_next (F.args_tuple_iterator_next_1 _) (Wm it a i its o n ed hx) ⟨hh,⟨e1,eo⟩,λh' e k z=>q h' e (λc u hc y=>k c u hc y) z⟩))
 ·exact ak (ay (T := "list_iterator") ⟨_,e1,rfl⟩ slot_listiter_next (call_meets slot_listiter_next ⟨_,e1,rfl⟩ entry_listiter_next (args_listiter_next _) (Wo it a i its o n ed hx) ⟨hh,⟨e1,eo⟩,λh' e k z=>q h' e (λc u hc y=>k c u hc y) z⟩))
end
theorem wN{prog:Program}{w:World}(b:Bool)(hh:A.handled=none)(it l:Addr)(cL:l≠it)(items:Array Value) :
  Draws prog w A it [it,l] items.size (λi v=>items[i]?=some v) (λi h=>i8 b h it l i∧jX b h l items):=by
 refine⟨λi h st=>⟨_,st.1⟩,λi h h' st k=>⟨k it (by simp) _ st.1,?_⟩,λi s Q E hi st q=>?_,λs Q E st q=>Wr hh st.1 st.2 (by simp) q⟩
 ·obtain⟨o,n,eo,r⟩:=st.2;exact⟨o,n,k l (by simp) o eo,r⟩
 ·have hx:items[i]?=some items[i]:=by simp[hi]
  refine Wq st.1 st.2 hx λh' e1 sb=>q _ h' s.toks hx ⟨e1,?_⟩ sb;obtain⟨o,n,eo,r⟩:=st.2;exact⟨o,n,(sb.2 l cL).trans eo,r⟩
structure FX(z TI TO i1 i2:Addr)(rn rp:List Addr):Prop where
 Mr:TI≠z
 tj:TO≠z
 BZ:i1≠z
 FY:i2≠z
 Ws:TI≠TO
 Wt:TI≠i1
 Wu:TI≠i2
 Ms:TO≠i1
 Wv:TO≠i2
 Mt:i1≠i2
 fz:z ∉ rn∧z ∉ rp
 fO:TO ∉ rn∧TO ∉ rp
 f2:i2 ∉ rn
 f1:i1 ∉ rp
section
variable{prog:Program}{w:World}{A:Around}{E:QV}{z TI TO i1 i2:Addr}{rn rp:List Addr}{n1 n2 k:Nat}{P1 P2:Nat→Value→Prop}{S1 S2:Nat→Heap→Prop}{a b:Value}
theorem Draws.but{fp:List Addr}{P:Nat→Value→Prop}{St:Nat→Heap→Prop}(D:PySem.Draws prog w A it fp n P St){k:Nat}(x:St k h)(hc:c ∉ fp)(sb:Heap.SameBut c h h'):St k h':=
 D.frame _ _ _ x λb hb o e=>(sb.2 b λz=>hc (z▸hb)).trans e
def Mu(z TO i1 i2:Addr)(h h':Heap):Prop:=∀c o,c≠z→c≠TO→c≠i1→c≠i2→h.get? c=some o→h'.get? c=some o
set_option maxHeartbeats 2000000 in
theorem Ww(D1:PySem.Draws prog w A i1 rn n1 P1 S1)(D2:PySem.Draws prog w A i2 rp n2 P2 S2)(D:FX z TI TO i1 i2 rn rp)
  (hz:IsZip s.heap z TI TO .none) (hT:IsPair s.heap TI (.ref i1) (.ref i2)) (hO:IsPair s.heap TO a b) (h1:S1 k s.heap) (h2:S2 k s.heap) (l1:k<n1) (l2:k<n2)
  (q:∀x y h' t,P1 k x→P2 k y→IsZip h' z TI TO (rawInt s.heap.objs.size)→IsPair h' TO x y→S1 (k+1) h'→S2 (k+1) h'→IsPair h' s.heap.objs.size x y→h'.objs.size=s.heap.objs.size+1→Mu z TO i1 i2 s.heap h'→
   Q (.ref s.heap.objs.size) { s with heap:=h',toks:=t }):wpAny (model prog w) A (Builtin.«zip.__next__» ⟨[.ref z],[]⟩) (λfin s'=>∃v,fin=.done (.ret v)∧Q v s') E s:=by
 obtain⟨h,g,dr,tk,os⟩:=s;have tq:h.get? z=some _:=hz;have Wx:h.get? TI=some _:=hT;wp_walk using wpAny_onRaise,D1.item k _ _ _ l1
 ·exact Draws.but D1 h1 D.fz.1 (nW ..)
 intro x ha ta p1 sa ka;replace ka:Heap.SameBut i1 (h.update z _) ha:=ka;have zz:=nW h z (Obj.mapFields λvs=>vs.setIfInBounds 0 Value.ellipsis);have B0:ha.get? TO=some _:=((ka.2 TO D.Ms).trans (zz.2 TO D.tj)).trans hO;have tt:=nW ha TO (Obj.mapSeq λvs=>vs.setIfInBounds 0 x);wp_walk using wpAny_onRaise,wpAny_updateSeq B0 rfl,D2.item k _ _ _ l2
 all_goals try exact Draws.but D2 (Draws.but D2 (Draws.but D2 h2 D.fz.2 zz) D.f1 ka) D.fO.2 tt
 intro y hb tb p2 sb kb;replace kb:Heap.SameBut i2 (ha.update TO _) hb:=kb;have Mv:hb.get? TO=some { cls:=.type "tuple",data:=.seq #[x,b] }:=by
  rw[kb.2 TO D.Wv,uF _ B0 rfl];simp[Obj.mapSeq]
 have Wy:hb.get? z=some { cls:=.type "zip",dict:=none,data:=.fields #[.ellipsis,.bool false,.bool false,.ref TI,.ref TO],slots:=#[] }:=by
  rw[kb.2 z D.FY.symm,tt.2 z D.tj.symm,ka.2 z D.BZ.symm,uF _ tq rfl];simp[Obj.mapFields]
 have nz:TO≠z:=D.tj;wp_walk using wpAny_updateSeq Mv rfl
 refine⟨_,rfl,?_⟩;dsimp only;have sz:hb.objs.size=h.objs.size:=by rw[kb.1,tt.1,ka.1,zz.1]
 have uu:=nW hb TO (Obj.mapSeq λvs=>vs.setIfInBounds (0+1) y);have Mw:(hb.update TO (Obj.mapSeq λvs=>vs.setIfInBounds (0+1) y)).get? TO=some { cls:=.type "tuple",data:=.seq #[x,y] }:=by
  rw[uF _ Mv rfl];simp[Obj.mapSeq]
 have ex:(#[x,b].setIfInBounds (0+1) y).toList.toArray=#[x,y]:=by simp
 rw[ex];generalize hb.update TO (Obj.mapSeq λvs=>vs.setIfInBounds (0+1) y)=hc at uu Mw ⊢;have Wz:hc.objs.size=h.objs.size:=uu.1.trans sz;have new:=gJ hc (o:={ cls:=.type "tuple",data:=.seq #[x,y] }) rfl;have FZ:=lX hc { cls:=.type "tuple",data:=.seq #[x,y] };have old:∀c o,hc.get? c=some o→(hc.push { cls:=.type "tuple",data:=.seq #[x,y] }).get? c=some o:=λc o e=>dj _ e;rw[Wz]at new FZ ⊢;generalize hc.push { cls:=.type "tuple",data:=.seq #[x,y] }=hp at new FZ old ⊢;have WA:=old z _ ((uu.2 z D.tj.symm).trans Wy);have v1:=nW hp z (Obj.mapFields λvs=>vs.setIfInBounds 0 (rawInt h.objs.size));have v2:=nW (hp.update z (Obj.mapFields λvs=>vs.setIfInBounds 0 (rawInt h.objs.size))) z (Obj.mapFields λvs=>vs.setIfInBounds 1 (Value.bool false));have Mx:((hp.update z (Obj.mapFields λvs=>vs.setIfInBounds 0 (rawInt h.objs.size))).update z (Obj.mapFields λvs=>vs.setIfInBounds 1 (Value.bool false))).get? z=some { cls:=.type "zip",dict:=none,data:=.fields #[rawInt h.objs.size,.bool false,.bool false,.ref TI,.ref TO],slots:=#[] }:=by
  rw[uF _ (uF _ WA rfl) rfl];simp[Obj.mapFields]
 have fwd:∀c o,c≠z→hc.get? c=some o→((hp.update z (Obj.mapFields λvs=>vs.setIfInBounds 0 (rawInt h.objs.size))).update z (Obj.mapFields λvs=>vs.setIfInBounds 1 (Value.bool false))).get? c=some o:=λc o ne e=>((v2.2 c ne).trans (v1.2 c ne)).trans (old c o e);have My:=(v2.1.trans v1.1).trans FZ;have Mz:=((v2.2 h.objs.size (Nat.ne_of_gt (dB tq))).trans (v1.2 h.objs.size (Nat.ne_of_gt (dB tq)))).trans new;generalize (hp.update z (Obj.mapFields λvs=>vs.setIfInBounds 0 (rawInt h.objs.size))).update z (Obj.mapFields λvs=>vs.setIfInBounds 1 (Value.bool false))=hF at Mx fwd My Mz ⊢;refine q x y hF tb p1 p2 Mx (fwd TO _ D.tj Mw) (D1.frame _ _ _ (Draws.but D1 (Draws.but D1 (Draws.but D1 sa D.fO.1 tt) D.f2 kb) D.fO.1 uu) λc hm o e=>fwd c o (λj=>D.fz.1 (j▸hm)) e)
  (D2.frame _ _ _ (Draws.but D2 sb D.fO.2 uu) λc hm o e=>fwd c o (λj=>D.fz.2 (j▸hm)) e) Mz My λc o n1 n2 n3 n4 e=>fwd c o n1 ?_
 rw[uu.2 c n2,kb.2 c n4,tt.2 c n2,ka.2 c n3,zz.2 c n1];exact e
end
section
variable{prog:Program}{w:World}{A:Around}{E:QV}{z TI TO i1 i2:Addr}{rn rp:List Addr}{n1 n2 k:Nat}{P1 P2:Nat→Value→Prop}{S1 S2:Nat→Heap→Prop}{a b:Value}
set_option maxHeartbeats 2000000 in
theorem WB{Q:Fin→Shared→Prop}(D1:PySem.Draws prog w A i1 rn n1 P1 S1)(D2:PySem.Draws prog w A i2 rp n2 P2 S2)(D:FX z TI TO i1 i2 rn rp)
  (hz:IsZip s.heap z TI TO .none) (hT:IsPair s.heap TI (.ref i1) (.ref i2)) (hO:IsPair s.heap TO a b) (h1:S1 k s.heap) (h2:S2 k s.heap) (WC:k=n1∨(k<n1∧k=n2))
  (q:∀h' e t,Mu z TO i1 i2 s.heap h'→(∃o,h'.get? e=some o∧o.cls=.type "StopIteration")→E (.ref e) { s with heap:=h',toks:=t }):wpAny (model prog w) A (Builtin.«zip.__next__» ⟨[.ref z],[]⟩) Q E s:=by
 obtain⟨h,g,dr,tk,os⟩:=s;have tq:h.get? z=some _:=hz;have Wx:h.get? TI=some _:=hT;have zz:=nW h z (Obj.mapFields λvs=>vs.setIfInBounds 0 Value.ellipsis);have MA:(h.update z (Obj.mapFields λvs=>vs.setIfInBounds 0 Value.ellipsis)).get? z=some { cls:=.type "zip",dict:=none,data:=.fields #[.ellipsis,.bool false,.bool false,.ref TI,.ref TO],slots:=#[] }:=by
  rw[uF _ tq rfl];simp[Obj.mapFields]
 rcases WC with rfl|⟨l1,rfl⟩
 ·wp_walk using wpAny_onRaise,D1.done
  all_goals try exact Draws.but D1 h1 D.fz.1 zz
  intro hx e kx ⟨oe,xe,xc⟩;have F0:hx.get? z=some _:=kx z _ D.BZ.symm MA;have Ga:e≠z:=λy=>by
   subst y;rw[F0]at xe;cases xe;simp at xc
  wp_walk
  have vv:=nW hx z (Obj.mapFields λvs=>vs.setIfInBounds 0 Value.none);exact q _ e _ (λc o m1 m2 m3 m4 y=>(vv.2 c m1).trans (kx c o m3 ((zz.2 c m1).trans y))) ⟨oe,(vv.2 e Ga).trans xe,xc⟩
 ·wp_walk using wpAny_onRaise,D1.item k _ _ _ l1
  all_goals try exact Draws.but D1 h1 D.fz.1 zz
  intro x ha ta p1 sa ka;replace ka:Heap.SameBut i1 (h.update z _) ha:=ka;have B0:ha.get? TO=some _:=((ka.2 TO D.Ms).trans (zz.2 TO D.tj)).trans hO;have tt:=nW ha TO (Obj.mapSeq λvs=>vs.setIfInBounds 0 x);wp_walk using wpAny_onRaise,wpAny_updateSeq B0 rfl,D2.done
  all_goals try exact Draws.but D2 (Draws.but D2 (Draws.but D2 h2 D.fz.2 zz) D.f1 ka) D.fO.2 tt
  intro hx e kx ⟨oe,xe,xc⟩;replace kx:Heap.ExtBut i2 (ha.update TO _) hx:=kx;have F0:hx.get? z=some _:=kx z _ D.FY.symm ((tt.2 z D.tj.symm).trans ((ka.2 z D.BZ.symm).trans MA));have Ga:e≠z:=λy=>by
   subst y;rw[F0]at xe;cases xe;simp at xc
  wp_walk
  have vv:=nW hx z (Obj.mapFields λvs=>vs.setIfInBounds 0 Value.none);exact q _ e _ (λc o m1 m2 m3 m4 y=>(vv.2 c m1).trans (kx c o m4 ((tt.2 c m2).trans ((ka.2 c m3).trans ((zz.2 c m1).trans y))))) ⟨oe,(vv.2 e Ga).trans xe,xc⟩
end
def Sq(b:Bool)(K:Frag)(H:Hp)(a:Addr)(xs:List V):Prop:=match b with
 |true=>dP K H a xs
 |false=>bj K H a xs
theorem Inv.sq{σ:St}(I:Inv X aL σ H s)(h:Sq b X.K H a xs):∃its:List Value,Vals xs its∧jX b s.heap a its.toArray∧xs.length≤sizeLine:=by
 cases b with
 |true=>
  obtain⟨its,rv,p,hz⟩:=I.list h;obtain⟨o,eo,ec,n,ed⟩:=p.isList;exact⟨its,rv,⟨o,n,eo,ec,ed⟩,hz⟩
 |false=>
  obtain⟨its,rv,⟨o,eo,ec,n,ed⟩,hz⟩:=I.tuple h;exact⟨its,rv,⟨o,n,eo,ec,ed⟩,hz⟩
theorem Inv.Gb{σ:St}{ys:List V}(I:Inv X aL σ H s)(h:Sq b X.K H a xs)(h':Sq b X.K H a ys):xs=ys:=by
 cases b with
 |true=>exact I.Ln h h'
 |false=>exact I.Lo h h'
theorem i8.up(x:i8 b h it a i)(k:∀o,h.get? it=some o→h'.get? it=some o):i8 b h' it a i:=k _ x
theorem i8.obj(x:i8 b h it a i):∃o,h.get? it=some o∧∀v,o.data≠.cell v:=⟨_,x,λv z=>by cases z⟩
theorem jX.obj(x:jX b h a its):∃o,h.get? a=some o:=let ⟨o,_,e,_⟩:=x;⟨o,e⟩
section
variable{X:Cx}{aL:List (Addr×Obj)}{σ:St}{H:Hp}{s:Shared}{h':Heap}
theorem Inv.B1{t':Nat}{ch:List Addr}(I:Inv X aL σ H s)(k:∀b o,b ∉ ch→s.heap.get? b=some o→h'.get? b=some o)(hf:∀b∈ch,jg X aL H b):Inv X aL σ H { s with heap:=h',toks:=t' }:=by
 have yv:∀b u,H b=some u→b ∉ ch:=λb u e z=>by rw[(hf b z).1]at e;cases e
 refine I.step (g':=s.gens) (d':=s.drawn) (ch:=ch) (λb hb=>⟨(hf b hb).2.2.2.1,(hf b hb).2.1,(hf b hb).2.2.2.2.1,(hf b hb).2.2.2.2.2⟩) (λb o _ _ hc e _=>k b o hc e) (λb o _ _ hc e _=>⟨o.slots,k b o hc e⟩) (λ_ _ _ _ n=>n)
  (λb o hc e=>⟨o,k b o hc e⟩) (λ_ _ e=>e) (λ_ _ _ e=>e) (λb ps e=>⟨#[],by rw[e];simp⟩) (λm hm=>?_) (λb u e=>?_) I.bare
 ·obtain⟨o,es,ep,ho,r⟩:=hm;exact⟨o,es,ep,k _ o (λz=>(hf _ z).2.1 rfl) ho,r⟩
 ·refine(I.bz b u e).pZ (λc v hc q=>k c v ?_ q) (λ_ q=>q) λ_ _ q=>q;rcases hc with z|z
  ·rw[z];exact yv b u e
  ·exact yv c _ z
theorem Inv.y6{o:HO}(I:Inv X aL σ H s)(f:jg X aL H p)(new:gv X.prog X.w (upd H p o) s.heap p o):Inv X aL σ (upd H p o) s:=by
 have hp:=f.1;refine I.step (g':=s.gens) (d':=s.drawn) (t':=s.toks) (h':=s.heap) (ch:=[p]) (λb hb=>?_) (λb o _ _ _ e _=>e) (λb o _ _ _ e _=>⟨o.slots,e⟩) (λb o hc e n=>?_)
  (λb o _ e=>⟨o,e⟩) (λb xs e=>by rw[bU (fg e hp)];exact e) (λb o u e=>by rw[bU (fg e hp)];exact e) (λb ps e=>⟨#[],by rw[bU (fg e hp),e];simp⟩) (λm hm=>hm) (λb u e=>?_) I.bare
 ·have e:=cJ.mp hb;subst e;exact⟨f.2.2.2.1,f.2.1,f.2.2.2.2.1,f.2.2.2.2.2⟩
 ·rw[bU (λz=>hc (by rw[z];exact cJ.mpr rfl))];exact n
 ·by_cases hb:b=p
  ·subst hb;rw[bg]at e;cases e;exact new
  ·rw[bU hb]at e;exact(I.bz b u e).pZ (λc v _ q=>q) (λc q=>by rw[bU (fg q hp)];exact q) λc xs q=>by rw[bU (fg q hp)];exact q
end
section
variable{prog:Program}{w:World}{A:Around}{E:QV}{s:Shared}
theorem MB{T id:String}{Q:Option Value→Shared→Prop}(ty:s.TypeIs v T)(sl:Slot T (Str.ofString "__next__") id)
  (h:wpAny (model prog w) A (call (.builtin id) [v]) (λx s'=>Q (some x) s') (λe s'=>∃c o,e=.ref c∧s'.heap.get? c=some o∧o.cls=.type "StopIteration"∧Q none s') s):wpAny (model prog w) A (pyNext v) Q E s:=by
 unfold pyNext;refine ak (wpAny_attempt (ay ty sl (ah h (λx s' y=>aq y) λe s' y=>?_)));obtain⟨c,o,rfl,e1,e2,y⟩:=y;exact ak (wpAny_isInstance (b:=true) ⟨o,e1,e2⟩ isSubtype_stop (aq y))
theorem wO(b:Bool)(e:jX b s.heap a its)(q:Q (.ref s.heap.objs.size) { s with heap:=s.heap.push (lG b a 0) }):wpAny (model prog w) A (pyIter (.ref a)) Q E s:=by
 obtain⟨o,n,eo,ec,ed⟩:=e;cases b
 ·exact wpAny_pyIter_tuple ⟨o,eo,ec,n,ed⟩ q
 ·exact wpAny_pyIter_list ⟨o,eo,ec,n,ed⟩ q
end
structure MC(b1 b2:Bool)(l1 l2:Addr)(h h':Heap):Prop where
 zip:IsZip h' (h.objs.size+4) (h.objs.size+2) (h.objs.size+3) .none
 WD:IsPair h' (h.objs.size+2) (.ref h.objs.size) (.ref (h.objs.size+1))
 out:IsPair h' (h.objs.size+3) .none .none
 one:i8 b1 h' h.objs.size l1 0
 two:i8 b2 h' (h.objs.size+1) l2 0
 old:∀c o,h.get? c=some o→h'.get? c=some o
theorem jX.up(x:jX b h a its)(k:∀o,h.get? a=some o→h'.get? a=some o):jX b h' a its:=by
 obtain⟨o,n,eo,r⟩:=x;exact⟨o,n,k o eo,r⟩
theorem WE(b1 b2:Bool)(l1 l2:Addr)(xs ys:Array Value) :
  Meets (Builtin.«zip.__new__» ⟨[.type "zip",.ref l1,.ref l2],[]⟩) (λ_ R s=>(jX b1 s.heap l1 xs∧jX b2 s.heap l2 ys)∧
   ∀h',MC b1 b2 l1 l2 s.heap h'→R (.ok (.ret (.ref (s.heap.objs.size+4)))) { s with heap:=h' }):=
 .of_wp λprog w A R s hyp=>by
  obtain⟨h,g,dr,tk,os⟩:=s;obtain⟨⟨q1,q2⟩,fin⟩:=hyp;have sub:=sub_zip;have WG:jX b2 (Shared.mk (h.push (lG b1 l1 0)) g dr tk os).heap l2 ys:=q2.up λo e=>dj _ e;wp_walk using wO b1 q1,wO b2 WG
  dsimp only;have z1:=lX h (lG b1 l1 0);generalize e1:h.push (lG b1 l1 0)=ha at *;have z2:=lX ha (lG b2 l2 0);generalize e2:ha.push (lG b2 l2 0)=hb at *;generalize e3:hb.push _=hc;have z3:hc.objs.size=hb.objs.size+1:=by rw[← e3];exact lX ..
  generalize e4:hc.push _=hd;have z4:hd.objs.size=hc.objs.size+1:=by rw[← e4];exact lX ..
  rw[z1]at z2;rw[z2]at z3;rw[z3]at z4;have a1:ha.get? h.objs.size=some (lG b1 l1 0):=by rw[← e1];exact gJ _ rfl
  have a2:hb.get? (h.objs.size+1)=some (lG b2 l2 0):=by rw[← e2,← z1];exact gJ _ rfl
  have a3:hc.get? (h.objs.size+2)=some { cls:=.type "tuple",data:=.seq #[.ref h.objs.size,.ref (h.objs.size+1)] }:=by
   rw[← e3,← z2,← z1];exact gJ _ rfl
  have a4:hd.get? (h.objs.size+3)=some { cls:=.type "tuple",data:=.seq #[.none,.none] }:=by
   rw[← e4,← z3];exact gJ _ rfl
  have u1:∀c o,h.get? c=some o→ha.get? c=some o:=λc o y=>by rw[← e1];exact dj _ y
  have u2:∀c o,ha.get? c=some o→hb.get? c=some o:=λc o y=>by rw[← e2];exact dj _ y
  have u3:∀c o,hb.get? c=some o→hc.get? c=some o:=λc o y=>by rw[← e3];exact dj _ y
  have u4:∀c o,hc.get? c=some o→hd.get? c=some o:=λc o y=>by rw[← e4];exact dj _ y
  have u5:∀(r:Obj) c o,hd.get? c=some o→(hd.push r).get? c=some o:=λr c o y=>dj _ y;rw[z2,z3,z4];refine⟨_,rfl,fin _ ⟨?_,u5 _ _ _ (u4 _ _ a3),u5 _ _ _ a4,u5 _ _ _ (u4 _ _ (u3 _ _ (u2 _ _ a1))),u5 _ _ _ (u4 _ _ (u3 _ _ a2)),λc o y=>u5 _ _ _ (u4 _ _ (u3 _ _ (u2 _ _ (u1 _ _ y))))⟩⟩;rw[← z4];exact gJ _ rfl
theorem WH(b:Bool)(l:Addr)(xs:Array Value)(o:Obj)(n:Nat)(ec:o.cls=.type (Mq b))(ed:o.data=.seq xs n) :
  Meets (Builtin.«enumerate.__new__» ⟨[.type "enumerate",.ref l],[]⟩) (λ_ R s=>s.heap.get? l=some o∧
   ∀h',IsEnum h' (s.heap.objs.size+1) s.heap.objs.size 0 .none→i8 b h' s.heap.objs.size l 0→(∀c o,s.heap.get? c=some o→h'.get? c=some o)→R (.ok (.ret (.ref (s.heap.objs.size+1)))) { s with heap:=h' }):=
 .of_wp λprog w A R s hyp=>by
  obtain⟨h,g,dr,tk,os⟩:=s;obtain⟨e1,fin⟩:=hyp;have sub:=sub_enumerate;have q1:jX b (Shared.mk h g dr tk os).heap l xs:=⟨o,n,e1,ec,ed⟩;have done:∀(e:Addr)(r:Obj),r={ cls:=.type "enumerate",data:=.fields #[.none,.bool false,.ref h.objs.size,rawInt 0,.none,.none] }→e=h.objs.size+1→R (.ok (.ret (.ref e))) (Shared.mk ((h.push (lG b l 0)).push r) g dr tk os):=by
   rintro e r rfl rfl;refine fin _ ?_ (dj _ (gJ _ rfl)) λc o y=>dj _ (dj _ y);have z1:=lX h (lG b l 0);show Heap.get? _ (h.objs.size+1)=_;rw[← z1];exact gJ _ rfl
  wp_walk using wO b q1
  refine wpAny_stack_any λst=>?_;wp_walk
  split
  ·rename_i c _ _ _ _ _
   rcases Bool.eq_false_or_eq_true (c==Value.type "enumerate")with y|y
   ·rw[y];wp_walk using wO b q1
    exact⟨_,rfl,done _ _ rfl (lX ..)⟩
   ·rw[y];wp_walk using wO b q1
    exact⟨_,rfl,done _ _ rfl (lX ..)⟩
  ·wp_walk using wO b q1
   exact⟨_,rfl,done _ _ rfl (lX ..)⟩
section
variable{prog:Program}{w:World}{A:Around}{E:QV}{s:Shared}
theorem WI(b1 b2:Bool){l1 l2:Addr}{xs ys:Array Value}(q1:jX b1 s.heap l1 xs)(q2:jX b2 s.heap l2 ys)
  (q:∀h',MC b1 b2 l1 l2 s.heap h'→Q (.ref (s.heap.objs.size+4)) { s with heap:=h' }):wpAny (model prog w) A (call (.type "zip") [.ref l1,.ref l2]) Q E s:=
 callType_new F.called_zip (by decide) (F.typeCall_zip_2 _ _) (F.newCall_zip_2 _ _) (λv=>F.args_object_init_3 v _ _) F.entry_zip_new (WE b1 b2 l1 l2 xs ys) ⟨⟨q1,q2⟩,λh' N=>⟨⟨_,N.zip,rfl⟩,q h' N⟩⟩
theorem WJ(b:Bool){xs:Array Value}(q1:jX b s.heap l xs)
  (q:∀h',IsEnum h' (s.heap.objs.size+1) s.heap.objs.size 0 .none→i8 b h' s.heap.objs.size l 0→(∀c o,s.heap.get? c=some o→h'.get? c=some o)→Q (.ref (s.heap.objs.size+1)) { s with heap:=h' }):wpAny (model prog w) A (call (.type "enumerate") [.ref l]) Q E s:=by
 obtain⟨o,n,eo,ec,ed⟩:=q1;exact callType_new F.called_enumerate (by decide) (F.typeCall_enumerate_1 _) (F.newCall_enumerate_1 _) (λv=>F.args_object_init_2 v _) F.entry_enumerate_new (WH b l xs o n ec ed) ⟨eo,λh' a1 a2 a3=>⟨⟨_,a1,rfl⟩,q h' a1 a2 a3⟩⟩
end
noncomputable def wQ(K:Frag)(b1 b2:Bool)(l1 l2:Addr):It:=
 ⟨λi H=>∃xs ys x y,Sq b1 K H l1 xs∧Sq b2 K H l2 ys∧xs[i]?=some x∧ys[i]?=some y,
   λi H v H'=>∃p x y,v=.ref p∧H p=none∧H'=upd H p (.tup [x,y])∧(∀xs,Sq b1 K H l1 xs→xs[i]?=some x)∧∀ys,Sq b2 K H l2 ys→ys[i]?=some y,
   λi H=>∃xs ys,Sq b1 K H l1 xs∧Sq b2 K H l2 ys∧(i=xs.length∨(i<xs.length∧i=ys.length))⟩
noncomputable def tD(K:Frag)(b:Bool)(l:Addr):It:=
 ⟨λi H=>∃xs x,Sq b K H l xs∧xs[i]?=some x,
   λi H v H'=>∃p x,v=.ref p∧H p=none∧H'=upd H p (.tup [.int i,x])∧∀xs,Sq b K H l xs→xs[i]?=some x,
   λi H=>∃xs,Sq b K H l xs∧i=xs.length⟩
theorem MD{P:Program}{w:World}{x y:V}{u:Value}(hp:IsPair h p u v)(rx:RelV x u)(ry:RelV y v):gv P w H h p (.tup [x,y]):=
 ⟨by show 2≤sizeLine;decide,[u,v],.cons rx (.cons ry .nil),_,hp,rfl,rfl,_,rfl⟩
structure WK(z TI TO i1 i2 l1 l2:Addr):Prop where
 sep:FX z TI TO i1 i2 [i1,l1] [i2,l2]
 n1:l1≠i1
 n2:l2≠i2
theorem WL{P:Program}{w:World}{K:Frag}{pt:Pos}(b1 b2:Bool){z TI TO i1 i2 l1 l2:Addr}(D:WK z TI TO i1 i2 l1 l2) :
  Turn P w K (.Tuple es kt pt) (wQ K b1 b2 l1 l2) [z,TI,TO,i1,i2] z (λi h=>IsZip h z TI TO .none∧IsPair h TI (.ref i1) (.ref i2)∧(∃a b,IsPair h TO a b)∧i8 b1 h i1 l1 i∧i8 b2 h i2 l2 i) where
 mem:=by simp
 obj:=λi h st b hb=>by
  obtain⟨hz,rq,⟨a,c,tE⟩,h1,h2⟩:=st;simp only[dX,or_false,yi]at hb;rcases hb with rfl|rfl|rfl|rfl|rfl
  ·exact⟨_,hz,λv q=>by cases q⟩
  ·exact⟨_,rq,λv q=>by cases q⟩
  ·exact⟨_,tE,λv q=>by cases q⟩
  ·exact h1.obj
  ·exact h2.obj
 keep:=λi h h' st k=>by
  obtain⟨hz,rq,⟨a,c,tE⟩,h1,h2⟩:=st;exact⟨k z (by simp) _ hz,k TI (by simp) _ rq,⟨a,c,k TO (by simp) _ tE⟩,h1.up λo e=>k i1 (by simp) o e,h2.up λo e=>k i2 (by simp) o e⟩
 item:=by
  intro X hP hw hK hc i aL s σ H E I hf st hg;subst hP hw hK;obtain⟨hz,rq,⟨ta,tb,tE⟩,h1,h2⟩:=st;obtain⟨xs,ys,x,y,nA,iU,hx,hy⟩:=hg;obtain⟨mh,rA,p1,pq⟩:=I.sq nA;obtain⟨wR,B2,p2,qi⟩:=I.sq iU;obtain⟨u,hu,ru⟩:=rA.get hx;obtain⟨v,hv,rv⟩:=B2.get hy;have lx:i<mh.toArray.size:=by rw[eE];exact(dH.mp hu).1
  have ly:i<wR.toArray.size:=by rw[eE];exact(dH.mp hv).1
  have hh:X.A.in1.handled=none:=I.ok.hd hc;have WM:z<s.heap.objs.size:=dB hz;refine MB ⟨_,hz,rfl⟩ F.slot_zip_next (az F.slot_zip_next ⟨_,hz,rfl⟩ F.entry_zip_next (Ww (wN b1 hh i1 l1 D.n1 mh.toArray) (wN b2 hh i2 l2 D.n2 wR.toArray) D.sep hz rq tE ⟨h1,p1⟩ ⟨h2,p2⟩ lx ly λu' v' h' tk e1 e2 a1 a2 a3 a4 a5 a6 hk=>?_) (F.args_zip_next_1 _));have eu:u'=u:=by
   have tF:mh.toArray[i]?=some u':=e1;rw[List.getElem?_toArray,hu]at tF;exact(dZ tF).symm
  have ev:v'=v:=by
   have ME:wR.toArray[i]?=some v':=e2;rw[List.getElem?_toArray,hv]at ME;exact(dZ ME).symm
  subst eu ev;refine⟨_,rfl,wpAny_letOwnedTupleGo_zip a1 λqh WN sb=>?_⟩;have iM:∀b o,b ∉ [z,TI,TO,i1,i2]→s.heap.get? b=some o→qh.get? b=some o:=λb o hb e=>by
   have:b≠z∧b≠TI∧b≠TO∧b≠i1∧b≠i2:=by simpa using hb
   exact(sb.2 b this.1).trans (hk b o this.1 this.2.2.1 this.2.2.2.1 this.2.2.2.2 e)
  have I1:Inv X aL σ H { s with heap:=qh,toks:=tk }:=I.B1 iM hf;have WO:s.heap.objs.size≠z:=Nat.ne_of_gt WM;have y8:IsPair qh s.heap.objs.size u' v':=(sb.2 _ WO).trans a5;have fp:jg X aL H s.heap.objs.size:=I.l6 (ck _) (I.bz.fresh (ck _));have I2:=I1.y6 (o:=.tup [x,y]) fp (MD y8 ru rv);have up:∀b,b≠z→∀o,h'.get? b=some o→qh.get? b=some o:=λb hb o e=>(sb.2 b hb).trans e;refine⟨.ref s.heap.objs.size,_,I2,rfl,⟨_,x,y,rfl,fp.1,rfl,λWQ q=>by rw[I.Gb q nA];exact hx,λys' q=>by rw[I.Gb q iU];exact hy⟩,⟨WN,up _ D.sep.Mr _ (hk _ _ D.sep.Mr D.sep.Ws D.sep.Wt D.sep.Wu rq),⟨_,_,up _ D.sep.tj _ a2⟩,a3.1.up λo e=>up _ D.sep.BZ o e,a4.1.up λo e=>up _ D.sep.FY o e⟩,λb hb=>?_⟩;rw[bU]
  ·exact(hf b hb).1
  ·obtain⟨o,e⟩:∃o,s.heap.get? b=some o:=by
    simp only[dX,or_false,yi]at hb;rcases hb with rfl|rfl|rfl|rfl|rfl
    ·exact⟨_,hz⟩
    ·exact⟨_,rq⟩
    ·exact⟨_,tE⟩
    ·exact⟨_,h1.obj.choose_spec.1⟩
    ·exact⟨_,h2.obj.choose_spec.1⟩
   exact fu (dB e)
 done:=by
  intro X hP hw hK hc i aL s σ H E I hf st hg;subst hP hw hK;obtain⟨hz,rq,⟨ta,tb,tE⟩,h1,h2⟩:=st;obtain⟨xs,ys,nA,iU,hx⟩:=hg;obtain⟨mh,rA,p1,pq⟩:=I.sq nA;obtain⟨wR,B2,p2,qi⟩:=I.sq iU;have hh:X.A.in1.handled=none:=I.ok.hd hc;have WR:=rA.length;have ll2:=B2.length;refine MB ⟨_,hz,rfl⟩ F.slot_zip_next (az F.slot_zip_next ⟨_,hz,rfl⟩ F.entry_zip_next (WB (wN b1 hh i1 l1 D.n1 mh.toArray) (wN b2 hh i2 l2 D.n2 wR.toArray) D.sep hz rq tE ⟨h1,p1⟩ ⟨h2,p2⟩ ?_ λh' e tk hk ⟨o,e1,e2⟩=>⟨e,o,rfl,e1,e2,?_⟩) (F.args_zip_next_1 _))
  ·rw[eE,eE];lia
  ·refine⟨rfl,I.B1 (λb o hb y=>?_) hf⟩
   have:b≠z∧b≠TI∧b≠TO∧b≠i1∧b≠i2:=by simpa using hb
   exact hk b o this.1 this.2.2.1 this.2.2.2.1 this.2.2.2.2 y
 self:=λ_ _ _ _ _ st h=>wpAny_pyIter_zip st.1 h
theorem WS{e:Addr}(x:IsEnum h e it ((i:Int)+1) v):IsEnum h e it (((i+1:Nat)):Int) v:=x
theorem jY(i j:Nat)(h:i≠j:=by decide):@Ne Addr (n+i) (n+j):=λz=>h (Nat.add_left_cancel z)
theorem tG(i:Nat)(h:l<n):@Ne Addr (n+i) l:=Nat.ne_of_gt (js h (pT n i))
theorem wU{b:Addr}(h1:a≠b)(h2:a≠c):a ∉ [b,c]:=by simp[h1,h2]
theorem WT{P:Program}{w:World}{K:Frag}{pt:Pos}(b:Bool){e:Addr}(Gd:e≠it)(y9:l≠e)(MF:l≠it) :
  Turn P w K (.Tuple es kt pt) (tD K b l) [e,it] e (λi h=>(∃old,IsEnum h e it i old)∧i8 b h it l i) where
 mem:=by simp
 obj:=λi h st c hc=>by
  obtain⟨⟨old,he⟩,h1⟩:=st;simp only[dX,yi,or_false]at hc;rcases hc with rfl|rfl
  ·exact⟨_,he,λv q=>by cases q⟩
  ·exact h1.obj
 keep:=λi h h' st k=>by
  obtain⟨⟨old,he⟩,h1⟩:=st;exact⟨⟨old,k e (by simp) _ he⟩,h1.up λo q=>k it (by simp) o q⟩
 item:=by
  intro X hP hw hK hc i aL s σ H E I hf st hg;subst hP hw hK;obtain⟨⟨old,he⟩,h1⟩:=st;obtain⟨xs,x,hq,hx⟩:=hg;obtain⟨mh,rA,p1,pq⟩:=I.sq hq;obtain⟨u,hu,ru⟩:=rA.get hx;have lx:i<mh.toArray.size:=by rw[eE];exact(dH.mp hu).1
  have hh:X.A.in1.handled=none:=I.ok.hd hc;have WU:e<s.heap.objs.size:=dB he;refine wpAny_pyNext_enum_itemD (wN b hh it l MF mh.toArray) he ⟨h1,p1⟩ lx Gd (by simp;exact⟨Gd,y9.symm⟩) λu' h' tk e1 a1 a2 a3 a4 hk=>?_;have eu:u'=u:=by
   have tF:mh.toArray[i]?=some u':=e1;rw[List.getElem?_toArray,hu]at tF;exact(dZ tF).symm
  subst eu;refine⟨_,rfl,wpAny_letOwnedTupleGo_enum a1 λqh WV sb=>?_⟩;have iM:∀c o,c ∉ [e,it]→s.heap.get? c=some o→qh.get? c=some o:=λc o hc q=>by
   have:c≠e∧c≠it:=by simpa using hc
   exact(sb.2 c this.1).trans (hk c o this.1 this.2 q)
  have I1:Inv X aL σ H { s with heap:=qh,toks:=tk+1 }:=I.B1 iM hf;have B3:s.heap.objs.size≠e:=Nat.ne_of_gt WU;have y8:IsPair qh s.heap.objs.size (.int i tk) u':=(sb.2 _ B3).trans a3;have fp:jg X aL H s.heap.objs.size:=I.l6 (ck _) (I.bz.fresh (ck _));have I2:=I1.y6 (o:=.tup [.int i,x]) fp (MD y8 ⟨tk,rfl⟩ ru);refine⟨.ref s.heap.objs.size,_,I2,rfl,⟨_,x,rfl,fp.1,rfl,λWQ q=>by rw[I.Gb q hq];exact hx⟩,⟨⟨u',WS WV⟩,a2.1.up λo q=>(sb.2 it Gd.symm).trans q⟩,λc hc=>?_⟩;rw[bU]
  ·exact(hf c hc).1
  ·obtain⟨o,q⟩:∃o,s.heap.get? c=some o:=by
    simp only[dX,yi,or_false]at hc;rcases hc with rfl|rfl
    ·exact⟨_,he⟩
    ·exact⟨_,h1.obj.choose_spec.1⟩
   exact fu (dB q)
 done:=by
  intro X hP hw hK hc i aL s σ H E I hf st hg;subst hP hw hK;obtain⟨⟨old,he⟩,h1⟩:=st;obtain⟨xs,hq,hx⟩:=hg;obtain⟨mh,rA,p1,pq⟩:=I.sq hq;have hh:X.A.in1.handled=none:=I.ok.hd hc;have WR:=rA.length;have hn:i=mh.toArray.size:=by rw[eE];lia
  refine wpAny_pyNext_enum_endD (wN b hh it l MF mh.toArray) he (hn▸⟨h1,p1⟩) λh' hk=>?_;refine⟨rfl,I.B1 (t':=s.toks) (λc o hc q=>?_) hf⟩
  have:c≠e∧c≠it:=by simpa using hc
  exact hk c o this.2 q
 self:=λ_ _ _ _ _ st h=>wpAny_pyIter_enum st.1.choose_spec h
theorem WW:bootBuiltins "zip"=some (.type "zip"):=by decide +kernel
section
variable{X:Cx}
def MG(K:Frag)(b1 b2:Bool)(t:TA):TI:=λσ H R=>t σ H λvs H1=>∃l1 l2,vs=[.ref l1,.ref l2]∧(∃xs,Sq b1 K H1 l1 xs)∧(∃ys,Sq b2 K H1 l2 ys)∧R (wQ K b1 b2 l1 l2) H1
def B4(K:Frag)(b:Bool)(t:TA):TI:=λσ H R=>t σ H λvs H1=>∃l,vs=[.ref l]∧(∃xs,Sq b K H1 l xs)∧R (tD K b l) H1
theorem WX(b1 b2:Bool){a b:Expr}{ta:TA}{p pos pt:Pos}(hg:Gl X "zip")(hm:X.mg "zip"=none)(ha:PA X [a,b] ta)(hs:starEach [a,b] X.env=[(false,eval a X.env),(false,eval b X.env)]:=by rfl)(vh:starEach [b] X.env=[(false,eval b X.env)]:=by rfl) :
  PI X (.Tuple es kt pt) (.Call (.Name "zip" p) [a,b] [] pos) (MG X.K b1 b2 ta):=by
 intro aL s σ H R I h;refine Call_ (uS I hg hm WW (EU (bh (ha pos aL s σ H _ I h) λus s1 ⟨vs,H1,I1,r1,q1⟩=>?_) (by rw[hs,vh]) (by rw[vh];rfl)));obtain⟨l1,l2,e,⟨xs,nA⟩,⟨ys,iU⟩,q⟩:=q1;subst e;cases r1 with
 |cons r rr=>
  cases rr with
  |cons r' rr=>
   cases rr;cases r;cases r';obtain⟨mh,rA,p1,pq⟩:=I1.sq nA;obtain⟨wR,B2,p2,qi⟩:=I1.sq iU;have a1:l1<s1.heap.objs.size:=by obtain⟨_,e⟩:=p1.obj;exact dB e
   have a2:l2<s1.heap.objs.size:=by obtain⟨_,e⟩:=p2.obj;exact dB e
   refine WI b1 b2 p1 p2 λh' N=>wpAny_pyIter_zip N.zip ?_;refine⟨_,_,_,_,H1,rfl,I1.kept (t':=s1.toks) N.old,WL b1 b2 (z:=s1.heap.objs.size+4) (TI:=s1.heap.objs.size+2) (TO:=s1.heap.objs.size+3) (i1:=s1.heap.objs.size) (i2:=s1.heap.objs.size+1) ⟨?_,fu a1,fu (Nat.lt_succ_of_lt a2)⟩,⟨N.zip,N.WD,⟨_,_,N.out⟩,N.one,N.two⟩,λb hb=>?_,q⟩
   ·exact⟨jY 2 4,jY 3 4,jY 0 4,jY 1 4,jY 2 3,jY 2 0,jY 2 1,jY 3 0,jY 3 1,jY 0 1,⟨wU (jY 4 0) (tG 4 a1),wU (jY 4 1) (tG 4 a2)⟩,⟨wU (jY 3 0) (tG 3 a1),wU (jY 3 1) (tG 3 a2)⟩,wU (jY 1 0) (tG 1 a1),wU (jY 0 1) (tG 0 a2)⟩
   ·have lE:s1.heap.objs.size≤b:=by
     simp only[dX,or_false,yi]at hb;rcases hb with rfl|rfl|rfl|rfl|rfl
     ·exact pT _ 4
     ·exact pT _ 2
     ·exact pT _ 3
     ·exact ck _
     ·exact pT _ 1
    exact I1.l6 lE (I1.bz.fresh lE)
theorem WY(b:Bool){a:Expr}{ta:TA}{p pos pt:Pos}(hg:Gl X "enumerate")(hm:X.mg "enumerate"=none)(ha:PA X [a] ta)(hs:starEach [a] X.env=[(false,eval a X.env)]:=by rfl) :
  PI X (.Tuple es kt pt) (.Call (.Name "enumerate" p) [a] [] pos) (B4 X.K b ta):=by
 intro aL s σ H R I h;refine Call_ (uS I hg hm boot_enumerate (EU (bh (ha pos aL s σ H _ I h) λus s1 ⟨vs,H1,I1,r1,q1⟩=>?_) hs rfl));obtain⟨l,e,⟨xs,hq⟩,q⟩:=q1;subst e;cases r1 with
 |cons r rr=>
  cases rr;cases r;obtain⟨mh,rA,p1,pq⟩:=I1.sq hq;have a1:l<s1.heap.objs.size:=by obtain⟨_,e⟩:=p1.obj;exact dB e
  refine WJ b p1 λh' z1 z2 hk=>wpAny_pyIter_enum z1 ?_;refine⟨_,_,_,_,H1,rfl,I1.kept (t':=s1.toks) hk,WT b (e:=s1.heap.objs.size+1) (it:=s1.heap.objs.size) (jY 1 0) (tG 1 a1).symm (tG 0 a1).symm,⟨⟨_,z1⟩,z2⟩,λc hc=>?_,q⟩;have lE:s1.heap.objs.size≤c:=by
   simp only[dX,yi,or_false]at hc;rcases hc with rfl|rfl
   ·exact pT _ 1
   ·exact ck _
  exact I1.l6 lE (I1.bz.fresh lE)
end
theorem aU.sq{K:Frag}(e:aU H H')(h:Sq b K H a xs):Sq b K H' a xs:=by
 cases b with
 |true=>exact e.seq h
 |false=>
  rcases h with h|h
  ·refine .inl ?_;rcases h with h|⟨o,h⟩
   ·exact .inl (e _ _ h)
   ·exact .inr ⟨o,e _ _ h⟩
  ·exact .inr h
theorem aU.bt{K:Frag}(e:aU H H')(h:bj K H a xs):bj K H' a xs:=e.sq (b:=false) h
theorem aU.upd{H:Hp}{p:Addr}{o:HO}(h:H p=none):aU H (upd H p o):=λb u e=>by rw[bU (fg e h)];exact e
def oD(K:Frag)(H:Hp)(xs:List V)(Q:VK):Prop:=∀p H',aU H H'→bj K H' p xs→Q (.ref p) H'
theorem oD.old{K:Frag}{Q:VK}(h:oD K H xs Q)(q:bj K H p xs):Q (.ref p) H:=h p H (.refl H) q
theorem oD.new{K:Frag}{Q:VK}(h:oD K H xs Q)(n:H p=none):Q (.ref p) (upd H p (.tup xs)):=h p _ (.upd n) (.of bg)
theorem WZ:fillsNumberSlot (.type "tuple") "mul"=pure false:=
 PySem.fillsNumberSlot_seq (id := "tuple.__mul__") (r:=some (.builtin "tuple.__rmul__")) F.slot_tuple_mul.lookup (by decide +kernel) F.slot_tuple_rmul.lookup (by decide +kernel)
theorem W0:seqRepeat? (.type "tuple")=pure (some (.builtin "tuple.__mul__")):=by
 unfold seqRepeat?;rw[PySem.seqSlot_of (T := "tuple") (name := "__mul__") (id := "tuple.__mul__") F.slot_tuple_mul.lookup (by decide +kernel),PySem.seqSlot_of (T := "tuple") (name := "__rmul__") (id := "tuple.__rmul__") F.slot_tuple_rmul.lookup (by decide +kernel)];rfl
theorem W2(a:Int)(t:Tok)(l:Addr)(items:Array Value)(n:Nat)(dd:Option Addr)(sl:Array (Option Value)) :
  Meets (Builtin.«int.__rmul__» ⟨[.int a t,.ref l],[]⟩) (λ_ R s=>s.heap.get? l=some { cls:=.type "tuple",dict:=dd,data:=.seq items n,slots:=sl }∧R (.ok (.ret Value.notImplemented)) s):=
 .of_wp λprog w A R s h=>by
  obtain⟨Ge,Gf,Gg,Gh,Gi⟩:=s;have oE:=h.1;wp_walk
  exact⟨_,rfl,h.2⟩
section
variable{X:Cx}
theorem MH:gY X (.type "range") (λxs H Q=>∃i j:Int,xs=[.int i,.int j]∧∀p,H p=none→Q (.ref p) (upd H p (.qS i j))):=by
 intro aL s σ H vs us Q I r h;obtain⟨i,j,rfl,q⟩:=h;obtain⟨u,v,rfl,ru,rv⟩:=vals2 r;obtain⟨t,rfl⟩:=ru;obtain⟨t',rfl⟩:=rv;refine call_range_2 ?_;exact⟨.ref _,_,I.laid (t':=_) (o:=.qS i j) (λb o e=>dj _ e) (ck _) ⟨_,_,_,gJ _ rfl⟩,rfl,q _ I.fresh⟩
theorem W3{a:Int}:∀(n:Nat)(cE:Array Value),ItemsOf (λi v=>∃t,v=.int (a+i*1) t) cE n→Vals ((List.range n).map λ(i:Nat)=>V.int (a+i)) cE.toList:=by
 intro n cE h;have hsz:cE.size=n:=h.1;have key:∀(k:Nat),k≤n→Vals (((List.range n).map λ(i:Nat)=>V.int (a+i)).take k) (cE.toList.take k):=by
  intro k;induction k with
  |zero=>intro _;exact .nil
  |succ k ih=>
   intro hk;have iM:k<cE.size:=by lia
   rw[iB,iB];refine Vals.append (ih (by lia)) ?_;have e1:((List.range n).map λ(i:Nat)=>V.int (a+i))[k]?=some (V.int (a+k)):=by
    rw[du,List.getElem?_range (by lia)];rfl
   have e2:cE.toList[k]?=some cE[k]:=by simp[iM]
   rw[e1,e2];obtain⟨t,e⟩:=h.2 k cE[k] (by simp[iM]);refine .cons ⟨t,?_⟩ .nil;rw[e,sE]
 have:=key n (ck _)
 rw[o4 (by simp),o4 (by simp[hsz])]at this;exact this
theorem MI(hc:X.calm=true):gY X (.type "list") (λxs H Q=>∃p i j,xs=[.ref p]∧H p=some (.qS i j)∧(-(2^62)≤i∧i<2^62∧-(2^62)≤j∧j<2^62)∧j-i≤16777216∧
  ∀l,H l=none→Q (.ref l) (upd H l (.lst ((List.range (j-i).toNat).map λ(k:Nat)=>V.int (i+k))))):=by
 intro aL s σ H vs us Q I r h;obtain⟨p,i,j,rfl,hp,⟨h1,h2,h3,h4⟩,hz,q⟩:=h;obtain⟨u,rfl,ru⟩:=vals1 r;cases ru;obtain⟨t,u,v,e⟩:=I.bz p _ hp;have hn:Builtin.Range.rangeSize i j 1=(((j-i).toNat:Nat):Int):=by rw[rangeSize_one];split<;>lia
 refine call_list_range (I.ok.hd hc) (show IsRange s.heap p i j 1 t u v from e) (small_one h1 h2 h3 h4) hn (by lia) λh' tk cE c hk hS hI=>?_
 have rv:=W3 (a:=i) _ _ hI;have I1:Inv X aL σ H { s with heap:=h',toks:=tk }:=I.kept hk;have f:jg X aL H s.heap.objs.size:=I.l6 (ck _) I.fresh;have I2:=I1.y6 (o:=.lst ((List.range (j-i).toNat).map λ(k:Nat)=>V.int (i+k))) f ⟨?_,cE.toList,c,rv,hS⟩
 ·exact⟨.ref _,_,I2,rfl,q _ f.1⟩
 ·rw[bO,Bi]
  have:(16777216:Nat)≤sizeLine:=by decide
  lia
theorem MJ:∀{ns:List Int}{its:List Value},Vals (ns.map V.int) its→∃ps:List (Int×Tok),its=ps.map (λp=>Value.int p.1 p.2)∧ps.map (·.1)=ns
 | [],_,.nil=>⟨[],rfl,rfl⟩
 |n::ns,_,.cons r rr=>by
  obtain⟨t,rfl⟩:=r;obtain⟨ps,rfl,rfl⟩:=MJ rr;exact⟨(n,t)::ps,rfl,rfl⟩
theorem W4(hc:X.calm=true):gY X (.builtin "sum") (λxs H Q=>∃p ns,xs=[.ref p]∧dP X.K H p (List.map V.int ns)∧Q (.int ns.sum) H):=by
 intro aL s σ H vs us Q I r h;obtain⟨p,ns,rfl,hq,q⟩:=h;obtain⟨u,rfl,ru⟩:=vals1 r;cases ru;obtain⟨its,rv,pl,hz⟩:=I.list hq;obtain⟨ps,rfl,rfl⟩:=MJ rv;have pw:s.heap.IsList p (intItems ps.toArray):=by
  have z:=pl.isList;rwa[show(ps.map λp=>Value.int p.1 p.2).toArray=intItems ps.toArray by simp[intItems]]at z
 refine sum_intListG (I.ok.hd hc) pw λh' tk t' hk=>⟨.int _,H,I.kept hk,⟨t',?_⟩,q⟩
 have:=preSum_eq ps.toArray ps.toArray.size
 simp only[eE]at this;rw[o4 (Nat.le_of_eq (bO _))]at this;simp[this]
theorem Gj{T:String}:gY X (.builtin "isinstance") (λxs H Q=>∃x t b,xs=[x,.ty T]∧nk X.K H x t∧kitOne X.K t (.type T)=some b∧Q (.bl b) H):=by
 intro aL s σ H vs us Q I r h;obtain⟨x,t,b,rfl,ty,e,q⟩:=h;obtain⟨u,v,rfl,ru,rv⟩:=vals2 r;cases rv;exact U9 I ru ty e λtk=>⟨.bl b,H,I.tok tk,rfl,q⟩
end
mutual
inductive jj(K:Frag)(H:Hp):V→Dat→Prop
 |none:jj K H .da .none
 |bool (b:Bool):jj K H (.bl b) (.bool b)
 |int (i:Int):jj K H (.int i) (.int i)
 |str (x:Str):jj K H (.str x) (.str x)
 |tuple {a:Addr} {xs:List V} {ds:List Dat}:bj K H a xs→cu K H xs ds→jj K H (.ref a) (.tuple ds)
 |list {a:Addr} {xs:List V} {ds:List Dat}:dP K H a xs→cu K H xs ds→jj K H (.ref a) (.list ds)
inductive cu(K:Frag)(H:Hp):List V→List Dat→Prop
 |nil:cu K H [] []
 |cons {v:V} {vs:List V} {d:Dat} {ds:List Dat}:jj K H v d→cu K H vs ds→cu K H (v::vs) (d::ds)
end
mutual
theorem jj.mono{K:Frag}{H H':Hp}(e:aU H H'):∀{v:V}{d:Dat},jj K H v d→jj K H' v d
 |_,_,.none=>.none
 |_,_,.bool b=>.bool b
 |_,_,.int i=>.int i
 |_,_,.str x=>.str x
 |_,_,.tuple h r=>.tuple (e.bt h) (cu.mono e r)
 |_,_,.list h r=>.list (e.seq h) (cu.mono e r)
theorem cu.mono{K:Frag}{H H':Hp}(e:aU H H'):∀{vs:List V}{ds:List Dat},cu K H vs ds→cu K H' vs ds
 |_,_,.nil=>.nil
 |_,_,.cons h r=>.cons (jj.mono e h) (cu.mono e r)
end
theorem cu.length{K:Frag}{H:Hp}:∀{vs:List V}{ds:List Dat},cu K H vs ds→vs.length=ds.length
 |_,_,.nil=>rfl
 |_,_,.cons _ r=>by rw[eK,eK,cu.length r]
theorem cu.append{K:Frag}{H:Hp}:∀{vs ws:List V}{ds es:List Dat},cu K H vs ds→cu K H ws es→cu K H (vs++ws) (ds++es)
 |_,_,_,_,.nil,k=>k
 |_,_,_,_,.cons h r,k=>.cons h (cu.append r k)
theorem cu.get{K:Frag}{H:Hp}:∀{vs:List V}{ds:List Dat}{i:Nat}{v:V},cu K H vs ds→vs[i]?=some v→∃d,ds[i]?=some d∧jj K H v d
 |_,_,0,_,.cons h _,e=>by
  have e':_=_:=dZ e;subst e';exact⟨_,rfl,h⟩
 |_,_,i+1,v,.cons _ r,e=>cu.get (i:=i) (v:=v) r e
theorem cu.ints{K:Frag}{H:Hp}:∀(ns:List Int),cu K H (ns.map V.int) (ns.map Dat.int)
 | []=>.nil
 |n::ns=>.cons (.int n) (cu.ints ns)
theorem cu.Gk{K:Frag}{H:Hp}:∀{xs:List V}{ns:List Int},cu K H xs (ns.map Dat.int)→xs=ns.map V.int
 |_,[],h=>by cases h;rfl
 |_,n::ns,h=>by
  cases h with
  |cons h r=>
   cases h;rw[cu.Gk r];rfl
mutual
theorem jj.reads{X:Cx}{aL:List (Addr×Obj)}{σ:St}{H:Hp}{s:Shared}(I:Inv X aL σ H s):∀{v:V}{d:Dat}{u:Value},jj X.K H v d→RelV v u→∃as,Reads s.heap u (PySem.W.kqdP d) as
 |_,_,u,.none,r=>by cases(show u=Value.none from r);exact⟨_,.none⟩
 |_,_,u,.bool b,r=>by cases(show u=Value.bool b from r);exact⟨_,.bool b⟩
 |_,_,u,.int i,r=>by obtain⟨t,rfl⟩:=r;exact⟨_,.int i t⟩
 |_,_,u,.str x,r=>by obtain⟨t,rfl⟩:=r;exact⟨_,.str x t⟩
 |_,_,u,.tuple (a:=a) h q,r=>by
  cases(show u=Value.ref a from r)
  obtain⟨its,rv,⟨o,ho,hc,n,hd⟩,_⟩:=I.tuple h;obtain⟨as,z⟩:=cu.reads I q rv;rw[PySem.W.kqdP];exact⟨as,.tuple ho hc hd (by simpa using z)⟩
 |_,_,u,.list (a:=a) h q,r=>by
  cases(show u=Value.ref a from r)
  obtain⟨its,rv,p,_⟩:=I.list h;obtain⟨o,ho,hc,n,hd⟩:=p.isList;obtain⟨as,z⟩:=cu.reads I q rv;rw[PySem.W.kqdP];exact⟨_,.list ho hc hd (by simpa using z)⟩
theorem cu.reads{X:Cx}{aL:List (Addr×Obj)}{σ:St}{H:Hp}{s:Shared}(I:Inv X aL σ H s):∀{vs:List V}{ds:List Dat}{us:List Value},cu X.K H vs ds→Vals vs us→∃as,ReadsAll s.heap us (PySem.W.kqdPs ds) as
 |_,_,_,.nil,.nil=>⟨_,.nil⟩
 |_,_,_,.cons h q,.cons r rr=>by
  obtain⟨as,z⟩:=jj.reads I h r;obtain⟨bs,y⟩:=cu.reads I q rr;rw[PySem.W.kqdPs];exact⟨_,.cons z y⟩
end
section
variable{X:Cx}
open Classical in
def MK(K:Frag)(neg:Bool):R2:=λx y H Q=>∃d e,jj K H x d∧jj K H y e∧kqdOk 8 d=true∧kqdOk 8 e=true∧Q (.bl (if neg then !decide (d=e)else decide (d=e))) H
open Classical in
theorem W5{d e:Dat}(hd:kqdOk 8 d=true)(he:kqdOk 8 e=true):PyData.eqv (PySem.W.kqdP d) (PySem.W.kqdP e)=decide (d=e):=by
 exact Bool.eq_iff_iff.mpr ((PySem.W.kqd_eqv 8 d e 8 hd he).trans decide_eq_true_iff.symm)
theorem ML{d:Dat}(hd:kqdOk 8 d=true):SeqAt.shaped (PySem.W.kqdP d)=true:=by
 have l:=PySem.W.kqd_lay 8 d hd;unfold SeqAt.shaped;rw[l.1,Bool.true_and];exact aC (eS l.2 (by decide))
theorem W6(hu:X.A.units+64<cLine):ik X (compareOp .NotEq) (MK X.K true):=by
 intro aL s σ H x y v u Q I rx ry h;obtain⟨d,e,hx,hy,hd,he,q⟩:=h;obtain⟨as,ra⟩:=hx.reads I rx;obtain⟨bs,rb⟩:=hy.reads I ry;refine ne_dataH ra rb (ML hd) (ML he) hu ?_;rw[W5 hd he];exact⟨.bl _,H,I,rfl,q⟩
end
noncomputable def dD(ns:List Int):Dat:=.tuple (ns.map .int)
theorem W7(n:Nat)(ns:List Int):kqdOk (n+1) (dD ns)=true:=by
 unfold dD kqdOk;rw[List.all_map];exact pU.mpr λ_ _=>by cases n<;>rfl
theorem W8(l:Addr)(items:Array Value)(n:Nat)(dd:Option Addr)(sl:Array (Option Value))(u:Tok) :
  Meets (Builtin.«tuple.__mul__» ⟨[.ref l,.int 1 u],[]⟩) (λ_ R s=>s.heap.get? l=some { cls:=.type "tuple",dict:=dd,data:=.seq items n,slots:=sl }∧R (.ok (.ret (.ref l))) s):=
 .of_wp λprog w A R s h=>by
  obtain⟨Ge,Gf,Gg,Gh,Gi⟩:=s;have oE:=h.1;have f1:=AutoSeq1.idx_int;wp_walk using uI oE
  exact⟨_,rfl,h.2⟩
theorem W9(l:Addr)(items:Array Value)(n:Nat)(dd:Option Addr)(sl:Array (Option Value))(x:Int)(u:Tok)(hx:x≤0)(hx2:-(2^63)≤x)(cL:items.isEmpty=false) :
  Meets (Builtin.«tuple.__mul__» ⟨[.ref l,.int x u],[]⟩) (λ_ R s=>s.heap.get? l=some { cls:=.type "tuple",dict:=dd,data:=.seq items n,slots:=sl }∧
   R (.ok (.ret (Value.ref s.heap.objs.size))) { s with heap:=s.heap.push { cls:=Value.type "tuple",data:=Data.seq #[] } }):=
 .of_wp λprog w A R s h=>by
  obtain⟨Ge,Gf,Gg,Gh,Gi⟩:=s;have oE:=h.1;have f1:=AutoSeq1.idx_int;have c1:(decide (x < -2^63)||decide (x≥2^63))=false:=by simp;lia
  have c2:(items.isEmpty||x==1)=false:=by rw[cL];simp;lia
  have c3:(decide (x≤0)||items.isEmpty)=true:=by simp[hx]
  wp_walk using uI oE
  refine aD (by rw[c1];rfl) ?_;wp_walk using uI oE
  refine aD (by rw[c2];rfl) ?_;wp_walk using uI oE
  exact⟨_,rfl,h.2⟩
theorem MM(items:Array Value):∀(k:Nat)(cE:Array Value),(List.foldl (λx1 x2=>x1++x2) cE (List.replicate k items)).size=cE.size+k*items.size
 |0,cE=>by simp
 |k+1,cE=>by rw[uG,List.foldl_cons,MM items k,Array.size_append,Nat.succ_mul];lia
theorem Xa(l:Addr)(items:Array Value)(n:Nat)(dd:Option Addr)(sl:Array (Option Value))(x:Int)(u:Tok)(hx:2≤x)(hx2:x<2^63)(cL:items.isEmpty=false)(hz:items.size*x.toNat≤sizeLine) :
  Meets (Builtin.«tuple.__mul__» ⟨[.ref l,.int x u],[]⟩) (λ_ R s=>s.heap.get? l=some { cls:=.type "tuple",dict:=dd,data:=.seq items n,slots:=sl }∧
   R (.ok (.ret (Value.ref s.heap.objs.size))) { s with heap:=s.heap.push { cls:=Value.type "tuple",data:=Data.seq (List.foldl (λx1 x2=>x1++x2) #[] (List.replicate x.toNat items)) } }):=
 .of_wp λprog w A R s h=>by
  obtain⟨Ge,Gf,Gg,Gh,Gi⟩:=s;have oE:=h.1;have f1:=AutoSeq1.idx_int;have c1:(decide (x < -2^63)||decide (x≥2^63))=false:=by simp;lia
  have c2:(items.isEmpty||x==1)=false:=by rw[cL];simp;lia
  have c3:(decide (x≤0)||items.isEmpty)=false:=by rw[cL];simp;lia
  have e:(items.size:Int)*x=((items.size*x.toNat:Nat):Int):=by
   rw[Int.natCast_mul];congr 1;lia
  have nu:(sizeLine:Nat)≤(2^63-1)/8:=by decide
  have c4:decide ((items.size:Int)*x>(2^63-1)/8)=false:=by rw[e];simp only[aE];lia
  have c5:Builtin.Tuple.tupleTooMany ((items.size:Int)*x)=false:=by rw[e];unfold Builtin.Tuple.tupleTooMany;simp only[aE];lia
  have c6:(List.foldl (λx1 x2=>x1++x2) #[] (List.replicate x.toNat items)).size≤sizeLine:=by rw[MM,Array.size_empty,Nat.zero_add,Nat.mul_comm];exact hz
  wp_walk using uI oE
  refine aD (by rw[c1];rfl) ?_;wp_walk using uI oE
  refine aD (by rw[c2];rfl) ?_;wp_walk using uI oE
  refine aD (by rw[c3];rfl) ?_;wp_walk
  refine aD c4 ?_;wp_walk
  refine aD (by rw[c5];rfl) ?_;wp_walk
  exact⟨_,rfl,h.2⟩
def wV(K:Frag):R2:=λx y H Q=>∃a k xs,x=.ref a∧y=.int k∧bj K H a xs∧xs≠[]∧-(2^63)≤k∧k<2^63∧xs.length*k.toNat≤sizeLine∧oD K H (List.replicate k.toNat xs).flatten Q
theorem Xb{X:Cx}:ik X (binaryOp .Mult) (wV X.K):=by
 intro aL s σ H x y v u Q I rx ry h;obtain⟨l,k,xs,rfl,rfl,hH,cL,h1,h2,hz,q⟩:=h;cases rx;obtain⟨t,rfl⟩:=ry;obtain⟨its,r,ht,_⟩:=I.tuple hH;obtain⟨⟨cls,dd,data,sl⟩,ho,hc,n,hd⟩:=id ht;simp only at hc hd;subst hc hd;have hi:its.toArray.isEmpty=false:=by
  have:its≠[]:=λz=>cL (r.BN.mp z)
  cases its with
  |nil=>exact absurd rfl this
  |cons a b=>rfl
 have cD:its.toArray.size*k.toNat≤sizeLine:=by rw[eE,← r.length];exact hz
 have f0:∀m:Nat,List.foldl (λx1 x2=>x1++x2) #[] (List.replicate m its.toArray)=(List.replicate m its).flatten.toArray:=λm=>by
  have:=foldl_rep its m []
  rw[lY]at this;exact this
 refine wpAny_binaryOp_repeat_ref (T := "tuple") (U := "int") (by decide) ⟨_,ho,rfl⟩ (λs'=>typeIs_int s' k t) WZ F.fills_int_mul F.slot_int_rmul W0 F.slot_int_index.lookup
  (call_meets F.slot_int_rmul (typeIs_int s k t) F.entry_int_rmul (F.args_int_rmul_2 _ _) (W2 k t l its.toArray n dd sl) ⟨ho,rfl,⟨_,ho,rfl⟩,?_⟩)
 by_cases Xc:k=1
 ·subst Xc;refine call_meets F.slot_tuple_mul ⟨_,ho,rfl⟩ F.entry_tuple_mul (F.args_tuple_mul_2 _ _) (W8 l its.toArray n dd sl t) ⟨ho,?_⟩;exact⟨.ref l,H,I,rfl,q.old (by simpa using hH)⟩
 ·by_cases wW:k≤0
  ·refine call_meets F.slot_tuple_mul ⟨_,ho,rfl⟩ F.entry_tuple_mul (F.args_tuple_mul_2 _ _) (W9 l its.toArray n dd sl k t wW h1 hi) ⟨ho,?_⟩;have e:k.toNat=0:=by lia
   rw[e]at q;exact⟨.ref _,_,I.laid (t':=s.toks) (o:=.tup []) (λb ob q=>dj _ q) (ck _) ⟨jf _,[],.nil,pY.new _ _⟩,rfl,q.new I.fresh⟩
  ·refine call_meets F.slot_tuple_mul ⟨_,ho,rfl⟩ F.entry_tuple_mul (F.args_tuple_mul_2 _ _) (Xa l its.toArray n dd sl k t (by lia) h2 hi cD) ⟨ho,?_⟩;rw[f0];exact⟨.ref _,_,I.laid (t':=s.toks) (o:=.tup (List.replicate k.toNat xs).flatten) (λb ob q=>dj _ q) (ck _) ⟨by rw[VF,Nat.mul_comm];exact hz,_,r.rep k.toNat,pY.new _ _⟩,rfl,q.new I.fresh⟩
noncomputable def MN(oN:List Str)(sX:Scope)(N:List Str)(own:Nat)(caps:List Nat)(scope:Scope):Bool:=
 decide (scope.kind=.function)&&decide N.Nodup&&decide (scope.names.map (·.1)).Nodup &&
 scope.names.all (λx=>x.2 != .free||(decide (sX.names.lookup x.1=some .cell)||decide (sX.names.lookup x.1=some .free))) &&
 decide (N.length=own+caps.length)&&decide (caps.map (λi=>oN[i]?)=(N.drop own).map some)&&(N.drop own).all (λx=>decide (scope.names.lookup x=some .free))
theorem gM.mk'{oN:List Str}{sX:Scope}{N:List Str}{own:Nat}{caps:List Nat}{scope:Scope}(h:MN oN sX N own caps scope=true):gM oN sX N own caps scope:=by
 unfold MN at h;simp only[ir,aF,pU,Bool.or_eq_true,bne_iff_ne,ne_eq]at h;obtain⟨⟨⟨⟨⟨⟨h1,h2⟩,h3⟩,h4⟩,h5⟩,h6⟩,h7⟩:=h;exact⟨h1,h2,h3,λx hx hk=>(h4 x hx).elim (λz=>absurd hk z) id,h5,h6,h7⟩
def mi(n:Nat)(cp:St)(H1:Hp)(P:Hp→List V→Prop):St→Hp→List V→Prop:=λσ H zs=>(∃o:St,o.length=n∧σ=o++cp)∧aU H1 H∧P H zs
section
variable{K:Frag}{H1:Hp}{cp:St}{g:TG}{tt:TT}{te:TE}{Q:VK}{xs ys:List V}{l1 l2 a:Addr}{b1 b2 b:Bool}{n own:Nat}{J:It}
theorem za(Pv:Nat→Hp→List V→Prop)(hn:n≤sizeLine)(h0:Pv 0 H1 [])(cD:∀i H zs,Pv i H zs→zs.length≤i)
  (Xd:∀i H,aU H1 H→i<n→J.go i H) (Xe:∀H,aU H1 H→J.stop n H)
  (step:∀i o H zs,i<n→o.length=own→aU H1 H→Pv i H zs→∀x H2,J.pe i H x H2→g x (o++cp) H2 λσ3 H3=>tt σ3 H3 λc H4=>if c=true then te σ3 H4 λv H5=>mi own cp H1 (Pv (i+1)) σ3 H5 (zs++[v])else mi own cp H1 (Pv (i+1)) σ3 H4 zs)
  (done:∀H zs,aU H1 H→Pv n H zs→∀p,H p=none→Q (.ref p) (upd H p (.lst zs))) :
  ∃W:Nat→Nat→St→Hp→List V→Prop,(∃m,W 0 m (List.replicate own none++cp) H1 [])∧mf J g tt te Q W:=by
 refine⟨λi m σ H zs=>m=n-i∧i≤n∧mi own cp H1 (Pv i) σ H zs,⟨n,by simp,jf _,⟨_,by simp,rfl⟩,.refl _,h0⟩,?_⟩;rintro i m σ H zs ⟨rfl,hi,⟨o,ho,rfl⟩,sm,pv⟩;have hl:=cD _ _ _ pv;by_cases cB:i<n
 ·exact .inr ⟨Xd i H sm cB,by lia,mi own cp H1 (Pv (i+1)),λσ2 H2 Xf q=>⟨n-(i+1),by lia,rfl,cB,q⟩,step i o H zs cB ho sm pv⟩
 ·have e:i=n:=by lia
  subst e;exact .inl ⟨Xe H sm,by lia,done H zs sm pv⟩
theorem zb{o:St}(h:o.length=1):∃x,o=[x]:=by
 match o,h with
 | [x],_=>exact⟨x,rfl⟩
theorem Xg{o:St}(h:o.length=2):∃x y,o=[x,y]:=by
 match o,h with
 | [x,y],_=>exact⟨x,y,rfl⟩
theorem Gm(Pv:Nat→Hp→List V→Prop)(hq:dP K H1 a xs)(hz:xs.length≤sizeLine)(h0:Pv 0 H1 [])(cD:∀i H zs,Pv i H zs→zs.length≤i)
  (step:∀i x H zs,xs[i]?=some x→aU H1 H→Pv i H zs→tt (some x::cp) H λc H4=>if c=true then te (some x::cp) H4 λv H5=>mi 1 cp H1 (Pv (i+1)) (some x::cp) H5 (zs++[v])else mi 1 cp H1 (Pv (i+1)) (some x::cp) H4 zs)
  (done:∀H zs,aU H1 H→Pv xs.length H zs→∀p,H p=none→Q (.ref p) (upd H p (.lst zs))) :
  ∃W:Nat→Nat→St→Hp→List V→Prop,(∃m,W 0 m (List.replicate 1 none++cp) H1 [])∧mf (uW K a) (cm 0) tt te Q W:=by
 refine za (n:=xs.length) Pv hz h0 cD (λi H sm hi=>⟨xs,xs[i],sm.seq hq,by simp[hi]⟩) (λH sm=>⟨xs,sm.seq hq,ck _⟩) (λi o H zs hi ho sm pv x H2 y=>?_) done;obtain⟨w,rfl⟩:=zb ho;obtain⟨rfl,y⟩:=y;exact step i x _ zs (y xs (sm.seq hq)) sm pv
theorem zc(Pv:Nat→Hp→List V→Prop)(hq:bj K H1 a xs)(hz:xs.length≤sizeLine)(h0:Pv 0 H1 [])(cD:∀i H zs,Pv i H zs→zs.length≤i)
  (step:∀i x H zs,xs[i]?=some x→aU H1 H→Pv i H zs→tt (some x::cp) H λc H4=>if c=true then te (some x::cp) H4 λv H5=>mi 1 cp H1 (Pv (i+1)) (some x::cp) H5 (zs++[v])else mi 1 cp H1 (Pv (i+1)) (some x::cp) H4 zs)
  (done:∀H zs,aU H1 H→Pv xs.length H zs→∀p,H p=none→Q (.ref p) (upd H p (.lst zs))) :
  ∃W:Nat→Nat→St→Hp→List V→Prop,(∃m,W 0 m (List.replicate 1 none++cp) H1 [])∧mf (wz K a) (cm 0) tt te Q W:=by
 refine za (n:=xs.length) Pv hz h0 cD (λi H sm hi=>⟨xs,xs[i],sm.bt hq,by simp[hi]⟩) (λH sm=>⟨xs,sm.bt hq,ck _⟩) (λi o H zs hi ho sm pv x H2 y=>?_) done;obtain⟨w,rfl⟩:=zb ho;obtain⟨rfl,y⟩:=y;exact step i x _ zs (y xs (sm.bt hq)) sm pv
theorem Gn{lo:Int}(Pv:Nat→Hp→List V→Prop)(hz:n≤sizeLine)(h0:Pv 0 H1 [])(cD:∀i H zs,Pv i H zs→zs.length≤i)
  (step:∀i H zs,i<n→aU H1 H→Pv i H zs→tt (some (.int (lo+(i:Nat)))::cp) H λc H4=>if c=true then te (some (.int (lo+(i:Nat)))::cp) H4 λv H5=>mi 1 cp H1 (Pv (i+1)) (some (.int (lo+(i:Nat)))::cp) H5 (zs++[v])else mi 1 cp H1 (Pv (i+1)) (some (.int (lo+(i:Nat)))::cp) H4 zs)
  (done:∀H zs,aU H1 H→Pv n H zs→∀p,H p=none→Q (.ref p) (upd H p (.lst zs))) :
  ∃W:Nat→Nat→St→Hp→List V→Prop,(∃m,W 0 m (List.replicate 1 none++cp) H1 [])∧mf (sS lo n) (cm 0) tt te Q W:=by
 refine za (n:=n) Pv hz h0 cD (λi H sm hi=>hi) (λH sm=>ck _) (λi o H zs hi ho sm pv x H2 y=>?_) done;obtain⟨w,rfl⟩:=zb ho;obtain⟨rfl,rfl⟩:=y;exact step i _ zs hi sm pv
abbrev zd(K:Frag)(i j:Nat):TG:=qV K 2 (jH (cm i) (jH (cm j) sQ))
theorem Gp{p:Addr}{x y:V}{i j:Nat}{σ:St}{H:Hp}{R:St→Hp→Prop}(h:bj K H p [x,y])(q:R ((σ.set i (some x)).set j (some y)) H):zd K i j (.ref p) σ H R:=
 ⟨p,[x,y],rfl,h,rfl,x,[y],rfl,y,[],rfl,rfl,q⟩
theorem Xh(Pv:Nat→Hp→List V→Prop)(nA:Sq b1 K H1 l1 xs)(iU:Sq b2 K H1 l2 ys)(hl:xs.length=ys.length)(hz:xs.length≤sizeLine)(h0:Pv 0 H1 [])(cD:∀i H zs,Pv i H zs→zs.length≤i)(mono:∀i H H' zs,aU H H'→Pv i H zs→Pv i H' zs)
  (step:∀i x y H zs,xs[i]?=some x→ys[i]?=some y→aU H1 H→Pv i H zs→tt (some x::some y::cp) H λc H4=>if c=true then te (some x::some y::cp) H4 λv H5=>mi 2 cp H1 (Pv (i+1)) (some x::some y::cp) H5 (zs++[v])else mi 2 cp H1 (Pv (i+1)) (some x::some y::cp) H4 zs)
  (done:∀H zs,aU H1 H→Pv xs.length H zs→∀p,H p=none→Q (.ref p) (upd H p (.lst zs))) :
  ∃W:Nat→Nat→St→Hp→List V→Prop,(∃m,W 0 m (List.replicate 2 none++cp) H1 [])∧mf (wQ K b1 b2 l1 l2) (zd K 0 1) tt te Q W:=by
 refine za (n:=xs.length) Pv hz h0 cD (λi H sm hi=>⟨xs,ys,xs[i],ys[i],sm.sq nA,sm.sq iU,by simp[hi],by simp[hl▸hi]⟩) (λH sm=>⟨xs,ys,sm.sq nA,sm.sq iU,.inl rfl⟩) (λi o H zs hi ho sm pv v H2 yl=>?_) done;obtain⟨w1,w2,rfl⟩:=Xg ho;obtain⟨p,x,y,rfl,hp,rfl,hx,hy⟩:=yl;refine Gp (.of bg) ?_;have s2:aU H (upd H p (.tup [x,y])):=.upd hp;exact step i x y _ zs (hx xs (sm.sq nA)) (hy ys (sm.sq iU)) (sm.trans s2) (mono _ _ _ _ s2 pv)
end
section
variable{K:Frag}{a l1 l2:Addr}{xs ys:List V}{b b1 b2:Bool}{tb:TS}{D:Ends}{σ:St}{H:Hp}{i j:Nat}
theorem Xi(Pv:Nat→St→Hp→Prop)(hl:xs.length=ys.length)(h0:Pv 0 σ H)(hq:∀k σ H,Pv k σ H→Sq b1 K H l1 xs∧Sq b2 K H l2 ys)(mono:∀k σ H H',aU H H'→Pv k σ H→Pv k σ H')
  (hs:∀k x y σ H,xs[k]?=some x→ys[k]?=some y→Pv k σ H→tb { D with nx:=Pv (k+1),ct:=Pv (k+1),bk:=D.nx } ((σ.set i (some x)).set j (some y)) H) (hd:∀σ H,Pv xs.length σ H→D.nx σ H) :
  ∃W:Nat→Nat→St→Hp→Prop,(∃m,W 0 m σ H)∧∀k m σ H,W k m σ H→
   ((wQ K b1 b2 l1 l2).stop k H∧D.nx σ H)∨((wQ K b1 b2 l1 l2).go k H∧∃N:St→Hp→Prop,(∀σ' H',N σ' H'→∃m',m'<m∧W (k+1) m' σ' H')∧∀x H',(wQ K b1 b2 l1 l2).pe k H x H'→zd K i j x σ H' λσ2 H2=>tb { D with nx:=N,ct:=N,bk:=D.nx } σ2 H2):=by
 refine⟨λk m σ H=>m=xs.length-k∧k≤xs.length∧Pv k σ H,⟨xs.length,by simp,jf _,h0⟩,?_⟩;rintro k m σ H ⟨rfl,hk,p⟩;obtain⟨q1,q2⟩:=hq k σ H p;by_cases cB:k<xs.length
 ·refine .inr ⟨⟨xs,ys,xs[k],ys[k],q1,q2,by simp[cB],by simp[hl▸cB]⟩,Pv (k+1),λσ' H' p'=>⟨xs.length-(k+1),by lia,rfl,cB,p'⟩,λv H' yl=>?_⟩;obtain⟨pp,x,y,rfl,hp,rfl,hx,hy⟩:=yl;exact Gp (.of bg) (hs k x y σ _ (hx xs q1) (hy ys q2) (mono _ _ _ _ (.upd hp) p))
 ·have e:k=xs.length:=by lia
  subst e;exact .inl ⟨⟨xs,ys,q1,q2,.inl rfl⟩,hd σ H p⟩
theorem Xj(Pv:Nat→St→Hp→Prop)(h0:Pv 0 σ H)(hq:∀k σ H,Pv k σ H→Sq b K H a xs)(mono:∀k σ H H',aU H H'→Pv k σ H→Pv k σ H')
  (hs:∀k x σ H,xs[k]?=some x→Pv k σ H→tb { D with nx:=Pv (k+1),ct:=Pv (k+1),bk:=D.nx } ((σ.set i (some (.int (k:Nat)))).set j (some x)) H) (hd:∀σ H,Pv xs.length σ H→D.nx σ H) :
  ∃W:Nat→Nat→St→Hp→Prop,(∃m,W 0 m σ H)∧∀k m σ H,W k m σ H→
   ((tD K b a).stop k H∧D.nx σ H)∨((tD K b a).go k H∧∃N:St→Hp→Prop,(∀σ' H',N σ' H'→∃m',m'<m∧W (k+1) m' σ' H')∧∀x H',(tD K b a).pe k H x H'→zd K i j x σ H' λσ2 H2=>tb { D with nx:=N,ct:=N,bk:=D.nx } σ2 H2):=by
 refine⟨λk m σ H=>m=xs.length-k∧k≤xs.length∧Pv k σ H,⟨xs.length,by simp,jf _,h0⟩,?_⟩;rintro k m σ H ⟨rfl,hk,p⟩;have q:=hq k σ H p;by_cases cB:k<xs.length
 ·refine .inr ⟨⟨xs,xs[k],q,by simp[cB]⟩,Pv (k+1),λσ' H' p'=>⟨xs.length-(k+1),by lia,rfl,cB,p'⟩,λv H' yl=>?_⟩;obtain⟨pp,x,rfl,hp,rfl,hx⟩:=yl;exact Gp (.of bg) (hs k x σ _ (hx xs q) (mono _ _ _ _ (.upd hp) p))
 ·have e:k=xs.length:=by lia
  subst e;exact .inl ⟨⟨xs,q,rfl⟩,hd σ H p⟩
end
theorem MO(K:Frag):kitOne K (.type "int") (.type "int")=some true:=by kernel_rfl
theorem Xk(K:Frag):kitOne K (.type "int") (.type "bool")=some false:=by kernel_rfl
theorem MP(K:Frag):kitOne K (.type "tuple") (.type "tuple")=some true:=by kernel_rfl
theorem MQ(K:Frag):kitOne K (.type "str") (.type "int")=some false:=by kernel_rfl
section
variable{X:Cx}
theorem Xl{T:String}:gY X (.builtin "isinstance") (λxs H Q=>∃a ys b,xs=[.ref a,.ty T]∧bj X.K H a ys∧kitOne X.K (.type "tuple") (.type T)=some b∧Q (.bl b) H):=by
 intro aL s σ H vs us Q I r h;obtain⟨a,ys,b,rfl,hq,e,q⟩:=h;obtain⟨u,v,rfl,ru,rv⟩:=vals2 r;cases ru;cases rv;obtain⟨its,rr,⟨o,h1,h2,_⟩,_⟩:=I.tuple hq;exact pR PySem.W.kitx_tuple I.ij ⟨o,h1,h2⟩ e (λz=>nomatch z) λtk=>⟨.bl b,H,I.tok tk,rfl,q⟩
theorem Xm{T:String}:gY X (.builtin "isinstance") (λxs H Q=>∃i b,xs=[.int i,.ty T]∧kitOne X.K (.type "int") (.type T)=some b∧Q (.bl b) H):=by
 intro aL s σ H vs us Q I r h;obtain⟨i,b,rfl,e,q⟩:=h;exact Gj aL s σ H _ us Q I r ⟨.int i,_,b,rfl,.int i,e,q⟩
end
theorem Xn(n:String):RelV (.ty n) (.type n):=rfl
theorem ze{X:Cx}{x:Str}{T:String}{pos:Pos}(hg:Gl X x)(hm:X.mg x=none)(hv:bootBuiltins x=some (.type T))(hn:x ≠ "__name__":=by decide)(hd:(x==("__debug__":Str))=false:=by decide):PE X (.Name x pos) (tC (.ty T)):=Uy hg hm hv (Xn T) hn hd
noncomputable def wX:List Expr→Option (List Int)
 | []=>some []
 | .Constant (.int i) _ _::es=>(wX es).map (i::·)
 |_=>none
theorem Gq{X:Cx}:∀(es:List Expr)(ns:List Int),wX es=some ns→PA X es (λ_ H Q=>Q (ns.map V.int) H)
 | [],ns,h=>by
  cases h;exact aY
 | .Constant (.int i) j pos::es,ns,h=>by
  unfold wX at h;cases e:wX es with
  |none=>rw[e]at h;cases h
  |some ms=>
   rw[e]at h;have h':i::ms=ns:=dZ h;subst h';exact aR aW (Gq es ms e) rfl
 | .Constant .none _ _::_,_,h=>by cases h
 | .Constant (.bool _) _ _::_,_,h=>by cases h
 | .Constant (.str _) _ _::_,_,h=>by cases h
 | .Constant (.bytes _) _ _::_,_,h=>by cases h
 | .Constant .ellipsis _ _::_,_,h=>by cases h
 | .Name ..::_,_,h=>by cases h
theorem Gr{K:Frag}{H:Hp}{x:V}{r:List Int}(h:jj K H x (dD r)):∃a,x=.ref a∧bj K H a (r.map V.int):=by
 unfold dD at h;cases h with
 |tuple hq ha=>exact⟨_,rfl,by rw[← ha.Gk];exact hq⟩
theorem oF{K:Frag}{H:Hp}{a:Addr}{r:List Int}(h:bj K H a (r.map V.int)):jj K H (.ref a) (dD r):=.tuple h (cu.ints r)
theorem aU.write{H H':Hp}{l:Addr}{o:HO}(sm:aU H H')(h:H l=none):aU H (L2.upd H' l o):=λb u e=>by rw[bU (fg e h)];exact sm b u e
open Classical in
theorem MR{d e:Dat}{A B:Prop}(h:d=e)(b:B):if(if true=true then !decide (d=e)else decide (d=e))=true then A else B:=by
 subst h;simp only[decide_true,Bool.not_true,if_true,Bool.false_eq_true,if_false];exact b
theorem Xo(n:Nat)(ns:List Int):(ns.map Dat.int).all (kqdOk n)=true:=by
 rw[List.all_map];exact pU.mpr λ_ _=>by cases n<;>rfl
theorem Xp(n:Nat)(rs:LL):(rs.map dD).all (kqdOk (n+1))=true:=by
 rw[List.all_map];exact pU.mpr λr _=>W7 n r
section
variable{X:Cx}(K:Frag)(hK:X.K=K)
include hK
theorem fo:yS X (qf K):=hK▸Vo
theorem bX:yS X (sW K):=hK▸Vp
theorem Xq:wC X (Fu K):=hK▸Vv
theorem lH:gY X (.builtin "len") (λxs H Q=>∃p ys,xs=[.ref p]∧(dP K H p ys∨bj K H p ys)∧Q (.int ys.length) H):=hK▸Vy
theorem Xr:gY X (.type "list") (λxs H Q=>∃p ys,xs=[.ref p]∧(dP K H p ys∨bj K H p ys)∧∀l,H l=none→Q (.ref l) (upd H l (.lst ys))):=hK▸Vz
theorem wY:gY X (.type "tuple") (λxs H Q=>∃p ys,xs=[.ref p]∧((dP K H p ys∧∀l,H l=none→Q (.ref l) (upd H l (.tup ys)))∨(bj K H p ys∧Q (.ref p) H))):=hK▸VA
theorem MS{T:String}:gY X (.builtin "isinstance") (λxs H Q=>∃a ys b,xs=[.ref a,.ty T]∧bj K H a ys∧kitOne K (.type "tuple") (.type T)=some b∧Q (.bl b) H):=hK▸Xl
theorem MT{T:String}:gY X (.builtin "isinstance") (λxs H Q=>∃i b,xs=[.int i,.ty T]∧kitOne K (.type "int") (.type T)=some b∧Q (.bl b) H):=hK▸Xm
theorem MU(hc:X.calm=true):gY X (.builtin "sum") (λxs H Q=>∃p ns,xs=[.ref p]∧dP K H p (List.map V.int ns)∧Q (.int ns.sum) H):=hK▸W4 hc
theorem MV(hu:X.A.units+64<cLine):ik X (compareOp .NotEq) (MK K true):=hK▸W6 hu
theorem tH:ik X (binaryOp .Mult) (wV K):=hK▸Xb
theorem Xs:ik X (compareOp .In) (LX K false):=hK▸Vx
theorem rB{tg l:Expr}{tl:TE}(hl:PE X l tl):PI X tg l (BE K tl):=hK▸UT hl
theorem tI{tg l:Expr}{tl:TE}(hl:PE X l tl):PI X tg l (sT K tl):=hK▸UU hl
theorem MW(b1 b2:Bool){a b:Expr}{ta:TA}{p pos pt:Pos}{es:List Expr}{kt:Nat}(hg:Gl X "zip")(hm:X.mg "zip"=none)(ha:PA X [a,b] ta)(hs:starEach [a,b] X.env=[(false,eval a X.env),(false,eval b X.env)]:=by rfl)(vh:starEach [b] X.env=[(false,eval b X.env)]:=by rfl) :
  PI X (.Tuple es kt pt) (.Call (.Name "zip" p) [a,b] [] pos) (MG K b1 b2 ta):=hK▸WX b1 b2 hg hm ha hs vh
theorem MX(b:Bool){a:Expr}{ta:TA}{p pos pt:Pos}{es:List Expr}{kt:Nat}(hg:Gl X "enumerate")(hm:X.mg "enumerate"=none)(ha:PA X [a] ta)(hs:starEach [a] X.env=[(false,eval a X.env)]:=by rfl) :
  PI X (.Tuple es kt pt) (.Call (.Name "enumerate" p) [a] [] pos) (B4 K b ta):=hK▸WY b hg hm ha hs
theorem rC{es:List Expr}{k:Nat}{t:p9}{n:Nat}{pos:Pos}(hc:X.calm=true)(h:wy X es t)
  (hn:(assignEach es X.env).length=n:=by rfl) (yC:(assignEach es X.env).findIdx? (·.1)=none:=by rfl):PG X (.Tuple es k pos) (qV K n t):=hK▸UN hc h hn yC
end
theorem tJ:bootBuiltins "tuple"=some (.type "tuple"):=by decide +kernel
theorem B5:bootBuiltins "list"=some (.type "list"):=by decide +kernel
theorem vi:bootBuiltins "int"=some (.type "int"):=by decide +kernel
theorem Xt:bootBuiltins "bool"=some (.type "bool"):=by decide +kernel
theorem MY:bootBuiltins "range"=some (.type "range"):=by decide +kernel
theorem zf:bootBuiltins "isinstance"=some (.builtin "isinstance"):=by decide +kernel
theorem Gs:bootBuiltins "sum"=some (.builtin "sum"):=by decide +kernel
theorem lI:bootBuiltins "len"=some (.builtin "len"):=by decide +kernel
theorem rE{σ:St}{H:Hp}{Y N:Hp→Prop}(h:Y H):oB σ H (λc H4=>if c=true then Y H4 else N H4):=by
 show if true=true then Y H else N H
 exact fU h
end L2
namespace L2
open PySem
structure MZ(X:Cx)(es:List Expr)(ns:List Int):Prop where
 get:PA X es (λ_ H Q=>Q (ns.map V.int) H)
theorem Xu{X:Cx}{es:List Expr}{ns:List Int}(h:wX es=some ns):MZ X es ns:=⟨Gq es ns h⟩
def M0(ns:List Int):TE:=gE (λ_ H Q=>Q (ns.map V.int) H)
theorem Xv{X:Cx}{es:List Expr}{ns:List Int}{pos:Pos}(h:MZ X es ns):PE X (.List es pos) (M0 ns):=ip h.get
end L2
namespace L2
open PySem PySem.Spec PyProof.Rows
section
variable{X:Cx}{pos:Pos}
def Xw(K:Frag)(n:Nat)(t:p9):TG:=λv σ H Q=>∃a xs,v=.ref a∧dP K H a xs∧xs.length=n∧t xs σ H Q
theorem Xx{es:List Expr}{k n:Nat}{t:p9}(hc:X.calm=true)(h:wy X es t)(hn:(assignEach es X.env).length=n:=by rfl)(yC:(assignEach es X.env).findIdx? (·.1)=none:=by rfl):PG X (.Tuple es k pos) (Xw X.K n t):=by
 rintro aL s σ H v u Q I r ⟨a,xs,rfl,hq,hl,hw⟩;cases r;obtain⟨its,rv,pl,_⟩:=I.list hq;have sz:its.toArray.size=n:=by rw[eE,← rv.length,hl]
 rw[assign_Tuple];refine ak (wpAny_standAt ?_);unfold unpack;rw[yC,hn,← sz];refine ak (ao (PySem.W.kun_itemsOf (I.ok.hd hc) pl.isList λh' ex=>?_));exact h aL _ σ H xs _ Q (I.kept (t':=s.toks) λb o e=>ex b o (fu (dB e)) e) (by simpa using rv) hw
end
theorem Xy(l b:Addr)(its wD:Array Value)(n n2:Nat)(dd BJ:Option Addr)(sl BK:Array (Option Value))(he:its.isEmpty=true) :
  Meets (Builtin.«tuple.__add__» ⟨[.ref l,.ref b],[]⟩) (λ_ R s=>s.heap.get? l=some { cls:=.type "tuple",dict:=dd,data:=.seq its n,slots:=sl }∧s.heap.get? b=some { cls:=.type "tuple",dict:=BJ,data:=.seq wD n2,slots:=BK }∧R (.ok (.ret (.ref b))) s):=
 .of_wp λ_ _ _ _ s h=>by
  obtain⟨hpA,gA,dA,tkA,osA⟩:=s;have oE:=h.1;have Xz:=h.2.1;have f2:=AutoSeq1.sub_tuple_tuple;wp_walk using uI oE,uI Xz
  exact⟨_,rfl,h.2.2⟩
def B6(K:Frag):R2:=λx y H Q=>∃a b xs ys,x=.ref a∧y=.ref b∧bj K H a xs∧bj K H b ys∧xs.length+ys.length≤sizeLine∧oD K H (xs++ys) Q
theorem XA{X:Cx}:ik X (binaryOp .Add) (B6 X.K):=by
 rintro aL s σ H x y v u Q I rx ry ⟨a,b,xs,ys,rfl,rfl,ha,hb,hz,q⟩;by_cases hx:xs=[]
 ·subst hx;cases rx;cases ry;obtain⟨its,r1,⟨⟨c1,d1,t1,s1⟩,o1,e1,n1,f1⟩,_⟩:=I.tuple ha;obtain⟨wD,r2,⟨⟨c2,d2,t2,s2⟩,o2,e2,n2,f2⟩,_⟩:=I.tuple hb;simp only at e1 f1 e2 f2;subst e1 f1 e2 f2;cases r1;refine concat_meets ⟨_,o1,rfl⟩ ⟨_,o2,rfl⟩ noFill_tuple_add seq_tuple_add PySem.F.slot_tuple_add PySem.F.entry_tuple_add (PySem.F.args_tuple_add_2 _ _) (Xy a b _ _ _ _ d1 d2 s1 s2 rfl) ⟨o1,o2,?_⟩;exact⟨.ref b,H,I,rfl,q.old hb⟩
 ·refine Vm aL s σ H _ _ v u Q I rx ry ⟨a,b,xs,ys,rfl,rfl,ha,hb,hx,hz,λhy=>?_,λ_ p hp=>q.new hp⟩;subst hy;exact q.old (by rw[hJ];exact ha)
theorem dJ{X:Cx}(K:Frag)(hK:X.K=K):ik X (binaryOp .Add) (B6 K):=hK▸XA
theorem M1:∀{bs:List Bool}{its:List Value},Vals (bs.map V.bl) its→its=bs.map Value.bool
 | [],_,.nil=>rfl
 |b::bs,_,.cons r rr=>by
  cases r;rw[M1 rr];rfl
theorem M3(d:Bool)(bs:List Bool):(List.range bs.length).map (λi=>(bs[i]?).getD d)=bs:=by
 apply List.ext_getElem
 ·simp
 ·intro i h1 h2;simp[cC h2]
theorem XB(bs:List Bool):((List.range bs.length).all λi=>(bs[i]?).getD true)=bs.all id:=by
 have e:=aj (λl=>List.all l id) (M3 true bs);rw[← e];simp only[List.all_map];rfl
theorem XC(bs:List Bool):((List.range bs.length).any λi=>(bs[i]?).getD false)=bs.any id:=by
 have e:=aj (λl=>List.any l id) (M3 false bs);rw[← e];simp only[List.any_map];rfl
section
variable{X:Cx}
theorem XD(hc:X.calm=true):gY X (.builtin "all") (λxs H Q=>∃p bs,xs=[.ref p]∧dP X.K H p (List.map V.bl bs)∧Q (.bl (bs.all id)) H):=by
 intro aL s σ H vs us Q I r h;obtain⟨p,bs,rfl,hq,q⟩:=h;obtain⟨u,rfl,ru⟩:=vals1 r;cases ru;obtain⟨its,rv,pl,hz⟩:=I.list hq;have e:=M1 rv;subst e;have hl:=pl.isList;have cB:p<s.heap.objs.size:=by obtain⟨_,e,_⟩:=hl;exact dB e
 apply call_all_walk;apply wpAny_pyIter_list hl;refine⟨s.heap.objs.size,[s.heap.objs.size,p],[s.heap.objs.size],(bs.map Value.bool).toArray.size,_,_,λi=>(bs[i]?).getD true,rfl,Walks.list (A:=X.A.in1) (I.ok.hd hc) _ p (fu cB) (bs.map Value.bool).toArray,⟨⟨_,gJ _ rfl,rfl,rfl⟩,hl.push _⟩,λi v s1 Q1 E1 hP hQ=>?_,λh1 XE hk=>?_⟩
 ·have hP:(bs.map Value.bool)[i]?=some v:=by simpa using hP
  rw[du]at hP;cases e:bs[i]? with
  |none=>rw[e]at hP;cases hP
  |some b=>
   rw[e]at hP;cases hP;dsimp only at hQ;rw[e,Option.getD_some]at hQ;exact ai hQ
 ·have e:((List.range (bs.map Value.bool).toArray.size).all λi=>(bs[i]?).getD true)=bs.all id:=by
   rw[eE,bO];exact XB bs
  rw[e];refine⟨.bl _,H,I.kept (λb x e=>hk b x (λhm=>by rw[cJ.mp hm]at e;exact qO _ (dB e)) (dj _ e)),rfl,q⟩
theorem XF(K:Frag)(hK:X.K=K)(hc:X.calm=true):gY X (.builtin "all") (λxs H Q=>∃p bs,xs=[.ref p]∧dP K H p (List.map V.bl bs)∧Q (.bl (bs.all id)) H):=hK▸XD hc
theorem XG:bootBuiltins "all"=some (.builtin "all"):=by decide +kernel
theorem XH:bootBuiltins "any"=some (.builtin "any"):=by decide +kernel
end
end L2
namespace Bw
variable{D L:LL}{f:Nat→Int}{h o r:List Int}{ls:List Nat}{n place:Nat}{p:Int}{u v:Fn}
noncomputable def dW:List Int:=[2,3,5,7,11,13,17,19,23,29,31,37,41,43,47,53,59,61,67,71,73,79,83,89,97]
noncomputable def vj(p n:Int):Nat→Int
 |0=>1
 |k+1=>vj p n k*n%p
noncomputable def fV(p n:Int):Int:=vj p n (p-2).toNat
noncomputable def M4(p n:Int):Bool:=decide (1≤fV p n)&&decide (fV p n<p)&&decide (fV p n*n%p=1)
theorem XI:(dW.all λp=>(List.range p.toNat).all λn=>n==0||M4 p n)=true:=by decide +kernel
theorem gN:∀p∈dW,2≤p∧p≤97:=by decide +kernel
theorem Gu{n:Int}(hp:p∈dW)(h1:1≤n)(h2:n<p):1≤fV p n∧fV p n<p∧fV p n*n%p=1:=by
 have h:=pU.mp XI p hp;have h':=pU.mp h n.toNat (mU.mpr (by lia));have en:((n.toNat:Nat):Int)=n:=by lia
 have n0:(n.toNat==0)=false:=by simp;lia
 rw[n0,Bool.false_or,en]at h';unfold M4 at h';simp only[aF,ir]at h';exact⟨h'.1.1,h'.1.2,h'.2⟩
theorem XJ{n:Int}(hp:2≤p):∀k,0≤vj p n k∧vj p n k<p
 |0=>by unfold vj;lia
 |k+1=>by
  unfold vj;exact⟨sM _ (by lia),sN _ (by lia)⟩
noncomputable def iG(p:Int)(row:List Int)(f:Int)(other:List Int):List Int:=List.zipWith (λa b=>(a+f*b)%p) row other
noncomputable def km(p:Int):List (List Int×Int)→List Int→List Int
 | [],t=>t
 |(r,f)::L,t=>km p L (iG p t f r)
noncomputable def vk(L:List (List Int×Int))(j:Nat):Int:=(L.map λq=>q.1.getD j 0*q.2).sum
theorem XM(r:List Int)(f:Int)(L:List (List Int×Int))(j:Nat):vk ((r,f)::L) j=r.getD j 0*f+vk L j:=by simp[vk]
theorem XN{f:Int}(c:Nat→Int)(hr:r.length=n):iG p ((List.range n).map λj=>c j%p) f r=(List.range n).map λj=>(c j+r.getD j 0*f)%p:=by
 apply List.ext_getElem
 ·simp[iG,hr]
 ·intro i h1 h2;have hi:i<r.length:=by simp[iG,hr]at h1;lia
  simp only[iG,List.getElem_zipWith,List.getElem_map,List.getElem_range];rw[cH,cC hi,Option.getD_some,nX f,Int.emod_add_emod]
theorem M5{p:Int}{n:Nat}:∀(L:List (List Int×Int))(c:Nat→Int),(∀q∈L,q.1.length=n)→km p L ((List.range n).map λj=>c j%p)=(List.range n).map λj=>(c j+vk L j)%p
 | [],c,_=>by simp[km,vk]
 |(r,f)::L,c,h=>by
  rw[km,XN c (h (r,f) cU),M5 L (λj=>c j+r.getD j 0*f) λq hq=>h q (fK _ hq)];apply uJ;intro j _;rw[XM,Int.add_assoc]
theorem M6(L:List (List Int×Int))(h:∀q∈L,q.1.length=n):km p L (List.replicate n 0)=(List.range n).map λj=>vk L j%p:=by
 have e:List.replicate n (0:Int)=(List.range n).map λj=>(λ_=>(0:Int)) j%p:=by
  apply List.ext_getElem
  ·simp
  ·intro i _ _;simp
 rw[e,M5 L (λ_=>0) h];apply uJ;intro j _;rw[pV]
abbrev Fn:=Nat→Int
def fq(p:Int)(u v:Fn):Prop:=∀j,p∣u j-v j
theorem px(p a:Int):p∣a%p-a:=⟨-(a/p),by
 have:=Int.emod_add_mul_ediv a p
 rw[Int.mul_neg];lia⟩
theorem fq.refl(p:Int)(u:Fn):fq p u u:=λj=>⟨0,by lia⟩
theorem fq.symm(h:fq p u v):fq p v u:=λj=>by
 have:=sO.mpr (h j)
 rwa[show -(u j-v j)=v j-u j by lia]at this
theorem fq.trans{w:Fn}(h:fq p u v)(k:fq p v w):fq p u w:=λj=>by
 have:=nZ (h j) (k j)
 rwa[show u j-v j+(v j-w j)=u j-w j by lia]at this
inductive Sp(p:Int)(R:Fn→Prop):Fn→Prop
 |zero:Sp p R (λ_=>0)
 |add {v r:Fn} (c:Int):Sp p R v→R r→Sp p R (λj=>v j+c*r j)
 |dh {u v:Fn}:Sp p R v→fq p v u→Sp p R u
section
variable{p:Int}{R R':Fn→Prop}
theorem Sp.of_eq(h:Sp p R v)(e:∀j,v j=u j):Sp p R u:=.dh h λj=>⟨0,by rw[e j];lia⟩
theorem Sp.mem{r:Fn}(h:R r):Sp p R r:=(Sp.add 1 .zero h).of_eq λj=>by lia
theorem Sp.plus(c:Int)(hu:Sp p R u)(hv:Sp p R v):Sp p R (λj=>u j+c*v j):=by
 induction hv with
 |zero=>exact hu.of_eq λj=>by simp
 | @add v r d _ hr ih=>exact(Sp.add (c*d) ih hr).of_eq λj=>by rw[Int.mul_add,← Int.add_assoc,Int.mul_assoc]
 | @dh w v _ e ih=>
  refine .dh ih λj=>?_
  have:p∣c*(v j-w j):=kf (e j)
  rw[Int.mul_sub]at this;rwa[show u j+c*v j-(u j+c*w j)=c*v j-c*w j by lia]
theorem Sp.trans(h:∀r,R r→Sp p R' r)(hv:Sp p R v):Sp p R' v:=by
 induction hv with
 |zero=>exact .zero
 |add c _ hr ih=>exact ih.plus c (h _ hr)
 |dh _ e ih=>exact .dh ih e
end
noncomputable def fn(r:List Int):Fn:=λj=>r.getD j 0
def RS(L:LL):Fn→Prop:=λf=>∃r∈L,f=fn r
def Rw(p:Int)(n:Nat)(r:List Int):Prop:=r.length=n∧∀x∈r,0≤x∧x<p
def cP(p:Int)(n:Nat)(L:LL):Prop:=∀r∈L,Rw p n r
theorem Rw.at(hp:0<p)(h:Rw p n r)(j:Nat):0≤r.getD j 0∧r.getD j 0<p:=by
 rw[cH (i:=j)];by_cases hj:j<r.length
 ·rw[cC hj];exact h.2 _ (n6 hj)
 ·rw[iR (by lia)];exact⟨Int.le_refl 0,hp⟩
theorem Rw.out(h:Rw p n r){j:Nat}(hj:n≤j):r.getD j 0=0:=by
 rw[cH,iR (by rw[h.1];exact hj)];rfl
theorem XO{a b:Int}(h:p∣a-b)(a0:0≤a)(a1:a<p)(b0:0≤b)(b1:b<p):a=b:=by
 obtain⟨c,hc⟩:=h
 have:c=0:=by
  rcases Int.lt_trichotomy c 0 with h|h|h
  ·have:=K6 (show c≤-1 by lia) (show 0≤p by lia)
   lia
  ·exact h
  ·have:=K6 (show 1≤c by lia) (show 0≤p by lia)
   lia
 rw[this]at hc;lia
theorem Rw.ext{s:List Int}(hp:0<p)(hr:Rw p n r)(hs:Rw p n s)(h:∀j,p∣r.getD j 0-s.getD j 0):r=s:=by
 apply List.ext_getElem (by rw[hr.1,hs.1]);intro i h1 h2
 have:=XO (h i) (hr.at hp i).1 (hr.at hp i).2 (hs.at hp i).1 (hs.at hp i).2
 simpa[cH,h1,h2]using this
theorem Gw(f:Int)(hr:r.length=n)(ho:o.length=n)(j:Nat):(iG p r f o).getD j 0=if j<n then(r.getD j 0+f*o.getD j 0)%p else 0:=by
 by_cases hj:j<n
 ·rw[af hj];have h1:j<r.length:=by lia
  have h2:j<o.length:=by lia
  have h3:j<(iG p r f o).length:=by simp[iG];lia
  rw[cH,cC h3,cH,cC h1,cH,cC h2];simp[iG]
 ·rw[ag hj,cH,iR (by simp[iG];lia)];rfl
theorem XQ(f:Int)(hp:0<p)(hr:r.length=n)(ho:o.length=n):Rw p n (iG p r f o):=by
 refine⟨by simp[iG];lia,λx hx=>?_⟩;obtain⟨i,hi,rfl⟩:=Bj.mp hx;simp only[iG,List.getElem_zipWith];exact⟨sM _ (show p≠0 by lia),sN _ hp⟩
theorem XR(f:Int)(hr:r.length=n)(ho:o.length=n):fq p (λj=>fn r j+f*fn o j) (fn (iG p r f o)):=λj=>by
 show p∣r.getD j 0+f*o.getD j 0-(iG p r f o).getD j 0;rw[Gw f hr ho];by_cases hj:j<n
 ·rw[af hj]
  have:=sO.mpr (px p (r.getD j 0+f*o.getD j 0))
  rwa[show -((r.getD j 0+f*o.getD j 0)%p-(r.getD j 0+f*o.getD j 0))=r.getD j 0+f*o.getD j 0-(r.getD j 0+f*o.getD j 0)%p by lia]at this
 ·rw[ag hj];have e1:r.getD j 0=0:=by rw[cH,iR (by lia)];rfl
  have e2:o.getD j 0=0:=by rw[cH,iR (by lia)];rfl
  rw[e1,e2];exact⟨0,by simp⟩
noncomputable def iN(p:Int)(lead:List Int)(place:Nat)(row:List Int):List Int:=if row.getD place 0≠0 then iG p row (-(row.getD place 0)) lead else row
section
variable{p:Int}{n place:Nat}{lead row:List Int}
theorem M7(hp:0<p)(hl:Rw p n lead)(hr:Rw p n row):Rw p n (iN p lead place row):=by
 unfold iN;split
 ·exact XQ _ hp hr.1 hl.1
 ·exact hr
theorem M8(hl:Rw p n lead)(hr:Rw p n row):fq p (λj=>fn row j + -(row.getD place 0)*fn lead j) (fn (iN p lead place row)):=by
 unfold iN;split
 ·exact XR _ hr.1 hl.1
 ·rename_i h
  have h0:row.getD place 0=0:=by simpa using h
  rw[h0];intro j;exact⟨0,by simp⟩
theorem B7(hl:Rw p n lead)(hr:Rw p n row){j:Nat}(hj:lead.getD j 0=0)(hp:0<p):(iN p lead place row).getD j 0=row.getD j 0:=by
 unfold iN;split
 ·rw[Gw _ hr.1 hl.1,hj,Int.mul_zero,Int.add_zero];by_cases h:j<n
  ·rw[af h];exact Int.emod_eq_of_lt (hr.at hp j).1 (hr.at hp j).2
  ·rw[ag h,hr.out (by lia)]
 ·rfl
theorem M9(hl:Rw p n lead)(hr:Rw p n row)(h1:lead.getD place 0=1):(iN p lead place row).getD place 0=0:=by
 unfold iN;split
 ·rw[Gw _ hr.1 hl.1,h1];split
  ·rw[sE,show row.getD place 0 + -(row.getD place 0)=0 by lia];exact Int.zero_emod p
  ·rfl
 ·rename_i h
  simpa using h
end
noncomputable def iO(p:Int)(n:Nat)(h:List Int)(place:Nat):List Int:=km p [(h,fV p (h.getD place 0))] (List.replicate n 0)
noncomputable def wZ(p:Int)(n:Nat)(st:LL×LL)(place:Nat):LL×LL:=
 match st.2.filter λr=>r.getD place 0≠0 with
 | []=>st
 |h::_=>(st.1.map (iN p (iO p n h place) place)++[iO p n h place],st.2.map (iN p (iO p n h place) place))
noncomputable def i9(p:Int)(n:Nat)(L:LL):Nat→LL×LL
 |0=>([],L)
 |k+1=>wZ p n (i9 p n L k) k
noncomputable def rF(L:LL):Nat:=(L.head?.map List.length).getD 0
noncomputable def iy(p:Int)(L:LL):LL:=(i9 p (rF L) L (rF L)).1
structure ja(n k:Nat)(D:LL)(ls:List Nat):Prop where
 len:ls.length=D.length
 up:ls.Pairwise (· < ·)
 lt:∀l∈ls,l<k
 one:∀(i:Nat)(r:List Int)(l:Nat),D[i]?=some r→ls[i]?=some l→r.getD l 0=1∧∀j,j<l→r.getD j 0=0
 alone:∀(i i':Nat)(r:List Int)(l:Nat),i≠i'→D[i']?=some r→ls[i]?=some l→r.getD l 0=0
theorem Gx(hh:Rw p n h)(j:Nat):(iO p n h place).getD j 0=if j<n then h.getD j 0*fV p (h.getD place 0)%p else 0:=by
 unfold iO;rw[M6 _ (λq hq=>by rw[cJ.mp hq];exact hh.1)];by_cases hj:j<n
 ·rw[af hj];simp[cH,hj,vk]
 ·rw[ag hj];simp[cH,hj]
theorem Na(hp:0<p)(hh:Rw p n h):Rw p n (iO p n h place):=by
 unfold iO;rw[M6 _ (λq hq=>by rw[cJ.mp hq];exact hh.1)];refine⟨by simp,λx hx=>?_⟩;obtain⟨j,_,rfl⟩:=cY.mp hx;exact⟨sM _ (show p≠0 by lia),sN _ hp⟩
theorem Nb(hh:Rw p n h):fq p (λj=>fV p (h.getD place 0)*fn h j) (fn (iO p n h place)):=λj=>by
 show p∣fV p (h.getD place 0)*h.getD j 0-(iO p n h place).getD j 0;rw[Gx hh,nX];by_cases hj:j<n
 ·rw[af hj]
  have:=sO.mpr (px p (h.getD j 0*fV p (h.getD place 0)))
  rwa[show -(h.getD j 0*fV p (h.getD place 0)%p-h.getD j 0*fV p (h.getD place 0))=h.getD j 0*fV p (h.getD place 0)-h.getD j 0*fV p (h.getD place 0)%p by lia]at this
 ·rw[ag hj,hh.out (by lia)];exact⟨0,by simp⟩
structure Gy(p:Int)(n:Nat)(L:LL)(k:Nat)(st:LL×LL):Prop where
 d:cP p n st.1
 r:cP p n st.2
 z:∀r∈st.2,∀j,j<k→r.getD j 0=0
 qj:∃ls,ja n k st.1 ls
 sub:∀r∈st.1++st.2,Sp p (RS L) (fn r)
 sup:∀r∈L,Sp p (RS (st.1++st.2)) (fn r)
theorem XT{k:Nat}{st:LL×LL}(hp:p∈dW)(hk:k+1≤n)(I:Gy p n L k st):Gy p n L (k+1) (wZ p n st k):=by
  have p0:0<p:=by have:=gN p hp;lia
  obtain⟨D,T⟩:=st;unfold wZ;dsimp only;cases hf:T.filter λr=>r.getD k 0≠0 with
  |nil=>
   dsimp only;obtain⟨ls,E⟩:=I.qj;refine⟨I.d,I.r,λr hr j hj=>?_,⟨ls,E.len,E.up,λl hl=>Nat.lt_succ_of_lt (E.lt l hl),E.one,E.alone⟩,I.sub,I.sup⟩;by_cases B8:j<k
   ·exact I.z r hr j B8
   ·have ej:j=k:=by lia
    subst ej;by_cases h0:r.getD j 0=0
    ·exact h0
    ·have:r∈T.filter λr=>r.getD j 0≠0:=g8.mpr ⟨hr,by simpa using h0⟩
     rw[hf]at this;cases this
  |cons h eh=>
   dsimp only;have hm:h∈T.filter λr=>r.getD k 0≠0:=by rw[hf];exact cU
   obtain⟨hT,wW⟩:=g8.mp hm;have adw:h.getD k 0≠0:=by simpa using wW
   have hh:=I.r h hT;have oG:Rw p n (iO p n h k):=Na p0 hh;have hb:=hh.at p0 k;obtain⟨t1,t2,t3⟩:=Gu hp (show 1≤h.getD k 0 by lia) hb.2;have l1:(iO p n h k).getD k 0=1:=by rw[Gx hh,af (by lia),nX];exact t3
   have l0:∀j,j<k→(iO p n h k).getD j 0=0:=λj hj=>by
    rw[Gx hh,I.z h hT j hj,Int.zero_mul];split
    ·exact Int.zero_emod p
    ·rfl
   have Nc:∀{Q:Fn→Prop},Sp p Q (fn h)→Sp p Q (fn (iO p n h k)):=λq=>.dh (((Sp.zero).plus (fV p (h.getD k 0)) q).of_eq λj=>by rw[pV]) (Nb hh);have XU:∀{Q:Fn→Prop},Sp p Q (fn (iO p n h k))→Sp p Q (fn h):=λ{Q} q=>by
    refine .dh (((Sp.zero).plus (h.getD k 0) q)) λj=>?_;rw[pV];show p∣h.getD k 0*(iO p n h k).getD j 0-h.getD j 0;have a:=Nb (place:=k) hh j;have a':p∣h.getD k 0*(fV p (h.getD k 0)*fn h j-fn (iO p n h k) j):=kf a;rw[Int.mul_sub]at a';have t4:p∣fV p (h.getD k 0)*h.getD k 0-1:=by
     have z:=sO.mpr (px p (fV p (h.getD k 0)*h.getD k 0));rw[t3]at z;rwa[show -(1-fV p (h.getD k 0)*h.getD k 0)=fV p (h.getD k 0)*h.getD k 0-1 by lia]at z
    have b:p∣h.getD j 0*(fV p (h.getD k 0)*h.getD k 0-1):=kf t4;have c:=jS b a';have e:h.getD j 0*(fV p (h.getD k 0)*h.getD k 0-1)-(h.getD k 0*(fV p (h.getD k 0)*fn h j)-h.getD k 0*fn (iO p n h k) j)=h.getD k 0*(iO p n h k).getD j 0-h.getD j 0:=by
     show h.getD j 0*(fV p (h.getD k 0)*h.getD k 0-1)-(h.getD k 0*(fV p (h.getD k 0)*h.getD j 0)-h.getD k 0*(iO p n h k).getD j 0)=_;rw[Int.mul_sub,sE,Int.mul_left_comm (h.getD k 0),nX (h.getD j 0) (fV p (h.getD k 0)*h.getD k 0),Int.mul_assoc];lia
    rwa[e]at c
   generalize iO p n h k=lead at oG l1 l0 Nc XU ⊢;obtain⟨ls,E⟩:=I.qj;have B9:ls.length=D.length:=E.len;have hD:∀r∈D,Rw p n r:=I.d;have zg:∀r∈T,Rw p n r:=I.r;have spT:Sp p (RS L) (fn h):=I.sub h (eJ _ hT);have Gz:=Nc spT;have Nd:∀{Q:Fn→Prop}{r:List Int},Rw p n r→Sp p Q (fn r)→Sp p Q (fn lead)→Sp p Q (fn (iN p lead k r)):=λhr a b=>.dh (a.plus _ b) (M8 oG hr);have Nf:∀{Q:Fn→Prop}{r:List Int},Rw p n r→Sp p Q (fn (iN p lead k r))→Sp p Q (fn lead)→Sp p Q (fn r):=λ{Q r} hr a b=>by
    refine .dh (a.plus (r.getD k 0) b) λj=>?_;have q:=(M8 (place:=k) oG hr j);have q':=sO.mpr q;rwa[show -(fn r j + -(r.getD k 0)*fn lead j-fn (iN p lead k r) j)=fn (iN p lead k r) j+r.getD k 0*fn lead j-fn r j by rw[Int.neg_mul];lia]at q'
   refine⟨λr hr=>?_,λr hr=>?_,λr hr j hj=>?_,⟨ls++[k],?_,?_,?_,?_,?_⟩,λr hr=>?_,λr hr=>?_⟩
   ·rcases(dq.mp hr)with(hr|hr)
    ·obtain⟨r0,h0,rfl⟩:=cY.mp hr;exact M7 p0 oG (hD r0 h0)
    ·rw[cJ.mp hr];exact oG
   ·obtain⟨r0,h0,rfl⟩:=cY.mp hr;exact M7 p0 oG (zg r0 h0)
   ·obtain⟨r0,h0,rfl⟩:=cY.mp hr;by_cases B8:j<k
    ·rw[B7 oG (zg r0 h0) (l0 j B8) p0];exact I.z r0 h0 j B8
    ·have ej:j=k:=by lia
     subst ej;exact M9 oG (zg r0 h0) l1
   ·simp[E.len]
   ·refine List.pairwise_append.mpr ⟨E.up,by simp,λa ha b hb=>?_⟩;rw[cJ.mp hb];exact E.lt a ha
   ·intro l hl;rcases(dq.mp hl)with(hl|hl)
    ·exact Nat.lt_succ_of_lt (E.lt l hl)
    ·rw[cJ.mp hl];exact Nat.lt_succ_self k
   ·intro i r l hr hl;by_cases hi:i<D.length
    ·rw[gS (by simpa using hi),du,cC hi]at hr;rw[gS (by rw[B9];exact hi)]at hl;cases hr;have Ca:l<k:=E.lt l (dI hl);obtain⟨o1,o2⟩:=E.one i _ l (cC hi) hl;have rD:=hD _ (n6 hi);refine⟨by rw[B7 oG rD (l0 l Ca) p0];exact o1,λj hj=>?_⟩;rw[B7 oG rD (l0 j (by lia)) p0];exact o2 j hj
    ·rw[hU (by simpa using hi),bO]at hr;rw[hU (by lia),B9]at hl;have e0:i-D.length=0:=by
      have:=(dH.mp hr).1
      simp at this;lia
     rw[e0]at hr hl;simp at hr hl;subst hr hl;exact⟨l1,l0⟩
   ·intro i i' r l cL hr hl;by_cases hi:i<ls.length
    ·rw[gS hi]at hl;have Ca:l<k:=E.lt l (dI hl);by_cases jL:i'<D.length
     ·rw[gS (by simpa using jL),du,cC jL]at hr;cases hr;rw[B7 oG (hD _ (n6 jL)) (l0 l Ca) p0];exact E.alone i i' _ l cL (cC jL) hl
     ·rw[hU (by simpa using jL),bO]at hr;have e0:i' - D.length=0:=by
       have:=(dH.mp hr).1
       simp at this;lia
      rw[e0]at hr;simp at hr;subst hr;exact l0 l Ca
    ·rw[hU (by lia)]at hl;have e0:i-ls.length=0:=by
      have:=(dH.mp hl).1
      simp at this;lia
     rw[e0]at hl;simp at hl;subst hl;by_cases jL:i'<D.length
     ·rw[gS (by simpa using jL),du,cC jL]at hr;cases hr;exact M9 oG (hD _ (n6 jL)) l1
     ·rw[hU (by simpa using jL),bO]at hr;have e1:i' - D.length=0:=by
       have:=(dH.mp hr).1
       simp at this;lia
      lia
   ·rcases(dq.mp hr)with(hr|hr)
    ·rcases(dq.mp hr)with(hr|hr)
     ·obtain⟨r0,h0,rfl⟩:=cY.mp hr;exact Nd (hD r0 h0) (I.sub r0 (e7 _ h0)) Gz
     ·rw[cJ.mp hr];exact Gz
    ·obtain⟨r0,h0,rfl⟩:=cY.mp hr;exact Nd (zg r0 h0) (I.sub r0 (eJ _ h0)) Gz
   ·refine Sp.trans (λf hf=>?_) (I.sup r hr);obtain⟨r0,h0,rfl⟩:=hf;have Cb:Sp p (RS (D.map (iN p lead k)++[lead]++T.map (iN p lead k))) (fn lead):=.mem ⟨lead,by simp,rfl⟩;rcases(dq.mp h0)with(h0|h0)
    ·exact Nf (hD r0 h0) (.mem ⟨_,by simp;exact .inl ⟨r0,h0,rfl⟩,rfl⟩) Cb
    ·exact Nf (zg r0 h0) (.mem ⟨_,by simp;exact .inr (.inr ⟨r0,h0,rfl⟩),rfl⟩) Cb
theorem GK{p:Int}{n:Nat}{L:LL}(hp:p∈dW)(hL:cP p n L):∀k,k≤n→Gy p n L k (i9 p n L k)
 |0,_=>⟨λr hr=>absurd hr (by simp[i9]),by simpa[i9]using hL,λr _ j hj=>absurd hj (by lia),⟨[],by simp[i9],.nil,by simp,by simp[i9],by simp⟩,
   λr hr=>.mem ⟨r,by simpa[i9]using hr,rfl⟩,λr hr=>.mem ⟨r,by simpa[i9]using hr,rfl⟩⟩
 |k+1,hk=>XT hp hk (GK hp hL k (by lia))
noncomputable def Sg(f:Nat→Int):Nat→Int
 |0=>0
 |n+1=>Sg f n+f n
theorem qk(h:∀i,i<n→f i=0):Sg f n=0:=by
 induction n with
 |zero=>rfl
 |succ n ih=>rw[Sg,ih λi hi=>h i (by lia),h n (by lia)];rfl
theorem GO(f g:Nat→Int)(n:Nat):Sg (λi=>f i+g i) n=Sg f n+Sg g n:=by
 induction n with
 |zero=>rfl
 |succ n ih=>rw[Sg,ih,Sg,Sg];lia
theorem zh(h:∀i,i<n→p∣f i):p∣Sg f n:=by
 induction n with
 |zero=>exact⟨0,by simp[Sg]⟩
 |succ n ih=>rw[Sg];exact nZ (ih λi hi=>h i (by lia)) (h n (by lia))
theorem vm{l:Nat}(hl:l<n):Sg f n=f l+Sg (λi=>if i=l then 0 else f i) n:=by
 induction n with
 |zero=>lia
 |succ n ih=>
  by_cases h:l=n
  ·subst h;rw[Sg,Sg,af rfl];have e:Sg (λi=>if i=l then 0 else f i) l=Sg f l:=by
    have:∀m,m≤l→Sg (λi=>if i=l then 0 else f i) m=Sg f m:=by
     intro m;induction m with
     |zero=>intro _;rfl
     |succ m ih=>intro hm;rw[Sg,Sg,ih (by lia),ag (by lia)]
    exact this l (ck l)
   rw[e];lia
  ·rw[Sg,Sg,ih (by lia),ag (λz=>h z.symm)];lia
def ES(n:Nat)(e:Nat→Option (List Int)):Fn→Prop:=λf=>∃l r,l<n∧e l=some r∧f=fn r
noncomputable def e8(e:Nat→Option (List Int))(l j:Nat):Int:=match e l with|some r=>r.getD j 0|none=>0
theorem ES.coeff{e:Nat→Option (List Int)}(h:Sp p (ES n e) v):∃c:Nat→Int,fq p (λj=>Sg (λl=>c l*e8 e l j) n) v:=by
 induction h with
 |zero=>exact⟨λ_=>0,λj=>⟨0,by simp[qk]⟩⟩
 | @add v r d _ hr ih=>
  obtain⟨c,hc⟩:=ih;obtain⟨l,row,hl,he,rfl⟩:=hr;refine⟨λi=>c i+if i=l then d else 0,λj=>?_⟩
  have e1:Sg (λi=>(c i+if i=l then d else 0)*e8 e i j) n=Sg (λi=>c i*e8 e i j) n+d*fn row j:=by
   have e2:(λi=>(c i+if i=l then d else 0)*e8 e i j)=λi=>c i*e8 e i j+(if i=l then d*fn row j else 0):=by
    funext i
    by_cases hi:i=l
    ·subst hi;rw[af rfl,af rfl,Int.add_mul]
     congr 1
     simp[e8,he,fn]
    ·rw[ag hi,ag hi,Int.add_zero,Int.add_zero]
   rw[e2,GO]
   congr 1
   rw[vm hl,af rfl,qk λi _=>by by_cases hi:i=l<;>simp[hi]]
   lia
  show p∣Sg (λi=>(c i+if i=l then d else 0)*e8 e i j) n-(v j+d*fn row j)
  rw[e1,show Sg (λi=>c i*e8 e i j) n+d*fn row j-(v j+d*fn row j)=Sg (λi=>c i*e8 e i j) n-v j by lia];exact hc j
 |dh _ q ih=>
  obtain⟨c,hc⟩:=ih;exact⟨c,hc.trans q⟩
structure GU(n:Nat)(e:Nat→Option (List Int)):Prop where
 one:∀l r,e l=some r→l<n→r.getD l 0=1∧∀j,j<l→r.getD j 0=0
theorem GU.zero{p:Int}{n:Nat}{e:Nat→Option (List Int)}{v:Fn}(E:GU n e)(h:Sp p (ES n e) v)(hz:∀l r,l<n→e l=some r→p∣v l):∀j,p∣v j:=by
 obtain⟨c,hc⟩:=ES.coeff h;have all:∀m,m≤n→∀l,l<m→∀j,p∣c l*e8 e l j:=by
  intro m;induction m with
  |zero=>intro _ l hl;lia
  |succ m ih=>
   intro hm l hl j;by_cases zi:l<m
   ·exact ih (by lia) l zi j
   ·have el:l=m:=by lia
    subst el;cases hr:e l with
    |none=>exact⟨0,by simp[e8,hr]⟩
    |some r=>
     obtain⟨o1,o2⟩:=E.one l r hr (by lia);have s:=hc l;dsimp only at s;rw[vm (show l<n by lia)]at s;have eh:p∣Sg (λi=>if i=l then 0 else c i*e8 e i l) n:=zh λi hi=>by
      by_cases h1:i=l
      ·rw[af h1];exact⟨0,by simp⟩
      ·rw[ag h1];by_cases h2:i<l
       ·exact ih (by lia) i h2 l
       ·cases GV:e i with
        |none=>exact⟨0,by simp[e8,GV]⟩
        |some r2=>
         have:=(E.one i r2 GV hi).2 l (by lia)
         refine⟨0,?_⟩;simp only[e8,GV,this,Int.mul_zero]
     have e1:e8 e l l=1:=by simp only[e8,hr];exact o1
     rw[e1,sE]at s;have k:=nZ (jS s eh) (hz l r (by lia) hr);rw[show c l+Sg (λi=>if i=l then 0 else c i*e8 e i l) n-v l-Sg (λi=>if i=l then 0 else c i*e8 e i l) n+v l=c l by lia]at k
     exact Int.dvd_mul_of_dvd_left k
 intro j;have s:=hc j;dsimp only at s;have t:p∣Sg (λl=>c l*e8 e l j) n:=zh λi hi=>all n (ck n) i hi j;have k:=jS t s;rwa[show Sg (λl=>c l*e8 e l j) n-(Sg (λl=>c l*e8 e l j) n-v j)=v j by lia]at k
theorem XW(h:Rw p n r)(hz:∀j,j<n→r.getD j 0=0)(j:Nat):fn r j=0:=by
 by_cases hj:j<n
 ·exact hz j hj
 ·exact h.out (by lia)
noncomputable def jb:LL→List Nat→Nat→Option (List Int)
 |r::D,l::ls,i=>if i=l then some r else jb D ls i
 |_,_,_=>none
theorem w6:∀{D:LL}{ls:List Nat}{l:Nat}{r:List Int},jb D ls l=some r→∃(i:Nat),D[i]?=some r∧ls[i]?=some l
 | [],_,_,_,h=>by simp[jb]at h
 |_::_,[],_,_,h=>by simp[jb]at h
 |q::D,m::ls,l,r,h=>by
  rw[jb]at h;by_cases e:l=m
  ·rw[af e]at h;cases h;exact⟨0,rfl,by rw[e];rfl⟩
  ·rw[ag e]at h;obtain⟨i,h1,h2⟩:=w6 h;exact⟨i+1,by simpa using h1,by simpa using h2⟩
theorem Ng:∀{D:LL}{ls:List Nat}{i l:Nat}{r:List Int},ls.Pairwise (· < ·)→D[i]?=some r→ls[i]?=some l→jb D ls l=some r
 | [],_,_,_,_,_,h,_=>by simp at h
 |_::_,[],_,_,_,_,_,h=>by simp at h
 |q::D,m::ls,0,l,r,_,h1,h2=>by simp at h1 h2;subst h1 h2;simp[jb]
 |q::D,m::ls,i+1,l,r,hp,h1,h2=>by
  have hl:ls[i]?=some l:=by simpa using h2
  have:m<l:=(List.pairwise_cons.mp hp).1 l (dI hl)
  rw[jb,ag (by lia)];exact Ng (List.pairwise_cons.mp hp).2 (by simpa using h1) hl
theorem ja.lead{k:Nat}(E:ja n k D ls):GU k (jb D ls):=⟨λl r h _=>by
 obtain⟨i,h1,h2⟩:=w6 h;exact E.one i r l h1 h2⟩
theorem ja.sp{k:Nat}(E:ja n k D ls)(h:Sp p (RS D) v):Sp p (ES k (jb D ls)) v:=h.trans λf hf=>by
 obtain⟨r,hr,rfl⟩:=hf;obtain⟨i,hi,rfl⟩:=Bj.mp hr;have hl:i<ls.length:=by rw[E.len];exact hi
 exact .mem ⟨ls[i],D[i],E.lt _ (n6 hl),Ng E.up (cC hi) (cC hl),rfl⟩
structure XX(p:Int)(n:Nat)(L D:LL):Prop where
 rws:cP p n D
 qj:∃ls,ja n n D ls
 sub:∀r∈D,Sp p (RS L) (fn r)
 sup:∀r∈L,Sp p (RS D) (fn r)
theorem Cc(h:cP p n L)(cL:L≠[]):rF L=n:=by
 cases L with
 |nil=>exact absurd rfl cL
 |cons r L=>exact(h r cU).1
theorem oH(hp:p∈dW)(hL:cP p n L):XX p n L (iy p L):=by
 by_cases cL:L=[]
 ·subst cL;exact⟨λr hr=>absurd hr (by simp[iy,rF,i9]),⟨[],by simp[iy,rF,i9],.nil,by simp,by simp,by simp⟩,λr hr=>absurd hr (by simp[iy,rF,i9]),λr hr=>absurd hr (by simp)⟩
 ·unfold iy;rw[Cc hL cL];have I:=GK hp hL n (ck n);generalize i9 p n L n=st at I;refine⟨I.d,I.qj,λr hr=>I.sub r (e7 _ hr),λr hr=>(I.sup r hr).trans λf hf=>?_⟩;obtain⟨r0,h0,rfl⟩:=hf;rcases(dq.mp h0)with(h0|h0)
  ·exact .mem ⟨r0,h0,rfl⟩
  ·exact(Sp.zero).of_eq λj=>(XW (I.r r0 h0) (I.z r0 h0) j).symm
theorem ja.same(E:ja n n D ls)(hu:Sp p (RS D) u)(hv:Sp p (RS D) v)(h:∀l∈ls,p∣u l-v l):fq p u v:=λj=>by
 have hd:Sp p (RS D) (λj=>u j+(-1)*v j):=hu.plus (-1) hv
 have:=E.lead.zero (E.sp hd) (λl r _ he=>by
  obtain⟨i,_,h2⟩:=w6 he;have q:=h l (dI h2);show p∣u l + -1*v l;rwa[show u l + -1*v l=u l-v l by lia]) j
 rwa[show u j + -1*v j=u j-v j by lia]at this
theorem XY(hp:p∈dW):¬p∣1:=λ⟨c,hc⟩=>by
 have:=gN p hp
 rcases Int.lt_trichotomy c 0 with h|h|h
 ·have:=K6 (show c≤-1 by lia) (show 0≤p by lia)
  lia
 ·rw[h]at hc;lia
 ·have:=K6 (show 1≤c by lia) (show 0≤p by lia)
  lia
theorem ja.starts(hp:p∈dW)(E:ja n n D ls){l:Nat}(hv:Sp p (RS D) v)(h1:v l=1)(h0:∀j,j<l→v j=0):l∈ls:=by
 by_cases hm:l∈ls
 ·exact hm
 ·exfalso;obtain⟨c,hc⟩:=ES.coeff (E.sp hv);have all:∀m,m≤l→∀i,i<m→∀j,p∣c i*e8 (jb D ls) i j:=by
   intro m;induction m with
   |zero=>intro _ i hi;lia
   |succ m ih=>
    intro hml i hi j;by_cases XZ:i<m
    ·exact ih (by lia) i XZ j
    ·have ei:i=m:=by lia
     subst ei;cases hr:jb D ls i with
     |none=>exact⟨0,by simp[e8,hr]⟩
     |some r=>
      obtain⟨z,z1,z2⟩:=w6 hr;have Nh:i<n:=E.lt i (dI z2);have s:=hc i;dsimp only at s;rw[vm Nh,h0 i (by lia)]at s;have eh:p∣Sg (λq=>if q=i then 0 else c q*e8 (jb D ls) q i) n:=zh λq hq=>by
       by_cases q1:q=i
       ·rw[af q1];exact⟨0,by simp⟩
       ·rw[ag q1];by_cases q2:q<i
        ·exact ih (by lia) q q2 i
        ·cases iU:jb D ls q with
         |none=>exact⟨0,by simp[e8,iU]⟩
         |some r2=>
          have:=(E.lead.one q r2 iU hq).2 i (by lia)
          exact⟨0,by simp only[e8,iU,this,Int.mul_zero]⟩
      have e1:e8 (jb D ls) i i=1:=by simp only[e8,hr];exact(E.lead.one i r hr Nh).1
      rw[e1,sE]at s;have k:=jS s eh;rw[show c i+Sg (λq=>if q=i then 0 else c q*e8 (jb D ls) q i) n-0-Sg (λq=>if q=i then 0 else c q*e8 (jb D ls) q i) n=c i by lia]at k
      exact Int.dvd_mul_of_dvd_left k
  have s:=hc l;dsimp only at s;have t:p∣Sg (λq=>c q*e8 (jb D ls) q l) n:=zh λq hq=>by
   by_cases q2:q<l
   ·exact all l (ck l) q q2 l
   ·cases iU:jb D ls q with
    |none=>exact⟨0,by simp[e8,iU]⟩
    |some r2=>
     obtain⟨z,z1,z2⟩:=w6 iU
     have:q≠l:=λe=>hm (e▸dI z2)
     have:=(E.lead.one q r2 iU hq).2 l (by lia)
     exact⟨0,by simp only[e8,iU,this,Int.mul_zero]⟩
  have k:=jS t s;rw[show Sg (λq=>c q*e8 (jb D ls) q l) n-(Sg (λq=>c q*e8 (jb D ls) q l) n-v l)=v l by lia,h1]at k;exact XY hp k
theorem Ni:∀{a b:List Nat},a.Pairwise (· < ·)→b.Pairwise (· < ·)→(∀x,x∈a↔x∈b)→a=b
 | [],[],_,_,_=>rfl
 | [],y::b,_,_,h=>absurd ((h y).mpr cU) (by simp)
 |x::a,[],_,_,h=>absurd ((h x).mp cU) (by simp)
 |x::a,y::b,ha,hb,h=>by
  obtain⟨a1,a2⟩:=List.pairwise_cons.mp ha;obtain⟨b1,b2⟩:=List.pairwise_cons.mp hb;have X0:x=y:=by
   rcases dX.mp ((h x).mp cU)with e|e
   ·exact e
   ·rcases dX.mp ((h y).mpr cU)with e2|e2
    ·exact e2.symm
    ·have:=b1 x e
     have:=a1 y e2
     lia
  subst X0
  congr 1
  refine Ni a2 b2 λz=>⟨λhz=>?_,λhz=>?_⟩
  ·rcases dX.mp ((h z).mp (fK _ hz))with e|e
   ·have:=a1 z hz;lia
   ·exact e
  ·rcases dX.mp ((h z).mpr (fK _ hz))with e|e
   ·have:=b1 z hz;lia
   ·exact e
theorem ja.unique{D':LL}{tK:List Nat}(hp:p∈dW)(E:ja n n D ls)(E':ja n n D' tK)(hD:cP p n D)(X1:cP p n D')(s1:∀r∈D,Sp p (RS D') (fn r))(s2:∀r∈D',Sp p (RS D) (fn r)):D=D':=by
 have p0:0<p:=by have:=gN p hp;lia
 have Nj:∀{D D':LL}{ls tK:List Nat},ja n n D ls→ja n n D' tK→(∀r∈D,Sp p (RS D') (fn r))→∀x,x∈ls→x∈tK:=λ{D D' ls tK} E E' s x hx=>by
  obtain⟨i,hi,rfl⟩:=Bj.mp hx;have Nk:i<D.length:=by rw[← E.len];exact hi
  obtain⟨o1,o2⟩:=E.one i D[i] ls[i] (cC Nk) (cC hi);exact E'.starts hp (s _ (n6 Nk)) o1 o2
 have el:ls=tK:=Ni E.up E'.up λx=>⟨Nj E E' s1 x,Nj E' E s2 x⟩;subst el;have B9:D.length=D'.length:=by rw[← E.len,← E'.len]
 apply List.ext_getElem B9;intro i h1 h2;have hi:i<ls.length:=by rw[E.len];exact h1
 refine(hD _ (n6 h1)).ext p0 (X1 _ (n6 h2)) ?_;refine E'.same (s1 _ (n6 h1)) (.mem ⟨_,n6 h2,rfl⟩) λl hl=>?_;obtain⟨k,hk,rfl⟩:=Bj.mp hl;by_cases GX:k=i
 ·subst GX;have a:=(E.one k D[k] ls[k] (cC h1) (cC hk)).1;have b:=(E'.one k D'[k] ls[k] (cC h2) (cC hk)).1;show p∣(D[k]).getD ls[k] 0-(D'[k]).getD ls[k] 0;rw[a,b];exact⟨0,by lia⟩
 ·have a:=E.alone k i D[i] ls[k] GX (cC h1) (cC hk);have b:=E'.alone k i D'[i] ls[k] GX (cC h2) (cC hk);show p∣(D[i]).getD ls[k] 0-(D'[i]).getD ls[k] 0;rw[a,b];exact⟨0,by lia⟩
noncomputable def X2(r:List Int):List Nat:=(List.range r.length).filter λj=>r.getD j 0≠0
noncomputable def dot(f v:Fn)(m:Nat):Int:=Sg (λi=>f i*v i) m
theorem GY{g:Nat→Int}(h:∀i,i<n→f i=g i):Sg f n=Sg g n:=by
 induction n with
 |zero=>rfl
 |succ n ih=>rw[Sg,Sg,ih λi hi=>h i (by lia),h n (by lia)]
theorem X3(c:Int)(f:Nat→Int)(n:Nat):Sg (λi=>c*f i) n=c*Sg f n:=by
 induction n with
 |zero=>simp[Sg]
 |succ n ih=>rw[Sg,Sg,ih,Int.mul_add]
theorem Nl(f u v:Fn)(c:Int)(m:Nat):dot f (λj=>u j+c*v j) m=dot f u m+c*dot f v m:=by
 unfold dot;rw[← X3,← GO];exact GY λi _=>by rw[Int.mul_add,Int.mul_left_comm]
noncomputable def col(rs:LL)(j:Nat):Fn:=fn (rs.map λq=>q.getD j 0)
theorem X4{k:Nat}(hk:k<n)(v:Fn):Sg (λi=>(if i=k then 1 else 0)*v i) n=v k:=by
 rw[vm hk,qk λi _=>?_]
 ·simp
 ·by_cases h:i=k
  ·rw[af h]
  ·rw[ag h,ag h];simp
theorem mj{U:List Fn}(h:Sp p (·∈u::U) v):∃(c:Int)(w:Fn),Sp p (·∈U) w∧fq p (λj=>w j+c*u j) v:=by
 induction h with
 |zero=>exact⟨0,λ_=>0,.zero,λj=>⟨0,by simp⟩⟩
 | @add v r d _ hr ih=>
  obtain⟨c,w,hw,e⟩:=ih;rcases(dX.mp hr)with(rfl|hr)
  ·refine⟨c+d,w,hw,λj=>?_⟩;obtain⟨k,hk⟩:=e j;exact⟨k,by grind⟩
  ·refine⟨c,_,Sp.add d hw hr,λj=>?_⟩;obtain⟨k,hk⟩:=e j;exact⟨k,by grind⟩
 |dh _ e ih=>
  obtain⟨c,w,hw,e2⟩:=ih;exact⟨c,w,hw,e2.trans e⟩
theorem jM{R:Fn→Prop}(h0:∀f,¬R f)(h:Sp p R v)(j:Nat):p∣v j:=by
 induction h with
 |zero=>exact⟨0,by simp⟩
 |add c _ hr ih=>exact absurd hr (h0 _)
 |dh _ e ih=>
  obtain⟨k,hk⟩:=ih;obtain⟨k2,GZ⟩:=e j;exact⟨k-k2,by grind⟩
theorem X5{a b:Nat}(ha:a<n)(hb:b<n)(cL:a≠b)(h:∀i,i<n→i≠a→i≠b→f i=0):Sg f n=f a+f b:=by
 rw[vm ha,vm (f:=λi=>if i=a then 0 else f i) hb]
 rw[qk λi hi=>?_]
 ·simp only[ag (Ne.symm cL)];lia
 ·by_cases h1:i=b
  ·simp[h1]
  ·by_cases h2:i=a
   ·simp[h2]
   ·simp[h1,h2,h i hi h2 h1]
noncomputable def X6(D:LL):List Nat:=D.map λr=>(X2 r).headD 0
section
variable{p:Int}{n:Nat}{D:LL}{ls:List Nat}
end
end Bw
namespace L2
open PySem Bw
section
variable{N:Addr→Prop}{H H':Hp}{LS:List V}{L:LL}{l a:Addr}{o:HO}{r:List Int}
end
end L2
namespace L2
open PySem PySem.Spec PyProof.Rows
end L2
namespace L2
open PySem Bw
end L2
namespace L2
open PySem PySem.Spec PyProof.Rows
variable{H H':Hp}{Q:QV}{X:Cx}{aM:List (List Key×V)}{s:Shared}{u:Value}{xs:List (List Key×Addr×Value)}{y:V}
section
variable{κ:Type} [DecidableEq κ]
noncomputable def dG(aM:List (κ×V))(k:κ):Option V:=(aM.find? λkv=>decide (kv.1=k)).map (·.2)
noncomputable def gG(aM:List (κ×V))(k:κ)(v:V):List (κ×V):=
 if(aM.any λkv=>decide (kv.1=k))=true then aM.map (λkv=>if kv.1=k then(kv.1,v)else kv)else aM++[(k,v)]
theorem nB{p:κ×V}{r:List (κ×V)}{k:κ}(e:p.1=k):dG (p::r) k=some p.2:=by simp[dG,sP,e]
theorem nC{p:κ×V}{r:List (κ×V)}{k:κ}(e:¬p.1=k):dG (p::r) k=dG r k:=by simp[dG,sP,e]
theorem w8(k:κ):∀aM:List (κ×V),(aM.any λkv=>decide (kv.1=k))=(dG aM k).isSome
 | []=>rfl
 |p::r=>by
  rw[List.any_cons];by_cases e:p.1=k
  ·simp only[nB e,aC e,Bool.true_or,Option.isSome_some]
  ·rw[nC e,ae e,Bool.false_or];exact w8 k r
theorem Nm(k j:κ)(y:V):∀aM:List (κ×V),dG (aM.map λkv=>if kv.1=k then(kv.1,y)else kv) j=(dG aM j).map λx=>if j=k then y else x
 | []=>rfl
 |p::r=>by
  have ih:=Nm k j y r;rw[jt];by_cases h:p.1=k
  ·rw[af h];by_cases e:p.1=j
   ·rw[nB (p:=(p.1,y)) e,nB e,Option.map_some,af (e.symm.trans h)]
   ·rw[nC (p:=(p.1,y)) e,nC e,ih]
  ·rw[ag h];by_cases e:p.1=j
   ·rw[nB (p:=p) e,nB e,Option.map_some,ag (λz=>h (e.trans z))]
   ·rw[nC (p:=p) e,nC e,ih]
theorem Nn(k j:κ)(y:V):∀aM:List (κ×V),dG aM k=none→dG (aM++[(k,y)]) j=if j=k then some y else dG aM j
 | [],_=>by
  by_cases e:k=j
  ·rw[af e.symm];exact nB (p:=(k,y)) e
  ·rw[ag (λz=>e z.symm)];exact nC (p:=(k,y)) e
 |p::r,hn=>by
  rw[uH];have hk:¬p.1=k:=λz=>by rw[nB z]at hn;cases hn
  rw[nC hk]at hn;have ih:=Nn k j y r hn;by_cases e:p.1=j
  ·rw[nB e,nB e,ag (λz=>hk (e.trans z))]
  ·rw[nC e,nC e,ih]
theorem Np(aM:List (κ×V))(k j:κ)(y:V):dG (gG aM k y) j=if j=k then some y else dG aM j:=by
 unfold gG;by_cases a:(aM.any λkv=>decide (kv.1=k))=true
 ·rw[af a,Nm];rw[w8]at a;by_cases e:j=k
  ·obtain⟨x,hx⟩:=Option.isSome_iff_exists.mp a;rw[af e,e,hx,Option.map_some,af rfl]
  ·rw[ag e];cases dG aM j with
   |none=>rfl
   |some x=>rw[Option.map_some,ag e]
 ·rw[ag a];refine Nn k j y aM ?_;rw[w8]at a;cases q:dG aM k with
  |none=>rfl
  |some x=>rw[q]at a;exact(a rfl).elim
theorem Cd(aM:List (κ×V))(k:κ)(v:V):(gG aM k v).length≤aM.length+1:=by
 unfold gG;split
 ·rw[bO];lia
 ·rw[bY,eK,wc];lia
theorem G5{aM:List (κ×V)}{k:κ}(v:V)(h:dG aM k=none):gG aM k v=aM++[(k,v)]:=by
 unfold gG;rw[w8,h];exact ag (by decide)
theorem nc.zj{o:Option V}{u:Option Value}(r:nc o u):o.isSome=u.isSome:=by
 cases o with
 |none=>cases u with
  |none=>rfl
  |some _=>exact(show False from r).elim
 |some _=>cases u with
  |none=>exact(show False from r).elim
  |some _=>rfl
theorem nc.getD{o:Option V}{u:Option Value}{d:V}{d':Value}(r:nc o u)(rd:RelV d d'):RelV (o.getD d) (u.getD d'):=by
 cases o with
 |none=>cases u with
  |none=>exact rd
  |some _=>exact(show False from r).elim
 |some _=>cases u with
  |none=>exact(show False from r).elim
  |some _=>exact r
theorem KV.val{aM:List (κ×V)}{vs:List (κ×Value)}(r:KV aM vs)(k:κ):nc (dG aM k) (valueAt vs k):=by
 unfold KV at r;induction r with
 |nil=>exact True.intro
 | @cons p q ps qs h t ih=>
  obtain⟨h1,h2⟩:=h;by_cases e:p.1=k
  ·have e':q.1=k:=h1.symm.trans e;have b:valueAt (q::qs) k=some q.2:=by simp[valueAt,sP,e']
   rw[nB e,b];exact h2
  ·have e':¬q.1=k:=λz=>e (h1.trans z);have b:valueAt (q::qs) k=valueAt qs k:=by simp[valueAt,sP,e']
   rw[nC e,b];exact ih
theorem KV.any{aM:List (κ×V)}{vs:List (κ×Value)}(r:KV aM vs)(k:κ):(aM.any λkv=>decide (kv.1=k))=vs.any λkv=>decide (kv.1=k):=by
 unfold KV at r;induction r with
 |nil=>rfl
 |cons h t ih=>rw[List.any_cons,List.any_cons,ih,h.1]
theorem KV.G6{aM:List (κ×V)}{vs:List (κ×Value)}(r:KV aM vs)(k:κ)(ry:RelV y u) :
  KV (aM.map λkv=>if kv.1=k then(kv.1,y)else kv) (vs.map λkv=>if kv.1=k then(kv.1,u)else kv):=by
 unfold KV at r ⊢;induction r with
 |nil=>exact .nil
 | @cons p q ps qs h t ih=>
  rw[jt,jt];refine .cons ?_ ih;obtain⟨h1,h2⟩:=h;by_cases e:p.1=k
  ·rw[af e,af (h1.symm.trans e)];exact⟨h1,ry⟩
  ·rw[ag e,ag (λz=>e (h1.trans z))];exact⟨h1,h2⟩
theorem KV.put{aM:List (κ×V)}{vs:List (κ×Value)}(r:KV aM vs)(k:κ)(ry:RelV y u):KV (gG aM k y) (stored vs k u):=by
 unfold gG stored;rw[r.any k];by_cases e:(vs.any λkv=>decide (kv.1=k))=true
 ·rw[af e,af e];exact r.G6 k ry
 ·rw[ag e,ag e];exact Paired.snoc r ⟨rfl,ry⟩
theorem KV.keys{aM:List (κ×V)}{vs:List (κ×Value)}(r:KV aM vs):aM.map (·.1)=vs.map (·.1):=by
 unfold KV at r;induction r with
 |nil=>rfl
 |cons h t ih=>rw[jt,jt,ih,h.1]
theorem KV.length{aM:List (κ×V)}{vs:List (κ×Value)}(r:KV aM vs):aM.length=vs.length:=Paired.length r
end
theorem tL{P:Program}{w:World}{k:Key}(r:RelV (kV k) u):(iC P w).is k u=true:=by
 cases k with
 |inl i=>obtain⟨t,e⟩:=(show ∃t,u=Value.int i t from r);subst e;exact Uh P w i t
 |inr x=>obtain⟨t,e⟩:=(show ∃t,u=Value.str x t from r);subst e;exact Ui P w x t
theorem Nq{P:Program}{w:World}:∀{ks:List Key}{us:List Value},Vals (ks.map kV) us→ItemsAre (iC P w) ks us
 | [],_,r=>by rw[List.map_nil]at r;cases r;exact .nil
 |k::ks,_,r=>by
  rw[jt]at r;cases r with
  |cons h t=>exact .cons (tL h) (Nq t)
abbrev KT(H:Hp):List (List Key×V)→List (List Key×Addr×Value)→Prop:=Paired λp q=>p.1=q.1∧H q.2.1=some (.tup (p.1.map kV))∧RelV p.2 q.2.2
theorem KT.val(r:KT H aM xs)(k:List Key):nc (dG aM k) ((atKey xs k).map (·.2)):=by
 induction r with
 |nil=>exact True.intro
 | @cons p q ps qs h t ih=>
  obtain⟨h1,_,h2⟩:=h;by_cases e:p.1=k
  ·have e':q.1=k:=h1.symm.trans e;have b:atKey (q::qs) k=some q.2:=by simp[atKey,sP,e']
   rw[nB e,b];exact h2
  ·have e':¬q.1=k:=λz=>e (h1.trans z);have b:atKey (q::qs) k=atKey qs k:=by simp[atKey,sP,e']
   rw[nC e,b];exact ih
theorem KT.G6(r:KT H aM xs)(k:List Key)(ry:RelV y u) :
  KT H (aM.map λkv=>if kv.1=k then(kv.1,y)else kv) (xs.map (putAt k u)):=by
 induction r with
 |nil=>exact .nil
 | @cons p q ps qs h t ih=>
  rw[jt,jt];refine .cons ?_ ih;obtain⟨h1,h2,h3⟩:=h;unfold putAt;by_cases e:p.1=k
  ·rw[af e,af (h1.symm.trans e)];exact⟨h1,h2,ry⟩
  ·rw[ag e,ag (λz=>e (h1.trans z))];exact⟨h1,h2,h3⟩
theorem KT.put(r:KT H aM xs)(k:List Key){b:Addr}(hb:H b=some (.tup (k.map kV)))(ry:RelV y u) :
  KT H (gG aM k y) (storedH xs k b u):=by
 have e:(aM.any λkv=>decide (kv.1=k))=(atKey xs k).isSome:=by
  rw[w8,(r.val k).zj,Option.isSome_map]
 unfold gG storedH;rw[e];by_cases q:(atKey xs k).isSome=true
 ·rw[af q,af q];exact r.G6 k ry
 ·rw[ag q,ag q];exact Paired.snoc r ⟨rfl,hb,ry⟩
theorem KT.keeps(r:KT H aM xs)(ht:∀b ys,H b=some (.tup ys)→H' b=some (.tup ys)):KT H' aM xs:=
 Paired.EZ r λ_ _ z=>⟨z.1,ht _ _ z.2.1,z.2.2⟩
section
variable{P:Program}{w:World}{H:Hp}{h:Heap}{a:Addr}
theorem Nr{u:HO}(ok:gy P w H h)(e:Rd H a u):gv P w H h a u:=e.ok ok
theorem rG{aM:List (Key×V)}(ok:gy P w H h)(e:Rd H a (.dK aM)):aM.length≤sizeLine∧(a==sysModules)=false∧∃vs,KV aM vs∧h.DictOf (iC P w) a vs:=
 show gv P w H h a (.dK aM) from Nr ok e
theorem Nt{aM:List (Key×V)}(ok:gy P w H h)(e:H a=some (.dK aM)):aM.length≤sizeLine∧(a==sysModules)=false∧∃vs,KV aM vs∧h.DictOf (iC P w) a vs:=rG ok (.inl e)
theorem xa{ks:List Key}(ok:gy P w H h)(e:H a=some (.tup (ks.map kV))):(tupleKind (iC P w)).is h ks a:=by
 obtain⟨_,its,r,o,h1,h2,_,n,h3⟩:=(show gv P w H h a (.tup (ks.map kV)) from ok a _ e)
 exact⟨o,its.toArray,n,h1,h2,h3,by simpa using Nq r⟩
theorem vn(ok:gy P w H h)(e:Rd H a (.dT aM)):aM.length≤sizeLine∧(a==sysModules)=false∧
  ∃xs,KT H aM xs∧h.DictOfH (tupleKind (iC P w)) a xs:=by
 obtain⟨z,y,xs,r,o,es,ep,h1,h2,h3,h4,h5⟩:=(show gv P w H h a (.dT aM) from Nr ok e)
 refine⟨z,y,xs,r,o,es,ep,h1,h2,h3,h4,λx hx=>?_,h5⟩;have all:∀{l:List (List Key×V)}{m:List (List Key×Addr×Value)},KT H l m→∀x∈m,(tupleKind (iC P w)).is h x.1 x.2.1:=by
  intro l m q;induction q with
  |nil=>intro x hx;exact nomatch hx
  | @cons p q ps qs hq t ih=>
   intro x hx;rcases dX.mp hx with e|hx
   ·subst e;exact xa ok (by rw[← hq.1];exact hq.2.1)
   ·exact ih x hx
 exact all r x hx
theorem X7(ok:gy P w H h)(e:H a=some (.dT aM)):aM.length≤sizeLine∧(a==sysModules)=false∧
  ∃xs,KT H aM xs∧h.DictOfH (tupleKind (iC P w)) a xs:=vn ok (.inl e)
end
def gH(H:Hp)(a:Addr)(y:V)(r:Option V):Prop:=
 (∃aM k,Rd H a (.dK aM)∧y=kV k∧r=dG aM k)∨∃aM k b,Rd H a (.dT aM)∧y=.ref b∧H b=some (.tup (k.map kV))∧r=dG aM k
def ql(H:Hp)(a:Addr)(y v:V)(H':Hp):Prop:=
 (∃aM k,H a=some (.dK aM)∧y=kV k∧aM.length<sizeLine∧H'=upd H a (.dK (gG aM k v))) ∨
 ∃aM k b,H a=some (.dT aM)∧y=.ref b∧H b=some (.tup (k.map kV))∧aM.length<sizeLine∧H'=upd H a (.dT (gG aM k v))
theorem gH.k{H:Hp}{a:Addr}{aM:List (Key×V)}{k:Key}(e:H a=some (.dK aM)):gH H a (kV k) (dG aM k):=.inl ⟨aM,k,.inl e,rfl,rfl⟩
theorem ql.k{H:Hp}{a:Addr}{aM:List (Key×V)}{k:Key}{v:V}(e:H a=some (.dK aM))(hl:aM.length<sizeLine):ql H a (kV k) v (upd H a (.dK (gG aM k v))):=.inl ⟨aM,k,e,rfl,hl,rfl⟩
section
variable{X:Cx}{aL:List (Addr×Obj)}{σ:St}{H:Hp}{s:Shared}{a:Addr}{y v:V}{u r:Value}{o:Option V}{A:Around}{E:QV}
theorem Inv.big(I:Inv X aL σ H s):sysModules<s.heap.objs.size:=by
 have h:mainGlobals<s.heap.objs.size:=(I.mod.glob.keeps I.bk).lt;exact Nat.lt_trans (by decide) h
theorem X8(hu:A.units+1<cLine)(I:Inv X aL σ H s)(g:gH H a y (some v))(ry:RelV y u)(h:∀w' s',Inv X aL σ H s'→RelV v w'→Q w' s') :
  wpAny (model X.prog X.w) A (getItem (.ref a) u) Q E s:=by
 rcases g with⟨aM,k,e,ey,l⟩|⟨aM,k,b,e,ey,eb,l⟩
 ·subst ey;obtain⟨z,hd,vs,rel,dd⟩:=rG I.bz e;obtain⟨w',hw,rw'⟩:=nc.some_of (v:=v) (o:=valueAt vs k) (by rw[l];exact rel.val k);exact wpAny_getItem_of (tL ry) dd.mapOf hw (h w' _ (I.tok _) rw')
 ·subst ey;cases(show u=Value.ref b from ry)
  obtain⟨z,hd,xs,rel,dd⟩:=vn I.bz e;obtain⟨w',hw,rw'⟩:=nc.some_of (v:=v) (o:=(atKey xs k).map (·.2)) (by rw[l];exact rel.val k);obtain⟨p,hp,y8⟩:=Option.map_eq_some_iff.mp hw;refine wpAny_getItem_heap (aG hu) (xa I.bz eb) dd hp ?_;rw[y8];exact h w' _ (I.tok _) rw'
theorem X9(hu:A.units+1<cLine)(I:Inv X aL σ H s)(g:gH H a y o)(ry:RelV y u)(h:∀s',Inv X aL σ H s'→Q (.bool o.isSome) s') :
  wpAny (model X.prog X.w) A (compareOp .In u (.ref a)) Q E s:=by
 rcases g with⟨aM,k,e,ey,l⟩|⟨aM,k,b,e,ey,eb,l⟩
 ·subst ey;obtain⟨z,hd,vs,rel,dd⟩:=rG I.bz e;refine wpAny_in_of (tL ry) hd dd.mapOf ?_;rw[← (rel.val k).zj,← l];exact h _ (I.tok _)
 ·subst ey;cases(show u=Value.ref b from ry)
  obtain⟨z,hd,xs,rel,dd⟩:=vn I.bz e;refine wpAny_in_heap (aG hu) (xa I.bz eb) hd dd ?_;have q:=(rel.val k).zj;rw[Option.isSome_map]at q;rw[← q,← l];exact h _ (I.tok _)
theorem Ya(hu:A.units+1<cLine)(I:Inv X aL σ H s)(g:gH H a y o)(ry:RelV y u)(h:∀s',Inv X aL σ H s'→Q (.bool (!o.isSome)) s') :
  wpAny (model X.prog X.w) A (compareOp .NotIn u (.ref a)) Q E s:=by
 rcases g with⟨aM,k,e,ey,l⟩|⟨aM,k,b,e,ey,eb,l⟩
 ·subst ey;obtain⟨z,hd,vs,rel,dd⟩:=rG I.bz e;refine wpAny_notIn_of (tL ry) hd dd.mapOf ?_;rw[← (rel.val k).zj,← l];exact h _ (I.tok _)
 ·subst ey;cases(show u=Value.ref b from ry)
  obtain⟨z,hd,xs,rel,dd⟩:=vn I.bz e;refine wpAny_notIn_heap (aG hu) (xa I.bz eb) hd dd ?_;have q:=(rel.val k).zj;rw[Option.isSome_map]at q;rw[← q,← l];exact h _ (I.tok _)
theorem G7{h':Heap}{t':Nat}{ob:HO}(I:Inv X aL σ H s)(mu:ym (H a))(hs:Heap.SameBut a s.heap h')(he:∃q,h'.get? a=some q)(new:gv X.prog X.w (upd H a ob) h' a ob) :
  Inv X aL σ (upd H a ob) { s with heap:=h',toks:=t' }:=
 I.write (x:=a) (e:=a) mu (.inl rfl) (λb q hb z=>(hs.2 b hb).trans z) he new
theorem Ce{P:Program}{w:World}{h':Heap}{aM:List (Key×V)}{vs:List (Key×Value)}(z:aM.length≤sizeLine)(hd:(a==sysModules)=false)(rel:KV aM vs)(dd:h'.DictOf (iC P w) a vs) :
  gv P w H' h' a (.dK aM):=⟨z,hd,vs,rel,dd⟩
theorem Yb{Q:Unit→Shared→Prop}(hu:A.units+1<cLine)(I:Inv X aL σ H s)(g:ql H a y v H')(ry:RelV y u)(rv:RelV v r)(h:∀s',Inv X aL σ H' s'→Q () s') :
  wpAny (model X.prog X.w) A (setItem (.ref a) u r) Q E s:=by
 rcases g with⟨aM,k,e,ey,l,eH⟩|⟨aM,k,b,e,ey,eb,l,eH⟩
 ·subst ey eH;obtain⟨z,hd,vs,rel,dd⟩:=Nt I.bz e;have hz:vs.length≤sizeLine:=by rw[← rel.length];exact z
  have hl:(gG aM k v).length≤sizeLine:=by have:=Cd aM k v;lia
  refine wpAny_setItem_pairs (hsz:=hz) (tL ry) dd λh' rH hs=>h _ ?_;have he:∃q,h'.get? a=some q:=let ⟨q,_,_,hq,_⟩:=rH;⟨q,hq⟩;exact G7 I (by rw[e];exact True.intro) hs he (Ce hl hd (rel.put k rv) rH)
 ·subst ey eH;cases(show u=Value.ref b from ry)
  obtain⟨z,hd,xs,rel,dd⟩:=X7 I.bz e;have hz:xs.length≤sizeLine:=by rw[← Paired.length rel];exact z
  have hl:(gG aM k v).length≤sizeLine:=by have:=Cd aM k v;lia
  refine wpAny_setItem_heap (hsz:=hz) (aG hu) (xa I.bz eb) dd λh' rH hs=>h _ ?_;obtain⟨q,es,ep,hq,h2,h3,h4,_,h5⟩:=rH;refine G7 I (by rw[e];exact True.intro) hs ⟨q,hq⟩ ⟨hl,hd,_,(rel.put k eb rv).keeps λc ys ec=>?_,q,es,ep,hq,h2,h3,h4,h5⟩;rw[bU (Uj ec e (λz=>nomatch z))];exact ec
end
section
variable{X:Cx}{aL:List (Addr×Obj)}{σ:St}{H:Hp}{s:Shared}{a:Addr}{aM:List (Key×V)}{k:Key}{u:Value}{A:Around}{E:QV}
end
def G8(i:Expr):Prop:=∀ov iv,subscripted i false ov iv=operate [ov,iv] (getItem ov iv)
theorem Nu{prog:Program}{w:World}{A:Around}{E:QV}{env:Env}{value slice:Expr}{pos:Pos}{T id:String}
  (hl:typeLookup (.type T) "__getitem__"=pure (some (.builtin id))) (hs:G8 slice)
  (h:wpAny (model prog w) A (eval value env) (λo s₁=>wpAny (model prog w) A (eval slice env) (λi s₂=>s₂.TypeIs o T∧wpAny (model prog w) A (getItem o i) Q E s₂) E s₁) E s) :
  wpAny (model prog w) A (eval (.Subscript value slice pos) env) Q E s:=by
 refine Subscript_ (ah h (λo s₁ h₁=>ah h₁ (λi s₂ h₂=>?_) λ_ _ x=>x) λ_ _ x=>x);obtain⟨hT,h₂⟩:=h₂;unfold subscriptTail;refine ak ?_;rw[getitemInPython_of_ne hT.not_modules];refine ak (wpAny_specialOf hT hl ?_);have fin:wpAny (model prog w) A (subscripted slice false o i) (λr s₃=>wpAny (model prog w) A (letTemporaryGo value o r >>= λ_=>pure r) Q E s₃) E s₂:=by
  rw[hs o i];exact wpAny_operating (ah h₂ (λr s₃ h₃=>ak (wpAny_letTemporaryGo (aq h₃))) λ_ _ x=>x)
 first
  |exact aq (ak fin)
  |exact ak (aq (ak fin))
  |exact ak fin
theorem Yc{aL:List (Addr×Obj)}{σ:St}{a:Addr}{o:Option V}(I:Inv X aL σ H s)(g:gH H a y o):s.TypeIs (.ref a) "dict":=by
 rcases g with⟨aM,k,e,_,_⟩|⟨aM,k,b,e,_,_,_⟩
 ·obtain⟨_,_,vs,_,dd⟩:=rG I.bz e;exact dd.typeIs
 ·obtain⟨_,_,xs,_,dd⟩:=vn I.bz e;exact dd.typeIs
def Nv(td ty:TE):TE:=λσ H Q=>td σ H λx H1=>ty σ H1 λy H2=>∃a v,x=.ref a∧gH H2 a y (some v)∧Q v H2
def Yd(ty td:TE):TE:=λσ H Q=>ty σ H λy H1=>td σ H1 λx H2=>∃a o,x=.ref a∧gH H2 a y o∧Q (.bl o.isSome) H2
def Ye(ty td:TE):TE:=λσ H Q=>ty σ H λy H1=>td σ H1 λx H2=>∃a o,x=.ref a∧gH H2 a y o∧Q (.bl (!o.isSome)) H2
def Nw(td ty tv:TE):TS:=λD σ H=>tv σ H λv H1=>td σ H1 λx H2=>ty σ H2 λy H3=>∃a H4,x=.ref a∧ql H3 a y v H4∧D.nx σ H4
section
variable{X:Cx}{o i e value:Expr}{pos oo U8:Pos}{td ty tv:TE}
theorem jZ(hu:X.A.units+1<cLine)(ho:PE X o td)(hi:PE X i ty)(hs:G8 i):PE X (.Subscript o i pos) (Nv td ty):=by
 intro aL s σ H Q I h;refine Nu PySem.F.slot_dict_getitem.lookup hs (bh (ho aL s σ H _ I h) λu s1 ⟨x,H1,I1,rx,q1⟩=>bh (hi aL s1 σ H1 _ I1 q1) λiv s2 ⟨y,H2,I2,ry,a,v,ex,g,q2⟩=>?_);subst ex;obtain rfl:u=Value.ref a:=rx;exact⟨Yc I2 g,X8 hu I2 g ry λw' s3 I3 rw'=>⟨v,H2,I3,rw',q2⟩⟩
theorem G9(hu:X.A.units+1<cLine)(hi:PE X i ty)(ho:PE X o td):PC X .In i o (Yd ty td):=by
 intro aL s σ H Q I h;refine bh (hi aL s σ H _ I h) λiv s1 ⟨y,H1,I1,ry,q1⟩=>bh (ho aL s1 σ H1 _ I1 q1) λu s2 ⟨x,H2,I2,rx,a,ov,ex,g,q2⟩=>?_;subst ex;obtain rfl:u=Value.ref a:=rx;exact X9 hu I2 g ry λs3 I3=>⟨.bl ov.isSome,H2,I3,rfl,q2⟩
theorem Yf(hu:X.A.units+1<cLine)(hi:PE X i ty)(ho:PE X o td):PC X .NotIn i o (Ye ty td):=by
 intro aL s σ H Q I h;refine bh (hi aL s σ H _ I h) λiv s1 ⟨y,H1,I1,ry,q1⟩=>bh (ho aL s1 σ H1 _ I1 q1) λu s2 ⟨x,H2,I2,rx,a,ov,ex,g,q2⟩=>?_;subst ex;obtain rfl:u=Value.ref a:=rx;exact Ya hu I2 g ry λs3 I3=>⟨.bl (!ov.isSome),H2,I3,rfl,q2⟩
theorem xb(hu:X.A.units+1<cLine)(ho:PE X o td)(hi:PE X i ty)(hv:PE X value tv)(hs:swapsWith value (some (.Subscript o i oo)) pos.line X.env=pure false) :
  PS X (.Assign [.Subscript o i oo] value pos) (Nw td ty tv):=by
 intro aL s σ H D I h;refine wpAny_Assign_Subscript (bh (hv aL s σ H _ I h) λr s1 ⟨v,H1,I1,rv,q1⟩=>bh (ho aL s1 σ H1 _ I1 q1) λu s2 ⟨x,H2,I2,rx,q2⟩=>bh (hi aL s2 σ H2 _ I2 q2) λiv s3 ⟨y,H3,I3,ry,a,H4,ex,g,q3⟩=>?_) hs;subst ex;obtain rfl:u=Value.ref a:=rx;exact Yb hu I3 g ry rv λs4 I4=>⟨σ,H4,I4,q3⟩
end
theorem Nx{P:Program}{w:World}(h:Heap)(hb:sysModules<h.objs.size):gv P w H (h.push { cls:=.type "dict",data:=.dict #[] }) h.objs.size (.dK []):=
 ⟨jf _,beq_eq_false_iff_ne.mpr (Ne.symm (fu hb)),[],.nil,Heap.DictOf.new h⟩
def He:TE:=λ_ H Q=>∀p,H p=none→Q (.ref p) (upd H p (.dK []))
section
variable{X:Cx}{pos:Pos}
theorem Cf:PE X (.Dict [] [] pos) He:=λaL s σ H Q I h=>
 wpAny_Dict_empty ⟨.ref s.heap.objs.size,_,I.laid (a:=s.heap.objs.size) (o:=.dK []) (t':=s.toks) (λ_ _ q=>dj _ q) (ck _) (Nx s.heap I.big),rfl,h _ (I.bz.fresh (ck _))⟩
end
def vo:List (TE×TE)→St→Hp→(List (V×V)→Hp→Prop)→Prop
 | [],_,H,Q=>Q [] H
 |(tk,tv)::r,σ,H,Q=>tk σ H λx H1=>tv σ H1 λy H2=>vo r σ H2 λps H3=>Q ((x,y)::ps) H3
abbrev VV:List (V×V)→List (Value×Value)→Prop:=Paired λp q=>RelV p.1 q.1∧RelV p.2 q.2
def zk(X:Cx)(pos:Pos)(keys:List (Option Expr))(values:List Expr)(rJ:List (TE×TE)):Prop:=
 ∀(aL:List (Addr×Obj))(s:Shared)(σ:St)(H:Hp)(Q:List (V×V)→Hp→Prop),Inv X aL σ H s→vo rJ σ H Q→
  wpAny (model X.prog X.w) X.A (evalPairs (pairTrees keys values X.env pos)) (λvs s'=>∃ps H',Inv X aL σ H' s'∧VV ps vs∧Q ps H') X.xe s
theorem zl{pos:Pos}:zk X pos [] [] []:=λaL s σ H Q I h=>pairTrees_nil_walk ⟨[],H,I,.nil,h⟩
theorem rL{pos:Pos}{k v:Expr}{ks:List (Option Expr)}{vs:List Expr}{tk tv:TE}{rJ:List (TE×TE)}(hk:PE X k tk)(hv:PE X v tv)(hr:zk X pos ks vs rJ) :
  zk X pos (some k::ks) (v::vs) ((tk,tv)::rJ):=λaL s σ H Q I h=>
 pairTrees_cons_walk (bh (hk aL s σ H _ I h) λu s1 ⟨x,H1,I1,rx,q1⟩=>bh (hv aL s1 σ H1 _ I1 q1) λw2 s2 ⟨y,H2,I2,ry,q2⟩=>
  bh (hr aL s2 σ H2 _ I2 q2) λws s3 ⟨ps,H3,I3,rel,q3⟩=>⟨(x,y)::ps,H3,I3,.cons ⟨rx,ry⟩ rel,q3⟩)
noncomputable def jN(aM ig:List (Key×V)):List (Key×V):=ig.foldl (λcE kv=>gG cE kv.1 kv.2) aM
theorem KV.merge:∀{ig:List (Key×V)}{rs:List (Key×Value)}{aM:List (Key×V)}{vs:List (Key×Value)},KV ig rs→KV aM vs→KV (jN aM ig) (merged vs rs):=by
 intro ig rs aM vs r;unfold KV at r;induction r generalizing aM vs with
 |nil=>intro q;exact q
 | @cons p q ps qs h t ih=>
  intro r0;have e:KV (gG aM p.1 p.2) (stored vs q.1 q.2):=by
   have:=r0.put p.1 h.2
   rw[← h.1];exact this
  exact ih e
theorem Ci:∀(ig aM:List (Key×V)),(jN aM ig).length≤aM.length+ig.length
 | [],aM=>by show aM.length≤aM.length+0;lia
 |p::r,aM=>by
  have h1:=Ci r (gG aM p.1 p.2);have h2:=Cd aM p.1 p.2;show(jN (gG aM p.1 p.2) r).length≤_;rw[eK];lia
theorem Ny{P:Program}{w:World}:∀{aM:List (Key×V)}{ws:List (Value×Value)},VV (aM.map λkv=>(kV kv.1,kv.2)) ws→∃rs,Carries (iC P w) ws rs∧KV aM rs
 | [],_,r=>by rw[List.map_nil]at r;cases r;exact⟨[],True.intro,.nil⟩
 |p::aM,_,r=>by
  rw[jt]at r;cases r with
  | @cons a b as bs h t=>
   obtain⟨rs,c,q⟩:=Ny (P:=P) (w:=w) t;obtain⟨b1,b2⟩:=b;exact⟨(p.1,b2)::rs,⟨tL h.1,rfl,c⟩,.cons ⟨rfl,h.2⟩ q⟩
def pz(rJ:List (TE×TE)):TE:=λσ H Q=>∀p,H p=none→vo rJ σ (upd H p (.dK [])) λps H2=>H2 p=some (.dK [])∧∃aM:List (Key×V),ps=aM.map (λkv=>(kV kv.1,kv.2))∧aM.length≤15∧Q (.ref p) (upd H2 p (.dK (jN [] aM)))
theorem zm{pos:Pos}{keys:List (Option Expr)}{values:List Expr}{rJ:List (TE×TE)}(h:zk X pos keys values rJ)(FF:keys.all (·.isSome)=true)(hl:keys.length=values.length)(h0:keys≠[])
  (Hf:keys.length≤15):PE X (.Dict keys values pos) (pz rJ):=by
 intro aL s σ H Q I q;have hn:=I.bz.fresh (ck s.heap.objs.size);have I1:=I.laid (a:=s.heap.objs.size) (o:=.dK []) (h':=s.heap.push { cls:=.type "dict",data:=.dict #[] }) (t':=s.toks) (λ_ _ q=>dj _ q) (ck _) (Nx s.heap I.big);refine wpAny_Dict_walk (knd:=iC X.prog X.w) FF hl h0 Hf (bh (h aL _ σ _ _ I1 (q _ hn)) λws s2 ⟨ps,H2,I2,rel,e,aM,ep,lk,q2⟩=>?_);subst ep;obtain⟨rs,c,rk⟩:=Ny (P:=X.prog) (w:=X.w) rel;obtain⟨z,hd,vs0,r0,dd⟩:=Nt I2.bz e;cases r0;refine⟨rs,c,dd,λh' rH hs=>⟨.ref s.heap.objs.size,_,?_,rfl,q2⟩⟩;have hz:(jN [] aM).length≤sizeLine:=by
  have h1:=Ci aM [];rw[wc]at h1;rw[sizeLine_eq];lia
 have he:∃q,h'.get? s.heap.objs.size=some q:=let ⟨q,_,_,hq,_⟩:=rH;⟨q,hq⟩;exact G7 I2 (by rw[e];exact True.intro) hs he (Ce hz hd (rk.merge .nil) rH)
structure M2(X:Cx)(o:Expr)(m:Str)(jJ:Pos)(e f:Expr)(iE:Pos):Prop where
 base:attributeBase o m X.env (eval o X.env)=eval o X.env
 iP:((backTo iE (starEach [e,f] X.env)).all (λx=>!x.1)&&(backToKw iE (keywordEach [] X.env)).all (λx=>x.1.isSome)
  && decide (([e,f]:List Expr).length+([]:List Keyword).length+(if([]:List Keyword).isEmpty then 0 else 1)<30))=true
 line:(jJ.endLine==iE.line)=true
 trees:backTo iE (starEach [e,f] X.env)=[(false,eval e X.env),(false,eval f X.env)]
def Nz(H:Hp)(a:Addr):Prop:=(∃aM,Rd H a (.dK aM))∨∃aM,Rd H a (.dT aM)
theorem Yg{aL:List (Addr×Obj)}{σ:St}{a:Addr}(I:Inv X aL σ H s)(d:Nz H a) :
  s.TypeIs (.ref a) "dict"∧(∀b,Value.ref a=.ref b→∃ob,s.heap.get? b=some ob∧ob.dict=none)∧(a==sysModules)=false:=by
 rcases d with⟨aM,e⟩|⟨aM,e⟩
 ·obtain⟨_,hd,vs,_,dd⟩:=rG I.bz e;refine⟨dd.typeIs,λb q=>?_,hd⟩;cases q;obtain⟨ob,_,_,h1,h2,_⟩:=dd;exact⟨ob,h1,h2.2.1⟩
 ·obtain⟨_,hd,xs,_,dd⟩:=vn I.bz e;refine⟨dd.typeIs,λb q=>?_,hd⟩;cases q;obtain⟨ob,_,_,h1,h2,_⟩:=dd;exact⟨ob,h1,h2.2.1⟩
section
variable{X:Cx}{aL:List (Addr×Obj)}{σ:St}{H:Hp}{s:Shared}{a:Addr}{y d:V}{u r:Value}{o:Option V}{A:Around}{E:QV}
theorem Yh(hu:A.units+1<cLine)(I:Inv X aL σ H s)(g:gH H a y o)(ry:RelV y u)(rd:RelV d r)(h:∀w' s',Inv X aL σ H s'→RelV (o.getD d) w'→Q w' s') :
  wpAny (model X.prog X.w) A (call (.builtin "dict.get") [.ref a,u,r]) Q E s:=by
 rcases g with⟨aM,k,e,ey,l⟩|⟨aM,k,b,e,ey,eb,l⟩
 ·subst ey;obtain⟨z,hd,vs,rel,dd⟩:=rG I.bz e;refine call_meetsIn EW dd.typeIs PySem.F.entry_dict_get (PySem.F.args_dict_get_3 _ _ _) (meets_dict_get_default (iC X.prog X.w) a (tL ry) hd r) ⟨_,dd.mapOf,h _ _ (I.tok _) ?_⟩;rw[l];exact(rel.val k).getD rd
 ·subst ey;cases(show u=Value.ref b from ry)
  obtain⟨z,hd,xs,rel,dd⟩:=vn I.bz e;refine call_meetsIn EW dd.typeIs PySem.F.entry_dict_get (PySem.F.args_dict_get_3 _ _ _) (meetsH_dict_get_default (tupleKind (iC X.prog X.w)) a b hd r) ⟨aG hu,k,xs,xa I.bz eb,dd,h _ _ (I.tok _) ?_⟩;rw[l];exact(rel.val k).getD rd
end
def zo(td ty tx:TE):TE:=λσ H Q=>td σ H λx H1=>∃a,x=.ref a∧Nz H1 a∧ty σ H1 λy H2=>tx σ H2 λz H3=>∃o,gH H3 a y o∧Q (o.getD z) H3
section
variable{X:Cx}{o e f:Expr}{jJ iE:Pos}{td ty tx:TE}
theorem vp(hu:X.A.units+1<cLine)(ho:PE X o td)(he:PE X e ty)(hf:PE X f tx)(m:M2 X o "get" jJ e f iE):PE X (.Call (.Attribute o "get" jJ) [e,f] [] iE) (zo td ty tx):=by
 intro aL s σ H Q I h;refine wpAny_Call_method m.base m.iP m.line PySem.F.plainAttrs_dict EW PySem.F.type_dict_get (bh (ho aL s σ H _ I h) λu s1 ⟨x,H1,I1,rx,a,ex,d,q1⟩=>?_);subst ex;obtain rfl:u=Value.ref a:=rx;obtain⟨t1,t2,_⟩:=Yg I1 d;refine⟨t1,t2,?_⟩;rw[m.trees];refine Calls.callWith_builtin rfl (Calls.evalArgs_plain (Calls.spliced_cons (bh (he aL s1 σ H1 _ I1 q1) λiv s2 ⟨y,H2,I2,ry,q2⟩=>
  Calls.spliced_cons (bh (hf aL s2 σ H2 _ I2 q2) λfv s3 ⟨z,H3,I3,rz,ov,g,q3⟩=>Calls.spliced_nil ?_))))
 exact Yh hu I3 g ry rz λw' s4 I4 rw'=>⟨_,H3,I4,rw',q3⟩
end
section
variable{X:Cx}{aL:List (Addr×Obj)}{σ:St}{H:Hp}{s:Shared}{a:Addr}{aM:List (Key×V)}{A:Around}{E:QV}
theorem Yi(I:Inv X aL σ H s)(e:Rd H a (.dK aM))(h:∀p s',H p=none→Inv X aL σ (upd H p (.dK aM)) s'→Q (.ref p) s'):wpAny (model X.prog X.w) A (call (.type "dict") [.ref a]) Q E s:=by
 obtain⟨z,hd,vs,rel,dd⟩:=rG I.bz e;refine kt_call_dict hd dd (by rw[← rel.length];exact z) λh' rH hs=>?_;refine h _ _ (I.bz.fresh (ck _)) (I.laid (a:=s.heap.objs.size) (o:=.dK aM) (t':=s.toks) (λb q hq=>?_) (ck _) (Ce z (beq_eq_false_iff_ne.mpr (Ne.symm (fu I.big))) rel rH));exact(hs.2 b (fu (dB hq))).trans (dj _ hq)
end
section
variable{X:Cx}{aL:List (Addr×Obj)}{σ:St}{H:Hp}{s:Shared}{a:Addr}{y:V}{u:Value}{A:Around}{E:QV}
end
end L2
namespace HT
open PySem PySem.Spec PyProof.Rows
variable{prog:Program}{w:World}{A:Around}{E:QV}{s:Shared}
theorem Yj{t sl:Addr}{items:Array Value}{vl vu:Value}{lo hi:Option Int}{Q:QV}(ht:IsTup s.heap t items)(hs:s.heap.IsSliceOf sl vl vu .none)(pl:IsPart vl lo)(pu:IsPart vu hi)
  (h0:cK items.size 0 lo=0) (h1:cK items.size items.size hi=items.size) (h:Q (.ref t) s):wpAny (model prog w) A (getItem (.ref t) (.ref sl)) Q E s:=by
 obtain⟨os,ve,wB,yR⟩:=id hs;have Fs:s.TypeIs (.ref sl) "slice":=⟨os,ve,wB⟩;unfold getItem
 try with_reducible refine ao ?_
 first|refine ak (aq ?_)|skip
 refine ak (wpAny_sequenceKey ht.typeIs (by decide) ?_);refine ak (ay (name:=Str.ofString "__getitem__") ht.typeIs Bg (az Bg ht.typeIs entry_tuple_getitem ?_ (args_tuple_getitem _ _)));show wpAny _ _ (Builtin.Tuple.tupleItemsOf (.ref t) >>= _) _ _ s;refine ak (tupleItemsOf_ ht ?_);refine ak (wpAny_typeOf Fs ?_);rw[af (by decide)];refine ak (LO hs pl pu ?_);have Yk:(((cK items.size 0 lo:Nat):Int)==0&&(1:Int)==1&&(cK items.size items.size hi-cK items.size 0 lo)==items.size)=true:=by
  rw[h0,h1];simp
 show wpAny _ _ (if(((cK items.size 0 lo:Nat):Int)==0&&(1:Int)==1&&(cK items.size items.size hi-cK items.size 0 lo)==items.size)=true then _ else _) _ _ s
 rw[af Yk];unfold Builtin.Tuple.tupleIsExact;refine ak (ak (wpAny_typeOf ht.typeIs (aq ?_)));rw[af (by decide)];first
  |exact ak (aq (aq ⟨_,rfl,aq h⟩))
  |exact ak (m:=rule _) (aq ⟨_,rfl,aq h⟩)
  |exact aq ⟨_,rfl,aq h⟩
  |exact ak (wpAny_rule (aq ⟨_,rfl,aq h⟩))
  |exact ak (wpAny_rule (ak (aq (aq ⟨_,rfl,aq h⟩))))
end HT
namespace L2
open PySem PySem.Spec PyProof.Rows
variable{H H':Hp}{Q:QV}{X:Cx}{a c f:Addr}{fd:FuncData}{h:Heap}{i:Int}{n:Nat}{ps:List Str}{qual x:Str}{s:Shared}{st:Stmt}
def lJ(K:Frag):V→Option Int→Option Int→Hp→VK→Prop:=λx lo hi H Q=>∃a xs,x=.ref a∧bj K H a xs∧oD K H (jW xs lo hi) Q
theorem Yl:wC X (lJ X.K):=by
 intro aL s σ H x v vl vu lo hi sl Q I rx hs pl pu h;obtain⟨a,xs,rfl,hx,q⟩:=h;by_cases hw:HT.cK xs.length 0 lo=0∧HT.cK xs.length xs.length hi=xs.length
 ·cases rx;obtain⟨its,r,ht,hz⟩:=I.tuple hx;have cD:its.toArray.size=xs.length:=by rw[eE];exact r.length.symm
  refine⟨"tuple",_,Bg.lookup,ht.typeIs,?_⟩;refine HT.Yj ht hs pl pu (by rw[cD];exact hw.1) (by rw[cD];exact hw.2) ?_;refine⟨.ref a,H,I,rfl,q.old ?_⟩;unfold jW;rw[hw.1,hw.2,List.drop_zero,Nat.sub_zero,lZ];exact hx
 ·exact Vk aL s σ H _ v vl vu lo hi sl Q I rx hs pl pu ⟨a,xs,rfl,hx,hw,λp hp=>q.new hp⟩
theorem ko(K:Frag)(hK:X.K=K):wC X (lJ K):=hK▸Yl
section
variable{X:Cx}
theorem Ym(hc:X.calm=true):gY X (.builtin "any") (λxs H Q=>∃p ns,xs=[.ref p]∧bj X.K H p (List.map V.int ns)∧Q (.bl (ns.any λn=>n != 0)) H):=by
 intro aL s σ H vs us Q I r h;obtain⟨p,ns,rfl,hq,q⟩:=h;obtain⟨u,rfl,ru⟩:=vals1 r;cases ru;obtain⟨its,rv,ht,hz⟩:=I.tuple hq;have cB:p<s.heap.objs.size:=ht.lt;have cD:its.length=ns.length:=by have:=rv.length;rw[bO]at this;exact this.symm
 apply call_any_walk;apply wpAny_pyIter_tuple ht;refine⟨s.heap.objs.size,[s.heap.objs.size,p],[s.heap.objs.size],its.toArray.size,_,_,λi=>((ns.map λn=>n != 0)[i]?).getD false,rfl,Walks.tuple (A:=X.A.in1) (I.ok.hd hc) _ p (fu cB) its.toArray,⟨⟨_,gJ _ rfl,rfl,rfl⟩,ht.push _⟩,λi v s1 Q1 E1 hP hQ=>?_,λh1 XE hk=>?_⟩
 ·have hP:its[i]?=some v:=by simpa using hP
  have hi:i<ns.length:=by rw[← cD];exact(dH.mp hP).1
  have hx:(ns.map V.int)[i]?=some (.int ns[i]):=by simp[hi]
  obtain⟨u,hu,ru⟩:=rv.get hx;rw[hP]at hu;cases hu;obtain⟨t,rfl⟩:=ru;dsimp only at hQ;rw[show(ns.map λn=>n != 0)[i]?=some (ns[i] != 0) by simp[hi],Option.getD_some]at hQ;exact truthy_int hQ
 ·have e:((List.range its.toArray.size).any λi=>((ns.map λn=>n != 0)[i]?).getD false)=ns.any λn=>n != 0:=by
   have e2:=XC (ns.map λn=>n != 0);rw[bO]at e2;rw[eE,cD,e2,List.any_map];rfl
  rw[e];refine⟨.bl _,H,I.kept (λb x e=>hk b x (λhm=>by rw[cJ.mp hm]at e;exact qO _ (dB e)) (dj _ e)),rfl,q⟩
theorem Yn(K:Frag)(hK:X.K=K)(hc:X.calm=true):gY X (.builtin "any") (λxs H Q=>∃p ns,xs=[.ref p]∧bj K H p (List.map V.int ns)∧Q (.bl (ns.any λn=>n != 0)) H):=hK▸Ym hc
end
section
variable{K:Frag}{H1:Hp}{cp:St}{tt:TT}{te:TE}{Q:VK}{xs ys:List V}{l1 l2:Addr}{b1 b2:Bool}
end
def j5(H:Hp)(Pt:Addr)(pos:Pos)(qual:Str):Prop:=
 H Pt=some (.iu #[])∨∃c',H Pt=some (.iu #[rawInt pos.line,rawInt pos.col,.ref c'])∧H c'=some (.ext λh=>h.CodeRec (.ref c') qual)
def cZ(Pt:Addr)(H H':Hp):Prop:=∀b o,H b=some o→b≠Pt→H' b=some o
def NA(H:Hp)(f:Addr)(qual:Str)(params:Arguments)(body:Expr)(scope:Scope)(cl:List (Str×Addr)):Prop:=
 ∃c',H f=some (.ext λh=>∃pm iz,h.get? f=some (PySem.W.kla_obj "<lambda>" qual params body scope cl pm c' iz))∧H c'=some (.ext λh=>h.CodeRec (.ref c') qual)
theorem Yo{P:Program}{w:World}(x:h.CodeRec (.ref c) qual):gv P w H h c (.ext λh=>h.CodeRec (.ref c) qual):=by
 refine⟨x,?_,λh1 h2 z k=>?_⟩
 ·obtain⟨c2,oc,vs,t,e,ho,_⟩:=x;cases e;exact⟨oc,ho⟩
 ·obtain⟨c2,oc,vs,t,e,ho,r⟩:=z;cases e;exact⟨c,oc,vs,t,rfl,k _ ho,r⟩
theorem NB{P:Program}{w:World}{params:Arguments}{body:Expr}{scope:Scope}{cl:List (Str×Addr)}{pm iz:Value}(x:h.get? f=some (PySem.W.kla_obj "<lambda>" qual params body scope cl pm c iz)) :
  gv P w H h f (.ext λh=>∃pm iz,h.get? f=some (PySem.W.kla_obj "<lambda>" qual params body scope cl pm c iz)):=
 ⟨⟨pm,iz,x⟩,⟨_,x⟩,λh1 h2 ⟨pm,iz,z⟩ k=>⟨pm,iz,k _ z⟩⟩
def tM(mg:Str→Option Value)(h:Heap):Prop:=∃bm ob,mg "__builtins__"=some (.ref bm)∧bm≠builtinsNs∧h.get? bm=some ob∧ob.cls=.type "module"∧ob.dict=some builtinsNs∧ob.data=.plain
section
variable{X:Cx}
def Yp(Pt:Addr)(pos:Pos)(qual:Str)(params:Arguments)(body:Expr)(scope:Scope)(cl:List (Str×Addr)):TE:=λ_ H Q=>j5 H Pt pos qual∧
 ∀f H',H f=none→cZ Pt H H'→j5 H' Pt pos qual→NA H' f qual params body scope cl→Q (.ref f) H'
theorem Yq{params:Arguments}{body:Expr}{scope:Scope}{pos:Pos}{Pt:Addr}{cl:List (Str×Addr)}(NC:X.env.code=.ref c)(C:CodeHd X.base c Pt)(B:tM X.mg X.base)(zp:closureFor scope X.env=pure cl)(Yr:defaultsOf params X.env=([],[]):=by rfl) :
  PE X (.Lambda params body scope pos) (Yp Pt pos (X.env.qual ++ "<lambda>") params body scope cl):=by
 intro aL s σ H Q I h;obtain⟨hT,h⟩:=h;generalize hq:X.env.qual ++ "<lambda>"=qual at hT h;refine PySem.W.kla_eval Yr ?_;rw[hq];have hg:s.heap.Ns mainGlobals X.mg:=I.mod.glob.keeps I.bk;have Cs:=C.keeps I.bk;obtain⟨bm,ob,b1,b2,b3,b4,b5,b6⟩:=B;have ND:bm≠mainGlobals:=λq=>by
  obtain⟨o,es,ep,e,hd,_⟩:=I.mod.glob;rw[q,e]at b3;cases b3;rw[hd]at b6;cases b6
 have Ys:∃ps,H Pt=some (.iu ps):=hT.elim (λz=>⟨_,z⟩) λ⟨_,z,_⟩=>⟨_,z⟩;obtain⟨Yt,zq⟩:=Ys;have zr:s.heap.get? Pt=some (PySem.W.tabObj Yt):=I.bz Pt _ zq;have Yu:mainGlobals≠Pt:=λq=>by
  obtain⟨o,es,ep,e,hd,_⟩:=hg;rw[q,zr]at e;cases e;cases hd
 have NF:bm≠Pt:=λq=>by
  have e:=I.bk _ _ b3;rw[q,zr]at e;cases e;cases b4
 have NG:Pt<s.heap.objs.size:=dB zr;rcases hT with hT|⟨c',hT,hc⟩
 ·rw[hT]at zq;cases zq;refine PySem.W.kla_makeFunction (mg:=X.mg) zp I.ok.glob hg NC Cs zr trivial rfl Yu ⟨bm,ob,b1,b2,ND,NF,I.bk _ _ b3,b4,b5,b6⟩ λc' iz h' tk hx xf cB Yv Yw=>?_;have hsz:s.heap.objs.size≤h'.objs.size:=eS xf (Nat.le_of_lt cB);have hn:∀a,s.heap.objs.size≤a→H a=none:=λa ha=>I.bz.fresh ha;have Yx:Pt≠c':=fu (js NG xf);have NH:Pt≠h'.objs.size:=fu (js NG hsz);have xg:c'≠h'.objs.size:=fu cB;have hk:∀b o,b≠Pt→s.heap.get? b=some o→(h'.push (PySem.W.kla_obj "<lambda>" qual params body scope cl ((X.mg "__name__").getD .none) c' iz)).get? b=some o:=λb o hb e=>dj _ (hx b o hb e);have hf:(h'.push (PySem.W.kla_obj "<lambda>" qual params body scope cl ((X.mg "__name__").getD .none) c' iz)).get? h'.objs.size=some (PySem.W.kla_obj "<lambda>" qual params body scope cl ((X.mg "__name__").getD .none) c' iz):=gJ _ rfl;have NI:(h'.push (PySem.W.kla_obj "<lambda>" qual params body scope cl ((X.mg "__name__").getD .none) c' iz)).CodeRec (.ref c') qual:=by
   obtain⟨c2,oc,vs,t,e,ho,r⟩:=Yv;exact⟨c2,oc,vs,t,e,dj _ ho,r⟩
  have Hg:(h'.push (PySem.W.kla_obj "<lambda>" qual params body scope cl ((X.mg "__name__").getD .none) c' iz)).get? Pt=some (PySem.W.tabObj (#[]++#[rawInt pos.line,rawInt pos.col,.ref c'])):=dj _ Yw;generalize h'.push (PySem.W.kla_obj "<lambda>" qual params body scope cl ((X.mg "__name__").getD .none) c' iz)=hh at hk hf NI Hg ⊢;generalize h'.objs.size=f at hsz NH xg hf ⊢;have Hh:=hn f hsz;have Yy:=hn c' xf
  let H':Hp:=upd (upd (upd H Pt (.iu (#[]++#[rawInt pos.line,rawInt pos.col,.ref c']))) c' (.ext λh=>h.CodeRec (.ref c') qual)) f (.ext λh=>∃pm iz,h.get? f=some (PySem.W.kla_obj "<lambda>" qual params body scope cl pm c' iz))
  have e1:∀b,b≠f→b≠c'→b≠Pt→H' b=H b:=λb x1 x2 x3=>by
   show upd (upd (upd H Pt _) c' _) f _ b=_;rw[bU x1,bU x2,bU x3]
  have e2:H' Pt=some (.iu (#[]++#[rawInt pos.line,rawInt pos.col,.ref c'])):=by
   show upd (upd (upd H Pt _) c' _) f _ Pt=_;rw[bU NH,bU Yx,bg]
  have e3:H' c'=some (.ext λh=>h.CodeRec (.ref c') qual):=by
   show upd (upd (upd H Pt _) c' _) f _ c'=_;rw[bU xg,bg]
  have e4:H' f=some (.ext λh=>∃pm iz,h.get? f=some (PySem.W.kla_obj "<lambda>" qual params body scope cl pm c' iz)):=bg;have e5:∀b o,H b=some o→b≠Pt→H' b=some o:=λb o q hb=>by
   rw[e1 b (fg q Hh) (fg q Yy) hb];exact q
  have Cj:∀b o,H b=some o→(∀ps,o≠.iu ps)→b≠Pt:=λb o q ht z=>by
   rw[z,hT]at q;exact ht _ (dZ q).symm
  refine⟨.ref f,H',I.un (t':=tk) ⟨λb o e n _ _=>hk b o (λz=>by rw[z,hT]at n;cases n) e,λb o e n _ _=>⟨o.slots,hk b o (λz=>by rw[z,hT]at n;cases n) e⟩,λb o e n _=>?_,λb o e _=>?_,λb xs q=>e5 b _ q (Cj b _ q λ_ z=>nomatch z),λb o u q=>e5 b _ q (Cj b _ q λ_ z=>nomatch z),λb ps q=>?_⟩ λa o e=>?_,rfl,h f H' Hh e5 (.inr ⟨c',by rw[e2];rfl,e3⟩) ⟨c',e4,e3⟩⟩
  ·have hb:=dB e;rw[e1 b (fu (js hb hsz)) (fu (js hb xf)) (λz=>by rw[z,hT]at n;cases n)];exact n
  ·by_cases hb:b=Pt
   ·rw[hb];exact⟨_,Hg⟩
   ·exact⟨o,hk b o hb e⟩
  ·by_cases hb:b=Pt
   ·subst hb;rw[hT]at q;cases q;exact⟨_,e2⟩
   ·exact⟨#[],by rw[e5 b _ q hb];simp⟩
  ·by_cases gT:a=f
   ·subst gT;rw[e4]at e;cases e;exact NB hf
   by_cases i5:a=c'
   ·subst i5;rw[e3]at e;cases e;exact Yo NI
   by_cases wM:a=Pt
   ·subst wM;rw[e2]at e;cases e;exact Hg
   ·rw[e1 a gT i5 wM]at e;refine(I.bz a o e).pZ (λb u hb q=>hk b u (λz=>?_) q) (λb q=>e5 b _ q (Cj b _ q λ_ z=>nomatch z)) λb xs q=>e5 b _ q (Cj b _ q λ_ z=>nomatch z);rcases hb with hb|hb
    ·exact wM (hb▸z)
    ·rw[z,hT]at hb;cases hb
 ·rw[hT]at zq;cases zq;refine PySem.W.kla_makeFunctionHit (cv:=.ref c') (mg:=X.mg) zp I.ok.glob hg NC Cs zr (by simp[TriplesOk,rawInt]) (by simp[codeAmong,rawInt]) ⟨bm,ob,b1,b2,ND,NF,I.bk _ _ b3,b4,b5,b6⟩ λiz h' tk hk hsz=>?_;have hn:H h'.objs.size=none:=I.bz.fresh hsz;refine⟨.ref h'.objs.size,_,I.laid (t':=tk) (o:=.ext λh=>∃pm iz,h.get? h'.objs.size=some (PySem.W.kla_obj "<lambda>" qual params body scope cl pm c' iz)) (λb u e=>dj _ (hk b u e)) hsz (NB (gJ _ rfl)),rfl,?_⟩;have e5:∀b o,H b=some o→(upd H h'.objs.size (.ext λh=>∃pm iz,h.get? h'.objs.size=some (PySem.W.kla_obj "<lambda>" qual params body scope cl pm c' iz))) b=some o:=λb o q=>by rw[bU (fg q hn)];exact q
  exact h _ _ hn (λb o q _=>e5 b o q) (.inr ⟨c',e5 _ _ hT,e5 _ _ hc⟩) ⟨c',bg,e5 _ _ hc⟩
end
structure vq(P:Program)(w:World)(K:Frag)(mg:Str→Option Value)(base:Heap)(k:Nat)(f:Addr)(fd:FuncData)(ps:List Str)(sp:Shared→Sp):Prop where
 len:∀s vs H Q E,sp s vs H Q E→vs.length=ps.length
 run:∀(A:Around)(outer:List Env)(s:Shared)(H:Hp)(args:Args)(us:List Value)(vs:List V)(Q:VK)(E:XK),eW k A→wA P w K mg base A outer s H→BindsTo s fd args (ps.zip us)→Vals vs us→sp s vs H Q E→
  codeAny (model P w) A (.call (.ref f) args) (CR cb outer P w H s Q E) s
section
variable{P:Program}{w:World}{K:Frag}{mg:Str→Option Value}{base:Heap}
theorem cO.NJ{N:List Str}{k:Nat}{sp:Shared→Sp}(F:cO K x qual st f fd)(S:dU N ps (cg st))(len:∀s vs H Q E,sp s vs H Q E→vs.length=ps.length)
  (pf:∀(cq:Value)(A:Around)(outer:List Env)(s:Shared)(H:Hp)(vs:List V)(Q:VK)(E:XK),eW k (A.deeper (envOfC qual (cg st) s.heap.objs.size f cq))→sp s vs H Q E→
   ∃t,kg (nq cb P w K mg base N qual (cg st) f cq A outer s H E).l5 (md st) t∧t { nx:=λ_ H'=>Q .da H',rt:=Q } (start N vs) H):vq P w K mg base (k+1) f fd ps sp:=by
 obtain⟨oc,od,kV,doc,pm,an,cq,ct,ot,rfl,lk,i6⟩:=F.ex;refine⟨len,λA outer s H args us vs Q E hr e0 hb r jv=>?_⟩;have hl:=len _ _ _ _ _ jv;have KX:K.In s.heap:=e0.mod.uN.keeps λb o e=>(e0.bs b o e).1;have lim:s.heap.NoLimit:=e0.mod.nolimit.keeps λb o e=>(e0.bs b o e).1;have yQ:∀y∈ps.zip us,(cg st).names.lookup y.1=some .local∨((cg st).names.lookup y.1=some .cell∧((cellsFrom (s.heap.objs.size+1) (cg st).names []).lookup y.1).isSome=true):=λ⟨n,v⟩ hy=>by
  rcases S.par n (v9 hy).1 with q|q
  ·exact .inl q
  ·exact .inr ⟨q,EV _ _ _ (.inl q)⟩
 refine codeAny_call_function hr.depth (KX _ _ lk) rfl S.co S.gen rfl (PySem.W.codeRec_of KX i6) (hb _ _ _ _ ?_);refine ax S.kind yQ λenv he s1 x=>?_;subst he;refine⟨lim.keeps x.toInCall.keep,codeAny_func ?_⟩;obtain⟨t,ht,hq⟩:=pf cq A outer s H vs Q E (hr.deeper _) jv;have I:Inv (nq cb P w K mg base N qual (cg st) f cq A outer s H E) [] (start N vs) H s1:=Fq S hr.hd e0 hl r x;refine ah (ht.l5 [] s1 (start N vs) H _ I hq) (λfl s' hs=>?_) λe s' hs=>hs;have fin:∀{σ':St}{H':Hp}{v:V}{u:Value},Inv (nq cb P w K mg base N qual (cg st) f cq A outer s H E) [] σ' H' s'→RelV v u→Q v H'→CE outer P w H s Q u s':=
  λ{σ' H' v u} J rv q=>⟨v,H',J.os,J.bare,J.base,J.bz,rv,q⟩
 cases fl with
 |ret u=>
  obtain⟨v,σ',H',J,rv,q⟩:=hs;exact fin J rv q
 |next=>
  obtain⟨σ',H',J,q⟩:=hs;exact fin (v:=V.da) (u:=Value.none) J rfl q
 |brk=>
  obtain⟨_,_,_,q⟩:=hs;exact False.elim q
 |cont=>
  obtain⟨_,_,_,q⟩:=hs;exact False.elim q
end
section
variable{X:Cx}{k:Nat}{f:Addr}{fd:FuncData}{ps:List Str}{x:Str}{p pos:Pos}{e:Expr}{es:List Expr}{t:TA}{te:TE}
theorem Hi{sp:Shared→Sp}(F:vq X.prog X.w X.K X.mg X.base k f fd ps sp)(hr:eW k X.A)(hg:Gl X x)(hm:X.mg x=some (.ref f))(hk:Kp X.K f)(hb:Binds X.K fd ps [])
  (ha:PA X (e::es) t) (u9:(x==("__debug__":Str))=false:=by decide) (he:starEach (e::es) X.env=(false,eval e X.env)::starEach es X.env:=by rfl) (qe:(backTo pos (starEach es X.env)).any (·.1)=false:=by rfl) :
  PE X (.Call (.Name x p) (e::es) [] pos) (λσ H Q=>t σ H λvs H1=>∀aL s,Inv X aL σ H1 s→sp s vs H1 Q E0):=by
 intro aL s σ H Q I h;refine av (E4 I hg hm ?_ u9);refine PySem.W.callWith_K (h₀:=X.base) I.ok.mod.uN hk (bh (ha pos aL s σ H _ I h) λus s1 ⟨vs,H1,I1,r,q⟩=>⟨I1.ij,?_⟩) he qe;have hs:=q aL s1 I1;have hl:us.length=ps.length:=by rw[← r.length];exact F.len _ _ _ _ _ hs
 have vt:=hb s1 us I1.ij (by rw[hJ];exact hl);rw[hJ]at vt;refine wpAny_call (codeAny_mono (F.run X.A X.stack s1 H1 ⟨us,[]⟩ us vs Q E0 hr I1.Fo vt r hs) λr s' hq=>?_);cases r with
 |error e=>exact False.elim hq
 |ok fl=>
  cases fl with
  |ret u=>exact I1.after hq
  |next=>exact False.elim hq
  |brk=>exact False.elim hq
  |cont=>exact False.elim hq
end
noncomputable def Hj(P:Program)(w:World)(K:Frag)(mg:Str→Option Value)(base:Heap)(N:List Str)(qual:Str)(scope:Scope)(f c:Addr)(cl:List (Str×Addr))(A:Around)(outer:List Env)(s:Shared)(H:Hp):Cx where
 prog:=P
 w:=w
 K:=K
 mg:=mg
 base:=base
 A:=A.deeper (PySem.W.envX qual scope s.heap.objs.size f (.ref c) cl)
 N:=N
 s₀:=s
 H₀:=H
 env:=PySem.W.envX qual scope s.heap.objs.size f (.ref c) cl
 outer:=outer
 stack:=PySem.W.envX qual scope s.heap.objs.size f (.ref c) cl::outer
 ex:=[]
 calm:=true
 fn:=λ_=>false
 pn:=[]
 xe:=λe s'=>wpAny (model P w) (A.deeper (PySem.W.envX qual scope s.heap.objs.size f (.ref c) cl)) (leaving (PySem.W.envX qual scope s.heap.objs.size f (.ref c) cl) e) (λ_ _=>False) (λ_ _=>False) s'
section
variable{P:Program}{w:World}{K:Frag}{mg:Str→Option Value}{base:Heap}
end
section
variable{P:Program}{w:World}{K:Frag}{mg:Str→Option Value}{base:Heap}
theorem cO.Yz{N:List Str}{k:Nat}{sp:Sp}(F:cO K x qual st f fd)(S:dU N ps (cg st))(len:∀vs H Q E,sp vs H Q E→vs.length=ps.length)
  (pf:∀(cq:Value)(A:Around)(outer:List Env)(s:Shared)(H:Hp)(vs:List V)(Q:VK)(E:XK),fd.code=cq→eW k (A.deeper (envOfC qual (cg st) s.heap.objs.size f cq))→sp vs H Q E→
   ∃t,kg (nq cb P w K mg base N qual (cg st) f cq A outer s H E).l5 (md st) t∧t { nx:=λ_ H'=>Q .da H',rt:=Q } (start N vs) H):cj P w K mg base cb (k+1) f fd ps sp:=by
 obtain⟨oc,od,kV,doc,pm,an,cq,ct,ot,rfl,lk,i6⟩:=F.ex;refine LJ lk i6 S len λA outer s H vs Q E hr jv=>?_;obtain⟨t,h,q⟩:=pf cq A outer s H vs Q E rfl hr jv;exact⟨t,h.l5,q⟩
theorem YA{Pt:Addr}{oc:Value}{od:Option Addr}{sl:Array (Option Value)}(a:nsIn K mainGlobals x=some (some (.ref f)))(l:K.lookup f=some ⟨oc,od,.func fd,sl⟩)(t:tabIn K x=some (c,Pt)):fd.code=.ref c:=by
 unfold tabIn at t;rw[a]at t;simp only[l]at t;split at t
 ·rename_i c2 hc
  split at t
  ·split at t
   ·cases t;exact hc
   ·cases t
  ·cases t
 ·cases t
theorem YB{tabs:List (Addr×Addr)}{mb:Str→Option Value}{k:Nat}{fa:Addr}{sp:Sp}{s₁:Shared}{vs:List Value}{ns:List Int}
  (KX:K.In s₁.heap) (noT:PySem.W.noTabs K=true) (hT:PySem.W.TabsAt tabs s₁.heap) (Ck:s₁.heap.Ns mainGlobals mg) (hb:s₁.heap.Ns builtinsNs mb) (vt:∀x:Str,x ≠ "__name__"→mb x=bootBuiltins x) (YC:tM mg s₁.heap) (YD:s₁.heap.NoLimit) (hg:s₁.gens=#[])
  (ha:s₁.heap.get? a=some { cls:=.type "list",data:=.seq vs.toArray }) (hi:IntsAre vs ns) (hl:ns.length≤sizeLine) (hr:eW k callerA)
  (F:∀base:Heap,K.In base→base.Ns mainGlobals mg→tM mg base→(∀q∈tabs,CodeHd base q.1 q.2)→cj P w K mg base cb k fa fd [x] sp) (Hk:∀(s:Shared)(u:Value),BindsTo s fd ⟨[u],[]⟩ [(x,u)])
  (jv:∀H:Hp,dP K H a (ns.map V.int)→(∀q∈tabs,H q.2=some (.iu #[]))→sp [.ref a] H (λv _=>v=.bl true) λ_ _ _=>False) :
  codeAny (model P w) callerA (.call (.ref fa) ⟨[.ref a],[]⟩) (λr s'=>r=.ok (.ret (.bool true))∧OldK s₁.heap s'.heap∧s'.os=s₁.os∧AllBare s'.gens) s₁:=by
 have rv:=L3 hi;have YE:=hi.length;have YF:∀q∈tabs,K.lookup q.2=none:=λq hq=>by
  cases e:K.lookup q.2 with
  |none=>rfl
  |some o=>
   have e1:=KX _ _ e;rw[(hT q hq).2]at e1;cases e1;have h2:=pU.mp noT (q.2,PySem.W.tabObj #[]) (PySem.W.mem_of_lookupK e);exact(i4 (show false=true from h2)).elim
 have aT:∀q∈tabs,q.2≠a:=λq hq z=>by
  have e:=(hT q hq).2;rw[z,ha]at e;cases e
 have core:∀H:Hp,dP K H a (ns.map V.int)→gy P w H s₁.heap→(∀q∈tabs,H q.2=some (.iu #[]))→(∀b u,H b=some u→(b=a∧K.lookup a=none∧∃o xs,u=.dC o (.lst xs))∨(∃q∈tabs,b=q.2))→
   codeAny (model P w) callerA (.call (.ref fa) ⟨[.ref a],[]⟩) (λr s'=>r=.ok (.ret (.bool true))∧OldK s₁.heap s'.heap∧s'.os=s₁.os∧AllBare s'.gens) s₁:=by
  intro H hS bz xh hA;have Cm:∀{b:Addr}{o:Obj},s₁.heap.get? b=some o→H b=none→(o8 s₁.heap H).get? b=some o:=λe n=>Um e n;have Hl:∀{b:Addr}{o:Obj},s₁.heap.get? b=some o→o≠{ cls:=.type "list",data:=.seq vs.toArray }→o≠PySem.W.tabObj #[]→H b=none:=λ{b o} e n1 n2=>by
   cases q:H b with
   |none=>rfl
   |some u=>
    rcases hA b u q with⟨rfl,_⟩|⟨r,hr,rfl⟩
    ·rw[ha]at e;cases e;exact absurd rfl n1
    ·rw[(hT r hr).2]at e;cases e;exact absurd rfl n2
  have Cn:∀{b:Addr}{m:Str→Option Value},s₁.heap.Ns b m→(o8 s₁.heap H).Ns b m:=λ{b m} ⟨o,es,ep,e,d,r⟩=>⟨o,es,ep,Cm e (Hl e (λz=>by rw[z]at d;cases d) (λz=>by rw[z]at d;cases d)),d,r⟩;have NK:K.In (o8 s₁.heap H):=λb o e=>Cm (KX b o e) (by
   cases q:H b with
   |none=>rfl
   |some u=>
    rcases hA b u q with⟨rfl,hn,_⟩|⟨r,hr,rfl⟩
    ·rw[hn]at e;cases e
    ·rw[YF r hr]at e;cases e)
  have hM:Mod K mg (o8 s₁.heap H):=⟨NK,Cn Ck,⟨mb,Cn hb,vt⟩,let ⟨mc,h1,h2⟩:=YD;⟨mc,Cn h1,h2⟩⟩;have YG:tM mg (o8 s₁.heap H):=by
   obtain⟨bm,ob,b1,b2,b3,b4,b5,b6⟩:=YC;exact⟨bm,ob,b1,b2,Cm b3 (Hl b3 (λz=>by rw[z]at b4;exact absurd (Value.type.inj b4) (by decide)) (λz=>by rw[z]at b4;cases b4)),b4,b5,b6⟩
  have YH:∀q∈tabs,CodeHd (o8 s₁.heap H) q.1 q.2:=λq hq=>by
   obtain⟨o,YI,file,tf,YJ,tg,YK,text,tt,e1,e2,r⟩:=(hT q hq).1;exact⟨o,YI,file,tf,YJ,tg,YK,text,tt,Cm e1 (Hl e1 (λz=>by rw[z]at e2;exact absurd (Value.type.inj e2) (by decide)) (λz=>by rw[z]at e2;cases e2)),e2,r⟩
  have e0:wA P w K mg (o8 s₁.heap H) callerA [] s₁ H:=⟨rfl,hM,λb o e=>Uo e,Nat.le_of_eq (Ul _ _),trivial,λb hb=>absurd (show b∈([]:List Addr) from hb) (by simp),bz,.of_eq hg⟩
  refine codeAny_mono ((F _ NK (Cn Ck) YG YH).run callerA [] s₁ H ⟨[.ref a],[]⟩ [.ref a] [.ref a] _ _ hr e0 (Hk s₁ (.ref a)) (.cons rfl .nil) (jv H hS xh)) λr s' h=>?_;cases r with
  |error e=>exact False.elim h
  |ok fl=>
   cases fl with
   |next=>exact False.elim h
   |brk=>exact False.elim h
   |cont=>exact False.elim h
   |ret u=>
    obtain⟨v,H',os,bare,un,NL,r',q⟩:=h;have q':v=.bl true:=q;subst q';obtain rfl:u=Value.bool true:=r';have keep:∀b o,s₁.heap.get? b=some o→s'.heap.get? b=some o∨∃q∈tabs,b=q.2∧o=PySem.W.tabObj #[]∧∃ps,s'.heap.get? b=some (PySem.W.tabObj ps):=λb o e=>by
     cases q:H b with
     |none=>exact .inl (un.keep b o e q (by intro z;exact absurd (show b∈([]:List Addr) from z) (by simp)) (by simp))
     |some u=>
      rcases hA b u q with⟨rfl,_,ob,xs,rfl⟩|⟨r,hr,rfl⟩
      ·have z2:=un.oh _ ob _ q;obtain⟨e1,_⟩:=bz _ _ q;obtain⟨e2,_⟩:=NL _ _ z2;rw[e]at e1;cases e1;exact .inl e2
      ·obtain⟨ig,hm⟩:=un.o7 _ _ (xh r hr);have e2:=(hT r hr).2;rw[e]at e2;exact .inr ⟨r,hr,rfl,dZ e2,_,NL _ _ hm⟩
    refine⟨rfl,⟨λb o e=>?_,λb o e=>?_⟩,os,bare⟩
    ·rcases keep b o e with h|⟨q,hq,rfl,rfl,ps,hP⟩
     ·exact .inl h
     ·exact .inr (.inl ⟨((hT q hq).1.tab (hT q hq).2).isCodeTable,rfl,#[],ps,rfl,by rw[Array.empty_append];exact hP⟩)
    ·rcases keep b o e with h|⟨q,hq,rfl,rfl,ps,hP⟩
     ·exact⟨_,h⟩
     ·exact⟨_,hP⟩
 cases hk:K.lookup a with
 |some o=>
  have e:=KX a o hk;rw[ha]at e;cases e;refine core (λb=>if b∈tabs.map (·.2)then some (.iu #[])else none) (.inr ⟨_,vs.toArray,_,hk,rfl,rfl,rfl,by rw[eE,YE];exact hl,by simpa using rv⟩) (λb u z=>?_) (λq hq=>af (n8 hq)) λb u z=>?_
  ·by_cases nE:b∈tabs.map (·.2)
   ·have z':=(af nE).symm.trans z;cases z';obtain⟨q,hq,rfl⟩:=cY.mp nE;exact(hT q hq).2
   ·have z':=(ag nE).symm.trans z;cases z'
  ·by_cases nE:b∈tabs.map (·.2)
   ·obtain⟨q,hq,rfl⟩:=cY.mp nE;exact .inr ⟨q,hq,rfl⟩
   ·have z':=(ag nE).symm.trans z;cases z'
 |none=>
  have hif:∀b,b=a→(if b=a then some (HO.dC { cls:=.type "list",data:=.seq vs.toArray } (.lst (ns.map V.int)))else if b∈tabs.map (·.2)then some (.iu #[])else none)=some (HO.dC { cls:=.type "list",data:=.seq vs.toArray } (.lst (ns.map V.int))):=λb hb=>af hb
  refine core (λb=>if b=a then some (.dC { cls:=.type "list",data:=.seq vs.toArray } (.lst (ns.map V.int)))else if b∈tabs.map (·.2)then some (.iu #[])else none) (.inl (.inr ⟨{ cls:=.type "list",data:=.seq vs.toArray },af rfl⟩)) (λb u z=>?_) (λq hq=>(ag (aT q hq)).trans (af (n8 hq))) λb u z=>?_
  ·by_cases hb:b=a
   ·have z':=(af hb).symm.trans z;cases z';subst hb;exact⟨ha,by rw[bO];exact hl,vs,_,rv,ha⟩
   ·have z:=(ag hb).symm.trans z;by_cases nE:b∈tabs.map (·.2)
    ·have z':=(af nE).symm.trans z;cases z';obtain⟨q,hq,rfl⟩:=cY.mp nE;exact(hT q hq).2
    ·have z':=(ag nE).symm.trans z;cases z'
  ·by_cases hb:b=a
   ·have z':=(af hb).symm.trans z;cases z';exact .inl ⟨hb,hk,_,_,rfl⟩
   ·have z:=(ag hb).symm.trans z;by_cases nE:b∈tabs.map (·.2)
    ·obtain⟨q,hq,rfl⟩:=cY.mp nE;exact .inr ⟨q,hq,rfl⟩
    ·have z':=(ag nE).symm.trans z;cases z'
end
theorem YL{l:PySem.W.OpenLaw}{k:Nat}{q:Program}{wH:List Str}{XP:(Str→Option Value)→Heap→Prop}{YP:World→Heap→Prop}{d:DefRec}{K:Params→Frag}{sp:World→Sp}{tabs:World→List (Addr×Addr)}
  (hn:l.most=some n) (NM:n≤sizeLine) (yX:d.params.defaults=[]) (hr:eW k callerA)
  (hY:∀(w:World)(h:Heap),YP w h→(K w.params).In h) (noT:∀w:World,PySem.W.noTabs (K w.params)=true)
  (hT:∀(w:World){zt:ExcName→Option Value}{lo:List Str}{mg mb:Str→Option Value}{h:Heap},Top q lo zt mg mb h→(K w.params).In h→PySem.W.TabsAt (tabs w) h)
  (F:∀(w:World)(mg:Str→Option Value)(fa:Addr)(h:Heap),(K w.params).In h→h.Ns mainGlobals mg→mg d.name=some (.ref fa)→
   ∃fd:FuncData,(∀(s:Shared)(u:Value),BindsTo s fd ⟨[u],[]⟩ [(x,u)])∧
    ∀base:Heap,(K w.params).In base→base.Ns mainGlobals mg→tM mg base→(∀q∈tabs w,CodeHd base q.1 q.2)→cj l.prog w (K w.params) mg base cb k fa fd [x] (sp w))
  (jv:∀(w:World)(H:Hp)(a:Addr)(ns:List Int),ns.length≤n→dP (K w.params) H a (ns.map V.int)→(∀q∈tabs w,H q.2=some (.iu #[]))→sp w [.ref a] H (λv _=>v=.bl true) λ_ _ _=>False) :
  PySem.W.WalkO q wH XP YP l.row.toRowW d [] (λf vs=>PySem.call f vs):=by
 refine Att.VL hn yX λw s₀ s₁ mg mb fa o pm cd doc a vs ns G Y ho hd i6 hmg FG hints cD hg=>?_;have KX:=hY w _ Y;obtain⟨fd,hb,hF⟩:=F w mg fa _ KX G.T.g hmg;exact YB KX (noT w) (hT w G.T KX) G.T.g G.T.b G.T.builtins G.T.bmain G.T.nolimit hg FG hints (eS cD NM) hr hF hb λH hS xh=>jv w H a ns cD hS xh
noncomputable def oI(K:Frag)(x:Str):Addr×Addr:=(tabIn K x).getD (0,0)
theorem NO{K:Frag}(h:(tabIn K x).isSome=true):tabIn K x=some (oI K x):=by
 unfold oI;cases e:tabIn K x with
 |none=>rw[e]at h;cases h
 |some q=>rfl
theorem tabs_nil:PySem.W.TabsAt [] h:=λ_ hq=>(nomatch hq)
theorem tabs_cons{q:Program}{lo:List Str}{zt:ExcName→Option Value}{mg mb:Str→Option Value}{K:Frag}{d:DefRec}{l:List (Addr×Addr)}(T:Top q lo zt mg mb h)(X:K.In h)(hr:(recsOf q).find? (λe=>e.name==x)=some d)
  (hs:(tabIn K x).isSome=true) (hl:PySem.W.TabsAt l h):PySem.W.TabsAt (oI K x::l) h:=List.forall_mem_cons.mpr ⟨PySem.W.tab_of (c:=(oI K x).1) (P:=(oI K x).2) T X hr (NO hs),hl⟩
def kq(h:Heap)(a:Addr)(D:List (Str×V)):Prop:=KTD.TabOf (λ(v:V)(u:Value)=>RelV v u) h a D
noncomputable def NP:V→Value→Bool
 | .da,.none=>true
 | .bl b,.bool c=>b==c
 | .int i,.int j _=>i==j
 | .str x,.str y _=>x==y
 | .ref a,.ref b=>a==b
 |_,_=>false
theorem YM(v:V)(u:Value)(h:NP v u=true):RelV v u:=by
 cases v<;>cases u<;>first|exact Bool.noConfusion h|rfl|(have e:=beq_iff_eq.mp h;subst e;first|rfl|exact⟨_,rfl⟩)
noncomputable def YN:Value→V
 | .bool b=>.bl b
 | .int i _=>.int i
 | .str x _=>.str x
 | .ref a=>.ref a
 |_=>.da
noncomputable def qm(K:Frag)(a:Addr):List (Str×V):=match K.lookup a with
 |some ⟨_,_,.dict es _,_⟩=>es.toList.map λe=>((match e.key with | .str x _=>x|_ => ""),YN e.val)
 |_=>[]
noncomputable def Co(K:Frag)(a:Addr):Bool:=KTD.tabLook NP (λb=>K.lookup b) a (qm K a)
theorem Hm{K:Frag}(X:K.In h)(e:Co K a=true):kq h a (qm K a):=KTD.tab_of_look YM (λb o q=>X b o q) e
theorem kq.typeIs{D:List (Str×V)}(T:kq s.heap a D):s.TypeIs (.ref a) "dict":=by
 obtain⟨_,o,_,_,ho,hc,_⟩:=T;exact⟨o,ho,hc.1⟩
theorem kq.noDict{D:List (Str×V)}(T:kq h a D):∀b,Value.ref a=.ref b→∃ob,h.get? b=some ob∧ob.dict=none:=λb e=>by
 cases e;obtain⟨_,o,_,_,ho,hc,_⟩:=T;exact⟨o,ho,hc.2.1⟩
section
variable{prog:Program}{w:World}{A:Around}{E:QV}{s:Shared}{a:Addr}{D:List (Str×V)}{x:Str}{tk:Tok}
theorem Hn{Q:Option Value→Shared→Prop}(T:kq s.heap a D)(h1:∀v u,KTD.datumAt x D=some v→RelV v u→Q (some u) { s with toks:=s.toks+1 })(h2:KTD.datumAt x D=none→Q none { s with toks:=s.toks+1 }) :
  wpAny (model prog w) A (dictGet a (.str x tk)) Q E s:=by
 obtain⟨_,o,es,ep,ho,hc,hd,hr⟩:=T;have kr:(es.all λe=>isExactStrKey e.key)=true:=by
  have z:=hr.exact;obtain⟨l⟩:=es;simpa using z
 have hf:findBy (λk v=>v.isStr k) es x=(es.toList.find? λe=>e.key.isStr x).map (·.val):=by obtain⟨l⟩:=es;simp[findBy]
 have hq:Q (findBy (λk v=>v.isStr k) es x) { s with toks:=s.toks+1 }:=by
  rw[hf];cases e:KTD.datumAt x D with
  |none=>rw[hr.find_none e];exact h2 e
  |some v=>obtain⟨u,z1,z2⟩:=hr.find_some e;rw[z1];exact h1 v u e z2
 rw[findBy_of_findIdx?]at hq;unfold dictGet;refine ak (wpAny_pyHash_str (ak (KTD.kt_dictFind_strs (s:={ s with toks:=s.toks+1 }) ho hd kr ?_)));cases e:es.findIdx? λe=>e.key.isStr x with
 |none=>rw[e]at hq;exact aq hq
 |some i=>rw[e]at hq;exact ak (wpAny_dictEntries (s:={ s with toks:=s.toks+1 }) ho hd (aq hq))
theorem kd_item{v:V}(T:kq s.heap a D)(hv:KTD.datumAt x D=some v)(h:∀u,RelV v u→Q u { s with toks:=s.toks+1 }):wpAny (model prog w) A (getItem (.ref a) (.str x tk)) Q E s:=by
 unfold getItem
 try (with_reducible refine ao ?_)
 refine ak (wpAny_sequenceKey (T.typeIs) (by decide) ?_);refine ak (ay (name:=Str.ofString "__getitem__") T.typeIs PySem.F.slot_dict_getitem (az PySem.F.slot_dict_getitem T.typeIs PySem.F.entry_dict_getitem ?_ (PySem.F.args_dict_getitem_2 _ _)));show wpAny _ _ (dictGet a (.str x tk) >>= _) _ _ s;exact ak (Hn T (λv' u e r=>by rw[hv]at e;cases e;exact aq ⟨u,rfl,aq (h u r)⟩) λe=>by rw[hv]at e;cases e)
theorem YO(T:kq s.heap a D)(h:Q (.bool (KTD.datumAt x D).isSome) { s with toks:=s.toks+1 }):wpAny (model prog w) A (compareOp .In (.str x tk) (.ref a)) Q E s:=by
 show wpAny _ _ (do return .bool (← contains (.ref a) (.str x tk))) Q E s
 refine ak ?_;unfold contains
 try (with_reducible refine ao ?_)
 refine ak (wpAny_specialOf T.typeIs PySem.F.slot_dict_contains.lookup ?_);show wpAny _ _ (if(some (Value.builtin "dict.__contains__")==some Value.none)=true then _ else _) _ _ s
 rw[ag (by decide)];refine ak (wpAny_callSpecialUnlessNone?_slot (name:=Str.ofString "__contains__") T.typeIs PySem.F.slot_dict_contains (az PySem.F.slot_dict_contains T.typeIs PySem.F.entry_dict_contains ?_ (PySem.F.args_dict_contains_2 _ _)));show wpAny _ _ (dictGet a (.str x tk) >>= _) _ _ s;refine ak (Hn T (λv u e _=>?_) λe=>?_)
 ·rw[e]at h;exact(aq ⟨_,rfl,ai (aq h)⟩)
 ·rw[e]at h;show wpAny _ _ (Builtin.Dict.pendingKey? a (.str x tk) >>= _) _ _ _;exact ak (wpAny_pendingKey_other T.1 (aq ⟨_,rfl,ai (aq h)⟩))
theorem YQ{dflt:Value}:MeetsIn prog w (Builtin.«dict.get» ⟨[.ref a,.str x tk,dflt],[]⟩) (λ_ R s=>kq s.heap a D∧(∀v u,KTD.datumAt x D=some v→RelV v u→R (.ok (.ret u)) { s with toks:=s.toks+1 })∧(KTD.datumAt x D=none→R (.ok (.ret dflt)) { s with toks:=s.toks+1 })):=
 .of_wp λA₁ R s ⟨T,h1,h2⟩=>by
  show wpAny _ _ (dictGet a (.str x tk) >>= _) _ _ s;refine ak (Hn T (λv u e r=>aq ⟨u,rfl,h1 v u e r⟩) λe=>?_);show wpAny _ _ (Builtin.Dict.missed a (.str x tk) >>= _) _ _ _;exact ak (wpAny_missed_other T.1 (aq ⟨dflt,rfl,h2 e⟩))
theorem YR{dflt:Value}(T:kq s.heap a D)(h1:∀v u,KTD.datumAt x D=some v→RelV v u→Q u { s with toks:=s.toks+1 })(h2:KTD.datumAt x D=none→Q dflt { s with toks:=s.toks+1 }) :
  wpAny (model prog w) A (call (.builtin "dict.get") [.ref a,.str x tk,dflt]) Q E s:=
 call_meetsIn EW T.typeIs PySem.F.entry_dict_get (PySem.F.args_dict_get_3 _ _ _) (YQ (D:=D)) ⟨T,h1,h2⟩
end
section
variable{X:Cx}{o i e f:Expr}{pos jJ iE:Pos}{td ty tx:TE}{a:Addr}{D:List (Str×V)}
def NQ(a:Addr)(D:List (Str×V))(td ty:TE):TE:=λσ H Q=>td σ H λu H1=>ty σ H1 λy H2=>∃x v,u=.ref a∧y=.str x∧KTD.datumAt x D=some v∧Q v H2
theorem NR(hT:∀h,X.K.In h→kq h a D)(ho:PE X o td)(hi:PE X i ty)(hs:G8 i):PE X (.Subscript o i pos) (NQ a D td ty):=by
 intro aL s σ H Q I h;refine Nu PySem.F.slot_dict_getitem.lookup hs (bh (ho aL s σ H _ I h) λu s1 ⟨x',H1,I1,rx,q1⟩=>bh (hi aL s1 σ H1 _ I1 q1) λiv s2 ⟨y,H2,I2,ry,x,v,ex,ey,g,q2⟩=>?_);subst ex ey;obtain rfl:u=Value.ref a:=rx;obtain⟨tk,rfl⟩:=ry;exact⟨(hT _ I2.ij).typeIs,kd_item (hT _ I2.ij) g λu r=>⟨v,H2,I2.tok _,r,q2⟩⟩
def YT(a:Addr)(D:List (Str×V))(ty td:TE):TE:=λσ H Q=>ty σ H λy H1=>td σ H1 λu H2=>∃x,u=.ref a∧y=.str x∧Q (.bl (KTD.datumAt x D).isSome) H2
theorem YU(hT:∀h,X.K.In h→kq h a D)(hi:PE X i ty)(ho:PE X o td):PC X .In i o (YT a D ty td):=by
 intro aL s σ H Q I h;refine bh (hi aL s σ H _ I h) λiv s1 ⟨y,H1,I1,ry,q1⟩=>bh (ho aL s1 σ H1 _ I1 q1) λu s2 ⟨x',H2,I2,rx,x,ex,ey,q2⟩=>?_;subst ex ey;obtain rfl:u=Value.ref a:=rx;obtain⟨tk,rfl⟩:=ry;exact YO (hT _ I2.ij) ⟨.bl _,H2,I2.tok _,rfl,q2⟩
def YV(a:Addr)(D:List (Str×V))(td ty tx:TE):TE:=λσ H Q=>td σ H λu H1=>u=.ref a∧ty σ H1 λy H2=>tx σ H2 λz H3=>∃x,y=.str x∧Q ((KTD.datumAt x D).getD z) H3
theorem YW(hT:∀h,X.K.In h→kq h a D)(ho:PE X o td)(he:PE X e ty)(hf:PE X f tx)(m:M2 X o "get" jJ e f iE):PE X (.Call (.Attribute o "get" jJ) [e,f] [] iE) (YV a D td ty tx):=by
 intro aL s σ H Q I h;refine wpAny_Call_method m.base m.iP m.line PySem.F.plainAttrs_dict EW PySem.F.type_dict_get (bh (ho aL s σ H _ I h) λu s1 ⟨x',H1,I1,rx,ex,q1⟩=>?_);subst ex;obtain rfl:u=Value.ref a:=rx;refine⟨(hT _ I1.ij).typeIs,(hT _ I1.ij).noDict,?_⟩;rw[m.trees];refine Calls.callWith_builtin rfl (Calls.evalArgs_plain (Calls.spliced_cons (bh (he aL s1 σ H1 _ I1 q1) λiv s2 ⟨y,H2,I2,ry,q2⟩=>Calls.spliced_cons (bh (hf aL s2 σ H2 _ I2 q2) λfv s3 ⟨z,H3,I3,rz,x,ey,q3⟩=>Calls.spliced_nil ?_))));subst ey;obtain⟨tk,rfl⟩:=ry;refine YR (hT _ I3.ij) (λv u e r=>⟨v,H3,I3.tok _,r,?_⟩) λe=>⟨z,H3,I3.tok _,rz,?_⟩
 ·rw[e]at q3;exact q3
 ·rw[e]at q3;exact q3
end
noncomputable def xi(hi:Int)(n:Nat):It:=⟨λi _=>i<n,λi H x H'=>H'=H∧x=.int (hi-i),λi _=>n≤i⟩
theorem YX{P:Program}{w:World}{K:Frag}{tg:Expr}(it:Addr)(hi:Int)(n:Nat):Turn P w K tg (xi hi n) [it] it (λi h=>IsRangeIter h it (hi+(i:Nat)*(-1)) ((n:Int)-(i:Nat)) (-1)) where
 mem:=by simp
 obj:=λi h st b hb=>by
  have e:b=it:=by simpa using hb
  subst e;refine⟨_,st,λv z=>?_⟩;cases(show Data.fields _=Data.cell v from z)
 keep:=λi h h' st k=>k it (by simp) _ st
 item:=by
  intro X hP hw hK hc i aL s σ H E I hf st hg;subst hP hw hK;obtain⟨f0,f1,f2,f3,f4,f5⟩:=hf it (by simp);refine(Walks.range (prog:=X.prog) (w:=X.w) (I.ok.hd hc) it hi (-1) n).item i s _ _ hg st λv h' tk hv l7 kk=>?_;obtain⟨t,rfl⟩:=hv;have I1:Inv X aL σ H { s with heap:=h',toks:=tk }:=I.turned (λb o hb e=>kk b o (by simpa using hb) e) f0 f1 f3 f4 f5;refine⟨_,rfl,yD (s:={ s with heap:=h',toks:=tk }) (n := "range_iterator") l7 rfl rfl (by decide) ⟨.int (hi-i),H,I1,⟨t,?_⟩,⟨rfl,rfl⟩,l7,λb hb=>(hf b hb).1⟩⟩;rw[Int.mul_neg,sE,Int.sub_eq_add_neg]
 done:=by
  intro X hP hw hK hc i aL s σ H E I hf st hg;subst hP hw hK;obtain⟨f0,f1,f2,f3,f4,f5⟩:=hf it (by simp);exact wpAny_pyNext_range_end (I.ok.hd hc) st (by have:n≤i:=hg;lia) λh' eb=>⟨rfl,I.turned (t':=s.toks) (λb o hb e=>eb b o hb e) f0 f1 f3 f4 f5⟩
 self:=λ_ _ _ _ _ st h=>wpAny_pyIter_rangeiter st h
theorem NS(h:-1≤i):Builtin.Range.rangeSize i (-1) (-1)=i+1:=by
 (unfold Builtin.Range.rangeSize)
 rw[ag (by decide)];split
 ·rw[show(-(-1):Int)=1 from rfl,Int.ediv_one];lia
 ·lia
theorem small_down(h:-1≤i)(h2:i<2^61):Builtin.Range.small i (-1) (-1)=true:=by
 unfold Builtin.Range.small;rw[NS h];simp only[Builtin.Range.rangeFitsLong,ir,Bool.or_eq_true,aF,beq_iff_eq];exact⟨⟨⟨⟨⟨by lia,by lia⟩,by decide,by decide⟩,by decide,by decide⟩,by lia,by lia⟩,.inr (by decide)⟩
section
variable{X:Cx}{tg:Expr}
def NT(ta:TA):TI:=λσ H R=>ta σ H λvs H1=>∃i:Int,vs=[.int i,.int (-1),.int (-1)]∧(-1≤i∧i<2^61)∧R (xi i (i+1).toNat) H1
theorem YY{aL:List (Addr×Obj)}{σ:St}{R:It→Hp→Prop}{E:QV}{t u v:Tok}{tk:Nat}(I:Inv X aL σ H s)(h1:-1≤i)(h2:i<2^61)(q:R (xi i (i+1).toNat) H) :
  wpAny (model X.prog X.w) X.A (pyIter (.ref s.heap.objs.size)) (E9 X aL σ tg R) E { s with heap:=s.heap.push { cls:=.type "range",data:=.fields #[.int i t,.int (-1) u,.int (-1) v] },toks:=tk }:=by
 refine wpAny_pyIter_range (IsRange.new ..) (small_down h1 h2) ?_;have I1:Inv X aL σ H { s with heap:=s.heap.push { cls:=.type "range",data:=.fields #[.int i t,.int (-1) u,.int (-1) v] },toks:=tk }:=I.kept λb o e=>dj _ e;generalize s.heap.push { cls:=.type "range",data:=.fields #[.int i t,.int (-1) u,.int (-1) v] }=h3 at I1 ⊢;refine⟨h3.objs.size,[h3.objs.size],_,_,H,rfl,I1.kept (t':=tk) λb o e=>dj _ e,YX _ i (i+1).toNat,?_,λb hb=>?_,q⟩
 ·show IsRangeIter _ _ (i+((0:Nat):Int)*(-1)) ((((i+1).toNat:Nat):Int)-((0:Nat):Int)) (-1);rw[show i+((0:Nat):Int)*(-1)=i by simp,show(((i+1).toNat:Nat):Int)-((0:Nat):Int)=Builtin.Range.rangeSize i (-1) (-1) by rw[NS h1];lia];exact gJ _ rfl
 ·have e:b=h3.objs.size:=by simpa using hb
  subst e;exact I1.l6 (ck _) (I1.bz.fresh (ck _))
theorem NU{a b c:Expr}{ta:TA}{p pos:Pos}(hg:Gl X "range")(hm:X.mg "range"=none)(ha:PA X [a,b,c] ta)(hs:starEach [a,b,c] X.env=(false,eval a X.env)::starEach [b,c] X.env:=by rfl)(vh:(backTo pos (starEach [b,c] X.env)).any (·.1)=false:=by rfl) :
  PI X tg (.Call (.Name "range" p) [a,b,c] [] pos) (NT ta):=by
 intro aL s σ H R I h;refine Call_ (uS I hg hm boot_range (EU (bh (ha pos aL s σ H _ I h) λus s1 ⟨vs,H1,I1,r1,q1⟩=>?_) hs vh));obtain⟨i,e,⟨q1,q2⟩,q⟩:=q1;subst e;cases r1 with
 |cons r rr=>
  cases rr with
  |cons r' rr=>
   cases rr with
   |cons r2 rr=>
    cases rr;obtain⟨t,rfl⟩:=r;obtain⟨t',rfl⟩:=r';obtain⟨t2,rfl⟩:=r2;exact call_range_3 (by decide) (YY I1 q1 q2 q) (Or.inl (PyProof.noPylong_small (by lia)))
end
theorem NV{hi:Int}{g:TG}{tb:TS}{D:Ends}{σ:St}(Pv:Nat→St→Hp→Prop)(h0:Pv 0 σ H)
  (hs:∀i σ H,i<n→Pv i σ H→g (.int (hi-(i:Nat))) σ H λσ2 H2=>tb { D with nx:=Pv (i+1),ct:=Pv (i+1),bk:=D.nx } σ2 H2) (hd:∀σ H,Pv n σ H→D.nx σ H) :
  ∃W:Nat→Nat→St→Hp→Prop,(∃m,W 0 m σ H)∧∀i m σ H,W i m σ H→
   ((xi hi n).stop i H∧D.nx σ H)∨((xi hi n).go i H∧∃N:St→Hp→Prop,(∀σ' H',N σ' H'→∃m',m'<m∧W (i+1) m' σ' H')∧∀x H',(xi hi n).pe i H x H'→g x σ H' λσ2 H2=>tb { D with nx:=N,ct:=N,bk:=D.nx } σ2 H2):=by
 refine⟨λi m σ H=>m=n-i∧i≤n∧Pv i σ H,⟨n,by simp,jf _,h0⟩,?_⟩;rintro i m σ H ⟨rfl,jL,p⟩;by_cases cB:i<n
 ·exact .inr ⟨cB,Pv (i+1),λσ' H' p'=>⟨n-(i+1),by lia,rfl,cB,p'⟩,λx H' ⟨z1,z2⟩=>by subst z1 z2;exact hs i σ _ cB p⟩
 ·have e:i=n:=by lia
  subst e;exact .inl ⟨ck _,hd σ H p⟩
def xj(cp:St)(P:Hp→List V→Prop):St→Hp→List V→Prop:=λσ H zs=>(∃o:St,o.length=1∧σ=o++cp)∧P H zs
theorem xj.mk{cp:St}{P:Hp→List V→Prop}{x:Option V}{zs:List V}(h:P H zs):xj cp P (x::cp) H zs:=⟨⟨[x],rfl,rfl⟩,h⟩
theorem YZ{cp:St}{te:TE}{Q:VK}{H1:Hp}{lo:Int}(Pv:Nat→Hp→List V→Prop)(hz:n≤sizeLine)(h0:Pv 0 H1 [])(cD:∀i H zs,Pv i H zs→zs.length≤i)
  (step:∀i H zs,i<n→Pv i H zs→te (some (.int (lo+(i:Nat)))::cp) H λv H5=>xj cp (Pv (i+1)) (some (.int (lo+(i:Nat)))::cp) H5 (zs++[v])) (done:∀H zs,Pv n H zs→∀p,H p=none→Q (.ref p) (upd H p (.lst zs))) :
  ∃W:Nat→Nat→St→Hp→List V→Prop,(∃m,W 0 m (List.replicate 1 none++cp) H1 [])∧mf (sS lo n) (cm 0) oB te Q W:=by
 refine⟨λi m σ H zs=>m=n-i∧i≤n∧xj cp (Pv i) σ H zs,⟨n,by simp,jf _,⟨_,by simp,rfl⟩,h0⟩,?_⟩;rintro i m σ H zs ⟨rfl,hi,⟨o,ho,rfl⟩,pv⟩;have hl:=cD _ _ _ pv;by_cases cB:i<n
 ·refine .inr ⟨cB,by lia,xj cp (Pv (i+1)),λσ2 H2 Xf q=>⟨n-(i+1),by lia,rfl,cB,q⟩,λx H2 y=>?_⟩;obtain⟨z,rfl⟩:=zb ho;obtain⟨rfl,rfl⟩:=y;exact step i _ zs cB pv
 ·have e:i=n:=by lia
  subst e;exact .inl ⟨ck _,by lia,done H zs pv⟩
def eX(H H':Hp):Prop:=∀b o,H b=some o→((∃xs,o=.tup xs)∨∃ob u,o=.dC ob u)→H' b=some o
theorem eX.trans{H1 H2:Hp}(a:eX H H1)(b:eX H1 H2):eX H H2:=λc o h k=>b c o (a c o h k) k
theorem aU.tup(s:aU H H'):eX H H':=λb o h _=>s b o h
theorem eX.upd{H:Hp}{a:Addr}{o:HO}(h:∀u,H a=some u→(∃xs,u=.lst xs)∨∃aM,u=.dK aM):eX H (upd H a o):=λb u e k=>by
 have ne:b≠a:=λz=>by
  subst z;rcases h u e with⟨xs,rfl⟩|⟨aM,rfl⟩<;>rcases k with⟨_,z⟩|⟨_,_,z⟩<;>cases z
 rw[bU ne];exact e
theorem eX.lst{H:Hp}{a:Addr}{xs:List V}{o:HO}(h:H a=some (.lst xs)):eX H (L2.upd H a o):=eX.upd λu e=>.inl ⟨xs,by rw[h]at e;exact(dZ e).symm⟩
theorem eX.NW{aM:List (Key×V)}{o:HO}(h:H a=some (.dK aM)):eX H (L2.upd H a o):=eX.upd λu e=>.inr ⟨aM,by rw[h]at e;exact(dZ e).symm⟩
theorem eX.bt{K:Frag}{xs:List V}(e:eX H H')(h:bj K H a xs):bj K H' a xs:=by
 rcases h with h|h
 ·refine .inl ?_;rcases h with h|⟨o,h⟩
  ·exact .inl (e _ _ h (.inl ⟨xs,rfl⟩))
  ·exact .inr ⟨o,e _ _ h (.inr ⟨o,_,rfl⟩)⟩
 ·exact .inr h
theorem aU.put{o:HO}(s:aU H H')(h:H a=none):aU H (L2.upd H' a o):=λb u e=>by
 rw[bU (fg e h)];exact s b u e
structure qo(P:Program)(w:World)(K:Frag)(mg:Str→Option Value)(base:Heap)(k:Nat)(s:Shared)(H:Hp)(f:Addr)(R:List V→Hp→VK→Prop):Prop where
 here:(∃φ:Heap→Prop,H f=some (.ext φ)∧∀h,φ h→PySem.W.FnAt f h)∨∀h,K.In h→PySem.W.FnAt f h
 run:∀(A:Around)(outer:List Env)(s':Shared)(H':Hp)(vs:List V)(us:List Value)(Q:VK),eW k A→wA P w K mg base A outer s' H'→aU H H'→
  (∀c o,s.heap.get? c=some o→H c=none→H' c=none∧∃sl,s'.heap.get? c=some { o with slots:=sl })→Vals vs us→R vs H' Q→codeAny (model P w) A (.call (.ref f) ⟨us,[]⟩) (CR cb outer P w H' s' Q E0) s'
theorem qo.Y0{P:Program}{w:World}{K:Frag}{mg:Str→Option Value}{base:Heap}{k:Nat}{sp:Sp}(F:cj P w K mg base cb k f fd ps sp)(G:cO K x qual st f fd)(hb:Binds K fd ps []) :
  qo P w K mg base k s H f (λvs H' Q=>sp vs H' Q E0):=by
 refine⟨.inr λh X=>?_,λA outer s' H' vs us Q hr e0 _ _ r q=>?_⟩
 ·obtain⟨oc,od,kV,doc,pm,an,cq,ct,ot,rfl,lk,_⟩:=G.ex;exact⟨_,_,_,_,X _ _ lk⟩
 ·have KX:K.In s'.heap:=e0.mod.uN.keeps λb o e=>(e0.bs b o e).1;have hl:us.length=ps.length:=by rw[← r.length];exact F.len _ _ _ _ q
  have vt:=hb s' us KX (by rw[hJ];exact hl);rw[hJ]at vt;exact F.run A outer s' H' ⟨us,[]⟩ us vs Q E0 hr e0 vt r q
section
variable{X:Cx}{k:Nat}{f:Addr}{x:Str}{p pos:Pos}{e:Expr}{es:List Expr}{t:TA}{R:List V→Hp→VK→Prop}
theorem Y1{i:Nat}(L:qo X.prog X.w X.K X.mg X.base k X.s₀ X.H₀ f R)(hr:eW k X.A)(hex:X.ex=[])(hN:X.N[i]?=some x)(hv:yn X.env.scope x)(ha:PA X (e::es) t)
  (hd:(x==("__debug__":Str))=false:=by decide) (i6:(x==("__classdict__":Str))=false:=by decide) (he:starEach (e::es) X.env=(false,eval e X.env)::starEach es X.env:=by rfl) (qe:(backTo pos (starEach es X.env)).any (·.1)=false:=by rfl) :
  PE X (.Call (.Name x p) (e::es) [] pos) (λσ H Q=>σ[i]?=some (some (.ref f))∧aU X.H₀ H∧t σ H λvs H1=>aU X.H₀ H1∧R vs H1 Q):=by
 intro aL s σ H Q I ⟨hσ,sm,h⟩;have NX:∀{σ:St}{H1:Hp}{s1:Shared},Inv X aL σ H1 s1→aU X.H₀ H1→PySem.W.FnAt f s1.heap:=λI1 tN=>by
  rcases L.here with⟨φ,hφ,yw⟩|z
  ·exact yw _ (I1.bz f _ (tN _ _ hφ)).1
  ·exact z _ I1.ij
 refine av (bh (Lj hN hv hd i6 aL s σ H (λv H1=>v=.ref f∧H1=H) I ⟨_,hσ,rfl,rfl⟩) λu s1 ⟨v,H1,I1,r,e1,e2⟩=>?_);subst e1 e2;cases r;refine PySem.W.callWith_F (NX I1 sm) (bh (ha pos aL s1 σ H1 _ I1 h) λus s2 ⟨vs,H2,I2,rv,vx,hq⟩=>⟨NX I2 vx,?_⟩) he qe;refine wpAny_call (codeAny_mono (L.run X.A X.stack s2 H2 vs us Q hr I2.Fo vx (λc o hc hn=>?_) rv hq) λr s' hq=>?_)
 ·have zu:c ∉ X.ex:=by rw[hex];simp
  exact⟨I2.base.free c o hc hn zu,I2.base.any hc hn zu⟩
 cases r with
 |error e=>exact False.elim hq
 |ok fl=>
  cases fl with
  |ret u=>exact I2.after hq
  |next=>exact False.elim hq
  |brk=>exact False.elim hq
  |cont=>exact False.elim hq
end
theorem NY(K:Frag)(hK:X.K=K){o:Expr}{to:TE}{jJ iE:Pos}(ho:PE X o to)(yU:attributeBase o "pop" X.env (eval o X.env)=eval o X.env:=by rfl)(yV:(jJ.endLine==iE.line)=true:=by rfl) :
  PE X (.Call (.Attribute o "pop" jJ) [] [] iE) (BO K "list" BR to):=hK▸BP mV PySem.F.slot_list_pop PySem.F.type_list_pop BS ho yU yV
end L2
namespace Bw
theorem xk(f g:Fn)(n:Nat):dot f g n=dot g f n:=GY λi _=>nX _ _
noncomputable def comb(c:Nat→Int)(L:LL):Fn:=λj=>dot c (col L j) L.length
theorem Y2{p a b:Int}(h:p∣a)(k:p∣a-b):p∣b:=by
 have:=jS h k
 rwa[show a-(a-b)=b by lia]at this
theorem NZ(f u v:Fn)(n:Nat):dot (λj=>u j-v j) f n=dot u f n-dot v f n:=by
 have:dot u f n=dot (λj=>u j-v j) f n+dot v f n:=by
  unfold dot;rw[← GO];exact GY λi _=>by rw[← Int.add_mul];congr 1;show u i=u i-v i+v i;lia
 lia
section
variable{p:Int}{n:Nat}{L L' L'':LL}
theorem tO(h:∀r∈L,Sp p (RS L') (fn r)){v:Fn}(hv:Sp p (RS L) v):Sp p (RS L') v:=hv.trans λf hf=>by
 obtain⟨r,hr,rfl⟩:=hf;exact h r hr
theorem tP{r:List Int}(h:r∈L):Sp p (RS L) (fn r):=.mem ⟨r,h,rfl⟩
end
end Bw
namespace S21
open PySem L2 Bw
variable{H:Hp}
noncomputable def top(i:Nat):Stmt:=PySem.Challenge.pw_bentwires_k24_whole_plain_forms.main.body.getD i (.Pass ⟨0,0,0,0⟩)
noncomputable abbrev zv:Stmt:=top 4
noncomputable abbrev rM:Stmt:=top 5
noncomputable abbrev zw:Stmt:=top 6
noncomputable abbrev xl:Stmt:=top 7
noncomputable abbrev Cp:Stmt:=top 8
noncomputable abbrev Cq:Stmt:=top 9
noncomputable abbrev Ho:Stmt:=top 13
noncomputable abbrev Hq:Stmt:=top 14
noncomputable abbrev Cr:Stmt:=top 15
noncomputable abbrev Hr:Stmt:=top 16
noncomputable abbrev Ct:Stmt:=top 17
noncomputable abbrev Hs:Stmt:=top 22
noncomputable abbrev ku:Stmt:=top 23
noncomputable abbrev Ht:Stmt:=top 24
noncomputable abbrev Hu:Stmt:=top 25
noncomputable abbrev Cu:Stmt:=top 26
noncomputable abbrev zx:Stmt:=top 27
noncomputable abbrev Cv:Stmt:=top 28
noncomputable abbrev zy:Stmt:=top 29
noncomputable abbrev Hv:Stmt:=top 31
noncomputable abbrev Hw:Stmt:=top 32
noncomputable abbrev Hy:Stmt:=top 33
noncomputable abbrev Hz:Stmt:=top 34
noncomputable abbrev HA:Stmt:=top 35
noncomputable abbrev HB:Stmt:=top 36
noncomputable abbrev HC:Stmt:=top 37
noncomputable abbrev HD:Stmt:=top 38
noncomputable abbrev HE:Stmt:=top 39
noncomputable abbrev HF:Stmt:=top 40
noncomputable abbrev HG:Stmt:=top 41
noncomputable abbrev Cw:Stmt:=top 42
noncomputable abbrev Cy:Stmt:=top 43
noncomputable abbrev Cz:Stmt:=top 44
noncomputable abbrev vy:Stmt:=top 45
noncomputable abbrev CA:Stmt:=top 46
noncomputable abbrev HH:Stmt:=top 47
noncomputable abbrev CB:Stmt:=top 48
noncomputable abbrev rN:Stmt:=top 49
structure Txt(mg:Str→Option Value):Prop where
 range:mg "range"=none
 zip:mg "zip"=none
 tuple:mg "tuple"=none
 list:mg "list"=none
 int:mg "int"=none
 bool:mg "bool"=none
 isinstance:mg "isinstance"=none
 len:mg "len"=none
 sum:mg "sum"=none
 max:mg "max"=none
 min:mg "min"=none
 enumerate:mg "enumerate"=none
 any:mg "any"=none
 all:mg "all"=none
theorem HI{r:List Int}{j:Nat}(h:j<r.length):r[j]?=some (r.getD j 0):=by
 rw[cC h,cH,cC h];rfl
theorem CC{r:List Int}{j:Nat}(h:j<r.length):(r.map V.int)[j]?=some (.int (r.getD j 0)):=by
 rw[du,HI h];rfl
theorem HJ{c A B:Prop} [Decidable c] (h1:¬c→A) (h2:c→B):if(!decide c)=true then A else B:=by
 by_cases h:c
 ·exact VM h (h2 h)
 ·rw[ae h];exact fU (h1 h)
section
variable{K:Frag}
theorem tQ{RS:List V}{rs:LL}{i:Nat}{x:V}(hA:cu K H RS (rs.map dD))(hx:RS[i]?=some x):∃r a,rs[i]?=some r∧x=.ref a∧bj K H a (r.map V.int):=by
 obtain⟨d,hd,ji⟩:=hA.get hx;rw[du]at hd;cases e:rs[i]? with
 |none=>rw[e]at hd;cases hd
 |some r=>
  rw[e]at hd;cases hd;obtain⟨a,rfl,ha⟩:=Gr ji;exact⟨r,a,rfl,rfl,ha⟩
theorem jc{RS:List V}{rs:LL}(hA:cu K H RS (rs.map dD)):RS.length=rs.length:=by rw[hA.length,bO]
end
theorem bj.wr{K:Frag}{a l:Addr}{ys xs:List V}{o:HO}(h:bj K H a ys)(hl:H l=some (.lst xs)):bj K (upd H l o) a ys:=by
 have ne:∀{u:HO},H a=some u→(∀zs,u≠.lst zs)→a≠l:=λe hu z=>by
  rw[z,hl]at e;exact hu xs (dZ e).symm
 rcases h with(h|⟨o',h⟩)|h
 ·refine .inl (.inl ?_);rw[bU (ne h λ_ z=>nomatch z)];exact h
 ·refine .inl (.inr ⟨o',?_⟩);rw[bU (ne h λ_ z=>nomatch z)];exact h
 ·exact .inr h
theorem cu.wr{K:Frag}{H:Hp}{l:Addr}{xs:List V}{o:HO}(hl:H l=some (.lst xs)):∀{RS:List V}{rs:LL},cu K H RS (rs.map dD)→cu K (upd H l o) RS (rs.map dD)
 |_,[],h=>by cases h;exact .nil
 |_,r::rs,h=>by
  cases h with
  |cons h t=>
   obtain⟨a,rfl,ha⟩:=Gr h;exact .cons (oF (bj.wr ha hl)) (cu.wr hl t)
theorem N0(ns:List Int):kqdOk 8 (.list (ns.map .int))=true:=by
 show(ns.map Dat.int).all (kqdOk 7)=true;exact Xo 7 ns
open Classical in
theorem Y3{d e:Dat}{A B:Prop}(h:d≠e)(b:A):if(if true=true then !decide (d=e)else decide (d=e))=true then A else B:=by
 simp only[if_true,ae h,Bool.not_false];exact b
theorem Y4{s1 s2:TS}{D:Ends}{σ:St}(J:St→Hp→Prop)(h:∀N:St→Hp→Prop,(∀σ H,J σ H→N σ H)→s1 { D with nx:=N } σ H)(hr:∀σ H,J σ H→s2 D σ H):cn s1 s2 D σ H:=h _ hr
theorem j6{H':Hp}{l:Addr}(e:aU H H')(h:H' l=none):H l=none:=by
 cases q:H l with
 |none=>rfl
 |some o=>rw[e _ _ q]at h;cases h
theorem N1(rs:LL):kqdOk 8 (.tuple (rs.map dD))=true:=by
 show(rs.map dD).all (kqdOk 7)=true;exact Xp 6 rs
theorem HK{p:Int}{n:Nat}{L:LL}:∀k,(i9 p n L k).1.length≤k∧(i9 p n L k).2.length=L.length
 |0=>⟨ck _,rfl⟩
 |k+1=>by
  obtain⟨h1,h2⟩:=HK (p:=p) (n:=n) (L:=L) k;rw[i9];unfold wZ;split
  ·exact⟨by lia,h2⟩
  ·constructor
   ·show(_++[_]).length≤_;rw[bY,bO,List.length_singleton];lia
   ·show(List.map _ _).length=_;rw[bO];exact h2
theorem xm{p:Int}{n:Nat}{L:LL}(h:cP p n L):(iy p L).length≤n:=by
 by_cases cL:L=[]
 ·subst cL;exact jf _
 ·have:=(HK (p:=p) (n:=rF L) (L:=L) (rF L)).1
  rw[Cc h cL]at this;unfold iy;rw[Cc h cL];exact this
end S21
namespace L2
open PySem PySem.Spec PyProof.Rows
section
variable{P:Program}{w:World}{K:Frag}{mg:Str→Option Value}{base:Heap}
theorem Y5{x qual:Str}{st:Stmt}{f:Addr}{fd:FuncData}{N ps:List Str}{sp:Sp}(F:cO K x qual st f fd)(S:dU N ps (cg st))(len:∀vs H Q E,sp vs H Q E→vs.length=ps.length)
  (pf:∀(cq:Value)(A:Around)(outer:List Env)(s:Shared)(H:Hp)(vs:List V)(Q:VK)(E:XK),sp vs H Q E→
   ∃t,kg (nq cb P w K mg base N qual (cg st) f cq A outer s H E).l5 (md st) t∧t { nx:=λ_ H'=>Q .da H',rt:=Q } (start N vs) H):cj P w K mg base cb 0 f fd ps sp:=by
 obtain⟨oc,od,kV,doc,pm,an,cq,ct,ot,rfl,lk,i6⟩:=F.ex;refine⟨len,λA outer s H args us vs Q E hr e0 hb r jv=>?_⟩;have hl:=len _ _ _ _ jv;have KX:K.In s.heap:=e0.mod.uN.keeps λb o e=>(e0.bs b o e).1;have lim:s.heap.NoLimit:=e0.mod.nolimit.keeps λb o e=>(e0.bs b o e).1;have yQ:∀y∈ps.zip us,(cg st).names.lookup y.1=some .local∨((cg st).names.lookup y.1=some .cell∧((cellsFrom (s.heap.objs.size+1) (cg st).names []).lookup y.1).isSome=true):=λ⟨n,v⟩ hy=>by
  rcases S.par n (v9 hy).1 with q|q
  ·exact .inl q
  ·exact .inr ⟨q,EV _ _ _ (.inl q)⟩
 refine codeAny_call_function hr.depth (KX _ _ lk) rfl S.co S.gen rfl (PySem.W.codeRec_of KX i6) (hb _ _ _ _ ?_);refine ax S.kind yQ λenv he s1 x=>?_;subst he;refine⟨lim.keeps x.toInCall.keep,codeAny_func ?_⟩;obtain⟨t,ht,hq⟩:=pf cq A outer s H vs Q E jv;have I:Inv (nq cb P w K mg base N qual (cg st) f cq A outer s H E) [] (start N vs) H s1:=Fq S hr.hd e0 hl r x;refine ah (ht.l5 [] s1 (start N vs) H _ I hq) (λfl s' hs=>?_) λe s' hs=>hs;have fin:∀{σ':St}{H':Hp}{v:V}{u:Value},Inv (nq cb P w K mg base N qual (cg st) f cq A outer s H E) [] σ' H' s'→RelV v u→Q v H'→CE outer P w H s Q u s':=
  λ{σ' H' v u} J rv q=>⟨v,H',J.os,J.bare,J.base,J.bz,rv,q⟩
 cases fl with
 |ret u=>
  obtain⟨v,σ',H',J,rv,q⟩:=hs;exact fin J rv q
 |next=>
  obtain⟨σ',H',J,q⟩:=hs;exact fin (v:=V.da) (u:=Value.none) J rfl q
 |brk=>
  obtain⟨_,_,_,q⟩:=hs;exact False.elim q
 |cont=>
  obtain⟨_,_,_,q⟩:=hs;exact False.elim q
end
end L2
namespace Bw
section
variable{p:Int}{n:Nat}
end
end Bw
namespace S21
open PySem L2 Bw
variable{f fA:Addr}{fd ky:FuncData}
theorem CF:(["number","more","factor","p"]:List Str).Nodup:=by decide +kernel
def N2:Sp:=λvs H Q _=>∃p n:Int,vs=[.int p,.int n]∧2≤p∧p≤97∧Q (.int (fV p n)) H
def CG(K:Frag):Sp:=λvs H Q _=>∃(p f:Int)(a b:Addr)(r o:List Int),vs=[.int p,.ref a,.int f,.ref b]∧2≤p∧p≤97∧-1000≤f∧f≤1000∧bj K H a (r.map V.int)∧bj K H b (o.map V.int)∧r.length=o.length∧r.length≤1000∧
 oD K H ((iG p r f o).map V.int) Q
def N3(K:Frag):Sp:=λvs H Q _=>∃(p n:Int)(a b:Addr)(b1 b2:Bool)(RS:List V)(rs:LL)(fs:List Int),vs=[.int p,.ref a,.ref b,.int n]∧2≤p∧p≤97∧0≤n∧n≤1000∧
 Sq b1 K H a RS∧cu K H RS (rs.map dD)∧Sq b2 K H b (fs.map V.int)∧rs.length=fs.length∧rs.length≤1000∧(∀r∈rs,r.length=n.toNat)∧(∀f∈fs,0≤f∧f<p)∧
 oD K H ((km p (rs.zip fs) (List.replicate n.toNat 0)).map V.int) Q
theorem CH:dU ["p","number","power","step"] ["p","number"] (cg zv):=eT rfl rfl rfl (by decide +kernel) rfl
theorem Y6(F:cO K "turned" "turned" zv f fd)(T:Txt mg):cj P w K mg base cb 1 f fd ["p","number"] N2:=by
 refine F.ok CH (λvs H Q E h=>?_) (λcq A outer s H vs Q E hr h=>?_)
 ·obtain⟨p,n,rfl,_⟩:=h;rfl
 ·obtain⟨p,n,rfl,p2,eC,k⟩:=h;refine⟨_,bo (cy (i:=2) CH.nd rfl (.inl rfl) aW) (bo (kZ mX rfl (uX rfl T.range (aR (bq qX (pv 0) aW) aY)) (de (i:=3) CH.nd rfl (.inl rfl)) (bZ (cy (i:=2) CH.nd rfl (.inl rfl) (bq kh (bq oq (pv 2) (pv 1)) (pv 0))))) (bZ (cM (pv 2)))),?_⟩;refine⟨_,rfl,_,_,rfl,rfl,p-2,rfl,by lia,by lia,BH (n:=(p-2).toNat) (λi σ H'=>H'=H∧∃st,σ=[some (.int p),some (.int n),some (.int (vj p n i)),st]) ⟨rfl,none,rfl⟩ ?_ ?_⟩
  ·rintro i σ H' hi ⟨rfl,st,rfl⟩;have hb:=XJ (n:=n) p2 i;exact⟨_,rfl,_,rfl,_,_,rfl,rfl,.inl ⟨by lia,by lia⟩,_,rfl,_,_,rfl,rfl,by lia,rfl,_,rfl⟩
  ·rintro σ H' ⟨rfl,st,rfl⟩;exact⟨_,rfl,k⟩
theorem Y7:dU ["p","row","factor","other"] ["p","row","factor","other"] (cg rM):=eT rfl rfl rfl (by decide +kernel) rfl
theorem N4(F:cO K "added" "added" rM f fd)(T:Txt mg):cj P w K mg base cb 0 f fd ["p","row","factor","other"] (CG K):=by
 refine Y5 F Y7 (λvs H Q E h=>?_) (λcq A outer s H vs Q E h=>?_)
 ·obtain⟨p,f,a,b,r,o,rfl,_⟩:=h;rfl
 ·obtain⟨p,fc,a,b,r,o,rfl,p2,eC,f0,f1,ha,hb,hl,hz,k⟩:=h;refine⟨_,bZ (cM (iT (wY K rfl) rfl T.tuple tJ (aR (oC (N:=["number","more","factor","p"]) (own:=2) (caps:=[2,0]) rfl (MW K rfl false false rfl T.zip (aR (pv 1) (aR (pv 3) aY))) (show gM ["p","row","factor","other"] (cg rM) ["number","more","factor","p"] 2 [2,0] _ from .mk' (by decide +kernel)) (λ_ _ _ _ _=>rC (n:=2) K rfl rfl (iF (de (i:=0) CF rfl (.inl rfl)) (iF (de (i:=1) CF rfl (.inl rfl)) qa))) (λ_ _ _ _ _=>me) (λ_ _ _ _ _=>bq kh (bq fi (pv 0) (bq oq (pv 2) (pv 1))) (pv 3))) aY))),?_⟩
  have ext:(iG p r fc o).length=r.length:=by simp[iG,hl]
  refine⟨_,rfl,_,rfl,a,b,rfl,⟨_,ha⟩,⟨_,hb⟩,Xh (b1:=false) (b2:=false) (cp:=[some (.int fc),some (.int p)]) (λi H' zs=>zs=((iG p r fc o).take i).map V.int) ha hb (by simp[hl]) (by rw[bO];exact Nat.le_of_lt (FI hz)) rfl (λi H' zs e=>by subst e;rw[bO,dE];lia) (λi H1 H2 zs _ e=>e) ?_ ?_⟩
  ·rintro i x y H' zs hx hy sm rfl;rw[du]at hx hy;cases e1:r[i]? with
   |none=>rw[e1]at hx;cases hx
   |some u=>
    cases e2:o[i]? with
    |none=>rw[e2]at hy;cases hy
    |some v=>
     rw[e1]at hx;rw[e2]at hy;cases hx;cases hy;refine rE ?_;refine⟨_,rfl,_,rfl,_,rfl,_,_,rfl,rfl,.inl ⟨by lia,by lia⟩,_,_,rfl,rfl,_,rfl,_,_,rfl,rfl,by lia,⟨[_,_],rfl,rfl⟩,sm,?_⟩;have e3:(iG p r fc o)[i]?=some ((u+fc*v)%p):=by
      unfold iG;rw[List.getElem?_zipWith,e1,e2]
     rw[iB,e3];simp
  ·rintro H' zs sm rfl q hq;rw[bO,o4 (by lia)];refine⟨q,_,rfl,.inl ⟨.of bg,λl hl=>?_⟩⟩;exact k _ _ ((sm.trans (.upd hq)).trans (.upd hl)) (.of bg)
theorem Y8(F:cO K "added" "added" rM f fd)(T:Txt mg):cj P w K mg base cb 1 f fd ["p","row","factor","other"] (CG K):=(N4 F T).mono (by decide)
theorem N5(p:Int)(r:List Int)(f:Int):∀(L:List (List Int×Int))(t:List Int),km p (L++[(r,f)]) t=iG p (km p L t) f r
 | [],t=>rfl
 |(r',f')::L,t=>by
  rw[uH,km,km];exact N5 p r f L _
theorem N6{p:Int}{n:Nat}:∀(L:List (List Int×Int))(t:List Int),(∀q∈L,q.1.length=n)→t.length=n→(km p L t).length=n
 | [],t,_,h=>h
 |(r,f)::L,t,h,ht=>by
  rw[km];refine N6 L _ (λq hq=>h q (fK _ hq)) ?_
  have:=h (r,f) cU
  simp only at this;simp[iG,ht,this]
theorem zA:dU ["p","rows","factors","length","total","row","factor"] ["p","rows","factors","length"] (cg zw):=eT rfl rfl rfl (by decide +kernel) rfl
theorem Y9(F:cO K "summed" "summed" zw f fd)(T:Txt mg)(FA:cO K "added" "added" rM fA ky)(bA:Binds K ky ["p","row","factor","other"] [])(mA:Mg mg "added" fA) :
  cj P w K mg base cb 1 f fd ["p","rows","factors","length"] (N3 K):=by
 have GA:cj P w K mg base cb 0 fA ky ["p","row","factor","other"] (CG K):=N4 FA T;refine F.ok zA (λvs H Q E h=>?_) (λcq A outer s H vs Q E hr h=>?_)
 ·obtain⟨p,n,a,b,b1,b2,RS,rs,fs,rfl,_⟩:=h;rfl
 ·obtain⟨p,n,a,b,b1,b2,RS,rs,fs,rfl,p2,eC,n0,n1,nA,hA,iU,hl,hz,HM,zB,k⟩:=h;refine⟨_,bo (cy (i:=4) zA.nd rfl (.inl rfl) (bq (tH K rfl) (dm (aR aW aY)) (pv 3))) (bo (kZ mX rfl (MW K rfl b1 b2 rfl T.zip (aR (pv 1) (aR (pv 2) aY))) (rC (n:=2) K rfl rfl (iF (de (i:=5) zA.nd rfl (.inl rfl)) (iF (de (i:=6) zA.nd rfl (.inl rfl)) qa))) (bZ (cy (i:=4) zA.nd rfl (.inl rfl) (cV GA hr rfl mA FA.kp bA .nil cW (aR (pv 0) (aR (pv 4) (aR (pv 6) (aR (pv 5) aY)))))))) (bZ (cM (pv 4)))),?_⟩;refine⟨by decide,λq hq=>⟨_,rfl,q,n,_,rfl,rfl,.of bg,by simp,by lia,by lia,?_,λt H1 tN ht=>?_⟩⟩
  ·have:(1000:Nat)≤sizeLine:=by decide
   show 1*n.toNat≤sizeLine;lia
  have HN:aU H H1:=(aU.upd hq).trans tN;have CI:RS.length=(fs.map V.int).length:=by rw[hA.length,bO,bO];exact hl
  have e0:(List.replicate n.toNat [V.int 0]).flatten=(List.replicate n.toNat (0:Int)).map V.int:=by
   rw[List.map_replicate];induction n.toNat with
   |zero=>rfl
   |succ m ih=>rw[uG,Bh,ih,uG];rfl
  refine⟨_,rfl,_,rfl,a,b,rfl,⟨_,HN.sq nA⟩,⟨_,HN.sq iU⟩,Xi (b1:=b1) (b2:=b2) (λi σ H'=>aU H H'∧∃t zC ma,σ=[some (.int p),some (.ref a),some (.ref b),some (.int n),some (.ref t),zC,ma]∧bj K H' t ((km p ((rs.zip fs).take i) (List.replicate n.toNat 0)).map V.int)) CI ⟨HN,t,none,none,rfl,by rw[e0]at ht;exact ht⟩ (λi σ H' ⟨sm,_⟩=>⟨sm.sq nA,sm.sq iU⟩) (λi σ H1 H2 eG ⟨sm,t,zC,ma,e,ht⟩=>⟨sm.trans eG,t,zC,ma,e,eG.bt ht⟩) ?_ ?_⟩
  ·rintro i x y σ H' hx hy ⟨sm,t,zC,ma,rfl,ht⟩;obtain⟨d,hd,ji⟩:=hA.get hx;rw[du]at hd hy;cases e1:rs[i]? with
   |none=>rw[e1]at hd;cases hd
   |some r=>
    cases e2:fs[i]? with
    |none=>rw[e2]at hy;cases hy
    |some fc=>
     rw[e1]at hd;rw[e2]at hy;cases hd;cases hy;obtain⟨ra,rfl,gO⟩:=Gr ji;have jw:=HM r (dI e1);have hf1:=zB fc (dI e2);have N7:(km p ((rs.zip fs).take i) (List.replicate n.toNat 0)).length=n.toNat:=N6 _ _ (λq hq=>HM q.1 (v9 (wd hq)).1) (by simp);refine⟨_,rfl,_,rfl,_,rfl,_,rfl,p,fc,t,ra,_,r,rfl,p2,eC,by lia,by lia,ht,sm.bt gO,by rw[N7,jw],by rw[N7];lia,λt' H2 vx mn=>?_⟩;refine⟨sm.trans vx,t',_,_,rfl,?_⟩;have e3:(rs.zip fs)[i]?=some (r,fc):=by rw[EX];exact⟨e1,e2⟩
     rw[iB,e3];show bj K H2 t' ((km p ((rs.zip fs).take i++[(r,fc)]) _).map V.int);rw[N5];exact mn
  ·rintro σ H' ⟨sm,t,zC,ma,rfl,ht⟩;have e4:(rs.zip fs).length≤RS.length:=by rw[List.length_zip,hA.length,bO];lia
   rw[o4 e4]at ht;exact⟨_,rfl,k _ _ sm ht⟩
theorem HP:(["row","place"]:List Str).Nodup:=by decide +kernel
theorem N8:(["row","lead","p","place"]:List Str).Nodup:=by decide +kernel
def HQ(K:Frag):Sp:=λvs H Q _=>∃(p:Int)(a b:Addr)(r o:List Int)(i:Int)(j:Nat),vs=[.int p,.ref a,.ref b,.int i]∧i=j∧2≤p∧p≤97∧bj K H a (r.map V.int)∧bj K H b (o.map V.int)∧r.length=o.length∧j<r.length∧r.length≤1000∧
 (∀x∈r,0≤x∧x<p)∧oD K H ((iN p o j r).map V.int) Q
def vz(K:Frag):Sp:=λvs H Q _=>∃(p:Int)(a:Addr)(b:Bool)(RS:List V)(rs:LL)(n:Nat),vs=[.int p,.ref a]∧p∈dW∧Sq b K H a RS∧cu K H RS (rs.map dD)∧rs.length≤1000∧n≤1000∧cP p n rs∧
 ∀t H' DS,aU H H'→bj K H' t DS→cu K H' DS ((iy p rs).map dD)→Q (.ref t) H'
theorem Za:dU ["p","row","lead","place"] ["p","row","lead","place"] (cg Cq):=eT rfl rfl rfl (by decide +kernel) rfl
theorem Zb(F:cO K "cleared" "cleared" Cq f fd)(T:Txt mg)(FA:cO K "added" "added" rM fA ky)(bA:Binds K ky ["p","row","factor","other"] [])(mA:Mg mg "added" fA) :
  cj P w K mg base cb 2 f fd ["p","row","lead","place"] (HQ K):=by
 have GA:cj P w K mg base cb 1 fA ky ["p","row","factor","other"] (CG K):=Y8 FA T;refine F.ok Za (λvs H Q E h=>?_) (λcq A outer s H vs Q E hr h=>?_)
 ·obtain⟨p,a,b,r,o,i,j,rfl,_⟩:=h;rfl
 ·obtain⟨p,a,b,r,o,i,j,rfl,rfl,p2,eC,ha,hb,hl,hj,hz,HR,k⟩:=h;refine⟨_,bZ (cM (Lm (df sU (br (bX K rfl) (pv 1) (pv 3) (λ_ _=>rfl)) aW (cN _)) (cV GA hr rfl mA FA.kp bA .nil cW (aR (pv 0) (aR (pv 1) (aR (ni nj (br (bX K rfl) (pv 1) (pv 3) (λ_ _=>rfl))) (aR (pv 2) aY))))) (pv 1))),?_⟩;have hx:=HR _ (dI (HI hj));refine⟨_,rfl,_,rfl,a,_,(j:Int),_,rfl,rfl,ha,cw (CC hj),rfl,_,rfl,HJ (λcL=>?_) (λheq=>?_)⟩
  ·have HS:r.getD j 0≠0:=λz=>cL (aj V.int z);refine⟨_,rfl,_,rfl,_,rfl,_,rfl,a,_,(j:Int),_,rfl,rfl,ha,cw (CC hj),_,rfl,_,rfl,p,-(r.getD j 0),a,b,r,o,rfl,p2,eC,by lia,by lia,ha,hb,hl,hz,?_⟩;unfold iN at k;rw[af HS]at k;exact k
  ·have Zc:r.getD j 0=0:=V.int.inj heq;unfold iN at k;rw[ag (λz=>z Zc)]at k;exact⟨_,rfl,k.old ha⟩
noncomputable abbrev nD:List Str:=["p","rows","done","rest","length","place","heads","lead"]
theorem rO:dU ["p","rows","done","rest","length","place","heads","lead"] ["p","rows"] (cg xl):=eT rfl rfl rfl (by decide +kernel) rfl
theorem N9{H:Hp}{l la:Addr}{XS:List V}{xs:LL}{p:Int}{n place:Nat}{lead:List Int}{Q:VK}{te:TE}(p2:2≤p)(eC:p≤97)(hl:dP K H l XS)(hA:cu K H XS (xs.map dD))(hx:cP p n xs)(hz:xs.length≤1000)(hn:n≤1000)(hp:place<n)(Zd:lead.length=n)(pA:bj K H la (lead.map V.int))
  (Ze:∀(x:Addr)(H1:Hp)(R:VK),HQ K [.int p,.ref x,.ref la,.int (0+(place:Int))] H1 R (λ_ _ _=>False)→te [some (.ref x),some (.ref la),some (.int p),some (.int (0+(place:Int)))] H1 R)
  (done:∀H' zs,aU H H'→cu K H' zs ((xs.map (iN p lead place)).map dD)→∀q,H' q=none→Q (.ref q) (upd H' q (.lst zs))) :
  ∃W:Nat→Nat→St→Hp→List V→Prop,(∃m,W 0 m (List.replicate 1 none++[some (.ref la),some (.int p),some (.int (0+(place:Int)))]) H [])∧mf (uW K l) (cm 0) oB te Q W:=by
 refine Gm (cp:=[some (.ref la),some (.int p),some (.int (0+(place:Int)))]) (λi H' zs=>cu K H' zs (((xs.take i).map (iN p lead place)).map dD)) hl (by rw[jc hA];exact Nat.le_of_lt (FI hz)) .nil
  (λi H' zs h=>by rw[jc h,bO,dE];lia) ?_ ?_
 ·rintro i x H' zs ji sm h;obtain⟨r,a,hr,rfl,ha⟩:=tQ hA ji;have hR:=hx r (dI hr);refine rE (Ze a H' _ ⟨p,a,la,r,lead,0+(place:Int),place,rfl,by lia,p2,eC,sm.bt ha,sm.bt pA,by rw[hR.1,Zd],by rw[hR.1];exact hp,by rw[hR.1];exact hn,hR.2,λt H2 s2 ht=>?_⟩);refine⟨⟨[_],rfl,rfl⟩,sm.trans s2,?_⟩;rw[iB,hr];show cu K H2 _ (((xs.take i++[r]).map (iN p lead place)).map dD);rw[eM,eM];exact(h.mono s2).append (.cons (oF ht) .nil)
 ·rintro H' zs sm h q hq;rw[jc hA,lZ]at h;exact done H' zs sm h q hq
def Oa(K:Frag):Sp:=λvs H Q _=>∃(p:Int)(a:Addr)(r:List Int)(i:Int)(j:Nat),vs=[.int p,.ref a,.int i]∧i=j∧p∈dW∧bj K H a (r.map V.int)∧j<r.length∧r.length≤1000∧(∀x∈r,0≤x∧x<p)∧r.getD j 0≠0∧
 oD K H ((iO p r.length r j).map V.int) Q
theorem Zf:dU ["p","row","place"] ["p","row","place"] (cg Cp):=eT rfl rfl rfl (by decide +kernel) rfl
theorem Zg{fT fS:Addr}{rP lK:FuncData}(F:cO K "led" "led" Cp f fd)(T:Txt mg)(FA:cO K "added" "added" rM fA ky)(bA:Binds K ky ["p","row","factor","other"] [])(mA:Mg mg "added" fA)
  (FT:cO K "turned" "turned" zv fT rP) (bT:Binds K rP ["p","number"] []) (mT:Mg mg "turned" fT) (FS:cO K "summed" "summed" zw fS lK) (bS:Binds K lK ["p","rows","factors","length"] []) (mS:Mg mg "summed" fS) :
  cj P w K mg base cb 2 f fd ["p","row","place"] (Oa K):=by
 have GT:cj P w K mg base cb 1 fT rP ["p","number"] N2:=Y6 FT T;have GS:cj P w K mg base cb 1 fS lK ["p","rows","factors","length"] (N3 K):=Y9 FS T FA bA mA;refine F.ok Zf (λvs H Q E h=>?_) (λcq A outer s H vs Q E hr h=>?_)
 ·obtain⟨p,a,r,i,j,rfl,_⟩:=h;rfl
 ·obtain⟨p,a,r,i,j,rfl,rfl,pp,ha,hj,hz,HR,cL,k⟩:=h;obtain⟨p2,eC⟩:=gN p pp;refine⟨_,bZ (cM (cV GS hr rfl mS FS.kp bS .nil cW (aR (pv 0) (aR (ip (aR (pv 1) aY)) (aR (ip (aR (cV GT hr rfl mT FT.kp bT .nil cW (aR (pv 0) (aR (br (bX K rfl) (pv 1) (pv 2) (λ_ _=>rfl)) aY))) aY)) (aR (iD (lH K rfl) rfl T.len lI (aR (pv 1) aY)) aY)))))),?_⟩;have hx:=HR _ (dI (HI hj));have Fm:=Gu (n:=r.getD j 0) pp (by lia) hx.2;refine⟨_,rfl,_,rfl,(by show 1≤sizeLine;decide),λl1 h1=>?_⟩;refine⟨_,rfl,_,rfl,_,rfl,a,_,(j:Int),_,rfl,rfl,(aU.upd h1).bt ha,cw (CC hj),p,r.getD j 0,rfl,p2,eC,(by show 1≤sizeLine;decide),λl2 h2=>?_⟩;have qp:aU H (upd (upd H l1 (.lst [.ref a])) l2 (.lst [.int (fV p (r.getD j 0))])):=(aU.upd h1).trans (.upd h2);refine⟨_,rfl,a,_,rfl,.inr (qp.bt ha),?_⟩;rw[bO];refine⟨p,(r.length:Int),l1,l2,true,true,[.ref a],[r],[fV p (r.getD j 0)],rfl,p2,eC,by lia,by lia,.of (by rw[bU (fg bg h2)];exact bg),.cons (oF (qp.bt ha)) .nil,.of bg,rfl,(by show 1≤1000;decide),λq hq=>by rw[cJ.mp hq];rfl,λf hf=>by rw[cJ.mp hf];lia,λt H6 rQ ht=>?_⟩;exact k t H6 (qp.trans rQ) ht
theorem HU{fT fS fC fL:Addr}{rP lK xn oJ:FuncData}(F:cO K "reduced" "reduced" xl f fd)(T:Txt mg)(FA:cO K "added" "added" rM fA ky)(bA:Binds K ky ["p","row","factor","other"] [])(mA:Mg mg "added" fA)
  (FT:cO K "turned" "turned" zv fT rP) (bT:Binds K rP ["p","number"] []) (mT:Mg mg "turned" fT) (FS:cO K "summed" "summed" zw fS lK) (bS:Binds K lK ["p","rows","factors","length"] []) (mS:Mg mg "summed" fS)
  (FC:cO K "cleared" "cleared" Cq fC xn) (bC:Binds K xn ["p","row","lead","place"] []) (mC:Mg mg "cleared" fC)
  (FL:cO K "led" "led" Cp fL oJ) (bL:Binds K oJ ["p","row","place"] []) (mL:Mg mg "led" fL) :
  cj P w K mg base cb 3 f fd ["p","rows"] (vz K):=by
 have GL:cj P w K mg base cb 2 fL oJ ["p","row","place"] (Oa K):=Zg FL T FA bA mA FT bT mT FS bS mS;have GC:cj P w K mg base cb 2 fC xn ["p","row","lead","place"] (HQ K):=Zb FC T FA bA mA;refine F.ok rO (λvs H Q E h=>?_) (λcq A outer s H vs Q E hr h=>?_)
 ·obtain⟨p,a,b,RS,rs,n,rfl,_⟩:=h;rfl
 ·obtain⟨p,a,b,RS,rs,n,rfl,pp,hq,hA,hz,hn,hR,k⟩:=h;obtain⟨p2,eC⟩:=gN p pp;refine⟨_,bo (cy (i:=2) rO.nd rfl (.inl rfl) (ip aY)) (bo (cy (i:=3) rO.nd rfl (.inl rfl) (iT (Xr K rfl) rfl T.list B5 (aR (pv 1) aY))) (bo (cy (i:=4) rO.nd rfl (.inl rfl) (Lm (LC (pv 3) (λ_=>rfl)) (iD (lH K rfl) rfl T.len lI (aR (br (fo K rfl) (pv 3) aW (λ_ _=>rfl)) aY)) aW)) (bo (kZ mX rfl (uX rfl T.range (aR (pv 4) aY)) (de (i:=5) rO.nd rfl (Or.inr rfl)) (bo (rm (i:=6) (N:=["row","place"]) (own:=1) (caps:=[5]) rfl rO.nd rfl rfl (rB K rfl (pv 3)) (show gM nD (cg xl) ["row","place"] 1 [5] _ from .mk' (by decide +kernel)) (λ_ _ _ _ _=>de (i:=0) HP rfl (.inl rfl)) (λ_ _ _ _ _=>vg (df sU (br (bX K rfl) (pv 0) (pv 1) (λ_ _=>rfl)) aW (cN _))) (λ_ _ _ _ _=>pv 0)) (bZ (dQ (LC (pv 6) (λ_=>rfl)) (bo (cy (i:=7) rO.nd rfl (Or.inr rfl) (cV GL hr rfl mL FL.kp bL .nil cW (aR (pv 0) (aR (br (fo K rfl) (pv 6) aW (λ_ _=>rfl)) (aR (pv 5) aY))))) (bo (cy (i:=2) rO.nd rfl (.inl rfl) (bq oy (oC (N:=["row","lead","p","place"]) (own:=1) (caps:=[7,0,5]) rfl (rB K rfl (pv 2)) (show gM nD (cg xl) ["row","lead","p","place"] 1 [7,0,5] _ from .mk' (by decide +kernel)) (λ_ _ _ _ _=>de (i:=0) N8 rfl (.inl rfl)) (λ_ _ _ _ _=>me) (λ_ _ _ _ _=>cV GC hr rfl mC FC.kp bC .nil cW (aR (pv 2) (aR (pv 0) (aR (pv 1) (aR (pv 3) aY)))))) (ip (aR (pv 7) aY)))) (bZ (rm (i:=3) (N:=["row","lead","p","place"]) (own:=1) (caps:=[7,0,5]) rfl rO.nd rfl rfl (rB K rfl (pv 3)) (show gM nD (cg xl) ["row","lead","p","place"] 1 [7,0,5] _ from .mk' (by decide +kernel)) (λ_ _ _ _ _=>de (i:=0) N8 rfl (.inl rfl)) (λ_ _ _ _ _=>me) (λ_ _ _ _ _=>cV GC hr rfl mC FC.kp bC .nil cW (aR (pv 2) (aR (pv 0) (aR (pv 1) (aR (pv 3) aY)))))))))
     eA)))) (bZ (cM (iT (wY K rfl) rfl T.tuple tJ (aR (pv 2) aY))))))),?_⟩
  refine⟨by decide,λld hd=>⟨_,rfl,a,RS,rfl,?_,λlr Ob=>?_⟩⟩
  ·cases b with
   |true=>exact .inl ((aU.upd hd).sq (b:=true) hq)
   |false=>exact .inr ((aU.upd hd).sq (b:=false) hq)
  have tN:aU H (upd (upd H ld (.lst [])) lr (.lst RS)):=(aU.upd hd).trans (.upd Ob);have g1:(upd (upd H ld (.lst [])) lr (.lst RS)) ld=some (.lst []):=by rw[bU (fg bg Ob)];exact bg
  have g2:(upd (upd H ld (.lst [])) lr (.lst RS)) lr=some (.lst RS):=bg;generalize upd (upd H ld (.lst [])) lr (.lst RS)=H1 at tN g1 g2 ⊢;have Oc:=hA.mono tN;have cD:RS.length=rs.length:=jc hA;refine⟨_,rfl,!RS.isEmpty,.inl ⟨RS,.of g2,rfl⟩,?_⟩;by_cases cL:rs=[]
  ·subst cL;have e0:RS=[]:=List.length_eq_zero_iff.mp cD;subst e0;refine eU ?_;refine⟨_,rfl,0,rfl,by decide,by decide,BH (n:=0) (λi σ H'=>H'=H1∧σ=[some (.int p),some (.ref a),some (.ref ld),some (.ref lr),some (.int 0),none,none,none]) ⟨rfl,rfl⟩ (λi σ H' hi=>absurd hi (by lia)) ?_⟩;rintro σ H' ⟨rfl,rfl⟩;exact⟨_,rfl,ld,_,rfl,.inl ⟨.of g1,λt ht=>k t _ [] (tN.trans (.upd ht)) (.of bg) .nil⟩⟩
  ·have e1:rF rs=n:=Cc hR cL;have adx:0<rs.length:=List.length_pos_iff.mpr cL;have hb:(!RS.isEmpty)=true:=by
    cases RS with
    |nil=>rw[wc]at cD;lia
    |cons _ _=>rfl
   rw[hb];refine fU ?_;have Od:RS[0]?=some (RS[0]'(by lia)):=cC _;obtain⟨r0,a0,CJ,Zh,Zi⟩:=tQ Oc Od;have zD:(r0.map V.int).length=n:=by rw[bO];exact(hR r0 (dI CJ)).1
   refine⟨_,rfl,lr,RS,0,_,rfl,rfl,.of g2,cw (j:=0) (Od.trans (aj some Zh)),a0,_,rfl,.inr Zi,?_⟩;rw[zD];refine⟨_,rfl,(n:Int),rfl,by lia,by lia,BH (n:=n) (λi σ H'=>aU H H'∧∃dn vA DS XS s5 s6 s7,σ=[some (.int p),some (.ref a),some (.ref dn),some (.ref vA),some (.int (n:Int)),s5,s6,s7]∧H' dn=some (.lst DS)∧cu K H' DS ((i9 p n rs i).1.map dD)∧H' vA=some (.lst XS)∧cu K H' XS ((i9 p n rs i).2.map dD)) ⟨tN,ld,lr,[],RS,none,none,none,rfl,g1,.nil,g2,Oc⟩ ?_ ?_⟩
   ·rintro i σ H2 hi ⟨sm,dn,vA,DS,XS,s5,s6,s7,rfl,gd,hD,gr,hX⟩;have IO:=GK pp hR i (Nat.le_of_lt hi);have IL:=HK (p:=p) (n:=n) (L:=rs) i;have Zj:i9 p n rs (i+1)=wZ p n (i9 p n rs i) i:=rfl;rw[Zj];generalize i9 p n rs i=st at hD hX IO IL ⊢;refine⟨_,rfl,vA,rfl,⟨_,.of gr⟩,Gm (cp:=[some (.int (0+(i:Int)))]) (λj H' zs=>cu K H' zs (((st.2.take j).filter λr=>r.getD i 0≠0).map dD)) (.of gr) (by rw[jc hX,IL.2];exact Nat.le_of_lt (FI hz)) .nil (λj H' zs h=>by rw[jc h];exact eS (uK _ _) (by rw[dE];lia)) ?_ ?_⟩
    ·rintro j x H' zs ji gP h;obtain⟨r,ra,CK,rfl,gO⟩:=tQ hX ji;have Zk:=IO.r r (dI CK);have HV:i<r.length:=by rw[Zk.1];exact hi
     refine⟨_,rfl,_,rfl,ra,_,(i:Int),_,rfl,aj V.int (pV _),gP.bt gO,cw (CC HV),rfl,_,rfl,HJ (λHS=>?_) (λheq=>?_)⟩
     ·have zE:r.getD i 0≠0:=λz=>HS (aj V.int z);refine⟨_,rfl,⟨[_],rfl,rfl⟩,gP,?_⟩;rw[iB,CK];show cu K H' _ (((st.2.take j++[r]).filter _).map dD);rw[o5,Bk (by simpa using zE),n9,eM];exact h.append (.cons (oF (gP.bt gO)) .nil)
     ·have zF:r.getD i 0=0:=V.int.inj heq;refine⟨⟨[_],rfl,rfl⟩,gP,?_⟩;rw[iB,CK];show cu K H' _ (((st.2.take j++[r]).filter _).map dD);rw[o5,Bl (by simpa using zF),n9,hJ];exact h
    rintro H3 zs nF h3 lh Oe;rw[jc hX,lZ]at h3;have nG:aU H2 (upd H3 lh (.lst zs)):=nF.trans (.upd Oe);have g4:(upd H3 lh (.lst zs)) lh=some (.lst zs):=bg;have h4:=h3.mono (aU.upd Oe (o:=.lst zs));generalize upd H3 lh (.lst zs)=H4 at nG g4 h4 ⊢;refine⟨_,rfl,!zs.isEmpty,.inl ⟨zs,.of g4,rfl⟩,?_⟩;unfold wZ;generalize hf:(st.2.filter λr=>r.getD i 0≠0)=hs at h4 ⊢;cases hs with
    |nil=>
     have:zs=[]:=List.length_eq_zero_iff.mp (jc h4)
     subst this;refine eU ?_;exact⟨sm.trans nG,dn,vA,DS,XS,_,_,_,rfl,nG _ _ gd,hD.mono nG,nG _ _ gr,hX.mono nG⟩
    |cons hd tl=>
     cases zs with
     |nil=>exact absurd (jc h4) (by simp)
     |cons z zs'=>
      obtain⟨r',ha,pB,rfl,Zl⟩:=tQ (i:=0) (x:=z) h4 rfl;have er:hd=r':=dZ pB;subst er;refine fU ?_;have Of:hd∈st.2∧hd.getD i 0≠0:=by
       have:hd∈st.2.filter λr=>r.getD i 0≠0:=by rw[hf];exact cU
       simpa using g8.mp this
      have zG:=IO.r hd Of.1;have HV:i<hd.length:=by rw[zG.1];exact hi
      refine⟨_,rfl,_,rfl,lh,_,0,.ref ha,rfl,rfl,.of g4,cw (j:=0) rfl,_,rfl,p,ha,hd,0+(i:Int),i,rfl,pV _,pp,Zl,HV,by rw[zG.1];exact hn,zG.2,Of.2,λt H6 rQ ht=>?_⟩;have rR:aU H2 H6:=nG.trans rQ;rw[zG.1]at ht;have mn:bj K H6 t ((iO p n hd i).map V.int):=ht;have HW:=Na (place:=i) (show 0<p by lia) zG;dsimp only;generalize iO p n hd i=Og at mn HW ⊢;refine⟨_,rfl,dn,rfl,⟨_,.of (rR _ _ gd)⟩,N9 p2 eC (.of (rR _ _ gd)) (hD.mono rR) IO.d (by lia) hn hi HW.1 mn (λx H1 R h=>⟨_,rfl,_,rfl,_,rfl,_,rfl,h⟩) λH8 lM xo h8 q8 Zm=>?_⟩;refine⟨_,rfl,(by show 1≤sizeLine;decide),λl9 h9=>⟨q8,l9,_,_,rfl,rfl,by rw[bU (fg bg h9)];exact bg,bg,?_,λq9 Zn=>?_⟩⟩
      ·show lM.length+1≤sizeLine;rw[jc h8,bO]
       have:(1000:Nat)<sizeLine:=by decide
       lia
      have tR:aU H8 (upd (upd (upd H8 q8 (.lst lM)) l9 (.lst [.ref t])) q9 (.lst (lM++[.ref t]))):=((aU.upd Zm).trans (.upd h9)).trans (.upd Zn);have g9:(upd (upd (upd H8 q8 (.lst lM)) l9 (.lst [.ref t])) q9 (.lst (lM++[.ref t]))) q9=some (.lst (lM++[.ref t])):=bg;generalize upd (upd (upd H8 q8 (.lst lM)) l9 (.lst [.ref t])) q9 (.lst (lM++[.ref t]))=H9 at tR g9 ⊢;have CL:aU H2 H9:=(rR.trans xo).trans tR;have Oh:=(xo.trans tR).bt mn;refine⟨_,rfl,vA,rfl,⟨_,.of (CL _ _ gr)⟩,N9 p2 eC (.of (CL _ _ gr)) (hX.mono CL) IO.r (by lia) hn hi HW.1 Oh (λx H1 R h=>⟨_,rfl,_,rfl,_,rfl,_,rfl,h⟩) λHb Oi Zo hb qb Oj=>?_⟩;have qq:=Zo.trans (aU.upd Oj (o:=.lst Oi));refine⟨(sm.trans CL).trans qq,q9,qb,_,Oi,_,_,_,rfl,qq _ _ g9,?_,bg,hb.mono (.upd Oj)⟩;show cu K _ _ ((st.1.map (iN p Og i)++[Og]).map dD);rw[eM];exact(h8.mono (tR.trans qq)).append (.cons (oF (qq.bt Oh)) .nil)
   ·rintro σ H' ⟨sm,dn,vA,DS,XS,s5,s6,s7,rfl,gd,hD,gr,hX⟩;refine⟨_,rfl,dn,_,rfl,.inl ⟨.of gd,λt ht=>k t _ DS (sm.trans (.upd ht)) (.of bg) ?_⟩⟩;unfold iy;rw[e1];exact hD.mono (.upd ht)
noncomputable def CM:List (Str×V):=[("times",.int 1),("back",.int 1),("beside",.int 2),("then",.int 2)]
noncomputable def nH(x:Str):Nat:=if x="times"∨x="back" then 1 else if x="beside"∨x="then" then 2 else 0
theorem Zp(x:Str):(PyProof.Rows.KTD.datumAt x CM).getD (.int 0)=.int (nH x):=by
 unfold CM nH;simp only[PyProof.Rows.KTD.datumAt,aF];by_cases h1:x="times"
 ·simp[h1]
 ·by_cases h2:x="back"
  ·simp[h2]
  ·by_cases h3:x="beside"
   ·subst h3;rfl
   ·by_cases h4:x="then"
    ·subst h4;rfl
    ·simp[h1,h2,h3,h4]
theorem Ll(x:Str):nH x≤2:=by
 unfold nH;split
 ·lia
 ·split<;>lia
structure Parts(K:Frag)(mg:Str→Option Value)(aP:Addr):Prop where
 nm:mg "PARTS"=some (.ref aP)
 tab:∀h,K.In h→kq h aP CM
theorem Zq:(["part","values"]:List Str).Nodup:=by decide +kernel
structure xp(k:Nat)(P:Program)(w:World)(K:Frag)(mg:Str→Option Value)(base:Heap)(s:Shared)(H:Hp)(Q:VK)(aw f:Addr)(ws:List V)(R:List V→Hp→VK→Prop)(G:Nat→List V→Hp→Prop):Prop where
 CN:bj K H aw ws
 len:ws.length≤900000
 fn:qo P w K mg base k s H f R
 g0:G ws.length [] H
 mono:∀i vs H1 H2,G i vs H1→eX H1 H2→G i vs H2
 iP:∀i vs H1,G i vs H1→vs.length≤900000
 kind:∀i,i<ws.length→(∃x,ws[i]?=some (.str x))∨∃n,ws[i]?=some (.int n)
 num:∀i n vs H1,ws[i]?=some (.int n)→G (i+1) vs H1→G i (vs++[.int n]) H1
 word:∀i x vs H1,ws[i]?=some (.str x)→G (i+1) vs H1→∃eh ps,vs=eh++ps.reverse∧ps.length=nH x∧
  ∀pa H2 Q',eX H1 H2→H2 pa=some (.lst ps)→(∀v H3,aU H2 H3→G i (eh++[v]) H3→Q' v H3)→R [.int i,.str x,.ref pa] H2 Q'
 first:∃x,ws[0]?=some (.str x)
 fin:∀td aM vs v H',aU H H'→H' td=some (.dK aM)→dG aM (Sum.inl 0)=some v→G 0 (vs++[v]) H'→Q (.ref td) H'
def HX(k:Nat)(P:Program)(w:World)(K:Frag)(mg:Str→Option Value)(base:Heap)(s:Shared):Sp:=λvs H Q _=>∃(aw f:Addr)(ws:List V)(R:List V→Hp→VK→Prop)(G:Nat→List V→Hp→Prop),vs=[.ref aw,.ref f]∧xp k P w K mg base s H Q aw f ws R G
noncomputable abbrev Zr:List Str:=["words","made","told","values","place","word","parts"]
theorem xq:dU ["words","made","told","values","place","word","parts"] ["words","made"] (cg Cr):=eT rfl rfl rfl (by decide +kernel) rfl
def Zs(K:Frag)(aw f td vl:Addr)(ws:List V)(G:Nat→List V→Hp→Prop)(H:Hp)(j:Nat)(σ:St)(H':Hp):Prop:=aU H H'∧∃(s4 s5 s6:Option V)(aM:List (Key×V))(vs:List V),
 σ=[some (.ref aw),some (.ref f),some (.ref td),some (.ref vl),s4,s5,s6]∧H' td=some (.dK aM)∧H' vl=some (.lst vs)∧aM.length≤j∧G (ws.length-j) vs H'∧
 (∀x,ws[ws.length-j]?=some (.str x)→∃eh v,vs=eh++[v]∧dG aM (Sum.inl ((ws.length-j:Nat):Int))=some v)
theorem Ol{k:Nat}{aP:Addr}(F:cO K "all_folded" "all_folded" Cr f fd)(T:Txt mg)(PT:Parts K mg aP):vq P w K mg base (k+1) f fd ["words","made"] (HX k P w K mg base):=by
 refine F.NJ xq (λs vs H Q E h=>?_) (λcq A outer s H vs Q E hr h=>?_)
 ·obtain⟨aw,f,ws,R,G,rfl,_⟩:=h;rfl
 ·obtain⟨aw,fm,ws,R,G,rfl,D⟩:=h;have hu:=hr.units;have zH:=rh hr;refine⟨_,bo (cy (i:=2) xq.nd rfl (.inl rfl) Cf) (bo (cy (i:=3) xq.nd rfl (Or.inr rfl) (ip aY)) (bo (kZ mX rfl (NU rfl T.range (aR (bq qX (iD (lH K rfl) rfl T.len lI (aR (pv 0) aY)) aW) (aR (ni nj aW) (aR (ni nj aW) aY)))) (de (i:=4) xq.nd rfl (.inl rfl)) (bo (cy (i:=5) xq.nd rfl (.inl rfl) (br (bX K rfl) (pv 0) (pv 4) (λ_ _=>rfl))) (bZ (dQ (p8 (iD (Gj (T := "int")) rfl T.isinstance zf (aR (pv 5) (aR (ze rfl T.int vi) aY)))) (bZ (nh (pj mV qP qQ pk (pv 3) (aR (pv 5) aY)))) (bo (rm (N:=["part","values"]) (own:=1) (caps:=[3]) (i:=6) rfl xq.nd rfl rfl (uX rfl T.range (aR (YW PT.tab (yz (v:=.ref _) rfl PT.nm rfl) (pv 5) aW ⟨rfl,rfl,rfl,rfl⟩) aY)) (show gM Zr (cg Cr) ["part","values"] 1 [3] _ from .mk' (by decide +kernel)) (λ_ _ _ _ _=>de (i:=0) Zq rfl (.inl rfl)) (λ_ _ _ _ _=>me) (λ_ _ _ _ _=>NY K rfl (pv 1))) (bo (xb zH (pv 2) (pv 4) (by exact Y1 (i:=1) D.fn hr rfl rfl (.inl rfl) (aR (pv 4) (aR (pv 5) (aR (pv 6) aY)))) rfl) (bZ (nh (pj mV qP qQ pk (pv 3) (aR (jZ zH (pv 2) (pv 4) (λ_ _=>rfl)) aY)))))))))) (bZ (cM (pv 2))))),?_⟩
  have hz:(1000000:Nat)≤sizeLine:=by decide
  have hl:=D.len;intro td zI;refine⟨(by show 0≤sizeLine;lia),λvl tS=>?_⟩;have zJ:vl≠td:=λz=>by rw[z,bg]at tS;cases tS
  have HY:H vl=none:=by rw[bU zJ]at tS;exact tS
  have s2:aU H (upd (upd H td (.dK [])) vl (.lst [])):=(aU.upd zI).trans (.upd tS);refine⟨_,rfl,aw,ws,rfl,.inr (s2.bt D.CN),_,_,rfl,rfl,_,rfl,_,rfl,_,rfl,⟨by lia,by lia⟩,?_⟩;have en:((ws.length:Int)-1+1).toNat=ws.length:=by lia
  rw[en];refine NV (Zs K aw fm td vl ws G H) ⟨s2,none,none,none,[],[],rfl,?_,bg,jf _,D.mono _ _ _ _ D.g0 s2.tup,λx hx=>?_⟩ ?_ ?_
  ·rw[bU (Ne.symm zJ)];exact bg
  ·rw[Nat.sub_zero,iR (ck _)]at hx;cases hx
  ·rintro j σ H' hj ⟨sm,s4,s5,s6,aM,vs,rfl,CO,xr,hk,hG,_⟩;obtain⟨i,hi⟩:∃i,ws.length=i+1+j:=⟨ws.length-1-j,by lia⟩;have e1:(ws.length:Int)-1-(j:Nat)=((i:Nat):Int):=by lia
   have e2:ws.length-j=i+1:=by lia
   have e3:ws.length-(j+1)=i:=by lia
   rw[e1];rw[e2]at hG;have FD:=D.iP _ _ _ hG;rcases D.kind i (by lia)with⟨x,hx⟩|⟨n,hx⟩
   ·obtain⟨eh,ps,rfl,hps,Zt⟩:=D.word i x vs H' hx hG;refine⟨_,rfl,_,rfl,aw,_,((i:Nat):Int),_,rfl,rfl,sm.bt D.CN,cw (j:=i) hx,?_⟩;refine⟨_,rfl,.str x,.type "str",false,rfl,.str x,MQ K,false,rfl,eU ?_⟩;have hpc:=Ll x;refine⟨rfl,_,rfl,x,rfl,((nH x:Nat):Int),by rw[Zp],by lia,by lia,?_⟩;refine YZ (cp:=[some (.ref vl)]) (n:=nH x) (lo:=0) (λk Hx zs=>zs=ps.take k∧Hx vl=some (.lst (eh++(ps.drop k).reverse))∧∀b,b≠vl→Hx b=H' b) (by lia) ⟨rfl,xr,λ_ _=>rfl⟩ (λk Hx zs h=>by rw[h.1];exact List.length_take_le _ _) ?_ ?_
    ·rintro k Hx zs iM ⟨rfl,h1,h2⟩;have cB:k<ps.length:=by lia
     have ex:eh++(ps.drop k).reverse=(eh++(ps.drop (k+1)).reverse)++[ps[k]]:=by rw[List.drop_eq_getElem_cons cB,Bm,hW]
     rw[ex]at h1;refine⟨_,rfl,.inl ⟨rfl,_,.of h1⟩,vl,_,ps[k],rfl,rfl,h1,by simp,xj.mk ⟨?_,?_,λb hb=>?_⟩⟩
     ·rw[iB,cC cB];rfl
     ·rw[bg,List.dropLast_concat]
     ·rw[bU hb];exact h2 b hb
    ·rintro Hx zs ⟨rfl,h1,h2⟩ pa nI;rw[o4 (by lia)];rw[List.drop_eq_nil_of_le (by lia),List.reverse_nil,hJ]at h1;have CP:td≠vl:=Ne.symm zJ;have keep:∀b o,b≠vl→H' b=some o→(upd Hx pa (.lst ps)) b=some o:=λb o nb e=>by
      have h3:Hx b=some o:=by rw[h2 b nb];exact e
      rw[bU (fg h3 nI)];exact h3
     have CQ:aU H (upd Hx pa (.lst ps)):=λb o e=>keep b o (fg e HY) (sm b o e);have tp:eX H' (upd Hx pa (.lst ps)):=λb o e k=>keep b o (λz=>by
      subst z;rw[xr]at e;cases e;rcases k with⟨_,z⟩|⟨_,_,z⟩<;>cases z) e
     have g1:(upd Hx pa (.lst ps)) pa=some (.lst ps):=bg;have g2:(upd Hx pa (.lst ps)) vl=some (.lst eh):=by rw[bU (fg h1 nI)];exact h1
     have g3:(upd Hx pa (.lst ps)) td=some (.dK aM):=keep _ _ CP CO;generalize upd Hx pa (.lst ps)=H2 at CQ tp g1 g2 g3;refine⟨rfl,CQ,_,rfl,_,rfl,_,rfl,CQ,Zt pa H2 _ tp g1 λv H3 s3 Zu=>?_⟩;have HM:eh.length≤900000:=by rw[bY]at FD;lia
     refine⟨_,rfl,_,rfl,td,_,rfl,ql.k (k:=Sum.inl ((i:Nat):Int)) (s3 _ _ g3) (by lia),?_⟩;have HZ:(upd H3 td (.dK (gG aM (Sum.inl ((i:Nat):Int)) v))) vl=some (.lst eh):=by rw[bU zJ];exact s3 _ _ g2
     have Om:(upd H3 td (.dK (gG aM (Sum.inl ((i:Nat):Int)) v))) td=some (.dK (gG aM (Sum.inl ((i:Nat):Int)) v)):=bg;have CS:dG (gG aM (Sum.inl ((i:Nat):Int)) v) (Sum.inl ((i:Nat):Int))=some v:=by rw[Np,af rfl]
     refine⟨_,rfl,.inl ⟨rfl,_,.of HZ⟩,_,rfl,_,rfl,td,v,rfl,CS▸gH.k (k:=Sum.inl ((i:Nat):Int)) Om,vl,eh,_,rfl,rfl,HZ,by lia,?_⟩;refine⟨((CQ.trans s3).put zI).put HY,_,_,_,_,_,rfl,by rw[bU CP];exact Om,bg,?_,?_,λx' _=>⟨eh,v,rfl,by rw[e3];exact CS⟩⟩
     ·have:=Cd aM (Sum.inl ((i:Nat):Int)) v
      lia
     ·rw[e3];exact D.mono _ _ _ _ Zu ((eX.NW (s3 _ _ g3)).trans (eX.lst HZ))
   ·refine⟨_,rfl,_,rfl,aw,_,((i:Nat):Int),_,rfl,rfl,sm.bt D.CN,cw (j:=i) hx,?_⟩;refine⟨_,rfl,.int n,.type "int",true,rfl,.int n,MO K,true,rfl,fU ?_⟩;refine⟨_,rfl,.inl ⟨rfl,_,.of xr⟩,_,rfl,vl,vs,_,rfl,rfl,xr,by lia,?_⟩;have CP:td≠vl:=Ne.symm zJ;refine⟨sm.put HY,_,_,_,aM,_,rfl,by rw[bU CP];exact CO,bg,Nat.le_succ_of_le hk,?_,λx' ji=>?_⟩
    ·rw[e3];exact D.mono _ _ _ _ (D.num i n vs H' hx hG) (eX.lst xr)
    ·rw[e3,hx]at ji;cases ji
  ·rintro σ H' ⟨sm,s4,s5,s6,aM,vs,rfl,CO,xr,hk,hG,hf⟩;obtain⟨x,hx⟩:=D.first;rw[Nat.sub_self]at hG hf;obtain⟨eh,v,rfl,hv⟩:=hf x hx;exact⟨_,rfl,D.fin td aM eh v H' sm CO hv hG⟩
end S21
namespace L2
open PySem PySem.Spec PyProof.Rows
theorem Oo:∀{l:List (Str×Value)}{y:Str}{u:Value},(l.map (·.1)).Nodup→(y,u)∈l→l.lookup y=some u
 | [],_,_,_,h=>(by cases h)
 |(k,v)::r,y,u,nd,h=>by
  have vB:=sG.mp nd;rcases(dX.mp h)with(e|h)
  ·cases e;simp[List.lookup]
  ·have ne:y≠k:=λz=>vB.1 (cY.mpr ⟨(y,u),h,z⟩);have e0:(y==k)=false:=beq_eq_false_iff_ne.mpr ne;rw[sH,e0];exact Oo vB.2 h
theorem Zv{xs:List Str}{us:List Value}{i:Nat}{y:Str}{u:Value}(nd:xs.Nodup)(hl:us.length=xs.length)(h1:xs[i]?=some y)(h2:us[i]?=some u):(xs.zip us).reverse.lookup y=some u:=by
 have em:(xs.zip us).map (·.1)=xs:=by rw[List.map_fst_zip (by lia)]
 refine Oo ?_ (List.mem_reverse.mpr ?_)
 ·rw[List.map_reverse,em];exact List.pairwise_reverse.mpr (nd.imp λh=>Ne.symm h)
 ·exact dI (i:=i) (by rw[EX];exact⟨h1,h2⟩)
structure Oq(xs names:List Str)(scope:Scope)(params:Arguments)(cl:List (Str×Addr)):Prop where
 kind:scope.kind=.function
 co:scope.isCoroutine=false
 gen:scope.isGenerator=false
 nd:xs.Nodup
 cell:∀y∈scope.names,y.2≠.cell
 loc:∀x∈xs,scope.names.lookup x=some .local
 fr:∀y∈names,scope.names.lookup y=some .free
 has:∀y,scope.names.lookup y=some .free→∃c,cl.lookup y=some c
 inj:∀y z c,cl.lookup y=some c→cl.lookup z=some c→y=z
 only:∀y c,cl.lookup y=some c→y∈names
section
variable{P:Program}{w:World}{K:Frag}{mg:Str→Option Value}{base:Heap}
theorem Zw{xs names:List Str}{caps:List V}{qual:Str}{params:Arguments}{body:Expr}{scope:Scope}{cl:List (Str×Addr)}{k:Nat}{s:Shared}{H:Hp}{f:Addr}{R:List V→Hp→VK→Prop}(S:Oq xs names scope params cl)
  (F:NA H f qual params body scope cl) (Hk:∀(pm cq ct:Value)(us:List Value),us.length=xs.length→bindArgs (PySem.W.kla_fn "<lambda>" qual params body scope cl pm cq ct) ⟨us,[]⟩=pure (xs.zip us))
  (Zx:∀(j:Nat)(y:Str),names[j]?=some y→∃c v u,cl.lookup y=some c∧caps[j]?=some v∧RelV v u∧s.heap.IsCell c (some u)∧H c=none) (cD:caps.length=names.length) (len:∀vs H' Q,R vs H' Q→vs.length=xs.length)
  (pf:∀(c:Addr)(A:Around)(outer:List Env)(s':Shared)(H':Hp)(vs:List V)(Q:VK),eW k (A.deeper (PySem.W.envX qual scope s'.heap.objs.size f (.ref c) cl))→aU H H'→R vs H' Q→
   ∃t,PE (Hj P w K mg base (xs++names) qual scope f c cl A outer s' H').l5 body t∧t (vs.map some++caps.map some) H' Q):qo P w K mg base (k+1) s H f R:=by
 obtain⟨c,hf,hc⟩:=F;refine⟨.inl ⟨_,hf,λh ⟨pm,iz,e⟩=>⟨_,_,_,_,e⟩⟩,λA outer s' H' vs us Q hr e0 sm hk rv hQ=>?_⟩;obtain⟨⟨pm,iz,ho⟩,_⟩:=e0.bz f _ (sm _ _ hf);have Zy:s'.heap.CodeRec (.ref c) qual:=(e0.bz c _ (sm _ _ hc)).1;have lim:s'.heap.NoLimit:=e0.mod.nolimit.keeps λb o e=>(e0.bs b o e).1;have hl:=len _ _ _ hQ;have Ot:us.length=xs.length:=by rw[← rv.length];exact hl
 refine PySem.W.kla_callFunE hr.depth ho rfl S.co S.gen rfl Zy ?_;rw[Hk _ _ _ us Ot];refine aq (wpAny_newFunctionEnv S.cell (λz hz=>S.loc _ (v9 hz).1) (λh₁ Ck Ou=>⟨lim.fresh _ Ou,?_⟩) S.kind);show codeAny _ _ (.expr body (PySem.W.envX qual scope s'.heap.objs.size f (.ref c) cl)) _ _;have up:∀b o,s'.heap.get? b=some o→h₁.get? b=some o:=λb o e=>Ou.extBut b o (fu (dB e)) (dj _ e);obtain⟨t,ht,hq⟩:=pf c A outer s' H' vs Q (hr.deeper _) sm hQ;have cells:∀(j:Nat)(y:Str),names[j]?=some y→∃c v u,cl.lookup y=some c∧caps[j]?=some v∧RelV v u∧h₁.IsCell c (some u)∧H' c=none:=λj y hj=>by
  obtain⟨c0,v,u,h1,h2,h3,⟨o,ho,hd⟩,h5⟩:=Zx j y hj;obtain⟨h6,sl,h7⟩:=hk c0 o ho h5;exact⟨c0,v,u,h1,h2,h3,⟨_,up _ _ h7,hd⟩,h6⟩
 have Ov:∀y c,cl.lookup y=some c→∃v,h₁.IsCell c (some v)∧H' c=none:=λy c0 h=>by
  obtain⟨j,hj⟩:=List.getElem?_of_mem (S.only y c0 h);obtain⟨c1,v,u,h1,_,_,h4,h5⟩:=cells j y hj;rw[h]at h1;cases h1;exact⟨u,h4,h5⟩
 have I:Inv (Hj P w K mg base (xs++names) qual scope f c cl A outer s' H') [] (vs.map some++caps.map some) H' { s' with heap:=h₁,toks:=s'.toks+(xs.zip us).length }:=by
  have vc:∀b:Addr,b ∉ (Hj P w K mg base (xs++names) qual scope f c cl A outer s' H').ex:=λb z=>absurd (show b∈([]:List Addr) from z) (by simp)
  refine⟨⟨e0.mod,S.kind,rfl,rfl,ck _,λy z c h1 h2=>S.inj y z c h1 h2,λy hy=>?_,λy c h=>(nomatch h),λ_=>hr.hd,Around.frames_deeper e0.frames,.inr ⟨rfl,rfl⟩,λb z=>absurd z (vc b),e0.bs,e0.qT,λb _ _=>vc b,λb z=>absurd z (vc b),e0.oj,e0.uO⟩,
   rfl,e0.bare,Un.kept up,⟨_,Ck,λi y v h1 h2 h3=>?_⟩,λy c h=>?_,e0.bz.fresh (ck _),λy c h=>?_,λp hp=>absurd (show p∈([]:List (Addr×Obj)) from hp) (by simp),e0.bz.kept up,by show(vs.map some++caps.map some).length=(xs++names).length;simp[cD,hl]⟩
  ·rcases hy with hy|hy
   ·exact absurd rfl (S.cell _ (pS hy))
   ·exact S.has y hy
  ·have h1:(xs++names)[i]?=some y:=h1;by_cases hi:i<xs.length
   ·rw[gS hi]at h1;rw[gS (by simp only[bO];lia),du]at h2;cases ev:vs[i]? with
    |none=>rw[ev]at h2;cases h2
    |some v'=>
     rw[ev]at h2;cases h2;obtain⟨u,hu,ru⟩:=rv.get ev;exact⟨u,ru,.inl ⟨S.loc y (dI h1),Zv S.nd Ot h1 hu⟩⟩
   ·rw[hU (by lia)]at h1;rw[hU (by simp only[bO];lia),bO,hl,du]at h2;obtain⟨c1,v',u,g1,g2,g3,g4,_⟩:=cells _ y h1;rw[g2]at h2;cases h2;exact⟨u,g3,.inr ⟨.inr (S.fr y (dI h1)),c1,g1,g4⟩⟩
  ·obtain⟨v,h4,_⟩:=Ov y c h;exact⟨_,h4⟩
  ·obtain⟨v,_,h5⟩:=Ov y c h;exact h5
 refine PySem.W.kla_codeExpr (ah (ht.l5 [] _ _ H' Q I hq) (λu iS hs=>?_) λe iS z=>ah z (λ_ _ z=>False.elim z) λ_ _ z=>False.elim z);obtain⟨v,iH,J,rv,q⟩:=hs;exact⟨v,iH,J.os,J.bare,J.base,J.bz,rv,q⟩
end
end L2
namespace S21
open PySem L2 Bw
variable{A B:Prop}{D:Ends}{H H1:Hp}{L e i l l' m r r' x:Nat}{Q:VK}{a aB aS b f fD ra t:Addr}{cp σ:St}{fd jk:FuncData}{ns row:List Int}{p:Int}{rows':LL}{t':V}{te:TE}{ts:List Itm}{y:Str}
noncomputable def zK:List Value→List Int→Bool
 | [],[]=>true
 | .int i _::vs,n::ns=>i==n&&zK vs ns
 |_,_=>false
theorem Ia:∀(vs:List Value)(ns:List Int),zK vs ns=true→Vals (ns.map V.int) vs
 | [],[],_=>.nil
 | .int i t::vs,n::ns,h=>by
  have h':(i==n&&zK vs ns)=true:=h;rw[ir]at h';have e:i=n:=beq_iff_eq.mp h'.1;exact .cons ⟨t,by rw[e]⟩ (Ia vs ns h'.2)
 | [],_::_,h=>nomatch h
 | .none::_,[],h=>nomatch h
 |v::vs,[],h=>by cases v<;>exact nomatch h
 |v::vs,n::ns,h=>by
  cases v with
  |int i t=>
   have h':(i==n&&zK vs ns)=true:=h;rw[ir]at h';have e:i=n:=beq_iff_eq.mp h'.1;exact .cons ⟨t,by rw[e]⟩ (Ia vs ns h'.2)
  |_=>exact nomatch h
noncomputable def zL(K:Frag)(t:Addr)(ns:List Int):Bool:=match K.lookup t with
 |some ⟨.type "tuple",_,.seq its _,_⟩=>decide (its.size≤1000)&&zK its.toList ns
 |_=>false
theorem Ow{K:Frag}(h:zL K t ns=true)(H:Hp):bj K H t (ns.map V.int):=by
 unfold zL at h;split at h
 case h_2=>exact nomatch h
 case h_1 d its n sl ho=>
  rw[ir]at h;exact .inr ⟨_,its,n,ho,rfl,rfl,eS (aI h.1) (by decide),Ia _ _ h.2⟩
noncomputable def CT(K:Frag):List Value→LL→Bool
 | [],[]=>true
 | .ref t::vs,r::rs=>zL K t r&&CT K vs rs
 |_,_=>false
theorem Ox{K:Frag}(H:Hp):∀(vs:List Value)(rs:LL),CT K vs rs=true→∃RS,Vals RS vs∧cu K H RS (rs.map dD)
 | [],[],_=>⟨[],.nil,.nil⟩
 | [],_::_,h=>nomatch h
 |v::vs,[],h=>by cases v<;>exact nomatch h
 |v::vs,r::rs,h=>by
  cases v with
  |ref t=>
   have h':(zL K t r&&CT K vs rs)=true:=h;rw[ir]at h';obtain⟨RS,h1,h2⟩:=Ox H vs rs h'.2;exact⟨.ref t::RS,.cons rfl h1,.cons (oF (Ow h'.1 H)) h2⟩
  |_=>exact nomatch h
noncomputable def Ib(K:Frag)(t:Addr)(rs:LL):Bool:=match K.lookup t with
 |some ⟨.type "tuple",_,.seq its _,_⟩=>decide (its.size≤1000)&&CT K its.toList rs
 |_=>false
theorem Zz{K:Frag}{rs:LL}(h:Ib K t rs=true)(H:Hp):∃RS,bj K H t RS∧cu K H RS (rs.map dD):=by
 unfold Ib at h;split at h
 case h_2=>exact nomatch h
 case h_1 d its n sl ho=>
  rw[ir]at h;obtain⟨RS,h1,h2⟩:=Ox H _ _ h.2;exact⟨RS,.inr ⟨_,its,n,ho,rfl,rfl,eS (aI h.1) (by decide),h1⟩,h2⟩
noncomputable def gZ:List (Str×Nat×Nat×LL):=[("id",1,1,[[1,1]]),("swap",2,2,[[1,0,0,1],[0,1,1,0]]),("copy",1,2,[[1,1,1]]),("end",1,0,[[1]]),("add",2,1,[[1,0,1],[0,1,1]]),("none",0,1,[]),("cup",0,2,[[1,1]]),("empty",0,0,[])]
noncomputable def zM(K:Frag)(aS aB:Addr):Bool:=Co K aS&&Co K aB&&gZ.all λe=>
 (match PyProof.Rows.KTD.datumAt e.1 (qm K aS)with|some (.ref t)=>zL K t [(e.2.1:Int),(e.2.2.1:Int)] | _=>false) &&
 (match PyProof.Rows.KTD.datumAt e.1 (qm K aB)with|some (.ref t)=>Ib K t e.2.2.2|_=>false)
structure qt(K:Frag)(mg:Str→Option Value)(aS aB:Addr):Prop where
 Oy:mg "SIDES"=some (.ref aS)
 ZA:mg "BOX_ROWS"=some (.ref aB)
 ok:zM K aS aB=true
theorem qt.tabS{K:Frag}{mg:Str→Option Value}(B:qt K mg aS aB):∀h,K.In h→kq h aS (qm K aS):=λh X=>by
 have z:=B.ok;unfold zM at z;rw[ir,ir]at z;exact Hm X z.1.1
theorem qt.ZC{K:Frag}{mg:Str→Option Value}(B:qt K mg aS aB):∀h,K.In h→kq h aB (qm K aB):=λh X=>by
 have z:=B.ok;unfold zM at z;rw[ir,ir]at z;exact Hm X z.1.2
theorem qt.at_{K:Frag}{mg:Str→Option Value}(B:qt K mg aS aB){x:Str}{aQ:LL}(h:(x,l,r,aQ)∈gZ) :
  (∃t,PyProof.Rows.KTD.datumAt x (qm K aS)=some (.ref t)∧∀H,bj K H t [.int (l:Int),.int (r:Int)])∧∃t,PyProof.Rows.KTD.datumAt x (qm K aB)=some (.ref t)∧∀H,∃RS,bj K H t RS∧cu K H RS (aQ.map dD):=by
 have z:=B.ok;unfold zM at z;rw[ir]at z;have z2:=pU.mp z.2 _ h;rw[ir]at z2;obtain⟨z3,z4⟩:=z2;constructor
 ·split at z3
  ·rename_i t e
   exact⟨t,e,λH=>Ow z3 H⟩
  ·exact nomatch z3
 ·split at z4
  ·rename_i t e
   exact⟨t,e,λH=>Zz z4 H⟩
  ·exact nomatch z4
def Ic(K:Frag):Sp:=λvs H Q _=>∃(i:Int)(x:Str)(pa:Addr)(l r:Nat)(aQ:LL),vs=[.int i,.str x,.ref pa]∧(x,l,r,aQ)∈gZ∧oD K H [.int (l:Int),.int (r:Int),.da] Q
theorem ZD:dU ["place","word","parts","unmet"] ["place","word","parts"] (cg Ct):=eT rfl rfl rfl (by decide +kernel) rfl
theorem ZE(F:cO K "measure" "measure" Ct f fd)(B:qt K mg aS aB):cj P w K mg base cb 1 f fd ["place","word","parts"] (Ic K):=by
 refine F.ok ZD (λvs H Q E h=>?_) (λcq A outer s H vs Q E hr h=>?_)
 ·obtain⟨i,x,pa,l,r,aQ,rfl,_⟩:=h;rfl
 ·obtain⟨i,x,pa,l,r,aQ,rfl,hx,q⟩:=h;obtain⟨⟨t,e,ht⟩,_⟩:=B.at_ hx;refine⟨_,bo (dQ (yB (YU B.tabS (pv 1) (yz (v:=.ref _) rfl B.Oy rfl)) rfl) (bZ (cM (bq (dJ K rfl) (NR B.tabS (yz (v:=.ref _) rfl B.Oy rfl) (pv 1) (λ_ _=>rfl)) (dm (aR Ux aY))))) eA) UL,?_⟩;refine⟨_,rfl,x,rfl,rfl,_,rfl,?_⟩;rw[e];refine fU ⟨_,rfl,x,_,rfl,rfl,e,(by show 1≤sizeLine;decide),λt1 g1=>?_⟩;exact⟨t,t1,_,_,rfl,rfl,ht _,.of bg,(by show 2+1≤sizeLine;decide),λa' H' s' h'=>q a' H' ((aU.upd g1).trans s') h'⟩
theorem qo.on{X:Cx}{aL:List (Addr×Obj)}{s1:Shared}{k:Nat}{R:List V→Hp→VK→Prop}(I:Inv X aL σ H1 s1)(hex:X.ex=[])(sm:aU X.H₀ H1)(L:qo P w K mg base k X.s₀ X.H₀ f R):qo P w K mg base k s1 H1 f R:=by
 refine⟨?_,λA outer s' H' vs us Q hr e0 gP hk rv hQ=>L.run A outer s' H' vs us Q hr e0 (sm.trans gP) (λc o hc hn=>?_) rv hQ⟩
 ·rcases L.here with⟨φ,h1,h2⟩|h
  ·exact .inl ⟨φ,sm _ _ h1,h2⟩
  ·exact .inr h
 ·have zu:c ∉ X.ex:=by rw[hex];simp
  obtain⟨sl,h3⟩:=I.base.any hc hn zu;obtain⟨h4,E3,h5⟩:=hk c _ h3 (I.base.free c o hc hn zu);exact⟨h4,E3,h5⟩
theorem xp.on{k:Nat}{X:Cx}{aL:List (Addr×Obj)}{σ:St}{H1:Hp}{s1:Shared}{Q Q1:VK}{aw f:Addr}{ws:List V}{R:List V→Hp→VK→Prop}{G:Nat→List V→Hp→Prop}(I:Inv X aL σ H1 s1)(hex:X.ex=[])(sm:aU X.H₀ H1)
  (D:xp k P w K mg base X.s₀ X.H₀ Q aw f ws R G) (q:∀u H',aU H1 H'→Q u H'→Q1 u H'):xp k P w K mg base s1 H1 Q1 aw f ws R G:=
 ⟨sm.bt D.CN,D.len,qo.on I hex sm D.fn,D.mono _ _ _ _ D.g0 sm.tup,D.mono,D.iP,D.kind,D.num,D.word,D.first,λtd aM vs v H' s' h1 h2 h3=>q _ _ s' (D.fin td aM vs v H' (sm.trans s') h1 h2 h3)⟩
def ZF(Q:VK):VK:=λu H'=>∃td aM v,u=.ref td∧H' td=some (.dK aM)∧dG aM (Sum.inl 0)=some v∧Q v H'
def Oz(k:Nat)(P:Program)(w:World)(K:Frag)(mg:Str→Option Value)(base:Heap)(s:Shared):Sp:=λvs H Q _=>∃(aw f:Addr)(ws:List V)(R:List V→Hp→VK→Prop)(G:Nat→List V→Hp→Prop),vs=[.ref aw,.ref f]∧xp k P w K mg base s H (ZF Q) aw f ws R G
theorem ZG:dU ["words","made"] ["words","made"] (cg Hq):=eT rfl rfl rfl (by decide +kernel) rfl
theorem ZH{k:Nat}{fA:Addr}{ky:FuncData}(F:cO K "folded" "folded" Hq f fd)
  (GA:vq P w K mg base (k+1) fA ky ["words","made"] (HX k P w K mg base)) (kA:Kp K fA) (bA:Binds K ky ["words","made"] []) (mA:Mg mg "all_folded" fA):vq P w K mg base (k+2) f fd ["words","made"] (Oz k P w K mg base):=by
 refine F.NJ ZG (λs vs H Q E h=>?_) (λcq A outer s H vs Q E hr h=>?_)
 ·obtain⟨aw,f,ws,R,G,rfl,_⟩:=h;rfl
 ·obtain⟨aw,fm,ws,R,G,rfl,D⟩:=h;refine⟨_,bZ (cM (jZ (rh hr) (Hi GA hr rfl mA kA bA (aR (pv 0) (aR (pv 1) aY))) aW (λ_ _=>rfl))),?_⟩;refine⟨_,rfl,_,rfl,λaL s1 I=>⟨aw,fm,ws,R,G,rfl,xp.on I rfl (.refl _) D λu H' _ ⟨td,aM,v,e,h1,h2,h3⟩=>?_⟩⟩;exact⟨td,v,e,h2▸gH.k (k:=Sum.inl 0) h1,h3⟩
def OA(K:Frag):Sp:=λvs H Q _=>∃(aw:Addr)(x:Str)(l r:Nat)(aQ:LL),vs=[.ref aw]∧bj K H aw [.str x]∧(x,l,r,aQ)∈gZ∧∀v H',aU H H'→bj K H' v [.int (l:Int),.int (r:Int),.da]→Q (.ref v) H'
theorem OB:∀e∈gZ,nH e.1=0:=by decide +kernel
theorem ZI:dU ["words"] ["words"] (cg Hr):=eT rfl rfl rfl (by decide +kernel) rfl
theorem ZJ{fF fM:Addr}{tT oK:FuncData}(F:cO K "measured" "measured" Hr f fd)
  (GF:vq P w K mg base 3 fF tT ["words","made"] (Oz 1 P w K mg base)) (kF:Kp K fF) (bF:Binds K tT ["words","made"] []) (mF:Mg mg "folded" fF)
  (GM:cj P w K mg base cb 1 fM oK ["place","word","parts"] (Ic K)) (FM:cO K "measure" "measure" Ct fM oK) (bM:Binds K oK ["place","word","parts"] []) (mM:Mg mg "measure" fM):cj P w K mg base cb 4 f fd ["words"] (OA K):=by
 refine F.ok ZI (λvs H Q E h=>?_) (λcq A outer s H vs Q E hr h=>?_)
 ·obtain⟨aw,x,l,r,aQ,rfl,_⟩:=h;rfl
 ·obtain⟨aw,x,l,r,aQ,rfl,hw,hx,q⟩:=h;refine⟨_,bZ (cM (Hi GF hr rfl mF kF bF (aR (pv 0) (aR (yz (v:=.ref _) rfl mM rfl) aY)))),?_⟩;refine⟨_,rfl,λaL s1 I=>⟨aw,fM,[.str x],λvs H' Q=>Ic K vs H' Q E0,λi vs H'=>(i=1∧vs=[])∨(i=0∧∃v,vs=[.ref v]∧bj K H' v [.int (l:Int),.int (r:Int),.da]),rfl,?_⟩⟩;refine⟨hw,by simp,qo.Y0 GM FM bM,.inl ⟨rfl,rfl⟩,λi vs H1 H2 h tp=>?_,λi vs H1 h=>?_,λi hi=>?_,λi n vs H1 h=>?_,λi y vs H1 h g=>?_,⟨x,rfl⟩,λtd aM vs v H' s' h1 h2 h3=>?_⟩
  ·rcases h with h|⟨h1,v,h2,h3⟩
   ·exact .inl h
   ·exact .inr ⟨h1,v,h2,tp.bt h3⟩
  ·rcases h with⟨_,h⟩|⟨_,v,h,_⟩<;>(rw[h];simp)
  ·have:i=0:=by simpa using hi
   subst this;exact .inl ⟨x,rfl⟩
  ·match i,h with
   |0,h=>cases h
   |_+1,h=>cases h
  ·match i,h with
   |0,h=>
    cases h;rcases g with⟨_,g⟩|⟨g,_⟩
    ·refine⟨[],[],by rw[g];rfl,(OB _ hx).symm,λpa H2 Q' tp hp hq=>⟨_,x,pa,l,r,aQ,rfl,hx,λv H3 s3 hv=>hq (.ref v) H3 s3 (.inr ⟨rfl,v,rfl,hv⟩)⟩⟩
    ·exact absurd g (by decide)
   |_+1,h=>cases h
  ·rcases h3 with⟨z,_⟩|⟨_,v',z,hv⟩
   ·exact absurd z (by decide)
   ·have e:vs=[]∧v=.ref v':=by
     cases vs with
     |nil=>exact⟨rfl,by simpa using z⟩
     |cons a vs=>simp at z
    obtain⟨rfl,rfl⟩:=e;exact⟨td,aM,_,rfl,h1,h2,q v' H' s' hv⟩
def Ie(K:Frag):Sp:=λvs H Q _=>∃(aw:Addr)(x:Str)(l r:Nat)(aQ:LL),vs=[.ref aw]∧bj K H aw [.str x]∧(x,l,r,aQ)∈gZ∧∀v H',aU H H'→bj K H' v [.int (l:Int),.int (r:Int)]→Q (.ref v) H'
theorem ZK:dU ["words"] ["words"] (cg Ho):=eT rfl rfl rfl (by decide +kernel) rfl
theorem ZL{fM:Addr}{oK:FuncData}(F:cO K "wires" "wires" Ho f fd)
  (GM:cj P w K mg base cb 4 fM oK ["words"] (OA K)) (kM:Kp K fM) (bM:Binds K oK ["words"] []) (mM:Mg mg "measured" fM):cj P w K mg base cb 5 f fd ["words"] (Ie K):=by
 refine F.ok ZK (λvs H Q E h=>?_) (λcq A outer s H vs Q E hr h=>?_)
 ·obtain⟨aw,x,l,r,aQ,rfl,_⟩:=h;rfl
 ·obtain⟨aw,x,l,r,aQ,rfl,hw,hx,q⟩:=h;refine⟨_,bZ (cM (jV (ko K rfl) (cV GM hr rfl mM kM bM .nil cW (aR (pv 0) aY)) ki (i7 aW))),?_⟩;refine⟨_,rfl,aw,x,l,r,aQ,rfl,hw,hx,λv H1 s1 hv=>?_⟩;exact⟨_,rfl,v,_,rfl,hv,λt H2 s2 ht=>q t H2 (s1.trans s2) ht⟩
def fX(K:Frag)(H:Hp)(a:Addr)(l r:Nat)(aQ:LL):Prop:=∃(t:Addr)(RS:List V),bj K H a [.int (l:Int),.int (r:Int),.ref t]∧bj K H t RS∧cu K H RS (aQ.map dD)
theorem cu.OC{K:Frag}{H H':Hp}(s:eX H H'):∀{RS:List V}{aQ:LL},cu K H RS (aQ.map dD)→cu K H' RS (aQ.map dD)
 | [],[],_=>.nil
 |_::_,[],h=>nomatch h
 | [],_::_,h=>nomatch h
 |v::RS,r::aQ,.cons h q=>by
  refine .cons ?_ (cu.OC s q);have h:jj K H v (.tuple (r.map .int)):=h;cases h with
  |tuple h1 h2=>
   have e:=cu.Gk h2;subst e;exact oF (s.bt h1)
theorem fX.tup{K:Frag}{H':Hp}{aQ:LL}(h:fX K H a l r aQ)(s:eX H H'):fX K H' a l r aQ:=by
 obtain⟨t,RS,h1,h2,h3⟩:=h;exact⟨t,RS,s.bt h1,s.bt h2,cu.OC s h3⟩
noncomputable def iV(l r:Nat)(row:List Int):List Int:=(row.drop l).take r++(row.take l++row.drop (l+r))
theorem xt{r:List Int}{k:Nat}(h:k≤r.length):jW (r.map V.int) none (some (k:Int))=(r.take k).map V.int:=by
 unfold jW;rw[HT.BL,HT.LK,List.drop_zero,Nat.sub_zero,bO,Nat.min_eq_left h,List.map_take]
theorem xu{r:List Int}{k:Nat}(h:k≤r.length):jW (r.map V.int) (some (k:Int)) none=(r.drop k).map V.int:=by
 unfold jW;rw[HT.BL,HT.LK,bO,Nat.min_eq_left h,o4 (by simp),List.map_drop]
theorem Ig{r:List Int}{j k:Nat}(h:j+k≤r.length):jW (r.map V.int) (some (j:Int)) (some ((j+k:Nat):Int))=((r.drop j).take k).map V.int:=by
 unfold jW;rw[HT.BL,HT.BL,bO,Nat.min_eq_left h,Nat.min_eq_left (by lia),List.map_take,List.map_drop,Nat.add_sub_cancel_left]
theorem ZM(h:row.length=l+r+x):(iV l r row).length=r+l+x:=by
 unfold iV;simp only[bY,dE,iK];lia
theorem zN(h:Rw p (l+r+x) row):Rw p (r+l+x) (iV l r row):=by
 refine⟨ZM h.1,λx hx=>h.2 x ?_⟩;unfold iV at hx;rcases(dq.mp hx)with z|z
 ·exact uL (wd z)
 ·rcases(dq.mp z)with z|z
  ·exact wd z
  ·exact uL z
theorem ZN:(["row","behind","left"]:List Str).Nodup:=by decide +kernel
def Ih(K:Frag):Sp:=λvs H Q _=>∃(p:Int)(a:Addr)(l r x:Nat)(aQ:LL),vs=[.int p,.ref a]∧p∈dW∧fX K H a l r aQ∧l≤100∧r≤100∧x≤200∧aQ.length≤500∧cP p (l+r+x) aQ∧∀v H',aU H H'→fX K H' v r l (iy p (aQ.map (iV l r)))→Q (.ref v) H'
noncomputable abbrev ZO:List Str:=["p","one","left","behind"]
theorem Ii:dU ["p","one","left","behind"] ["p","one"] (cg Cu):=eT rfl rfl rfl (by decide +kernel) rfl
theorem ZP(F:cO K "form_of_back" "form_of_back" Cu f fd)
  (GD:cj P w K mg base cb 3 fD jk ["p","rows"] (vz K)) (kD:Kp K fD) (bD:Binds K jk ["p","rows"] []) (mD:Mg mg "reduced" fD):cj P w K mg base cb 4 f fd ["p","one"] (Ih K):=by
 refine F.ok Ii (λvs H Q E h=>?_) (λcq A outer s H vs Q E hr h=>?_)
 ·obtain⟨p,a,l,r,x,aQ,rfl,_⟩:=h;rfl
 ·obtain⟨p,a,l,r,x,aQ,rfl,pp,⟨t,RS,h1,h2,h3⟩,hl,pB,ady,hz,hR,q⟩:=h;have rS:(1000:Nat)≤sizeLine:=by decide
  refine⟨_,bo (cy (i:=2) Ii.nd rfl (Or.inr rfl) (br (bX K rfl) (pv 1) aW (λ_ _=>rfl))) (bo (cy (i:=3) Ii.nd rfl (Or.inr rfl) (bq fi (pv 2) (br (bX K rfl) (pv 1) aW (λ_ _=>rfl)))) (bZ (cM (dm (aR (br (bX K rfl) (pv 1) aW (λ_ _=>rfl)) (aR (pv 2) (aR (cV GD hr rfl mD kD bD .nil cW (aR (pv 0) (aR (oC (N:=["row","behind","left"]) (own:=1) (caps:=[3,2]) rfl (tI K rfl (br (bX K rfl) (pv 1) aW (λ_ _=>rfl))) (show gM ZO (cg Cu) ["row","behind","left"] 1 [3,2] _ from .mk' (by decide +kernel)) (λ_ _ _ _ _=>de (i:=0) ZN rfl (.inl rfl)) (λ_ _ _ _ _=>me) (λ_ _ _ _ _=>bq (dJ K rfl) (bq (dJ K rfl) (jV (ko K rfl) (pv 0) (i7 (pv 2)) (i7 (pv 1))) (jV (ko K rfl) (pv 0) ki (i7 (pv 2)))) (jV (ko K rfl) (pv 0) (i7 (pv 1)) ki))) aY))) aY))))))),?_⟩
  have CI:=jc h3;refine⟨_,rfl,a,_,0,_,rfl,rfl,h1,cw (j:=0) rfl,?_⟩;refine⟨_,rfl,_,rfl,a,_,1,_,rfl,rfl,h1,cw (j:=1) rfl,_,_,rfl,rfl,?_⟩;refine⟨_,rfl,a,_,1,_,rfl,rfl,h1,cw (j:=1) rfl,_,rfl,_,rfl,_,rfl,a,_,2,_,rfl,rfl,h1,cw (j:=2) rfl,t,rfl,⟨_,h2⟩,?_⟩;refine zc (xs:=RS) (cp:=[some (.int ((l:Int)+(r:Int))),some (.int (l:Int))]) (λi H' zs=>cu K H' zs (((aQ.map (iV l r)).take i).map dD)) h2 (by lia) .nil (λi H' zs h=>by rw[jc h,dE];exact we _ _) ?_ ?_
  ·rintro i v H2 zs hv sm h;obtain⟨OD,ra,tU,rfl,gO⟩:=tQ h3 hv;have cD:=(hR OD (dI tU)).1;have CU:(l:Int)+(r:Int)=((l+r:Nat):Int):=by lia
   rw[CU];refine rE ⟨_,rfl,_,rfl,_,rfl,_,rfl,_,rfl,ra,_,rfl,sm.bt gO,λt1 H3 s3 iQ=>?_⟩;rw[Ig (by lia)]at iQ;refine⟨_,rfl,_,rfl,_,rfl,ra,_,rfl,(sm.trans s3).bt gO,λt2 H4 s4 nJ=>?_⟩;rw[xt (by lia)]at nJ;refine⟨t1,t2,_,_,rfl,rfl,s4.bt iQ,nJ,by simp only[bO,dE,iK];lia,λt3 H5 s5 Ij=>?_⟩;have OE:=s3.trans (s4.trans s5);refine⟨_,rfl,_,rfl,_,rfl,ra,_,rfl,(sm.trans OE).bt gO,λt4 H6 s6 OF=>?_⟩;rw[xu (by lia)]at OF;refine⟨t3,t4,_,_,rfl,rfl,s6.bt Ij,OF,by simp only[bO,bY,dE,iK];lia,λt5 H7 s7 OG=>?_⟩;have OH:=OE.trans (s6.trans s7);refine⟨⟨[_],rfl,rfl⟩,sm.trans OH,?_⟩;rw[← eM,← eM,hW]at OG;have e:(aQ.map (iV l r))[i]?=some (iV l r OD):=by rw[du,tU];rfl
   rw[iB,e];show cu K H7 _ (((aQ.map (iV l r)).take i++[_]).map dD);rw[eM];exact(h.mono OH).append (.cons (oF OG) .nil)
  rintro H1 ZS sm hZ lz jx;rw[o4 (by rw[bO];lia)]at hZ;have s1:aU H (upd H1 lz (.lst ZS)):=sm.trans (.upd jx);refine⟨p,lz,true,ZS,aQ.map (iV l r),r+l+x,rfl,pp,.of bg,hZ.mono (.upd jx),by rw[bO];lia,by lia,λx hx=>?_,λt2 H2 DS s2 nJ vC=>?_⟩
  ·obtain⟨y,hy,rfl⟩:=cY.mp hx;exact zN (hR y hy)
  ·refine⟨(by show 3≤sizeLine;lia),λv hv=>q v _ (s1.trans (s2.trans (.upd hv))) ⟨t2,DS,.of bg,(aU.upd hv).bt nJ,vC.mono (.upd hv)⟩⟩
theorem ZQ:∀e∈gZ,e.1 ≠ "back"∧e.1 ≠ "beside"∧e.1 ≠ "then"∧e.1 ≠ "times":=by decide +kernel
theorem qu{x:Str}(h:x≠y)(b:B):if decide (V.str x=V.str y)=true then A else B:=by
 rw[ae (λz=>h (V.str.inj z))];exact eU b
theorem zO{x:V}(a:A):if decide (x=x)=true then A else B:=by
 rw[aC rfl];exact fU a
theorem ZR{b:Bool}(h:b=false)(q:B):if(if false=true then !b else b)=true then A else B:=by
 subst h;simpa using q
theorem OI{ts es:List Expr}{k:Nat}{pos:Pos}{env:Env}:starEach (.Tuple ts k pos::es) env=(false,eval (.Tuple ts k pos) env)::starEach es env:=by rfl
theorem Ik{c:Const}{k:Nat}{es:List Expr}{pos:Pos}{env:Env}:starEach (.Constant c k pos::es) env=(false,eval (.Constant c k pos) env)::starEach es env:=by rfl
theorem ZT:("times":Str) ≠ "back":=by decide +kernel
theorem ZU:("times":Str) ≠ "beside":=by decide +kernel
theorem ZV:("times":Str) ≠ "then":=by decide +kernel
inductive CV(K:Frag)(p:Int)(x:Str)(ps:List V)(H:Hp)(Q:VK):Prop where
 |back (a:Addr) (l r e:Nat) (aQ:LL) (hx:x="back") (hp:ps=[.ref a]) (hf:fX K H a l r aQ) (hl:l≤100) (hr:r≤100) (he:e≤200) (hz:aQ.length≤500) (hR:cP p (l+r+e) aQ) (q:∀v H',aU H H'→fX K H' v r l (iy p (aQ.map (iV l r)))→Q (.ref v) H'):CV K p x ps H Q
 |times (n:Int) (hx:x="times") (hp:ps=[.int n]) (q:∀v H',aU H H'→fX K H' v 1 1 [[1,n]]→Q (.ref v) H'):CV K p x ps H Q
 |box (l r:Nat) (aQ:LL) (hx:(x,l,r,aQ)∈gZ) (q:∀v H',aU H H'→fX K H' v l r aQ→Q (.ref v) H'):CV K p x ps H Q
theorem ZW:dU ["p","word","parts"] ["p","word","parts"] (cg Hu):=eT rfl rfl rfl (by decide +kernel) rfl
def OJ(K:Frag):Sp:=λvs H Q _=>∃(aw:Addr)(ws:List V),vs=[.ref aw]∧bj K H aw ws∧ws.all qg=true∧Fx (.str "late") ws=false∧Q .da H
theorem ZX:dU ["words"] ["words"] (cg Ht):=eT rfl rfl rfl (by decide +kernel) rfl
theorem ZY(F:cO K "refuse_late" "refuse_late" Ht f fd):cj P w K mg base cb 1 f fd ["words"] (OJ K):=by
 refine F.ok ZX (λvs H Q E h=>?_) (λcq A outer s H vs Q E hr h=>?_)
 ·obtain⟨aw,ws,rfl,_⟩:=h;rfl
 ·obtain⟨aw,ws,rfl,hw,hf,hn,q⟩:=h;refine⟨_,bZ (dQ (df (Xs K rfl) dM (pv 0) rfl) (bZ UK) eA),?_⟩;exact⟨_,rfl,aw,ws,rfl,.inr hw,rfl,hf,_,rfl,ZR hn q⟩
noncomputable def del(Pt:Addr)(H:Hp):Hp:=λb=>if b=Pt then none else H b
section
variable{K:Frag}{H H':Hp}{Pt a b:Addr}{ps:Array Value}{xs:List V}{o:HO}
theorem rT(h:b≠Pt):del Pt H b=H b:=ag h
theorem vD(e:del Pt H b=some o):b≠Pt∧H b=some o:=by
 by_cases hb:b=Pt
 ·rw[del,af hb]at e;cases e
 ·exact⟨hb,(rT hb).symm.trans e⟩
theorem cZ.same(h:cZ Pt H H'):aU (del Pt H) H':=λb o e=>h b o (vD e).2 (vD e).1
theorem aU.del(h:aU H H'):aU (del Pt H) (del Pt H'):=λb o e=>by rw[rT (vD e).1];exact h b o (vD e).2
theorem ZZ(hP:H Pt=some (.iu ps))(e:H b=some o)(hn:∀ps,o≠.iu ps):b≠Pt:=λz=>by
 rw[z,hP]at e;exact hn _ (dZ e).symm
theorem CW(hP:H Pt=some (.iu ps))(e:H b=some o)(hn:∀ps,o≠.iu ps):del Pt H b=some o:=by rw[rT (ZZ hP e hn)];exact e
theorem bj.del(hP:H Pt=some (.iu ps))(h:bj K H a xs):bj K (del Pt H) a xs:=by
 rcases h with(h|⟨o,h⟩)|h
 ·exact .inl (.inl (CW hP h λ_ z=>nomatch z))
 ·exact .inl (.inr ⟨o,CW hP h λ_ z=>nomatch z⟩)
 ·exact .inr h
end
theorem _root_.L2.j5.tab{Pt:Addr}{pos:Pos}{qual:Str}(h:j5 H Pt pos qual):∃ps,H Pt=some (.iu ps):=by
 rcases h with h|⟨c,h,_⟩
 ·exact⟨_,h⟩
 ·exact⟨_,h⟩
theorem _root_.L2.j5.mono{H':Hp}{Pt:Addr}{pos:Pos}{qual:Str}(h:j5 H Pt pos qual)(e:aU H H'):j5 H' Pt pos qual:=by
 rcases h with h|⟨c,h,h2⟩
 ·exact .inl (e _ _ h)
 ·exact .inr ⟨c,e _ _ h,e _ _ h2⟩
noncomputable def qv(e:Expr):Pos:=match e with
 | .Lambda _ _ _ q=>q
 |_=>⟨0,0,0,0⟩
noncomputable def Z0(e:Expr):Arguments:=match e with
 | .Lambda a _ _ _=>a
 |_=>{ posonlyargs:=[],args:=[],vararg:=none,kwonlyargs:=[],kw_defaults:=[],kwarg:=none,defaults:=[] }
noncomputable def CY(e:Expr):Scope:=match e with
 | .Lambda _ _ s _=>s
 |_=>{ kind:=.function,names:=[],isGenerator:=false,isCoroutine:=false }
noncomputable def Z1(st:Stmt)(i:Nat):Expr:=match(md st).getD i (.Pass ⟨0,0,0,0⟩) with
 | .Return (some (.Call _ [_,e] _ _)) _=>e
 |_=>.Constant .none 0 ⟨0,0,0,0⟩
noncomputable abbrev lN:Expr:=Z1 ku 1
noncomputable abbrev qw:Str := "forms"++".<locals>."++"<lambda>"
noncomputable def zP(L:Nat):Addr:=((cellsFrom (L+1) (cg ku).names []).lookup ("p":Str)).getD 0
noncomputable abbrev zQ(L:Nat):List (Str×Addr):=[("p",zP L)]
theorem Z2{L:Addr}{cq:Value}:closureFor (CY lN) (PyProof.Rows.envOfC "forms" (cg ku) L f cq)=pure (zQ L):=rfl
theorem OK:(cellsFrom (L+1) (cg ku).names []).lookup ("p":Str)=some (zP L):=by
 obtain⟨c,hc⟩:=Fp (n:=L+1) (sc:=cg ku) (x := "p") rfl;unfold zP;rw[hc];rfl
theorem OL{c:Addr}(h:(zQ L).lookup y=some c):y="p":=by
 rcases(dX.mp (pS h))with e|e
 ·cases e;rfl
 ·cases e
theorem ON{c:Addr}(h:(zQ L).lookup y=some c):(cellsFrom (L+1) (cg ku).names []).lookup y=some c:=by
 have e:=OL h;subst e;rw[OK];exact h
theorem Z3(Z4:∀y z c,(cellsFrom (L+1) (cg ku).names []).lookup y=some c→(cellsFrom (L+1) (cg ku).names []).lookup z=some c→y=z):Oq ["place","word","parts"] ["p"] (CY lN) (Z0 lN) (zQ L):=by
 have fr:∀y∈(["p"]:List Str),(CY lN).names.lookup y=some .free:=by decide +kernel
 have only:∀z∈(CY lN).names,z.2=.free→z.1∈(["p"]:List Str):=by decide +kernel
 refine⟨rfl,rfl,rfl,by decide +kernel,by decide +kernel,by decide +kernel,fr,λy hy=>?_,λy z c h1 h2=>Z4 y z c (ON h1) (ON h2),λy c h=>by rw[OL h];exact cU⟩;have e:y="p":=cJ.mp (only _ (pS hy) rfl);exact⟨_,by rw[e];rfl⟩
theorem Z5:nH "back"=1:=by decide +kernel
theorem Z6:nH "times"=1:=by decide +kernel
theorem Z7:dU ["p","words"] ["p","words"] (cg ku):=eT rfl rfl rfl (by decide +kernel) rfl
theorem Z8:dU ["p","words"] ["p","words"] (cg Hs):=eT rfl rfl rfl (by decide +kernel) rfl
def eQ(te:TE)(σ:St)(H:Hp)(k:Int):Prop:=∀H',aU H H'→∀R:VK,R (.int k) H'→te σ H' R
def mq(K:Frag)(te:TE)(σ:St)(H:Hp)(ns:List Int):Prop:=∀H',aU H H'→∀R:VK,(∀v iH,aU H' iH→bj K iH v (ns.map V.int)→R (.ref v) iH)→te σ H' R
def CZ(to:TO)(σ:St)(H:Hp)(k:Option Int):Prop:=∀H',aU H H'→∀R:Option Int→Hp→Prop,R k H'→to σ H' R
section
variable{K:Frag}{σ:St}{H:Hp}
theorem jO{k:Int}:eQ (tC (.int k)) σ H k:=λ_ _ _ q=>q
theorem c9{k:Int}(h:σ[i]?=some (some (.int k))):eQ (aX i) σ H k:=λ_ _ _ q=>⟨_,h,q⟩
theorem gh{xs:List V}{j:Nat}{k:Int}(h:σ[i]?=some (some (.ref a)))(ha:bj K H a xs)(hj:xs[j]?=some (.int k)):eQ (cx (sW K) (aX i) (tC (.int (j:Int)))) σ H k:=
 λ_ s _ q=>⟨_,h,a,xs,(j:Int),_,rfl,rfl,s.bt ha,cw hj,q⟩
theorem jd{ta tb:TE}{i j:Int}(h1:eQ ta σ H i)(h2:eQ tb σ H j):eQ (cx (ju λi j=>.int (i+j)) ta tb) σ H (i+j):=λH' s _ q=>h1 H' s _ (h2 H' s _ ⟨i,j,rfl,rfl,q⟩)
theorem oO(h:σ[i]?=some (some (.ref a)))(ha:bj K H a (ns.map V.int)):mq K (aX i) σ H ns:=λ_ s _ q=>⟨_,h,q a _ (.refl _) (s.bt ha)⟩
theorem qx:CZ nr σ H none:=λ_ _ _ q=>q
theorem mr{k:Int}(h:eQ te σ H k):CZ (jU te) σ H (some k):=λH' s _ q=>h H' s _ ⟨k,rfl,q⟩
theorem oP{ta tb:TE}{ms:List Int}(h1:mq K ta σ H ns)(h2:mq K tb σ H ms)(hl:ns.length+ms.length≤10000):mq K (cx (B6 K) ta tb) σ H (ns++ms):=λH' s R q=>by
 have z:(10000:Nat)≤sizeLine:=by decide
 refine h1 H' s _ λa H1 s1 ha=>h2 H1 (s.trans s1) _ λb H2 s2 hb=>?_;refine⟨a,b,_,_,rfl,rfl,s2.bt ha,hb,by simp only[bO];lia,λc H3 s3 hc=>q c H3 (s1.trans (s2.trans s3)) ?_⟩;rw[eM];exact hc
theorem OO{α:Type}(v:α):∀n:Nat,(List.replicate n [v]).flatten=List.replicate n v
 |0=>rfl
 |n+1=>by rw[uG,Bh,OO v n];rfl
theorem xv{tk:TE}{k:Nat}(h:eQ tk σ H (k:Int))(hk:k≤10000):mq K (cx (wV K) (dR (aZ (tC (.int 0)) bK)) tk) σ H (List.replicate k 0):=λH' s R q=>by
 have z:(10000:Nat)≤sizeLine:=by decide
 refine⟨by show 1≤sizeLine;decide,λa ha=>?_⟩;have sa:=aU.upd (o:=.tup [.int 0]) ha;refine h _ (s.trans sa) _ ⟨a,(k:Int),[.int 0],rfl,rfl,.of bg,by simp,by lia,by lia,by show 1*(k:Int).toNat≤sizeLine;lia,λc H3 s3 hc=>q c H3 (sa.trans s3) ?_⟩;rw[show(k:Int).toNat=k by lia,OO]at hc;rw[List.map_replicate];exact hc
theorem oQ{tl th:TO}{lo hi:Option Int}{ms:List Int}(h:mq K te σ H ns)(h1:CZ tl σ H lo)(h2:CZ th σ H hi)(e:jW (ns.map V.int) lo hi=ms.map V.int):mq K (lq (lJ K) te tl th) σ H ms:=λH' s R q=>
 h H' s _ λa H1 s1 ha=>h1 H1 (s.trans s1) _ (h2 H1 (s.trans s1) _ ⟨a,_,rfl,ha,λc H3 s3 hc=>q c H3 (s1.trans s3) (by rw[e]at hc;exact hc)⟩)
end
theorem C0{K:Frag}{RS:List V}{aQ:LL}{f:List Int→List Int}(h2:bj K H1 t RS)(h3:cu K H1 RS (aQ.map dD))(hz:aQ.length≤1000)
  (step:∀row ra H,row∈aQ→aU H1 H→bj K H ra (row.map V.int)→mq K te (some (.ref ra)::cp) H (f row))
  (done:∀H ZS,aU H1 H→cu K H ZS ((aQ.map f).map dD)→∀p,H p=none→Q (.ref p) (upd H p (.lst ZS))) :
  ∃W:Nat→Nat→St→Hp→List V→Prop,(∃m,W 0 m (List.replicate 1 none++cp) H1 [])∧mf (wz K t) (cm 0) oB te Q W:=by
 have rS:(1000:Nat)≤sizeLine:=by decide
 have CI:=jc h3;refine zc (xs:=RS) (cp:=cp) (λi H' zs=>cu K H' zs (((aQ.map f).take i).map dD)) h2 (by lia) .nil (λi H' zs h=>by rw[jc h,dE];exact we _ _) ?_ ?_
 ·rintro i v H2 zs hv sm h;obtain⟨row,ra,tU,rfl,gO⟩:=tQ h3 hv;refine rE (step row ra H2 (dI tU) sm (sm.bt gO) H2 (.refl _) _ λu H3 s3 hu=>⟨⟨[_],rfl,rfl⟩,sm.trans s3,?_⟩);have e:(aQ.map f)[i]?=some (f row):=by rw[du,tU];rfl
  rw[iB,e];show cu K H3 _ (((aQ.map f).take i++[_]).map dD);rw[eM];exact(h.mono s3).append (.cons (oF hu) .nil)
 ·rintro H2 ZS sm hZ lz jx;rw[o4 (by rw[bO];lia)]at hZ;exact done H2 ZS sm hZ lz jx
noncomputable def tV(l r l' r':Nat)(row:List Int):List Int:=row.take l++List.replicate l' 0++(row.drop l).take r++List.replicate r' 0++row.drop (l+r)
noncomputable def tW(l r l':Nat)(row:List Int):List Int:=List.replicate l 0++row.take l'++List.replicate r 0++row.drop l'
noncomputable def nK(l r l' r':Nat)(aQ rows':LL):LL:=aQ.map (tV l r l' r')++rows'.map (tW l r l')
theorem Z9(p0:0<p)(h:Rw p (l+r+x) row):Rw p (l+l'+(r+r')+x) (tV l r l' r' row):=by
 refine⟨?_,λy hx=>?_⟩
 ·unfold tV
  have:=h.1
  simp only[bY,dE,iK,jG];lia
 ·unfold tV at hx;simp only[dq,List.mem_replicate]at hx;rcases hx with(((z|⟨_,rfl⟩)|z)|⟨_,rfl⟩)|z
  ·exact h.2 y (wd z)
  ·lia
  ·exact h.2 y (uL (wd z))
  ·lia
  ·exact h.2 y (uL z)
theorem aaa(p0:0<p)(h:Rw p (l'+r'+x) row):Rw p (l+l'+(r+r')+x) (tW l r l' row):=by
 refine⟨?_,λy hx=>?_⟩
 ·unfold tW
  have:=h.1
  simp only[bY,dE,iK,jG];lia
 ·unfold tW at hx;simp only[dq,List.mem_replicate]at hx;rcases hx with((⟨_,rfl⟩|z)|⟨_,rfl⟩)|z
  ·lia
  ·exact h.2 y (wd z)
  ·lia
  ·exact h.2 y (uL z)
theorem zR{aQ:LL}(p0:0<p)(h:cP p (l+r+x) aQ)(h':cP p (l'+r'+x) rows'):cP p (l+l'+(r+r')+x) (nK l r l' r' aQ rows'):=λw hx=>by
 rcases(dq.mp hx)with z|z
 ·obtain⟨y,hy,e⟩:=cY.mp z;rw[← e];exact Z9 p0 (h y hy)
 ·obtain⟨y,hy,e⟩:=cY.mp z;rw[← e];exact aaa p0 (h' y hy)
theorem aab:(["row","behind","one","other"]:List Str).Nodup:=by decide +kernel
theorem aac:(["row","one","other"]:List Str).Nodup:=by decide +kernel
def Il(K:Frag):Sp:=λvs H Q _=>∃(p:Int)(a b:Addr)(l r:Nat)(aQ:LL)(l' r':Nat)(rows':LL)(x:Nat),vs=[.int p,.ref a,.ref b]∧p∈dW∧fX K H a l r aQ∧fX K H b l' r' rows'∧l≤100∧r≤100∧l'≤100∧r'≤100∧x≤200∧aQ.length≤400∧rows'.length≤400∧cP p (l+r+x) aQ∧cP p (l'+r'+x) rows'∧
 ∀v H',aU H H'→fX K H' v (l+l') (r+r') (iy p (nK l r l' r' aQ rows'))→Q (.ref v) H'
noncomputable abbrev OP:List Str:=["p","one","other","behind","above","below"]
theorem C1:dU ["p","one","other","behind","above","below"] ["p","one","other"] (cg zx):=eT rfl rfl rfl (by decide +kernel) rfl
abbrev cA(K:Frag)(i:Nat)(j:Int):TE:=cx (sW K) (aX i) (tC (.int j))
abbrev xw(K:Frag)(tk:TE):TE:=cx (wV K) (dR (aZ (tC (.int 0)) bK)) tk
abbrev dY(K:Frag)(ta tb:TE):TE:=cx (B6 K) ta tb
abbrev iI(ta tb:TE):TE:=cx (ju λi j=>.int (i+j)) ta tb
def C2(K:Frag):TE:=dY K (dY K (dY K (dY K (lq (lJ K) (aX 0) nr (jU (cA K 2 0))) (xw K (cA K 3 0))) (lq (lJ K) (aX 0) (jU (cA K 2 0)) (jU (aX 1)))) (xw K (cA K 3 1))) (lq (lJ K) (aX 0) (jU (aX 1)) nr)
def C3(K:Frag):TE:=dY K (dY K (dY K (xw K (cA K 1 0)) (lq (lJ K) (aX 0) nr (jU (cA K 2 0)))) (xw K (cA K 1 1))) (lq (lJ K) (aX 0) (jU (cA K 2 0)) nr)
theorem aad{t:V}(h0:σ[0]?=some (some (.ref ra)))(h1:σ[1]?=some (some (.int ((l+r:Nat):Int))))(h2:σ[2]?=some (some (.ref a)))(h3:σ[3]?=some (some (.ref b)))
  (hr:bj K H ra (row.map V.int)) (ha:bj K H a [.int (l:Int),.int (r:Int),t]) (hb:bj K H b [.int (l':Int),.int (r':Int),t']) (hl:row.length=l+r+x) (hx:x≤200) (b1:l≤100) (b2:r≤100) (b3:l'≤100) (b4:r'≤100):mq K (C2 K) σ H (tV l r l' r' row):=by
 have e1:(row.take l).length≤100:=by rw[dE];lia
 have e2:((row.drop l).take r).length≤100:=by rw[dE];lia
 have e3:(row.drop (l+r)).length≤200:=by rw[iK];lia
 refine oP (oP (oP (oP (oQ (oO h0 hr) qx (mr (gh (j:=0) h2 ha rfl)) (xt (by lia))) (xv (gh (j:=0) h3 hb rfl) (by lia)) ?_) (oQ (oO h0 hr) (mr (gh (j:=0) h2 ha rfl)) (mr (c9 h1)) (Ig (by lia))) ?_) (xv (gh (j:=1) h3 hb rfl) (by lia)) ?_) (oQ (oO h0 hr) (mr (c9 h1)) qx (xu (by lia))) ?_ <;>
  simp only[bY,jG]<;>lia
theorem aae{t:V}(h0:σ[0]?=some (some (.ref ra)))(h2:σ[1]?=some (some (.ref a)))(h3:σ[2]?=some (some (.ref b)))
  (hr:bj K H ra (row.map V.int)) (ha:bj K H a [.int (l:Int),.int (r:Int),t]) (hb:bj K H b [.int (l':Int),.int (r':Int),t']) (hl:row.length=l'+r'+x) (hx:x≤200) (b1:l≤100) (b2:r≤100) (b3:l'≤100) (b4:r'≤100):mq K (C3 K) σ H (tW l r l' row):=by
 have e1:(row.take l').length≤100:=by rw[dE];lia
 have e3:(row.drop l').length≤300:=by rw[iK];lia
 refine oP (oP (oP (xv (gh (j:=0) h2 ha rfl) (by lia)) (oQ (oO h0 hr) qx (mr (gh (j:=0) h3 hb rfl)) (xt (by lia))) ?_) (xv (gh (j:=1) h2 ha rfl) (by lia)) ?_) (oQ (oO h0 hr) (mr (gh (j:=0) h3 hb rfl)) qx (xu (by lia))) ?_ <;>
  simp only[bY,jG]<;>lia
def C4(K:Frag):TS:=cn (cT (iI (cA K 1 0) (cA K 1 1)) (cm 3))
 (cn (cT (rl (sT K (cA K 1 2)) 1 [3,1,2] (cm 0) oB (C2 K)) (cm 4)) (cn (cT (rl (sT K (cA K 2 2)) 1 [1,2] (cm 0) oB (C3 K)) (cm 5)) (eB (dR (aZ (iI (cA K 1 0) (cA K 2 0)) (aZ (iI (cA K 1 1) (cA K 2 1)) (aZ (iw (vz K) [] E0 (aZ (aX 0) (aZ (cx ox (aX 4) (aX 5)) bK))) bK)))))))
theorem aaf{aQ:LL}(pp:p∈dW)(hf:fX K H a l r aQ)(gT:fX K H b l' r' rows')(b1:l≤100)(b2:r≤100)(b3:l'≤100)(b4:r'≤100)(hx:x≤200)(z1:aQ.length≤400)(z2:rows'.length≤400)(hR:cP p (l+r+x) aQ)(jy:cP p (l'+r'+x) rows')
  (q:∀v H',aU H H'→fX K H' v (l+l') (r+r') (iy p (nK l r l' r' aQ rows'))→D.rt (.ref v) H'):C4 K D [some (.int p),some (.ref a),some (.ref b),none,none,none] H:=by
 obtain⟨t,RS,h1,h2,h3⟩:=hf;obtain⟨t',gk,j7,nL,C5⟩:=gT;have rS:(1000:Nat)≤sizeLine:=by decide
 have p0:0<p:=(gN p pp).1 |> λh=>by lia
 unfold C4;refine jd (gh (j:=0) rfl h1 rfl) (gh (j:=1) rfl h1 rfl) H (.refl _) _ ?_;refine⟨_,rfl,a,_,2,_,rfl,rfl,h1,cw (j:=2) rfl,t,rfl,⟨_,h2⟩,?_⟩;refine C0 (f:=tV l r l' r') (cp:=[some (.int ((l:Int)+(r:Int))),some (.ref a),some (.ref b)]) h2 h3 (by lia) (λrow ra H1 pC s1 gO=>aad rfl (by rw[show((l+r:Nat):Int)=(l:Int)+(r:Int) by lia];rfl) rfl rfl gO (s1.bt h1) (s1.bt j7) (hR row pC).1 hx b1 b2 b3 b4) ?_;intro H1 ZS s1 hZ la pA;refine⟨_,rfl,b,_,2,_,rfl,rfl,(s1.trans (.upd pA)).bt j7,cw (j:=2) rfl,t',rfl,⟨_,(s1.trans (.upd pA)).bt nL⟩,?_⟩;have zS:(upd H1 la (.lst ZS)) la=some (.lst ZS):=bg;have vE:=hZ.mono (aU.upd pA (o:=.lst ZS));have sA:aU H (upd H1 la (.lst ZS)):=s1.trans (.upd pA);generalize upd H1 la (.lst ZS)=H2 at zS vE sA ⊢;refine C0 (f:=tW l r l') (cp:=[some (.ref a),some (.ref b)]) (sA.bt nL) (C5.mono sA) (by lia) (λrow ra H3 pC s3 gO=>aae rfl rfl rfl gO ((sA.trans s3).bt h1) ((sA.trans s3).bt j7) (jy row pC).1 hx b1 b2 b3 b4) ?_;intro H3 YS s3 hY lb qy;have sB:aU H2 (upd H3 lb (.lst YS)):=s3.trans (.upd qy);have tX:(upd H3 lb (.lst YS)) lb=some (.lst YS):=bg;have qz:=hY.mono (aU.upd qy (o:=.lst YS));generalize upd H3 lb (.lst YS)=H4 at sB tX qz ⊢;have sC:=sA.trans sB;refine jd (gh (j:=0) rfl (sC.bt h1) rfl) (gh (j:=0) rfl (sC.bt j7) rfl) H4 (.refl _) _ ?_;refine jd (gh (j:=1) rfl (sC.bt h1) rfl) (gh (j:=1) rfl (sC.bt j7) rfl) H4 (.refl _) _ ?_;have eZ:=jc vE;have eY:=jc qz;rw[bO]at eZ eY;refine⟨_,rfl,_,rfl,_,rfl,la,lb,ZS,YS,rfl,rfl,sB _ _ zS,tX,by lia,λlc oR=>?_⟩;have sD:=aU.upd (o:=.lst (ZS++YS)) oR;refine⟨p,lc,true,ZS++YS,nK l r l' r' aQ rows',l+l'+(r+r')+x,rfl,pp,.of bg,?_,by unfold nK;rw[bY,bO,bO];lia,by lia,zR p0 hR jy,λt2 H5 DS s5 nJ vC=>?_⟩
 ·unfold nK;rw[eM];exact((vE.mono sB).mono sD).append (qz.mono sD)
 ·refine⟨(by show 3≤sizeLine;lia),λv hv=>q v _ (sC.trans (sD.trans (s5.trans (.upd hv)))) ⟨t2,DS,?_,(aU.upd hv).bt nJ,vC.mono (.upd hv)⟩⟩;refine .of ?_;rw[bg,show((l+l':Nat):Int)=(l:Int)+(l':Int) by lia,show((r+r':Nat):Int)=(r:Int)+(r':Int) by lia]
theorem aag(F:cO K "form_of_beside" "form_of_beside" zx f fd)
  (GD:cj P w K mg base cb 3 fD jk ["p","rows"] (vz K)) (kD:Kp K fD) (bD:Binds K jk ["p","rows"] []) (mD:Mg mg "reduced" fD):cj P w K mg base cb 4 f fd ["p","one","other"] (Il K):=by
 refine F.ok C1 (λvs H Q E h=>?_) (λcq A outer s H vs Q E hr h=>?_)
 ·obtain⟨p,a,b,l,r,aQ,l',r',rows',x,rfl,_⟩:=h;rfl
 ·obtain⟨p,a,b,l,r,aQ,l',r',rows',x,rfl,pp,hf,gT,b1,b2,b3,b4,hx,z1,z2,hR,jy,q⟩:=h;refine⟨C4 K,?_,?_⟩
  ·unfold C4;refine bo ?_ ?_
   ·refine cy (i:=3) (te:=iI (cA K 1 0) (cA K 1 1)) ?_ ?_ ?_ ?_ ?_ ?_
    ·exact C1.nd
    ·rfl
    ·exact Or.inr rfl
    ·exact bq fi (br (bX K rfl) (pv 1) aW (λ_ _=>rfl)) (br (bX K rfl) (pv 1) aW (λ_ _=>rfl))
    ·rfl
    ·exact .inl rfl
   refine bo ?_ ?_
   ·refine rm (N:=["row","behind","one","other"]) (own:=1) (caps:=[3,1,2]) (i:=4) (te:=C2 K) rfl C1.nd rfl rfl ?_ ?_ ?_ ?_ ?_
    ·exact tI K rfl (br (bX K rfl) (pv 1) aW (λ_ _=>rfl))
    ·exact(show gM OP (cg zx) ["row","behind","one","other"] 1 [3,1,2] _ from .mk' (by decide +kernel))
    ·exact λ_ _ _ _ _=>de (i:=0) aab rfl (.inl rfl)
    ·exact λ_ _ _ _ _=>me
    ·intro _ _ _ _ _;unfold C2;refine bq (dJ K rfl) ?_ ?_
     ·refine bq (dJ K rfl) ?_ ?_
      ·refine bq (dJ K rfl) ?_ ?_
       ·refine bq (dJ K rfl) ?_ ?_
        ·exact jV (ko K rfl) (pv 0) ki (i7 (br (bX K rfl) (pv 2) aW (λ_ _=>rfl)))
        ·exact bq (tH K rfl) (dm (aR aW aY)) (br (bX K rfl) (pv 3) aW (λ_ _=>rfl))
       ·exact jV (ko K rfl) (pv 0) (i7 (br (bX K rfl) (pv 2) aW (λ_ _=>rfl))) (i7 (pv 1))
      ·exact bq (tH K rfl) (dm (aR aW aY)) (br (bX K rfl) (pv 3) aW (λ_ _=>rfl))
     ·exact jV (ko K rfl) (pv 0) (i7 (pv 1)) ki
   refine bo ?_ ?_
   ·refine rm (N:=["row","one","other"]) (own:=1) (caps:=[1,2]) (i:=5) (te:=C3 K) rfl C1.nd rfl rfl ?_ ?_ ?_ ?_ ?_
    ·exact tI K rfl (br (bX K rfl) (pv 2) aW (λ_ _=>rfl))
    ·exact(show gM OP (cg zx) ["row","one","other"] 1 [1,2] _ from .mk' (by decide +kernel))
    ·exact λ_ _ _ _ _=>de (i:=0) aac rfl (.inl rfl)
    ·exact λ_ _ _ _ _=>me
    ·intro _ _ _ _ _;unfold C3;refine bq (dJ K rfl) ?_ ?_
     ·refine bq (dJ K rfl) ?_ ?_
      ·refine bq (dJ K rfl) ?_ ?_
       ·exact bq (tH K rfl) (dm (aR aW aY)) (br (bX K rfl) (pv 1) aW (λ_ _=>rfl))
       ·exact jV (ko K rfl) (pv 0) ki (i7 (br (bX K rfl) (pv 2) aW (λ_ _=>rfl)))
      ·exact bq (tH K rfl) (dm (aR aW aY)) (br (bX K rfl) (pv 1) aW (λ_ _=>rfl))
     ·exact jV (ko K rfl) (pv 0) (i7 (br (bX K rfl) (pv 2) aW (λ_ _=>rfl))) ki
   refine bZ ?_;refine cM (te:=dR (aZ (iI (cA K 1 0) (cA K 2 0)) (aZ (iI (cA K 1 1) (cA K 2 1)) (aZ (iw (vz K) [] E0 (aZ (aX 0) (aZ (cx ox (aX 4) (aX 5)) bK))) bK)))) ?_;refine dm ?_;refine aR ?_ ?_ ?_
   ·exact bq fi (br (bX K rfl) (pv 1) aW (λ_ _=>rfl)) (br (bX K rfl) (pv 2) aW (λ_ _=>rfl))
   ·refine aR ?_ ?_ ?_
    ·exact bq fi (br (bX K rfl) (pv 1) aW (λ_ _=>rfl)) (br (bX K rfl) (pv 2) aW (λ_ _=>rfl))
    ·refine aR ?_ aY ?_
     ·exact cV GD hr rfl mD kD bD .nil cW (aR (pv 0) (aR (bq oy (pv 4) (pv 5)) aY))
     ·rfl
    ·rfl
   ·rfl
  ·exact aaf pp hf gT b1 b2 b3 b4 hx z1 z2 hR jy q
noncomputable def tY(l m r':Nat)(row:List Int):List Int:=(row.drop l).take m++row.take l++List.replicate r' 0++row.drop (l+m)
noncomputable def tZ(p:Int)(l m:Nat)(row:List Int):List Int:=(row.take m).map (λn=>(-n)%p)++List.replicate l 0++row.drop m
noncomputable def pE(p:Int)(l m r':Nat)(aQ rows':LL):LL:=aQ.map (tY l m r')++rows'.map (tZ p l m)
noncomputable def oS(m:Nat)(row:List Int):Bool:=!((row.take m).any λn=>n != 0)
noncomputable def nM(p:Int)(l m r':Nat)(aQ rows':LL):LL:=((iy p (pE p l m r' aQ rows')).filter (oS m)).map (λrow=>row.drop m)
theorem aah(p0:0<p)(h:Rw p (l+m+x) row):Rw p (m+(l+r')+x) (tY l m r' row):=by
 refine⟨?_,λy hx=>?_⟩
 ·unfold tY
  have:=h.1
  simp only[bY,dE,iK,jG];lia
 ·unfold tY at hx;simp only[dq,List.mem_replicate]at hx;rcases hx with((z|z)|⟨_,rfl⟩)|z
  ·exact h.2 y (uL (wd z))
  ·exact h.2 y (wd z)
  ·lia
  ·exact h.2 y (uL z)
theorem aai(p0:0<p)(h:Rw p (m+r'+x) row):Rw p (m+(l+r')+x) (tZ p l m row):=by
 refine⟨?_,λy hx=>?_⟩
 ·unfold tZ
  have:=h.1
  simp only[bY,bO,dE,iK,jG];lia
 ·unfold tZ at hx;simp only[dq,List.mem_replicate,cY]at hx;rcases hx with(⟨w,_,rfl⟩|⟨_,rfl⟩)|z
  ·exact⟨sM _ (by lia),sN _ p0⟩
  ·lia
  ·exact h.2 y (uL z)
theorem zT{aQ:LL}(p0:0<p)(h:cP p (l+m+x) aQ)(h':cP p (m+r'+x) rows'):cP p (m+(l+r')+x) (pE p l m r' aQ rows'):=λw hx=>by
 rcases(dq.mp hx)with z|z
 ·obtain⟨y,hy,e⟩:=cY.mp z;rw[← e];exact aah p0 (h y hy)
 ·obtain⟨y,hy,e⟩:=cY.mp z;rw[← e];exact aai p0 (h' y hy)
theorem OQ(pp:p∈dW){aQ:LL}(h:cP p (l+m+x) aQ)(h':cP p (m+r'+x) rows'):cP p (l+r'+x) (nM p l m r' aQ rows'):=λw hx=>by
 have p0:0<p:=by have:=gN p pp;lia
 obtain⟨y,hy,e⟩:=cY.mp hx;have BU:=(oH pp (zT p0 h h')).rws y (g8.mp hy).1;rw[← e];refine⟨by rw[iK,BU.1];lia,λz hz=>BU.2 z (uL hz)⟩
theorem OR(pp:p∈dW){aQ:LL}(h:cP p (l+m+x) aQ)(h':cP p (m+r'+x) rows'):(nM p l m r' aQ rows').length≤m+(l+r')+x:=by
 have p0:0<p:=by have:=gN p pp;lia
 have:=xm (zT p0 h h')
 unfold nM;rw[bO];exact eS (uK _ _) this
theorem aaj:(["row","behind","left","other"]:List Str).Nodup:=by decide +kernel
theorem aak:(["row","between","left","p"]:List Str).Nodup:=by decide +kernel
theorem aal:(["number","p"]:List Str).Nodup:=by decide +kernel
theorem aam:(["row","between"]:List Str).Nodup:=by decide +kernel
def Im(K:Frag):List V→Hp→VK→Prop:=λxs H Q=>∃p ys,xs=[.ref p]∧((dP K H p ys∧∀l,H l=none→Q (.ref l) (upd H l (.tup ys)))∨(bj K H p ys∧Q (.ref p) H))
def C6(K:Frag):TE:=lg (Im K) (aZ (rl (sT K (lq (lJ K) (aX 0) nr (jU (aX 1)))) 1 [3] (cm 0) oB (cx (rI (λ_ j=>0<j) λi j=>.int (i%j)) (yG (rU λi=>.int (-i)) (aX 0)) (aX 1))) bK)
def C7(K:Frag):TE:=dY K (dY K (dY K (lq (lJ K) (aX 0) (jU (aX 2)) (jU (aX 1))) (lq (lJ K) (aX 0) nr (jU (aX 2)))) (xw K (cA K 3 1))) (lq (lJ K) (aX 0) (jU (aX 1)) nr)
def C8(K:Frag):TE:=dY K (dY K (C6 K) (xw K (aX 2))) (lq (lJ K) (aX 0) (jU (aX 1)) nr)
theorem aan{g:Int→Int}(h2:bj K H1 t (ns.map V.int))(hz:ns.length≤1000)(step:∀n H,aU H1 H→eQ te (some (.int n)::cp) H (g n))
  (done:∀H,aU H1 H→∀p,H p=none→Q (.ref p) (upd H p (.lst ((ns.map g).map V.int)))) :
  ∃W:Nat→Nat→St→Hp→List V→Prop,(∃m,W 0 m (List.replicate 1 none++cp) H1 [])∧mf (wz K t) (cm 0) oB te Q W:=by
 have rS:(1000:Nat)≤sizeLine:=by decide
 refine zc (xs:=ns.map V.int) (cp:=cp) (λi H' zs=>zs=((ns.take i).map g).map V.int) h2 (by rw[bO];lia) (by simp) (λi H' zs h=>by rw[h,bO,bO,dE];exact we _ _) ?_ ?_
 ·rintro i v H2 zs hv sm rfl;rw[du]at hv;cases e:ns[i]? with
  |none=>rw[e]at hv;cases hv
  |some n=>
   rw[e]at hv;cases hv;refine rE (step n H2 sm H2 (.refl _) _ ⟨⟨[_],rfl,rfl⟩,sm,?_⟩);rw[iB,e];simp
 ·rintro H2 zs sm rfl lz jx;rw[bO,o4 (ck _)];exact done H2 sm lz jx
theorem aao(h0:σ[0]?=some (some (.ref ra)))(h1:σ[1]?=some (some (.int (m:Int))))(h3:σ[3]?=some (some (.int p)))(hr:bj K H ra (row.map V.int))(hm:m≤row.length)(hl:row.length≤1000)(p0:0<p) :
  mq K (C6 K) σ H ((row.take m).map λn=>(-n)%p):=λH' s R q=>by
 unfold C6 lg;refine oQ (K:=K) (ms:=row.take m) (oO h0 hr) qx (mr (c9 h1)) (xt hm) H' s _ λt H1 s1 ht=>⟨t,rfl,⟨_,ht⟩,?_⟩;have eb:sY 1 [3] σ=List.replicate 1 none++[some (.int p)]:=by simp[sY,h3]
 rw[eb];refine aan (g:=λn=>(-n)%p) (cp:=[some (.int p)]) ht (by rw[dE];lia) (λn H2 s2 H3 s3 R' q'=>⟨_,rfl,n,rfl,_,rfl,-n,p,rfl,rfl,p0,q'⟩) ?_;intro H2 s2 l pw;refine⟨l,_,rfl,.inl ⟨.of bg,λv hv=>q v _ (s1.trans (s2.trans ((aU.upd pw).trans (.upd hv)))) (.of bg)⟩⟩
theorem aap{x:V}(h0:σ[0]?=some (some (.ref ra)))(h1:σ[1]?=some (some (.int ((l+m:Nat):Int))))(h2:σ[2]?=some (some (.int (l:Int))))(h3:σ[3]?=some (some (.ref b)))
  (hr:bj K H ra (row.map V.int)) (hb:bj K H b [x,.int (r':Int),t']) (hl:row.length=l+m+e) (he:e≤200) (b1:l≤100) (b2:m≤100) (b4:r'≤100):mq K (C7 K) σ H (tY l m r' row):=by
 have e1:(row.take l).length≤100:=by rw[dE];lia
 have e2:((row.drop l).take m).length≤100:=by rw[dE];lia
 have e3:(row.drop (l+m)).length≤200:=by rw[iK];lia
 refine oP (oP (oP (oQ (oO h0 hr) (mr (c9 h2)) (mr (c9 h1)) (Ig (by lia))) (oQ (oO h0 hr) qx (mr (c9 h2)) (xt (by lia))) ?_) (xv (gh (j:=1) h3 hb rfl) (by lia)) ?_) (oQ (oO h0 hr) (mr (c9 h1)) qx (xu (by lia))) ?_ <;>
  (try simp only[bY,jG])<;>lia
theorem aaq(h0:σ[0]?=some (some (.ref ra)))(h1:σ[1]?=some (some (.int (m:Int))))(h2:σ[2]?=some (some (.int (l:Int))))(h3:σ[3]?=some (some (.int p)))
  (hr:bj K H ra (row.map V.int)) (hl:row.length=m+r'+e) (he:e≤200) (b1:l≤100) (b2:m≤100) (b4:r'≤100) (p0:0<p):mq K (C8 K) σ H (tZ p l m row):=by
 have e1:((row.take m).map λn=>(-n)%p).length≤100:=by rw[bO,dE];lia
 have e3:(row.drop m).length≤300:=by rw[iK];lia
 refine oP (oP (aao h0 h1 h3 hr (by lia) (by lia) p0) (xv (c9 h2) (by lia)) ?_) (oQ (oO h0 hr) (mr (c9 h1)) qx (xu (by lia))) ?_ <;>
  (try simp only[bY,jG])<;>lia
def Io(K:Frag):Sp:=λvs H Q _=>∃(p:Int)(a b:Addr)(l m:Nat)(aQ:LL)(r':Nat)(rows':LL)(e:Nat),vs=[.int p,.ref a,.ref b]∧p∈dW∧fX K H a l m aQ∧fX K H b m r' rows'∧l≤100∧m≤100∧r'≤100∧e≤200∧aQ.length≤400∧rows'.length≤400∧cP p (l+m+e) aQ∧cP p (m+r'+e) rows'∧
 ∀v H' ZS,aU H H'→H' v=some (.lst ZS)→cu K H' ZS ((pE p l m r' aQ rows').map dD)→Q (.ref v) H'
noncomputable abbrev OS:List Str:=["p","one","other","left","between","behind","ahead","follow"]
theorem xx:dU ["p","one","other","left","between","behind","ahead","follow"] ["p","one","other"] (cg zy):=eT rfl rfl rfl (by decide +kernel) rfl
def C9(K:Frag):TS:=cn (cT (cA K 1 0) (cm 3)) (cn (cT (cA K 1 1) (cm 4)) (cn (cT (iI (aX 3) (aX 4)) (cm 5)) (cn (cT (rl (sT K (cA K 1 2)) 1 [5,3,2] (cm 0) oB (C7 K)) (cm 6)) (cn (cT (rl (sT K (cA K 2 2)) 1 [4,3,0] (cm 0) oB (C8 K)) (cm 7)) (eB (cx ox (aX 6) (aX 7)))))))
theorem aar{aQ:LL}(pp:p∈dW)(hf:fX K H a l m aQ)(gT:fX K H b m r' rows')(b1:l≤100)(b2:m≤100)(b4:r'≤100)(he:e≤200)(z1:aQ.length≤400)(z2:rows'.length≤400)(hR:cP p (l+m+e) aQ)(jy:cP p (m+r'+e) rows')
  (q:∀v H' ZS,aU H H'→H' v=some (.lst ZS)→cu K H' ZS ((pE p l m r' aQ rows').map dD)→D.rt (.ref v) H'):C9 K D [some (.int p),some (.ref a),some (.ref b),none,none,none,none,none] H:=by
 obtain⟨t,RS,h1,h2,h3⟩:=hf;obtain⟨t',gk,j7,nL,C5⟩:=gT;have rS:(1000:Nat)≤sizeLine:=by decide
 have p0:0<p:=by have:=gN p pp;lia
 unfold C9;refine gh (j:=0) rfl h1 rfl H (.refl _) _ ?_;refine gh (j:=1) rfl h1 rfl H (.refl _) _ ?_;refine jd (i:=(l:Int)) (j:=(m:Int)) (c9 rfl) (c9 rfl) H (.refl _) _ ?_;refine⟨_,rfl,a,_,2,_,rfl,rfl,h1,cw (j:=2) rfl,t,rfl,⟨_,h2⟩,?_⟩;refine C0 (f:=tY l m r') (cp:=[some (.int ((l:Int)+(m:Int))),some (.int (l:Int)),some (.ref b)]) h2 h3 (by lia) (λrow ra H1 pC s1 gO=>aap rfl (by rw[show((l+m:Nat):Int)=(l:Int)+(m:Int) by lia];rfl) rfl rfl gO (s1.bt j7) (hR row pC).1 he b1 b2 b4) ?_;intro H1 ZS s1 hZ la pA;refine⟨_,rfl,b,_,2,_,rfl,rfl,(s1.trans (.upd pA)).bt j7,cw (j:=2) rfl,t',rfl,⟨_,(s1.trans (.upd pA)).bt nL⟩,?_⟩;have zS:(upd H1 la (.lst ZS)) la=some (.lst ZS):=bg;have vE:=hZ.mono (aU.upd pA (o:=.lst ZS));have sA:aU H (upd H1 la (.lst ZS)):=s1.trans (.upd pA);generalize upd H1 la (.lst ZS)=H2 at zS vE sA ⊢;refine C0 (f:=tZ p l m) (cp:=[some (.int (m:Int)),some (.int (l:Int)),some (.int p)]) (sA.bt nL) (C5.mono sA) (by lia) (λrow ra H3 pC s3 gO=>aaq (r':=r') rfl rfl rfl rfl gO (jy row pC).1 he b1 b2 b4 p0) ?_;intro H3 YS s3 hY lb qy;have sB:aU H2 (upd H3 lb (.lst YS)):=s3.trans (.upd qy);have tX:(upd H3 lb (.lst YS)) lb=some (.lst YS):=bg;have qz:=hY.mono (aU.upd qy (o:=.lst YS));generalize upd H3 lb (.lst YS)=H4 at sB tX qz ⊢;have eZ:=jc vE;have eY:=jc qz;rw[bO]at eZ eY;refine⟨_,rfl,_,rfl,la,lb,ZS,YS,rfl,rfl,sB _ _ zS,tX,by lia,λlc oR=>?_⟩;have sD:=aU.upd (o:=.lst (ZS++YS)) oR;refine q lc _ (ZS++YS) (sA.trans (sB.trans sD)) bg ?_;unfold pE;rw[eM];exact((vE.mono sB).mono sD).append (qz.mono sD)
theorem aas(F:cO K "facing" "facing" zy f fd)(T:Txt mg):cj P w K mg base cb 1 f fd ["p","one","other"] (Io K):=by
 refine F.ok xx (λvs H Q E h=>?_) (λcq A outer s H vs Q E hr h=>?_)
 ·obtain⟨p,a,b,l,r,aQ,r',rows',e,rfl,_⟩:=h;rfl
 ·obtain⟨p,a,b,l,m,aQ,r',rows',e,rfl,pp,hf,gT,b1,b2,b4,he,z1,z2,hR,jy,q⟩:=h;refine⟨C9 K,?_,?_⟩
  ·unfold C9;refine bo ?_ ?_
   ·exact cy (i:=3) xx.nd rfl (Or.inr rfl) (br (bX K rfl) (pv 1) aW (λ_ _=>rfl))
   refine bo ?_ ?_
   ·exact cy (i:=4) xx.nd rfl (Or.inr rfl) (br (bX K rfl) (pv 1) aW (λ_ _=>rfl))
   refine bo ?_ ?_
   ·exact cy (i:=5) xx.nd rfl (Or.inr rfl) (bq fi (pv 3) (pv 4))
   refine bo ?_ ?_
   ·refine rm (N:=["row","behind","left","other"]) (own:=1) (caps:=[5,3,2]) (i:=6) (te:=C7 K) rfl xx.nd rfl rfl ?_ ?_ ?_ ?_ ?_
    ·exact tI K rfl (br (bX K rfl) (pv 1) aW (λ_ _=>rfl))
    ·exact(show gM OS (cg zy) ["row","behind","left","other"] 1 [5,3,2] _ from .mk' (by decide +kernel))
    ·exact λ_ _ _ _ _=>de (i:=0) aaj rfl (.inl rfl)
    ·exact λ_ _ _ _ _=>me
    ·intro _ _ _ _ _;unfold C7;refine bq (dJ K rfl) ?_ ?_
     ·refine bq (dJ K rfl) ?_ ?_
      ·refine bq (dJ K rfl) ?_ ?_
       ·exact jV (ko K rfl) (pv 0) (i7 (pv 2)) (i7 (pv 1))
       ·exact jV (ko K rfl) (pv 0) ki (i7 (pv 2))
      ·exact bq (tH K rfl) (dm (aR aW aY)) (br (bX K rfl) (pv 3) aW (λ_ _=>rfl))
     ·exact jV (ko K rfl) (pv 0) (i7 (pv 1)) ki
   refine bo ?_ ?_
   ·refine rm (N:=["row","between","left","p"]) (own:=1) (caps:=[4,3,0]) (i:=7) (te:=C8 K) rfl xx.nd rfl rfl ?_ ?_ ?_ ?_ ?_
    ·exact tI K rfl (br (bX K rfl) (pv 2) aW (λ_ _=>rfl))
    ·exact(show gM OS (cg zy) ["row","between","left","p"] 1 [4,3,0] _ from .mk' (by decide +kernel))
    ·exact λ_ _ _ _ _=>de (i:=0) aak rfl (.inl rfl)
    ·exact λ_ _ _ _ _=>me
    ·intro _ _ _ _ _;unfold C8;refine bq (dJ K rfl) ?_ ?_
     ·refine bq (dJ K rfl) ?_ ?_
      ·unfold C6;refine iT (wY K rfl) rfl T.tuple tJ ?_;refine aR ?_ aY ?_
       ·refine oC (N:=["number","p"]) (own:=1) (caps:=[3]) rfl ?_ ?_ ?_ ?_ ?_
        ·exact tI K rfl (jV (ko K rfl) (pv 0) ki (i7 (pv 1)))
        ·exact(gM.mk' (by kernel_rfl))
        ·exact λ_ _ _ _ _=>de (i:=0) aal rfl (.inl rfl)
        ·exact λ_ _ _ _ _=>me
        ·exact λ_ _ _ _ _=>bq kh (ni nj (pv 0)) (pv 1)
       ·rfl
      ·exact bq (tH K rfl) (dm (aR aW aY)) (pv 2)
     ·exact jV (ko K rfl) (pv 0) (i7 (pv 1)) ki
   refine bZ ?_;exact cM (te:=cx ox (aX 6) (aX 7)) (bq oy (pv 6) (pv 7))
  ·exact aar pp hf gT b1 b2 b4 he z1 z2 hR jy q
def Ip(K:Frag):Sp:=λvs H Q _=>∃(p:Int)(a b:Addr)(l m:Nat)(aQ:LL)(r':Nat)(rows':LL)(e:Nat),vs=[.int p,.ref a,.ref b]∧p∈dW∧fX K H a l m aQ∧fX K H b m r' rows'∧l≤100∧m≤100∧r'≤100∧e≤200∧aQ.length≤400∧rows'.length≤400∧cP p (l+m+e) aQ∧cP p (m+r'+e) rows'∧
 ∀v H',aU H H'→fX K H' v l r' (nM p l m r' aQ rows')→Q (.ref v) H'
noncomputable abbrev nTh:List Str:=["p","one","other","between","met"]
theorem Iq:dU ["p","one","other","between","met"] ["p","one","other"] (cg Cv):=eT rfl rfl rfl (by decide +kernel) rfl
def aat(K:Frag):List V→Hp→VK→Prop:=λxs H Q=>∃p ns,xs=[.ref p]∧bj K H p (List.map V.int ns)∧Q (.bl (ns.any λn=>n != 0)) H
def Ir(K:Frag):TT:=BC (tB (lg (aat K) (aZ (lq (lJ K) (aX 0) nr (jU (aX 1))) bK)))
def Iu(K:Frag):TE:=lq (lJ K) (aX 0) (jU (aX 1)) nr
def Dc(K:Frag):TS:=cn (cT (cA K 1 1) (cm 3))
 (cn (cT (rl (sT K (iw (vz K) [] E0 (aZ (aX 0) (aZ (iw (Io K) [] E0 (aZ (aX 0) (aZ (aX 1) (aZ (aX 2) bK)))) bK)))) 1 [3] (cm 0) (Ir K) (Iu K)) (cm 4)) (eB (dR (aZ (cA K 1 0) (aZ (cA K 2 1) (aZ (lg (Im K) (aZ (aX 4) bK)) bK))))))
theorem aau{RS:List V}{aQ:LL}{g:List Int→Bool}{f:List Int→List Int}{tt:TT}(h2:bj K H1 t RS)(h3:cu K H1 RS (aQ.map dD))(hz:aQ.length≤1000)
  (test:∀row ra H,row∈aQ→aU H1 H→bj K H ra (row.map V.int)→∀R:Bool→Hp→Prop,(∀H',aU H H'→R (g row) H')→tt (some (.ref ra)::cp) H R)
  (step:∀row ra H,row∈aQ→aU H1 H→bj K H ra (row.map V.int)→mq K te (some (.ref ra)::cp) H (f row))
  (done:∀H ZS,aU H1 H→cu K H ZS (((aQ.filter g).map f).map dD)→∀p,H p=none→Q (.ref p) (upd H p (.lst ZS))) :
  ∃W:Nat→Nat→St→Hp→List V→Prop,(∃m,W 0 m (List.replicate 1 none++cp) H1 [])∧mf (wz K t) (cm 0) tt te Q W:=by
 have rS:(1000:Nat)≤sizeLine:=by decide
 have CI:=jc h3;refine zc (xs:=RS) (cp:=cp) (λi H' zs=>cu K H' zs ((((aQ.take i).filter g).map f).map dD)) h2 (by lia) .nil (λi H' zs h=>by rw[jc h,bO];exact eS (uK _ _) (by rw[dE];exact we _ _)) ?_ ?_
 ·rintro i v H2 zs hv sm h;obtain⟨row,ra,tU,rfl,gO⟩:=tQ h3 hv;have hm:=dI tU;refine test row ra H2 hm sm (sm.bt gO) _ λH3 s3=>?_;have et:(aQ.take (i+1)).filter g=(aQ.take i).filter g++[row].filter g:=by
   rw[iB,tU];exact o5 ..
  cases hg:g row with
  |true=>
   refine fU (step row ra H3 hm (sm.trans s3) ((sm.trans s3).bt gO) H3 (.refl _) _ λu H4 s4 hu=>⟨⟨[_],rfl,rfl⟩,sm.trans (s3.trans s4),?_⟩);show cu K H4 _ ((((aQ.take (i+1)).filter g).map f).map dD);rw[et,List.filter_cons,hg,af rfl,n9,eM,eM];exact(h.mono (s3.trans s4)).append (.cons (oF hu) .nil)
  |false=>
   refine eU ⟨⟨[_],rfl,rfl⟩,sm.trans s3,?_⟩;show cu K H3 _ ((((aQ.take (i+1)).filter g).map f).map dD);rw[et,List.filter_cons,hg,ag (by decide),n9,hJ];exact h.mono s3
 ·rintro H2 ZS sm hZ lz jx;rw[o4 (by lia)]at hZ;exact done H2 ZS sm hZ lz jx
theorem aav{aQ:LL}(pp:p∈dW)(hf:fX K H a l m aQ)(gT:fX K H b m r' rows')(b1:l≤100)(b2:m≤100)(b4:r'≤100)(he:e≤200)(z1:aQ.length≤400)(z2:rows'.length≤400)(hR:cP p (l+m+e) aQ)(jy:cP p (m+r'+e) rows')
  (q:∀v H',aU H H'→fX K H' v l r' (nM p l m r' aQ rows')→D.rt (.ref v) H'):Dc K D [some (.int p),some (.ref a),some (.ref b),none,none] H:=by
 have rS:(1000:Nat)≤sizeLine:=by decide
 have p0:0<p:=by have:=gN p pp;lia
 have hF:=zT p0 hR jy;have RO:=oH pp hF;have cD:=xm hF;obtain⟨t,RS,h1,h2,h3⟩:=id hf;obtain⟨t',gk,j7,nL,C5⟩:=id gT;unfold Dc;refine gh (j:=1) rfl h1 rfl H (.refl _) _ ?_;refine⟨_,rfl,_,rfl,_,rfl,_,rfl,p,a,b,l,m,aQ,r',rows',e,rfl,pp,hf,gT,b1,b2,b4,he,z1,z2,hR,jy,λlf H1 ZS s1 vF hZ=>?_⟩;refine⟨p,lf,true,ZS,pE p l m r' aQ rows',m+(l+r')+e,rfl,pp,.of vF,hZ,by unfold pE;rw[bY,bO,bO];lia,by lia,hF,λt2 H2 DS s2 nJ vC=>?_⟩;refine⟨t2,rfl,⟨_,nJ⟩,?_⟩;have sA:=s1.trans s2;refine aau (g:=oS m) (f:=λrow=>row.drop m) (cp:=[some (.int (m:Int))]) nJ vC (by lia) (λrow ra H3 pC s3 gO R hR3=>?_) (λrow ra H3 pC s3 gO=>?_) ?_
 ·have hl:=(RO.rws row pC).1;refine oQ (K:=K) (ms:=row.take m) (oO rfl gO) qx (mr (c9 rfl)) (xt (by lia)) H3 (.refl _) _ λu H4 s4 hu=>?_;exact⟨u,row.take m,rfl,hu,_,rfl,hR3 H4 s4⟩
 ·have hl:=(RO.rws row pC).1;exact oQ (K:=K) (oO rfl gO) (mr (c9 rfl)) qx (xu (by lia))
 intro H3 YS s3 hY lb qy;have sB:aU H2 (upd H3 lb (.lst YS)):=s3.trans (.upd qy);have tX:(upd H3 lb (.lst YS)) lb=some (.lst YS):=bg;have qz:=hY.mono (aU.upd qy (o:=.lst YS));generalize upd H3 lb (.lst YS)=H4 at sB tX qz ⊢;have sC:=sA.trans sB;refine gh (j:=0) rfl (sC.bt h1) rfl H4 (.refl _) _ ?_;refine gh (j:=1) rfl (sC.bt j7) rfl H4 (.refl _) _ ?_;refine⟨_,rfl,lb,YS,rfl,.inl ⟨.of tX,λtt htt=>⟨(by show 3≤sizeLine;lia),λv hv=>?_⟩⟩⟩;have sv:=(aU.upd (o:=.tup YS) htt).trans (aU.upd hv (o:=.tup [.int (l:Int),.int (r':Int),.ref tt]));exact q v _ (sC.trans sv) ⟨tt,YS,.of bg,(aU.upd hv).bt (.of bg),qz.mono sv⟩
theorem aaw{fC:Addr}{xn:FuncData}(F:cO K "form_of_then" "form_of_then" Cv f fd)(T:Txt mg)
  (GD:cj P w K mg base cb 3 fD jk ["p","rows"] (vz K)) (kD:Kp K fD) (bD:Binds K jk ["p","rows"] []) (mD:Mg mg "reduced" fD)
  (GC:cj P w K mg base cb 1 fC xn ["p","one","other"] (Io K)) (kC:Kp K fC) (bC:Binds K xn ["p","one","other"] []) (mC:Mg mg "facing" fC):cj P w K mg base cb 4 f fd ["p","one","other"] (Ip K):=by
 refine F.ok Iq (λvs H Q E h=>?_) (λcq A outer s H vs Q E hr h=>?_)
 ·obtain⟨p,a,b,l,r,aQ,r',rows',e,rfl,_⟩:=h;rfl
 ·obtain⟨p,a,b,l,m,aQ,r',rows',e,rfl,pp,hf,gT,b1,b2,b4,he,z1,z2,hR,jy,q⟩:=h;have jw:eW 1 _:=hr.mono (by decide);refine⟨Dc K,?_,?_⟩
  ·unfold Dc;refine bo ?_ ?_
   ·exact cy (i:=3) Iq.nd rfl (Or.inr rfl) (br (bX K rfl) (pv 1) aW (λ_ _=>rfl))
   refine bo ?_ ?_
   ·refine rm (N:=["row","between"]) (own:=1) (caps:=[3]) (i:=4) (te:=Iu K) (tt:=Ir K) rfl Iq.nd rfl rfl ?_ ?_ ?_ ?_ ?_
    ·exact tI K rfl (cV GD hr rfl mD kD bD .nil cW (aR (pv 0) (aR (cV GC jw rfl mC kC bC .nil cW (aR (pv 0) (aR (pv 1) (aR (pv 2) aY)))) aY)))
    ·exact(show gM nTh (cg Cv) ["row","between"] 1 [3] _ from .mk' (by decide +kernel))
    ·exact λ_ _ _ _ _=>de (i:=0) aam rfl (.inl rfl)
    ·intro _ _ _ _ _;unfold Ir;exact vg (uU (p8 (iD (Yn K rfl rfl) rfl T.any XH (aR (jV (ko K rfl) (pv 0) ki (i7 (pv 1))) aY))))
    ·intro _ _ _ _ _;unfold Iu;exact jV (ko K rfl) (pv 0) (i7 (pv 1)) ki
   refine bZ ?_;refine cM (te:=dR (aZ (cA K 1 0) (aZ (cA K 2 1) (aZ (lg (Im K) (aZ (aX 4) bK)) bK)))) ?_;refine dm ?_;refine aR ?_ ?_ ?_
   ·exact br (bX K rfl) (pv 1) aW (λ_ _=>rfl)
   ·refine aR ?_ ?_ ?_
    ·exact br (bX K rfl) (pv 2) aW (λ_ _=>rfl)
    ·refine aR ?_ aY ?_
     ·exact iT (wY K rfl) rfl T.tuple tJ (aR (pv 4) aY)
     ·rfl
    ·rfl
   ·rfl
  ·exact aav pp hf gT b1 b2 b4 he z1 z2 hR jy q
inductive xy(K:Frag)(p:Int)(x:Str)(ps:List V)(H:Hp)(Q:VK):Prop where
 |old (h:CV K p x ps H Q):xy K p x ps H Q
 |cF (a b:Addr) (l r:Nat) (aQ:LL) (l' r':Nat) (rows':LL) (e:Nat) (hx:x="beside") (hp:ps=[.ref a,.ref b]) (hf:fX K H a l r aQ) (gT:fX K H b l' r' rows') (b1:l≤100) (b2:r≤100) (b3:l'≤100) (b4:r'≤100) (he:e≤200) (z1:aQ.length≤400) (z2:rows'.length≤400) (hR:cP p (l+r+e) aQ) (jy:cP p (l'+r'+e) rows')
   (q:∀v H',aU H H'→fX K H' v (l+l') (r+r') (iy p (nK l r l' r' aQ rows'))→Q (.ref v) H'):xy K p x ps H Q
 |bh (a b:Addr) (l m:Nat) (aQ:LL) (r':Nat) (rows':LL) (e:Nat) (hx:x="then") (hp:ps=[.ref a,.ref b]) (hf:fX K H a l m aQ) (gT:fX K H b m r' rows') (b1:l≤100) (b2:m≤100) (b4:r'≤100) (he:e≤200) (z1:aQ.length≤400) (z2:rows'.length≤400) (hR:cP p (l+m+e) aQ) (jy:cP p (m+r'+e) rows')
   (q:∀v H',aU H H'→fX K H' v l r' (nM p l m r' aQ rows')→Q (.ref v) H'):xy K p x ps H Q
def OT(K:Frag):Sp:=λvs H Q _=>∃(p:Int)(x:Str)(pa:Addr)(ps:List V),vs=[.int p,.str x,.ref pa]∧p∈dW∧H pa=some (.lst ps)∧xy K p x ps H Q
abbrev xA(K:Frag)(i:Nat)(j:Int):TE:=cx (qf K) (aX i) (tC (.int j))
abbrev Dd(x:Str):TT:=gg (cx jI (aX 1) (tC (.str x)))
def OU(K:Frag):TE:=iw (Ih K) [] E0 (aZ (aX 0) (aZ (xA K 2 0) bK))
def OV(K:Frag):TE:=iw (Il K) [] E0 (aZ (aX 0) (aZ (xA K 2 0) (aZ (xA K 2 1) bK)))
def OW(K:Frag):TE:=iw (Ip K) [] E0 (aZ (aX 0) (aZ (xA K 2 0) (aZ (xA K 2 1) bK)))
def Iv(K:Frag):TE:=dR (aZ (tC (.int 1)) (aZ (tC (.int 1)) (aZ (dR (aZ (dR (aZ (tC (.int 1)) (aZ (xA K 2 0) bK))) bK)) bK)))
def Iw(K:Frag)(aB:Addr):TE:=dY K (iw (Ie K) [] E0 (aZ (dR (aZ (aX 1) bK)) bK)) (dR (aZ (NQ aB (qm K aB) (tC (.ref aB)) (aX 1)) bK))
def De(K:Frag)(aB:Addr):TS:=cn (dF (Dd "back") (eB (OU K)) fh) (cn (dF (Dd "beside") (eB (OV K)) fh) (cn (dF (Dd "then") (eB (OW K)) fh) (cn (dF (Dd "times") (eB (Iv K)) fh) (eB (Iw K aB)))))
theorem tw1:("beside":Str) ≠ "back":=by decide +kernel
theorem tw2:("then":Str) ≠ "back":=by decide +kernel
theorem tw3:("then":Str) ≠ "beside":=by decide +kernel
theorem aax{x:Str}{pa:Addr}{ps:List V}(B:qt K mg aS aB)(pp:p∈dW)(nI:H pa=some (.lst ps))(A:xy K p x ps H D.rt):De K aB D [some (.int p),some (.str x),some (.ref pa)] H:=by
 unfold De;cases A with
 |cF a b l r aQ l' r' rows' e hx hp hf gT b1 b2 b3 b4 he z1 z2 hR jy q=>
  subst hx hp;refine⟨_,rfl,rfl,_,rfl,qu tw1 ⟨_,rfl,rfl,_,rfl,zO ?_⟩⟩;exact⟨_,rfl,_,rfl,pa,_,0,_,rfl,rfl,.of nI,cw (j:=0) rfl,_,rfl,pa,_,1,_,rfl,rfl,.of nI,cw (j:=1) rfl,p,a,b,l,r,aQ,l',r',rows',e,rfl,pp,hf,gT,b1,b2,b3,b4,he,z1,z2,hR,jy,q⟩
 |bh a b l m aQ r' rows' e hx hp hf gT b1 b2 b4 he z1 z2 hR jy q=>
  subst hx hp;refine⟨_,rfl,rfl,_,rfl,qu tw2 ⟨_,rfl,rfl,_,rfl,qu tw3 ⟨_,rfl,rfl,_,rfl,zO ?_⟩⟩⟩;exact⟨_,rfl,_,rfl,pa,_,0,_,rfl,rfl,.of nI,cw (j:=0) rfl,_,rfl,pa,_,1,_,rfl,rfl,.of nI,cw (j:=1) rfl,p,a,b,l,m,aQ,r',rows',e,rfl,pp,hf,gT,b1,b2,b4,he,z1,z2,hR,jy,q⟩
 |old A=>
  cases A with
  |back a l r e aQ hx hp hf hl pB he hz hR q=>
   subst hx hp;refine⟨_,rfl,rfl,_,rfl,zO ?_⟩;exact⟨_,rfl,_,rfl,pa,_,0,_,rfl,rfl,.of nI,cw (j:=0) rfl,p,a,l,r,e,aQ,rfl,pp,hf,hl,pB,he,hz,hR,q⟩
  |times n hx hp q=>
   subst hx hp;refine⟨_,rfl,rfl,_,rfl,qu ZT ⟨_,rfl,rfl,_,rfl,qu ZU ⟨_,rfl,rfl,_,rfl,qu ZV ⟨_,rfl,rfl,_,rfl,zO ?_⟩⟩⟩⟩;refine⟨_,rfl,pa,_,0,_,rfl,rfl,.of nI,cw (j:=0) rfl,(by show 2≤sizeLine;decide),λt1 g1=>⟨(by show 1≤sizeLine;decide),λt2 g2=>⟨(by show 3≤sizeLine;decide),λt3 g3=>?_⟩⟩⟩;exact q t3 _ ((aU.upd g1).trans ((aU.upd g2).trans (.upd g3))) ⟨t2,[.ref t1],.of bg,(aU.upd g3).bt (.of bg),.cons (oF (r:=[1,n]) ((aU.upd g3).bt ((aU.upd g2).bt (.of bg)))) .nil⟩
  |box l r aQ hx q=>
   obtain⟨n1,n2,n3,n4⟩:=ZQ _ hx;refine⟨_,rfl,rfl,_,rfl,qu n1 ⟨_,rfl,rfl,_,rfl,qu n2 ⟨_,rfl,rfl,_,rfl,qu n3 ⟨_,rfl,rfl,_,rfl,qu n4 ?_⟩⟩⟩⟩;obtain⟨_,t,e,ht⟩:=B.at_ hx;refine⟨_,rfl,(by show 1≤sizeLine;decide),λt1 g1=>⟨t1,x,l,r,aQ,rfl,.of bg,hx,λv H1 s1 hv=>?_⟩⟩;refine⟨_,rfl,x,_,rfl,rfl,e,(by show 1≤sizeLine;decide),λt2 g2=>⟨v,t2,_,_,rfl,rfl,(aU.upd g2).bt hv,.of bg,(by show 2+1≤sizeLine;decide),λt3 H3 s3 Ij=>?_⟩⟩;obtain⟨RS,k1,k2⟩:=ht H3;exact q t3 H3 ((aU.upd g1).trans (s1.trans ((aU.upd g2).trans s3))) ⟨t,RS,Ij,k1,k2⟩
theorem aay{fB fS fT fW:Addr}{ua lK rP OX:FuncData}(F:cO K "form" "form" Hu f fd)(B:qt K mg aS aB)
  (GB:cj P w K mg base cb 4 fB ua ["p","one"] (Ih K)) (kB:Kp K fB) (bB:Binds K ua ["p","one"] []) (mB:Mg mg "form_of_back" fB)
  (GS:cj P w K mg base cb 4 fS lK ["p","one","other"] (Il K)) (kS:Kp K fS) (bS:Binds K lK ["p","one","other"] []) (mS:Mg mg "form_of_beside" fS)
  (GT:cj P w K mg base cb 4 fT rP ["p","one","other"] (Ip K)) (kT:Kp K fT) (bT:Binds K rP ["p","one","other"] []) (mT:Mg mg "form_of_then" fT)
  (GW:cj P w K mg base cb 5 fW OX ["words"] (Ie K)) (kW:Kp K fW) (bW:Binds K OX ["words"] []) (mW:Mg mg "wires" fW):cj P w K mg base cb 6 f fd ["p","word","parts"] (OT K):=by
 refine F.ok ZW (λvs H Q E h=>?_) (λcq A outer s H vs Q E hr h=>?_)
 ·obtain⟨p,x,pa,ps,rfl,_⟩:=h;rfl
 ·obtain⟨p,x,pa,ps,rfl,pp,nI,D⟩:=h;have zU:eW 4 _:=hr.mono (by decide);refine⟨De K aB,?_,?_⟩
  ·unfold De;refine bo ?_ ?_
   ·refine dQ ?_ ?_ eA
    ·exact df fj (pv 1) dM (cN _)
    ·refine bZ ?_;refine cM (te:=OU K) ?_;exact cV GB zU rfl mB kB bB .nil cW (aR (pv 0) (aR (br (fo K rfl) (pv 2) aW (λ_ _=>rfl)) aY))
   refine bo ?_ ?_
   ·refine dQ ?_ ?_ eA
    ·exact df fj (pv 1) dM (cN _)
    ·refine bZ ?_;refine cM (te:=OV K) ?_;exact cV GS zU rfl mS kS bS .nil cW (aR (pv 0) (aR (br (fo K rfl) (pv 2) aW (λ_ _=>rfl)) (aR (br (fo K rfl) (pv 2) aW (λ_ _=>rfl)) aY)))
   refine bo ?_ ?_
   ·refine dQ ?_ ?_ eA
    ·exact df fj (pv 1) dM (cN _)
    ·refine bZ ?_;refine cM (te:=OW K) ?_;exact cV GT zU rfl mT kT bT .nil cW (aR (pv 0) (aR (br (fo K rfl) (pv 2) aW (λ_ _=>rfl)) (aR (br (fo K rfl) (pv 2) aW (λ_ _=>rfl)) aY)))
   refine bo ?_ ?_
   ·refine dQ ?_ ?_ eA
    ·exact df fj (pv 1) dM (cN _)
    ·refine bZ ?_;refine cM (te:=Iv K) ?_;unfold Iv;refine dm ?_;refine aR aW ?_ ?_
     ·refine aR aW ?_ ?_
      ·refine aR ?_ aY ?_
       ·refine dm ?_;refine aR ?_ aY ?_
        ·refine dm ?_;refine aR aW ?_ ?_
         ·refine aR ?_ aY ?_
          ·exact br (fo K rfl) (pv 2) aW (λ_ _=>rfl)
          ·rfl
         ·exact Ik
        ·exact OI
       ·exact OI
      ·exact Ik
     ·exact Ik
   refine bZ ?_;refine cM (te:=Iw K aB) ?_;unfold Iw;refine bq (dJ K rfl) ?_ ?_
   ·exact cV GW hr rfl mW kW bW .nil cW (aR (dm (aR (pv 1) aY)) aY)
   ·refine dm ?_;refine aR ?_ aY ?_
    ·exact NR B.ZC (yz (v:=.ref _) rfl B.ZA rfl) (pv 1) (λ_ _=>rfl)
    ·rfl
  ·exact aax B pp nI D
inductive Drw where
 |box (x:Str) (l r:Nat) (aQ:LL)
 |times (n:Int)
 |back (d:Drw)
 |cF (a b:Drw)
 |bh (a b:Drw)
namespace Drw
noncomputable def bc:Drw→List V
 |box x _ _ _=>[.str x]
 |times n=>[.str "times",.int n]
 |back d=>.str "back"::d.bc
 |cF a b=>.str "beside"::(a.bc++b.bc)
 |bh a b=>.str "then"::(a.bc++b.bc)
noncomputable def jz:Drw→Nat×Nat
 |box _ l r _=>(l,r)
 |times _=>(1,1)
 |back d=>(d.jz.2,d.jz.1)
 |cF a b=>(a.jz.1+b.jz.1,a.jz.2+b.jz.2)
 |bh a b=>(a.jz.1,b.jz.2)
noncomputable abbrev aO(d:Drw):Nat:=d.jz.1
noncomputable abbrev aV(d:Drw):Nat:=d.jz.2
def wf(p:Int):Drw→Prop
 |box x l r aQ=>(x,l,r,aQ)∈gZ
 |times n=>0≤n∧n<p
 |back d=>d.wf p
 |cF a b=>a.wf p∧b.wf p
 |bh a b=>a.wf p∧b.wf p∧a.aV=b.aO
noncomputable def aQ(p:Int):Drw→LL
 |box _ _ _ aQ=>aQ
 |times n=>[[1,n]]
 |back d=>iy p ((d.aQ p).map (iV d.aO d.aV))
 |cF a b=>iy p (nK a.aO a.aV b.aO b.aV (a.aQ p) (b.aQ p))
 |bh a b=>nM p a.aO a.aV b.aV (a.aQ p) (b.aQ p)
theorem pos(d:Drw):1≤d.bc.length:=by cases d<;>simp[bc]
end Drw
theorem xB:∀e∈gZ,e.2.1≤2∧e.2.2.1≤2∧e.2.2.2.length≤2∧∀r∈e.2.2.2,r.length=e.2.1+e.2.2.1∧∀x∈r,0≤x∧x<2:=by decide +kernel
namespace Drw
theorem iP{p:Int}:∀{d:Drw},d.wf p→d.aO≤d.bc.length+1∧d.aV≤d.bc.length+1
 |box x l r aQ,h=>by
  obtain⟨h1,h2,_⟩:=xB _ h;exact⟨h1,h2⟩
 |times n,_=>by simp[aO,aV,jz,bc]
 |back d,h=>by
  have:=iP (d:=d) h
  simp only[aO,aV,jz,bc,eK]at this ⊢;lia
 |cF a b,h=>by
  have h1:=iP (d:=a) h.1;have h2:=iP (d:=b) h.2;simp only[aO,aV,jz,bc,eK,bY]at h1 h2 ⊢;lia
 |bh a b,h=>by
  have h1:=iP (d:=a) h.1;have h2:=iP (d:=b) h.2.1;simp only[aO,aV,jz,bc,eK,bY]at h1 h2 ⊢;lia
def sm:Drw→Prop
 |back d=>d.sm
 |cF a b=>a.sm∧b.sm∧a.aO+b.aO≤100∧a.aV+b.aV≤100
 |bh a b=>a.sm∧b.sm
 |_=>True
theorem xC{p:Int}:∀{d:Drw},d.wf p→d.bc.length≤99→d.sm
 |box ..,_,_=>trivial
 |times _,_,_=>trivial
 |back d,h,hl=>xC (d:=d) h (by simp only[bc,eK]at hl;lia)
 |cF a b,h,hl=>by
  have hf:=iP (d:=cF a b) h;simp only[aO,aV,jz]at hf;have pw:=hl;simp only[bc,eK,bY]at pw;exact⟨xC h.1 (by lia),xC h.2 (by lia),by simp only[aO];lia,by simp only[aV];lia⟩
 |bh a b,h,hl=>by
  simp only[bc,eK,bY]at hl;exact⟨xC h.1 (by lia),xC h.2.1 (by lia)⟩
theorem good{p:Int}(pp:p∈dW):∀{d:Drw},d.wf p→d.sm→d.aO≤100∧d.aV≤100∧(d.aQ p).length≤400∧cP p (d.aO+d.aV) (d.aQ p)
 |box x l r aQ,h,_=>by
  obtain⟨p2,_⟩:=gN p pp;obtain⟨h1,h2,h3,h4⟩:=xB _ h;refine⟨eS h1 (by decide),eS h2 (by decide),eS h3 (by decide),λr hr=>⟨(h4 r hr).1,λx hx=>?_⟩⟩
  have:=(h4 r hr).2 x hx
  lia
 |times n,h,_=>by
  obtain⟨p2,_⟩:=gN p pp;refine⟨by show 1≤100;decide,by show 1≤100;decide,by show 1≤400;decide,λr hr=>?_⟩;rw[cJ.mp hr];refine⟨rfl,λx hx=>?_⟩;rcases(dX.mp hx)with z|z
  ·subst z;lia
  ·rw[cJ.mp z];exact h
 |back d,h,hl=>by
  obtain⟨a1,a2,a3,a4⟩:=good pp (d:=d) h hl;have hS:cP p (d.aV+d.aO) ((d.aQ p).map (iV d.aO d.aV)):=λx hx=>by
   obtain⟨y,hy,e⟩:=cY.mp hx;rw[← e];exact zN (x:=0) (a4 y hy)
  have:=xm hS
  exact⟨a2,a1,eS this (by lia),(oH pp hS).rws⟩
 |cF a b,h,hl=>by
  obtain⟨p2,_⟩:=gN p pp;obtain⟨a1,a2,a3,a4⟩:=good pp (d:=a) h.1 hl.1;obtain⟨b1,b2,b3,b4⟩:=good pp (d:=b) h.2 hl.2.1;have hS:=zR (x:=0) (by lia) a4 b4;have hz:=xm hS;have h3:=hl.2.2.1;have h4:=hl.2.2.2;exact⟨h3,h4,eS hz (by lia),(oH pp hS).rws⟩
 |bh a b,h,hl=>by
  obtain⟨a1,a2,a3,a4⟩:=good pp (d:=a) h.1 hl.1;obtain⟨b1,b2,b3,b4⟩:=good pp (d:=b) h.2.1 hl.2;have b4:cP p (a.aV+b.aV) (b.aQ p):=by rw[h.2.2];exact b4
  have hz:=OR (x:=0) pp a4 b4;exact⟨a1,b2,eS hz (by lia),OQ (x:=0) pp a4 b4⟩
end Drw
inductive Itm where
 |num (n:Int)
 |cG (d:Drw)
namespace Itm
noncomputable def bc:Itm→List V
 |num n=>[.int n]
 |cG d=>d.bc
noncomputable def head:Itm→V
 |num n=>.int n
 |cG (.box x _ _ _)=>.str x
 |cG (.times _)=>.str "times"
 |cG (.back _)=>.str "back"
 |cG (.cF _ _)=>.str "beside"
 |cG (.bh _ _)=>.str "then"
noncomputable def kids:Itm→List Itm
 |num _=>[]
 |cG (.box _ _ _ _)=>[]
 |cG (.times n)=>[num n]
 |cG (.back d)=>[cG d]
 |cG (.cF a b)=>[cG a,cG b]
 |cG (.bh a b)=>[cG a,cG b]
theorem Iy(t:Itm):t.bc=t.head::t.kids.flatMap bc:=by
 cases t with
 |num n=>rfl
 |cG d=>cases d<;>simp[bc,head,kids,Drw.bc]
theorem pos(t:Itm):1≤t.bc.length:=by rw[Iy];simp
def wf(p:Int):Itm→Prop
 |num _=>True
 |cG d=>d.wf p∧d.sm
theorem aaz{t:Itm}(h:t.wf p):∀u∈t.kids,u.wf p:=by
 cases t with
 |num n=>intro u hu;cases hu
 |cG d=>
  obtain⟨h1,h2⟩:=h;cases d with
  |box=>intro u hu;cases hu
  |times n=>intro u hu;rw[cJ.mp hu];exact True.intro
  |back d=>
   intro u hu;rw[cJ.mp hu];exact⟨h1,h2⟩
  |cF a b=>
   intro u hu;rcases(dX.mp hu)with z|z
   ·rw[z];exact⟨h1.1,h2.1⟩
   ·rw[cJ.mp z];exact⟨h1.2,h2.2.1⟩
  |bh a b=>
   intro u hu;rcases(dX.mp hu)with z|z
   ·rw[z];exact⟨h1.1,h2.1⟩
   ·rw[cJ.mp z];exact⟨h1.2.1,h2.2⟩
end Itm
noncomputable def eV:List Itm→Nat→List Itm
 |ts,0=>ts
 | [],_+1=>[]
 |t::ts,i+1=>eV (t.kids++ts) i
theorem Df(i:Nat):eV [] i=[]:=by cases i<;>rfl
theorem xD:∀(i:Nat)(ts:List Itm),(eV ts i).flatMap Itm.bc=(ts.flatMap Itm.bc).drop i
 |0,ts=>rfl
 |i+1,[]=>rfl
 |i+1,t::ts=>by
  show(eV (t.kids++ts) i).flatMap Itm.bc=_;rw[xD i,List.flatMap_append,List.flatMap_cons,Itm.Iy,uH,List.drop_succ_cons]
theorem OY:∀(i:Nat)(ts:List Itm),eV ts (i+1)=eV (eV ts i) 1
 |0,ts=>rfl
 |i+1,[]=>by rw[Df,Df];rfl
 |i+1,t::ts=>by
  show eV (t.kids++ts) (i+1)=eV (eV (t.kids++ts) i) 1;exact OY i _
theorem OZ{p:Int}:∀(i:Nat){ts:List Itm},(∀t∈ts,t.wf p)→∀t∈eV ts i,t.wf p
 |0,ts,h=>h
 |i+1,[],h=>by intro t ht;rw[Df]at ht;cases ht
 |i+1,t::ts,h=>OZ i (ts:=t.kids++ts) λu hu=>by
  rcases(dq.mp hu)with z|z
  ·exact Itm.aaz (h t cU) u z
  ·exact h u (fK _ z)
theorem Dg(h:i<(ts.flatMap Itm.bc).length):∃t r,eV ts i=t::r∧(ts.flatMap Itm.bc)[i]?=some t.head∧eV ts (i+1)=t.kids++r:=by
 have e:=xD i ts;cases hs:eV ts i with
 |nil=>
  rw[hs]at e
  have:=aj List.length e
  simp only[List.flatMap_nil,wc,iK]at this;lia
 |cons t r=>
  refine⟨t,r,rfl,?_,by rw[OY,hs];rfl⟩;rw[hs,List.flatMap_cons,Itm.Iy,uH]at e;have z:((ts.flatMap Itm.bc).drop i)[0]?=some t.head:=by rw[← e];rfl
  rwa[sJ,Nat.add_zero]at z
theorem Iz:∀ts:List Itm,ts.length≤(ts.flatMap Itm.bc).length
 | []=>jf _
 |t::ts=>by
  have:=Iz ts
  have:=t.pos
  rw[List.flatMap_cons,bY,eK];lia
theorem IA:eV ts (ts.flatMap Itm.bc).length=[]:=by
 have e:=Iz (eV ts (ts.flatMap Itm.bc).length);rw[xD,List.drop_length]at e;exact List.eq_nil_of_length_eq_zero (Nat.le_zero.mp e)
theorem aaA:(eV ts i).length≤(ts.flatMap Itm.bc).length:=by
 have e:=Iz (eV ts i);rw[xD,iK]at e;lia
end S21
namespace S21
open PySem L2 Bw
variable{L rows':LL}{a row:List Int}{b bp c j l l' m n r r' x x':Nat}{f g u v:Fn}{p:Int}{s:Nat→Option (Int×Nat)}
theorem aaB:∀e∈gZ,nH e.1=0:=OB
theorem aaC:nH "beside"=2:=by decide +kernel
theorem aaD:nH "then"=2:=by decide +kernel
theorem aaE:∀e∈gZ,lB (.str e.1) (.str "late")=false:=by decide +kernel
theorem Dh:lB (.str "back") (.str "late")=false∧lB (.str "beside") (.str "late")=false∧lB (.str "then") (.str "late")=false∧lB (.str "times") (.str "late")=false:=by decide +kernel
theorem aaF(n:Int):lB (.int n) (.str "late")=false:=rfl
theorem Drw.xE{p:Int}:∀{d:Drw},d.wf p→∀v∈d.bc,qg v=true∧lB v (.str "late")=false
 | .box x l r aQ,h=>λv hv=>by
  rw[cJ.mp hv];exact⟨rfl,aaE _ h⟩
 | .times n,_=>λv hv=>by
  rcases(dX.mp hv)with z|z
  ·rw[z];exact⟨rfl,Dh.2.2.2⟩
  ·rw[cJ.mp z];exact⟨rfl,aaF n⟩
 | .back d,h=>λv hv=>by
  rcases(dX.mp hv)with z|z
  ·rw[z];exact⟨rfl,Dh.1⟩
  ·exact Drw.xE (d:=d) h v z
 | .cF a b,h=>λv hv=>by
  rcases(dX.mp hv)with z|z
  ·rw[z];exact⟨rfl,Dh.2.1⟩
  ·rcases(dq.mp z)with z|z
   ·exact Drw.xE (d:=a) h.1 v z
   ·exact Drw.xE (d:=b) h.2 v z
 | .bh a b,h=>λv hv=>by
  rcases(dX.mp hv)with z|z
  ·rw[z];exact⟨rfl,Dh.2.2.1⟩
  ·rcases(dq.mp z)with z|z
   ·exact Drw.xE (d:=a) h.1 v z
   ·exact Drw.xE (d:=b) h.2.1 v z
def zV(K:Frag)(p:Int)(H:Hp):Itm→V→Prop
 | .num n,v=>v=.int n
 | .cG d,v=>∃a,v=.ref a∧fX K H a d.aO d.aV (d.aQ p)
inductive jm(K:Frag)(p:Int)(H:Hp):List Itm→List V→Prop where
 |nil:jm K p H [] []
 |cons {t:Itm} {ts:List Itm} {v:V} {vs:List V} (h:zV K p H t v) (r:jm K p H ts vs):jm K p H (t::ts) (v::vs)
section
variable{K:Frag}{p:Int}{H H':Hp}
theorem zV.tup{t:Itm}{v:V}(h:zV K p H t v)(s:eX H H'):zV K p H' t v:=by
 cases t with
 |num n=>exact h
 |cG d=>
  obtain⟨a,e,hf⟩:=h;exact⟨a,e,hf.tup s⟩
theorem jm.tup{ts:List Itm}{vs:List V}(h:jm K p H ts vs)(s:eX H H'):jm K p H' ts vs:=by
 induction h with
 |nil=>exact .nil
 |cons h r ih=>exact .cons (h.tup s) ih
theorem jm.len{ts:List Itm}{vs:List V}(h:jm K p H ts vs):vs.length=ts.length:=by
 induction h with
 |nil=>rfl
 |cons h r ih=>rw[eK,eK,ih]
theorem jm.split:∀{ts us:List Itm}{vs:List V},jm K p H (ts++us) vs→∃xs ys,vs=xs++ys∧jm K p H ts xs∧jm K p H us ys
 | [],us,vs,h=>⟨[],vs,rfl,.nil,h⟩
 |t::ts,us,_,.cons h r=>by
  obtain⟨xs,ys,e,h1,h2⟩:=jm.split (ts:=ts) r;exact⟨_::xs,ys,by rw[e];rfl,.cons h h1,h2⟩
end
def O0(K:Frag)(Pt:Addr):Sp:=λvs H Q _=>∃(p:Int)(aw:Addr)(d:Drw),vs=[.int p,.ref aw]∧p∈dW∧d.wf p∧d.sm∧d.bc.length≤900000∧bj K H aw d.bc∧j5 H Pt (qv lN) qw∧
 ∀td aM v H',aU (del Pt H) H'→j5 H' Pt (qv lN) qw→H' td=some (.dK aM)→dG aM (Sum.inl 0)=some (.ref v)→fX K H' v d.aO d.aV (d.aQ p)→Q (.ref td) H'
theorem aaG{c Pt f fL fA fM:Addr}{fd oJ ky oK:FuncData}(F:cO K "forms" "forms" ku f fd)(i6:fd.code=.ref c)(C:CodeHd base c Pt)(BB:tM mg base)
  (GL:cj P w K mg base cb 1 fL oJ ["words"] (OJ K)) (kL:Kp K fL) (bL:Binds K oJ ["words"] []) (mL:Mg mg "refuse_late" fL)
  (GA:vq P w K mg base 8 fA ky ["words","made"] (HX 7 P w K mg base)) (kA:Kp K fA) (bA:Binds K ky ["words","made"] []) (mA:Mg mg "all_folded" fA)
  (GM:cj P w K mg base cb 6 fM oK ["p","word","parts"] (OT K)) (kM:Kp K fM) (bM:Binds K oK ["p","word","parts"] []) (mM:Mg mg "form" fM) :
  cj P w K mg base cb 9 f fd ["p","words"] (O0 K Pt):=by
 refine F.Yz Z7 (λvs H Q E h=>?_) (λcq A outer s H vs Q E hcv hr h=>?_)
 ·obtain⟨p,aw,d,rfl,_⟩:=h;rfl
 ·obtain⟨p,aw,d,rfl,pp,hd,IC,vG,hw,Di,q⟩:=h;have Bz:cq=.ref c:=hcv.symm.trans i6;subst Bz;have jw:eW 1 _:=hr.mono (by decide);refine⟨_,bo (nh (cV GL jw rfl mL kL bL .nil cW (aR (pv 1) aY))) (bZ (cM (Hi GA hr rfl mA kA bA (aR (pv 1) (aR (Yq (c:=c) (Pt:=Pt) (cl:=zQ s.heap.objs.size) rfl C BB Z2) aY))))),?_⟩;obtain⟨pst,hP⟩:=Di.tab;have O1:=Drw.xE hd;refine⟨_,rfl,aw,_,rfl,hw,pU.mpr λv hv=>(O1 v hv).1,List.any_eq_false.mpr λv hv=>by rw[(O1 v hv).2];decide,?_⟩;refine⟨_,rfl,Di,λfl HL Hh gI aaH hLF aL sI I=>?_⟩;have sL:=cZ.same gI;have wq:∃u,RelV (.int p) u∧sI.heap.IsCell (zP s.heap.objs.size) (some u)∧HL (zP s.heap.objs.size)=none:=by
   obtain⟨mm,hn,hl⟩:=I.loc;obtain⟨u,r,l⟩:=hl 0 "p" (.int p) rfl rfl (.inr (.inl rfl));rcases l with⟨iM,_⟩|⟨_,c',i5,wq⟩
   ·exact absurd (show(cg ku).names.lookup ("p":Str)=some .local from iM) (by decide +kernel)
   ·have ph:(cellsFrom (s.heap.objs.size+1) (cg ku).names []).lookup ("p":Str)=some c':=i5;rw[OK]at ph;cases ph;exact⟨u,r,wq,I.ng _ _ i5⟩
  have ew:([Itm.cG d]).flatMap Itm.bc=d.bc:=by simp[Itm.bc]
  have lP:∀t∈[Itm.cG d],t.wf p:=λt ht=>by rw[cJ.mp ht];exact⟨hd,IC⟩
  refine⟨aw,fl,d.bc,λvs H' Q=>∃(i:Int)(x:Str)(pa:Addr)(ps:List V),vs=[.int i,.str x,.ref pa]∧H' pa=some (.lst ps)∧xy K p x ps H' Q,λi vs H=>jm K p H (eV [.cG d] i) vs.reverse,rfl,?_⟩;refine⟨sL.bt (bj.del hP hw),vG,?_,?_,λi vs H1 H2 h tp=>h.tup tp,λi vs H1 h=>?_,λi hi=>?_,λi n vs H1 h g=>?_,λi x vs H1 h g=>?_,?_,λtd aM vs v H' s' h1 h2 h3=>?_⟩
  ·refine Zw (k:=6) (names:=["p"]) (caps:=[.int p]) (Z3 I.ok.inj) hLF (λ_ _ _ us hu=>match us,hu with | [_,_,_],_=>rfl) (λj y hj=>?_) rfl (λvs H' Q ⟨i,x,pa,ps,e,_⟩=>by rw[e];rfl) (λc' A' adz s' H' vs Q' pB gP hQ'=>?_)
   ·match j,hj with
    |0,hj=>
     have e : "p"=y:=dZ hj;subst e;obtain⟨u,r,h4,h5⟩:=wq;exact⟨_,_,u,rfl,rfl,r,h4,h5⟩
    |j+1,hj=>simp at hj
   ·obtain⟨i,x,pa,ps,rfl,nI,hF⟩:=hQ';refine⟨_,cV GM pB rfl mM kM bM .nil cW (aR (pv 3) (aR (pv 1) (aR (pv 2) aY))),?_⟩;exact⟨_,rfl,_,rfl,_,rfl,p,x,pa,ps,rfl,pp,nI,hF⟩
  ·show jm K p HL (eV [.cG d] d.bc.length) _;have e:=IA (ts:=[.cG d]);rw[ew]at e;rw[e];exact .nil
  ·have e:=h.len;have z:=aaA (ts:=[.cG d]) (i:=i);rw[List.length_reverse]at e;rw[ew]at z;lia
  ·obtain⟨t,r,e1,e2,e3⟩:=Dg (ts:=[.cG d]) (i:=i) (by rw[ew];exact hi);rw[ew]at e2;rw[e2];cases t with
   |num n=>exact .inr ⟨n,rfl⟩
   |cG d'=>cases d'<;>exact .inl ⟨_,rfl⟩
  ·obtain⟨t,r,e1,e2,e3⟩:=Dg (ts:=[.cG d]) (i:=i) (by rw[ew];exact(dH.mp h).1);rw[ew,h]at e2;cases t with
   |num m=>
    have e2:n=m:=V.int.inj (dZ e2);subst e2;have g:jm K p H1 (eV [.cG d] (i+1)) vs.reverse:=g;rw[e3]at g;show jm K p H1 (eV [.cG d] i) (vs++[V.int n]).reverse;rw[e1,List.reverse_append];exact .cons rfl g
   |cG d'=>cases d'<;>cases e2
  ·obtain⟨t,r,e1,e2,e3⟩:=Dg (ts:=[.cG d]) (i:=i) (by rw[ew];exact(dH.mp h).1);rw[ew,h]at e2;have O2:t.wf p:=OZ i lP t (by rw[e1];exact cU);have g:jm K p H1 (eV [.cG d] (i+1)) vs.reverse:=g;rw[e3]at g;obtain⟨xs,ys,ev,g1,g2⟩:=g.split;have ev':vs=ys.reverse++xs.reverse:=by rw[← List.reverse_append,← ev,List.reverse_reverse]
   refine⟨ys.reverse,xs,ev',?_,?_⟩
   ·have el:=g1.len;rw[el];cases t with
    |num m=>cases e2
    |cG d'=>
     cases d' with
     |box x' l' r' rows'=>
      have e2:x=x':=V.str.inj (dZ e2);subst e2;exact(aaB _ O2.1).symm
     |times n=>have e2:x=_:=V.str.inj (dZ e2);subst e2;exact Z6.symm
     |back d'=>have e2:x=_:=V.str.inj (dZ e2);subst e2;exact Z5.symm
     |cF a b=>have e2:x=_:=V.str.inj (dZ e2);subst e2;exact aaC.symm
     |bh a b=>have e2:x=_:=V.str.inj (dZ e2);subst e2;exact aaD.symm
   ·intro pa H2 Q' tp hp hq;refine⟨_,_,pa,_,rfl,hp,?_⟩;have g1:=g1.tup tp;have g2:=g2.tup tp;have fin:∀v H3,aU H2 H3→zV K p H3 t v→Q' v H3:=λv H3 s3 hv=>hq v H3 s3 (by
     show jm K p H3 (eV [.cG d] i) _;rw[e1,List.reverse_append,List.reverse_reverse];exact .cons hv (g2.tup s3.tup))
    cases t with
    |num m=>cases e2
    |cG d'=>
     obtain⟨vH,cB⟩:=O2;cases d' with
     |box x' l' r' rows'=>
      have e2:x=x':=V.str.inj (dZ e2);subst e2;exact .old (.box _ _ _ vH λv H3 s3 hv=>fin _ H3 s3 ⟨v,rfl,hv⟩)
     |times n=>
      have e2:x=_:=V.str.inj (dZ e2);subst e2;cases g1 with
      |cons h1 r1=>
       cases r1;have h1:_=V.int n:=h1;subst h1;exact .old (.times n rfl rfl λv H3 s3 hv=>fin _ H3 s3 ⟨v,rfl,hv⟩)
     |back d'=>
      have e2:x=_:=V.str.inj (dZ e2);subst e2;cases g1 with
      |cons h1 r1=>
       cases r1;obtain⟨a,rfl,hf⟩:=h1;obtain⟨b1,b2,b3,b4⟩:=Drw.good pp (d:=d') vH cB;exact .old (.back a _ _ 0 _ rfl rfl hf b1 b2 (by lia) (by lia) b4 λv H3 s3 hv=>fin _ H3 s3 ⟨v,rfl,hv⟩)
     |cF a b=>
      have e2:x=_:=V.str.inj (dZ e2);subst e2;cases g1 with
      |cons h1 r1=>
       cases r1 with
       |cons h2 r2=>
        cases r2;obtain⟨a1,rfl,hf⟩:=h1;obtain⟨a2,rfl,Dj⟩:=h2;obtain⟨b1,b2,b3,b4⟩:=Drw.good pp (d:=a) vH.1 cB.1;obtain⟨c1,c2,c3,c4⟩:=Drw.good pp (d:=b) vH.2 cB.2.1;exact .cF a1 a2 _ _ _ _ _ _ 0 rfl rfl hf Dj b1 b2 c1 c2 (by lia) b3 c3 b4 c4 λv H3 s3 hv=>fin _ H3 s3 ⟨v,rfl,hv⟩
     |bh a b=>
      have e2:x=_:=V.str.inj (dZ e2);subst e2;cases g1 with
      |cons h1 r1=>
       cases r1 with
       |cons h2 r2=>
        cases r2;obtain⟨a1,rfl,hf⟩:=h1;obtain⟨a2,rfl,Dj⟩:=h2;obtain⟨b1,b2,b3,b4⟩:=Drw.good pp (d:=a) vH.1 cB.1;obtain⟨c1,c2,c3,c4⟩:=Drw.good pp (d:=b) vH.2.1 cB.2;rw[← vH.2.2]at Dj c4;exact .bh a1 a2 _ _ _ _ _ 0 rfl rfl hf Dj b1 b2 c2 (by lia) b3 c3 b4 c4 λv H3 s3 hv=>fin _ H3 s3 ⟨v,rfl,hv⟩
  ·cases d<;>exact⟨_,rfl⟩
  ·have h3:jm K p H' [.cG d] (vs++[v]).reverse:=h3;rw[List.reverse_append]at h3;cases h3 with
   |cons hv r=>
    obtain⟨a,rfl,hf⟩:=hv;exact q td aM a H' (sL.trans s') (aaH.mono s') h1 h2 hf
def O3(K:Frag)(Pt:Addr):Sp:=λvs H Q _=>∃(p:Int)(aw:Addr)(d:Drw),vs=[.int p,.ref aw]∧p∈dW∧d.wf p∧d.sm∧d.bc.length≤900000∧bj K H aw d.bc∧j5 H Pt (qv lN) qw∧
 ∀v RS H',aU (del Pt H) H'→j5 H' Pt (qv lN) qw→bj K H' v RS→cu K H' RS ((d.aQ p).map dD)→Q (.ref v) H'
theorem aaI{Pt f fF:Addr}{fd tT:FuncData}(F:cO K "plain" "plain" Hs f fd)
  (GF:cj P w K mg base cb 9 fF tT ["p","words"] (O0 K Pt)) (kF:Kp K fF) (bF:Binds K tT ["p","words"] []) (mF:Mg mg "forms" fF):cj P w K mg base cb 10 f fd ["p","words"] (O3 K Pt):=by
 refine F.ok Z8 (λvs H Q E h=>?_) (λcq A outer s H vs Q E hr h=>?_)
 ·obtain⟨p,aw,d,rfl,_⟩:=h;rfl
 ·obtain⟨p,aw,d,rfl,pp,hd,IC,vG,hw,Di,q⟩:=h;refine⟨_,bZ (cM (br (bX K rfl) (jZ (rh hr) (cV GF hr rfl mF kF bF .nil cW (aR (pv 0) (aR (pv 1) aY))) aW (λ_ _=>rfl)) aW (λ_ _=>rfl))),?_⟩;refine⟨_,rfl,_,rfl,p,aw,d,rfl,pp,hd,IC,vG,hw,Di,λtd aM v H' s' hL zI hv hF=>?_⟩;obtain⟨tt,RS,h1,h2,h3⟩:=hF;exact⟨td,_,rfl,hv▸gH.k (k:=Sum.inl 0) zI,v,_,2,_,rfl,rfl,h1,cw (j:=2) rfl,q tt RS H' s' hL h2 h3⟩
noncomputable def bV(s:Nat→Option (Int×Nat))(f:Fn):Fn:=λj=>match s j with
 |some (a,i)=>a*f i
 |none=>0
theorem O4(h:fq p u v):fq p (bV s u) (bV s v):=λj=>by
 unfold bV;cases s j with
 |none=>exact⟨0,by simp⟩
 |some a=>
  have:p∣a.1*(u a.2-v a.2):=kf (h a.2)
  show p∣a.1*u a.2-a.1*v a.2;rwa[Int.mul_sub]at this
theorem aaJ{R R':Fn→Prop}(h:∀r,R r→Sp p R' (bV s r))(hv:Sp p R v):Sp p R' (bV s v):=by
 induction hv with
 |zero=>exact Sp.zero.of_eq λj=>by unfold bV;cases s j<;>simp
 | @add v r c _ hr ih=>
  refine(ih.plus c (h r hr)).of_eq λj=>?_;unfold bV;cases s j with
  |none=>simp
  |some a=>
   show a.1*v a.2+c*(a.1*r a.2)=a.1*(v a.2+c*r a.2);rw[Int.mul_add,← Int.mul_assoc,← Int.mul_assoc,nX c]
 |dh _ e ih=>exact .dh ih (O4 e)
noncomputable def lQ(w:Fn)(m:Nat):LL→List Nat→Fn
 |r::D,l::ls=>λj=>lQ w m D ls j+(if m≤l then w l else 0)*fn r j
 |_,_=>λ_=>0
theorem O5{r:List Int}(h:∀j,j<l→r.getD j 0=0)(hm:m≤l):oS m r=true:=by
 unfold oS;rw[Bool.not_eq_true',List.any_eq_false];intro x hx;obtain⟨i,hi,rfl⟩:=Bj.mp hx;rw[dE]at hi
 have:=h i (by lia)
 rw[List.getElem_take];rw[cH,cC (by lia)]at this;have e:r[i]=0:=this;simp[e]
theorem O6{p:Int}{w:Fn}{m:Nat}:∀(D:LL)(ls:List Nat),(∀(i:Nat)(r:List Int)(l:Nat),D[i]?=some r→ls[i]?=some l→∀j,j<l→r.getD j 0=0)→Sp p (RS (D.filter (oS m))) (lQ w m D ls)
 | [],_,_=>.zero
 |_::_,[],_=>.zero
 |r::D,l::ls,h=>by
  have ih:=O6 (p:=p) (w:=w) (m:=m) D ls λi r' l' h1 h2=>h (i+1) r' l' (by simpa using h1) (by simpa using h2);have sub:Sp p (RS ((r::D).filter (oS m))) (lQ w m D ls):=ih.trans λf ⟨q,hq,e⟩=>.mem ⟨q,by
   rw[List.filter_cons];split
   ·exact fK _ hq
   ·exact hq,e⟩
  unfold lQ;by_cases hm:m≤l
  ·simp only[hm,if_true];refine Sp.add (w l) sub ⟨r,?_,rfl⟩;rw[List.filter_cons,O5 (h 0 r l rfl rfl) hm,af rfl];exact cU
  ·simp only[hm,if_false,Int.zero_mul,Int.add_zero];exact sub
theorem O7{w:Fn}{m j:Nat}:∀(D:LL)(ls:List Nat),(∀(i:Nat)(r:List Int),D[i]?=some r→r.getD j 0=0)→lQ w m D ls j=0
 | [],_,_=>rfl
 |_::_,[],_=>rfl
 |r::D,l::ls,h=>by
  show lQ w m D ls j+_*r.getD j 0=0;rw[O7 D ls λi r' hr=>h (i+1) r' (by simpa using hr),h 0 r rfl];simp
theorem aaK{w:Fn}{k:Nat}:∀(D:LL)(ls:List Nat),D.length=ls.length→ls[k]?=some j→(∀(i:Nat)(r:List Int),D[i]?=some r→r.getD j 0=if i=k then 1 else 0)→lQ w m D ls j=if m≤j then w j else 0:=by
 induction k with
 |zero=>
  intro D ls hl hk h
  match D,ls,hl,hk with
  | [],[],_,hk=>simp at hk
  |r::D,l::ls,_,hk=>
   cases hk;show lQ w m D ls j+(if m≤j then w j else 0)*r.getD j 0=_
   rw[O7 D ls λi r' hr=>by simpa using h (i+1) r' (by simpa using hr),h 0 r rfl];simp
 |succ k ih=>
  intro D ls hl hk h
  match D,ls,hl,hk with
  | [],[],_,hk=>simp at hk
  |r::D,l::ls,hl,hk=>
   show lQ w m D ls j+_*r.getD j 0=_;rw[ih D ls (by simpa using hl) (by simpa using hk) λi r' hr=>by simpa using h (i+1) r' (by simpa using hr),h 0 r rfl];simp
theorem aaL{D:LL}{ls:List Nat}{w:Fn}(E:ja n n D ls)(h:Sp p (RS D) w)(hz:∀j,j<m→p∣w j):Sp p (RS (D.filter (oS m))) w:=by
 have s1:Sp p (RS (D.filter (oS m))) (lQ w m D ls):=O6 D ls λi r l h1 h2=>(E.one i r l h1 h2).2;have s2:Sp p (RS D) (lQ w m D ls):=s1.trans λf ⟨q,hq,e⟩=>.mem ⟨q,(g8.mp hq).1,e⟩;have s3:Sp p (RS D) (λj=>w j + -1*lQ w m D ls j):=h.plus (-1) s2;have z:=E.lead.zero (E.sp s3) λl r hl hr=>by
  obtain⟨i,h1,h2⟩:=w6 hr;have e:=aaK (w:=w) (m:=m) (k:=i) D ls E.len.symm h2 λi' r' pB=>by
   by_cases ei:i'=i
   ·subst ei;rw[af rfl];exact(E.one i' r' l pB h2).1
   ·rw[ag ei];exact E.alone i i' r' l (λz=>ei z.symm) pB h2
  show p∣w l + -1*lQ w m D ls l;rw[e];by_cases hm:m≤l
  ·rw[af hm];exact⟨0,by lia⟩
  ·rw[ag hm]
   have:=hz l (by lia)
   simpa using this
 refine .dh s1 λj=>?_
 have:=sO.mpr (z j)
 rwa[show -(w j + -1*lQ w m D ls j)=lQ w m D ls j-w j by lia]at this
theorem xF{b:List Int}:(a++b).getD j 0=if j<a.length then a.getD j 0 else b.getD (j-a.length) 0:=by
 by_cases h:j<a.length
 ·rw[af h,cH,gS h,cH]
 ·rw[ag h,cH,hU (by lia),cH]
theorem zW{k:Nat}:(a.take k).getD j 0=if j<k then a.getD j 0 else 0:=by
 rw[cH,List.getElem?_take];by_cases h:j<k
 ·rw[af h,af h,cH]
 ·rw[ag h,ag h];rfl
theorem qA{k:Nat}:(a.drop k).getD j 0=a.getD (k+j) 0:=by
 rw[cH,sJ,cH]
theorem Dk{k:Nat}:(List.replicate k (0:Int)).getD j 0=0:=by
 rw[cH,Bf];split<;>rfl
noncomputable def kz(l r:Nat)(j:Nat):Option (Int×Nat):=if j<r then some (1,l+j)else if j<r+l then some (1,j-r)else some (1,j)
noncomputable def jA(l r l' r':Nat)(j:Nat):Option (Int×Nat):=if j<l then some (1,j)else if j<l+l' then none else if j<l+l'+r then some (1,j-l')else if j<l+l'+r+r' then none else some (1,j-l' - r')
noncomputable def jB(l r l':Nat)(j:Nat):Option (Int×Nat):=if j<l then none else if j<l+l' then some (1,j-l)else if j<l+l'+r then none else some (1,j-l-r)
noncomputable def iW(l m r':Nat)(j:Nat):Option (Int×Nat):=if j<m then some (1,l+j)else if j<m+l then some (1,j-m)else if j<m+l+r' then none else some (1,j-r')
noncomputable def iX(l m:Nat)(j:Nat):Option (Int×Nat):=if j<m then some (-1,j)else if j<m+l then none else some (1,j-l)
noncomputable def xG(m:Nat)(j:Nat):Option (Int×Nat):=some (1,m+j)
theorem aaM(h:row.length=l+r+x)(j:Nat):fn (iV l r row) j=bV (kz l r) (fn row) j:=by
 unfold fn iV bV kz;have e1:((row.drop l).take r).length=r:=by rw[dE,iK];lia
 have e2:(row.take l).length=l:=by rw[dE];lia
 rw[xF,e1,xF,e2,zW,zW,qA,qA];by_cases h1:j<r
 ·simp only[h1,if_true,ic]
 ·by_cases h2:j<r+l
  ·simp only[h1,h2,if_true,if_false,show j-r<l by lia,ic]
  ·simp only[h1,h2,if_false,show ¬j-r<l by lia,ic,show l+r+(j-r-l)=j by lia]
theorem O8(h:row.length=l+r+x)(j:Nat):fn (tV l r l' r' row) j=bV (jA l r l' r') (fn row) j:=by
 unfold fn tV bV jA;have e1:(row.take l).length=l:=by rw[dE];lia
 have e2:((row.drop l).take r).length=r:=by rw[dE,iK];lia
 simp only[xF,bY,jG,e1,e2,zW,qA,Dk];by_cases h1:j<l
 ·simp only[h1,if_true,show j<l+l' by lia,show j<l+l'+r by lia,show j<l+l'+r+r' by lia,ic]
 ·by_cases h2:j<l+l'
  ·simp only[h1,h2,if_true,if_false,show j<l+l'+r by lia,show j<l+l'+r+r' by lia]
  ·by_cases h3:j<l+l'+r
   ·simp only[h1,h2,h3,if_true,if_false,show j<l+l'+r+r' by lia,show j-(l+l')<r by lia,ic,show l+(j-(l+l'))=j-l' by lia]
   ·by_cases h4:j<l+l'+r+r'
    ·simp only[h1,h2,h3,h4,if_true,if_false]
    ·simp only[h1,h2,h3,h4,if_false,ic,show l+r+(j-(l+l'+r+r'))=j-l' - r' by lia]
theorem O9(h:row.length=l'+x)(j:Nat):fn (tW l r l' row) j=bV (jB l r l') (fn row) j:=by
 unfold fn tW bV jB;have e1:(row.take l').length=l':=by rw[dE];lia
 simp only[xF,bY,jG,e1,zW,qA,Dk];by_cases h1:j<l
 ·simp only[h1,if_true,show j<l+l' by lia,show j<l+l'+r by lia]
 ·by_cases h2:j<l+l'
  ·simp only[h1,h2,if_true,if_false,show j<l+l'+r by lia,show j-l<l' by lia,ic]
  ·by_cases h3:j<l+l'+r
   ·simp only[h1,h2,h3,if_true,if_false]
   ·simp only[h1,h2,h3,if_false,ic,show l'+(j-(l+l'+r))=j-l-r by lia]
theorem Pa(h:row.length=l+m+x)(j:Nat):fn (tY l m r' row) j=bV (iW l m r') (fn row) j:=by
 unfold fn tY bV iW;have e1:(row.take l).length=l:=by rw[dE];lia
 have e2:((row.drop l).take m).length=m:=by rw[dE,iK];lia
 simp only[xF,bY,jG,e1,e2,zW,qA,Dk];by_cases h1:j<m
 ·simp only[h1,if_true,show j<m+l by lia,show j<m+l+r' by lia,ic]
 ·by_cases h2:j<m+l
  ·simp only[h1,h2,if_true,if_false,show j<m+l+r' by lia,show j-m<l by lia,ic]
  ·by_cases h3:j<m+l+r'
   ·simp only[h1,h2,h3,if_true,if_false]
   ·simp only[h1,h2,h3,if_false,ic,show l+m+(j-(m+l+r'))=j-r' by lia]
theorem aaN(j:Nat):fn (row.drop m) j=bV (xG m) (fn row) j:=by
 unfold fn bV xG;rw[qA];simp
theorem Pb(h:row.length=m+x):fq p (fn (tZ p l m row)) (bV (iX l m) (fn row)):=λj=>by
 unfold fn tZ bV iX;have e1:(((row.take m).map λn=>(-n)%p)).length=m:=by rw[bO,dE];lia
 simp only[xF,bY,jG,e1,qA,Dk];by_cases h1:j<m
 ·have e2:((row.take m).map λn=>(-n)%p).getD j 0=(-(row.getD j 0))%p:=by
   have hj:j<(row.take m).length:=by rw[dE];lia
   rw[cH,du,cC hj,cH,cC (by lia:j<row.length),List.getElem_take];rfl
  simp only[h1,if_true,show j<m+l by lia,e2]
  have:=px p (-(row.getD j 0))
  rwa[show -(row.getD j 0)=-1*row.getD j 0 by lia]at this ⊢
 ·by_cases h2:j<m+l
  ·simp only[h1,h2,if_true,if_false];exact⟨0,by lia⟩
  ·simp only[h1,h2,if_false,ic,show m+(j-(m+l))=j-l by lia];exact⟨0,by lia⟩
theorem aaO{c:Int}(j:Nat):bV s (λi=>u i+c*v i) j=bV s u j+c*bV s v j:=by
 unfold bV;cases s j with
 |none=>simp
 |some a=>
  show a.1*(u a.2+c*v a.2)=a.1*u a.2+c*(a.1*v a.2);rw[Int.mul_add,← Int.mul_assoc,← Int.mul_assoc,nX c]
theorem pF{g:List Int→List Int}(hg:∀r∈L,fq p (fn (g r)) (bV s (fn r))):Sp p (RS (L.map g)) f↔∃u,Sp p (RS L) u∧fq p (bV s u) f:=by
 constructor
 ·intro h;induction h with
  |zero=>exact⟨_,.zero,λj=>⟨0,by unfold bV;cases s j<;>simp⟩⟩
  | @add v r c _ hr ih=>
   obtain⟨u,hu,e⟩:=ih;obtain⟨q,hq,rfl⟩:=hr;obtain⟨r0,CJ,rfl⟩:=cY.mp hq;refine⟨_,hu.add c ⟨r0,CJ,rfl⟩,λj=>?_⟩;rw[aaO];have h1:=e j;have h2:p∣c*(fn (g r0) j-bV s (fn r0) j):=kf (hg r0 CJ j);have h3:=jS h1 h2;rwa[show bV s u j-v j-c*(fn (g r0) j-bV s (fn r0) j)=bV s u j+c*bV s (fn r0) j-(v j+c*fn (g r0) j) by rw[Int.mul_sub];lia]at h3
  |dh _ e ih=>
   obtain⟨u,hu,e'⟩:=ih;exact⟨u,hu,e'.trans e⟩
 ·rintro⟨u,hu,e⟩;refine .dh (aaJ (s:=s) (R':=RS (L.map g)) (λr ⟨q,hq,er⟩=>?_) hu) e;rw[er];exact .dh (tP (n8 hq)) (hg q hq)
theorem ID{L':LL}:Sp p (RS (L++L')) f↔∃u v,Sp p (RS L) u∧Sp p (RS L') v∧fq p (λj=>u j+v j) f:=by
 constructor
 ·intro h;induction h with
  |zero=>exact⟨_,_,.zero,.zero,λj=>⟨0,by simp⟩⟩
  | @add v r c _ hr ih=>
   obtain⟨u,v',hu,hv,e⟩:=ih;obtain⟨q,hq,rfl⟩:=hr;rcases(dq.mp hq)with z|z
   ·refine⟨_,v',hu.add c ⟨q,z,rfl⟩,hv,λj=>?_⟩
    have:=e j
    dsimp only at this ⊢;rwa[show u j+c*fn q j+v' j-(v j+c*fn q j)=u j+v' j-v j by lia]
   ·refine⟨u,_,hu,hv.add c ⟨q,z,rfl⟩,λj=>?_⟩
    have:=e j
    dsimp only at this ⊢;rwa[show u j+(v' j+c*fn q j)-(v j+c*fn q j)=u j+v' j-v j by lia]
  |dh _ e ih=>
   obtain⟨u,v',hu,hv,e'⟩:=ih;exact⟨u,v',hu,hv,e'.trans e⟩
 ·rintro⟨u,v,hu,hv,e⟩;have h1:Sp p (RS (L++L')) u:=tO (λr hr=>tP (e7 _ hr)) hu;have h2:Sp p (RS (L++L')) v:=tO (λr hr=>tP (eJ _ hr)) hv;exact .dh ((h1.plus 1 h2).of_eq λj=>by rw[ic]) e
theorem Dl(pp:p∈dW)(h:cP p n L):Sp p (RS (iy p L)) f↔Sp p (RS L) f:=⟨tO (oH pp h).sub,tO (oH pp h).sup⟩
section
variable{p:Int}{f:Fn}
theorem mv(h:∀j,u j=v j):fq p u v:=λj=>⟨0,by rw[h j];lia⟩
theorem Pc(f:Fn)(j:Nat):bV (kz l r) (bV (kz r l) f) j=f j:=by
 unfold bV kz;by_cases h1:j<r
 ·simp only[h1,if_true,show ¬l+j<l by lia,if_false,show l+j<l+r by lia,ic,show l+j-l=j by lia]
 ·by_cases h2:j<r+l
  ·simp only[h1,h2,if_true,if_false,show j-r<l by lia,ic,show r+(j-r)=j by lia]
  ·simp only[h1,h2,if_false,show ¬j<l by lia,show ¬j<l+r by lia,ic]
theorem aaP{aQ:LL}(h:cP p (l+r+x) aQ):Sp p (RS (aQ.map (iV l r))) f↔Sp p (RS aQ) (bV (kz r l) f):=by
 rw[pF (s:=kz l r) (λq hq=>mv (aaM (x:=x) (h q hq).1))];constructor
 ·rintro⟨u,hu,e⟩;refine .dh hu ?_;exact(mv λj=>(Pc (l:=r) (r:=l) u j).symm).trans (O4 e)
 ·intro h;exact⟨_,h,mv (Pc f)⟩
theorem aaQ{aQ:LL}(h:cP p (l+r+x) aQ)(h':cP p (l'+r'+x') rows') :
  Sp p (RS (nK l r l' r' aQ rows')) f↔∃u v,Sp p (RS aQ) u∧Sp p (RS rows') v∧fq p (λj=>bV (jA l r l' r') u j+bV (jB l r l') v j) f:=by
 unfold nK;rw[ID];constructor
 ·rintro⟨u,v,hu,hv,e⟩;obtain⟨u0,IE,eu⟩:=(pF (s:=jA l r l' r') (λq hq=>mv (O8 (x:=x) (h q hq).1))).mp hu;obtain⟨v0,IF,ev⟩:=(pF (s:=jB l r l') (λq hq=>mv (O9 (x:=r'+x') (by rw[(h' q hq).1];lia)))).mp hv;refine⟨u0,v0,IE,IF,λj=>?_⟩
  have:=nZ (nZ (eu j) (ev j)) (e j)
  dsimp only at this ⊢;rwa[show bV (jA l r l' r') u0 j-u j+(bV (jB l r l') v0 j-v j)+(u j+v j-f j)=bV (jA l r l' r') u0 j+bV (jB l r l') v0 j-f j by lia]at this
 ·rintro⟨u,v,hu,hv,e⟩;exact⟨_,_,(pF (s:=jA l r l' r') (λq hq=>mv (O8 (x:=x) (h q hq).1))).mpr ⟨u,hu,.refl _ _⟩,(pF (s:=jB l r l') (λq hq=>mv (O9 (x:=r'+x') (by rw[(h' q hq).1];lia)))).mpr ⟨v,hv,.refl _ _⟩,e⟩
theorem Pd{aQ:LL}(h:cP p (l+m+x) aQ)(h':cP p (m+r'+x') rows') :
  Sp p (RS (pE p l m r' aQ rows')) f↔∃u v,Sp p (RS aQ) u∧Sp p (RS rows') v∧fq p (λj=>bV (iW l m r') u j+bV (iX l m) v j) f:=by
 unfold pE;rw[ID];constructor
 ·rintro⟨u,v,hu,hv,e⟩;obtain⟨u0,IE,eu⟩:=(pF (s:=iW l m r') (λq hq=>mv (Pa (x:=x) (h q hq).1))).mp hu;obtain⟨v0,IF,ev⟩:=(pF (s:=iX l m) (λq hq=>Pb (x:=r'+x') (by rw[(h' q hq).1];lia))).mp hv;refine⟨u0,v0,IE,IF,λj=>?_⟩
  have:=nZ (nZ (eu j) (ev j)) (e j)
  dsimp only at this ⊢;rwa[show bV (iW l m r') u0 j-u j+(bV (iX l m) v0 j-v j)+(u j+v j-f j)=bV (iW l m r') u0 j+bV (iX l m) v0 j-f j by lia]at this
 ·rintro⟨u,v,hu,hv,e⟩;exact⟨_,_,(pF (s:=iW l m r') (λq hq=>mv (Pa (x:=x) (h q hq).1))).mpr ⟨u,hu,.refl _ _⟩,(pF (s:=iX l m) (λq hq=>Pb (x:=r'+x') (by rw[(h' q hq).1];lia))).mpr ⟨v,hv,.refl _ _⟩,e⟩
theorem Pe{r:List Int}(h:oS m r=true)(hj:j<m):r.getD j 0=0:=by
 unfold oS at h;rw[Bool.not_eq_true',List.any_eq_false]at h;by_cases hl:j<r.length
 ·have hm:r[j]∈r.take m:=Bj.mpr ⟨j,by rw[dE];lia,List.getElem_take ..⟩
  have:=h _ hm
  rw[cH,cC hl];simpa using this
 ·rw[cH,iR (by lia)];rfl
theorem IG{w:Fn}(hL:∀r∈L,r.getD j 0=0)(h:Sp p (RS L) w):p∣w j:=by
 induction h with
 |zero=>exact⟨0,by simp⟩
 | @add v r c _ hr ih=>
  obtain⟨q,hq,rfl⟩:=hr;show p∣v j+c*q.getD j 0;rw[hL q hq];simpa using ih
 |dh _ e ih=>
  have:=jS ih (e j)
  rename_i u v _
  rwa[show v j-(v j-u j)=u j by lia]at this
theorem Pf(v:Fn)(h:j<m):bV (iX l m) v j=-v j:=by
 unfold bV iX;simp only[h,if_true];lia
theorem Pg(u:Fn)(h:j<m):bV (iW l m r') u j=u (l+j):=by
 unfold bV iW;simp only[h,if_true,ic]
theorem aaR{N:Nat}{aQ:LL}(pp:p∈dW)(h:cP p (l+m+x) aQ)(h':cP p (m+r'+x') rows')(hN:cP p N (pE p l m r' aQ rows')) :
  Sp p (RS (nM p l m r' aQ rows')) f↔∃u v,Sp p (RS aQ) u∧Sp p (RS rows') v∧(∀j,j<m→p∣u (l+j)-v j)∧fq p (λj=>bV (iW l m r') u (m+j)+bV (iX l m) v (m+j)) f:=by
 have RO:=oH pp hN;obtain⟨ls,E⟩:=RO.qj;unfold nM;rw[pF (s:=xG m) (λq hq=>mv (λj=>aaN j))];constructor
 ·rintro⟨w,hw,e⟩;have hz:∀j,j<m→p∣w j:=λj hj=>IG (λr hr=>Pe (g8.mp hr).2 hj) hw;have Dm:Sp p (RS (pE p l m r' aQ rows')) w:=(Dl pp hN).mp (tO (λr hr=>tP (g8.mp hr).1) hw);obtain⟨u,v,hu,hv,ew⟩:=(Pd h h').mp Dm;refine⟨u,v,hu,hv,λj hj=>?_,λj=>?_⟩
  ·have h1:=ew j;dsimp only at h1;rw[Pf v hj,Pg u hj]at h1
   have:=nZ h1 (hz j hj)
   rwa[show u (l+j) + -v j-w j+w j=u (l+j)-v j by lia]at this
  ·have h1:=ew (m+j);have h2:=e j;have h3:bV (xG m) w j=w (m+j):=by unfold bV xG;simp
   rw[h3]at h2
   have:=nZ h1 h2
   dsimp only at this ⊢;rwa[show bV (iW l m r') u (m+j)+bV (iX l m) v (m+j)-w (m+j)+(w (m+j)-f j)=bV (iW l m r') u (m+j)+bV (iX l m) v (m+j)-f j by lia]at this
 ·rintro⟨u,v,hu,hv,hm,e⟩;refine⟨λj=>bV (iW l m r') u j+bV (iX l m) v j,?_,?_⟩
  ·refine aaL E ((Dl pp hN).mpr ((Pd h h').mpr ⟨u,v,hu,hv,.refl _ _⟩)) λj hj=>?_;show p∣bV (iW l m r') u j+bV (iX l m) v j;rw[Pf v hj,Pg u hj]
   have:=hm j hj
   rwa[show u (l+j) + -v j=u (l+j)-v j by lia]
  ·refine(mv λj=>?_).trans e;unfold bV xG;simp
end
def Drw.pG(p:Int):Drw→Prop
 | .box x l r aQ=>(x,l,r,aQ)∈gZ∨(x=Str.ofString "late"∧l=1∧r=1)
 | .times n=>0≤n∧n<p
 | .back d=>d.pG p
 | .cF a b=>a.pG p∧b.pG p
 | .bh a b=>a.pG p∧b.pG p∧a.aV=b.aO
noncomputable def Drw.bf:Drw→Nat
 | .box x _ _ _=>if x=Str.ofString "late" then 1 else 0
 | .times _=>0
 | .back d=>d.bf
 | .cF a b=>a.bf+b.bf
 | .bh a b=>a.bf+b.bf
noncomputable def j8(n i:Nat):List Int:=List.replicate i 0++([1]++List.replicate (n-i-1) 0)
noncomputable def Drw.gW(p:Int)(w:Nat):Nat→Drw→LL
 |c,.box x _ _ aQ=>if x=Str.ofString "late" then[[1,0]++j8 (2*w) (w+c),[0,1]++j8 (2*w) c]else aQ.map (·++List.replicate (2*w) 0)
 |_,.times n=>[[1,n]++List.replicate (2*w) 0]
 |c,.back d=>iy p ((Drw.gW p w c d).map (iV d.aO d.aV))
 |c,.cF a b=>iy p (nK a.aO a.aV b.aO b.aV (Drw.gW p w c a) (Drw.gW p w (c+a.bf) b))
 |c,.bh a b=>nM p a.aO a.aV b.aV (Drw.gW p w c a) (Drw.gW p w (c+a.bf) b)
theorem Ph(p2:2≤p){i:Nat}(h:i<n):Rw p n (j8 n i):=by
 refine⟨?_,λx hx=>?_⟩
 ·unfold j8;rw[bY,bY,jG,jG];show i+(1+_)=n;lia
 ·unfold j8 at hx;rcases(dq.mp hx)with h|h
  ·rw[List.eq_of_mem_replicate h];lia
  ·rcases(dq.mp h)with h|h
   ·rw[cJ.mp h];lia
   ·rw[List.eq_of_mem_replicate h];lia
theorem Dn{b:List Int}(h:Rw p n a)(k:Rw p m b):Rw p (n+m) (a++b):=⟨by rw[bY,h.1,k.1],λx hx=>by
 rcases(dq.mp hx)with z|z
 ·exact h.2 x z
 ·exact k.2 x z⟩
theorem Pj(p2:2≤p)(n:Nat):Rw p n (List.replicate n 0):=⟨jG,λx hx=>by rw[List.eq_of_mem_replicate hx];lia⟩
theorem zX:∀e∈gZ,e.1≠Str.ofString "late":=by decide +kernel
theorem Drw.pH{p:Int}(pp:p∈dW){w:Nat}(hw:w≤40):∀{d:Drw}{c:Nat},d.pG p→d.sm→c+d.bf≤w→d.aO≤100∧d.aV≤100∧(d.gW p w c).length≤400∧cP p (d.aO+d.aV+2*w) (d.gW p w c)
 | .box x l r aQ,c,h,_,hc=>by
  obtain⟨p2,_⟩:=gN p pp;rcases h with h|⟨rfl,rfl,rfl⟩
  ·have nb:=zX _ h;obtain⟨h1,h2,h3,h4⟩:=xB _ h;refine⟨eS h1 (by decide),eS h2 (by decide),?_,λq hq=>?_⟩
   ·unfold Drw.gW;rw[ag nb,bO];exact eS h3 (by decide)
   ·unfold Drw.gW at hq;rw[ag nb]at hq;obtain⟨y,hy,rfl⟩:=cY.mp hq;exact Dn ⟨(h4 y hy).1,λz hz=>by have:=(h4 y hy).2 z hz;lia⟩ (Pj p2 _)
  ·have hc:c+1≤w:=hc;refine⟨by show 1≤100;decide,by show 1≤100;decide,?_,λq hq=>?_⟩
   ·unfold Drw.gW;rw[af rfl];show 2≤400;decide
   ·unfold Drw.gW at hq;rw[af rfl]at hq;rcases(dX.mp hq)with rfl|hq
    ·exact Dn (n:=2) ⟨rfl,λz hz=>by rcases(dX.mp hz)with rfl|hz;lia;rw[cJ.mp hz];lia⟩ (Ph p2 (by lia))
    ·rw[cJ.mp hq];exact Dn (n:=2) ⟨rfl,λz hz=>by rcases(dX.mp hz)with rfl|hz;lia;rw[cJ.mp hz];lia⟩ (Ph p2 (by lia))
 | .times n,c,h,_,_=>by
  obtain⟨p2,_⟩:=gN p pp;have h:0≤n∧n<p:=h;refine⟨by show 1≤100;decide,by show 1≤100;decide,by show 1≤400;decide,λq hq=>?_⟩;rw[cJ.mp hq];exact Dn (n:=2) ⟨rfl,λz hz=>by rcases(dX.mp hz)with rfl|hz;lia;rw[cJ.mp hz];exact h⟩ (Pj p2 _)
 | .back d,c,h,hl,hc=>by
  obtain⟨a1,a2,a3,a4⟩:=Drw.pH pp hw (d:=d) (c:=c) h hl hc;have hS:cP p (d.aV+d.aO+2*w) ((d.gW p w c).map (iV d.aO d.aV)):=λx hx=>by
   obtain⟨y,hy,e⟩:=cY.mp hx;rw[← e];exact zN (a4 y hy)
  have:=xm hS
  exact⟨a2,a1,eS this (by lia),(oH pp hS).rws⟩
 | .cF a b,c,h,hl,hc=>by
  obtain⟨p2,_⟩:=gN p pp;have hc:c+(a.bf+b.bf)≤w:=hc;obtain⟨a1,a2,a3,a4⟩:=Drw.pH pp hw (d:=a) (c:=c) h.1 hl.1 (by lia);obtain⟨b1,b2,b3,b4⟩:=Drw.pH pp hw (d:=b) (c:=c+a.bf) h.2 hl.2.1 (by lia);have hS:=zR (by lia) a4 b4;have hz:=xm hS;have h3:=hl.2.2.1;have h4:=hl.2.2.2;exact⟨h3,h4,eS hz (by lia),(oH pp hS).rws⟩
 | .bh a b,c,h,hl,hc=>by
  have hc:c+(a.bf+b.bf)≤w:=hc;obtain⟨a1,a2,a3,a4⟩:=Drw.pH pp hw (d:=a) (c:=c) h.1 hl.1 (by lia);obtain⟨b1,b2,b3,b4⟩:=Drw.pH pp hw (d:=b) (c:=c+a.bf) h.2.1 hl.2 (by lia);have b4:cP p (a.aV+b.aV+2*w) (b.gW p w (c+a.bf)):=by rw[h.2.2];exact b4
  have hz:=OR pp a4 b4;exact⟨a1,b2,eS hz (by lia),OQ pp a4 b4⟩
def j9(p:Int)(w:Nat):Nat→Drw→Fn→Prop
 |c,.box x l r aQ,f=>Sp p (RS ((Drw.box x l r aQ).gW p w c)) f
 |c,.times n,f=>Sp p (RS ((Drw.times n).gW p w c)) f
 |c,.back d,f=>j9 p w c d (bV (kz d.aV d.aO) f)
 |c,.cF a b,f=>∃u v,j9 p w c a u∧j9 p w (c+a.bf) b v∧fq p (λj=>bV (jA a.aO a.aV b.aO b.aV) u j+bV (jB a.aO a.aV b.aO) v j) f
 |c,.bh a b,f=>∃u v,j9 p w c a u∧j9 p w (c+a.bf) b v∧(∀j,j<a.aV→p∣u (a.aO+j)-v j)∧fq p (λj=>bV (iW a.aO a.aV b.aV) u (a.aV+j)+bV (iX a.aO a.aV) v (a.aV+j)) f
theorem qB{p:Int}(pp:p∈dW){w:Nat}(hw:w≤40):∀{d:Drw}{c:Nat},d.pG p→d.sm→c+d.bf≤w→∀f,Sp p (RS (d.gW p w c)) f↔j9 p w c d f
 | .box x l r aQ,c,_,_,_=>λf=>Iff.rfl
 | .times n,c,_,_,_=>λf=>Iff.rfl
 | .back d,c,h,hl,hc=>λf=>by
  obtain⟨_,_,_,hR⟩:=Drw.pH pp hw (d:=d) (c:=c) h hl hc;have hS:cP p (d.aV+d.aO+2*w) ((d.gW p w c).map (iV d.aO d.aV)):=λx hx=>by
   obtain⟨y,hy,e⟩:=cY.mp hx;rw[← e];exact zN (hR y hy)
  show Sp p (RS (iy p _)) f↔j9 p w c d _;rw[Dl pp hS,aaP hR,qB pp hw (d:=d) h hl hc]
 | .cF a b,c,h,hl,hc=>λf=>by
  obtain⟨p2,_⟩:=gN p pp;have hc:c+(a.bf+b.bf)≤w:=hc;have c1:c+a.bf≤w:=by lia
  have c2:c+a.bf+b.bf≤w:=by lia
  obtain⟨_,_,_,hA⟩:=Drw.pH pp hw (d:=a) (c:=c) h.1 hl.1 c1;obtain⟨_,_,_,hB⟩:=Drw.pH pp hw (d:=b) (c:=c+a.bf) h.2 hl.2.1 c2;show Sp p (RS (iy p _)) f↔∃u v,j9 p w c a u∧j9 p w (c+a.bf) b v∧_;rw[Dl pp (zR (by lia) hA hB),aaQ hA hB];constructor
  ·rintro⟨u,v,hu,hv,e⟩;exact⟨u,v,(qB pp hw h.1 hl.1 c1 u).mp hu,(qB pp hw h.2 hl.2.1 c2 v).mp hv,e⟩
  ·rintro⟨u,v,hu,hv,e⟩;exact⟨u,v,(qB pp hw h.1 hl.1 c1 u).mpr hu,(qB pp hw h.2 hl.2.1 c2 v).mpr hv,e⟩
 | .bh a b,c,h,hl,hc=>λf=>by
  obtain⟨p2,_⟩:=gN p pp;have hc:c+(a.bf+b.bf)≤w:=hc;have c1:c+a.bf≤w:=by lia
  have c2:c+a.bf+b.bf≤w:=by lia
  obtain⟨_,_,_,hA⟩:=Drw.pH pp hw (d:=a) (c:=c) h.1 hl.1 c1;obtain⟨_,_,_,hB⟩:=Drw.pH pp hw (d:=b) (c:=c+a.bf) h.2.1 hl.2 c2;have Dp:cP p (a.aV+b.aV+2*w) (b.gW p w (c+a.bf)):=by rw[h.2.2];exact hB
  show Sp p (RS (nM p _ _ _ _ _)) f↔∃u v,j9 p w c a u∧j9 p w (c+a.bf) b v∧_;rw[aaR pp hA Dp (zT (by lia) hA Dp)];constructor
  ·rintro⟨u,v,hu,hv,e⟩;exact⟨u,v,(qB pp hw h.1 hl.1 c1 u).mp hu,(qB pp hw h.2.1 hl.2 c2 v).mp hv,e⟩
  ·rintro⟨u,v,hu,hv,e⟩;exact⟨u,v,(qB pp hw h.1 hl.1 c1 u).mpr hu,(qB pp hw h.2.1 hl.2 c2 v).mpr hv,e⟩
section
variable{p:Int}{f:Fn}
theorem jM:Sp p (RS []) f↔∀j,p∣f j:=by
 constructor
 ·intro h j;exact IG (λr hr=>absurd hr (by simp)) h
 ·intro h;refine .dh .zero λj=>?_
  have:=sO.mpr (h j)
  show p∣0-f j;rwa[show(0:Int)-f j=-f j by lia]
theorem mj{r:List Int}:Sp p (RS (r::L)) f↔∃c:Int,Sp p (RS L) (λj=>f j-c*fn r j):=by
 constructor
 ·intro h;obtain⟨u,v,hu,hv,e⟩:=(ID (L:=[r]) (L':=L)).mp h;have h1:∃c:Int,fq p (λj=>c*fn r j) u:=by
   clear e hv h;induction hu with
   |zero=>exact⟨0,λj=>⟨0,by simp⟩⟩
   | @add v q c _ hq ih=>
    obtain⟨c0,h0⟩:=ih;obtain⟨q,hq,rfl⟩:=hq;rw[cJ.mp hq];refine⟨c0+c,λj=>?_⟩
    have:=h0 j
    dsimp only at this ⊢;rwa[show(c0+c)*fn r j-(v j+c*fn r j)=c0*fn r j-v j by rw[Int.add_mul];lia]
   |dh _ e ih=>
    obtain⟨c0,h0⟩:=ih;exact⟨c0,h0.trans e⟩
  obtain⟨c,hc⟩:=h1;refine⟨c,.dh hv λj=>?_⟩
  have:=nZ (e j) (hc j)
  dsimp only at this ⊢;rwa[show u j+v j-f j+(c*fn r j-u j)=v j-(f j-c*fn r j) by lia]at this
 ·rintro⟨c,h⟩;have h1:Sp p (RS (r::L)) (λj=>f j-c*fn r j):=tO (λq hq=>tP (fK _ hq)) h;exact(h1.add c ⟨r,cU,rfl⟩).of_eq λj=>by lia
def Nil(p:Int)(f:Fn)(n:Nat):Prop:=∀j,n≤j→p∣f j
theorem Dq:Sp p (RS [[1,1]]) f↔p∣f 1-f 0∧Nil p f 2:=by
 rw[mj];constructor
 ·rintro⟨c,h⟩;have h:=jM.mp h;have h0:=h 0;have h1:=h 1;simp only[fn,Bn,Bo]at h0 h1;refine⟨?_,λj hj=>?_⟩
  ·have:=jS h1 h0
   rwa[show f 1-c*1-(f 0-c*1)=f 1-f 0 by lia]at this
  ·have:=h j
   have e:fn [1,1] j=0:=by unfold fn;rw[cH,iR (by simpa using hj)];rfl
   rw[e]at this;simpa using this
 ·rintro⟨h,hn⟩;refine⟨f 0,jM.mpr λj=>?_⟩
  match j with
  |0=>simp[fn]
  |1=>simpa[fn]using h
  |j+2=>simpa[fn]using hn (j+2) (by lia)
theorem aaS{n:Int}:Sp p (RS [[1,n]]) f↔p∣f 1-n*f 0∧Nil p f 2:=by
 rw[mj];constructor
 ·rintro⟨c,h⟩;have h:=jM.mp h;have h0:=h 0;have h1:=h 1;simp only[fn,Bn,Bo]at h0 h1;refine⟨?_,λj hj=>?_⟩
  ·have:=jS h1 (kf (b:=n) h0)
   rwa[show f 1-c*n-n*(f 0-c*1)=f 1-n*f 0 by rw[Int.mul_sub,sE,nX n c];lia]at this
  ·have:=h j
   have e:fn [1,n] j=0:=by unfold fn;rw[cH,iR (by simpa using hj)];rfl
   rw[e]at this;simpa using this
 ·rintro⟨h,hn⟩;refine⟨f 0,jM.mpr λj=>?_⟩
  match j with
  |0=>simp[fn]
  |1=>simpa[fn,nX]using h
  |j+2=>simpa[fn]using hn (j+2) (by lia)
theorem aaT:Sp p (RS [[1]]) f↔Nil p f 1:=by
 rw[mj];constructor
 ·rintro⟨c,h⟩ j hj
  have:=jM.mp h j
  have e:fn [1] j=0:=by unfold fn;rw[cH,iR (by simpa using hj)];rfl
  rw[e]at this;simpa using this
 ·intro hn;refine⟨f 0,jM.mpr λj=>?_⟩
  match j with
  |0=>simp[fn]
  |j+1=>simpa[fn]using hn (j+1) (by lia)
theorem Pk:Sp p (RS [[1,1,1]]) f↔p∣f 1-f 0∧p∣f 2-f 0∧Nil p f 3:=by
 rw[mj];constructor
 ·rintro⟨c,h⟩;have h:=jM.mp h;have h0:=h 0;have h1:=h 1;have h2:=h 2;simp only[fn,Bn,Bo]at h0 h1 h2;refine⟨?_,?_,λj hj=>?_⟩
  ·have:=jS h1 h0
   rwa[show f 1-c*1-(f 0-c*1)=f 1-f 0 by lia]at this
  ·have:=jS h2 h0
   rwa[show f 2-c*1-(f 0-c*1)=f 2-f 0 by lia]at this
  ·have:=h j
   have e:fn [1,1,1] j=0:=by unfold fn;rw[cH,iR (by simpa using hj)];rfl
   rw[e]at this;simpa using this
 ·rintro⟨h1,h2,hn⟩;refine⟨f 0,jM.mpr λj=>?_⟩
  match j with
  |0=>simp[fn]
  |1=>simpa[fn]using h1
  |2=>simpa[fn]using h2
  |j+3=>simpa[fn]using hn (j+3) (by lia)
theorem Pl:Sp p (RS [[1,0,1],[0,1,1]]) f↔p∣f 2-(f 0+f 1)∧Nil p f 3:=by
 rw[mj];constructor
 ·rintro⟨c,h⟩;obtain⟨d,h⟩:=mj.mp h;have h:=jM.mp h;have h0:=h 0;have h1:=h 1;have h2:=h 2;simp only[fn,Bn,Bo]at h0 h1 h2;refine⟨?_,λj hj=>?_⟩
  ·have:=jS (jS h2 h0) h1
   rwa[show f 2-c*1-d*1-(f 0-c*1-d*0)-(f 1-c*0-d*1)=f 2-(f 0+f 1) by lia]at this
  ·have:=h j
   have e1:fn [1,0,1] j=0:=by unfold fn;rw[cH,iR (by simpa using hj)];rfl
   have e2:fn [0,1,1] j=0:=by unfold fn;rw[cH,iR (by simpa using hj)];rfl
   rw[e1,e2]at this;simpa using this
 ·rintro⟨h,hn⟩;refine⟨f 0,mj.mpr ⟨f 1,jM.mpr λj=>?_⟩⟩
  match j with
  |0=>simp[fn]
  |1=>simp[fn]
  |2=>
   simp only[fn,Bn,Bo];rwa[show f 2-f 0*1-f 1*1=f 2-(f 0+f 1) by lia]
  |j+3=>simpa[fn]using hn (j+3) (by lia)
theorem Pm:Sp p (RS [[1,0,0,1],[0,1,1,0]]) f↔p∣f 3-f 0∧p∣f 2-f 1∧Nil p f 4:=by
 rw[mj];constructor
 ·rintro⟨c,h⟩;obtain⟨d,h⟩:=mj.mp h;have h:=jM.mp h;have h0:=h 0;have h1:=h 1;have h2:=h 2;have h3:=h 3;simp only[fn,Bn,Bo]at h0 h1 h2 h3;refine⟨?_,?_,λj hj=>?_⟩
  ·have:=jS h3 h0
   rwa[show f 3-c*1-d*0-(f 0-c*1-d*0)=f 3-f 0 by lia]at this
  ·have:=jS h2 h1
   rwa[show f 2-c*0-d*1-(f 1-c*0-d*1)=f 2-f 1 by lia]at this
  ·have:=h j
   have e1:fn [1,0,0,1] j=0:=by unfold fn;rw[cH,iR (by simpa using hj)];rfl
   have e2:fn [0,1,1,0] j=0:=by unfold fn;rw[cH,iR (by simpa using hj)];rfl
   rw[e1,e2]at this;simpa using this
 ·rintro⟨h3,h2,hn⟩;refine⟨f 0,mj.mpr ⟨f 1,jM.mpr λj=>?_⟩⟩
  match j with
  |0=>simp[fn]
  |1=>simp[fn]
  |2=>simpa[fn]using h2
  |3=>simpa[fn]using h3
  |j+4=>simpa[fn]using hn (j+4) (by lia)
end
noncomputable def sh(n:Nat)(f:Fn):Fn:=λj=>f (n+j)
def TR(p:Int):Drw→Fn→Fn→Fn→Fn→Prop
 | .box n l r aQ,x,k,y,a=>if n=Str.ofString "late" then p∣y 0-k 0∧p∣a 0-x 0 else Sp p (RS aQ) (λj=>if j<l then x j else if j<l+r then y (j-l)else 0)
 | .times n,x,_,y,_=>p∣y 0-n*x 0
 | .back d,x,k,y,a=>TR p d y k x a
 | .cF d e,x,k,y,a=>TR p d x k y a∧TR p e (sh d.aO x) (sh d.bf k) (sh d.aV y) (sh d.bf a)
 | .bh d e,x,k,y,a=>∃m,TR p d x k m a∧TR p e m (sh d.bf k) y (sh d.bf a)
section
variable{p:Int}
theorem mw{e a b:Int}(h:p∣a)(k:p∣b)(E:e=a+b):p∣e:=by rw[E];exact nZ h k
theorem iL{e a b:Int}(h:p∣a)(k:p∣b)(E:e=a-b):p∣e:=by rw[E];exact jS h k
theorem cQ{a b:Int}(E:a=b):p∣a-b:=⟨0,by rw[E];lia⟩
theorem Dr{a b:Int}(h:p∣a-b):p∣b-a:=by
 have:=sO.mpr h
 rwa[show -(a-b)=b-a by lia]at this
def Cg(p:Int)(n:Nat)(f g:Fn):Prop:=∀j,j<n→p∣f j-g j
theorem Cg.refl(n:Nat)(f:Fn):Cg p n f f:=λj _=>cQ rfl
theorem Cg.symm(h:Cg p n f g):Cg p n g f:=λj hj=>Dr (h j hj)
theorem Cg.sh{n m:Nat}{f g:Fn}(h:Cg p (n+m) f g):Cg p m (S21.sh n f) (S21.sh n g):=λj hj=>h (n+j) (by lia)
theorem Cg.le(h:Cg p n f g)(hm:m≤n):Cg p m f g:=λj hj=>h j (by lia)
theorem TR.dh:∀{d:Drw}{x x' k k' y y' a a':Fn},d.pG p→Cg p d.aO x x'→Cg p d.bf k k'→Cg p d.aV y y'→Cg p d.bf a a'→TR p d x k y a→TR p d x' k' y' a'
 | .box n l r aQ,x,x',k,k',y,y',a,a',hd,hx,hk,hy,ha,h=>by
  rcases hd with hd|⟨rfl,rfl,rfl⟩
  ·unfold TR at h ⊢;rw[ag (zX _ hd)]at h ⊢;refine .dh h λj=>?_;by_cases h1:j<l
   ·rw[af h1,af h1];exact hx j h1
   ·rw[ag h1,ag h1];by_cases h2:j<l+r
    ·rw[af h2,af h2];exact hy (j-l) (by show j-l<r;lia)
    ·rw[ag h2,ag h2];exact cQ rfl
  ·unfold TR at h ⊢;rw[af rfl]at h ⊢;have hx:=hx 0 (by show 0<1;decide);have hk:=hk 0 (by show 0<1;decide);have hy:=hy 0 (by show 0<1;decide);have ha:=ha 0 (by show 0<1;decide);exact⟨mw (iL h.1 hy rfl) hk (by lia),mw (iL h.2 ha rfl) hx (by lia)⟩
 | .times n,x,x',k,k',y,y',a,a',hd,hx,hk,hy,ha,h=>by
  have hx:=hx 0 (by show 0<1;decide);have hy:=hy 0 (by show 0<1;decide);have h:p∣y 0-n*x 0:=h;show p∣y' 0-n*x' 0;have hx:=kf (b:=n) hx;exact mw (iL h hy rfl) hx (by rw[Int.mul_sub];lia)
 | .back d,x,x',k,k',y,y',a,a',hd,hx,hk,hy,ha,h=>TR.dh (d:=d) hd hy hk hx ha h
 | .cF d e,x,x',k,k',y,y',a,a',hd,hx,hk,hy,ha,h=>⟨TR.dh (d:=d) hd.1 (hx.le (pT ..)) (hk.le (pT ..)) (hy.le (pT ..)) (ha.le (pT ..)) h.1,TR.dh (d:=e) hd.2 (Cg.sh hx) (Cg.sh hk) (Cg.sh hy) (Cg.sh ha) h.2⟩
 | .bh d e,x,x',k,k',y,y',a,a',hd,hx,hk,hy,ha,h=>by
  obtain⟨m,h1,h2⟩:=h;exact⟨m,TR.dh (d:=d) hd.1 hx (hk.le (pT ..)) (.refl _ _) (ha.le (pT ..)) h1,TR.dh (d:=e) hd.2.1 (.refl _ _) (Cg.sh hk) hy (Cg.sh ha) h2⟩
theorem Pn{la ra lb rb:Nat}:fq p (λj=>bV (jA la ra lb rb) u j+bV (jB la ra lb) v j) f ↔
  (∀j,j<la→p∣u j-f j)∧(∀j,j<lb→p∣v j-f (la+j))∧(∀j,j<ra→p∣u (la+j)-f (la+lb+j))∧(∀j,j<rb→p∣v (lb+j)-f (la+lb+(ra+j)))∧∀s,p∣u (la+ra+s)+v (lb+rb+s)-f (la+lb+(ra+rb)+s):=by
 have e1:∀j,j<la→bV (jA la ra lb rb) u j+bV (jB la ra lb) v j=u j:=λj hj=>by
  unfold bV jA jB;simp only[hj,if_true];lia
 have e2:∀j,j<lb→bV (jA la ra lb rb) u (la+j)+bV (jB la ra lb) v (la+j)=v j:=λj hj=>by
  unfold bV jA jB;simp only[show ¬la+j<la by lia,show la+j<la+lb by lia,if_true,if_false,show la+j-la=j by lia];lia
 have e3:∀j,j<ra→bV (jA la ra lb rb) u (la+lb+j)+bV (jB la ra lb) v (la+lb+j)=u (la+j):=λj hj=>by
  unfold bV jA jB;simp only[show ¬la+lb+j<la by lia,show ¬la+lb+j<la+lb by lia,show la+lb+j<la+lb+ra by lia,if_true,if_false,show la+lb+j-lb=la+j by lia];lia
 have e4:∀j,j<rb→bV (jA la ra lb rb) u (la+lb+(ra+j))+bV (jB la ra lb) v (la+lb+(ra+j))=v (lb+j):=λj hj=>by
  unfold bV jA jB;simp only[show ¬la+lb+(ra+j)<la by lia,show ¬la+lb+(ra+j)<la+lb by lia,show ¬la+lb+(ra+j)<la+lb+ra by lia,show la+lb+(ra+j)<la+lb+ra+rb by lia,if_true,if_false,show la+lb+(ra+j)-la-ra=lb+j by lia];lia
 have e5:∀s,bV (jA la ra lb rb) u (la+lb+(ra+rb)+s)+bV (jB la ra lb) v (la+lb+(ra+rb)+s)=u (la+ra+s)+v (lb+rb+s):=λs=>by
  unfold bV jA jB;simp only[show ¬la+lb+(ra+rb)+s<la by lia,show ¬la+lb+(ra+rb)+s<la+lb by lia,show ¬la+lb+(ra+rb)+s<la+lb+ra by lia,show ¬la+lb+(ra+rb)+s<la+lb+ra+rb by lia,if_false,show la+lb+(ra+rb)+s-la-ra=lb+rb+s by lia,show la+lb+(ra+rb)+s-lb-rb=la+ra+s by lia];lia
 constructor
 ·intro h;refine⟨λj hj=>?_,λj hj=>?_,λj hj=>?_,λj hj=>?_,λs=>?_⟩
  ·have:=h j;dsimp only at this;rwa[e1 j hj]at this
  ·have:=h (la+j);dsimp only at this;rwa[e2 j hj]at this
  ·have:=h (la+lb+j);dsimp only at this;rwa[e3 j hj]at this
  ·have:=h (la+lb+(ra+j));dsimp only at this;rwa[e4 j hj]at this
  ·have:=h (la+lb+(ra+rb)+s);dsimp only at this;rwa[e5 s]at this
 ·rintro⟨h1,h2,h3,h4,h5⟩ j;dsimp only;by_cases k1:j<la
  ·rw[e1 j k1];exact h1 j k1
  by_cases k2:j<la+lb
  ·obtain⟨i,rfl⟩:∃i,j=la+i:=⟨j-la,by lia⟩;rw[e2 i (by lia)];exact h2 i (by lia)
  by_cases k3:j<la+lb+ra
  ·obtain⟨i,rfl⟩:∃i,j=la+lb+i:=⟨j-(la+lb),by lia⟩;rw[e3 i (by lia)];exact h3 i (by lia)
  by_cases k4:j<la+lb+(ra+rb)
  ·obtain⟨i,rfl⟩:∃i,j=la+lb+(ra+i):=⟨j-(la+lb+ra),by lia⟩;rw[e4 i (by lia)];exact h4 i (by lia)
  ·obtain⟨i,rfl⟩:∃i,j=la+lb+(ra+rb)+i:=⟨j-(la+lb+(ra+rb)),by lia⟩;rw[e5 i];exact h5 i
theorem Po:fq p (λj=>bV (iW l m r') u (m+j)+bV (iX l m) v (m+j)) f ↔
  (∀j,j<l→p∣u j-f j)∧(∀j,j<r'→p∣v (m+j)-f (l+j))∧∀s,p∣u (l+m+s)+v (m+r'+s)-f (l+r'+s):=by
 have e1:∀j,j<l→bV (iW l m r') u (m+j)+bV (iX l m) v (m+j)=u j:=λj hj=>by
  unfold bV iW iX;simp only[show ¬m+j<m by lia,show m+j<m+l by lia,if_true,if_false,show m+j-m=j by lia];lia
 have e2:∀j,j<r'→bV (iW l m r') u (m+(l+j))+bV (iX l m) v (m+(l+j))=v (m+j):=λj hj=>by
  unfold bV iW iX;simp only[show ¬m+(l+j)<m by lia,show ¬m+(l+j)<m+l by lia,show m+(l+j)<m+l+r' by lia,if_true,if_false,show m+(l+j)-l=m+j by lia];lia
 have e3:∀s,bV (iW l m r') u (m+(l+r'+s))+bV (iX l m) v (m+(l+r'+s))=u (l+m+s)+v (m+r'+s):=λs=>by
  unfold bV iW iX;simp only[show ¬m+(l+r'+s)<m by lia,show ¬m+(l+r'+s)<m+l by lia,show ¬m+(l+r'+s)<m+l+r' by lia,if_false,show m+(l+r'+s)-l=m+r'+s by lia,show m+(l+r'+s)-r'=l+m+s by lia];lia
 constructor
 ·intro h;refine⟨λj hj=>?_,λj hj=>?_,λs=>?_⟩
  ·have:=h j;dsimp only at this;rwa[e1 j hj]at this
  ·have:=h (l+j);dsimp only at this;rwa[e2 j hj]at this
  ·have:=h (l+r'+s);dsimp only at this;rwa[e3 s]at this
 ·rintro⟨h1,h2,h3⟩ j;dsimp only;by_cases k1:j<l
  ·rw[e1 j k1];exact h1 j k1
  by_cases k2:j<l+r'
  ·obtain⟨i,rfl⟩:∃i,j=l+i:=⟨j-l,by lia⟩;rw[e2 i (by lia)];exact h2 i (by lia)
  ·obtain⟨i,rfl⟩:∃i,j=l+r'+i:=⟨j-(l+r'),by lia⟩;rw[e3 i];exact h3 i
end
section
variable{p:Int}
def Out(p:Int)(b w c n:Nat)(f:Fn):Prop:=∀s,¬(c≤s∧s<c+n)→¬(w+c≤s∧s<w+c+n)→p∣f (b+s)
def jC(w c n s:Nat):Prop:=(c≤s∧s<c+n)∨(w+c≤s∧s<w+c+n)
instance (w c n s:Nat):Decidable (jC w c n s):=by unfold jC;infer_instance
theorem Pp(row:List Int)(k j:Nat):fn (row++List.replicate k 0) j=fn row j:=by
 unfold fn;rw[cH,cH];by_cases h:j<row.length
 ·rw[gS h]
 ·rw[hU (by lia),iR (l:=row) (by lia),Bf];split<;>rfl
theorem Pq{aQ:LL}{k:Nat}:Sp p (RS (aQ.map (·++List.replicate k 0))) f↔Sp p (RS aQ) f:=by
 constructor
 ·refine tO λr hr=>?_;obtain⟨y,hy,rfl⟩:=cY.mp hr;exact(tP hy).of_eq λj=>(Pp y k j).symm
 ·refine tO λr hr=>?_;exact(tP (cY.mpr ⟨r,hr,rfl⟩)).of_eq λj=>Pp r k j
theorem aaU{aQ:LL}(hl:∀q∈aQ,q.length=l+r):Sp p (RS aQ) f↔Sp p (RS aQ) (λj=>if j<l then f j else if j<l+r then sh l f (j-l)else 0)∧∀s,p∣f (l+r+s):=by
 have e:∀(_:∀s,p∣f (l+r+s)),fq p f (λj=>if j<l then f j else if j<l+r then sh l f (j-l)else 0):=λh j=>by
  dsimp only;by_cases h1:j<l
  ·rw[af h1];exact cQ rfl
  ·rw[ag h1];by_cases h2:j<l+r
   ·rw[af h2];unfold sh;rw[show l+(j-l)=j by lia];exact cQ rfl
   ·rw[ag h2]
    have:=h (j-(l+r))
    rw[show l+r+(j-(l+r))=j by lia]at this;rwa[show f j-0=f j by lia]
 constructor
 ·intro h;have z:∀s,p∣f (l+r+s):=λs=>IG (λq hq=>by rw[cH,iR (by rw[hl q hq];lia)];rfl) h;exact⟨.dh h (e z),z⟩
 ·rintro⟨h,z⟩;exact .dh h (e z).symm
theorem Pu{i:Nat}(h:i<n):fn (j8 n i) j=if j=i then 1 else 0:=by
 unfold fn j8;rw[cH];by_cases h1:j<i
 ·rw[gS (by simpa using h1),Bf,af h1,ag (by lia)];rfl
 ·rw[hU (by simpa using h1),jG];by_cases h2:j=i
  ·subst h2;rw[Nat.sub_self,af rfl];rfl
  ·rw[ag h2];obtain⟨k,hk⟩:∃k,j-i=k+1:=⟨j-i-1,by lia⟩;rw[hk,hU (by simp)];show(List.replicate (n-i-1) (0:Int))[k+1-1]?.getD 0=0;rw[Bf];split<;>rfl
theorem Pw(a b:Int)(r:List Int)(j:Nat):fn ([a,b]++r) (2+j)=fn r j:=by
 unfold fn;rw[Nat.add_comm];rfl
theorem aaV{w:Nat}(hc:c+1≤w):Sp p (RS [[1,0]++j8 (2*w) (w+c),[0,1]++j8 (2*w) c]) f↔(p∣f 1-f (2+c)∧p∣f (2+w+c)-f 0)∧Out p 2 w c 1 f:=by
 rw[mj];have key:∀a b s,fn ([1,0]++j8 (2*w) (w+c)) (2+s)*a+fn ([0,1]++j8 (2*w) c) (2+s)*b=(if s=w+c then a else 0)+if s=c then b else 0:=λa b s=>by
  rw[Pw,Pw,Pu (by lia),Pu (by lia)];split<;>split<;>lia
 have k0:fn ([1,0]++j8 (2*w) (w+c)) 0=1∧fn ([1,0]++j8 (2*w) (w+c)) 1=0∧fn ([0,1]++j8 (2*w) c) 0=0∧fn ([0,1]++j8 (2*w) c) 1=1:=⟨rfl,rfl,rfl,rfl⟩;generalize fn ([1,0]++j8 (2*w) (w+c))=g at key k0 ⊢;generalize hh:fn ([0,1]++j8 (2*w) c)=h at key k0;constructor
 ·rintro⟨a,h1⟩;rw[mj,hh]at h1;obtain⟨b,h1⟩:=h1;have h1:=jM.mp h1;have z0:=h1 0;have z1:=h1 1;have zs:∀s,p∣f (2+s)-((if s=w+c then a else 0)+if s=c then b else 0):=λs=>by
   have:=h1 (2+s)
   rw[← key a b s];rwa[show f (2+s)-a*g (2+s)-b*h (2+s)=f (2+s)-(g (2+s)*a+h (2+s)*b) by rw[nX a,nX b];lia]at this
  rw[k0.1,k0.2.2.1]at z0;rw[k0.2.1,k0.2.2.2]at z1;refine⟨⟨?_,?_⟩,λs hs1 vh=>?_⟩
  ·have:=zs c
   rw[ag (by lia),af rfl]at this;exact iL z1 this (by lia)
  ·have:=zs (w+c)
   rw[af rfl,ag (by lia)]at this;rw[show 2+(w+c)=2+w+c by lia]at this;exact iL this z0 (by lia)
  ·have:=zs s
   rw[ag (by lia),ag (by lia)]at this;rwa[show f (2+s)-(0+0)=f (2+s) by lia]at this
 ·rintro⟨⟨h1,h2⟩,h3⟩;refine⟨f 0,?_⟩;rw[mj,hh];refine⟨f 1,jM.mpr λj=>?_⟩
  match j with
  |0=>rw[k0.1,k0.2.2.1];exact⟨0,by lia⟩
  |1=>rw[k0.2.1,k0.2.2.2];exact⟨0,by lia⟩
  |j+2=>
   rw[Nat.add_comm j 2];have e:f (2+j)-f 0*g (2+j)-f 1*h (2+j)=f (2+j)-(g (2+j)*f 0+h (2+j)*f 1):=by rw[nX (f 0),nX (f 1)];lia
   rw[e,key];by_cases e1:j=w+c
   ·subst e1;rw[af rfl,ag (by lia),show 2+(w+c)=2+w+c by lia];rwa[Int.add_zero]
   ·rw[ag e1];by_cases e2:j=c
    ·subst e2;rw[af rfl];exact iL (cQ (rfl:f 1=f 1)) h1 (by lia)
    ·rw[ag e2]
     have:=h3 j (by lia) (by lia)
     rwa[show f (2+j)-(0+0)=f (2+j) by lia]
end
section
variable{p:Int}
theorem Px{ba bb w na nb:Nat}(h:∀s,p∣u (ba+s)+v (bb+s)-f (b+s))(hu:Out p ba w c na u)(hv:Out p bb w (c+na) nb v)(hw:c+(na+nb)≤w) :
  Out p b w c (na+nb) f∧(∀s,jC w c na s→p∣u (ba+s)-f (b+s))∧∀s,jC w (c+na) nb s→p∣v (bb+s)-f (b+s):=by
 refine⟨λs h1 h2=>?_,λs hs=>?_,λs hs=>?_⟩
 ·exact iL (mw (hu s (by lia) (by lia)) (hv s (by lia) (by lia)) rfl) (h s) (by lia)
 ·unfold jC at hs;exact iL (h s) (hv s (by lia) (by lia)) (by lia)
 ·unfold jC at hs;exact iL (h s) (hu s (by lia) (by lia)) (by lia)
noncomputable def part(bp b w c n:Nat)(g f:Fn):Fn:=λj=>if j<bp then g j else if jC w c n (j-bp)then f (b+(j-bp))else 0
theorem ub{w:Nat}(h:j<bp):part bp b w c n g f j=g j:=af h
theorem xH{w:Nat}{s:Nat}(h:jC w c n s):part bp b w c n g f (bp+s)=f (b+s):=by
 unfold part;rw[ag (by lia),show bp+s-bp=s by lia,af h]
theorem Ds{w:Nat}{s:Nat}(h:¬jC w c n s):part bp b w c n g f (bp+s)=0:=by
 unfold part;rw[ag (by lia),show bp+s-bp=s by lia,ag h]
theorem Dt{w:Nat}:Out p bp w c n (part bp b w c n g f):=λs h1 h2=>by
 rw[Ds (by unfold jC;lia)];exact⟨0,by lia⟩
theorem Py{ba bb w na nb:Nat}{g':Fn}(hf:Out p b w c (na+nb) f)(hw:c+(na+nb)≤w)(s:Nat):p∣part ba b w c na g f (ba+s)+part bb b w (c+na) nb g' f (bb+s)-f (b+s):=by
 by_cases h1:jC w c na s
 ·have h2:¬jC w (c+na) nb s:=by unfold jC at h1 ⊢;lia
  rw[xH h1,Ds h2];exact⟨0,by lia⟩
 ·rw[Ds h1];by_cases h2:jC w (c+na) nb s
  ·rw[xH h2];exact⟨0,by lia⟩
  ·rw[Ds h2];unfold jC at h1 h2
   have:=hf s (by lia) (by lia)
   have:=sO.mpr this
   rwa[show 0+0-f (b+s)=- f (b+s) by lia]
theorem qC{w:Nat}:∀{d:Drw}{c:Nat},d.pG p→c+d.bf≤w→∀f,j9 p w c d f↔TR p d f (sh (d.aO+d.aV+c) f) (sh d.aO f) (sh (d.aO+d.aV+w+c) f)∧Out p (d.aO+d.aV) w c d.bf f
 | .box n l r aQ,c,hd,hc=>λf=>by
  rcases hd with hd|⟨rfl,rfl,rfl⟩
  ·have nb:=zX _ hd;obtain⟨_,_,_,h4⟩:=xB _ hd;have en:(Drw.box n l r aQ).bf=0:=ag nb;rw[en];show Sp p (RS ((Drw.box n l r aQ).gW p w c)) f↔_;unfold Drw.gW TR;rw[ag nb,ag nb,Pq,aaU (l:=l) (r:=r) λq hq=>(h4 q hq).1];constructor
   ·rintro⟨h,z⟩;exact⟨h,λs _ _=>z s⟩
   ·rintro⟨h,z⟩;exact⟨h,λs=>z s (by lia) (by lia)⟩
  ·have hc:c+1≤w:=hc;show Sp p (RS ((Drw.box _ 1 1 aQ).gW p w c)) f↔_;unfold Drw.gW TR;rw[af rfl,af rfl,aaV hc];exact Iff.rfl
 | .times n,c,_,hc=>λf=>by
  show Sp p (RS ([[1,n]].map (·++List.replicate (2*w) 0))) f↔_;rw[Pq,aaS];constructor
  ·rintro⟨h,z⟩;exact⟨h,λs _ _=>z (2+s) (by lia)⟩
  ·rintro⟨h,z⟩;refine⟨h,λj hj=>?_⟩
   have:=z (j-2) (by show ¬(c≤_∧_<c+0);lia) (by show ¬(_∧_<w+c+0);lia)
   have e:(Drw.times n).aO+(Drw.times n).aV+(j-2)=j:=by show 1+1+(j-2)=j;lia
   rwa[e]at this
 | .back d,c,hd,hc=>λf=>by
  have hc:c+d.bf≤w:=hc;show j9 p w c d (bV (kz d.aV d.aO) f)↔TR p d (sh d.aV f) (sh (d.aV+d.aO+c) f) f (sh (d.aV+d.aO+w+c) f)∧Out p (d.aV+d.aO) w c d.bf f;have e1:∀j,j<d.aO→bV (kz d.aV d.aO) f j=f (d.aV+j):=λj hj=>by
   unfold bV kz;simp only[hj,if_true];lia
  have e2:∀j,j<d.aV→bV (kz d.aV d.aO) f (d.aO+j)=f j:=λj hj=>by
   unfold bV kz;simp only[show ¬d.aO+j<d.aO by lia,show d.aO+j<d.aO+d.aV by lia,if_true,if_false,show d.aO+j-d.aO=j by lia];lia
  have e3:∀s,bV (kz d.aV d.aO) f (d.aO+d.aV+s)=f (d.aV+d.aO+s):=λs=>by
   unfold bV kz;simp only[show ¬d.aO+d.aV+s<d.aO by lia,show ¬d.aO+d.aV+s<d.aO+d.aV by lia,if_false];rw[Nat.add_comm d.aO];lia
  rw[qC (d:=d) hd hc];generalize bV (kz d.aV d.aO) f=g at e1 e2 e3 ⊢;have c1:Cg p d.aO g (sh d.aV f):=λj hj=>cQ (e1 j hj);have c2:Cg p d.bf (sh (d.aO+d.aV+c) g) (sh (d.aV+d.aO+c) f):=λj hj=>cQ (by unfold sh;have:=e3 (c+j);rw[← og,← og]at this;exact this);have c3:Cg p d.aV (sh d.aO g) f:=λj hj=>cQ (e2 j hj);have c4:Cg p d.bf (sh (d.aO+d.aV+w+c) g) (sh (d.aV+d.aO+w+c) f):=λj hj=>cQ (by unfold sh;have:=e3 (w+c+j);rw[← og,← og,← og,← og]at this;exact this);constructor
  ·rintro⟨h,z⟩;exact⟨TR.dh hd c1 c2 c3 c4 h,λs h1 h2=>by rw[← e3 s];exact z s h1 h2⟩
  ·rintro⟨h,z⟩;exact⟨TR.dh hd c1.symm c2.symm c3.symm c4.symm h,λs h1 h2=>by rw[e3 s];exact z s h1 h2⟩
 | .cF a b,c,hd,hc=>λf=>by
  have hc:c+(a.bf+b.bf)≤w:=hc;show(∃u v,j9 p w c a u∧j9 p w (c+a.bf) b v∧_)↔(TR p a f (sh (a.aO+b.aO+(a.aV+b.aV)+c) f) (sh (a.aO+b.aO) f) (sh (a.aO+b.aO+(a.aV+b.aV)+w+c) f)∧
   TR p b (sh a.aO f) (sh a.bf (sh (a.aO+b.aO+(a.aV+b.aV)+c) f)) (sh a.aV (sh (a.aO+b.aO) f)) (sh a.bf (sh (a.aO+b.aO+(a.aV+b.aV)+w+c) f)))∧Out p (a.aO+b.aO+(a.aV+b.aV)) w c (a.bf+b.bf) f
  constructor
  ·rintro⟨u,v,hu,hv,e⟩;obtain⟨b1,b2,b3,b4,b5⟩:=Pn.mp e;obtain⟨tu,ou⟩:=(qC (d:=a) hd.1 (by lia) u).mp hu;obtain⟨tv,ov⟩:=(qC (d:=b) hd.2 (by lia) v).mp hv;obtain⟨o1,o2,o3⟩:=Px b5 ou ov hc;refine⟨⟨TR.dh hd.1 b1 (λj hj=>?_) b3 (λj hj=>?_) tu,TR.dh hd.2 b2 (λj hj=>?_) (λj hj=>?_) (λj hj=>?_) tv⟩,o1⟩
   ·have:=o2 (c+j) (.inl (by lia))
    unfold sh;rwa[← og,← og]at this
   ·have:=o2 (w+c+j) (.inr (by lia))
    unfold sh;rwa[show a.aO+a.aV+(w+c+j)=a.aO+a.aV+w+c+j by lia,show a.aO+b.aO+(a.aV+b.aV)+(w+c+j)=a.aO+b.aO+(a.aV+b.aV)+w+c+j by lia]at this
   ·have:=o3 (c+a.bf+j) (.inl (by lia))
    unfold sh;rwa[show b.aO+b.aV+(c+a.bf+j)=b.aO+b.aV+(c+a.bf)+j by lia,show a.aO+b.aO+(a.aV+b.aV)+(c+a.bf+j)=a.aO+b.aO+(a.aV+b.aV)+c+(a.bf+j) by lia]at this
   ·have:=b4 j hj
    unfold sh;exact this
   ·have:=o3 (w+(c+a.bf)+j) (.inr (by lia))
    unfold sh;rwa[show b.aO+b.aV+(w+(c+a.bf)+j)=b.aO+b.aV+w+(c+a.bf)+j by lia,show a.aO+b.aO+(a.aV+b.aV)+(w+(c+a.bf)+j)=a.aO+b.aO+(a.aV+b.aV)+w+c+(a.bf+j) by lia]at this
  ·rintro⟨⟨ta,tb⟩,o⟩;generalize hB:a.aO+b.aO+(a.aV+b.aV)=B at ta tb o;have u1:∀j,j<a.aO→part (a.aO+a.aV) B w c a.bf (λj=>if j<a.aO then f j else f (a.aO+b.aO+(j-a.aO))) f j=f j:=λj hj=>by
    rw[ub (by lia),af hj]
   have u2:∀j,j<a.aV→part (a.aO+a.aV) B w c a.bf (λj=>if j<a.aO then f j else f (a.aO+b.aO+(j-a.aO))) f (a.aO+j)=f (a.aO+b.aO+j):=λj hj=>by
    rw[ub (by lia),ag (by lia),show a.aO+j-a.aO=j by lia]
   have v1:∀j,j<b.aO→part (b.aO+b.aV) B w (c+a.bf) b.bf (λj=>if j<b.aO then f (a.aO+j)else f (a.aO+b.aO+(a.aV+(j-b.aO)))) f j=f (a.aO+j):=λj hj=>by
    rw[ub (by lia),af hj]
   have v2:∀j,j<b.aV→part (b.aO+b.aV) B w (c+a.bf) b.bf (λj=>if j<b.aO then f (a.aO+j)else f (a.aO+b.aO+(a.aV+(j-b.aO)))) f (b.aO+j)=f (a.aO+b.aO+(a.aV+j)):=λj hj=>by
    rw[ub (by lia),ag (by lia),show b.aO+j-b.aO=j by lia]
   have u3:∀s,jC w c a.bf s→part (a.aO+a.aV) B w c a.bf (λj=>if j<a.aO then f j else f (a.aO+b.aO+(j-a.aO))) f (a.aO+a.aV+s)=f (B+s):=λs hs=>xH hs
   have v3:∀s,jC w (c+a.bf) b.bf s→part (b.aO+b.aV) B w (c+a.bf) b.bf (λj=>if j<b.aO then f (a.aO+j)else f (a.aO+b.aO+(a.aV+(j-b.aO)))) f (b.aO+b.aV+s)=f (B+s):=λs hs=>xH hs
   have ou:Out p (a.aO+a.aV) w c a.bf (part (a.aO+a.aV) B w c a.bf (λj=>if j<a.aO then f j else f (a.aO+b.aO+(j-a.aO))) f):=Dt
   have ov:Out p (b.aO+b.aV) w (c+a.bf) b.bf (part (b.aO+b.aV) B w (c+a.bf) b.bf (λj=>if j<b.aO then f (a.aO+j)else f (a.aO+b.aO+(a.aV+(j-b.aO)))) f):=Dt
   have sm:∀s,p∣_+_-f (B+s):=Py (ba:=a.aO+a.aV) (bb:=b.aO+b.aV) (g:=λj=>if j<a.aO then f j else f (a.aO+b.aO+(j-a.aO))) (g':=λj=>if j<b.aO then f (a.aO+j)else f (a.aO+b.aO+(a.aV+(j-b.aO)))) o hc
   generalize part (a.aO+a.aV) B w c a.bf (λj=>if j<a.aO then f j else f (a.aO+b.aO+(j-a.aO))) f=u at u1 u2 u3 ou sm
   generalize part (b.aO+b.aV) B w (c+a.bf) b.bf (λj=>if j<b.aO then f (a.aO+j)else f (a.aO+b.aO+(a.aV+(j-b.aO)))) f=v at v1 v2 v3 ov sm
   refine⟨u,v,(qC (d:=a) hd.1 (by lia) u).mpr ⟨TR.dh hd.1 (λj hj=>cQ (u1 j hj).symm) (λj hj=>cQ ?_) (λj hj=>cQ (u2 j hj).symm) (λj hj=>cQ ?_) ta,ou⟩,(qC (d:=b) hd.2 (by lia) v).mpr ⟨TR.dh hd.2 (λj hj=>cQ (v1 j hj).symm) (λj hj=>cQ ?_) (λj hj=>cQ (v2 j hj).symm) (λj hj=>cQ ?_) tb,ov⟩,
    Pn.mpr ⟨λj hj=>cQ (u1 j hj),λj hj=>cQ (v1 j hj),λj hj=>cQ (u2 j hj),λj hj=>cQ (v2 j hj),λs=>by rw[hB];exact sm s⟩⟩
   ·have:=u3 (c+j) (.inl (by lia))
    unfold sh;rw[← og,← og]at this;exact this.symm
   ·have:=u3 (w+c+j) (.inr (by lia))
    unfold sh;rw[show a.aO+a.aV+(w+c+j)=a.aO+a.aV+w+c+j by lia,show B+(w+c+j)=B+w+c+j by lia]at this;exact this.symm
   ·have:=v3 (c+a.bf+j) (.inl (by lia))
    unfold sh;rw[show b.aO+b.aV+(c+a.bf+j)=b.aO+b.aV+(c+a.bf)+j by lia,show B+(c+a.bf+j)=B+c+(a.bf+j) by lia]at this;exact this.symm
   ·have:=v3 (w+(c+a.bf)+j) (.inr (by lia))
    unfold sh;rw[show b.aO+b.aV+(w+(c+a.bf)+j)=b.aO+b.aV+w+(c+a.bf)+j by lia,show B+(w+(c+a.bf)+j)=B+w+c+(a.bf+j) by lia]at this;exact this.symm
 | .bh a b,c,hd,hc=>λf=>by
  have hc:c+(a.bf+b.bf)≤w:=hc;have hm:a.aV=b.aO:=hd.2.2;show(∃u v,j9 p w c a u∧j9 p w (c+a.bf) b v∧(∀j,j<a.aV→p∣u (a.aO+j)-v j)∧_)↔(∃m,TR p a f (sh (a.aO+b.aV+c) f) m (sh (a.aO+b.aV+w+c) f)∧
   TR p b m (sh a.bf (sh (a.aO+b.aV+c) f)) (sh a.aO f) (sh a.bf (sh (a.aO+b.aV+w+c) f)))∧Out p (a.aO+b.aV) w c (a.bf+b.bf) f
  constructor
  ·rintro⟨u,v,hu,hv,e0,e⟩;obtain⟨b1,b2,b3⟩:=Po.mp e;obtain⟨tu,ou⟩:=(qC (d:=a) hd.1 (by lia) u).mp hu;obtain⟨tv,ov⟩:=(qC (d:=b) hd.2.1 (by lia) v).mp hv;obtain⟨o1,o2,o3⟩:=Px (ba:=a.aO+a.aV) (bb:=b.aO+b.aV) (λs=>by rw[← hm];exact b3 s) ou ov hc;refine⟨⟨v,TR.dh hd.1 b1 (λj hj=>?_) e0 (λj hj=>?_) tu,TR.dh hd.2.1 (.refl _ _) (λj hj=>?_) (λj hj=>?_) (λj hj=>?_) tv⟩,o1⟩
   ·have:=o2 (c+j) (.inl (by lia))
    unfold sh;rwa[← og,← og]at this
   ·have:=o2 (w+c+j) (.inr (by lia))
    unfold sh;rwa[show a.aO+a.aV+(w+c+j)=a.aO+a.aV+w+c+j by lia,show a.aO+b.aV+(w+c+j)=a.aO+b.aV+w+c+j by lia]at this
   ·have:=o3 (c+a.bf+j) (.inl (by lia))
    unfold sh;rwa[show b.aO+b.aV+(c+a.bf+j)=b.aO+b.aV+(c+a.bf)+j by lia,show a.aO+b.aV+(c+a.bf+j)=a.aO+b.aV+c+(a.bf+j) by lia]at this
   ·have:=b2 j hj
    unfold sh;rwa[hm]at this
   ·have:=o3 (w+(c+a.bf)+j) (.inr (by lia))
    unfold sh;rwa[show b.aO+b.aV+(w+(c+a.bf)+j)=b.aO+b.aV+w+(c+a.bf)+j by lia,show a.aO+b.aV+(w+(c+a.bf)+j)=a.aO+b.aV+w+c+(a.bf+j) by lia]at this
  ·rintro⟨⟨m,ta,tb⟩,o⟩;have u1:∀j,j<a.aO→part (a.aO+a.aV) (a.aO+b.aV) w c a.bf (λj=>if j<a.aO then f j else m (j-a.aO)) f j=f j:=λj hj=>by
    rw[ub (by lia),af hj]
   have u2:∀j,j<a.aV→part (a.aO+a.aV) (a.aO+b.aV) w c a.bf (λj=>if j<a.aO then f j else m (j-a.aO)) f (a.aO+j)=m j:=λj hj=>by
    rw[ub (by lia),ag (by lia),show a.aO+j-a.aO=j by lia]
   have v1:∀j,j<b.aO→part (b.aO+b.aV) (a.aO+b.aV) w (c+a.bf) b.bf (λj=>if j<b.aO then m j else f (a.aO+(j-b.aO))) f j=m j:=λj hj=>by
    rw[ub (by lia),af hj]
   have v2:∀j,j<b.aV→part (b.aO+b.aV) (a.aO+b.aV) w (c+a.bf) b.bf (λj=>if j<b.aO then m j else f (a.aO+(j-b.aO))) f (b.aO+j)=f (a.aO+j):=λj hj=>by
    rw[ub (by lia),ag (by lia),show b.aO+j-b.aO=j by lia]
   have u3:∀s,jC w c a.bf s→part (a.aO+a.aV) (a.aO+b.aV) w c a.bf (λj=>if j<a.aO then f j else m (j-a.aO)) f (a.aO+a.aV+s)=f (a.aO+b.aV+s):=λs hs=>xH hs
   have v3:∀s,jC w (c+a.bf) b.bf s→part (b.aO+b.aV) (a.aO+b.aV) w (c+a.bf) b.bf (λj=>if j<b.aO then m j else f (a.aO+(j-b.aO))) f (b.aO+b.aV+s)=f (a.aO+b.aV+s):=λs hs=>xH hs
   have ou:Out p (a.aO+a.aV) w c a.bf (part (a.aO+a.aV) (a.aO+b.aV) w c a.bf (λj=>if j<a.aO then f j else m (j-a.aO)) f):=Dt
   have ov:Out p (b.aO+b.aV) w (c+a.bf) b.bf (part (b.aO+b.aV) (a.aO+b.aV) w (c+a.bf) b.bf (λj=>if j<b.aO then m j else f (a.aO+(j-b.aO))) f):=Dt
   have sm:∀s,p∣_+_-f (a.aO+b.aV+s):=Py (ba:=a.aO+a.aV) (bb:=b.aO+b.aV) (g:=λj=>if j<a.aO then f j else m (j-a.aO)) (g':=λj=>if j<b.aO then m j else f (a.aO+(j-b.aO))) o hc
   generalize part (a.aO+a.aV) (a.aO+b.aV) w c a.bf (λj=>if j<a.aO then f j else m (j-a.aO)) f=u at u1 u2 u3 ou sm
   generalize part (b.aO+b.aV) (a.aO+b.aV) w (c+a.bf) b.bf (λj=>if j<b.aO then m j else f (a.aO+(j-b.aO))) f=v at v1 v2 v3 ov sm
   refine⟨u,v,(qC (d:=a) hd.1 (by lia) u).mpr ⟨TR.dh hd.1 (λj hj=>cQ (u1 j hj).symm) (λj hj=>cQ ?_) (λj hj=>cQ (u2 j hj).symm) (λj hj=>cQ ?_) ta,ou⟩,(qC (d:=b) hd.2.1 (by lia) v).mpr ⟨TR.dh hd.2.1 (λj hj=>cQ (v1 j hj).symm) (λj hj=>cQ ?_) (λj hj=>cQ (v2 j hj).symm) (λj hj=>cQ ?_) tb,ov⟩,
    λj hj=>cQ (by rw[u2 j hj,v1 j (by lia)]),Po.mpr ⟨λj hj=>cQ (u1 j hj),λj hj=>cQ (by rw[hm];exact v2 j hj),λs=>by have:=sm s;rw[← hm]at this;exact this⟩⟩
   ·have:=u3 (c+j) (.inl (by lia))
    unfold sh;rw[← og,← og]at this;exact this.symm
   ·have:=u3 (w+c+j) (.inr (by lia))
    unfold sh;rw[show a.aO+a.aV+(w+c+j)=a.aO+a.aV+w+c+j by lia,show a.aO+b.aV+(w+c+j)=a.aO+b.aV+w+c+j by lia]at this;exact this.symm
   ·have:=v3 (c+a.bf+j) (.inl (by lia))
    unfold sh;rw[show b.aO+b.aV+(c+a.bf+j)=b.aO+b.aV+(c+a.bf)+j by lia,show a.aO+b.aV+(c+a.bf+j)=a.aO+b.aV+c+(a.bf+j) by lia]at this;exact this.symm
   ·have:=v3 (w+(c+a.bf)+j) (.inr (by lia))
    unfold sh;rw[show b.aO+b.aV+(w+(c+a.bf)+j)=b.aO+b.aV+w+(c+a.bf)+j by lia,show a.aO+b.aV+(w+(c+a.bf)+j)=a.aO+b.aV+w+c+(a.bf+j) by lia]at this;exact this.symm
end
section
variable{p:Int}
abbrev aaW:=List Int→List Int→List Int×List Int
theorem Du{r s:List Int}(h:j<r.length):fn (r++s) j=fn r j:=by
 unfold fn;rw[cH,cH,gS h]
theorem aaX{r s:List Int}(h:r.length=n):sh n (fn (r++s))=fn s:=by
 funext j
 unfold sh fn;rw[cH,cH,hU (by lia),show n+j-r.length=j by lia]
theorem IH{r:List Int}(h:j<n):fn (r.take n) j=fn r j:=by
 unfold fn;rw[cH,cH,List.getElem?_take_of_lt h]
theorem aaY(r:List Int)(n:Nat):sh n (fn r)=fn (r.drop n):=by
 funext j
 unfold sh fn;rw[cH,cH,sJ]
end
inductive Bx where
 |add|swap|Pz|times (n:Int)|PB|id|none|fin
namespace Bx
noncomputable def cG:Bx→Drw
 |add=>.box "add" 2 1 [[1,0,1],[0,1,1]]
 |swap=>.box "swap" 2 2 [[1,0,0,1],[0,1,1,0]]
 |Pz=>.box "copy" 1 2 [[1,1,1]]
 |times n=>.times n
 |PB=>.box "late" 1 1 []
 |id=>.box "id" 1 1 [[1,1]]
 |none=>.box "none" 0 1 []
 |fin=>.box "end" 1 0 [[1]]
noncomputable def run(p:Int):Bx→aaW
 |add=>λg _=>([(fn g 0+fn g 1)%p],[])
 |swap=>λg _=>([fn g 1,fn g 0],[])
 |Pz=>λg _=>([fn g 0,fn g 0],[])
 |times n=>λg _=>([fn g 0*n%p],[])
 |PB=>λg k=>([fn k 0],[fn g 0])
 |id=>λg _=>([fn g 0],[])
 |none=>λ_ _=>([0],[])
 |fin=>λ_ _=>([],[])
def wf(p:Int):Bx→Prop
 |times n=>0≤n∧n<p
 |_=>True
end Bx
section
variable{p:Int}
theorem cg1{y:Fn}{u:Int}:Cg p 1 y (fn [u])↔p∣y 0-u:=by
 constructor
 ·intro h;exact h 0 (by decide)
 ·intro h j hj;obtain rfl:j=0:=by lia
  exact h
theorem PD{n:Str}{aQ:LL}{x k y a:Fn}(h:(n,l,r,aQ)∈gZ):TR p (.box n l r aQ) x k y a↔Sp p (RS aQ) (λj=>if j<l then x j else if j<l+r then y (j-l)else 0):=by
 unfold TR;rw[ag (zX _ h)]
theorem aaZ{n:Str}{aQ:LL}(h:(n,l,r,aQ)∈gZ):(Drw.box n l r aQ).bf=0:=ag (zX _ h)
theorem xI(h:∀j,n≤j→f j=0):Nil p f n:=λj hj=>by rw[h j hj];exact⟨0,by lia⟩
end
end S21
namespace S21
open PySem L2 Bw
variable{A:iJ}{D:List (Nat×Fn)}{L L' dn:List Nat}{M N a b l n r s:Nat}{R0:List Fn}{al:List (Nat×Nat)}{c e p:Int}{d:Drw}{f g v v' x:Fn}
section
variable{p:Int}
end
section
variable{p:Int}
end
noncomputable def uc(l r w:Nat)(row:List Int):List Int:=row.take l++(row.drop (l+r)).take w++(row.drop l).take r++row.drop (l+r+w)
section
variable{p:Int}
noncomputable def vI(l r w j:Nat):Option (Int×Nat):=if j<l then some (1,j)else if j<l+w then some (1,j+r)else if j<l+w+r then some (1,j-w)else some (1,j)
theorem aa0{w:Nat}{row:List Int}(h:row.length=l+r+2*w)(j:Nat):fn (uc l r w row) j=bV (vI l r w) (fn row) j:=by
 unfold uc;have e1:(row.take l).length=l:=by rw[dE];lia
 have e2:((row.drop (l+r)).take w).length=w:=by rw[dE,iK];lia
 have e3:((row.drop l).take r).length=r:=by rw[dE,iK];lia
 have g:∀(a b:List Int)(j:Nat),a.length≤j→fn (a++b) j=fn b (j-a.length):=λa b j hj=>by
  unfold fn;rw[cH,cH,hU hj]
 have dr:∀(n j:Nat),fn (row.drop n) j=fn row (n+j):=λn j=>(congrFun (aaY row n) j).symm;unfold bV vI;by_cases h1:j<l
 ·simp only[h1,if_true,ic];rw[hW,hW,Du (by rw[e1];exact h1),IH h1]
 ·by_cases h2:j<l+w
  ·simp only[h1,h2,if_true,if_false,ic];rw[hW,hW,g _ _ j (by lia),e1,Du (by rw[e2];lia),IH (by lia),dr,show l+r+(j-l)=j+r by lia]
  ·by_cases h3:j<l+w+r
   ·simp only[h1,h2,h3,if_true,if_false,ic];rw[hW,hW,g _ _ j (by lia),e1,g _ _ _ (by lia),e2,Du (by rw[e3];lia),IH (by lia),dr,show l+(j-l-w)=j-w by lia]
   ·simp only[h1,h2,h3,if_false,ic];rw[hW,hW,g _ _ j (by lia),e1,g _ _ _ (by lia),e2,g _ _ _ (by lia),e3,dr,show l+r+w+(j-l-w-r)=j by lia]
noncomputable def jP(l r w:Nat)(f:Fn):Fn:=λj=>if j<l then f j else if j<l+r then f (j+w)else if j<l+r+w then f (j-r)else f j
theorem aa1{w:Nat}(f:Fn)(j:Nat):bV (vI l r w) (jP l r w f) j=f j:=by
 unfold bV vI jP;by_cases h1:j<l
 ·simp only[h1,if_true,ic]
 ·by_cases h2:j<l+w
  ·simp only[h1,h2,if_true,if_false,ic,show ¬j+r<l by lia,show ¬j+r<l+r by lia,show j+r<l+r+w by lia,show j+r-r=j by lia]
  ·by_cases h3:j<l+w+r
   ·simp only[h1,h2,h3,if_true,if_false,ic,show ¬j-w<l by lia,show j-w<l+r by lia,show j-w+w=j by lia]
   ·simp only[h1,h2,h3,if_false,ic,show ¬j<l+r by lia,show ¬j<l+r+w by lia]
theorem aa2{w:Nat}(f:Fn)(j:Nat):jP l r w (bV (vI l r w) f) j=f j:=by
 unfold bV vI jP;by_cases h1:j<l
 ·simp only[h1,if_true,ic]
 ·by_cases h2:j<l+r
  ·simp only[h1,h2,if_true,if_false,ic,show ¬j+w<l by lia,show ¬j+w<l+w by lia,show j+w<l+w+r by lia,show j+w-w=j by lia]
  ·by_cases h3:j<l+r+w
   ·simp only[h1,h2,h3,if_true,if_false,ic,show ¬j-r<l by lia,show j-r<l+w by lia,show j-r+r=j by lia]
   ·simp only[h1,h2,h3,if_false,ic,show ¬j<l+w by lia,show ¬j<l+w+r by lia]
theorem aa3{w:Nat}{u:Fn}(h:fq p u v):fq p (jP l r w u) (jP l r w v):=λj=>by
 unfold jP;split
 ·exact h _
 ·split
  ·exact h _
  ·split
   ·exact h _
   ·exact h _
theorem aa4{w:Nat}{aQ:LL}(h:cP p (l+r+2*w) aQ):Sp p (RS (aQ.map (uc l r w))) f↔Sp p (RS aQ) (jP l r w f):=by
 rw[pF (s:=vI l r w) (λq hq=>mv (aa0 (h q hq).1))];constructor
 ·rintro⟨u,hu,e⟩;exact .dh hu ((mv λj=>(aa2 u j).symm).trans (aa3 e))
 ·intro h;exact⟨_,h,mv (aa1 f)⟩
theorem aa5(pp:p∈dW)(hd:d.pG p)(hs:d.sm)(hw:d.bf≤40):Sp p (RS ((d.gW p d.bf 0).map (uc d.aO d.aV d.bf))) f ↔
  TR p d f (sh d.aO f) (sh (d.aO+d.bf) f) (sh (d.aO+d.bf+d.aV) f)∧∀s,p∣f (d.aO+d.bf+d.aV+d.bf+s):=by
 obtain⟨_,_,_,hR⟩:=Drw.pH pp hw (d:=d) (c:=0) hd hs (by lia);rw[aa4 hR,qB pp hw hd hs (by lia),qC hd (by lia)];have c1:Cg p d.aO (jP d.aO d.aV d.bf f) f:=λj hj=>cQ (by unfold jP;rw[af hj]);have c2:Cg p d.bf (sh (d.aO+d.aV+0) (jP d.aO d.aV d.bf f)) (sh d.aO f):=λj hj=>cQ (by
  unfold sh jP;rw[ag (by lia),ag (by lia),af (by lia),show d.aO+d.aV+0+j-d.aV=d.aO+j by lia])
 have c3:Cg p d.aV (sh d.aO (jP d.aO d.aV d.bf f)) (sh (d.aO+d.bf) f):=λj hj=>cQ (by
  unfold sh jP;rw[ag (by lia),af (by lia),show d.aO+j+d.bf=d.aO+d.bf+j by lia])
 have c4:Cg p d.bf (sh (d.aO+d.aV+d.bf+0) (jP d.aO d.aV d.bf f)) (sh (d.aO+d.bf+d.aV) f):=λj hj=>cQ (by
  unfold sh jP;rw[ag (by lia),ag (by lia),ag (by lia),show d.aO+d.aV+d.bf+0+j=d.aO+d.bf+d.aV+j by lia])
 have e5:∀s,jP d.aO d.aV d.bf f (d.aO+d.aV+(2*d.bf+s))=f (d.aO+d.bf+d.aV+d.bf+s):=λs=>by
  unfold jP;rw[ag (by lia),ag (by lia),ag (by lia),show d.aO+d.aV+(2*d.bf+s)=d.aO+d.bf+d.aV+d.bf+s by lia]
 constructor
 ·rintro⟨h,o⟩;exact⟨TR.dh hd c1 c2 c3 c4 h,λs=>by rw[← e5 s];exact o _ (by lia) (by lia)⟩
 ·rintro⟨h,o⟩;refine⟨TR.dh hd c1.symm c2.symm c3.symm c4.symm h,λs h1 h2=>?_⟩;obtain⟨t,rfl⟩:∃t,s=2*d.bf+t:=⟨s-2*d.bf,by lia⟩;rw[e5 t];exact o t
end
abbrev dN:=List (Nat×Int)
noncomputable def rv(v:Fn)(r:dN):Int:=(r.map λt=>t.2*v t.1).sum
def Sat(p:Int)(v:Fn)(rs:List dN):Prop:=∀r∈rs,p∣rv v r
section
variable{p:Int}
theorem II{x:Str}{aQ:LL}{C:Str→Nat→Nat→LL→Prop}(h:(x,l,r,aQ)∈gZ)(c1:C "id" 1 1 [[1,1]])(c2:C "swap" 2 2 [[1,0,0,1],[0,1,1,0]])(c3:C "copy" 1 2 [[1,1,1]])(c4:C "end" 1 0 [[1]])(c5:C "add" 2 1 [[1,0,1],[0,1,1]])(c6:C "none" 0 1 [])(c7:C "cup" 0 2 [[1,1]])(c8:C "empty" 0 0 []):C x l r aQ:=by
 simp only[gZ,dX,yi,or_false,Prod.mk.injEq]at h;rcases h with⟨rfl,rfl,rfl,rfl⟩|⟨rfl,rfl,rfl,rfl⟩|⟨rfl,rfl,rfl,rfl⟩|⟨rfl,rfl,rfl,rfl⟩|⟨rfl,rfl,rfl,rfl⟩|⟨rfl,rfl,rfl,rfl⟩|⟨rfl,rfl,rfl,rfl⟩|⟨rfl,rfl,rfl,rfl⟩<;>assumption
noncomputable def atS(v:Fn)(L:List Nat):Fn:=fn (L.map v)
theorem zY{j:Nat}(h:j<L.length):atS v (L++L') j=atS v L j:=by
 unfold atS;rw[eM];exact Du (by rw[bO];exact h)
theorem zZ(h:L.length=n):sh n (atS v (L++L'))=atS v L':=by
 unfold atS;rw[eM];exact aaX (by rw[bO];exact h)
theorem vJ{i:Nat}(h:L[i]?=some s):atS v L i=v s:=by
 unfold atS fn;rw[cH,du,h];rfl
theorem ud(h:∀s∈L,v s=v' s):atS v L=atS v' L:=by
 unfold atS;rw[uJ h]
theorem aa6{q:dN}(h:∀t∈q,v t.1=v' t.1):rv v q=rv v' q:=by
 unfold rv;rw[uJ λt ht=>by rw[h t ht]]
end
section
variable{p:Int}
theorem PF{a:List Int}(h:a.length=n)(s:Nat):fn a (n+s)=0:=by
 unfold fn;rw[cH,iR (by lia)];rfl
end
section
variable{p:Int}
theorem PH(h:p∣x 0-v s):Cg p 1 x (atS v [s]):=cg1.mpr h
theorem PJ{m:Nat}(hL:L.length=n)(h1:Cg p n x (atS v L))(h2:Cg p m (sh n x) (atS v L')):Cg p (n+m) x (atS v (L++L')):=by
 intro j hj;by_cases hn:j<n
 ·rw[zY (by lia)];exact h1 j hn
 ·have:=h2 (j-n) (by lia)
  rw[← zZ (v:=v) (L':=L') hL]at this;unfold sh at this;rwa[show n+(j-n)=j by lia]at this
end
structure iJ where
 l:List Nat
 r:List Nat
 cS:List Nat
 aQ:List dN
 al:List (Nat×Nat)
noncomputable def dy(x:Str)(n:Int):List dN:=
 if x="id"∨x="cup" then[[(0,1),(1,-1)]]else if x="swap" then[[(0,1),(3,-1)],[(1,1),(2,-1)]]else if x="copy" then[[(0,1),(1,-1)],[(0,1),(2,-1)]]else if x="add" then[[(0,1),(1,1),(2,-1)]]else if x="none" then[[(0,1)]]else if x="times" then[[(0,n),(1,-1)]] else[]
noncomputable def gQ(N:Nat)(q:dN):dN:=q.map λt=>(N+t.1,t.2)
noncomputable def aN:Drw→Nat→iJ×Nat
 | .box x l r _,N=>(⟨List.range' N l,List.range' (N+l) r,[],(dy x 0).map (gQ N),[]⟩,N+l+r)
 | .times n,N=>(⟨List.range' N 1,List.range' (N+1) 1,[],(dy "times" n).map (gQ N),[]⟩,N+1+1)
 | .back d,N=>(⟨(aN d N).1.r,(aN d N).1.l,(aN d N).1.cS,(aN d N).1.aQ,(aN d N).1.al⟩,(aN d N).2)
 | .cF a b,N=>(⟨(aN a (aN b N).2).1.l++(aN b N).1.l,(aN a (aN b N).2).1.r++(aN b N).1.r,(aN a (aN b N).2).1.cS++(aN b N).1.cS,(aN b N).1.aQ++(aN a (aN b N).2).1.aQ,(aN b N).1.al++(aN a (aN b N).2).1.al⟩,(aN a (aN b N).2).2)
 | .bh a b,N=>(⟨(aN a (aN b N).2).1.l,(aN b N).1.r,(aN a (aN b N).2).1.cS++(aN a (aN b N).2).1.r++(aN b N).1.cS,(aN b N).1.aQ++(aN a (aN b N).2).1.aQ,(aN b N).1.al++(aN a (aN b N).2).1.al++(aN b N).1.l.zip (aN a (aN b N).2).1.r⟩,(aN a (aN b N).2).2)
noncomputable def iJ.all(A:iJ):List Nat:=A.l++A.r++A.cS++A.al.map Prod.fst
section
variable{p:Int}
theorem jn:∀{d:Drw}{N:Nat},d.wf p→(aN d N).1.l.length=d.aO∧(aN d N).1.r.length=d.aV
 | .box x l r aQ,N,_=>⟨Bp,Bp⟩
 | .times n,N,_=>⟨rfl,rfl⟩
 | .back d,N,hd=>let ⟨a,b⟩:=jn (d:=d) (N:=N) hd;⟨b,a⟩
 | .cF a b,N,hd=>by
  obtain⟨b1,b2⟩:=jn (d:=b) (N:=N) hd.2;obtain⟨a1,a2⟩:=jn (d:=a) (N:=(aN b N).2) hd.1;refine⟨?_,?_⟩
  ·show(_++_:List Nat).length=_;rw[bY,a1,b1];rfl
  ·show(_++_:List Nat).length=_;rw[bY,a2,b2];rfl
 | .bh a b,N,hd=>by
  obtain⟨b1,b2⟩:=jn (d:=b) (N:=N) hd.2.1;obtain⟨a1,a2⟩:=jn (d:=a) (N:=(aN b N).2) hd.1;exact⟨a1,b2⟩
theorem nN:∀(d:Drw)(N:Nat),N≤(aN d N).2
 | .box x l r aQ,N=>by show N≤N+l+r;lia
 | .times n,N=>by show N≤N+1+1;lia
 | .back d,N=>nN d N
 | .cF a b,N=>eS (nN b N) (nN a _)
 | .bh a b,N=>eS (nN b N) (nN a _)
theorem Dv(x s n:Nat):(List.range' s n).count x=if s≤x∧x<s+n then 1 else 0:=by
 by_cases h:s≤x∧x<s+n
 ·rw[af h];have h1:=List.nodup_iff_count.mp (List.nodup_range' (s:=s) (n:=n)) x;have h2:=List.count_pos_iff.mpr (List.mem_range'_1.mpr h);lia
 ·rw[ag h];exact List.count_eq_zero.mpr λz=>h (List.mem_range'_1.mp z)
theorem ue:∀{d:Drw}{N:Nat}(x:Nat),d.wf p→(aN d N).1.all.count x=if N≤x∧x<(aN d N).2 then 1 else 0
 | .box w l r aQ,N,x,_=>by
  show(List.range' N l++List.range' (N+l) r++[]++[]).count x=if N≤x∧x<N+l+r then 1 else 0
  rw[hJ,hJ,Bq,Dv,Dv]
  repeat' split
  all_goals lia
 | .times n,N,x,_=>by
  show(List.range' N 1++List.range' (N+1) 1++[]++[]).count x=if N≤x∧x<N+1+1 then 1 else 0
  rw[hJ,hJ,Bq,Dv,Dv]
  repeat' split
  all_goals lia
 | .back d,N,x,hd=>by
  have h:=ue (d:=d) (N:=N) x hd;unfold iJ.all at h;show((aN d N).1.r++(aN d N).1.l++(aN d N).1.cS++(aN d N).1.al.map Prod.fst).count x=if N≤x∧x<(aN d N).2 then 1 else 0
  rw[← h];simp only[Bq];lia
 | .cF a b,N,x,hd=>by
  have hb:=ue (d:=b) (N:=N) x hd.2;have ha:=ue (d:=a) (N:=(aN b N).2) x hd.1;have l1:=nN b N;have l2:=nN a (aN b N).2;unfold iJ.all at ha hb;show(((aN a (aN b N).2).1.l++(aN b N).1.l)++((aN a (aN b N).2).1.r++(aN b N).1.r)++((aN a (aN b N).2).1.cS++(aN b N).1.cS)++((aN b N).1.al++(aN a (aN b N).2).1.al).map Prod.fst).count x=if N≤x∧x<(aN a (aN b N).2).2 then 1 else 0
  rw[eM];simp only[Bq]at ha hb ⊢
  revert ha hb
  repeat' split
  all_goals lia
 | .bh a b,N,x,hd=>by
  have hb:=ue (d:=b) (N:=N) x hd.2.1;have ha:=ue (d:=a) (N:=(aN b N).2) x hd.1;have l1:=nN b N;have l2:=nN a (aN b N).2;obtain⟨b1,b2⟩:=jn (d:=b) (N:=N) hd.2.1;obtain⟨a1,a2⟩:=jn (d:=a) (N:=(aN b N).2) hd.1;have hz:((aN b N).1.l.zip (aN a (aN b N).2).1.r).map Prod.fst=(aN b N).1.l:=List.map_fst_zip (by rw[b1,a2,hd.2.2];exact ck _);unfold iJ.all at ha hb;show((aN a (aN b N).2).1.l++(aN b N).1.r++((aN a (aN b N).2).1.cS++(aN a (aN b N).2).1.r++(aN b N).1.cS)++((aN b N).1.al++(aN a (aN b N).2).1.al++(aN b N).1.l.zip (aN a (aN b N).2).1.r).map Prod.fst).count x=if N≤x∧x<(aN a (aN b N).2).2 then 1 else 0
  rw[eM,eM,hz];simp only[Bq]at ha hb ⊢
  revert ha hb
  repeat' split
  all_goals lia
theorem uf:∀{d:Drw}{N:Nat},d.wf p→∀t∈(aN d N).1.al,t.2∈(aN d N).1.cS
 | .box ..,N,_,t,ht=>by cases ht
 | .times n,N,_,t,ht=>by cases ht
 | .back d,N,hd,t,ht=>uf (d:=d) (N:=N) hd t ht
 | .cF a b,N,hd,t,ht=>by
  rcases(dq.mp ht)with(ht|ht)
  ·exact eJ _ (uf (d:=b) hd.2 t ht)
  ·exact e7 _ (uf (d:=a) hd.1 t ht)
 | .bh a b,N,hd,t,ht=>by
  rcases(dq.mp ht)with(ht|ht)
  ·rcases(dq.mp ht)with(ht|ht)
   ·exact eJ _ (uf (d:=b) hd.2.1 t ht)
   ·exact e7 _ (e7 _ (uf (d:=a) hd.1 t ht))
  ·exact e7 _ (eJ _ (v9 ht).2)
theorem IJ(n:Int):dy "id" n=[[(0,1),(1,-1)]]:=af (.inl rfl)
theorem IK(n:Int):dy "cup" n=[[(0,1),(1,-1)]]:=af (.inr rfl)
theorem Dw(n:Int):dy "swap" n=[[(0,1),(3,-1)],[(1,1),(2,-1)]]:=by unfold dy;rw[ag (by decide +kernel),af rfl]
theorem Dx(n:Int):dy "copy" n=[[(0,1),(1,-1)],[(0,1),(2,-1)]]:=by unfold dy;rw[ag (by decide +kernel),ag (by decide +kernel),af rfl]
theorem Dy(n:Int):dy "add" n=[[(0,1),(1,1),(2,-1)]]:=by unfold dy;rw[ag (by decide +kernel),ag (by decide +kernel),ag (by decide +kernel),af rfl]
theorem Dz(n:Int):dy "none" n=[[(0,1)]]:=by unfold dy;rw[ag (by decide +kernel),ag (by decide +kernel),ag (by decide +kernel),ag (by decide +kernel),af rfl]
theorem DA(n:Int):dy "times" n=[[(0,n),(1,-1)]]:=by unfold dy;rw[ag (by decide +kernel),ag (by decide +kernel),ag (by decide +kernel),ag (by decide +kernel),ag (by decide +kernel),af rfl]
theorem PK(n:Int):dy "end" n=[]:=by unfold dy;rw[ag (by decide +kernel),ag (by decide +kernel),ag (by decide +kernel),ag (by decide +kernel),ag (by decide +kernel),ag (by decide +kernel)]
theorem PL(n:Int):dy "empty" n=[]:=by unfold dy;rw[ag (by decide +kernel),ag (by decide +kernel),ag (by decide +kernel),ag (by decide +kernel),ag (by decide +kernel),ag (by decide +kernel)]
end
section
variable{p:Int}
def qD(p:Int)(v:Fn)(A:iJ):Prop:=Sat p v A.aQ∧∀t∈A.al,p∣v t.1-v t.2
theorem r2:rv v [(a,c),(b,e)]=c*v a+e*v b:=by show c*v a+(e*v b+0)=_;lia
theorem r1:rv v [(a,c)]=c*v a:=by show c*v a+0=_;lia
theorem r3{d:Nat}{f:Int}:rv v [(a,c),(b,e),(d,f)]=c*v a+e*v b+f*v d:=by show c*v a+(e*v b+(f*v d+0))=_;lia
theorem oT:gQ N [(a,c),(b,e)]=[(N+a,c),(N+b,e)]:=rfl
theorem up1:gQ N [(a,c)]=[(N+a,c)]:=rfl
theorem y3{d:Nat}{f:Int}:gQ N [(a,c),(b,e),(d,f)]=[(N+a,c),(N+b,e),(N+d,f)]:=rfl
theorem kK{a b:Int}(h:p∣a)(e:b=-a):p∣b:=by rw[e];exact sO.mpr h
theorem oU:∀{d:Drw},d.wf p→d.pG p
 | .box ..,h=>.inl h
 | .times _,h=>h
 | .back d,h=>oU (d:=d) h
 | .cF a b,h=>⟨oU h.1,oU h.2⟩
 | .bh a b,h=>⟨oU h.1,oU h.2.1,h.2.2⟩
theorem xJ:∀{d:Drw}{N:Nat}{v k a:Fn},d.wf p→qD p v (aN d N).1→TR p d (atS v (aN d N).1.l) k (atS v (aN d N).1.r) a
 | .box x l r aQ,N,v,k,a,hd,hs=>by
  rw[PD hd];have hs:Sat p v ((dy x 0).map (gQ N)):=hs.1;show Sp p (RS aQ) (λj=>if j<l then atS v (List.range' N l) j else if j<l+r then atS v (List.range' (N+l) r) (j-l)else 0)
  revert hs
  refine II (C:=λx l r aQ=>Sat p v ((dy x 0).map (gQ N))→Sp p (RS aQ) (λj=>if j<l then atS v (List.range' N l) j else if j<l+r then atS v (List.range' (N+l) r) (j-l)else 0)) hd ?_ ?_ ?_ ?_ ?_ ?_ ?_ ?_
  ·rw[IJ,Dq];intro hs;have h:=hs _ cU;rw[oT,r2]at h;exact⟨kK h (by show v (N+1)-v N=-(1*v N + -1*v (N+1));lia),xI λj hj=>by rw[ag (by lia),ag (by lia)]⟩
  ·rw[Dw,Pm];intro hs;have h:=hs _ cU;have h':=hs _ (fK _ cU);rw[oT,r2]at h h';exact⟨kK h (by show v (N+2+1)-v N=-(1*v N + -1*v (N+3));rw[show N+2+1=N+3 by lia];lia),kK h' (by show v (N+2)-v (N+1)=-(1*v (N+1) + -1*v (N+2));lia),xI λj hj=>by rw[ag (by lia),ag (by lia)]⟩
  ·rw[Dx,Pk];intro hs;have h:=hs _ cU;have h':=hs _ (fK _ cU);rw[oT,r2]at h h';exact⟨kK h (by show v (N+1)-v N=-(1*v N + -1*v (N+1));lia),kK h' (by show v (N+1+1)-v N=-(1*v N + -1*v (N+2));rw[show N+1+1=N+2 by lia];lia),xI λj hj=>by rw[ag (by lia),ag (by lia)]⟩
  ·intro _;rw[aaT];exact xI λj hj=>by rw[ag (by lia),ag (by lia)]
  ·rw[Dy,Pl];intro hs;have h:=hs _ cU;rw[y3,r3]at h;exact⟨kK h (by show v (N+2)-(v N+v (N+1))=-(1*v N+1*v (N+1) + -1*v (N+2));lia),xI λj hj=>by rw[ag (by lia),ag (by lia)]⟩
  ·rw[Dz,jM];intro hs j;have h:=hs _ cU;rw[up1,r1]at h;by_cases hj:j<1
   ·obtain rfl:j=0:=by lia
    have e:1*v (N+0)=v N:=by rw[Nat.add_zero];lia
    rw[e]at h;exact h
   ·rw[ag (by lia),ag (by lia)];exact⟨0,by lia⟩
  ·rw[IK,Dq];intro hs;have h:=hs _ cU;rw[oT,r2]at h;exact⟨kK h (by show v (N+1)-v N=-(1*v N + -1*v (N+1));lia),xI λj hj=>by rw[ag (by lia),ag (by lia)]⟩
  ·intro _;rw[jM];intro j;rw[ag (by lia),ag (by lia)];exact⟨0,by lia⟩
 | .times n,N,v,k,a,_,hs=>by
  have hs:Sat p v ((dy "times" n).map (gQ N)):=hs.1;rw[DA]at hs;have h:=hs _ cU;rw[oT,r2]at h;exact kK h (by show v (N+1)-n*v N=-(n*v N + -1*v (N+1));lia)
 | .back d,N,v,k,a,hd,hs=>xJ (d:=d) (N:=N) hd ⟨hs.1,hs.2⟩
 | .cF c b,N,v,k,a,hd,hs=>by
  obtain⟨a1,a2⟩:=jn (d:=c) (N:=(aN b N).2) hd.1;have hb:=xJ (d:=b) (N:=N) (v:=v) (k:=sh c.bf k) (a:=sh c.bf a) hd.2 ⟨λq hq=>hs.1 q (e7 _ hq),λt ht=>hs.2 t (e7 _ ht)⟩;have ha:=xJ (d:=c) (N:=(aN b N).2) (v:=v) (k:=k) (a:=a) hd.1 ⟨λq hq=>hs.1 q (eJ _ hq),λt ht=>hs.2 t (eJ _ ht)⟩;refine⟨TR.dh (oU hd.1) (λj hj=>cQ ?_) (λ_ _=>cQ rfl) (λj hj=>cQ ?_) (λ_ _=>cQ rfl) ha,TR.dh (oU hd.2) (λj hj=>cQ ?_) (λ_ _=>cQ rfl) (λj hj=>cQ ?_) (λ_ _=>cQ rfl) hb⟩
  ·exact(zY (by rw[a1];exact hj)).symm
  ·exact(zY (by rw[a2];exact hj)).symm
  ·exact(congrFun (zZ (v:=v) (L':=(aN b N).1.l) a1) j).symm
  ·exact(congrFun (zZ (v:=v) (L':=(aN b N).1.r) a2) j).symm
 | .bh c b,N,v,k,a,hd,hs=>by
  obtain⟨a1,a2⟩:=jn (d:=c) (N:=(aN b N).2) hd.1;obtain⟨b1,b2⟩:=jn (d:=b) (N:=N) hd.2.1;have hb:=xJ (d:=b) (N:=N) (v:=v) (k:=sh c.bf k) (a:=sh c.bf a) hd.2.1 ⟨λq hq=>hs.1 q (e7 _ hq),λt ht=>hs.2 t (e7 _ (e7 _ ht))⟩;have ha:=xJ (d:=c) (N:=(aN b N).2) (v:=v) (k:=k) (a:=a) hd.1 ⟨λq hq=>hs.1 q (eJ _ hq),λt ht=>hs.2 t (e7 _ (eJ _ ht))⟩;refine⟨_,ha,TR.dh (oU hd.2.1) (λj hj=>?_) (λ_ _=>cQ rfl) (λj hj=>cQ rfl) (λ_ _=>cQ rfl) hb⟩;have hm:=hd.2.2;have i1:j<(aN b N).1.l.length:=by rw[b1];exact hj
  have i2:j<(aN c (aN b N).2).1.r.length:=by rw[a2,hm];exact hj
  have e1:(aN b N).1.l[j]?=some ((aN b N).1.l[j]'i1):=cC i1;have e2:(aN c (aN b N).2).1.r[j]?=some ((aN c (aN b N).2).1.r[j]'i2):=cC i2;rw[vJ e1,vJ e2];have hm2:((aN b N).1.l[j]'i1,(aN c (aN b N).2).1.r[j]'i2)∈(aN b N).1.l.zip (aN c (aN b N).2).1.r:=by
   have:((aN b N).1.l.zip (aN c (aN b N).2).1.r)[j]?=some ((aN b N).1.l[j]'i1,(aN c (aN b N).2).1.r[j]'i2):=by
    rw[EX];exact⟨e1,e2⟩
   exact dI this
  exact hs.2 _ (eJ _ hm2)
end
section
variable{p:Int}
theorem nO(hd:d.wf p)(h:s∈(aN d N).1.all):N≤s∧s<(aN d N).2:=by
 have h1:=ue (d:=d) (N:=N) s hd;have h2:=List.count_pos_iff.mpr h;by_cases c:N≤s∧s<(aN d N).2
 ·exact c
 ·rw[ag c]at h1;lia
theorem DB(h:s∈A.l):s∈A.all:=e7 _ (e7 _ (e7 _ h))
theorem DC(h:s∈A.r):s∈A.all:=e7 _ (e7 _ (eJ _ h))
theorem aa7(h:s∈A.cS):s∈A.all:=e7 _ (eJ _ h)
theorem aa8{t:Nat×Nat}(h:t∈A.al):t.1∈A.all:=eJ _ (n8 h)
theorem aa9{x:Str}{aQ:LL}(h:(x,l,r,aQ)∈gZ):∀q∈dy x 0,∀t∈q,t.1<l+r:=by
 refine II (C:=λx l r _=>∀q∈dy x 0,∀t∈q,t.1<l+r) h ?_ ?_ ?_ ?_ ?_ ?_ ?_ ?_
 ·rw[IJ];decide
 ·rw[Dw];decide
 ·rw[Dx];decide
 ·rw[PK];decide
 ·rw[Dy];decide
 ·rw[Dz];decide
 ·rw[IK];decide
 ·rw[PL];decide
theorem qE:∀{d:Drw}{N:Nat},d.wf p→∀q∈(aN d N).1.aQ,∀t∈q,N≤t.1∧t.1<(aN d N).2
 | .box x l r aQ,N,hd,q,hq,t,ht=>by
  obtain⟨q0,h0,rfl⟩:=cY.mp hq;obtain⟨t0,h1,rfl⟩:=cY.mp ht
  have:=aa9 hd q0 h0 t0 h1
  show N≤N+t0.1∧N+t0.1<N+l+r;lia
 | .times n,N,_,q,hq,t,ht=>by
  obtain⟨q0,h0,rfl⟩:=cY.mp hq;obtain⟨t0,h1,rfl⟩:=cY.mp ht;rw[DA]at h0;rw[cJ.mp h0]at h1
  have:t0.1≤1:=by
   rcases(dX.mp h1)with(rfl|h1)
   ·show 0≤1;decide
   ·rw[cJ.mp h1];exact ck 1
  show N≤N+t0.1∧N+t0.1<N+1+1;lia
 | .back d,N,hd,q,hq,t,ht=>qE (d:=d) (N:=N) hd q hq t ht
 | .cF a b,N,hd,q,hq,t,ht=>by
  have l1:=nN b N;have l2:=nN a (aN b N).2;show N≤t.1∧t.1<(aN a (aN b N).2).2;rcases(dq.mp hq)with(hq|hq)
  ·have:=qE (d:=b) (N:=N) hd.2 q hq t ht;lia
  ·have:=qE (d:=a) (N:=(aN b N).2) hd.1 q hq t ht;lia
 | .bh a b,N,hd,q,hq,t,ht=>by
  have l1:=nN b N;have l2:=nN a (aN b N).2;show N≤t.1∧t.1<(aN a (aN b N).2).2;rcases(dq.mp hq)with(hq|hq)
  ·have:=qE (d:=b) (N:=N) hd.2.1 q hq t ht;lia
  ·have:=qE (d:=a) (N:=(aN b N).2) hd.1 q hq t ht;lia
theorem qD.congr(hd:d.wf p)(h:∀s,N≤s→s<(aN d N).2→v s=v' s)(hs:qD p v' (aN d N).1):qD p v (aN d N).1:=by
 refine⟨λq hq=>?_,λt ht=>?_⟩
 ·rw[aa6 (v':=v') λt ht=>by have:=qE hd q hq t ht;exact h _ this.1 this.2];exact hs.1 q hq
 ·have h1:=nO hd (aa8 ht);have h2:=nO hd (aa7 (uf hd t ht));rw[h _ h1.1 h1.2,h _ h2.1 h2.2];exact hs.2 t ht
theorem PM{j:Nat}(hj:j<n):atS v (List.range' N n) j=v (N+j):=vJ (by rw[List.getElem?_range' hj];simp)
def aba(p:Int)(d:Drw)(A:iJ)(x y:Fn):Prop:=∃v,qD p v A∧Cg p d.aO x (atS v A.l)∧Cg p d.aV y (atS v A.r)
theorem xK:∀{d:Drw}{N:Nat}{x k y a:Fn},d.wf p→TR p d x k y a→aba p d (aN d N).1 x y
 | .box w l r aQ,N,x,k,y,a,hd,h=>by
  rw[PD hd]at h;have e1:∀j,j<l→(λs=>if s<N+l then x (s-N)else y (s-(N+l))) (N+j)=x j:=λj hj=>by
   show(if N+j<N+l then x (N+j-N)else _)=x j
   rw[af (by lia),show N+j-N=j by lia]
  have e2:∀j,(λs=>if s<N+l then x (s-N)else y (s-(N+l))) (N+l+j)=y j:=λj=>by
   show(if N+l+j<N+l then _ else y (N+l+j-(N+l)))=y j
   rw[ag (by lia),show N+l+j-(N+l)=j by lia]
  refine⟨λs=>if s<N+l then x (s-N)else y (s-(N+l)),⟨?_,λt ht=>by cases ht⟩,λj hj=>cQ ?_,λj hj=>cQ ?_⟩
  ·show Sat p _ ((dy w 0).map (gQ N));generalize (λs=>if s<N+l then x (s-N)else y (s-(N+l)))=v at e1 e2
   revert h e1 e2
   refine II (C:=λw l r aQ=>Sp p (RS aQ) (λj=>if j<l then x j else if j<l+r then y (j-l)else 0)→(∀j,j<l→v (N+j)=x j)→(∀j,v (N+l+j)=y j)→Sat p v ((dy w 0).map (gQ N))) hd ?_ ?_ ?_ ?_ ?_ ?_ ?_ ?_
   ·rw[IJ,Dq];intro h e1 e2 q hq;rw[cJ.mp hq,oT,r2];have h0:=e1 0 (by decide);have h1:=e2 0;rw[h0,show N+1=N+1+0 by lia,h1];have h:p∣y 0-x 0:=h.1;exact kK h (by lia)
   ·rw[Dw,Pm];intro h e1 e2 q hq;have h0:=e1 0 (by decide);have h1:=e1 1 (by decide);have h2:=e2 0;have h3:=e2 1;have g1:p∣y 1-x 0:=h.1;have g2:p∣y 0-x 1:=h.2.1;rcases(dX.mp hq)with(rfl|hq)
    ·rw[oT,r2,h0,show N+3=N+2+1 by lia,h3];exact kK g1 (by lia)
    ·rw[cJ.mp hq,oT,r2,h1,show N+2=N+2+0 by lia,h2];exact kK g2 (by lia)
   ·rw[Dx,Pk];intro h e1 e2 q hq;have h0:=e1 0 (by decide);have h2:=e2 0;have h3:=e2 1;have g1:p∣y 0-x 0:=h.1;have g2:p∣y 1-x 0:=h.2.1;rcases(dX.mp hq)with(rfl|hq)
    ·rw[oT,r2,h0,show N+1=N+1+0 by lia,h2];exact kK g1 (by lia)
    ·rw[cJ.mp hq,oT,r2,h0,show N+2=N+1+1 by lia,h3];exact kK g2 (by lia)
   ·rw[PK];intro _ _ _ q hq;cases hq
   ·rw[Dy,Pl];intro h e1 e2 q hq;have h0:=e1 0 (by decide);have h1:=e1 1 (by decide);have h2:=e2 0;have g1:p∣y 0-(x 0+x 1):=h.1;rw[cJ.mp hq,y3,r3,h0,h1,show N+2=N+2+0 by lia,h2];exact kK g1 (by lia)
   ·rw[Dz,jM];intro h e1 e2 q hq;have h2:=e2 0;have g1:p∣y 0:=h 0;rw[cJ.mp hq,up1,r1,show N+0=N+0+0 by lia,h2];rwa[show 1*y 0=y 0 by lia]
   ·rw[IK,Dq];intro h e1 e2 q hq;have h2:=e2 0;have h3:=e2 1;have g1:p∣y 1-y 0:=h.1;rw[cJ.mp hq,oT,r2,show N+0=N+0+0 by lia,h2,show N+1=N+0+1 by lia,h3];exact kK g1 (by lia)
   ·rw[PL];intro _ _ _ q hq;cases hq
  ·have hj:j<l:=hj;show x j=atS _ (List.range' N l) j;rw[PM hj];exact(e1 j hj).symm
  ·have hj:j<r:=hj;show y j=atS _ (List.range' (N+l) r) j;rw[PM hj];exact(e2 j).symm
 | .times n,N,x,k,y,a,_,h=>by
  have h:p∣y 0-n*x 0:=h;refine⟨λs=>if s=N then x 0 else y 0,⟨λq hq=>?_,λt ht=>by cases ht⟩,(show Cg p 1 x (atS _ [N]) from PH (cQ (af rfl).symm)),?_⟩
  ·have hq:q∈(dy "times" n).map (gQ N):=hq;rw[DA]at hq;rw[cJ.mp hq,oT,r2];show p∣n*(if N=N then x 0 else y 0) + -1*(if N+1=N then x 0 else y 0)
   rw[af rfl,ag (by lia)];exact kK h (by lia)
  ·refine(show Cg p 1 y (atS _ [N+1]) from PH ?_)
   show p∣y 0-(if N+1=N then x 0 else y 0)
   rw[ag (by lia)];exact cQ rfl
 | .back d,N,x,k,y,a,hd,h=>by
  obtain⟨v,h1,h2,h3⟩:=xK (d:=d) (N:=N) hd h;exact⟨v,⟨h1.1,h1.2⟩,h3,h2⟩
 | .cF c b,N,x,k,y,a,hd,h=>by
  obtain⟨a1,a2⟩:=jn (d:=c) (N:=(aN b N).2) hd.1;obtain⟨va,h1,h2,h3⟩:=xK (d:=c) (N:=(aN b N).2) hd.1 h.1;obtain⟨vb,g1,g2,g3⟩:=xK (d:=b) (N:=N) hd.2 h.2;have ea:∀s,(aN b N).2≤s→s<(aN c (aN b N).2).2→(if s<(aN b N).2 then vb s else va s)=va s:=λs hs _=>ag (by lia)
  have eb:∀s,N≤s→s<(aN b N).2→(if s<(aN b N).2 then vb s else va s)=vb s:=λs _ hs=>af hs
  have sa:=qD.congr hd.1 ea h1;have sb:=qD.congr hd.2 eb g1;have ia:=λ(s:Nat)(hs:s∈(aN c (aN b N).2).1.all)=>ea s (nO hd.1 hs).1 (nO hd.1 hs).2;have ib:=λ(s:Nat)(hs:s∈(aN b N).1.all)=>eb s (nO hd.2 hs).1 (nO hd.2 hs).2;refine⟨λs=>if s<(aN b N).2 then vb s else va s,⟨λq hq=>(dq.mp hq).elim (sb.1 q) (sa.1 q),λt ht=>(dq.mp ht).elim (sb.2 t) (sa.2 t)⟩,PJ a1 ?_ ?_,PJ a2 ?_ ?_⟩
  ·rw[ud (v':=va) λs hs=>ia s (DB hs)];exact h2
  ·rw[ud (v':=vb) λs hs=>ib s (DB hs)];exact g2
  ·rw[ud (v':=va) λs hs=>ia s (DC hs)];exact h3
  ·rw[ud (v':=vb) λs hs=>ib s (DC hs)];exact g3
 | .bh c b,N,x,k,y,a,hd,⟨m,h,h'⟩=>by
  obtain⟨a1,a2⟩:=jn (d:=c) (N:=(aN b N).2) hd.1;obtain⟨b1,b2⟩:=jn (d:=b) (N:=N) hd.2.1;obtain⟨va,h1,h2,h3⟩:=xK (d:=c) (N:=(aN b N).2) hd.1 h;obtain⟨vb,g1,g2,g3⟩:=xK (d:=b) (N:=N) hd.2.1 h';have hm:=hd.2.2;have ea:∀s,(aN b N).2≤s→s<(aN c (aN b N).2).2→(if s<(aN b N).2 then vb s else va s)=va s:=λs hs _=>ag (by lia)
  have eb:∀s,N≤s→s<(aN b N).2→(if s<(aN b N).2 then vb s else va s)=vb s:=λs _ hs=>af hs
  have sa:=qD.congr hd.1 ea h1;have sb:=qD.congr hd.2.1 eb g1;have ia:=λ(s:Nat)(hs:s∈(aN c (aN b N).2).1.all)=>ea s (nO hd.1 hs).1 (nO hd.1 hs).2;have ib:=λ(s:Nat)(hs:s∈(aN b N).1.all)=>eb s (nO hd.2.1 hs).1 (nO hd.2.1 hs).2;refine⟨λs=>if s<(aN b N).2 then vb s else va s,⟨λq hq=>(dq.mp hq).elim (sb.1 q) (sa.1 q),λt ht=>?_⟩,?_,?_⟩
  ·rcases(dq.mp ht)with(ht|ht)
   ·exact(dq.mp ht).elim (sb.2 t) (sa.2 t)
   ·obtain⟨i,hi⟩:=pW.mp ht;rw[EX]at hi;obtain⟨i1,i2⟩:=hi;have hj:i<c.aV:=by rw[← a2];exact(dH.mp i2).1
    show p∣(if t.1<(aN b N).2 then vb t.1 else va t.1)-(if t.2<(aN b N).2 then vb t.2 else va t.2)
    rw[ib t.1 (DB (dI i1)),ia t.2 (DC (dI i2))];have q1:=h3 i hj;have q2:=g2 i (by rw[← hm];exact hj);rw[vJ i2]at q1;rw[vJ i1]at q2;exact iL q1 q2 (by lia)
  ·show Cg p c.aO x (atS _ (aN c (aN b N).2).1.l);rw[ud (v':=va) λs hs=>ia s (DB hs)];exact h2
  ·show Cg p b.aV y (atS _ (aN b N).1.r);rw[ud (v':=vb) λs hs=>ib s (DC hs)];exact g3
end
section
variable{p:Int}
def jq(p:Int)(M:Nat)(f:Fn):Prop:=∀s,0≤f s∧f s<p∧(M≤s→f s=0)
noncomputable def fY(p:Int)(f g:Fn)(c:Int):Fn:=λs=>(f s-c*g s)%p
noncomputable def iA(p:Int)(f:Fn)(c:Int):Fn:=λs=>f s*c%p
theorem vK(p0:0<p)(a:Int):0≤a%p∧a%p<p:=⟨sM _ (by lia),sN _ p0⟩
theorem PN(p0:0<p)(hf:jq p M f)(hg:jq p M g):jq p M (fY p f g c):=λs=>⟨(vK p0 _).1,(vK p0 _).2,λh=>by
 unfold fY;rw[(hf s).2.2 h,(hg s).2.2 h,Int.mul_zero];simp⟩
theorem PQ(p0:0<p)(hf:jq p M f):jq p M (iA p f c):=λs=>⟨(vK p0 _).1,(vK p0 _).2,λh=>by
 unfold iA;rw[(hf s).2.2 h];simp⟩
theorem IM(hf:f s=0)(hg:g s=0):fY p f g c s=0:=by
 unfold fY;rw[hf,hg,Int.mul_zero];simp
theorem PR(p0:0<p)(hf:jq p M f)(hg:g s=0):fY p f g c s=f s:=by
 unfold fY;rw[hg,Int.mul_zero,Int.sub_zero];exact Int.emod_eq_of_lt (hf s).1 (hf s).2.1
theorem PU(p0:0<p)(hf:jq p M f):fY p f g 0=f:=by
 funext s
 unfold fY;rw[Int.zero_mul,Int.sub_zero];exact Int.emod_eq_of_lt (hf s).1 (hf s).2.1
theorem DD(h:∀s,s<M→p∣f s-g s):p∣dot f v M-dot g v M:=by
 have e:dot f v M-dot g v M=Sg (λi=>(f i-g i)*v i) M:=by
  have:=NZ v f g M
  rw[← this];rfl
 rw[e];exact zh λi hi=>Int.dvd_mul_of_dvd_left (h i hi)
theorem DE(f g v:Fn)(c:Int)(M:Nat):dot (λs=>f s-c*g s) v M=dot f v M-c*dot g v M:=by
 have h:=Nl v f g (-c) M;rw[xk,show(λs=>f s-c*g s)=λj=>f j + -c*g j from funext λs=>by rw[Int.neg_mul];lia,h,xk v f,xk v g,Int.neg_mul]
 lia
theorem DG:p∣dot (fY p f g c) v M-(dot f v M-c*dot g v M):=by
 rw[← DE];exact DD λs _=>px _ _
structure EI(p:Int)(M:Nat)(R0:List Fn)(dn:List Nat)(aQ:List Fn)(D:List (Nat×Fn)):Prop where
 rr:∀f∈aQ,jq p M f
 dr:∀t∈D,jq p M t.2
 sat:∀v:Fn,((∀f∈aQ,p∣dot f v M)∧∀t∈D,p∣dot t.2 v M)↔∀f∈R0,p∣dot f v M
 clear:∀f∈aQ,∀s∈dn,f s=0
 one:∀t∈D,t.2 t.1=1
 alone:∀(i j:Nat)(t u:Nat×Fn),D[i]?=some t→D[j]?=some u→i≠j→t.2 u.1=0
 keys:∀t∈D,t.1∈dn
 sup:∀t∈D,∀s∈dn.takeWhile (λx=>decide (x≠t.1)),t.2 s=0
theorem PV{x:Nat}(h:x∈L):(L++[s]).takeWhile (λy=>decide (y≠x))=L.takeWhile (λy=>decide (y≠x)):=by
 induction L with
 |nil=>cases h
 |cons a L ih=>
  rw[uH,List.takeWhile_cons,List.takeWhile_cons];by_cases e:a=x
  ·rw[ag (by simp[e]),ag (by simp[e])]
  ·rw[af (by simp[e]),af (by simp[e]),ih ((dX.mp h).resolve_left λz=>e z.symm)]
theorem abb(h:s ∉ L):(L++[s]).takeWhile (λy=>decide (y≠s))=L:=by
 induction L with
 |nil=>rw[lY,List.takeWhile_cons,ag (by simp)]
 |cons a L ih=>
  rw[uH,List.takeWhile_cons,af (by simp;intro e;exact h (by rw[e];exact cU)),ih λz=>h (fK _ z)]
theorem abc{x:Nat}(h:s∈L.takeWhile (λy=>decide (y≠x))):s∈L:=(List.takeWhile_prefix _).subset h
theorem EI.start(h:∀f∈R0,jq p M f):EI p M R0 [] R0 [] where
 rr:=h
 dr:=λt ht=>nomatch ht
 sat:=λv=>⟨λz=>z.1,λz=>⟨z,λt ht=>nomatch ht⟩⟩
 clear:=λf _ s hs=>nomatch hs
 one:=λt ht=>nomatch ht
 alone:=λi j t u e=>nomatch e
 keys:=λt ht=>nomatch ht
 sup:=λt ht=>nomatch ht
variable{M:Nat}{R0 aQ:List Fn}{dn:List Nat}{D:List (Nat×Fn)}
theorem EI.skip(h:EI p M R0 dn aQ D)(hs:∀f∈aQ,f s=0):EI p M R0 (dn++[s]) aQ D:=
 ⟨h.rr,h.dr,h.sat,λf hf x hx=>(dq.mp hx).elim (h.clear f hf x) λz=>by rw[cJ.mp z];exact hs f hf,h.one,h.alone,λt ht=>e7 _ (h.keys t ht),λt ht x hx=>h.sup t ht x (by rwa[PV (h.keys t ht)]at hx)⟩
theorem EI.step(pp:p∈dW)(h:EI p M R0 dn aQ D){k:Nat}{f0:Fn}{tn:Int}(hs:s ∉ dn)(h0:aQ[k]?=some f0)(t3:tn*f0 s%p=1){rows':List Fn}(m1:∀f'∈rows',∃f∈aQ,f'=fY p f (iA p f0 tn) (f s))(m2:∀(i:Nat)(f:Fn),i≠k→aQ[i]?=some f→fY p f (iA p f0 tn) (f s)∈rows') :
  EI p M R0 (dn++[s]) rows' (D.map (λt=>(t.1,fY p t.2 (iA p f0 tn) (t.2 s)))++[(s,iA p f0 (tn))]):=by
 obtain⟨p2,_⟩:=gN p pp;have p0:0<p:=by lia
 have m0:=dI h0;have r0:=h.rr f0 m0;have gs:iA p f0 (tn) s=1:=by unfold iA;rw[nX];exact t3
 have gr:=PQ p0 (c:=tn) r0;have gd:∀x∈dn,iA p f0 (tn) x=0:=λx hx=>by unfold iA;rw[h.clear f0 m0 x hx];simp
 have back:∀v:Fn,p∣dot f0 v M-f0 s*dot (iA p f0 tn) v M:=λv=>by
  have e:f0 s*dot (iA p f0 tn) v M=dot (λi=>0 - -(f0 s)*iA p f0 (tn) i) v M:=by
   rw[DE (λ_=>0)]
   have:dot (λ_=>(0:Int)) v M=0:=qk λi _=>by lia
   rw[this,Int.neg_mul];lia
  rw[e];refine DD λi _=>?_;unfold iA;have d1:=px p (f0 i*tn);have d2:=px p (tn*f0 s);rw[t3]at d2;have d3:p∣f0 s*(f0 i*tn%p-f0 i*tn):=kf d1;have d4:p∣f0 i*(1-tn*f0 s):=kf d2
  have:=jS d4 d3
  refine(show(f0 i*(1-tn*f0 s)-f0 s*(f0 i*tn%p-f0 i*tn))=f0 i-(0 - -(f0 s)*(f0 i*tn%p)) from ?_)▸this
  grind
 have PX:∀v:Fn,p∣dot f0 v M→p∣dot (iA p f0 tn) v M:=λv hv=>by
  have e:p∣dot (iA p f0 tn) v M-tn*dot f0 v M:=by
   have e:tn*dot f0 v M=dot (λi=>0 - -(tn)*f0 i) v M:=by
    rw[DE (λ_=>0)]
    have:dot (λ_=>(0:Int)) v M=0:=qk λi _=>by lia
    rw[this,Int.neg_mul];lia
   rw[e];refine DD λi _=>?_;have d1:=px p (f0 i*tn);refine(show f0 i*tn%p-f0 i*tn=iA p f0 (tn) i-(0 - -(tn)*f0 i) from ?_)▸d1
   unfold iA
   grind
  exact mw e (kf (b:=tn) hv) (by lia)
 generalize iA p f0 (tn)=g at gs gr gd back PX m1 m2 ⊢;refine⟨λf hf=>?_,λt ht=>?_,λv=>⟨λz=>(h.sat v).mp ⟨λf hf=>?_,λt ht=>?_⟩,λz=>?_⟩,λf hf x hx=>?_,λt ht=>?_,λi j t u e1 e2 cL=>?_,λt ht=>?_,λt ht x hx=>?_⟩
 ·obtain⟨f1,h1,rfl⟩:=m1 _ hf;exact PN p0 (h.rr f1 h1) gr
 ·rcases(dq.mp ht)with(ht|ht)
  ·obtain⟨t1,h1,rfl⟩:=cY.mp ht;exact PN p0 (h.dr t1 h1) gr
  ·rw[cJ.mp ht];exact gr
 ·have hg:p∣dot g v M:=z.2 (s,g) (eJ _ cU);obtain⟨i,hi⟩:=pW.mp hf;by_cases ei:i=k
  ·subst ei;rw[h0]at hi;cases hi;exact mw (back v) (kf (b:=f0 s) hg) (by lia)
  ·have h1:=z.1 _ (m2 i f ei hi);have h2:=DG (p:=p) (f:=f) (g:=g) (v:=v) (c:=f s) (M:=M);have h3:p∣f s*dot g v M:=kf hg;exact mw (iL h1 h2 rfl) h3 (by lia)
 ·have hg:p∣dot g v M:=z.2 (s,g) (eJ _ cU);have h1:=z.2 (t.1,fY p t.2 g (t.2 s)) (e7 _ (cY.mpr ⟨t,ht,rfl⟩));have h2:=DG (p:=p) (f:=t.2) (g:=g) (v:=v) (c:=t.2 s) (M:=M);have h3:p∣t.2 s*dot g v M:=kf hg;exact mw (iL h1 h2 rfl) h3 (by lia)
 ·obtain⟨z1,z2⟩:=(h.sat v).mpr z;have hg:=PX v (z1 f0 m0);refine⟨λf hf=>?_,λt ht=>?_⟩
  ·obtain⟨f1,h1,rfl⟩:=m1 _ hf;have h2:=DG (p:=p) (f:=f1) (g:=g) (v:=v) (c:=f1 s) (M:=M);have h3:p∣f1 s*dot g v M:=kf hg;exact mw h2 (iL (z1 f1 h1) h3 rfl) (by lia)
  ·rcases(dq.mp ht)with(ht|ht)
   ·obtain⟨t1,h1,rfl⟩:=cY.mp ht;have h2:=DG (p:=p) (f:=t1.2) (g:=g) (v:=v) (c:=t1.2 s) (M:=M);have h3:p∣t1.2 s*dot g v M:=kf hg;exact mw h2 (iL (z2 t1 h1) h3 rfl) (by show dot (fY p t1.2 g (t1.2 s)) v M=_;lia)
   ·rw[cJ.mp ht];exact hg
 ·obtain⟨f1,h1,rfl⟩:=m1 _ hf;rcases(dq.mp hx)with(hx|hx)
  ·exact IM (h.clear f1 h1 x hx) (gd x hx)
  ·rw[cJ.mp hx];unfold fY;rw[gs,sE,Int.sub_self];simp
 ·rcases(dq.mp ht)with(ht|ht)
  ·obtain⟨t1,h1,rfl⟩:=cY.mp ht;show fY p t1.2 g (t1.2 s) t1.1=1;rw[PR p0 (h.dr t1 h1) (gd t1.1 (h.keys t1 h1))];exact h.one t1 h1
  ·rw[cJ.mp ht];exact gs
 ·have hD:(D.map λt=>(t.1,fY p t.2 g (t.2 s))).length=D.length:=bO _;by_cases i1:i<D.length
  ·rw[gS (by lia),du]at e1;rw[cC i1]at e1;cases e1;have q1:D[i]?=some D[i]:=cC i1;by_cases j1:j<D.length
   ·rw[gS (by lia),du]at e2;rw[cC j1]at e2;cases e2;have q2:D[j]?=some D[j]:=cC j1;show fY p D[i].2 g (D[i].2 s) D[j].1=0;exact IM (h.alone i j _ _ q1 q2 cL) (gd _ (h.keys _ (n6 j1)))
   ·rw[hU (by lia),hD]at e2
    have:j-D.length=0:=by
     have:=(dH.mp e2).1
     simpa using this
    rw[this]at e2;cases e2;show fY p D[i].2 g (D[i].2 s) s=0;unfold fY;rw[gs,sE,Int.sub_self];simp
  ·rw[hU (by lia),hD]at e1
   have:i-D.length=0:=by
    have:=(dH.mp e1).1
    simpa using this
   rw[this]at e1;cases e1;have j1:j<D.length:=by
    have:=(dH.mp e2).1
    rw[bY,hD]at this;simp at this;lia
   rw[gS (by lia),du,cC j1]at e2;cases e2;show g D[j].1=0;exact gd _ (h.keys _ (n6 j1))
 ·rcases(dq.mp ht)with(ht|ht)
  ·obtain⟨t1,h1,rfl⟩:=cY.mp ht;exact e7 _ (h.keys t1 h1)
  ·rw[cJ.mp ht];exact eJ _ cU
 ·rcases(dq.mp ht)with(ht|ht)
  ·obtain⟨t1,h1,rfl⟩:=cY.mp ht;have hx:x∈dn.takeWhile (λy=>decide (y≠t1.1)):=by rwa[PV (h.keys t1 h1)]at hx
   exact IM (h.sup t1 h1 x hx) (gd x (abc hx))
  ·rw[cJ.mp ht]at hx ⊢;have hx:x∈dn:=by rwa[abb hs]at hx
   exact gd x hx
end
def Ok(p:Int)(d:Drw):Prop:=d.wf p∧d.sm
theorem Ok.back{p:Int}{d:Drw}(o:Ok p (.back d)):Ok p d:=⟨o.1,o.2⟩
theorem Ok.PY{a b:Drw}(o:Ok p (.cF a b)):Ok p a:=⟨o.1.1,o.2.1⟩
theorem Ok.PZ{a b:Drw}(o:Ok p (.cF a b)):Ok p b:=⟨o.1.2,o.2.2.1⟩
theorem Ok.P0{a b:Drw}(o:Ok p (.bh a b)):Ok p a:=⟨o.1.1,o.2.1⟩
theorem Ok.P4{a b:Drw}(o:Ok p (.bh a b)):Ok p b:=⟨o.1.2.1,o.2.2⟩
theorem IP{α:Type}{f:α→Bool}:∀{D:List α}{k:Nat},(∀(i:Nat)(r:α),D[i]?=some r→(f r=true↔k≤i))→D.filter f=D.drop k
 | [],_,_=>by simp
 |r::D,0,h=>by
  have h0:=(h 0 r rfl).mpr (jf _);rw[List.filter_cons,af h0,IP (D:=D) (k:=0) λi q hq=>?_,List.drop_zero,List.drop_zero]
  have:=h (i+1) q hq
  exact⟨λ_=>jf _,λ_=>this.mpr (jf _)⟩
 |r::D,k+1,h=>by
  have h0:¬f r=true:=λz=>absurd ((h 0 r rfl).mp z) (by lia);rw[List.filter_cons,ag h0,IP (D:=D) (k:=k) λi q hq=>?_,List.drop_succ_cons];rw[h (i+1) q hq];lia
theorem P5{m:Nat}:∀{ls:List Nat},ls.Pairwise (· < ·)→∃k,∀(i l:Nat),ls[i]?=some l→(m≤l↔k≤i)
 | [],_=>⟨0,λi l h=>by simp at h⟩
 |a::ls,h=>by
  rw[List.pairwise_cons]at h;obtain⟨k,hk⟩:=P5 (m:=m) h.2;by_cases c:m≤a
  ·refine⟨0,λi l hl=>⟨λ_=>jf _,λ_=>?_⟩⟩;cases i with
   |zero=>cases hl;exact c
   |succ i=>have:=h.1 l (dI (show ls[i]?=some l from hl));lia
  ·refine⟨k+1,λi l hl=>?_⟩;cases i with
   |zero=>cases hl;lia
   |succ i=>rw[hk i l hl];lia
theorem abd{m:Nat}{D:LL}{ls:List Nat}(E:ja n n D ls)(N:Nat)(hN:N+m=n):∃tK,ja N N ((D.filter (oS m)).map λr=>r.drop m) tK:=by
 obtain⟨k,hk⟩:=P5 (m:=m) E.up;have at_:∀(i:Nat)(r:List Int),D[i]?=some r→∃l,ls[i]?=some l:=λi r hr=>by
  have:=(dH.mp hr).1
  exact⟨ls[i]'(by rw[E.len];exact this),cC _⟩
 have ef:D.filter (oS m)=D.drop k:=IP λi r hr=>by
  obtain⟨l,hl⟩:=at_ i r hr;obtain⟨h1,h0⟩:=E.one i r l hr hl;rw[← hk i l hl];constructor
  ·intro z;by_cases c:m≤l
   ·exact c
   ·have:=Pe z (j:=l) (by lia)
    lia
  ·intro c;exact O5 h0 c
 rw[ef];have eD:∀(i:Nat)(q:List Int),((D.drop k).map λr=>r.drop m)[i]?=some q→∃r,D[k+i]?=some r∧q=r.drop m:=λi q hq=>by
  rw[du,sJ]at hq;cases e:D[k+i]? with
  |none=>rw[e]at hq;cases hq
  |some r=>rw[e]at hq;cases hq;exact⟨r,rfl,rfl⟩
 have eL:∀(i l:Nat),((ls.drop k).map λl=>l-m)[i]?=some l→ls[k+i]?=some (l+m):=λi l hl=>by
  rw[du,sJ]at hl;cases e:ls[k+i]? with
  |none=>rw[e]at hl;cases hl
  |some l'=>
   rw[e]at hl
   have:=(hk _ _ e).mpr (by lia)
   have hl:l' - m=l:=dZ hl;rw[show l+m=l' by lia]
 refine⟨(ls.drop k).map λl=>l-m,by simp[E.len],?_,λl hl=>?_,λi q l hq hl=>?_,λi i' q l cL hq hl=>?_⟩
 ·rw[List.pairwise_map];refine List.Pairwise.imp_of_mem ?_ (E.up.drop (i:=k));intro a b ha hb DH;obtain⟨i,hi⟩:=List.getElem?_of_mem ha;rw[sJ]at hi
  have:=(hk _ _ hi).mpr (by lia)
  lia
 ·obtain⟨i,hi⟩:=List.getElem?_of_mem hl
  have:=E.lt _ (dI (eL i l hi))
  lia
 ·obtain⟨r,hr,rfl⟩:=eD i q hq;obtain⟨h1,h0⟩:=E.one _ r _ hr (eL i l hl);refine⟨by rw[qA,Nat.add_comm];exact h1,λj hj=>?_⟩;rw[qA];exact h0 _ (by lia)
 ·obtain⟨r,hr,rfl⟩:=eD i' q hq;rw[qA,Nat.add_comm];exact E.alone _ _ r _ (by lia) hr (eL i l hl)
noncomputable def IQ(n:Nat)(D:LL)(ls:List Nat):Bool:=ls.length==D.length&&decide (ls.Pairwise (· < ·))&&ls.all (λl=>decide (l<n)) &&
 (List.range D.length).all λi=>(List.range D.length).all λj=>if i=j then(D.getD j []).getD (ls.getD i 0) 0==1&&(List.range (ls.getD i 0)).all (λt=>(D.getD j []).getD t 0==0)else(D.getD j []).getD (ls.getD i 0) 0==0
theorem getD_some{α:Type}{L:List α}{i:Nat}{x d:α}(h:L[i]?=some x):L.getD i d=x:=by rw[cH,h];rfl
theorem abe{D:LL}{ls:List Nat}(h:IQ n D ls=true):ja n n D ls:=by
 unfold IQ at h;simp only[ir,beq_iff_eq,aF,pU,mU]at h;obtain⟨⟨⟨g1,g2⟩,g3⟩,h4⟩:=h;refine⟨g1,g2,g3,λi r l hr hl=>?_,λi i' r l cL hr hl=>?_⟩
 ·have hi:=(dH.mp hr).1
  have:=h4 i hi i hi
  rw[af rfl,getD_some hr,getD_some hl]at this;simp only[ir,beq_iff_eq,pU,mU]at this;exact this
 ·have hi:=(dH.mp hl).1;have jL:=(dH.mp hr).1
  have:=h4 i (by lia) i' jL
  rw[ag cL,getD_some hr,getD_some hl]at this;simpa using this
theorem abf:∀e∈gZ,IQ (e.2.1+e.2.2.1) e.2.2.2 (X6 e.2.2.2)=true:=by decide +kernel
theorem Drw.qj{p:Int}(pp:p∈dW):∀{d:Drw},Ok p d→∃ls,ja (d.aO+d.aV) (d.aO+d.aV) (d.aQ p) ls
 | .box x l r aQ,o=>⟨_,abe (abf _ o.1)⟩
 | .times n,_=>⟨[0],by
  refine⟨rfl,by simp,λl hl=>by rw[cJ.mp hl];show 0<1+1;decide,λi r l hr hl=>?_,λi i' r l cL hr hl=>?_⟩
  ·cases i with
   |zero=>cases hr;cases hl;exact⟨rfl,λj hj=>absurd hj (by lia)⟩
   |succ i=>cases hl
  ·cases i with
   |zero=>
    cases i' with
    |zero=>exact absurd rfl cL
    |succ i'=>cases hr
   |succ i=>cases hl⟩
 | .back d,o=>by
  obtain⟨_,_,_,hR⟩:=Drw.good pp o.back.1 o.back.2;have hS:cP p (d.aV+d.aO) ((d.aQ p).map (iV d.aO d.aV)):=λx hx=>by
   obtain⟨y,hy,e⟩:=cY.mp hx;rw[← e];exact zN (x:=0) (hR y hy)
  exact(oH pp hS).qj
 | .cF a b,o=>by
  obtain⟨p2,_⟩:=gN p pp;obtain⟨_,_,_,hA⟩:=Drw.good pp o.PY.1 o.PY.2;obtain⟨_,_,_,hB⟩:=Drw.good pp o.PZ.1 o.PZ.2;have hS:=zR (x:=0) (by lia) hA hB;obtain⟨ls,E⟩:=(oH pp hS).qj;have e:(Drw.cF a b).aO+(Drw.cF a b).aV=a.aO+b.aO+(a.aV+b.aV):=rfl;refine⟨ls,?_⟩;rw[e];exact E
 | .bh a b,o=>by
  obtain⟨p2,_⟩:=gN p pp;obtain⟨_,_,_,hA⟩:=Drw.good pp o.P0.1 o.P0.2;obtain⟨_,_,_,hB⟩:=Drw.good pp o.P4.1 o.P4.2;have Dp:cP p (a.aV+b.aV) (b.aQ p):=by rw[show a.aV=b.aO from o.1.2.2];exact hB
  obtain⟨ls,E⟩:=(oH pp (zT (x:=0) (by lia) hA Dp)).qj;exact abd E _ (by show a.aO+b.aV+a.aV=_;lia)
section
variable{p:Int}
theorem xM:∀{d:Drw},d.wf p→d.bf=0
 | .box x l r aQ,h=>aaZ h
 | .times n,_=>rfl
 | .back d,h=>xM (d:=d) h
 | .cF a b,h=>by show a.bf+b.bf=0;rw[xM h.1,xM h.2]
 | .bh a b,h=>by show a.bf+b.bf=0;rw[xM h.1,xM h.2.1]
theorem xN:∀{d:Drw}{c:Nat},d.bf=0→d.gW p 0 c=d.aQ p
 | .box x l r aQ,c,e=>by
  have e:(if x=Str.ofString "late" then 1 else 0)=0:=e
  have hx:¬x=Str.ofString "late":=λh=>by rw[af h]at e;cases e
  show(if x=Str.ofString "late" then _ else aQ.map (·++List.replicate (2*0) 0))=aQ
  rw[ag hx]
  have:(λr:List Int=>r++List.replicate (2*0) 0)=id:=by
   funext r
   exact hJ r
  rw[this,List.map_id]
 | .times n,c,_=>rfl
 | .back d,c,e=>by
  show iy p ((d.gW p 0 c).map (iV d.aO d.aV))=iy p ((d.aQ p).map (iV d.aO d.aV));rw[xN (d:=d) e]
 | .cF a b,c,e=>by
  have e:a.bf+b.bf=0:=e;show iy p (nK _ _ _ _ (a.gW p 0 c) (b.gW p 0 (c+a.bf)))=iy p (nK _ _ _ _ (a.aQ p) (b.aQ p));rw[xN (d:=a) (by lia),xN (d:=b) (by lia)]
 | .bh a b,c,e=>by
  have e:a.bf+b.bf=0:=e;show nM p _ _ _ (a.gW p 0 c) (b.gW p 0 (c+a.bf))=nM p _ _ _ (a.aQ p) (b.aQ p);rw[xN (d:=a) (by lia),xN (d:=b) (by lia)]
theorem abg{row:List Int}(h:row.length=l+r):uc l r 0 row=row:=by
 unfold uc;have e:row.drop (l+r+0)=[]:=List.drop_of_length_le (by lia);have e2:(row.drop l).take r=row.drop l:=o4 (by rw[iK];lia);rw[e,e2,List.take_zero,hJ,hJ];exact List.take_append_drop _ _
theorem P6(pp:p∈dW)(hd:d.wf p)(hs:d.sm):Sp p (RS (d.aQ p)) f↔TR p d f (λ_=>0) (sh d.aO f) (λ_=>0)∧∀s,p∣f (d.aO+d.aV+s):=by
 have e0:=xM hd;have h:=aa5 pp (oU hd) hs (by lia) (f:=f);obtain⟨_,_,_,hR⟩:=Drw.good pp hd hs;rw[e0,xN e0]at h;have e:(d.aQ p).map (uc d.aO d.aV 0)=d.aQ p:=by
  have h:(d.aQ p).map (uc d.aO d.aV 0)=(d.aQ p).map id:=uJ λr hr=>abg (hR r hr).1;rw[h,List.map_id]
 rw[e]at h;rw[h];have z:∀{x y:Fn},Cg p d.bf x y:=λ{x y} j hj=>by rw[e0]at hj;lia
 refine⟨λq=>⟨TR.dh (oU hd) (λj _=>cQ rfl) z (λj _=>cQ rfl) z q.1,λs=>?_⟩,λq=>⟨TR.dh (oU hd) (λj _=>cQ rfl) z (λj _=>cQ rfl) z q.1,λs=>?_⟩⟩
 ·exact q.2 s
 ·exact q.2 s
noncomputable def look(al:List (Nat×Nat))(s:Nat):Nat:=((al.find? λt=>decide (t.1=s)).map (·.2)).getD s
theorem Aa(h:s ∉ al.map Prod.fst):look al s=s:=by
 unfold look;rw[yj.mpr λt ht=>by simp;intro e;exact h (by rw[← e];exact n8 ht)];rfl
theorem IS(h:s∈al.map Prod.fst):∃t∈al,t.1=s∧look al s=t.2:=by
 unfold look;cases e:al.find? λt=>decide (t.1=s) with
 |none=>
  obtain⟨t,ht,rfl⟩:=cY.mp h
  have:=yj.mp e t ht
  simp at this
 |some t=>
  have:=List.find?_some e
  exact⟨t,List.mem_of_find?_eq_some e,by simpa using this,rfl⟩
noncomputable def qF(p:Int)(al:List (Nat×Nat))(q:dN):Fn:=q.foldl (λf t=>λs=>if s=look al t.1 then(f s+t.2)%p else f s) λ_=>0
theorem P7(p0:0<p){M:Nat}{al:List (Nat×Nat)}(v:Fn):∀(q:dN){f:Fn},jq p M f→(∀t∈q,look al t.1<M)→
  jq p M (q.foldl (λf t=>λs=>if s=look al t.1 then(f s+t.2)%p else f s) f)∧p∣dot (q.foldl (λf t=>λs=>if s=look al t.1 then(f s+t.2)%p else f s) f) v M-(dot f v M+rv (λs=>v (look al s)) q)∧
  ∀s,(∀t∈q,look al t.1≠s)→q.foldl (λf t=>λs=>if s=look al t.1 then(f s+t.2)%p else f s) f s=f s
 | [],f,hf,_=>⟨hf,⟨0,by show dot f v M-(dot f v M+0)=_;lia⟩,λs _=>rfl⟩
 |t::q,f,hf,h=>by
  have hl:=h t cU;have h1:jq p M (λs=>if s=look al t.1 then(f s+t.2)%p else f s):=λs=>by
   show 0≤(if s=look al t.1 then(f s+t.2)%p else f s)∧(if s=look al t.1 then(f s+t.2)%p else f s)<p∧(M≤s→(if s=look al t.1 then(f s+t.2)%p else f s)=0)
   by_cases e:s=look al t.1
   ·rw[af e];exact⟨(vK p0 _).1,(vK p0 _).2,λz=>by lia⟩
   ·rw[ag e];exact hf s
  obtain⟨i1,i2,i3⟩:=P7 p0 v q h1 λu hu=>h u (fK _ hu);refine⟨i1,?_,λs hs=>?_⟩
  ·have d1:p∣dot (λs=>if s=look al t.1 then(f s+t.2)%p else f s) v M-dot (λs=>f s - -(t.2)*(if s=look al t.1 then 1 else 0)) v M:=DD λs _=>by
    by_cases e:s=look al t.1
    ·rw[af e,af e]
     have:=px p (f s+t.2)
     rwa[show(f s+t.2)%p-(f s+t.2)=(f s+t.2)%p-(f s - -t.2*1) by lia]at this
    ·rw[ag e,ag e];exact⟨0,by lia⟩
   rw[DE]at d1;have d2:dot (λs=>if s=look al t.1 then(1:Int)else 0) v M=v (look al t.1):=X4 hl v
   rw[d2]at d1;have e:rv (λs=>v (look al s)) (t::q)=t.2*v (look al t.1)+rv (λs=>v (look al s)) q:=rfl;rw[List.foldl_cons,e];refine mw i2 d1 ?_;rw[Int.neg_mul];lia
  ·rw[List.foldl_cons,i3 s λu hu=>hs u (fK _ hu),ag λe=>hs t cU e.symm]
theorem DI(p0:0<p){q:dN}(h:∀t∈q,look al t.1<M)(v:Fn):jq p M (qF p al q)∧p∣dot (qF p al q) v M-rv (λs=>v (look al s)) q∧∀s,(∀t∈q,look al t.1≠s)→qF p al q s=0:=by
 have z:jq p M (λ_=>0):=λs=>⟨Int.le_refl 0,p0,λ_=>rfl⟩;obtain⟨h1,h2,h3⟩:=P7 p0 v q z h;refine⟨h1,?_,h3⟩;have e:dot (λ_=>(0:Int)) v M=0:=qk λi _=>by lia
 rw[e,pV]at h2;exact h2
end
section
variable{p:Int}
noncomputable def e9(D:List (Nat×Fn))(s:Nat):Option Fn:=(D.find? λt=>decide (t.1=s)).map (·.2)
noncomputable def gn(p:Int)(D:List (Nat×Fn))(s f:Nat):Int:=match e9 D s with|some g=>(-(g f))%p|none=>if s=f then 1 else 0
noncomputable def rV(p:Int)(outer:List Nat)(D:List (Nat×Fn)):LL:=(outer.filter λf=>(e9 D f).isNone).map λf=>outer.map λs=>gn p D s f
theorem xO(h:e9 D s=some g):∃t∈D,t.1=s∧t.2=g:=by
 unfold e9 at h;cases e:D.find? λt=>decide (t.1=s) with
 |none=>rw[e]at h;cases h
 |some t=>
  rw[e]at h;cases h
  have:=List.find?_some e
  exact⟨t,List.mem_of_find?_eq_some e,by simpa using this,rfl⟩
theorem IT(h:e9 D s=none):∀t∈D,t.1≠s:=λt ht e=>by
 unfold e9 at h;rw[Option.map_eq_none_iff]at h
 have:=yj.mp h t ht
 simp[e]at this
theorem EI.uniq{aQ:List Fn}(h:EI p M R0 dn aQ D){t u:Nat×Fn}(ht:t∈D)(hu:u∈D):t=u∨t.2 u.1=0:=by
 obtain⟨i,hi⟩:=pW.mp ht;obtain⟨j,hj⟩:=pW.mp hu;by_cases e:i=j
 ·subst e;rw[hi]at hj;exact .inl (dZ hj)
 ·exact .inr (h.alone i j t u hi hj e)
theorem EI.abh{aQ:List Fn}(h:EI p M R0 dn aQ D){t:Nat×Fn}(ht:t∈D):e9 D t.1=some t.2:=by
 cases e:e9 D t.1 with
 |none=>exact absurd rfl (IT e t ht)
 |some g=>
  obtain⟨u,hu,h1,rfl⟩:=xO e;rcases h.uniq ht hu with rfl|z
  ·rfl
  ·rw[h1,h.one t ht]at z;cases z
theorem EI.abi{Z:List Nat}(h:∀f∈R0,jq p M f)(hz:∀f∈R0,∀s∈Z,f s=0):EI p M R0 Z R0 []:=
 { EI.start h with clear:=hz,keys:=λt ht=>(nomatch ht),sup:=λt ht=>nomatch ht }
theorem EI.P8(p0:0<p){aQ:List Fn}(h:EI p M R0 dn aQ D){f:Nat}(hf:e9 D f=none)(hM:f<M)(hk:∀t∈D,t.1<M):∀t∈D,p∣dot t.2 (λs=>gn p D s f) M:=λt ht=>by
 have cL:t.1≠f:=IT hf t ht;have e:dot t.2 (λs=>gn p D s f) M=t.2 t.1*gn p D t.1 f+t.2 f*gn p D f f:=X5 (f:=λi=>t.2 i*gn p D i f) (hk t ht) hM cL λi _ h1 h2=>by
  cases e:e9 D i with
  |none=>unfold gn;rw[e];show t.2 i*(if i=f then 1 else 0)=0;rw[ag h2];lia
  |some g=>
   obtain⟨u,hu,e1,_⟩:=xO e;rcases h.uniq ht hu with rfl|z
   ·exact absurd e1.symm h1
   ·rw[e1]at z;rw[z];lia
 rw[e,h.one t ht];have e1:gn p D t.1 f=(-(t.2 f))%p:=by unfold gn;rw[h.abh ht]
 have e2:gn p D f f=1:=by unfold gn;rw[hf];exact af rfl
 rw[e1,e2]
 have:=px p (-(t.2 f))
 rwa[show(-(t.2 f))%p - -(t.2 f)=1*((-(t.2 f))%p)+t.2 f*1 by lia]at this
theorem P9{v v':Fn}:∀{q:dN},(∀t∈q,p∣v t.1-v' t.1)→p∣rv v q-rv v' q
 | [],_=>⟨0,by show(0:Int)-0=_;lia⟩
 |t::q,h=>by
  have i:=P9 (q:=q) λu hu=>h u (fK _ hu);have j:p∣t.2*(v t.1-v' t.1):=kf (h t cU);refine mw j i ?_;show t.2*v t.1+rv v q-(t.2*v' t.1+rv v' q)=_;rw[Int.mul_sub];lia
end
section
variable{p:Int}{d:Drw}
theorem Qa(hd:d.wf p)(h:s<(aN d 0).2):s∈(aN d 0).1.all:=by
 have h1:=ue (d:=d) (N:=0) s hd;rw[af ⟨jf _,h⟩]at h1;exact List.count_pos_iff.mp (by lia)
theorem Ab(hd:d.wf p):(aN d 0).1.all.Nodup:=List.nodup_iff_count.mpr λs=>by
 rw[ue (d:=d) (N:=0) s hd];split<;>lia
theorem Ac(hd:d.wf p)(h:s∈(aN d 0).1.l++(aN d 0).1.r++(aN d 0).1.cS):s ∉ (aN d 0).1.al.map Prod.fst:=λz=>by
 have:=Ab hd
 unfold iJ.all at this;exact(qR.mp this).2.2 s h s z rfl
theorem DJ(hd:d.wf p)(h:s<(aN d 0).2):look (aN d 0).1.al s∈(aN d 0).1.l++(aN d 0).1.r++(aN d 0).1.cS:=by
 rcases dq.mp (Qa hd h)with z|z
 ·rw[Aa (Ac hd z)];exact z
 ·obtain⟨t,ht,_,e⟩:=IS z;rw[e];exact eJ _ (uf hd t ht)
theorem DK(hd:d.wf p)(h:s∈(aN d 0).1.l++(aN d 0).1.r++(aN d 0).1.cS):s<(aN d 0).2:=(nO hd (e7 _ h)).2
theorem abj(hd:d.wf p){t u:Nat×Nat}(ht:t∈(aN d 0).1.al)(hu:u∈(aN d 0).1.al)(e:t.1=u.1):t=u:=by
 have:=Ab hd
 unfold iJ.all at this;have nd:=(qR.mp this).2.1;obtain⟨i,hi⟩:=pW.mp ht;obtain⟨j,hj⟩:=pW.mp hu;have k1:((aN d 0).1.al.map Prod.fst)[i]?=some t.1:=by rw[du,hi];rfl
 have k2:((aN d 0).1.al.map Prod.fst)[j]?=some t.1:=by rw[du,hj,e];rfl
 have il:=(dH.mp k1).1
 have:i=j:=(List.getElem?_inj il nd).mp (by rw[k1,k2])
 subst this;rw[hi]at hj;exact dZ hj
noncomputable def qG(p:Int)(A:iJ):List Fn:=A.aQ.map (qF p A.al)
theorem abk(pp:p∈dW)(hd:d.wf p):EI p (aN d 0).2 (qG p (aN d 0).1) ((aN d 0).1.al.map Prod.fst) (qG p (aN d 0).1) []:=by
 obtain⟨p2,_⟩:=gN p pp;have p0:0<p:=by lia
 have hl:∀q∈(aN d 0).1.aQ,∀t∈q,look (aN d 0).1.al t.1<(aN d 0).2:=λq hq t ht=>DK hd (DJ hd (qE hd q hq t ht).2);refine .abi (λf hf=>?_) λf hf s hs=>?_
 ·obtain⟨q,hq,rfl⟩:=cY.mp hf;exact(DI p0 (hl q hq) λ_=>0).1
 ·obtain⟨q,hq,rfl⟩:=cY.mp hf;refine(DI p0 (hl q hq) λ_=>0).2.2 s λt ht e=>?_;exact Ac hd (DJ hd (qE hd q hq t ht).2) (e▸hs)
theorem abl(pp:p∈dW)(hd:d.wf p)(h:∀f∈qG p (aN d 0).1,p∣dot f v (aN d 0).2):TR p d (atS v (aN d 0).1.l) (λ_=>0) (atS v (aN d 0).1.r) (λ_=>0):=by
 obtain⟨p2,_⟩:=gN p pp;have p0:0<p:=by lia
 have hs:qD p (λs=>v (look (aN d 0).1.al s)) (aN d 0).1:=by
  refine⟨λq hq=>?_,λt ht=>cQ ?_⟩
  ·have h1:=h _ (n8 hq);have h2:=(DI p0 (λt ht=>DK hd (DJ hd (qE hd q hq t ht).2)) v).2.1;exact Y2 h1 h2
  ·obtain⟨u,hu,e1,e2⟩:=IS (n8 (f:=Prod.fst) ht)
   have:=abj hd hu ht e1
   subst this;show v (look _ u.1)=v (look _ u.2);rw[e2,Aa (Ac hd (eJ _ (uf hd u ht)))]
 have h:=xJ (k:=λ_=>0) (a:=λ_=>0) hd hs;have e1:atS (λs=>v (look (aN d 0).1.al s)) (aN d 0).1.l=atS v (aN d 0).1.l:=ud λs hs=>by rw[Aa (Ac hd (e7 _ (e7 _ hs)))]
 have e2:atS (λs=>v (look (aN d 0).1.al s)) (aN d 0).1.r=atS v (aN d 0).1.r:=ud λs hs=>by rw[Aa (Ac hd (e7 _ (eJ _ hs)))]
 rw[e1,e2]at h;exact h
theorem abm(pp:p∈dW)(hd:d.wf p){y:Fn}(h:TR p d x (λ_=>0) y (λ_=>0)):∃v:Fn,(∀f∈qG p (aN d 0).1,p∣dot f v (aN d 0).2)∧Cg p d.aO x (atS v (aN d 0).1.l)∧Cg p d.aV y (atS v (aN d 0).1.r):=by
 obtain⟨p2,_⟩:=gN p pp;have p0:0<p:=by lia
 obtain⟨v,h1,h2,h3⟩:=xK (N:=0) hd h;refine⟨v,λf hf=>?_,h2,h3⟩;obtain⟨q,hq,rfl⟩:=cY.mp hf;have e1:=(DI p0 (λt ht=>DK hd (DJ hd (qE hd q hq t ht).2)) v).2.1;have e2:p∣rv (λs=>v (look (aN d 0).1.al s)) q-rv v q:=P9 λt ht=>by
  show p∣v (look _ t.1)-v t.1;by_cases hk:t.1∈(aN d 0).1.al.map Prod.fst
  ·obtain⟨u,hu,a1,a2⟩:=IS hk;rw[a2,← a1];exact Dr (h1.2 u hu)
  ·rw[Aa hk];exact cQ rfl
 exact mw (nZ e1 e2) (h1.1 q hq) (by lia)
end
section
variable{p:Int}{d:Drw}
theorem IU{x:Nat}(h:x ∉ L):(L++L').takeWhile (λy=>decide (y≠x))=L++L'.takeWhile (λy=>decide (y≠x)):=by
 induction L with
 |nil=>rfl
 |cons a L ih=>
  rw[uH,List.takeWhile_cons,af (by simp;intro e;exact h (by rw[e];exact cU)),ih λz=>h (fK _ z),uH]
theorem abn(p0:0<p){aQ:List Fn}{O:List Nat}(h:EI p M R0 dn aQ D)(xP:O.Nodup)(OM:∀s∈O,s<M)(hk:∀t∈D,t.1<M)(IV:∀t∈D,t.1∈O→∀s,s<M→s≠t.1→t.2 s≠0→s∈O∧e9 D s=none)(hv:∀t∈D,t.1∈O→p∣dot t.2 v M) :
  Sp p (RS (rV p O D)) (atS v O):=by
 have comb:∀L:List Nat,L.Nodup→(∀f∈L,f∈O∧e9 D f=none)→∃W:Fn,Sp p (RS (rV p O D)) (atS W O)∧(∀t∈D,p∣dot t.2 W M)∧∀s,e9 D s=none→W s=if s∈L then v s else 0:=by
  intro L;induction L with
  |nil=>
   intro _ _;refine⟨λ_=>0,?_,λt _=>⟨0,?_⟩,λs _=>rfl⟩
   ·refine Sp.zero.of_eq λj=>?_;unfold atS fn;rw[cH,du];cases O[j]?<;>rfl
   ·show Sg _ M=_;rw[qk λi _=>by lia];lia
  |cons f L ih=>
   intro nd hL;obtain⟨nf,vB⟩:=sG.mp nd;obtain⟨W,w1,w2,w3⟩:=ih vB λx hx=>hL x (fK _ hx);obtain⟨fO,Qb⟩:=hL f cU;have hvf:=h.P8 p0 Qb (OM f fO) hk;refine⟨λs=>W s+v f*gn p D s f,?_,λt ht=>?_,λs hs=>?_⟩
   ·refine(Sp.add (v f) w1 ⟨O.map λs=>gn p D s f,cY.mpr ⟨f,g8.mpr ⟨fO,by simp[Qb]⟩,rfl⟩,rfl⟩).of_eq λj=>?_;unfold atS fn;rw[cH,cH,cH,du,du,du];cases O[j]? with
    |none=>show(0:Int)+v f*0=0;lia
    |some s=>rfl
   ·rw[Nl];exact nZ (w2 t ht) (kf (hvf t ht))
   ·show W s+v f*gn p D s f=if s∈f::L then v s else 0
    rw[w3 s hs];unfold gn;rw[hs];show(if s∈L then v s else 0)+v f*(if s=f then 1 else 0)=_
    by_cases e:s=f
    ·subst e;rw[ag nf,af rfl,af cU];lia
    ·by_cases e2:s∈L
     ·rw[af e2,ag e,af (fK _ e2)];lia
     ·rw[ag e2,ag e,ag λz=>(dX.mp z).elim e e2];lia
 obtain⟨W,w1,w2,w3⟩:=comb (O.filter λf=>(e9 D f).isNone) (xP.filter _) λf hf=>⟨(g8.mp hf).1,by simpa using(g8.mp hf).2⟩;have Qc:∀s∈O,e9 D s=none→W s=v s:=λs hs hn=>by rw[w3 s hn,af (g8.mpr ⟨hs,by simp[hn]⟩)]
 have abo:∀s∈O,p∣v s-W s:=λs hs=>by
  cases e:e9 D s with
  |none=>rw[Qc s hs e];exact⟨0,by lia⟩
  |some g=>
   obtain⟨t,ht,e1,_⟩:=xO e;have oV:p∣dot t.2 v M-dot t.2 W M:=jS (hv t ht (by rw[e1];exact hs)) (w2 t ht);have e2:dot t.2 v M-dot t.2 W M=v s-W s:=by
    have e3:dot t.2 v M-dot t.2 W M=dot t.2 (λj=>v j-W j) M:=by
     rw[xk t.2 (λj=>v j-W j),NZ t.2 v W M,xk v,xk W]
    rw[e3];have e4:dot t.2 (λj=>v j-W j) M=t.2 s*(v s-W s)+0:=by
     unfold dot;rw[Bw.vm (l:=s) (OM s hs)]
     congr 1
     refine qk λi hi=>?_;by_cases ei:i=s
     ·rw[af ei]
     ·rw[ag ei];by_cases ez:t.2 i=0
      ·rw[ez];lia
      ·obtain⟨q1,q2⟩:=IV t ht (by rw[e1];exact hs) i hi (by rw[e1];exact ei) ez;show t.2 i*(v i-W i)=0;rw[Qc i q1 q2,Int.sub_self,Int.mul_zero]
    have e5:t.2 s=1:=by rw[← e1];exact h.one t ht
    rw[e4,e5];lia
   rw[← e2];exact oV
 refine .dh w1 λj=>?_;have h3:p∣atS v O j-atS W O j:=by
  by_cases hj:j<O.length
  ·have gj:O[j]?=some O[j]:=cC hj;rw[vJ gj,vJ gj];exact abo _ (dI gj)
  ·have z:∀u:Fn,atS u O j=0:=λu=>by
    unfold atS fn;rw[cH,iR (by rw[bO];lia)];rfl
   rw[z,z];exact⟨0,by lia⟩
 exact Dr (mw h3 ⟨0,by lia⟩ (by lia:_=atS v O j-atS W O j+0))
theorem abp(pp:p∈dW)(hd:d.wf p)(hs:d.sm){aQ:List Fn}
  (h:EI p (aN d 0).2 (qG p (aN d 0).1) ((aN d 0).1.al.map Prod.fst++((aN d 0).1.cS++((aN d 0).1.l++(aN d 0).1.r).reverse)) aQ D):rV p ((aN d 0).1.l++(aN d 0).1.r) D=d.aQ p:=by
 obtain⟨p2,_⟩:=gN p pp;have p0:0<p:=by lia
 obtain⟨l1,l2⟩:=jn (d:=d) (N:=0) hd;have hto:=λ(v:Fn) hv=>abl (v:=v) pp hd hv;have Qd:=λ(x y:Fn) hv=>abm (x:=x) (y:=y) pp hd hv;have Ad:=Ab hd;have Qe:=λ(s:Nat) hv=>Qa (s:=s) hd hv;have cB:=λ(s:Nat)(hv:s∈(aN d 0).1.all)=>(nO hd hv).2;generalize (aN d 0).2=M at *;generalize (aN d 0).1=A at *;have Qf:A.all=A.l++A.r++A.cS++A.al.map Prod.fst:=rfl;generalize A.al.map Prod.fst=Z at *;have cD:(A.l++A.r).length=d.aO+d.aV:=by rw[bY,l1,l2]
 have esh:∀v:Fn,TR p d (atS v A.l) (λ_=>0) (atS v A.r) (λ_=>0)→Sp p (RS (d.aQ p)) (atS v (A.l++A.r)):=λv q=>by
  refine(P6 pp hd hs).mpr ⟨TR.dh (oU hd) (λj hj=>cQ (zY (by lia)).symm) (λj _=>cQ rfl) (λj hj=>cQ (congrFun (zZ (v:=v) (L':=A.r) l1) j).symm) (λj _=>cQ rfl) q,λs=>?_⟩;have z:atS v (A.l++A.r) (d.aO+d.aV+s)=0:=PF (n:=d.aO+d.aV) (by rw[bO,cD]) s;rw[z];exact⟨0,by lia⟩
 have abq:∀r∈d.aQ p,∃v:Fn,(∀f∈qG p A,p∣dot f v M)∧∀j,p∣fn r j-atS v (A.l++A.r) j:=λr hr=>by
  obtain⟨t,o⟩:=(P6 pp hd hs).mp (tP hr);obtain⟨v,h1,h2,h3⟩:=Qd _ _ t;refine⟨v,h1,λj=>?_⟩;by_cases j1:j<d.aO
  ·rw[zY (by lia)];exact h2 j j1
  by_cases j2:j<d.aO+d.aV
  ·have:=h3 (j-d.aO) (by lia)
   have e:=congrFun (zZ (v:=v) (L':=A.r) l1) (j-d.aO);unfold sh at this e;rw[← e,show d.aO+(j-d.aO)=j by lia]at this;exact this
  ·have:=o (j-(d.aO+d.aV))
   rw[show d.aO+d.aV+(j-(d.aO+d.aV))=j by lia]at this;have z:atS v (A.l++A.r) (d.aO+d.aV+(j-(d.aO+d.aV)))=0:=PF (n:=d.aO+d.aV) (by rw[bO,cD]) _;rw[show d.aO+d.aV+(j-(d.aO+d.aV))=j by lia]at z;rw[z];rwa[show fn r j-0=fn r j by lia]
 obtain⟨_,_,_,hRW⟩:=Drw.good pp hd hs;obtain⟨le,EE⟩:=Drw.qj pp ⟨hd,hs⟩;clear Qd;generalize A.l++A.r=O at *;have kr:∀s,s∈A.all↔(s∈O∨s∈A.cS)∨s∈Z:=λs=>by rw[Qf,dq,dq]
 rw[Qf]at Ad;obtain⟨HP,_,nd3⟩:=qR.mp Ad;obtain⟨xP,_,nd4⟩:=qR.mp HP;generalize A.cS=Hd at *;have dnM:∀s,s∈Z++(Hd++O.reverse)→s<M:=λs hs=>cB s ((kr s).mpr (by
  rcases(dq.mp hs)with(z|z)
  ·exact .inr z
  rcases(dq.mp z)with(z|z)
  ·exact .inl (.inr z)
  ·exact .inl (.inl (List.mem_reverse.mp z))))
 have abr:∀s,s<M→s∈Z++(Hd++O.reverse):=λs hs=>by
  rcases(kr s).mp (Qe s hs)with(z|z)|z
  ·exact eJ _ (eJ _ (List.mem_reverse.mpr z))
  ·exact eJ _ (e7 _ z)
  ·exact e7 _ z
 have hk:∀t∈D,t.1<M:=λt ht=>dnM _ (h.keys t ht);have abt:∀f∈aQ,∀v:Fn,p∣dot f v M:=λf hf v=>by
  have:dot f v M=0:=qk λi hi=>by rw[h.clear f hf i (abr i hi)];lia
  rw[this];exact⟨0,by lia⟩
 have abu:∀v:Fn,(∀t∈D,p∣dot t.2 v M)→∀f∈qG p A,p∣dot f v M:=λv hv=>(h.sat v).mp ⟨λf hf=>abt f hf v,hv⟩;have tw:∀t∈D,t.1∈O→(Z++(Hd++O.reverse)).takeWhile (λy=>decide (y≠t.1))=Z++(Hd++O.reverse.takeWhile (λy=>decide (y≠t.1))):=λt ht hO=>by
  rw[IU λz=>nd3 t.1 (e7 _ hO) t.1 z rfl,IU λz=>nd4 t.1 hO t.1 z rfl]
 have IV:∀t∈D,t.1∈O→∀s,s<M→s≠t.1→t.2 s≠0→s∈O∧e9 D s=none:=λt ht hO s hsM cL hz=>by
  refine⟨?_,?_⟩
  ·rcases(kr s).mp (Qe s hsM)with(z|z)|z
   ·exact z
   ·exact absurd (h.sup t ht s (by rw[tw t ht hO];exact eJ _ (e7 _ z))) hz
   ·exact absurd (h.sup t ht s (by rw[tw t ht hO];exact e7 _ z)) hz
  ·cases e:e9 D s with
   |none=>rfl
   |some g=>
    obtain⟨u,hu,e1,_⟩:=xO e;rcases h.uniq ht hu with rfl|z
    ·exact absurd e1.symm cL
    ·rw[e1]at z;exact absurd z hz
 have abv:∀t∈D,∀(i j s:Nat),O[j]?=some t.1→O[i]?=some s→j<i→t.2 s=0:=λt ht i j s ej ei hij=>by
  have hO:=dI ej;refine h.sup t ht s ?_;rw[tw t ht hO];refine eJ _ (eJ _ ?_);have jl:=(dH.mp ej).1;have eO:O=O.take j++t.1::O.drop (j+1):=by
   have:=List.take_append_drop j O
   rw[List.drop_eq_getElem_cons jl,(dH.mp ej).2]at this;exact this.symm
  have nY:t.1 ∉ (O.drop (j+1)).reverse:=λz=>by
   have z:=List.mem_reverse.mp z;rw[eO]at xP;exact(sG.mp (qR.mp xP).2.1).1 z
  have er:O.reverse=(O.drop (j+1)).reverse++(t.1::(O.take j).reverse):=by
   conv=>lhs;rw[eO]
   rw[List.reverse_append,Bm,hW];rfl
  rw[er,IU nY];refine e7 _ (List.mem_reverse.mpr ?_)
  have:(O.drop (j+1))[i-(j+1)]?=some s:=by rw[sJ,show j+1+(i-(j+1))=i by lia];exact ei
  exact dI this
 have OM:∀s∈O,s<M:=λs hs=>cB s ((kr s).mpr (.inl (.inl hs)));have eP:rV p O D=((List.range O.length).filter λi=>(e9 D (O.getD i 0)).isNone).map λi=>O.map λs=>gn p D s (O.getD i 0):=by
  unfold rV;have eo:O=(List.range O.length).map λi=>O.getD i 0:=by
   apply List.ext_getElem?;intro i;rw[du];by_cases hi:i<O.length
   ·rw[List.getElem?_range hi,cC hi];show _=some (O.getD i 0);rw[cH,cC hi];rfl
   ·rw[iR (by lia),iR (by rw[Bi];lia)];rfl
  have:(O.filter λf=>(e9 D f).isNone)=((List.range O.length).filter λi=>(e9 D (O.getD i 0)).isNone).map λi=>O.getD i 0:=by
   conv=>lhs;rw[eo]
   rw[List.filter_map];rfl
  rw[this,o6];rfl
 have IW:∀(f j s:Nat),O[j]?=some s→(O.map λs=>gn p D s f).getD j 0=gn p D s f:=λf j s e=>by rw[cH,du,e];rfl
 have hRP:cP p (d.aO+d.aV) (rV p O D):=λr hr=>by
  obtain⟨f,hf,rfl⟩:=cY.mp hr;refine⟨by rw[bO,cD],λx hx=>?_⟩;obtain⟨s,hs,rfl⟩:=cY.mp hx;unfold gn;split
  ·exact vK p0 _
  ·split<;>lia
 have vL:∀i,i<O.length→O[i]?=some (O.getD i 0):=λi hi=>by rw[cH,cC hi];rfl
 have Qg:∀i j,i<O.length→j<O.length→O.getD i 0=O.getD j 0→i=j:=λi j hi hj e=>(List.getElem?_inj hi xP).mp (by rw[vL i hi,vL j hj,e]);have EP:ja (d.aO+d.aV) (d.aO+d.aV) (rV p O D) ((List.range O.length).filter λi=>(e9 D (O.getD i 0)).isNone):=by
  rw[eP];refine⟨by rw[bO],List.pairwise_lt_range.filter _,λl hl=>?_,λi r l hr hl=>?_,λi i' r l cL hr hl=>?_⟩
  ·have:=mU.mp (g8.mp hl).1
   lia
  ·rw[du,hl]at hr;cases hr;have hm:=g8.mp (dI hl);have qH:=mU.mp hm.1;have qY:e9 D (O.getD l 0)=none:=by simpa using hm.2
   refine⟨?_,λj hj=>?_⟩
   ·rw[IW _ l _ (vL l qH)];unfold gn;rw[qY];exact af rfl
   ·have IX:j<O.length:=by lia
    rw[IW _ j _ (vL j IX)];unfold gn;cases e:e9 D (O.getD j 0) with
    |none=>
     show(if O.getD j 0=O.getD l 0 then(1:Int)else 0)=0
     rw[ag λz=>by have:=Qg j l IX qH z;lia]
    |some g=>
     obtain⟨u,hu,e1,e2⟩:=xO e
     have:=abv u hu l j (O.getD l 0) (by rw[e1];exact vL j IX) (vL l qH) hj
     show(-(g (O.getD l 0)))%p=0;rw[← e2,this];simp
  ·have hm:=g8.mp (dI hl);have qH:=mU.mp hm.1;have qY:e9 D (O.getD l 0)=none:=by simpa using hm.2
   rw[du]at hr;cases e':((List.range O.length).filter λi=>(e9 D (O.getD i 0)).isNone)[i']? with
   |none=>rw[e']at hr;cases hr
   |some l'=>
    rw[e']at hr;cases hr;have hm':=g8.mp (dI e');have abw:=mU.mp hm'.1;rw[IW _ l _ (vL l qH)];unfold gn;rw[qY];show(if O.getD l 0=O.getD l' 0 then(1:Int)else 0)=0
    rw[ag λz=>by
     have DM:=Qg l l' qH abw z;subst DM;have ndf:((List.range O.length).filter λi=>(e9 D (O.getD i 0)).isNone).Nodup:=List.nodup_range.filter _;exact cL ((List.getElem?_inj (dH.mp hl).1 ndf).mp (by rw[hl,e']))]
 refine EP.unique pp EE hRP hRW (λr hr=>?_) λr hr=>?_
 ·obtain⟨f,hf,rfl⟩:=cY.mp hr;have hm:=g8.mp hf;have qY:e9 D f=none:=by simpa using hm.2
  have hv:=h.P8 p0 qY (OM f hm.1) hk;exact esh _ (hto _ (abu _ hv))
 ·obtain⟨v,h1,h2⟩:=abq r hr;have hv:=((h.sat v).mpr h1).2;refine .dh (abn p0 h xP OM hk IV λt ht _=>hv t ht) λj=>?_;exact Dr (h2 j)
end
end S21
namespace L2
open PySem PySem.Spec PyProof.Rows
section
variable{prog:Program}{w:World}{κ:Type} [DecidableEq κ] {kd:KeyKind prog w κ}
variable{s:Shared}{A:Around}{E:QV}
end
end L2
namespace L2
open PySem PySem.Spec PyProof.Rows PySem.W
variable{H:Hp}{Q:Option Value→Shared→Prop}{d:Addr}{ep:Nat}{es:Array DictEntry}{xs:Array Value}
section
variable{w:World}{prog:Program}
def nP(h:Heap)(d:Addr)(es:Array DictEntry)(ep:Nat):Prop:=∃ob,h.get? d=some ob∧ob.ExactDict∧ob.data=.dict es ep
theorem nP.typeIs{s:Shared}(x:nP s.heap d es ep):s.TypeIs (.ref d) "dict":=let ⟨ob,e,c,_⟩:=x;⟨ob,e,c.1⟩
theorem nP.up{h h':Heap}(x:nP h d es ep)(k:∀o,h.get? d=some o→h'.get? d=some o):nP h' d es ep:=let ⟨ob,e,r⟩:=x;⟨ob,k _ e,r⟩
theorem nP.lt{h:Heap}(x:nP h d es ep):d<h.objs.size:=let ⟨_,e,_⟩:=x;dB e
variable{A:Around}{E:QV}{s:Shared}{it d:Addr}{es:Array DictEntry}{i ep:Nat}
theorem Qh{Q:QV}(lo:(d==sysModules)=false)(hm:nP s.heap d es ep)
  (q:Q (.ref s.heap.objs.size) { s with heap:=s.heap.push { cls:=.type "dict_keyiterator",data:=.fields #[.ref d,.int 0 0,.int es.size 0,.int ep 0] } }):wpAny (model prog w) A (pyIter (.ref d)) Q E s:=by
 have ty:=hm.typeIs;obtain⟨ob,e,c,ed⟩:=hm;refine wpAny_pyIter_slot ty PySem.F.slot_dict_iter (az PySem.F.slot_dict_iter ty PySem.F.entry_dict_iter ?_ (PySem.F.args_dict_iter_1 _));unfold Builtin.«dict.__iter__» Builtin.Dict.dictSlotNone;refine ak ?_;refine ak (wpAny_notOrdered_dict ty ?_);refine(aq (a:=Value.ref d) ?_);show wpAny _ _ ((Builtin.Dict.showsAll d) >>= _) _ _ s;unfold Builtin.Dict.showsAll;rw[ag (by rw[lo];decide)];refine ak (aq ?_);refine ak (wpAny_dictEntries e ed ?_);refine ak (wpAny_dictEpoch e ed ?_);refine ak (aA (aq ⟨_,rfl,"dict_keyiterator",_,⟨_,gJ _ rfl,rfl⟩,(EY).lookup,?_⟩));simpa[rawInt]using q
theorem Qi(pI:s.heap.IsKeyIter it d i es.size ep)(hm:nP s.heap d es ep)(cB:i<es.size)
  (q:∀h',h'.IsKeyIter it d (i+1) es.size ep→Heap.SameBut it s.heap h'→Q (some es[i].key) { s with heap:=h' }):wpAny (model prog w) A (pyNext (.ref it)) Q E s:=by
 have ty:=pI.typeIs;obtain⟨oi,ei,ci,di⟩:=id pI;obtain⟨ob,e,c,ed⟩:=id hm;unfold pyNext;refine ak (wpAny_attempt (ay (name:=Str.ofString "__next__") ty EY (az EY ty PySem.F.entry_dict_keyiterator_next ?_ (PySem.F.args_dict_keyiterator_next_1 _))));refine ak (aq ?_);refine ak ?_;refine ak ?_;first
  |refine ak (aJ ty (aq ?_))
  |refine ak (aK ty (aq ?_))
 refine ak (wpAny_fieldsOf ei di ?_);have own:Builtin.Dict_items.ownsTuple "dict_keyiterator"=false:=by decide
 simp only[own,if_false,Bool.false_eq_true];show wpAny _ _ (if(Value.ref d == .none)=true then _ else _) _ _ s
 rw[ag (show ¬(Value.ref d == .none)=true from i4)]
 refine ak (aq ?_);refine ak (wpAny_dictEntries e ed ?_);rw[ag (by simp)];refine ak (aq ?_);refine ak (wpAny_dictEpoch e ed ?_);rw[ag (by simp)];refine aq ?_;simp only[show ¬((i:Int)<0) from(by lia),if_false,Int.toNat_natCast,Array.getElem?_eq_getElem cB]
 refine ak ?_;first
  |refine ak (aJ ty (aq ?_))
  |refine ak (aK ty (aq ?_))
 refine ak (wpAny_isOneOf_keyiter ty ?_);show wpAny _ _ ((setField (.ref it) 1 (rawInt ((i:Int)+1))) >>= _) _ _ s;refine ak (wpAny_setField ei di (by simp) ?_);have DN:(s.heap.update it (Obj.mapFields (·.setIfInBounds 1 (rawInt ((i:Int)+1))))).IsKeyIter it d (i+1) es.size ep:=
  ⟨_,uF _ ei (Obj.isFreed_of_fields (Obj.data_mapFields di _)),((Obj.cls_mapFields ..).trans ci),(by rw[Obj.data_mapFields di];simp[rawInt])⟩
 refine ak (ao (ak ?_));refine(wpAny_isOneOf_keyiter (s:=({ s with heap:=s.heap.update it (Obj.mapFields (·.setIfInBounds 1 (rawInt ((i:Int)+1)))) }:Shared)) DN.typeIs ?_);show wpAny _ _ (pure es[i].key) _ _ (_:Shared);exact aq (aq ⟨_,rfl,aq (q _ DN (nW ..))⟩)
theorem Qj(hh:A.handled=none)(pI:s.heap.IsKeyIter it d i es.size ep)(hm:nP s.heap d es ep)(xf:es.size≤i)
  (q:∀h',Heap.ExtBut it s.heap h'→Q none { s with heap:=h' }):wpAny (model prog w) A (pyNext (.ref it)) Q E s:=by
 have ty:=pI.typeIs;obtain⟨oi,ei,ci,di⟩:=id pI;obtain⟨ob,e,c,ed⟩:=id hm;unfold pyNext;refine ak (wpAny_attempt (ay (name:=Str.ofString "__next__") ty EY (az EY ty PySem.F.entry_dict_keyiterator_next ?_ (PySem.F.args_dict_keyiterator_next_1 _))));refine ak (aq ?_);refine ak ?_;refine ak ?_;first
  |refine ak (aJ ty (aq ?_))
  |refine ak (aK ty (aq ?_))
 refine ak (wpAny_fieldsOf ei di ?_);have own:Builtin.Dict_items.ownsTuple "dict_keyiterator"=false:=by decide
 simp only[own,if_false,Bool.false_eq_true];show wpAny _ _ (if(Value.ref d == .none)=true then _ else _) _ _ s
 rw[ag (show ¬(Value.ref d == .none)=true from i4)]
 refine ak (aq ?_);refine ak (wpAny_dictEntries e ed ?_);rw[ag (by simp)];refine ak (aq ?_);refine ak (wpAny_dictEpoch e ed ?_);rw[ag (by simp)];refine aq ?_;simp only[show ¬((i:Int)<0) from(by lia),if_false,Int.toNat_natCast,Array.getElem?_eq_none xf]
 refine ak ?_;first
  |refine ak (aJ ty (aq ?_))
  |refine ak (aK ty (aq ?_))
 show wpAny _ _ ((setField (.ref it) 0 .none) >>= _) _ _ s;refine ak (wpAny_setField ei di (by simp) ?_);show wpAny _ _ ((newExc (.type "StopIteration") []) >>= _) _ _ (_:Shared);refine ak ?_;simp only[newExc,newTuple];refine ak (aA (hd:=by size_fits) ?_);refine ak (m:=firstArgMember _ _) (wpAny_of_eq (a:=Value.none) (by first|rfl|(simp only[firstArgMember]<;>rfl)) ?_)
 refine aA (hd:=by size_fits) ?_;simp only[raiseNew];refine ak (wpAny_handled (?_:_));rw[show(A.in1).handled=none from hh]
 refine ak (aq (wpAny_throw (ak ?_)));refine(wpAny_isInstance (T := "StopIteration") (b:=true) (⟨_,gJ _ rfl,rfl⟩) isSubtype_stop ?_);exact aq (q _ ((nW ..).extBut.push _ |>.push _))
theorem abx(hh:A.handled=none)(I d:Addr)(cL:d≠I)(es:Array DictEntry)(ep:Nat) :
  Walks prog w A I [I,d] [I] es.size (λi v=>∃e,es[i]?=some e∧v=e.key) (λi h=>h.IsKeyIter I d i es.size ep∧nP h d es ep) where
 sub:=λb hb=>by rw[cJ.mp hb];exact cU
 frame:=λ_ _ _ st hk=>⟨st.1.at (λo e=>hk I (by simp) o e),st.2.up (λo e=>hk d (by simp) o e)⟩
 item:=λi s Q E hi st hQ=>by
  refine Qi st.1 st.2 hi λh' DN sb=>?_;exact hQ _ h' s.toks ⟨_,Array.getElem?_eq_getElem hi,rfl⟩ ⟨DN,st.2.up λo e=>(sb.2 d cL).trans e⟩ λb o hb e=>sb.extBut b o (λz=>hb (by simp[z])) e
 done:=λs Q E st hQ=>(Qj hh st.1 st.2 (ck _)) λh' he'=>hQ h' s.toks λb o hb e=>he' b o (λz=>hb (by simp[z])) e
 self:=λ_ _ _ _ st hQ=>(wpAny_pyIter_keyiter st.1 hQ)
theorem aby(lo:(d==sysModules)=false):KdlSrc prog w "dict" d d es.size (λi v=>∃e,es[i]?=some e∧v=e.key) (λh=>nP h d es ep) where
 type:=λ_ hm=>hm.typeIs
 there:=λ_ hm=>⟨hm.lt,hm.lt⟩
 keep:=λ_ _ hm hk=>hm.up λo e=>hk d (.inl rfl) o e
 notList:=by decide
 notTuple:=by decide
 hint:=λ_ _ _ _ hm hq=>kdl_hint_dict hm.typeIs hq
 iter:=λ_ _ hh hm=>⟨_,_,(λ_ _ hq=>Qh lo hm hq),abx hh _ d (fu hm.lt) es ep,⟨⟨_,gJ _ rfl,rfl,rfl⟩,hm.up λo e=>dj _ e⟩⟩
end
section
variable{X:Cx}{aL:List (Addr×Obj)}{σ:St}{H:Hp}{s:Shared}{a:Addr}{aM:List (Key×V)}
theorem Inv.freeze(I:Inv X aL σ H s)(e:H a=some (.dK aM)):∃o,s.heap.get? a=some o∧Inv X aL σ (upd H a (.dC o (.dK aM))) s:=by
 have ok:=I.bz a _ e;obtain⟨z,y,vs,r,o,es,ep,g,c⟩:=id ok;exact⟨o,g,I.write (x:=a) (e:=a) (h':=s.heap) (t':=s.toks) (by rw[e];exact True.intro) (.inl rfl) (λ_ _ _ q=>q) ⟨o,g⟩ ⟨g,z,y,vs,r,o,es,ep,g,c⟩⟩
theorem Inv.Qk{o:Obj}(I:Inv X aL σ H s)(e:H a=some (.dC o (.dK aM)))(n:∀o u,X.H₀ a≠some (.dC o u)):Inv X aL σ (upd H a (.dK aM)) s:=by
 have ne:∀b u,H b=some u→(∀o u',u≠.dC o u')→b≠a:=λb u q hn z=>by
  rw[z,e]at q;exact hn _ _ (dZ q).symm
 have nn:∀b,H b=none→b≠a:=λb q z=>by rw[z,e]at q;cases q
 refine⟨I.ok,I.os,I.bare,⟨I.base.keep,I.base.slot,λb ob q hb hx=>?_,I.base.there,λb xs q=>?_,λb ob u q=>?_,λb ps q=>?_⟩,I.loc,I.cell,?_,λx c q=>?_,λp hp=>?_,λb u q=>?_,I.len⟩
 ·have h:=I.base.free b ob q hb hx;rw[bU (nn b h)];exact h
 ·have h:=I.base.p6 b xs q;rw[bU (ne b _ h λ_ _ z=>nomatch z)];exact h
 ·have h:=I.base.oh b ob u q;have hb:b≠a:=λz=>n ob u (z▸q);rw[bU hb];exact h
 ·obtain⟨ig,h⟩:=I.base.o7 b ps q;exact⟨ig,by rw[bU (ne b _ h λ_ _ z=>nomatch z)];exact h⟩
 ·rw[bU (nn _ I.free)];exact I.free
 ·rw[bU (nn _ (I.ng x c q))];exact I.ng x c q
 ·obtain⟨h1,h2,h3⟩:=I.pin p hp;exact⟨h1,by rw[bU (nn _ h2)];exact h2,h3⟩
 ·by_cases hb:b=a
  ·subst hb;rw[bg]at q;cases q
   have:=(I.bz b _ e).2
   exact this
  ·rw[bU hb]at q;refine(I.bz b u q).pZ (λ_ _ _ r=>r) (λc r=>?_) λc xs r=>?_
   ·rw[bU (ne c _ r λ_ _ z=>nomatch z)];exact r
   ·rw[bU (ne c _ r λ_ _ z=>nomatch z)];exact r
theorem Ql{P:Program}{w:World}{k:Key}{u:Value}(h:(iC P w).is k u=true):RelV (kV k) u:=by
 rcases pX h with⟨i,t,rfl,rfl⟩|⟨x,t,rfl,rfl⟩
 ·exact⟨t,rfl⟩
 ·exact⟨t,rfl⟩
theorem pairs_at{P:Program}{w:World}{es:List DictEntry}{vs:List (Key×Value)}(h:Pairs (iC P w) es vs):∀{i:Nat}{e:DictEntry},es[i]?=some e→∃kv,vs[i]?=some kv∧(iC P w).is kv.1 e.key=true:=by
 induction h with
 |nil=>intro i e z;cases z
 |cons h1 _ _ ih=>
  intro i e z;cases i with
  |zero=>cases z;exact⟨_,rfl,h1⟩
  |succ i=>exact ih z
noncomputable def vM(o:Obj)(a:Addr)(aM:List (Key×V)):It:=
 ⟨λi H=>H a=some (.dC o (.dK aM))∧i<aM.length,λi H x H'=>H'=H∧∃kv,aM[i]?=some kv∧x=kV kv.1,λi H=>H a=some (.dC o (.dK aM))∧aM.length≤i⟩
theorem Qm{o:Obj}(I:Inv X aL σ H s)(e:H a=some (.dC o (.dK aM)))(ho:o.data=.dict es ep):nP s.heap a es ep∧es.size=aM.length∧∀(i:Nat)(h:i<es.size),∃kv,aM[i]?=some kv∧RelV (kV kv.1) es[i].key:=by
 obtain⟨g,z,y,vs,r,o',es',Bv,g',c,d,_,hp,_⟩:=I.bz a _ e;rw[g]at g';cases g';rw[ho]at d;cases d;have hl:es.size=aM.length:=by rw[← yh,hp.length,← r.length]
 refine⟨⟨o,g,c,ho⟩,hl,λi h=>?_⟩;obtain⟨kv',h1,h2⟩:=pairs_at hp (i:=i) (e:=es[i]) (by rw[Array.getElem?_toList,Array.getElem?_eq_getElem h]);have hk:=r.keys;have hi:i<aM.length:=by rw[← hl];exact h
 refine⟨aM[i],cC hi,?_⟩;have e2:(aM.map (·.1))[i]?=(vs.map (·.1))[i]?:=by rw[hk]
 rw[du,du,cC hi,h1]at e2;have e3:aM[i].1=kv'.1:=dZ e2;rw[e3];exact Ql h2
theorem abz{P:Program}{w:World}{K:Frag}{tg:Expr}(o:Obj)(es:Array DictEntry)(ep:Nat)(ho:o.data=.dict es ep)(a it:Addr)(aM:List (Key×V))(cL:a≠it):Turn P w K tg (vM o a aM) [it] it (λi h=>h.IsKeyIter it a i es.size ep) where
 mem:=by simp
 obj:=λi h st b hb=>by
  have e:b=it:=by simpa using hb
  subst e;obtain⟨o,e,c,d⟩:=st;exact⟨o,e,λv z=>by rw[d]at z;cases z⟩
 keep:=λi h h' st k=>st.at λo e=>k it (by simp) o e
 item:=by
  intro X hP hw hK hc i aL s σ H E I hf st hg;subst hP hw hK;obtain⟨hg,hi⟩:=hg;obtain⟨raw,hl,hk⟩:=Qm I hg ho;have jL:i<es.size:=by rw[hl];exact hi
  obtain⟨kv,h1,h2⟩:=hk i jL;obtain⟨f0,f1,f2,f3,f4,f5⟩:=hf it (by simp);refine Qi st raw jL λh' l7 sb=>?_;have I1:Inv X aL σ H { s with heap:=h' }:=I.turned (t':=s.toks) (λb o hb e=>(sb.2 b hb).trans e) f0 f1 f3 f4 f5;obtain⟨o',e,c,d⟩:=id l7;exact⟨_,rfl,yD (s:={ s with heap:=h' }) e c d (by decide) ⟨kV kv.1,H,I1,h2,⟨rfl,kv,h1,rfl⟩,l7,λb hb=>(hf b hb).1⟩⟩
 done:=by
  intro X hP hw hK hc i aL s σ H E I hf st hg;subst hP hw hK;obtain⟨hg,hi⟩:=hg;obtain⟨raw,hl,hk⟩:=Qm I hg ho;obtain⟨f0,f1,f2,f3,f4,f5⟩:=hf it (by simp);exact Qj (I.ok.hd hc) st raw (by rw[hl];exact hi) λh' eb=>⟨rfl,I.turned (t':=s.toks) (λb o hb e=>eb b o hb e) f0 f1 f3 f4 f5⟩
 self:=λ_ _ _ _ _ st h=>wpAny_pyIter_keyiter st h
def Qn(td:TE):TI:=λσ H R=>td σ H λx H1=>∃a aM,x=.ref a∧H1 a=some (.dK aM)∧∀o,R (vM o a aM) (upd H1 a (.dC o (.dK aM)))
theorem xQ{tg l:Expr}{tl:TE}(hl:PE X l tl):PI X tg l (Qn tl):=by
 intro aL s σ H R I h;refine bh (hl aL s σ H _ I h) λv s1 ⟨x,H1,I1,r1,q1⟩=>?_;obtain⟨a,aM,e,hq,q⟩:=q1;subst e;cases r1;obtain⟨o,g,I2⟩:=I1.freeze hq;obtain⟨z,lo,vs,r,o',es,ep,g',c,d,_⟩:=I1.bz a _ hq;rw[g]at g';cases g';have cL:a≠s1.heap.objs.size:=fu (dB g);refine Qh lo ⟨o,g,c,d⟩ ?_;refine⟨s1.heap.objs.size,[s1.heap.objs.size],_,_,_,rfl,I2.kept (t':=s1.toks) λb o e=>dj _ e,abz o es ep d a _ aM cL,⟨_,gJ _ rfl,rfl,rfl⟩,λb hb=>?_,q o⟩;have e:b=s1.heap.objs.size:=by simpa using hb
 subst e;exact I2.l6 (ck _) (I2.bz.fresh (ck _))
end
theorem abA:typeLookup (.type "list") "keys"=pure none:=by rw[typeLookup_type,builtinLookup_eq_fast];kernel_rfl
section
variable{prog:Program}{w:World}{A:Around}{E:QV}{s:Shared}
theorem abB{a:Addr}{k:Nat}(hx:s.heap.get? a=some { cls:=.type "list",data:=.seq xs k })(hA:A.handled=none)
  (h:∀h' tk,(∀b o,s.heap.get? b=some o→h'.get? b=some o)→Q none { s with heap:=h',toks:=tk }):wpAny (model prog w) A (getAttr? (.ref a) "keys") Q E s:=by
 obtain⟨hp,g,d,tk,os⟩:=s;have ty:∀z,(⟨hp,g,d,z,os⟩:Shared).TypeIs (.ref a) "list":=λ_=>⟨_,hx,rfl⟩;have e1:=sub_AttributeError;have e2:=F.slot_list_getattribute.lookup;have e3:=F.slot_list_getattribute.bind (.ref a);have e4:=am_list_getattr_none;unfold getAttr? getAttrBy? getAttrBy;repeat(any_goals (first|assumption|exact ty _|((with_reducible show wpAny _ _ (call (Value.builtin "list.__getattribute__") _ _) _ _ _);refine call_meets F.slot_list_getattribute (ty _) am_entry_list_getattribute (F.args_list_getattribute_2 _ _) (meets_getattribute_miss_list a xs k #[] "keys" _ abA (by decide +kernel) (by decide +kernel)) ⟨hx,hA,λh' z e hn=>?_⟩)|wp_step))
 obtain⟨t1,t2,he⟩:=hn.there;show wpAny _ _ (getattributeRaised _ _ _ _ _ _ _) _ _ _;unfold getattributeRaised;repeat(any_goals (first|assumption|wp_step))
 exact h _ _ hn.keeps
theorem Qo:entryFor table "dict.update.loop"=some Builtin.«dict.update.loop»:=entryFor_of_tree (by kernel_rfl)
theorem DO:plainId "dict.update.loop"=true:=by decide +kernel
variable{κ:Type} [DecidableEq κ] {knd:KeyKind prog w κ}
def DP(knd:KeyKind prog w κ)(h:Heap)(u:Value)(kv:κ×Value):Prop:=∃t key o n,u=.ref t∧h.get? t=some o∧o.cls=.type "tuple"∧o.data=.seq #[key,kv.2] n∧knd.is kv.1 key=true
theorem abC{l I:Addr}{nn:Nat}{ps:List (κ×Value)}{R:Result→Shared→Prop}(hh:A.handled=none)(cD:xs.size=ps.length)(IY:d≠I)(vG:d≠l)(hlI:l≠I) :
  ∀(k i:Nat)(s:Shared)(aM:List (κ×Value)),ps.length-i=k→i≤ps.length→s.heap.IsListIter I l i→s.heap.get? l=some { cls:=.type "list",data:=.seq xs nn }→
   (∀(j:Nat)(u:Value)(kv:κ×Value),xs[j]?=some u→ps[j]?=some kv→DP knd s.heap u kv)→s.heap.DictOf knd d aM→aM.length+(ps.length-i)≤sizeLine→
   (∀h' tk,(∀b o,b≠d→b≠I→s.heap.get? b=some o→h'.get? b=some o)→h'.DictOf knd d (merged aM (ps.drop i))→R (.ok (.ret .none)) { s with heap:=h',toks:=tk })→
   codeAny (model prog w) A (.builtin "dict.update.loop" ⟨[.ref d,.ref I,rawInt (i:Int),.none],[]⟩) R s:=by
 have IZ:A.in1.handled=none:=by simp[hh]
 intro k;induction k with
 |zero=>
  intro i s aM hk hi pI hl hp hd hz hR;have e:i=ps.length:=by lia
  subst e;refine codeAny_builtin Qo ?_;rw[Around.under_plainId DO _];show wpAny _ A.in1 (pyNext (.ref I) >>= _) _ _ s;refine ak (wpAny_pyNext_list_end IZ pI ⟨_,hl,rfl,nn,rfl⟩ (by rw[Array.getElem?_eq_none (by rw[cD];exact ck _)]) λh' eb=>?_);show wpAny _ A.in1 (Builtin.Dict.addKeywords d [] >>= _) _ _ _;refine ak (aq ?_);refine aq (hR h' s.toks (λb o _ hb e=>eb b o hb e) ?_);rw[List.drop_length];exact hd.extBut eb IY
 |succ k ih=>
  intro i s aM hk hi pI hl hp hd hz hR;have cB:i<ps.length:=by lia
  have hx:xs[i]?=some (xs[i]'(by rw[cD];exact cB)):=Array.getElem?_eq_getElem _;have hq:ps[i]?=some ps[i]:=cC cB;obtain⟨t,key,o,n,eu,ht,hc,abD,his⟩:=hp i _ _ hx hq;rw[eu]at hx;refine codeAny_builtin Qo ?_;rw[Around.under_plainId DO _];show wpAny _ A.in1 (pyNext (.ref I) >>= _) _ _ s;refine ak (wpAny_pyNext_list_item pI ⟨_,hl,rfl,nn,rfl⟩ hx λh1 abE Ja=>?_);have htI:t≠I:=λz=>by
   obtain⟨oi,gi,ci,_⟩:=pI;rw[z,gi]at ht;cases ht;rw[ci]at hc;exact absurd hc (by decide)
  have zI:t≠d:=λz=>by
   obtain⟨od,es,ep,gd,cd,_⟩:=hd;rw[z,gd]at ht;cases ht;rw[cd.1]at hc;exact absurd hc (by decide)
  have iQ:h1.get? t=some o:=(Ja.2 t htI).trans ht;refine ak (ao (ak (wpAny_tryCatch ?_)));unfold Builtin.Dict.pairItems;refine ak (wpAny_typeOf (s:={ s with heap:=h1 }) (T := "tuple") ⟨o,iQ,hc⟩ ?_);rw[af (by decide)];refine ak (wpAny_seqItems (s:={ s with heap:=h1 }) iQ abD (aq ?_));show wpAny _ _ (holding [key,ps[i].2] (dictSet d key ps[i].2)) _ _ _;have oV:h1.DictOf knd d aM:=hd.sameBut Ja IY;refine ao (wpAny_dictSet_pairs (s:={ s with heap:=h1 }) (hsz:=by lia) his oV λh2 jh Qp=>?_);have kp:∀b o,b≠d→b≠I→s.heap.get? b=some o→h2.get? b=some o:=λb o j7 nL e=>(Qp.2 b j7).trans ((Ja.2 b nL).trans e);refine aq ⟨plainId_quiet DO _,?_⟩;have nu:(stored aM ps[i].1 ps[i].2).length≤aM.length+1:=by
   unfold stored;split
   ·rw[bO];lia
   ·rw[bY];exact ck _
  refine ih (i+1) { s with heap:=h2,toks:=s.toks+1 } (stored aM ps[i].1 ps[i].2) (by lia) cB (abE.at λo e=>(Qp.2 I IY.symm).trans e) (kp l _ vG.symm hlI hl) (λj u kv j7 nL=>?_) jh (by lia) λh' tk k' jT=>?_
  ·obtain⟨t',abF,o',n',e1,e2,e3,e4,e5⟩:=hp j u kv j7 nL;refine⟨t',abF,o',n',e1,kp t' o' (λz=>?_) (λz=>?_) e2,e3,e4,e5⟩
   ·obtain⟨od,es,ep,gd,cd,_⟩:=hd;rw[z,gd]at e2;cases e2;rw[cd.1]at e3;exact absurd e3 (by decide)
   ·obtain⟨oi,gi,ci,_⟩:=pI;rw[z,gi]at e2;cases e2;rw[ci]at e3;exact absurd e3 (by decide)
  ·refine hR h' tk (λb o j7 nL e=>k' b o j7 nL (kp b o j7 nL e)) ?_;rw[List.drop_eq_getElem_cons cB];exact jT
end
section
variable{prog:Program}{w:World}{A:Around}{E:QV}{s:Shared}
variable{κ:Type} [DecidableEq κ] {knd:KeyKind prog w κ}
theorem abG{l:Addr}{nn:Nat}{ps:List (κ×Value)}{Q:QV}(hh:A.handled=none)(cD:xs.size=ps.length)(hl:s.heap.get? l=some { cls:=.type "list",data:=.seq xs nn })
  (hp:∀(j:Nat)(u:Value)(kv:κ×Value),xs[j]?=some u→ps[j]?=some kv→DP knd s.heap u kv) (hz:ps.length≤sizeLine)
  (h:∀h' tk,(∀b o,s.heap.get? b=some o→h'.get? b=some o)→h'.DictOf knd s.heap.objs.size (merged [] ps)→Q (.ref s.heap.objs.size) { s with heap:=h',toks:=tk }) :
  wpAny (model prog w) A (call (.type "dict") [.ref l]) Q E s:=by
 refine callType_codes (Q₁:=λobj s₁=>obj=.ref s.heap.objs.size∧s₁={ s with heap:=s.heap.push { cls:=.type "dict",data:=.dict #[] } }) F.kt_called_dict (F.kt_typeCall_dict_1 _) F.entry_dict_init (kt_code_dict_new _ ⟨rfl,rfl⟩) ?_;rintro obj s₁ ⟨rfl,rfl⟩;have DQ:(s.heap.push { cls:=.type "dict",data:=.dict #[] }).DictOf knd s.heap.objs.size []:=Heap.DictOf.new s.heap;refine⟨DQ.typeIs,F.args_dict_init_2 _ _,?_⟩;have vN:(s.heap.push { cls:=.type "dict",data:=.dict #[] }).get? l=some { cls:=.type "list",data:=.seq xs nn }:=dj _ hl;have cB:l<s.heap.objs.size:=dB hl;have k1:∀b o,s.heap.get? b=some o→(s.heap.push { cls:=.type "dict",data:=.dict #[] }).get? b=some o:=λb o e=>dj _ e;have big:s.heap.objs.size<(s.heap.push { cls:=.type "dict",data:=.dict #[] }).objs.size:=by rw[lX];exact Nat.lt_succ_self _
 generalize s.heap.push { cls:=.type "dict",data:=.dict #[] }=g1 at DQ vN k1 big ⊢;unfold Builtin.«dict.__init__»;refine ak ?_;unfold Builtin.Dict.selfAndRest;refine ak (wpAny_notOrdered_dict (s:={ s with heap:=g1 }) DQ.typeIs ?_);show wpAny _ _ (pure (s.heap.objs.size,[Value.ref l])) _ _ _;refine aq ?_;show wpAny _ _ (Builtin.Dict.updateFrom "dict.__init__" s.heap.objs.size (.ref l) [] .none) _ _ _;unfold Builtin.Dict.updateFrom;refine ak (wpAny_typeOf (s:={ s with heap:=g1 }) (T := "list") ⟨_,vN,rfl⟩ ?_);rw[af (by decide)];have Jb:A.in1.in1.handled=none:=by simp[hh]
 refine ak (abB (s:={ s with heap:=g1 }) vN Jb λg2 tk k2=>?_);have jh:g2.DictOf knd s.heap.objs.size []:=by
  obtain⟨o,es,ep,e,r⟩:=DQ;exact⟨o,es,ep,k2 _ _ e,r⟩
 have nu:=k2 _ _ vN;have Qq:s.heap.objs.size<g2.objs.size:=by
  obtain⟨o,es,ep,e,_⟩:=jh;exact dB e
 have ltl:l<g2.objs.size:=dB nu;rw[af (by rfl)];refine ak (wpAny_rule ?_);refine ak (wpAny_pyIter_list (s:={ s with heap:=g2,toks:=tk }) (items:=xs) ⟨_,nu,rfl,nn,rfl⟩ ?_);refine aq ⟨plainId_quiet DO _,?_⟩;refine abC (knd:=knd) (ps:=ps) (nn:=nn) (xs:=xs) (l:=l) (by simp[hh]) cD (fu Qq) (Nat.ne_of_gt cB) (fu ltl) ps.length 0 _ [] (by lia) (jf _) ⟨_,gJ _ rfl,rfl,rfl⟩ (dj _ nu) (λj u kv e1 e2=>?_) ?_ (by simpa using hz) λh' tk' k3 Ae=>?_
 ·obtain⟨t,key,o,n,a1,a2,a3⟩:=hp j u kv e1 e2;exact⟨t,key,o,n,a1,dj _ (k2 _ _ (k1 _ _ a2)),a3⟩
 ·obtain⟨o,es,ep,e,r⟩:=jh;exact⟨o,es,ep,dj _ e,r⟩
 ·refine⟨rfl,h h' tk' (λb o e=>?_) Ae⟩;have hb:b<s.heap.objs.size:=dB e;exact k3 b o (fu hb) (fu (Nat.lt_trans hb Qq)) (dj _ (k2 _ _ (k1 _ _ e)))
end
section
variable{X:Cx}{K:Frag}
def lT(K:Frag)(H:Hp)(zs:List V)(aM:List (Key×V)):Prop:=zs.length=aM.length∧∀(i:Nat)(x:V)(kv:Key×V),zs[i]?=some x→aM[i]?=some kv→∃t,x=.ref t∧bj K H t [kV kv.1,kv.2]
theorem lT.mono{H':Hp}{zs:List V}{aM:List (Key×V)}(h:lT K H zs aM)(s:aU H H'):lT K H' zs aM:=⟨h.1,λi x kv e1 e2=>let ⟨t,e,g⟩:=h.2 i x kv e1 e2;⟨t,e,s.bt g⟩⟩
theorem lT.nil:lT K H [] []:=⟨rfl,λi x kv e=>by cases e⟩
theorem lT.snoc{zs:List V}{aM:List (Key×V)}{t:Addr}{kv:Key×V}(h:lT K H zs aM)(g:bj K H t [kV kv.1,kv.2]):lT K H (zs++[.ref t]) (aM++[kv]):=by
 refine⟨by rw[bY,bY,h.1];rfl,λi x q e1 e2=>?_⟩;by_cases hi:i<zs.length
 ·rw[gS hi]at e1;rw[gS (by rw[← h.1];exact hi)]at e2;exact h.2 i x q e1 e2
 ·rw[hU (by lia)]at e1;rw[hU (by rw[← h.1];lia),← h.1]at e2;generalize i-zs.length=j at e1 e2;cases j with
  |zero=>cases e1;cases e2;exact⟨t,rfl,g⟩
  |succ j=>cases e1
theorem Qr:∀{a:List (Key×V)}{b:List (Key×Value)}{x:Key×V}{y:Key×Value},KV a b→(x.1=y.1∧RelV x.2 y.2)→KV (a++[x]) (b++[y])
 |_,_,_,_,.nil,h=>.cons h .nil
 |_,_,_,_,.cons r t,h=>.cons r (Qr t h)
def Jc(K:Frag):List V→Hp→VK→Prop:=λvs H Q=>∃l zs aM,vs=[.ref l]∧H l=some (.lst zs)∧lT K H zs aM∧∀p,H p=none→Q (.ref p) (upd H p (.dK (jN [] aM)))
theorem DR(hK:X.K=K)(hc:X.calm=true):gY X (.type "dict") (Jc K):=by
 subst hK;intro aL s σ H vs us Q I r h;obtain⟨l,zs,aM,rfl,g,hP,q⟩:=h;obtain⟨u,rfl,ru⟩:=vals1 r;cases ru;obtain⟨z,its,n,rv,hl⟩:=I.bz l _ g;have cD:its.length=aM.length:=by rw[← rv.length,hP.1]
 have CS:∃ps:List (Key×Value),KV aM ps∧∀(j:Nat)(u:Value)(kv:Key×Value),its.toArray[j]?=some u→ps[j]?=some kv→DP (iC X.prog X.w) s.heap u kv:=by
  have key:∀m,m≤aM.length→∃ps:List (Key×Value),KV (aM.take m) ps∧∀(j:Nat)(u:Value)(kv:Key×Value),its.toArray[j]?=some u→ps[j]?=some kv→DP (iC X.prog X.w) s.heap u kv:=by
   intro m;induction m with
   |zero=>exact λ_=>⟨[],.nil,λj u kv _ e=>by cases e⟩
   |succ m ih=>
    intro hm;obtain⟨ps,h1,h2⟩:=ih (by lia);have hq:aM[m]?=some aM[m]:=cC (by lia);have hx:zs[m]?=some (zs[m]'(by rw[hP.1];lia)):=cC _;obtain⟨t,ex,ht⟩:=hP.2 m _ _ hx hq;obtain⟨u,hu,ru⟩:=rv.get hx;rw[ex]at ru;cases ru;obtain⟨ts,rt,⟨o,ho,zp,nn,hd⟩,_⟩:=I.tuple ht
    match ts,rt with
    |_,.cons r1 (.cons r2 .nil)=>
     rename_i u1 u2
     have pl:ps.length=m:=by rw[← h1.length,dE];lia
     refine⟨ps++[(aM[m].1,u2)],?_,λj u kv e1 e2=>?_⟩
     ·rw[iB,hq];exact Qr h1 ⟨rfl,r2⟩
     ·by_cases hj:j<ps.length
      ·rw[gS hj]at e2;exact h2 j u kv e1 e2
      ·have:j=m:=by
        have:=(dH.mp e2).1
        rw[bY]at this;simp at this;lia
       subst this;rw[hU (by lia),pl,Nat.sub_self]at e2;cases e2;have tF:its[j]?=some u:=by simpa using e1
       rw[hu]at tF;cases tF;exact⟨t,u1,o,nn,rfl,ho,zp,hd,tL r1⟩
  obtain⟨ps,h1,h2⟩:=key aM.length (ck _);rw[lZ]at h1;exact⟨ps,h1,h2⟩
 obtain⟨ps,rel,hp⟩:=CS;have kl:aM.length≤sizeLine:=by rw[← hP.1];exact z
 refine abG (knd:=iC X.prog X.w) (ps:=ps) (I.ok.hd hc) (by rw[eE,cD,rel.length]) hl hp (by rw[← rel.length];exact kl) λh' tk hk hd=>?_;have I1:Inv X aL σ H { s with heap:=h',toks:=tk }:=I.kept hk;have fp:jg X aL H s.heap.objs.size:=I.l6 (ck _) I.fresh;have ml:=Ci aM [];have I2:=I1.y6 (o:=.dK (jN [] aM)) fp (Ce (by have:([]:List (Key×V)).length=0:=rfl;lia) (beq_eq_false_iff_ne.mpr (Ne.symm (fu I.big))) (KV.merge rel .nil) hd);exact⟨.ref _,_,I2,rfl,q _ fp.1⟩
end
abbrev Qs(κ:Type):=κ×Addr×V
section
variable{P:Program}{w:World}{κ:Type} [DecidableEq κ] {kn:HeapKind P w κ} {H:Hp} {h:Heap} {a:Addr} {xs:List (Qs κ)}
end
section
variable{X:Cx}{κ:Type} [DecidableEq κ] {kn:HeapKind X.prog X.w κ} {R:Hp→κ→Addr→Prop} {aL:List (Addr×Obj)} {σ:St} {H:Hp} {s:Shared} {a b:Addr} {xs:List (Qs κ)} {k:κ} {v d:V} {u r:Value} {A:Around} {E:QV}
end
section
variable{X:Cx}{κ:Type} [DecidableEq κ] {kn:HeapKind X.prog X.w κ} {R:Hp→κ→Addr→Prop} {o i e f value:Expr} {pos oo jJ iE:Pos} {td ty tv tx:TE}
end
abbrev Pr:=List Int×List Int
theorem items_int{P:Program}{w:World}:∀{ks:List Int}{us:List Value},Vals (ks.map V.int) us→ItemsAre (intKind P w) ks us
 | [],_,.nil=>.nil
 |k::ks,_,.cons r t=>by
  obtain⟨tk,rfl⟩:=r;exact .cons (by show Value.isInt k (.int k tk)=true;simp[Value.isInt]) (items_int t)
section
variable{X:Cx}{K:Frag}{P:Program}{w:World}{aL:List (Addr×Obj)}{σ:St}{H:Hp}{s:Shared}
end
section
variable{K:Frag}{H H':Hp}{VS:List V}{ps:List Pr}
end
end L2
namespace L2
open PySem PySem.Spec PyProof.Rows
end L2
namespace L2
open PySem PySem.Spec PyProof.Rows PySem.W
variable{H:Hp}{a:Addr}{aM:List (Key×V)}{o:Obj}
section
variable{X:Cx}{K:Frag}
def abH(t:TS):TS:=λD σ H=>∃a aM,H a=some (.dK aM)∧t { D with nx:=λσ' H'=>(∃o,H' a=some (.dC o (.dK aM)))∧D.nx σ' (upd H' a (.dK aM)) } σ H
theorem Qt{aL:List (Addr×Obj)}{σ:St}{s:Shared}(I:Inv X aL σ H s)(e:H a=some (.dK aM)):∀o u,X.H₀ a≠some (.dC o u):=λo u z=>by
 have:=I.base.oh a o u z
 rw[e]at this;cases this
theorem Qu{st:Stmt}{t:TS}(h:PS X st t):PS X st (abH t):=by
 intro aL s σ H D I q;obtain⟨a,aM,e,q⟩:=q;have n:=Qt I e;refine bh (h aL s σ H _ I q) λf s' q=>?_;cases f with
 |next=>
  obtain⟨σ',H',I',⟨o,g⟩,q⟩:=q;exact⟨σ',_,I'.Qk g n,q⟩
 |ret v=>exact q
 |brk=>exact q
 |cont=>exact q
def Qv(te:TE):TE:=λσ H Q=>∃a aM,H a=some (.dK aM)∧te σ H λv H'=>(∃o,H' a=some (.dC o (.dK aM)))∧Q v (upd H' a (.dK aM))
theorem DT{e:Expr}{te:TE}(h:PE X e te):PE X e (Qv te):=by
 intro aL s σ H Q I q;obtain⟨a,aM,e',q⟩:=q;have n:=Qt I e';refine bh (h aL s σ H _ I q) λv s' q=>?_;obtain⟨x,H',I',r,⟨o,g⟩,q⟩:=q;exact⟨x,_,I'.Qk g n,r,q⟩
theorem Af{H':Hp}(e:H a=some (.dK aM))(s:aU (upd H a (.dC o (.dK aM))) H'):aU H (upd H' a (.dK aM)):=λb u q=>by
 by_cases hb:b=a
 ·subst hb;rw[e]at q;cases q;exact bg
 ·rw[bU hb];exact s b u (by rw[bU hb];exact q)
theorem Qw{g:TG}{tb:TS}{D:Ends}{σ:St}(Pv:Nat→St→Hp→Prop)(h0:Pv 0 σ H)(hf:∀i σ H,Pv i σ H→H a=some (.dC o (.dK aM)))
  (hs:∀i kv σ H,aM[i]?=some kv→Pv i σ H→g (kV kv.1) σ H λσ2 H2=>tb { D with nx:=Pv (i+1),ct:=Pv (i+1),bk:=D.nx } σ2 H2) (hd:∀σ H,Pv aM.length σ H→D.nx σ H) :
  ∃W:Nat→Nat→St→Hp→Prop,(∃m,W 0 m σ H)∧∀i m σ H,W i m σ H→
   ((vM o a aM).stop i H∧D.nx σ H)∨((vM o a aM).go i H∧∃N:St→Hp→Prop,(∀σ' H',N σ' H'→∃m',m'<m∧W (i+1) m' σ' H')∧∀x H',(vM o a aM).pe i H x H'→g x σ H' λσ2 H2=>tb { D with nx:=N,ct:=N,bk:=D.nx } σ2 H2):=by
 refine⟨λi m σ H=>m=aM.length-i∧i≤aM.length∧Pv i σ H,⟨aM.length,by simp,jf _,h0⟩,?_⟩;rintro i m σ H ⟨rfl,hi,p⟩;by_cases cB:i<aM.length
 ·refine .inr ⟨⟨hf i σ H p,cB⟩,Pv (i+1),λσ' H' p'=>⟨aM.length-(i+1),by lia,rfl,cB,p'⟩,λx H' y=>?_⟩;obtain⟨rfl,kv,hk,rfl⟩:=y;exact hs i kv σ _ hk p
 ·have e:i=aM.length:=by lia
  subst e;exact .inl ⟨⟨hf _ σ H p,ck _⟩,hd σ H p⟩
theorem Jd{H1:Hp}{cp:St}{tt:TT}{te:TE}{Q:VK}(Pv:Nat→Hp→List V→Prop)(hq:H1 a=some (.dC o (.dK aM)))(hz:aM.length≤sizeLine)(h0:Pv 0 H1 [])(cD:∀i H zs,Pv i H zs→zs.length≤i)
  (step:∀i kv H zs,aM[i]?=some kv→aU H1 H→Pv i H zs→tt (some (kV kv.1)::cp) H λc H4=>if c=true then te (some (kV kv.1)::cp) H4 λv H5=>mi 1 cp H1 (Pv (i+1)) (some (kV kv.1)::cp) H5 (zs++[v])else mi 1 cp H1 (Pv (i+1)) (some (kV kv.1)::cp) H4 zs)
  (done:∀H zs,aU H1 H→Pv aM.length H zs→∀p,H p=none→Q (.ref p) (upd H p (.lst zs))) :
  ∃W:Nat→Nat→St→Hp→List V→Prop,(∃m,W 0 m (List.replicate 1 none++cp) H1 [])∧mf (vM o a aM) (cm 0) tt te Q W:=by
 refine za (n:=aM.length) Pv hz h0 cD (λi H sm hi=>⟨sm _ _ hq,hi⟩) (λH sm=>⟨sm _ _ hq,ck _⟩) (λi o' H zs hi ho sm pv x H2 y=>?_) done;obtain⟨w,rfl⟩:=zb ho;obtain⟨rfl,kv,hk,rfl⟩:=y;exact step i kv _ zs hk sm pv
def abI:List V→Hp→VK→Prop:=λvs H Q=>∃a aM,vs=[.ref a]∧Rd H a (.dK aM)∧∀l,H l=none→Q (.ref l) (upd H l (.lst (aM.map λkv=>kV kv.1)))
theorem Qx{P:Program}{w:World}:∀{es:List DictEntry}{vs:List (Key×Value)}{aM:List (Key×V)},Pairs (iC P w) es vs→KV aM vs→Vals (aM.map λkv=>kV kv.1) (es.map λe=>e.key)
 |_,_,_,.nil,.nil=>.nil
 |_,_,_,.cons h1 _ t,.cons r rt=>.cons (by dsimp only;rw[r.1];exact Ql h1) (Qx t rt)
theorem abJ(hc:X.calm=true):gY X (.type "list") abI:=by
 intro aL s σ H vs us Q I r h;obtain⟨a,aM,rfl,g,q⟩:=h;obtain⟨u,rfl,ru⟩:=vals1 r;cases ru;obtain⟨z,lo,vs,rel,ob,es,ep,hm,ed,dd,_,hp,_⟩:=rG I.bz g;have hes:es.size=aM.length:=by rw[← yh,hp.length,← rel.length]
 refine kdl_call (aby (prog:=X.prog) (w:=X.w) (es:=es) (ep:=ep) lo) (I.ok.hd hc) ⟨ob,hm,ed,dd⟩ (by rw[hes];exact z) λh' tk cE c hk hS hI=>?_;have ev:cE.toList=es.toList.map λe=>e.key:=by
  refine List.ext_getElem? λj=>?_;rw[du];cases ej:cE.toList[j]? with
  |some v=>
   obtain⟨e,h1,h2⟩:=hI.2 j v (by rw[← Array.getElem?_toList];exact ej);rw[Array.getElem?_toList,h1,h2];rfl
  |none=>
   have hj:cE.size≤j:=by
    have:=List.getElem?_eq_none_iff.mp ej
    rwa[yh]at this
   rw[iR (by rw[yh,← hI.1];exact hj)];rfl
 have I1:Inv X aL σ H { s with heap:=h',toks:=tk }:=I.kept hk;have fp:jg X aL H s.heap.objs.size:=I.l6 (ck _) I.fresh;have I2:=I1.y6 (o:=.lst (aM.map λkv=>kV kv.1)) fp ⟨by rw[bO];exact z,cE.toList,c,by rw[ev];exact Qx hp rel,hS⟩;exact⟨.ref _,_,I2,rfl,q _ fp.1⟩
def abK:List V→Hp→VK→Prop:=λvs H Q=>∃a aM,vs=[.ref a]∧Rd H a (.dK aM)∧∀p,H p=none→Q (.ref p) (upd H p (.dK aM))
theorem abL:gY X (.type "dict") abK:=by
 intro aL s σ H vs us Q I r h;obtain⟨a,aM,rfl,g,q⟩:=h;obtain⟨u,rfl,ru⟩:=vals1 r;cases ru;exact Yi I g λp s' hn I'=>⟨.ref p,_,I',rfl,q p hn⟩
theorem Ag:bootBuiltins "dict"=some (.type "dict"):=by decide +kernel
end
end L2
namespace S21
open PySem L2 Bw
variable{D:List (Nat×Fn)}{F:Nat×Fn→Nat×Fn}{H H':Hp}{M i j s:Nat}{R:dN}{a d:Addr}{f:Fn}{fd:FuncData}{aM:List (Key×V)}{p:Int}{t:Nat×Int}{te:TE}{σ:St}
noncomputable def rK(t:Nat×Int):Key×V:=(Sum.inl (t.1:Int),V.int t.2)
noncomputable def kO(R:dN)(s:Nat):Int:=((R.find? λt=>decide (t.1=s)).map (·.2)).getD 0
theorem nQ{a b:Nat}:((Sum.inl (a:Int):Key)=Sum.inl (b:Int))↔a=b:=⟨λh=>by have:=Sum.inl.inj h;lia,λh=>by rw[h]⟩
theorem DU(R:dN)(s:Nat):dG (R.map rK) (Sum.inl (s:Int))=(R.find? λt=>decide (t.1=s)).map λt=>V.int t.2:=by
 induction R with
 |nil=>rfl
 |cons t R ih=>
  rw[jt,sP];by_cases e:t.1=s
  ·rw[nB (nQ.mpr e),aC e];rfl
  ·rw[nC λz=>e (nQ.mp z),ae e,ih]
theorem xR(R:dN)(s:Nat):(dG (R.map rK) (Sum.inl (s:Int))).getD (.int 0)=.int (kO R s):=by
 rw[DU];unfold kO;cases R.find? λt=>decide (t.1=s)<;>rfl
theorem Je(nd:(R.map Prod.fst).Nodup)(ht:t∈R):(R.find? λu=>decide (u.1=t.1))=some t:=by
 induction R with
 |nil=>cases ht
 |cons u R ih=>
  rw[jt]at nd;obtain⟨n1,n2⟩:=sG.mp nd;rw[sP];rcases(dX.mp ht)with(rfl|ht)
  ·rw[aC rfl]
  ·rw[ae λe=>n1 (by rw[e];exact n8 ht)];exact ih n2 ht
theorem Ah(nd:(R.map Prod.fst).Nodup)(ht:t∈R):kO R t.1=t.2:=by unfold kO;rw[Je nd ht];rfl
theorem DV(h:s ∉ R.map Prod.fst):kO R s=0:=by
 unfold kO;rw[yj.mpr λt ht=>by simp;intro e;exact h (by rw[← e];exact n8 ht)];rfl
noncomputable def ug(R:dN)(s:Nat)(c:Int):dN:=if s∈R.map Prod.fst then R.map λt=>if t.1=s then(t.1,c)else t else R++[(s,c)]
theorem Qy{c:Int}(nd:(R.map Prod.fst).Nodup):((ug R s c).map Prod.fst).Nodup:=by
 unfold ug;split
 ·rename_i h
  have:(R.map λt=>if t.1=s then(t.1,c)else t).map Prod.fst=R.map Prod.fst:=by
   rw[o6];refine uJ λt _=>?_;show(if t.1=s then(t.1,c)else t).1=t.1
   split<;>rfl
  rw[this];exact nd
 ·rename_i h
  rw[eM];refine qR.mpr ⟨nd,sG.mpr ⟨λz=>(nomatch z),List.nodup_nil⟩,λa ha b hb e=>h ?_⟩;have hb:b=s:=cJ.mp hb;rw[← hb,← e];exact ha
theorem Qz(R:dN)(s:Nat)(c:Int):(ug R s c).length≤R.length+1:=by
 unfold ug;split
 ·rw[bO];lia
 ·rw[bY];exact ck _
theorem abM(R:dN)(s:Nat):((R.map rK).any λkv=>decide (kv.1=Sum.inl (s:Int)))=decide (s∈R.map Prod.fst):=by
 induction R with
 |nil=>rfl
 |cons t R ih=>
  rw[jt,List.any_cons,ih,jt];by_cases e:t.1=s
  ·have:decide ((rK t).1=Sum.inl (s:Int))=true:=aC (nQ.mpr e)
   have h2:s∈t.1::R.map Prod.fst:=by rw[e];exact cU
   rw[this,aC h2];rfl
  ·have:decide ((rK t).1=Sum.inl (s:Int))=false:=ae λz=>e (nQ.mp z)
   rw[this,Bool.false_or];exact decide_eq_decide.mpr ⟨λh=>fK _ h,λh=>(dX.mp h).resolve_left λz=>e z.symm⟩
theorem Jf(R:dN)(s:Nat)(c:Int):gG (R.map rK) (Sum.inl (s:Int)) (.int c)=(ug R s c).map rK:=by
 unfold gG ug;rw[abM];by_cases h:s∈R.map Prod.fst
 ·rw[af (by simpa using h),af h,o6,o6];refine uJ λt _=>?_;show(if(rK t).1=Sum.inl (s:Int)then((rK t).1,V.int c)else rK t)=rK (if t.1=s then(t.1,c)else t)
  by_cases e:t.1=s
  ·rw[af (show(rK t).1=Sum.inl (s:Int) from nQ.mpr e),af e];rfl
  ·rw[ag (show ¬(rK t).1=Sum.inl (s:Int) from λz=>e (nQ.mp z)),ag e]
 ·rw[ag (by simpa using h),ag h,eM];rfl
theorem QA(s:Nat)(c:Int)(x:Nat):kO (ug R s c) x=if x=s then c else kO R x:=by
 have h:=Np (R.map rK) (Sum.inl (s:Int)) (Sum.inl (x:Int)) (.int c);have h1:=xR (ug R s c) x;rw[← Jf,h]at h1;by_cases e:x=s
 ·rw[af (nQ.mpr e)]at h1;rw[af e];exact(V.int.inj h1).symm
 ·rw[ag λz=>e (nQ.mp z),xR]at h1;rw[ag e];exact(V.int.inj h1).symm
theorem Jg{A:List (Key×V)}{k:Key}{v:V}(h:dG A k=some v):k∈A.map Prod.fst:=by
 unfold dG at h;cases e:A.find? λkv=>decide (kv.1=k) with
 |none=>rw[e]at h;cases h
 |some kv=>
  have:=List.find?_some e
  have e2:kv.1=k:=by simpa using this
  rw[← e2];exact n8 (List.mem_of_find?_eq_some e)
theorem vO:∀(L A:List (Key×V)),((A++L).map Prod.fst).Nodup→jN A L=A++L
 | [],A,_=>by rw[hJ];rfl
 |kv::L,A,nd=>by
  have hn:dG A kv.1=none:=by
   cases e:dG A kv.1 with
   |none=>rfl
   |some v=>
    have:=Jg e
    rw[eM]at nd;exact absurd rfl ((qR.mp nd).2.2 kv.1 this kv.1 (by rw[jt];exact cU))
  show jN (gG A kv.1 kv.2) L=_;rw[G5 _ hn,vO L (A++[(kv.1,kv.2)]) (by rw[hW];exact nd),hW];rfl
theorem xS(R:dN)(nd:(R.map Prod.fst).Nodup):((R.map rK).map Prod.fst).Nodup:=by
 rw[o6]
 have:(Prod.fst∘rK)=(λs:Nat=>(Sum.inl (s:Int):Key))∘(Prod.fst:Nat×Int→Nat):=rfl
 rw[this,← o6];exact List.pairwise_map.mpr (nd.imp λh z=>h (nQ.mp z))
structure pJ(R:dN)(f:Fn):Prop where
 nd:(R.map Prod.fst).Nodup
 cf:∀s,kO R s=f s
 nz:∀t∈R,t.2≠0
def DF(H:Hp)(a:Addr)(f:Fn):Prop:=∃R:dN,H a=some (.dK (R.map rK))∧pJ R f∧R.length≤900
theorem DF.mono(h:DF H a f)(s:aU H H'):DF H' a f:=let ⟨R,g,r⟩:=h;⟨R,s _ _ g,r⟩
theorem pJ.mem(h:pJ R f)(ht:t∈R):f t.1=t.2:=by rw[← h.cf,Ah h.nd ht]
theorem pJ.no(h:pJ R f)(hs:s ∉ R.map Prod.fst):f s=0:=by rw[← h.cf,DV hs]
theorem rW(nd:(R.map Prod.fst).Nodup)(ht:t∈R):dG (R.map rK) (Sum.inl (t.1:Int))=some (.int t.2):=by rw[DU,Je nd ht];rfl
theorem abN(nd:(R.map Prod.fst).Nodup)(cf:∀s,kO R s=f s):pJ (R.filter λt=>decide (t.2≠0)) f:=by
 have vB:((R.filter λt=>decide (t.2≠0)).map Prod.fst).Nodup:=(List.filter_sublist.map _).nodup nd;refine⟨vB,λs=>?_,λt ht=>by simpa using(g8.mp ht).2⟩;rw[← cf s];by_cases h:s∈(R.filter λt=>decide (t.2≠0)).map Prod.fst
 ·obtain⟨t,ht,rfl⟩:=cY.mp h;rw[Ah vB ht,Ah nd (g8.mp ht).1]
 ·rw[DV h];by_cases h2:s∈R.map Prod.fst
  ·obtain⟨t,ht,rfl⟩:=cY.mp h2;rw[Ah nd ht];by_cases e:t.2=0
   ·exact e.symm
   ·exact absurd (n8 (f:=Prod.fst) (g8.mpr ⟨ht,by simpa using e⟩)) h
  ·rw[DV h2]
theorem uh{o:Obj}{k:Key}(e:H a=some (.dC o (.dK aM))):gH H a (kV k) (dG aM k):=.inl ⟨aM,k,.inr ⟨o,e⟩,rfl,rfl⟩
def QB:Sp:=λvs H Q _=>∃(p:Int)(a b:Addr)(c:Int)(M:Nat)(f g:Fn),vs=[.int p,.ref a,.ref b,.int c]∧2≤p∧p≤97∧DF H a f∧DF H b g∧jq p M f∧jq p M g∧0≤c∧c<p∧M≤400∧
 ∀a' H',aU H H'→DF H' a' (fY p f g c)→(a'=a∨H a'=none)→Q (.ref a') H'
noncomputable abbrev QC:List Str:=["p","row","other","factor","found","spot"]
theorem Jh:dU QC ["p","row","other","factor"] (cg Cz):=eT rfl rfl rfl (by decide +kernel) rfl
theorem QD:(["spot","found"]:List Str).Nodup:=by decide +kernel
theorem DW:∀(M:Nat){L:List Nat},L.Nodup→(∀x∈L,x<M)→L.length≤M
 |0,L,_,h=>by
  cases L with
  |nil=>exact ck 0
  |cons x L=>exact absurd (h x cU) (by lia)
 |M+1,L,nd,h=>by
  have:=DW M (nd.erase M) λx hx=>by
   have hm:=(List.Nodup.mem_erase_iff nd).mp hx
   have:=h x hm.2
   have:=hm.1
   lia
  by_cases e:M∈L
  ·rw[List.length_erase_of_mem e]at this;lia
  ·rw[List.erase_of_not_mem e]at this;lia
theorem Ji(h:pJ R f)(hf:jq p M f):R.length≤M:=by
 have:=DW M h.nd λs hs=>by
  obtain⟨t,ht,rfl⟩:=cY.mp hs;by_cases e:t.1<M
  ·exact e
  ·exact absurd ((h.mem ht).symm.trans ((hf t.1).2.2 (by lia))) (h.nz t ht)
 rwa[bO]at this
theorem bj.Jj{l:Addr}{ys:List V}{o:Obj}{u:HO}(h:bj K H a ys)(hl:H l=some (.dC o (.dK aM))):bj K (upd H l u) a ys:=by
 rcases h with(h|⟨o',h⟩)|h
 ·refine .inl (.inl ?_);rw[bU λz=>by rw[z,hl]at h;cases h];exact h
 ·refine .inl (.inr ⟨o',?_⟩);rw[bU λz=>by rw[z,hl]at h;cases h];exact h
 ·exact .inr h
theorem QE{fe:Addr}{cp:St}{tt:TT}{Q:VK}(g:H fe=some (.dK (R.map rK)))(nd:(R.map Prod.fst).Nodup)(cf:∀s,kO R s=f s)(hl:R.length≤900)
  (et:∀(o:Obj)(t:Nat×Int)(H':Hp)(T:Bool→Hp→Prop),t∈R→H' fe=some (.dC o (.dK (R.map rK)))→(if decide (t.2≠0)=true then T true H' else T false H')→tt (some (.int (t.1:Int))::cp) H' T)
  (ee:∀(o:Obj)(t:Nat×Int)(H':Hp)(T:VK),t∈R→H' fe=some (.dC o (.dK (R.map rK)))→(∀a,H' a=none→T (.ref a) (upd H' a (.tup [.int (t.1:Int),.int t.2])))→te (some (.int (t.1:Int))::cp) H' T)
  (q:∀a' H',aU H H'→DF H' a' f→H a'=none→Q (.ref a') H') :
  ∀o,∃W:Nat→Nat→St→Hp→List V→Prop,(∃m,W 0 m (List.replicate 1 none++cp) (upd H fe (.dC o (.dK (R.map rK)))) [])∧mf (vM o fe (R.map rK)) (cm 0) tt te (λv H'=>(∃o,H' fe=some (.dC o (.dK (R.map rK))))∧Jc K [v] (upd H' fe (.dK (R.map rK))) Q) W:=by
 intro o;have z:(2000:Nat)≤sizeLine:=by decide
 have g1:(upd H fe (.dC o (.dK (R.map rK)))) fe=some (.dC o (.dK (R.map rK))):=bg;refine Jd (λi H' zs=>lT K H' zs (((R.take i).filter λt=>decide (t.2≠0)).map rK)) g1 (by rw[bO];lia) .nil (λi H' zs h=>?_) ?_ ?_
 ·rw[h.1,bO];exact eS (uK _ _) (by rw[dE];exact we _ _)
 ·intro i kv H' zs hk sm hP;rw[du]at hk;cases e:R[i]? with
  |none=>rw[e]at hk;cases hk
  |some t=>
   rw[e]at hk;cases hk;have ht:=dI e;have gf:=sm _ _ g1;refine et o t H' _ ht gf ?_;by_cases c:t.2=0
   ·rw[ag (by simpa using c)];refine eU ⟨⟨[_],rfl,rfl⟩,sm,?_⟩;rw[iB,e];show lT K H' zs (((R.take i++[t]).filter λt=>decide (t.2≠0)).map rK);rw[o5,Bl (by simpa using c),n9,hJ];exact hP
   ·rw[af (by simpa using c)];refine fU (ee o t H' _ ht gf λa hn=>⟨⟨[_],rfl,rfl⟩,sm.trans (.upd hn),?_⟩);rw[iB,e];show lT K _ (zs++[.ref a]) (((R.take i++[t]).filter λt=>decide (t.2≠0)).map rK);rw[o5,Bk (by simpa using c),n9,eM];exact(hP.mono (.upd hn)).snoc (.of bg)
 ·intro H' zs sm hP l pw;rw[bO,lZ]at hP;have s1:=sm.trans (aU.upd (o:=.lst zs) pw);have gf:(upd H' l (.lst zs)) fe=some (.dC o (.dK (R.map rK))):=s1 _ _ g1;have s2:=Af g s1;have ne:l≠fe:=λe=>by rw[e,sm _ _ g1]at pw;cases pw
  have hz:=abN nd cf;refine⟨⟨o,gf⟩,l,zs,(R.filter λt=>decide (t.2≠0)).map rK,rfl,by rw[bU ne];exact bg,?_,λa hn=>?_⟩
  ·have mx:=hP.mono (aU.upd (o:=.lst zs) pw);refine⟨mx.1,λi x kv e1 e2=>?_⟩;obtain⟨t,rfl,ht⟩:=mx.2 i x kv e1 e2;exact⟨t,rfl,bj.Jj ht gf⟩
  ·refine q a _ (s2.trans (.upd hn)) ⟨_,?_,hz,eS (uK _ _) hl⟩ (j6 s2 hn);rw[bg,vO _ [] (by rw[lY];exact xS _ hz.nd),lY]
theorem abO{f:Addr}(F:cO K "_law_less" "_law_less" Cz f fd)(ui:mg "dict"=none):cj P w K mg base cb 1 f fd ["p","row","other","factor"] QB:=by
 refine F.ok Jh (λvs H Q E h=>?_) (λcq A outer s H vs Q E hr h=>?_)
 ·obtain⟨p,a,b,c,M,f,g,rfl,_⟩:=h;rfl
 ·obtain⟨p,a,b,c,M,fa,fb,rfl,p2,eC,ha,hb,ra,rb,c0,c1,hM,q⟩:=h;have p0:0<p:=by lia
  have z:(2000:Nat)≤sizeLine:=by decide
  have hu:=rh hr;obtain⟨R,ga,hR,lR⟩:=ha;obtain⟨S,gb,hS,lS⟩:=hb;have lR:=Ji hR ra;have lS:=Ji hS rb;refine⟨_,bo (dQ (df fj (pv 3) aW (cN _)) (bZ (cM (pv 1))) eA) (bo (cy (i:=4) Jh.nd rfl (Or.inr rfl) (iT abL rfl ui Ag (aR (pv 1) aY))) (bo (Qu (kZ mX rfl (xQ (pv 2)) (de (i:=5) Jh.nd rfl (.inl rfl)) (bZ (xb hu (pv 4) (pv 5) (bq kh (bq qX (vp hu (pv 4) (pv 5) aW ⟨rfl,rfl,rfl,rfl⟩) (bq oq (pv 3) (jZ hu (pv 2) (pv 5) (λ_ _=>rfl)))) (pv 0)) rfl)))) (bZ (cM (iT (DR (K:=K) rfl rfl) rfl ui Ag (aR (DT (oC (N:=["spot","found"]) (own:=1) (caps:=[4]) rfl (xQ (pv 4)) (show gM QC (cg Cz) ["spot","found"] 1 [4] _ from .mk' (by decide +kernel)) (λ_ _ _ _ _=>de (i:=0) QD rfl (.inl rfl)) (λ_ _ _ _ _=>vg (df sU (jZ hu (pv 1) (pv 0) (λ_ _=>rfl)) aW (cN _))) (λ_ _ _ _ _=>dm (aR (pv 0) (aR (jZ hu (pv 1) (pv 0) (λ_ _=>rfl)) aY))))) aY)))))),?_⟩
  refine⟨_,rfl,rfl,_,rfl,wI (λhc=>⟨_,rfl,?_⟩) (λhc=>?_)⟩
  ·have hc:c=0:=V.int.inj (aI hc);refine q a H (.refl _) ⟨R,ga,?_,by lia⟩ (.inl rfl);rw[hc,PU p0 ra];exact hR
  refine⟨_,rfl,a,_,rfl,.inl ga,λfe rX=>?_⟩;have nb:fe≠b:=λe=>by rw[e,gb]at rX;cases rX
  have sf:=aU.upd (o:=.dK (R.map rK)) rX;refine⟨b,S.map rK,sf _ _ gb,_,rfl,b,_,rfl,sf _ _ gb,λo=>?_⟩;refine Qw (λi σ H'=>aU (upd H b (.dC o (.dK (S.map rK)))) H'∧∃s5 R',σ=[some (.int p),some (.ref a),some (.ref b),some (.int c),some (.ref fe),s5]∧H' fe=some (.dK (R'.map rK))∧(R'.map Prod.fst).Nodup∧R'.length≤R.length+i∧∀s,kO R' s=if s∈(S.take i).map Prod.fst then(fa s-c*fb s)%p else fa s)
   ⟨λx u e=>?_,none,R,rfl,?_,hR.nd,ck _,λs=>hR.cf s⟩ (λi σ H' hP=>hP.1 _ _ bg) ?_ ?_
  ·by_cases hx:x=b
   ·subst hx;rw[bg]at e;rw[bg];exact e
   ·rw[bU hx]at e;rw[bU hx];exact sf _ _ e
  ·rw[bU nb];exact bg
  ·rintro i kv σ H' hk ⟨sm,s5,R',rfl,gR,nR,Ai,cR⟩;rw[du]at hk;cases e:S[i]? with
   |none=>rw[e]at hk;cases hk
   |some t=>
    rw[e]at hk;cases hk;have ht:=dI e;have gF:H' b=some (.dC o (.dK (S.map rK))):=sm _ _ bg;have hi:i<S.length:=(dH.mp e).1;have ft:=hS.mem ht;have rt:=rb t.1;refine⟨_,rfl,fe,rfl,.inl ⟨_,.inl gR⟩,_,rfl,_,gH.k (k:=Sum.inl (t.1:Int)) gR,_,rfl,_,rfl,_,rfl,b,.int t.2,rfl,by have:=uh (k:=Sum.inl (t.1:Int)) gF;rw[rW hS.nd ht]at this;exact this,_,_,rfl,rfl,.inl ⟨by lia,by lia⟩,?_⟩;rw[xR];refine⟨_,_,rfl,rfl,_,rfl,_,_,rfl,rfl,(by show(0:Int)<p;lia),_,rfl,_,rfl,fe,_,rfl,ql.k (k:=Sum.inl (t.1:Int)) gR (by rw[bO];lia),?_⟩;rw[Jf];have nf:(upd H b (.dC o (.dK (S.map rK)))) fe=none:=by rw[bU nb];exact rX
    refine⟨sm.write nf,_,_,rfl,bg,Qy nR,by have:=Qz R' t.1 ((kO R' t.1-c*t.2)%p);lia,λs=>?_⟩;rw[QA,iB,e,eM];show(if s=t.1 then _ else _)=if s∈(S.take i).map Prod.fst++[t.1]then _ else _
    have qY:t.1 ∉ (S.take i).map Prod.fst:=λz=>by
     have nd:=hS.nd;obtain⟨u,hu,eu⟩:=cY.mp z;obtain⟨j,hj⟩:=pW.mp hu;have jl:j<i:=by
      have:=(dH.mp hj).1
      rw[dE]at this;lia
     rw[List.getElem?_take_of_lt jl]at hj;have k1:(S.map Prod.fst)[i]?=some t.1:=by rw[du,e];rfl
     have k2:(S.map Prod.fst)[j]?=some t.1:=by rw[du,hj];exact aj some eu
     have:=(List.getElem?_inj (dH.mp k1).1 nd).mp (k1.trans k2.symm)
     lia
    by_cases es:s=t.1
    ·subst es;rw[af rfl,af (eJ _ cU),cR,ag qY,ft]
    ·rw[ag es,cR];by_cases e2:s∈(S.take i).map Prod.fst
     ·rw[af e2,af (e7 _ e2)]
     ·rw[ag e2,ag λz=>(dq.mp z).elim e2 λz=>es (cJ.mp z)]
  ·rintro σ H' ⟨sm,s5,R',rfl,gR,nR,Ai,cR⟩;rw[bO,lZ]at cR;rw[bO]at Ai;have s1:=Af gb sm;have nb':=nb;have rY:(upd H' b (.dK (S.map rK))) fe=some (.dK (R'.map rK)):=by rw[bU nb];exact gR
   have cf:∀s,kO R' s=fY p fa fb c s:=λs=>by
    rw[cR];by_cases e:s∈S.map Prod.fst
    ·rw[af e];rfl
    ·rw[ag e,PR p0 ra (hS.no e)]
   refine⟨⟨o,sm _ _ bg⟩,?_⟩;generalize upd H' b (.dK (S.map rK))=H2 at s1 rY;refine⟨fe,R'.map rK,rY,_,rfl,fe,_,rfl,rY,QE (f:=fY p fa fb c) rY nR cf (by lia) (λo t H3 T ht gf hT=>?_) (λo t H3 T ht gf hT=>?_) λa' H3 s3 hd hn=>q a' H3 (s1.trans s3) hd (.inr (j6 s1 hn))⟩
   ·refine⟨_,rfl,_,rfl,fe,.int t.2,rfl,by have:=uh (k:=Sum.inl (t.1:Int)) gf;rw[rW nR ht]at this;exact this,rfl,_,rfl,?_⟩;by_cases e:t.2=0
    ·rw[ag (by simpa using e)]at hT;rw[show(!decide (V.int t.2=V.int 0))=false by rw[e];rfl];exact hT
    ·rw[af (by simpa using e)]at hT;rw[show(!decide (V.int t.2=V.int 0))=true by rw[ae λz=>e (V.int.inj z)];rfl];exact hT
   ·exact⟨_,rfl,_,rfl,_,rfl,fe,.int t.2,rfl,by have:=uh (k:=Sum.inl (t.1:Int)) gf;rw[rW nR ht]at this;exact this,by show 2≤sizeLine;lia,hT⟩
noncomputable def qI(t:Nat×Nat):Nat×Int:=(t.1,(t.2:Int))
theorem abP(AL:List (Nat×Nat))(s:Nat):(dG ((AL.map qI).map rK) (Sum.inl (s:Int))).getD (.int (s:Int))=.int (look AL s:Int):=by
 rw[DU];unfold look;induction AL with
 |nil=>rfl
 |cons t AL ih=>
  rw[jt,sP,sP];by_cases e:t.1=s
  ·rw[show decide ((qI t).1=s)=true from aC e,aC e];rfl
  ·rw[show decide ((qI t).1=s)=false from ae e,ae e];exact ih
def QF:Sp:=λvs H Q _=>∃(p:Int)(a al:Addr)(q:dN)(AL:List (Nat×Nat)),vs=[.int p,.ref a,.ref al]∧2≤p∧p≤97∧H a=some (.dK (q.map rK))∧(q.map Prod.fst).Nodup∧q.length≤900∧H al=some (.dK ((AL.map qI).map rK))∧
 ∀a' H',aU H H'→DF H' a' (qF p AL q)→Q (.ref a') H'
noncomputable abbrev QG:List Str:=["p","row","alias","found","port","spot"]
theorem DX:dU QG ["p","row","alias"] (cg Cy):=eT rfl rfl rfl (by decide +kernel) rfl
theorem abQ{f:Addr}(F:cO K "_law_merged" "_law_merged" Cy f fd)(ui:mg "dict"=none):cj P w K mg base cb 1 f fd ["p","row","alias"] QF:=by
 refine F.ok DX (λvs H Q E h=>?_) (λcq A outer s H vs Q E hr h=>?_)
 ·obtain⟨p,a,al,q,AL,rfl,_⟩:=h;rfl
 ·obtain⟨p,a,al,S,AL,rfl,p2,eC,ga,nS,lS,gl,q⟩:=h;have p0:0<p:=by lia
  have z:(2000:Nat)≤sizeLine:=by decide
  have hu:=rh hr;refine⟨_,bo (cy (i:=3) DX.nd rfl (Or.inr rfl) Cf) (bo (Qu (kZ mX rfl (xQ (pv 1)) (de (i:=4) DX.nd rfl (.inl rfl)) (bo (cy (i:=5) DX.nd rfl (.inl rfl) (vp hu (pv 2) (pv 4) (pv 4) ⟨rfl,rfl,rfl,rfl⟩)) (bZ (xb hu (pv 3) (pv 5) (bq kh (bq fi (vp hu (pv 3) (pv 5) aW ⟨rfl,rfl,rfl,rfl⟩) (jZ hu (pv 1) (pv 4) (λ_ _=>rfl))) (pv 0)) rfl))))) (bZ (cM (iT (DR (K:=K) rfl rfl) rfl ui Ag (aR (DT (oC (N:=["spot","found"]) (own:=1) (caps:=[3]) rfl (xQ (pv 3)) (show gM QG (cg Cy) ["spot","found"] 1 [3] _ from .mk' (by decide +kernel)) (λ_ _ _ _ _=>de (i:=0) QD rfl (.inl rfl)) (λ_ _ _ _ _=>vg (df sU (jZ hu (pv 1) (pv 0) (λ_ _=>rfl)) aW (cN _))) (λ_ _ _ _ _=>dm (aR (pv 0) (aR (jZ hu (pv 1) (pv 0) (λ_ _=>rfl)) aY))))) aY))))),?_⟩
  intro fe rX;have nb:fe≠a:=λe=>by rw[e,ga]at rX;cases rX
  have sf:=aU.upd (o:=.dK []) rX;refine⟨a,S.map rK,sf _ _ ga,_,rfl,a,_,rfl,sf _ _ ga,λo=>?_⟩;refine Qw (λi σ H'=>aU (upd H a (.dC o (.dK (S.map rK)))) H'∧∃s4 s5 R',σ=[some (.int p),some (.ref a),some (.ref al),some (.ref fe),s4,s5]∧H' fe=some (.dK (R'.map rK))∧(R'.map Prod.fst).Nodup∧R'.length≤i∧∀s,kO R' s=qF p AL (S.take i) s)
   ⟨λx u e=>?_,none,none,[],rfl,?_,List.nodup_nil,ck _,λs=>rfl⟩ (λi σ H' hP=>hP.1 _ _ bg) ?_ ?_
  ·by_cases hx:x=a
   ·subst hx;rw[bg]at e;rw[bg];exact e
   ·rw[bU hx]at e;rw[bU hx];exact sf _ _ e
  ·rw[bU nb];exact bg
  ·rintro i kv σ H' hk ⟨sm,s4,s5,R',rfl,gR,nR,Ai,cR⟩;rw[du]at hk;cases e:S[i]? with
   |none=>rw[e]at hk;cases hk
   |some t=>
    rw[e]at hk;cases hk;have ht:=dI e;have gF:H' a=some (.dC o (.dK (S.map rK))):=sm _ _ bg;have hi:i<S.length:=(dH.mp e).1;have kr:Rd H' al (.dK ((AL.map qI).map rK)):=by
     by_cases ea:al=a
     ·rw[ea,ga]at gl;have e:=dZ gl;refine .inr ⟨o,?_⟩;rw[ea,← e];exact gF
     ·exact .inl (sm _ _ (by rw[bU ea];exact gl))
    refine⟨_,rfl,al,rfl,.inl ⟨_,kr⟩,_,rfl,_,rfl,_,.inl ⟨_,Sum.inl (t.1:Int),kr,rfl,rfl⟩,?_⟩;rw[show(rK t).1=Sum.inl (t.1:Int) from rfl]
    show cm 5 _ _ _ _;rw[show kV (Sum.inl (t.1:Int))=V.int (t.1:Int) from rfl,abP]
    refine⟨_,rfl,fe,rfl,.inl ⟨_,.inl gR⟩,_,rfl,_,gH.k (k:=Sum.inl (look AL t.1:Int)) gR,_,rfl,_,rfl,a,.int t.2,rfl,by have:=uh (k:=Sum.inl (t.1:Int)) gF;rw[rW nS ht]at this;exact this,?_⟩;rw[xR];refine⟨_,_,rfl,rfl,_,rfl,_,_,rfl,rfl,(by show(0:Int)<p;lia),_,rfl,_,rfl,fe,_,rfl,ql.k (k:=Sum.inl (look AL t.1:Int)) gR (by rw[bO];lia),?_⟩;rw[Jf];have nf:(upd H a (.dC o (.dK (S.map rK)))) fe=none:=by rw[bU nb];exact rX
    refine⟨sm.write nf,_,_,_,rfl,bg,Qy nR,by have:=Qz R' (look AL t.1) ((kO R' (look AL t.1)+t.2)%p);lia,λs=>?_⟩;rw[QA,iB,e];unfold qF;rw[List.foldl_append];show _=if s=look AL t.1 then _ else _
    by_cases es:s=look AL t.1
    ·rw[af es,af es,es,cR];rfl
    ·rw[ag es,ag es,cR];rfl
  ·rintro σ H' ⟨sm,s4,s5,R',rfl,gR,nR,Ai,cR⟩;rw[bO,lZ]at cR;rw[bO]at Ai;have s1:=Af ga sm;have rY:(upd H' a (.dK (S.map rK))) fe=some (.dK (R'.map rK)):=by rw[bU nb];exact gR
   refine⟨⟨o,sm _ _ bg⟩,?_⟩;generalize upd H' a (.dK (S.map rK))=H2 at s1 rY;refine⟨fe,R'.map rK,rY,_,rfl,fe,_,rfl,rY,QE (f:=qF p AL S) rY nR cR (by lia) (λo t H3 T ht gf hT=>?_) (λo t H3 T ht gf hT=>?_) λa' H3 s3 hd _=>q a' H3 (s1.trans s3) hd⟩
   ·refine⟨_,rfl,_,rfl,fe,.int t.2,rfl,by have:=uh (k:=Sum.inl (t.1:Int)) gf;rw[rW nR ht]at this;exact this,rfl,_,rfl,?_⟩;by_cases e:t.2=0
    ·rw[ag (by simpa using e)]at hT;rw[show(!decide (V.int t.2=V.int 0))=false by rw[e];rfl];exact hT
    ·rw[af (by simpa using e)]at hT;rw[show(!decide (V.int t.2=V.int 0))=true by rw[ae λz=>e (V.int.inj z)];rfl];exact hT
   ·exact⟨_,rfl,_,rfl,_,rfl,fe,.int t.2,rfl,by have:=uh (k:=Sum.inl (t.1:Int)) gf;rw[rW nR ht]at this;exact this,by show 2≤sizeLine;lia,hT⟩
theorem nk1:(["k","rows","spot"]:List Str).Nodup:=by decide +kernel
theorem nk2:(["k","p","row","spot"]:List Str).Nodup:=by decide +kernel
theorem nk3:(["one","p","row","turn"]:List Str).Nodup:=by decide +kernel
theorem nk4:(["k","p","row","rows","some","spot"]:List Str).Nodup:=by decide +kernel
theorem QH(h:pJ R f)(hz:f s≠0):dG (R.map rK) (Sum.inl (s:Int))=some (.int (f s)):=by
 by_cases e:s∈R.map Prod.fst
 ·obtain⟨t,ht,rfl⟩:=cY.mp e;rw[rW h.nd ht,h.mem ht]
 ·exact absurd (h.no e) hz
noncomputable def cz(L:List Nat):List V:=L.map λ(n:Nat)=>V.int (n:Int)
theorem QI(h:pJ R f)(s:Nat):(dG (R.map rK) (Sum.inl (s:Int))).isSome=decide (f s≠0):=by
 rw[DU];by_cases e:s∈R.map Prod.fst
 ·obtain⟨t,ht,rfl⟩:=cY.mp e;rw[Je h.nd ht,h.mem ht,aC (h.nz t ht)];rfl
 ·rw[yj.mpr λt ht=>by simp;intro z;exact e (by rw[← z];exact n8 ht),h.no e];rfl
theorem Jk(hd:H d=none)(s:aU H H'):aU H (S21.del d H'):=λb u e=>by
 rw[rT λz=>by rw[z,hd]at e;cases e];exact s b u e
theorem xT{o:HO}:S21.del d (upd H d o)=S21.del d H:=by
 funext b
 unfold S21.del;by_cases e:b=d
 ·rw[af e,af e]
 ·rw[ag e,ag e,bU e]
theorem rZ:aU (S21.del d H) H:=λb u e=>(vD e).2
theorem abR(pp:p∈dW){tn:Int}(h:pJ R f)(hf:jq p M f)(t3:tn*f s%p=1):pJ (R.map λt=>(t.1,t.2*tn%p)) (iA p f tn):=by
 obtain⟨p2,_⟩:=gN p pp;have ek:(R.map λt=>(t.1,t.2*tn%p)).map Prod.fst=R.map Prod.fst:=by rw[o6];rfl
 have nd:((R.map λt=>(t.1,t.2*tn%p)).map Prod.fst).Nodup:=by rw[ek];exact h.nd
 refine⟨nd,λx=>?_,λt ht=>?_⟩
 ·by_cases e:x∈R.map Prod.fst
  ·obtain⟨t,ht,rfl⟩:=cY.mp e
   have:=Ah nd (n8 (f:=λt:Nat×Int=>(t.1,t.2*tn%p)) ht)
   rw[this];unfold iA;rw[h.mem ht]
  ·rw[DV (by rw[ek];exact e)];unfold iA;rw[h.no e];simp
 ·obtain⟨u,hu,rfl⟩:=cY.mp ht;intro z;have z:u.2*tn%p=0:=z;have d1:p∣u.2*tn:=Int.dvd_of_emod_eq_zero z;have d2:p∣u.2*tn*f s:=Int.dvd_mul_of_dvd_left d1;have d3:=px p (tn*f s);rw[t3]at d3;have d4:p∣u.2*(1-tn*f s):=kf d3;have d5:p∣u.2:=by
   have:=nZ d2 d4
   rwa[show u.2*tn*f s+u.2*(1-tn*f s)=u.2 by grind]at this
  have r:=hf u.1;rw[h.mem hu]at r;have n0:=h.nz u hu
  have:=Int.le_of_dvd (by lia) d5
  lia
def pK(H:Hp)(RS:List V)(fs:List Fn):Prop:=RS.length=fs.length∧∀(i:Nat)(x:V)(f:Fn),RS[i]?=some x→fs[i]?=some f→∃a,x=.ref a∧DF H a f
def jD(H:Hp)(aM:List (Key×V))(D:List (Nat×Fn)):Prop:=aM.length=D.length∧∀(i:Nat)(kv:Key×V)(t:Nat×Fn),aM[i]?=some kv→D[i]?=some t→∃a,kv=(Sum.inl (t.1:Int),.ref a)∧DF H a t.2
theorem pK.mono{H H':Hp}{RS:List V}{fs:List Fn}(h:pK H RS fs)(s:aU H H'):pK H' RS fs:=⟨h.1,λi x f e1 e2=>let ⟨a,e,g⟩:=h.2 i x f e1 e2;⟨a,e,g.mono s⟩⟩
theorem jD.mono{H H':Hp}{aM:List (Key×V)}{D:List (Nat×Fn)}(h:jD H aM D)(s:aU H H'):jD H' aM D:=⟨h.1,λi x f e1 e2=>let ⟨a,e,g⟩:=h.2 i x f e1 e2;⟨a,e,g.mono s⟩⟩
theorem pK.snoc{RS:List V}{fs:List Fn}(h:pK H RS fs)(g:DF H a f):pK H (RS++[.ref a]) (fs++[f]):=by
 refine⟨by rw[bY,bY,h.1];rfl,λi x q e1 e2=>?_⟩;by_cases hi:i<RS.length
 ·rw[gS hi]at e1;rw[gS (by rw[← h.1];exact hi)]at e2;exact h.2 i x q e1 e2
 ·rw[hU (by lia)]at e1;rw[hU (by rw[← h.1];lia),← h.1]at e2;generalize i-RS.length=j at e1 e2;cases j with
  |zero=>cases e1;cases e2;exact⟨a,rfl,g⟩
  |succ j=>cases e1
theorem QJ{R0 aQ:List Fn}{dn:List Nat}(h:EI p M R0 dn aQ D){t u:Nat×Fn}(hi:D[i]?=some t)(hj:D[j]?=some u)(e:t.1=u.1):i=j:=by
 by_cases c:i=j
 ·exact c
 ·have:=h.alone i j t u hi hj c
  rw[← e,h.one t (dI hi)]at this;cases this
theorem jD.val(h:jD H aM D)(nd:∀(i j:Nat)(t u:Nat×Fn),D[i]?=some t→D[j]?=some u→t.1=u.1→i=j){t:Nat×Fn}(hi:D[i]?=some t):∃a,aM[i]?=some (Sum.inl (t.1:Int),.ref a)∧dG aM (Sum.inl (t.1:Int))=some (.ref a)∧DF H a t.2:=by
 have il:i<aM.length:=by rw[h.1];exact(dH.mp hi).1
 have hk:aM[i]?=some aM[i]:=cC il;obtain⟨a,e,g⟩:=h.2 i _ t hk hi;rw[e]at hk;refine⟨a,hk,?_,g⟩;unfold dG;cases ef:aM.find? λkv=>decide (kv.1=Sum.inl (t.1:Int)) with
 |none=>
  have:=yj.mp ef _ (dI hk)
  simp at this
 |some kv=>
  have k1:kv.1=Sum.inl (t.1:Int):=by simpa using List.find?_some ef
  obtain⟨j,hj⟩:=pW.mp (List.mem_of_find?_eq_some ef);have jl:j<D.length:=by rw[← h.1];exact(dH.mp hj).1
  have hD:D[j]?=some D[j]:=cC jl;obtain⟨b,e2,_⟩:=h.2 j kv _ hj hD;rw[e2]at k1
  have:=nd i j t _ hi hD (nQ.mp k1).symm
  subst this;rw[hk]at hj;cases hj;rfl
theorem jD.put(h:jD H aM D)(nd:∀(i j:Nat)(t u:Nat×Fn),D[i]?=some t→D[j]?=some u→t.1=u.1→i=j){t:Nat×Fn}(hi:D[i]?=some t)(g:DF H a f):jD H (gG aM (Sum.inl (t.1:Int)) (.ref a)) (D.set i (t.1,f)):=by
 obtain⟨a0,hk,hv,_⟩:=h.val nd hi;have abS:(aM.any λkv=>decide (kv.1=Sum.inl (t.1:Int)))=true:=by rw[w8,hv];rfl
 unfold gG;rw[af abS];refine⟨by rw[bO,List.length_set,h.1],λj kv u e1 e2=>?_⟩;rw[du]at e1;have jl:j<aM.length:=by
  by_cases c:j<aM.length
  ·exact c
  ·rw[iR (by lia)]at e1;cases e1
 have Aj:aM[j]?=some aM[j]:=cC jl;have my:D[j]?=some (D[j]'(by rw[← h.1];exact jl)):=cC _;obtain⟨b,eb,gb⟩:=h.2 j _ _ Aj my;rw[Aj]at e1;have e1:(if aM[j].1=Sum.inl (t.1:Int)then(aM[j].1,V.ref a)else aM[j])=kv:=dZ e1
 rw[List.getElem?_set]at e2;by_cases c:i=j
 ·subst c;rw[af rfl,af (by rw[← h.1];exact jl)]at e2;cases e2;rw[hi]at my;cases my;rw[eb,af rfl]at e1;exact⟨a,e1.symm,g⟩
 ·rw[ag c,my]at e2;cases e2;rw[eb,ag λz=>c (nd i j t _ hi my (nQ.mp z).symm)]at e1;exact⟨b,e1.symm,gb⟩
theorem jD.snoc(h:jD H aM D)(g:DF H a f)(hs:∀t∈D,t.1≠s):jD H (gG aM (Sum.inl (s:Int)) (.ref a)) (D++[(s,f)]):=by
 have hn:dG aM (Sum.inl (s:Int))=none:=by
  cases e:dG aM (Sum.inl (s:Int)) with
  |none=>rfl
  |some v=>
   obtain⟨kv,Jl,ek⟩:=cY.mp (Jg e);obtain⟨j,hj⟩:=pW.mp Jl;have jl:j<D.length:=by rw[← h.1];exact(dH.mp hj).1
   obtain⟨b,e2,_⟩:=h.2 j kv _ hj (cC jl);rw[e2]at ek;exact absurd (nQ.mp ek) (hs _ (n6 jl))
 rw[G5 _ hn];refine⟨by rw[bY,bY,h.1];rfl,λi kv t e1 e2=>?_⟩;by_cases hi:i<aM.length
 ·rw[gS hi]at e1;rw[gS (by rw[← h.1];exact hi)]at e2;exact h.2 i kv t e1 e2
 ·rw[hU (by lia)]at e1;rw[hU (by rw[← h.1];lia),← h.1]at e2;generalize i-aM.length=j at e1 e2;cases j with
  |zero=>cases e1;cases e2;exact⟨a,rfl,g⟩
  |succ j=>cases e1
noncomputable def lU(F:Nat×Fn→Nat×Fn)(D:List (Nat×Fn))(j:Nat):List (Nat×Fn):=(D.take j).map F++D.drop j
theorem DY(hj:j≤D.length):(lU F D j)[i]?=if i<j then D[i]?.map F else D[i]?:=by
 unfold lU;have l:((D.take j).map F).length=j:=by rw[bO,dE];lia
 by_cases c:i<j
 ·rw[af c,gS (by lia),du,List.getElem?_take_of_lt c]
 ·rw[ag c,hU (by lia),l,sJ,show j+(i-j)=i by lia]
theorem Jm(hj:j≤D.length):(lU F D j).length=D.length:=by
 unfold lU;rw[bY,bO,dE,iK];lia
theorem QK{t:Nat×Fn}(h:D[j]?=some t):lU F D (j+1)=(lU F D j).set j (F t):=by
 have hj:=(dH.mp h).1;apply List.ext_getElem?;intro i;rw[DY (by lia),List.getElem?_set,Jm (by lia),DY (by lia)];by_cases e:j=i
 ·subst e;rw[af (by lia),af rfl,af hj,h];rfl
 ·rw[ag e];by_cases c:i<j
  ·rw[af (by lia),af c]
  ·rw[ag (by lia),ag c]
theorem abT:lU F D D.length=D.map F:=by unfold lU;rw[lZ,List.drop_length,hJ]
theorem abU{k:Nat}(hk:k≤D.length)(hF:∀t,(F t).1=t.1)(nd:∀(i j:Nat)(t u:Nat×Fn),D[i]?=some t→D[j]?=some u→t.1=u.1→i=j):∀(i j:Nat)(t u:Nat×Fn),(lU F D k)[i]?=some t→(lU F D k)[j]?=some u→t.1=u.1→i=j:=by
 have key:∀(i:Nat)(t:Nat×Fn),(lU F D k)[i]?=some t→∃t0,D[i]?=some t0∧t0.1=t.1:=λi t h=>by
  rw[DY hk]at h;by_cases c:i<k
  ·rw[af c]at h;cases e:D[i]? with
   |none=>rw[e]at h;cases h
   |some t0=>rw[e]at h;cases h;exact⟨t0,rfl,(hF t0).symm⟩
  ·rw[ag c]at h;exact⟨t,h,rfl⟩
 intro i j t u hi hj e;obtain⟨t0,a1,a2⟩:=key i t hi;obtain⟨u0,b1,b2⟩:=key j u hj;exact nd i j t0 u0 a1 b1 (by rw[a2,b2,e])
def QL:Sp:=λvs H Q _=>∃(p:Int)(od lr:Addr)(ord Z:List Nat)(M:Nat)(RS:List V)(R0:List Fn),vs=[.int p,.ref od,.ref lr]∧p∈dW∧H od=some (.lst (cz ord))∧H lr=some (.lst RS)∧pK H RS R0∧R0.length≤400∧M≤400∧(Z++ord).Nodup∧(∀s∈ord,s<M)∧EI p M R0 Z R0 []∧
 ∀dn aM aQ D H',aU H H'→H' dn=some (.dK aM)→jD H' aM D→EI p M R0 (Z++ord) aQ D→Q (.ref dn) H'
noncomputable abbrev Ak:List Str:=["p","order","rows","done","spot","some","row","turn","one"]
theorem r6:dU Ak ["p","order","rows"] (cg vy):=eT rfl rfl rfl (by decide +kernel) rfl
theorem abV{f fL:Addr}{oJ:FuncData}(F:cO K "_law_solved" "_law_solved" vy f fd)(T:Txt mg)(ui:mg "dict"=none)
  (GL:cj P w K mg base cb 1 fL oJ ["p","row","other","factor"] QB) (kL:Kp K fL) (bL:Binds K oJ ["p","row","other","factor"] []) (mL:Mg mg "_law_less" fL) :
  cj P w K mg base cb 2 f fd ["p","order","rows"] QL:=by
 refine F.ok r6 (λvs H Q E h=>?_) (λcq A outer s H vs Q E hr h=>?_)
 ·obtain⟨p,od,lr,ord,Z,M,RS,R0,rfl,_⟩:=h;rfl
 ·obtain⟨p,od,lr,ord,Z,M,RS,R0,rfl,pp,go,gr,hRS,lR0,hM,nd,oM,h0,q⟩:=h;obtain⟨p2,eC⟩:=gN p pp;have p0:0<p:=by lia
  have z:(2000:Nat)≤sizeLine:=by decide
  have hu:=rh hr;refine⟨_,bo (cy (i:=3) r6.nd rfl (.inl rfl) Cf) (bo (kZ mX rfl (rB K rfl (pv 1)) (de (i:=4) r6.nd rfl (Or.inr rfl)) (bo (cy (i:=5) r6.nd rfl (Or.inr rfl) (oC (N:=["k","rows","spot"]) (own:=1) (caps:=[2,4]) rfl (uX rfl T.range (aR (iD (lH K rfl) rfl T.len lI (aR (pv 2) aY)) aY)) (show gM Ak (cg vy) ["k","rows","spot"] 1 [2,4] _ from .mk' (by decide +kernel)) (λ_ _ _ _ _=>de (i:=0) nk1 rfl (.inl rfl)) (λ_ _ _ _ _=>vg (yB (G9 hu (pv 2) (br (fo K rfl) (pv 1) (pv 0) (λ_ _=>rfl))))) (λ_ _ _ _ _=>pv 0))) (bZ (dQ (df (MV K rfl hr.units) (pv 5) (ip aY) (cN _)) (bo (cy (i:=6) r6.nd rfl (Or.inr rfl) (br (fo K rfl) (pv 2) (br (fo K rfl) (pv 5) aW (λ_ _=>rfl)) (λ_ _=>rfl))) (bo (cy (i:=7) r6.nd rfl (Or.inr rfl) (br (fo K rfl) (oC (N:=["k","p","row","spot"]) (own:=1) (caps:=[0,6,4]) rfl (uX rfl T.range (aR (pv 0) aY)) (show gM Ak (cg vy) ["k","p","row","spot"] 1 [0,6,4] _ from .mk' (by decide +kernel)) (λ_ _ _ _ _=>de (i:=0) nk2 rfl (.inl rfl)) (λ_ _ _ _ _=>vg (df fj (bq kh (bq oq (pv 0) (jZ hu (pv 2) (pv 3) (λ_ _=>rfl))) (pv 1)) aW (cN _))) (λ_ _ _ _ _=>pv 0)) aW (λ_ _=>rfl))) (bo (cy (i:=6) r6.nd rfl (Or.inr rfl) (iT (DR (K:=K) rfl rfl) rfl ui Ag (aR (DT (oC (N:=["one","p","row","turn"]) (own:=1) (caps:=[0,6,7]) rfl (xQ (pv 6)) (show gM Ak (cg vy) ["one","p","row","turn"] 1 [0,6,7] _ from .mk' (by decide +kernel)) (λ_ _ _ _ _=>de (i:=0) nk3 rfl (.inl rfl)) (λ_ _ _ _ _=>me) (λ_ _ _ _ _=>dm (aR (pv 0) (aR (bq kh (bq oq (jZ hu (pv 2) (pv 0) (λ_ _=>rfl)) (pv 3)) (pv 1)) aY))))) aY))) (bo (cy (i:=2) r6.nd rfl (Or.inr rfl) (oC (N:=["k","p","row","rows","some","spot"]) (own:=1) (caps:=[0,6,2,5,4]) rfl (uX rfl T.range (aR (iD (lH K rfl) rfl T.len lI (aR (pv 2) aY)) aY)) (show gM Ak (cg vy) ["k","p","row","rows","some","spot"] 1 [0,6,2,5,4] _ from .mk' (by decide +kernel)) (λ_ _ _ _ _=>de (i:=0) nk4 rfl (.inl rfl)) (λ_ _ _ _ _=>vg (df sU (pv 0) (br (fo K rfl) (pv 4) aW (λ_ _=>rfl)) (cN _))) (λ_ _ _ _ _=>cV GL hr rfl mL kL bL .nil cW (aR (pv 1) (aR (br (fo K rfl) (pv 3) (pv 0) (λ_ _=>rfl)) (aR (pv 2) (aR (vp hu (br (fo K rfl) (pv 3) (pv 0) (λ_ _=>rfl)) (pv 5) aW ⟨rfl,rfl,rfl,rfl⟩) aY))))))) (bo (kZ mX rfl (rB K rfl (iT (abJ rfl) rfl T.list B5 (aR (pv 3) aY))) (de (i:=8) r6.nd rfl (.inl rfl)) (bZ (dQ (yB (G9 hu (pv 4) (jZ hu (pv 3) (pv 8) (λ_ _=>rfl)))) (bZ (xb hu (pv 3) (pv 8) (cV GL hr rfl mL kL bL .nil cW (aR (pv 0) (aR (jZ hu (pv 3) (pv 8) (λ_ _=>rfl)) (aR (pv 6) (aR (jZ hu (jZ hu (pv 3) (pv 8) (λ_ _=>rfl)) (pv 4) (λ_ _=>rfl)) aY))))) rfl)) eA))) (bZ (xb hu (pv 3) (pv 4) (pv 6) rfl)))))))
     eA)))) (bZ (cM (pv 3)))),?_⟩
  intro dn DZ;have s1:=aU.upd (o:=.dK []) DZ;refine⟨_,rfl,od,rfl,⟨_,.of (s1 _ _ go)⟩,yF (xs:=cz ord) (λi σ H'=>aU H (S21.del dn H')∧∃nT gk aQ D aM s4 s5 s6 s7 s8,σ=[some (.int p),some (.ref od),some (.ref nT),some (.ref dn),s4,s5,s6,s7,s8]∧S21.del dn H' nT=some (.lst gk)∧pK (S21.del dn H') gk aQ∧aQ.length≤400∧H' dn=some (.dK aM)∧jD (S21.del dn H') aM D∧D.length≤i∧EI p M R0 (Z++ord.take i) aQ D) ⟨Jk DZ s1,lr,RS,R0,[],[],none,none,none,none,none,rfl,Jk DZ s1 _ _ gr,hRS.mono (Jk DZ s1),lR0,bg,⟨rfl,λi x f e=>by cases e⟩,ck _,by rw[List.take_zero,hJ];exact h0⟩ (λi σ H' _ h=>.of (rZ _ _ (h.1 _ _ go))) ?_ ?_⟩
  ·rintro i x σ H2 hx ⟨sm,nT,gk,aQ,D,aM,s4,s5,s6,s7,s8,rfl,gL,hL,lL,gD,hD,lD,hE⟩;obtain⟨s,hs,rfl⟩:∃s:Nat,ord[i]?=some s∧x=.int (s:Int):=by
    unfold cz at hx;rw[du]at hx;cases h:ord[i]? with
    |none=>rw[h]at hx;cases hx
    |some s=>rw[h]at hx;cases hx;exact⟨s,rfl,rfl⟩
   have io:i<ord.length:=(dH.mp hs).1;have oM':ord.length≤400:=eS (DW M (qR.mp nd).2.1 oM) hM;have et:Z++ord.take (i+1)=Z++ord.take i++[s]:=by rw[iB,hs,← hW];rfl
   have QM:s ∉ Z++ord.take i:=λzz=>by
    have e:Z++ord=(Z++ord.take i)++(s::ord.drop (i+1)):=by
     have:=List.take_append_drop i ord
     rw[List.drop_eq_getElem_cons io,(dH.mp hs).2]at this;rw[hW,this]
    rw[e]at nd;exact(qR.mp nd).2.2 s zz s cU rfl
   have D0:=rZ _ _ gL;have QN:=hL.mono rZ;have vP:=hL.1;refine⟨_,rfl,nT,_,rfl,.inl (.of D0),(gk.length:Int),rfl,by lia,by lia,Gn (n:=gk.length) (lo:=0) (cp:=[some (.ref nT),some (.int (s:Int))]) (λj H' zs=>zs=((List.range j).filter λk=>decide ((aQ.getD k λ_=>0) s≠0)).map λ(u:Nat)=>V.int u) (by lia) rfl (λj H' zs e=>by rw[e,bO];exact eS (uK _ _) (by rw[Bi];exact ck _)) ?_ ?_⟩
   ·rintro j H' zs hj gP rfl;rw[pV];have uj:gk[j]?=some gk[j]:=cC hj;have vQ:aQ[j]?=some (aQ[j]'(by lia)):=cC _;obtain⟨a,ea,R,ga,hR,_⟩:=QN.2 j _ _ uj vQ;rw[ea]at uj;have eg:(aQ.getD j λ_=>0)=aQ[j]'(by lia):=by rw[cH,vQ];rfl
    refine⟨_,rfl,_,rfl,_,rfl,nT,_,(j:Int),.ref a,rfl,rfl,.of (gP _ _ D0),cw uj,a,_,rfl,gH.k (k:=Sum.inl (s:Int)) (gP _ _ ga),_,rfl,?_⟩;rw[QI hR s];refine wI (λhc=>⟨_,rfl,⟨[_],rfl,rfl⟩,gP,?_⟩) (λhc=>⟨⟨[_],rfl,rfl⟩,gP,?_⟩)
    ·rw[yk,o5,Bk (by rw[eg];exact hc),n9,eM];rfl
    ·rw[yk,o5,Bl (by rw[eg];exact hc),n9,hJ]
   rintro H3 zs nF rfl ls QO;have nG:=nF.trans (aU.upd (o:=.lst (((List.range gk.length).filter λk=>decide ((aQ.getD k λ_=>0) s≠0)).map λ(u:Nat)=>V.int u)) QO);have g4:(upd H3 ls (.lst (((List.range gk.length).filter λk=>decide ((aQ.getD k λ_=>0) s≠0)).map λ(u:Nat)=>V.int u))) ls=some (.lst (((List.range gk.length).filter λk=>decide ((aQ.getD k λ_=>0) s≠0)).map λ(u:Nat)=>V.int u)):=bg;generalize upd H3 ls (.lst (((List.range gk.length).filter λk=>decide ((aQ.getD k λ_=>0) s≠0)).map λ(u:Nat)=>V.int u))=H4 at nG g4 ⊢;refine⟨_,rfl,by decide,λle y9=>?_⟩;have qp:=nG.trans (aU.upd (o:=.lst []) y9);have g5:=(aU.upd (o:=.lst []) y9) _ _ g4;have ge:(upd H4 le (.lst [])) le=some (.lst []):=bg;clear nG g4 nF QO y9;generalize upd H4 le (.lst [])=H5 at qp g5 ge ⊢;have ep:(((List.range gk.length).filter λk=>decide ((aQ.getD k λ_=>0) s≠0)).map λ(u:Nat)=>V.int u)=(((List.range gk.length).filter λk=>decide ((aQ.getD k λ_=>0) s≠0)).map λ(u:Nat)=>(u:Int)).map V.int:=by rw[o6];rfl
   refine⟨.list ((((List.range gk.length).filter λk=>decide ((aQ.getD k λ_=>0) s≠0)).map λ(u:Nat)=>(u:Int)).map .int),.list [],.list (.of g5) (by rw[ep];exact cu.ints _),.list (.of ge) .nil,N0 _,N0 [],_,rfl,?_⟩;have dS:=aU.del (Pt:=dn) qp;have y4:=qp _ _ gD;cases D3:(List.range gk.length).filter λk=>decide ((aQ.getD k λ_=>0) s≠0) with
   |nil=>
    rw[D3]at g5;refine MR rfl ⟨sm.trans dS,nT,gk,aQ,D,aM,_,_,_,_,_,rfl,dS _ _ gL,hL.mono dS,lL,y4,hD.mono dS,by lia,?_⟩;rw[et];refine hE.skip λf hf=>?_;obtain⟨j,hj⟩:=pW.mp hf;have jl:j<gk.length:=by rw[vP];exact(dH.mp hj).1
    by_cases ez:f s=0
    ·exact ez
    ·have:j∈(List.range gk.length).filter λk=>decide ((aQ.getD k λ_=>0) s≠0):=g8.mpr ⟨mU.mpr jl,by rw[cH,hj];simpa using ez⟩
     rw[D3]at this;cases this
   |cons k0 tl=>
    rw[D3]at g5;have wW:k0∈(List.range gk.length).filter λk=>decide ((aQ.getD k λ_=>0) s≠0):=by rw[D3];exact cU
    have kl:=mU.mp (g8.mp wW).1;have Jn:gk[k0]?=some gk[k0]:=cC kl;have Al:aQ[k0]?=some (aQ[k0]'(by lia)):=cC _;have QP:(aQ[k0]'(by lia)) s≠0:=by
     have:=(g8.mp wW).2
     rw[cH,Al]at this;simpa using this
    obtain⟨ra,ea,gO⟩:=hL.2 k0 _ _ Jn Al;rw[ea]at Jn;have rg:=hE.rr _ (dI Al);generalize (aQ[k0]'(by lia))=f0 at Al QP gO rg;obtain⟨R,Am,hR,_⟩:=gO.mono dS;have lR:=Ji hR rg;have QQ:=rZ _ _ Am;refine Y3 (by intro e;cases e) ?_;refine⟨_,rfl,_,rfl,ls,_,0,.int (k0:Int),rfl,rfl,.of g5,cw (j:=0) rfl,nT,_,(k0:Int),.ref ra,rfl,rfl,.of (qp _ _ D0),cw Jn,?_⟩;have n0:0<f0 s:=by have:=(rg s).1;lia
    have n1:=(rg s).2.1;obtain⟨t1,t2,t3'⟩:=Gu (n:=f0 s) pp (by lia) n1;have vf:=QH hR QP;refine⟨_,rfl,p,rfl,by lia,by lia,Gn (n:=p.toNat) (lo:=0) (cp:=[some (.int p),some (.ref ra),some (.int (s:Int))]) (λj H' zs=>zs=((List.range j).filter λ(u:Nat)=>decide ((u:Int)*f0 s%p=1)).map λ(u:Nat)=>V.int u) (by lia) rfl (λj H' zs e=>by rw[e,bO];exact eS (uK _ _) (by rw[Bi];exact ck _)) ?_ ?_⟩
    ·rintro j H' zs hj gP rfl;rw[pV];refine⟨_,rfl,_,rfl,_,rfl,ra,.int (f0 s),rfl,by have:=gH.k (k:=Sum.inl (s:Int)) (gP _ _ QQ);rw[vf]at this;exact this,_,_,rfl,rfl,.inl ⟨by lia,by lia⟩,_,rfl,_,_,rfl,rfl,(by show(0:Int)<p;lia),rfl,_,rfl,wI (λheq=>?_) (λcL=>?_)⟩
     ·have zF:(j:Int)*f0 s%p=1:=V.int.inj (aI heq);refine⟨_,rfl,⟨[_],rfl,rfl⟩,gP,?_⟩;rw[yk,o5,Bk (by simpa using zF),n9,eM];rfl
     ·have zE:¬(j:Int)*f0 s%p=1:=λz=>cL (aC (aj V.int z));refine⟨⟨[_],rfl,rfl⟩,gP,?_⟩;rw[yk,o5,Bl (by simpa using zE),n9,hJ]
    rintro H6 zs rQ ez lc oR;have D4:(fV p (f0 s)).toNat∈(List.range p.toNat).filter λ(u:Nat)=>decide ((u:Int)*f0 s%p=1):=by
     refine g8.mpr ⟨mU.mpr (by lia),?_⟩
     have:((fV p (f0 s)).toNat:Int)=fV p (f0 s):=by lia
     rw[this];simpa using t3'
    cases zB:(List.range p.toNat).filter λ(u:Nat)=>decide ((u:Int)*f0 s%p=1) with
    |nil=>rw[zB]at D4;cases D4
    |cons tn us=>
     have zH:tn∈(List.range p.toNat).filter λ(u:Nat)=>decide ((u:Int)*f0 s%p=1):=by rw[zB];exact cU
     have t3:(tn:Int)*f0 s%p=1:=by simpa using(g8.mp zH).2
     have tl':=mU.mp (g8.mp zH).1;rw[zB]at ez;have rR:=rQ.trans (aU.upd (o:=.lst zs) oR);have g7:(upd H6 lc (.lst zs)) lc=some (.lst zs):=bg;clear oR rQ;generalize upd H6 lc (.lst zs)=H7 at rR g7 ⊢;subst ez;refine⟨lc,_,0,.int (tn:Int),rfl,rfl,.of g7,cw (j:=0) rfl,?_⟩;have Jo:=rR _ _ QQ;refine⟨ra,R.map rK,Jo,_,rfl,ra,_,rfl,Jo,λo=>Jd (cp:=[some (.int p),some (.ref ra),some (.int (tn:Int))]) (λi H' zs=>lT K H' zs (((R.take i).map λt=>(t.1,t.2*(tn:Int)%p)).map rK)) bg (by rw[bO];lia) .nil (λi H' zs h=>by rw[h.1,bO,bO,dE];exact we _ _) ?_ ?_⟩
     ·intro i' kv H' zs hk gP hP;rw[du]at hk;cases e:R[i']? with
      |none=>rw[e]at hk;cases hk
      |some t=>
       rw[e]at hk;cases hk;have ht:=dI e;have gf:H' ra=some (.dC o (.dK (R.map rK))):=gP _ _ bg;have r1:=rg t.1;rw[hR.mem ht]at r1;refine rE ⟨_,rfl,_,rfl,_,rfl,ra,.int t.2,rfl,by have:=uh (k:=Sum.inl (t.1:Int)) gf;rw[rW hR.nd ht]at this;exact this,_,rfl,_,_,rfl,rfl,.inl ⟨by lia,by lia⟩,_,rfl,_,_,rfl,rfl,(by show(0:Int)<p;lia),by show 2≤sizeLine;lia,λa hn=>⟨⟨[_],rfl,rfl⟩,gP.trans (.upd hn),?_⟩⟩;rw[iB,e];show lT K _ (zs++[.ref a]) (((R.take i'++[t]).map λt=>(t.1,t.2*(tn:Int)%p)).map rK);rw[eM,eM];exact(hP.mono (.upd hn)).snoc (.of bg)
     intro H8 lM xo hP l8 An;rw[bO,lZ]at hP;have tR:=xo.trans (aU.upd (o:=.lst lM) An);have gf:(upd H8 l8 (.lst lM)) ra=some (.dC o (.dK (R.map rK))):=tR _ _ bg;have ne8:l8≠ra:=λe=>by rw[e,xo _ _ bg]at An;cases An
     have Jp:=Af Jo tR;have QR:=abR pp hR rg t3;refine⟨⟨o,gf⟩,l8,lM,(R.map λt=>(t.1,t.2*(tn:Int)%p)).map rK,rfl,by rw[bU ne8];exact bg,?_,λrb D5=>?_⟩
     ·have mx:=hP.mono (aU.upd (o:=.lst lM) An);refine⟨mx.1,λi x kv e1 e2=>?_⟩;obtain⟨t,rfl,ht⟩:=mx.2 i x kv e1 e2;exact⟨t,rfl,bj.Jj ht gf⟩
     rw[vO _ [] (by rw[lY];exact xS _ QR.nd),lY];have xU:=rR.trans (Jp.trans (aU.upd (o:=.dK ((R.map λt=>(t.1,t.2*(tn:Int)%p)).map rK)) D5));have gB:DF (upd (upd (upd H8 l8 (.lst lM)) ra (.dK (R.map rK))) rb (.dK ((R.map λt=>(t.1,t.2*(tn:Int)%p)).map rK))) rb (iA p f0 tn):=⟨_,bg,QR,by rw[bO];lia⟩;have nrb:rb≠dn:=λe=>by rw[e,(rR.trans Jp) _ _ y4]at D5;cases D5
     clear hP gf tR xo An Jp D5;generalize upd (upd (upd H8 l8 (.lst lM)) ra (.dK (R.map rK))) rb (.dK ((R.map λt=>(t.1,t.2*(tn:Int)%p)).map rK))=H9 at xU gB ⊢;have Jq:=PQ p0 (c:=(tn:Int)) rg;have QS:=aU.del (Pt:=dn) xU;have QT:DF (S21.del dn H9) rb (iA p f0 tn):=by
      obtain⟨Rb,e,r⟩:=gB;exact⟨Rb,by rw[rT nrb];exact e,r⟩
     have Jr:=xU _ _ y4;have QU:=xU _ _ (qp _ _ D0);have Ao:=QN.mono (qp.trans xU);have g59:=xU _ _ g5;obtain⟨g,QW⟩:∃g,g=iA p f0 tn:=⟨_,rfl⟩;rw[← QW]at Jq gB QT;refine⟨_,rfl,nT,_,rfl,.inl (.of QU),(gk.length:Int),rfl,by lia,by lia,Gn (n:=gk.length) (lo:=0) (cp:=[some (.int p),some (.ref rb),some (.ref nT),some (.ref ls),some (.int (s:Int))]) (λj H' zs=>pK (S21.del dn H') zs (((List.range j).filter λk=>decide (k≠k0)).map λk=>fY p (aQ.getD k λ_=>0) g ((aQ.getD k λ_=>0) s))) (by lia) ⟨rfl,λi x f e=>by cases e⟩ (λj H' zs h=>by rw[h.1,bO];exact eS (uK _ _) (by rw[Bi];exact ck _)) ?_ ?_⟩
     ·rintro j H' zs hj gP hz;rw[pV];have uj:gk[j]?=some gk[j]:=cC hj;have vQ:aQ[j]?=some (aQ[j]'(by lia)):=cC _;obtain⟨a,ea,QX⟩:=(Ao.mono gP).2 j _ _ uj vQ;rw[ea]at uj;have eg:(aQ.getD j λ_=>0)=aQ[j]'(by lia):=by rw[cH,vQ];rfl
      have rj:=hE.rr _ (dI vQ);obtain⟨Rj,gj,hj',lj⟩:=id QX;have QY:=gP _ _ QU;refine⟨_,rfl,_,rfl,ls,_,0,.int (k0:Int),rfl,rfl,.of (gP _ _ g59),cw (j:=0) rfl,rfl,_,rfl,HJ (λcL=>?_) (λheq=>?_)⟩
      ·have zE:j≠k0:=λz=>cL (by rw[z]);refine⟨_,rfl,_,rfl,_,rfl,nT,_,(j:Int),.ref a,rfl,rfl,.of QY,cw uj,_,rfl,_,rfl,_,rfl,nT,_,(j:Int),.ref a,rfl,rfl,.of QY,cw uj,a,rfl,.inl ⟨_,.inl gj⟩,_,rfl,_,gH.k (k:=Sum.inl (s:Int)) gj,?_⟩;rw[xR,hj'.cf];refine⟨p,a,rb,_,M,_,g,rfl,p2,eC,QX,gB.mono gP,rj,Jq,(rj s).1,(rj s).2.1,hM,λa' iH iS hd ny=>⟨⟨[_],rfl,rfl⟩,gP.trans iS,?_⟩⟩;have na:a'≠dn:=by
        rcases ny with rfl|ny
        ·obtain⟨b',eb,Rb,gb,_⟩:=hL.2 j _ _ (cC hj) vQ;rw[ea]at eb;cases eb;exact(vD gb).1
        ·exact λe=>by rw[e,gP _ _ Jr]at ny;cases ny
       have jT:DF (S21.del dn iH) a' (fY p (aQ[j]'(by lia)) g ((aQ[j]'(by lia)) s)):=by
        obtain⟨Rb,e,r⟩:=hd;exact⟨Rb,by rw[rT na];exact e,r⟩
       rw[yk,o5,Bk (by simpa using zE),n9,eM];refine(hz.mono (aU.del iS)).snoc ?_;show DF (S21.del dn iH) a' (fY p (aQ.getD j λ_=>0) g ((aQ.getD j λ_=>0) s));rw[eg];exact jT
      ·have zF:j=k0:=by have:=V.int.inj heq;lia
       refine⟨⟨[_],rfl,rfl⟩,gP,?_⟩;rw[yk,o5,Bl (by simpa using zF),n9,hJ];exact hz
     rintro Ha xV Js hz lz jx;have Ap:=Js.trans (aU.upd (o:=.lst xV) jx);have nlz:lz≠dn:=λe=>by rw[e,Js _ _ Jr]at jx;cases jx
     have gz:S21.del dn (upd Ha lz (.lst xV)) lz=some (.lst xV):=by rw[rT nlz];exact bg
     have tq:=hz.mono (aU.del (Pt:=dn) (aU.upd (o:=.lst xV) jx));clear hz jx Js;generalize upd Ha lz (.lst xV)=Hc at Ap gz tq ⊢;have dSc:=(sm.trans dS).trans (QS.trans (aU.del (Pt:=dn) Ap));have Jt:=Ap _ _ Jr;have abW:=hD.mono (dS.trans (QS.trans (aU.del (Pt:=dn) Ap)));have QZ:=QT.mono (aU.del (Pt:=dn) Ap);have Q0:=hE.step pp QM Al t3 (rows':=((List.range gk.length).filter λk=>decide (k≠k0)).map λk=>fY p (aQ.getD k λ_=>0) (iA p f0 tn) ((aQ.getD k λ_=>0) s)) (λf' gT=>?_) (λi' f' jL gT=>?_)
     ·rw[← QW]at Q0;have CF:=λ(i j:Nat)(t u:Nat×Fn) hi hj e=>QJ hE (i:=i) (j:=j) (t:=t) (u:=u) hi hj e;have kD:aM.length=D.length:=hD.1;refine⟨_,rfl,dn,aM,rfl,.inl Jt,λll qH=>?_⟩;have nll:ll≠dn:=λe=>by rw[e,Jt]at qH;cases qH
      have Q3:=aU.upd (o:=.lst (aM.map λkv=>kV kv.1)) qH;have gll:S21.del dn (upd Hc ll (.lst (aM.map λkv=>kV kv.1))) ll=some (.lst (aM.map λkv=>kV kv.1)):=by rw[rT nll];exact bg
      have xW:=aU.del (Pt:=dn) Q3;refine⟨ll,rfl,⟨_,.of bg⟩,yF (xs:=aM.map λkv=>kV kv.1) (λj σ H'=>aU (S21.del dn (upd Hc ll (.lst (aM.map λkv=>kV kv.1)))) (S21.del dn H')∧∃s8 Aq,σ=[some (.int p),some (.ref od),some (.ref lz),some (.ref dn),some (.int (s:Int)),some (.ref ls),some (.ref rb),some (.int (tn:Int)),s8]∧H' dn=some (.dK Aq)∧jD (S21.del dn H') Aq (lU (λt=>(t.1,fY p t.2 g (t.2 s))) D j)) ⟨.refl _,_,aM,rfl,Q3 _ _ Jt,abW.mono xW⟩ (λj σ H' _ h=>.of (rZ _ _ (h.1 _ _ gll))) ?_ ?_⟩
      ·rintro j x σ H' hx ⟨uk,Ar,Aq,rfl,xX,my⟩;rw[du]at hx;have jl:j<aM.length:=by
        by_cases c:j<aM.length
        ·exact c
        ·rw[iR (by lia)]at hx;cases hx
       have Aj:aM[j]?=some aM[j]:=cC jl;have xY:D[j]?=some (D[j]'(by lia)):=cC _;obtain⟨b0,Q4,_⟩:=hD.2 j _ _ Aj xY;rw[Aj,Q4]at hx;have rt:=hE.dr _ (dI xY);generalize (D[j]'(by lia))=t at xY Q4 hx rt;cases hx;have Ju:(lU (λt=>(t.1,fY p t.2 g (t.2 s))) D j)[j]?=some t:=by rw[DY (by lia),ag (qO _)];exact xY
       have Q5:=abU (F:=λt:Nat×Fn=>(t.1,fY p t.2 g (t.2 s))) (k:=j) (D:=D) (by lia) (λ_=>rfl) CF;obtain⟨a,_,hv,Q6⟩:=my.val Q5 Ju;have Q7:=Q6.mono rZ;obtain⟨Ra,As,D6,_⟩:=id Q7;have na:a≠dn:=by
        obtain⟨Rb,gb,_⟩:=Q6;exact(vD gb).1
       have dg:gH H' dn (kV (Sum.inl (t.1:Int))) (some (.ref a)):=by have:=gH.k (k:=Sum.inl (t.1:Int)) xX;rw[hv]at this;exact this
       have Jv:=(QZ.mono xW).mono uk;refine⟨_,rfl,_,rfl,_,rfl,dn,.ref a,rfl,dg,a,_,rfl,gH.k (k:=Sum.inl (s:Int)) As,_,rfl,?_⟩;rw[QI D6 s];refine wI (λhc=>?_) (λhc=>?_)
       ·have hc:t.2 s≠0:=by simpa using hc
        refine⟨_,rfl,_,rfl,_,rfl,dn,.ref a,rfl,dg,_,rfl,_,rfl,_,rfl,dn,.ref a,rfl,dg,_,rfl,a,.int (t.2 s),rfl,by have:=gH.k (k:=Sum.inl (s:Int)) As;rw[QH D6 hc]at this;exact this,p,a,rb,t.2 s,M,t.2,g,rfl,p2,eC,Q7,Jv.mono rZ,rt,Jq,(rt s).1,(rt s).2.1,hM,λa' iH iS hd ny=>?_⟩;have na':a'≠dn:=by
         rcases ny with rfl|ny
         ·exact na
         ·exact λe=>by rw[e,xX]at ny;cases ny
        have jT:DF (S21.del dn iH) a' (fY p t.2 g (t.2 s)):=by
         obtain⟨Rb,e,r⟩:=hd;exact⟨Rb,by rw[rT na'];exact e,r⟩
        have abX:=iS _ _ xX;refine⟨_,rfl,_,rfl,dn,_,rfl,ql.k (k:=Sum.inl (t.1:Int)) abX (by rw[my.1,Jm (by lia)];lia),?_⟩;refine⟨by rw[xT];exact uk.trans (aU.del iS),_,_,rfl,bg,?_⟩;rw[xT,QK xY];exact(my.mono (aU.del iS)).put Q5 Ju jT
       ·have hc:t.2 s=0:=by simpa using hc
        refine⟨uk,_,Aq,rfl,xX,?_⟩;have e:lU (λt=>(t.1,fY p t.2 g (t.2 s))) D (j+1)=lU (λt=>(t.1,fY p t.2 g (t.2 s))) D j:=by
         rw[QK xY];apply List.ext_getElem?;intro i';rw[List.getElem?_set];by_cases ei:j=i'
         ·subst ei;rw[af rfl,Jm (by lia),af (by lia),Ju,hc,PU p0 rt]
         ·rw[ag ei]
        rw[e];exact my
      ·rintro σ H' ⟨uk,Ar,Aq,rfl,xX,my⟩;rw[bO,kD,abT]at my;have Jv:=(QZ.mono xW).mono uk;have dA:=dSc.trans (xW.trans uk);refine⟨_,rfl,_,rfl,_,rfl,dn,_,rfl,ql.k (k:=Sum.inl (s:Int)) xX (by rw[my.1,bO];lia),?_⟩;refine⟨by rw[xT];exact dA,lz,xV,_,_,_,_,_,_,_,_,rfl,by rw[xT];exact(xW.trans uk) _ _ gz,by rw[xT];exact tq.mono (xW.trans uk),?_,bg,?_,?_,by rw[et];exact Q0⟩
       ·rw[bO];refine eS (uK _ _) ?_;rw[Bi,vP];exact lL
       ·rw[xT];refine my.snoc Jv λu hu=>?_;obtain⟨t0,ht0,rfl⟩:=cY.mp hu;exact λe=>QM (e▸hE.keys t0 ht0)
       ·rw[bY,bO];show D.length+1≤i+1;lia
     ·obtain⟨k',iM,rfl⟩:=cY.mp gT;have kl':=mU.mp (g8.mp iM).1;have GZ:aQ[k']?=some (aQ[k']'(by rw[← vP];exact kl')):=cC _;refine⟨_,dI GZ,?_⟩;rw[cH,GZ];rfl
     ·refine cY.mpr ⟨i',g8.mpr ⟨mU.mpr (by rw[vP];exact(dH.mp gT).1),by simpa using jL⟩,?_⟩;rw[cH,gT];rfl
  ·rintro σ H2 ⟨sm,nT,gk,aQ,D,aM,s4,s5,s6,s7,s8,rfl,gL,hL,lL,gD,hD,lD,hE⟩;unfold cz at hE;rw[bO,lZ]at hE;exact⟨_,rfl,q dn aM aQ D H2 (λb u e=>rZ _ _ (sm b u e)) gD (hD.mono rZ) hE⟩
def Jw(D:List (Nat×Fn)):Prop:=∀(i j:Nat)(t u:Nat×Fn),D[i]?=some t→D[j]?=some u→t.1=u.1→i=j
theorem Q8(h:jD H aM D)(nd:Jw D){g:Fn}(e:e9 D s=some g):∃a,dG aM (Sum.inl (s:Int))=some (.ref a)∧DF H a g:=by
 obtain⟨t,ht,rfl,rfl⟩:=xO e;obtain⟨i,hi⟩:=pW.mp ht;obtain⟨a,_,hv,hd⟩:=h.val nd hi;exact⟨a,hv,hd⟩
theorem Q9(h:jD H aM D)(e:e9 D s=none):dG aM (Sum.inl (s:Int))=none:=by
 cases ev:dG aM (Sum.inl (s:Int)) with
 |none=>rfl
 |some v=>
  obtain⟨kv,Jl,ek⟩:=cY.mp (Jg ev);obtain⟨j,hj⟩:=pW.mp Jl;have jl:j<D.length:=by rw[← h.1];exact(dH.mp hj).1
  obtain⟨b,e2,_⟩:=h.2 j kv _ hj (cC jl);rw[e2]at ek;exact absurd (nQ.mp ek) (IT e _ (n6 jl))
def Rc(K:Frag):Sp:=λvs H Q _=>∃(p:Int)(sy ol dn:Addr)(x z:V)(O:List Nat)(aM:List (Key×V))(D:List (Nat×Fn)),vs=[.int p,.ref sy]∧2≤p∧p≤97∧H sy=some (.lst [x,.ref ol,z,.ref dn])∧H ol=some (.lst (cz O))∧O.length≤400∧H dn=some (.dK aM)∧jD H aM D∧Jw D∧
 ∀t DS H',aU H H'→bj K H' t DS→cu K H' DS ((rV p O D).map dD)→Q (.ref t) H'
noncomputable abbrev nPl:List Str:=["p","system","outer","done","found","free","row","spot","number"]
theorem r8:dU nPl ["p","system"] (cg HH):=eT rfl rfl rfl (by decide +kernel) rfl
theorem Rf{O:List Nat}{x:V}(h:(cz O)[i]?=some x):∃s:Nat,O[i]?=some s∧x=.int (s:Int):=by
 unfold cz at h;rw[du]at h;cases e:O[i]? with
 |none=>rw[e]at h;cases h
 |some s=>rw[e]at h;cases h;exact⟨s,rfl,rfl⟩
theorem abY{f:Addr}(F:cO K "_law_plain" "_law_plain" HH f fd)(T:Txt mg):cj P w K mg base cb 1 f fd ["p","system"] (Rc K):=by
 refine F.ok r8 (λvs H Q E h=>?_) (λcq A outer s H vs Q E hr h=>?_)
 ·obtain⟨p,sy,ol,dn,x,z,O,aM,D,rfl,_⟩:=h;rfl
 ·obtain⟨p,sy,ol,dn,x,z,O,aM,D,rfl,p2,eC,gs,go,lO,gd,hD,nd,q⟩:=h;have p0:0<p:=by lia
  have zz:(2000:Nat)≤sizeLine:=by decide
  have hu:=rh hr;refine⟨_,bo (cy (i:=2) r8.nd rfl (.inl rfl) (br (fo K rfl) (pv 1) aW (λ_ _=>rfl))) (bo (cy (i:=3) r8.nd rfl (.inl rfl) (br (fo K rfl) (pv 1) aW (λ_ _=>rfl))) (bo (cy (i:=4) r8.nd rfl (.inl rfl) (ip aY)) (bo (kZ mX rfl (rB K rfl (pv 2)) (de (i:=5) r8.nd rfl (.inl rfl)) (bZ (dQ (yB (Yf hu (pv 5) (pv 3))) (bo (cy (i:=6) r8.nd rfl (.inl rfl) (ip aY)) (bo (kZ mX rfl (rB K rfl (pv 2)) (de (i:=7) r8.nd rfl (.inl rfl)) (bo (cy (i:=8) r8.nd rfl (.inl rfl) (iT yO rfl T.int vi (aR (sV fj (pv 7) (pv 5) (cN _)) aY))) (bo (dQ (yB (G9 hu (pv 7) (pv 3))) (bZ (cy (i:=8) r8.nd rfl (.inl rfl) (bq kh (ni nj (vp hu (jZ hu (pv 3) (pv 7) (λ_ _=>rfl)) (pv 5) aW ⟨rfl,rfl,rfl,rfl⟩)) (pv 0)))) eA) (bZ (nh (pj mV qP qQ pk (pv 6) (aR (pv 8) aY))))))) (bZ (nh (pj mV qP qQ pk (pv 4) (aR (iT (wY K rfl) rfl T.tuple tJ (aR (pv 6) aY)) aY))))))
     eA))) (bZ (cM (iT (wY K rfl) rfl T.tuple tJ (aR (pv 4) aY))))))),?_⟩
  refine⟨_,rfl,sy,_,1,.ref ol,rfl,rfl,.of gs,cw (j:=1) rfl,_,rfl,sy,_,3,.ref dn,rfl,rfl,.of gs,cw (j:=3) rfl,by decide,λlf vF=>?_⟩;have s1:=aU.upd (o:=.lst []) vF;have eO:(cz O).length=O.length:=bO _;refine⟨_,rfl,ol,rfl,⟨_,.of (s1 _ _ go)⟩,yF (xs:=cz O) (λi σ H'=>aU H H'∧∃s5 s6 s7 s8 FS,σ=[some (.int p),some (.ref sy),some (.ref ol),some (.ref dn),some (.ref lf),s5,s6,s7,s8]∧H' lf=some (.lst FS)∧cu K H' FS ((((O.take i).filter λf=>(e9 D f).isNone).map λf=>O.map λs=>gn p D s f).map dD)∧FS.length≤i) ⟨s1,none,none,none,none,[],rfl,bg,.nil,ck _⟩ (λi σ H' _ h=>.of (h.1 _ _ go)) ?_ ?_⟩
  ·rintro i x σ H2 hx ⟨sm,s5,s6,s7,s8,FS,rfl,gF,hF,lF⟩;obtain⟨f,hf,rfl⟩:=Rf hx;have io:i<O.length:=(dH.mp hf).1;have Rg:=sm _ _ gd;have vC:=hD.mono sm;refine⟨_,rfl,_,rfl,dn,_,rfl,gH.k (k:=Sum.inl (f:Int)) Rg,_,rfl,?_⟩;cases e:e9 D f with
   |some g=>
    obtain⟨a,hv,_⟩:=Q8 hD nd e;rw[hv];refine eU ⟨sm,_,_,_,_,FS,rfl,gF,?_,by lia⟩;rw[iB,hf];show cu K H2 FS ((((O.take i++[f]).filter λf=>(e9 D f).isNone).map _).map dD);rw[o5,Bl (by rw[e];simp),n9,hJ];exact hF
   |none=>
    rw[Q9 hD e];refine fU ⟨by decide,λlw Au=>?_⟩;have s2:=aU.upd (o:=.lst []) Au;have nlw:lw≠lf:=λz=>by rw[z,gF]at Au;cases Au
    refine⟨_,rfl,ol,rfl,⟨_,.of ((sm.trans s2) _ _ go)⟩,yF (xs:=cz O) (λj σ H'=>aU H2 H'∧∃s7 s8,σ=[some (.int p),some (.ref sy),some (.ref ol),some (.ref dn),some (.ref lf),some (.int (f:Int)),some (.ref lw),s7,s8]∧H' lw=some (.lst (((O.take j).map λs=>gn p D s f).map V.int))) ⟨s2,_,_,rfl,bg⟩ (λj σ H' _ h=>.of ((sm.trans h.1) _ _ go)) ?_ ?_⟩
    ·rintro j y σ H3 hy ⟨nF,Rh,Ar,rfl,gw⟩;obtain⟨sp,jv,rfl⟩:=Rf hy;have jo:j<O.length:=(dH.mp jv).1;have Ri:=nF _ _ Rg;have hD3:=vC.mono nF;have Rk:(((O.take j).map λs=>gn p D s f).map V.int).length<sizeLine:=by rw[bO,bO,dE];lia
     have Rl:∀v:Int,v=gn p D sp f→((O.take j).map λs=>gn p D s f).map V.int++[.int v]=((O.take (j+1)).map λs=>gn p D s f).map V.int:=λv ev=>by
      rw[iB,jv,eM,eM,ev];rfl
     refine⟨_,rfl,_,rfl,rfl,.inr ⟨_,rfl,?_⟩⟩;refine⟨_,rfl,_,rfl,dn,_,rfl,gH.k (k:=Sum.inl (sp:Int)) Ri,_,rfl,?_⟩;cases e2:e9 D sp with
     |none=>
      rw[Q9 hD e2];refine eU ⟨_,rfl,.inl ⟨rfl,_,.of gw⟩,_,rfl,lw,_,_,rfl,rfl,gw,Rk,?_⟩;refine⟨nF.write Au,_,_,rfl,?_⟩;rw[bg];refine aj (λl=>some (HO.lst l)) (Rl _ ?_);unfold gn;rw[e2];show(if decide (V.int (sp:Int)=V.int (f:Int))=true then(1:Int)else 0)=if sp=f then 1 else 0
      by_cases es:sp=f
      ·rw[af es,af (aC (by rw[es]))]
      ·rw[ag es,ag λz=>es (by have:=V.int.inj (aI z);lia)]
     |some g=>
      obtain⟨a,hv,Ra,As,D6,_⟩:=Q8 hD3 nd e2;have dg:gH H3 dn (kV (Sum.inl (sp:Int))) (some (.ref a)):=by have:=gH.k (k:=Sum.inl (sp:Int)) Ri;rw[hv]at this;exact this
      rw[hv];refine fU ⟨_,rfl,_,rfl,dn,.ref a,rfl,dg,a,rfl,.inl ⟨_,.inl As⟩,_,rfl,_,gH.k (k:=Sum.inl (f:Int)) As,?_⟩;rw[xR,D6.cf];refine⟨_,rfl,_,rfl,_,_,rfl,rfl,(by show(0:Int)<p;lia),?_⟩;refine⟨_,rfl,.inl ⟨rfl,_,.of gw⟩,_,rfl,lw,_,_,rfl,rfl,gw,Rk,?_⟩;refine⟨nF.write Au,_,_,rfl,?_⟩;rw[bg];refine aj (λl=>some (HO.lst l)) (Rl _ ?_);unfold gn;rw[e2]
    ·rintro σ H3 ⟨nF,Rh,Ar,rfl,gw⟩;rw[eO,lZ]at gw;have D7:=nF _ _ gF;refine⟨_,rfl,.inl ⟨rfl,_,.of D7⟩,_,rfl,lw,_,rfl,.inl ⟨.of gw,λlt cB=>?_⟩⟩;have st:=aU.upd (o:=.tup ((O.map λs=>gn p D s f).map V.int)) cB;refine⟨lf,FS,.ref lt,rfl,rfl,st _ _ D7,by lia,?_⟩;have nlt:lt≠lf:=λz=>by rw[z,D7]at cB;cases cB
     refine⟨(sm.trans (nF.trans st)).write vF,_,_,_,_,_,rfl,bg,?_,by rw[bY];show FS.length+1≤i+1;lia⟩;refine cu.wr (st _ _ D7) ?_;rw[iB,hf];show cu K _ (FS++[.ref lt]) ((((O.take i++[f]).filter λf=>(e9 D f).isNone).map λf=>O.map λs=>gn p D s f).map dD);rw[o5,Bk (by rw[e];rfl),n9,eM,eM];exact(cu.mono (nF.trans st) hF).append (.cons (oF (.of bg)) .nil)
  ·rintro σ H2 ⟨sm,s5,s6,s7,s8,FS,rfl,gF,hF,lF⟩;rw[eO,lZ]at hF;refine⟨_,rfl,lf,_,rfl,.inl ⟨.of gF,λt ht=>q t FS _ (sm.trans (.upd ht)) (.of bg) (cu.mono (.upd ht) hF)⟩⟩
def jr(H:Hp)(RS:List V)(qs:List dN):Prop:=RS.length=qs.length∧∀(i:Nat)(x:V)(q:dN),RS[i]?=some x→qs[i]?=some q→∃a,x=.ref a∧H a=some (.dK (q.map rK))
theorem jr.mono{RS:List V}{qs:List dN}(h:jr H RS qs)(s:aU H H'):jr H' RS qs:=⟨h.1,λi x q e1 e2=>let ⟨a,e,g⟩:=h.2 i x q e1 e2;⟨a,e,s _ _ g⟩⟩
theorem jr.nil:jr H [] []:=⟨rfl,λi x q e=>by cases e⟩
theorem jr.one{q:dN}(g:H a=some (.dK (q.map rK))):jr H [.ref a] [q]:=⟨rfl,λi x q' e1 e2=>by
 cases i with
 |zero=>cases e1;cases e2;exact⟨a,rfl,g⟩
 |succ i=>cases e1⟩
theorem jr.two{b:Addr}{q r:dN}(g:H a=some (.dK (q.map rK)))(g':H b=some (.dK (r.map rK))):jr H [.ref a,.ref b] [q,r]:=⟨rfl,λi x q' e1 e2=>by
 match i with
 |0=>cases e1;cases e2;exact⟨a,rfl,g⟩
 |1=>cases e1;cases e2;exact⟨b,rfl,g'⟩
 |i+2=>cases e1⟩
theorem Jx(h:H a=none):∀v∈[V.ref a],∀b,v=.ref b→H b=none:=λv hv b e=>by
 rw[cJ.mp hv]at e;cases e;exact h
theorem abZ{c:Addr}(h:H a=none)(h':H c=none):∀v∈[V.ref a,V.ref c],∀b,v=.ref b→H b=none:=λv hv b e=>by
 rcases(dX.mp hv)with(rfl|hv)
 ·cases e;exact h
 ·exact Jx h' v hv b e
def Jy:Sp:=λvs H Q _=>∃(x:Str)(v:V)(n:Int),vs=[.str x,v]∧(x="times"→v=.int n)∧∀t RS H',aU H H'→H t=none→(∀v∈RS,∀a,v=.ref a→H a=none)→H' t=some (.lst RS)→jr H' RS (dy x n)→Q (.ref t) H'
theorem ab0:dU ["word","number"] ["word","number"] (cg HG):=eT rfl rfl rfl (by decide +kernel) rfl
abbrev Av:TE:=yG (rU λi=>V.int (-i)) (tC (.int 1))
abbrev lV(a b:Int):TE:=pz [(tC (.int a),tC (.int 1)),(tC (.int b),Av)]
abbrev Rm:TE:=pz [(tC (.int 0),tC (.int 1)),(tC (.int 1),tC (.int 1)),(tC (.int 2),Av)]
abbrev Rn:TE:=pz [(tC (.int 0),tC (.int 1))]
abbrev Ro:TE:=pz [(tC (.int 0),aX 1),(tC (.int 1),Av)]
abbrev vR(z:Str):TT:=gg (cx jI (aX 0) (tC (.str z)))
def D8:TS:=cn (dF (pb (vR "id") (vR "cup")) (eB (gE (aZ (lV 0 1) bK))) fh) (cn (dF (vR "swap") (eB (gE (aZ (lV 0 3) (aZ (lV 1 2) bK)))) fh) (cn (dF (vR "copy") (eB (gE (aZ (lV 0 1) (aZ (lV 0 2) bK)))) fh) (cn (dF (vR "add") (eB (gE (aZ Rm bK))) fh) (cn (dF (vR "none") (eB (gE (aZ Rn bK))) fh) (cn (dF (vR "times") (eB (gE (aZ Ro bK))) fh) (eB (gE bK)))))))
theorem Jz{Q:VK}{a b:Nat}(DH:a≠b)(q:∀d,H d=none→Q (.ref d) (upd H d (.dK (([(a,1),(b,-1)]:dN).map rK)))):lV (a:Int) (b:Int) σ H Q:=by
 intro d hd;refine⟨_,rfl,bg,[(Sum.inl (a:Int),.int 1),(Sum.inl (b:Int),.int (-1))],rfl,by show 2≤15;decide,?_⟩;rw[vO _ [] (by rw[lY];exact xS [(a,1),(b,-1)] (by simp[DH])),Br];exact q d hd
theorem Rp{t:TA}{D:Ends}(h:te σ H λv H1=>t σ H1 λvs H2=>(v::vs).length≤sizeLine∧∀l,H2 l=none→D.rt (.ref l) (upd H2 l (.lst (v::vs)))):eB (gE (aZ te t)) D σ H:=h
theorem ab1{t:TA}{R:List V→Hp→Prop}(h:te σ H λv H1=>t σ H1 λvs H2=>R (v::vs) H2):aZ te t σ H R:=h
theorem ab2{D:Ends}{x:Str}{v:V}{n:Int}(hv:x="times"→v=.int n)(q:∀t RS H',aU H H'→H t=none→(∀v∈RS,∀a,v=.ref a→H a=none)→H' t=some (.lst RS)→jr H' RS (dy x n)→D.rt (.ref t) H'):D8 D [some (.str x),some v] H:=by
 have zz:(2000:Nat)≤sizeLine:=by decide
 have dc:∀z:Str,x=z→decide (V.str x=V.str z)=true:=λz e=>aC (by rw[e]);have dn:∀z:Str,x≠z→decide (V.str x=V.str z)=false:=λz e=>ae λh=>e (V.str.inj h);have two:∀(a b c e:Nat),a≠b→c≠e→dy x n=[[(a,1),(b,-1)],[(c,1),(e,-1)]]→eB (gE (aZ (lV (a:Int) (b:Int)) (aZ (lV (c:Int) (e:Int)) bK))) D [some (.str x),some v] H:=λa b c e DH hce he=>by
  refine Rp (Jz DH λd1 h1=>?_);refine ab1 (Jz hce λd2 h2=>?_);refine⟨by show 2≤sizeLine;lia,λt ht=>?_⟩;have s1:=aU.upd (o:=.dK (([(a,1),(b,-1)]:dN).map rK)) h1;have s2:=aU.upd (o:=.dK (([(c,1),(e,-1)]:dN).map rK)) h2;have s3:=aU.upd (o:=.lst [.ref d1,.ref d2]) ht;refine q t _ _ (s1.trans (s2.trans s3)) (j6 (s1.trans s2) ht) (abZ h1 (j6 s1 h2)) bg ?_;rw[he];exact .two ((s2.trans s3) _ _ bg) (s3 _ _ bg)
 unfold D8;by_cases c1:x="id"∨x="cup"
 ·have e:dy x n=[[(0,1),(1,-1)]]:=af c1;have go:eB (gE (aZ (lV 0 1) bK)) D [some (.str x),some v] H:=by
   refine Rp (Jz (a:=0) (b:=1) (by decide) λd1 h1=>?_);refine⟨by show 1≤sizeLine;lia,λt ht=>?_⟩;have s1:=aU.upd (o:=.dK (([(0,1),(1,-1)]:dN).map rK)) h1;have s3:=aU.upd (o:=.lst [.ref d1]) ht;refine q t _ _ (s1.trans s3) (j6 s1 ht) (Jx h1) bg ?_;rw[e];exact .one (s3 _ _ bg)
  refine⟨_,rfl,rfl,_,rfl,?_⟩;by_cases c2:x="id"
  ·rw[dc _ c2];exact fU (fU go)
  ·rw[dn _ c2];refine eU ⟨_,rfl,rfl,_,rfl,?_⟩;rw[dc _ (c1.resolve_left c2)];exact fU go
 have c2:x ≠ "id":=λe=>c1 (.inl e);have c3:x ≠ "cup":=λe=>c1 (.inr e);refine⟨_,rfl,rfl,_,rfl,?_⟩;rw[dn _ c2];refine eU ⟨_,rfl,rfl,_,rfl,?_⟩;rw[dn _ c3];refine eU ⟨_,rfl,rfl,_,rfl,?_⟩;by_cases c4:x="swap"
 ·rw[dc _ c4];exact fU (two 0 3 1 2 (by decide) (by decide) (by rw[c4];exact Dw n))
 rw[dn _ c4];refine eU ⟨_,rfl,rfl,_,rfl,?_⟩;by_cases c5:x="copy"
 ·rw[dc _ c5];exact fU (two 0 1 0 2 (by decide) (by decide) (by rw[c5];exact Dx n))
 rw[dn _ c5];refine eU ⟨_,rfl,rfl,_,rfl,?_⟩;have JA:∀(qr:dN)(d1:Addr),(qr.map Prod.fst).Nodup→H d1=none→dy x n=[qr]→∀R:VK,(∀t H',R (.ref t) H'=D.rt (.ref t) H')→(([V.ref d1]).length≤sizeLine∧∀t,(upd (upd H d1 (.dK [])) d1 (.dK (jN [] (qr.map rK)))) t=none→R (.ref t) (upd (upd (upd H d1 (.dK [])) d1 (.dK (jN [] (qr.map rK)))) t (.lst [.ref d1]))):=λqr d1 ndq h1 he R hR=>by
  rw[vO _ [] (by rw[lY];exact xS qr ndq),Br,lY];refine⟨by show 1≤sizeLine;lia,λt ht=>?_⟩;have s1:=aU.upd (o:=.dK (qr.map rK)) h1;have s3:=aU.upd (o:=.lst [.ref d1]) ht;rw[hR];refine q t _ _ (s1.trans s3) (j6 s1 ht) (Jx h1) bg ?_;rw[he];exact .one (s3 _ _ bg)
 by_cases c6:x="add"
 ·rw[dc _ c6];refine fU λd1 h1=>⟨_,rfl,bg,([(0,1),(1,1),(2,-1)]:dN).map rK,rfl,by show 3≤15;decide,?_⟩;exact JA [(0,1),(1,1),(2,-1)] d1 (by decide) h1 (by rw[c6];exact Dy n) _ λ_ _=>rfl
 rw[dn _ c6];refine eU ⟨_,rfl,rfl,_,rfl,?_⟩;by_cases c7:x="none"
 ·rw[dc _ c7];refine fU λd1 h1=>⟨bg,([(0,1)]:dN).map rK,rfl,by show 1≤15;decide,?_⟩;exact JA [(0,1)] d1 (by decide) h1 (by rw[c7];exact Dz n) _ λ_ _=>rfl
 rw[dn _ c7];refine eU ⟨_,rfl,rfl,_,rfl,?_⟩;by_cases c8:x="times"
 ·rw[dc _ c8,hv c8];refine fU λd1 h1=>⟨_,rfl,_,rfl,bg,([(0,n),(1,-1)]:dN).map rK,rfl,by show 2≤15;decide,?_⟩;exact JA [(0,n),(1,-1)] d1 (by simp) h1 (by rw[c8];exact DA n) _ λ_ _=>rfl
 rw[dn _ c8];refine eU ⟨by decide,λt ht=>?_⟩;refine q t [] _ (.upd ht) ht (λv hv=>by cases hv) bg ?_;have e:dy x n=[]:=by
  unfold dy;rw[ag c1,ag c4,ag c5,ag c6,ag c7,ag c8]
 rw[e];exact .nil
theorem Aw{X:Cx}{a b:Int}{pos p1 p2 p3 p4 p5:Pos}{j1 j2 j3 j4:Nat}:PE X (.Dict [some (.Constant (.int a) j1 p1),some (.Constant (.int b) j2 p2)] [.Constant (.int 1) j3 p3,.UnaryOp .USub (.Constant (.int 1) j4 p4) p5] pos) (lV a b):=by
 refine zm ?_ rfl rfl ?_ ?_
 ·exact rL aW aW (rL aW (ni nj aW) zl)
 ·intro e;cases e
 ·show 2≤15;decide
theorem ab3{f:Addr}(F:cO K "_law_equations" "_law_equations" HG f fd):cj P w K mg base cb 1 f fd ["word","number"] Jy:=by
 refine F.ok ab0 (λvs H Q E h=>?_) (λcq A outer s H vs Q E hr h=>?_)
 ·obtain⟨x,v,n,rfl,_⟩:=h;rfl
 ·obtain⟨x,v,n,rfl,hv,q⟩:=h;refine⟨D8,?_,ab2 hv q⟩;unfold D8;refine bo ?_ ?_
  ·refine dQ ?_ ?_ eA
   ·exact PW.pt (wu (df fj (pv 0) dM (cN _)) (wt (df fj (pv 0) dM (cN _))))
   ·refine bZ ?_;refine cM (te:=gE (aZ (lV 0 1) bK)) ?_;refine ip ?_;refine aR ?_ aY ?_
    ·exact Aw
    ·rfl
  refine bo ?_ ?_
  ·refine dQ ?_ ?_ eA
   ·exact df fj (pv 0) dM (cN _)
   ·refine bZ ?_;refine cM (te:=gE (aZ (lV 0 3) (aZ (lV 1 2) bK))) ?_;refine ip ?_;refine aR ?_ ?_ ?_
    ·exact Aw
    ·refine aR ?_ aY ?_
     ·exact Aw
     ·rfl
    ·rfl
  refine bo ?_ ?_
  ·refine dQ ?_ ?_ eA
   ·exact df fj (pv 0) dM (cN _)
   ·refine bZ ?_;refine cM (te:=gE (aZ (lV 0 1) (aZ (lV 0 2) bK))) ?_;refine ip ?_;refine aR ?_ ?_ ?_
    ·exact Aw
    ·refine aR ?_ aY ?_
     ·exact Aw
     ·rfl
    ·rfl
  refine bo ?_ ?_
  ·refine dQ ?_ ?_ eA
   ·exact df fj (pv 0) dM (cN _)
   ·refine bZ ?_;refine cM (te:=gE (aZ Rm bK)) ?_;refine ip ?_;refine aR ?_ aY ?_
    ·refine zm ?_ rfl rfl ?_ ?_
     ·exact rL aW aW (rL aW aW (rL aW (ni nj aW) zl))
     ·intro e;cases e
     ·show 3≤15;decide
    ·rfl
  refine bo ?_ ?_
  ·refine dQ ?_ ?_ eA
   ·exact df fj (pv 0) dM (cN _)
   ·refine bZ ?_;refine cM (te:=gE (aZ Rn bK)) ?_;refine ip ?_;refine aR ?_ aY ?_
    ·refine zm ?_ rfl rfl ?_ ?_
     ·exact rL aW aW zl
     ·intro e;cases e
     ·show 1≤15;decide
    ·rfl
  refine bo ?_ ?_
  ·refine dQ ?_ ?_ eA
   ·exact df fj (pv 0) dM (cN _)
   ·refine bZ ?_;refine cM (te:=gE (aZ Ro bK)) ?_;refine ip ?_;refine aR ?_ aY ?_
    ·refine zm ?_ rfl rfl ?_ ?_
     ·exact rL aW (pv 1) (rL aW (ni nj aW) zl)
     ·intro e;cases e
     ·show 2≤15;decide
    ·rfl
  refine bZ ?_;exact cM (te:=gE bK) (ip aY)
end S21
namespace L2
open PySem PySem.Spec PyProof.Rows PySem.W
section
variable{X:Cx}{K:Frag}
theorem ab4(its:List Value):slicePick its.toArray none none (some (-1))=its.reverse.toArray:=by
 unfold slicePick;have e1:sliceBounds none none (some (-1)) its.toArray.size=((its.length:Int)-1,-1,-1):=by
  unfold sliceBounds;simp
 rw[e1];have e2:sliceRange ((its.length:Int)-1) (-1) (-1)=(List.range its.length).map λk=>its.length-1-k:=by
  unfold sliceRange;have c:(if(-1:Int)>0 then(if(its.length:Int)-1 < -1 then(-1-((its.length:Int)-1) + -1-1) / -1 else 0)else if(its.length:Int)-1 > -1 then((its.length:Int)-1 - -1 - -1-1)/(- -1)else 0).toNat=its.length:=by
   rw[ag (by decide)];by_cases h:(its.length:Int)-1 > -1
   ·rw[af h];simp
   ·rw[ag h];lia
  dsimp only;rw[c];refine uJ λk hk=>?_
  have:=mU.mp hk
  lia
 show(((sliceRange ((its.length:Int)-1) (-1) (-1)).filterMap (its.toArray[·]?)).toArray)=_;rw[e2]
 congr 1
 apply List.ext_getElem?;intro i;have e3:((List.range its.length).map λk=>its.length-1-k).filterMap (its.toArray[·]?)=(List.range its.length).filterMap λk=>its[its.length-1-k]?:=by
  rw[List.filterMap_map]
  have:((λx=>its.toArray[x]?) ∘ λk=>its.length-1-k)=λk=>its[its.length-1-k]?:=by funext k;simp
  rw[this]
 rw[e3];have e4:(List.range its.length).filterMap (λk=>its[its.length-1-k]?)=its.reverse:=by
  have:∀m,m≤its.length→(List.range m).filterMap (λk=>its[its.length-1-k]?)=its.reverse.take m:=by
   intro m;induction m with
   |zero=>intro _;rfl
   |succ m ih=>
    intro hm;rw[yk,List.filterMap_append,ih (by lia),iB]
    congr 1
    rw[List.getElem?_reverse (by lia)];have hx:its[its.length-1-m]?=some (its[its.length-1-m]'(by lia)):=cC _;rw[List.filterMap_cons,hx];rfl
  have h:=this its.length (ck _);rw[h,← List.length_reverse,lZ]
 rw[e4]
theorem Vals.rev:∀{xs:List V}{us:List Value},Vals xs us→Vals xs.reverse us.reverse
 |_,_,.nil=>.nil
 |_,_,.cons h t=>by rw[Bm,Bm];exact Vals.append (Vals.rev t) (.cons h .nil)
def ab5(K:Frag)(te:TE):TE:=λσ H Q=>te σ H λx H1=>∃a xs,x=.ref a∧dP K H1 a xs∧∀p,H1 p=none→Q (.ref p) (upd H1 p (.lst xs.reverse))
theorem ab6(hK:X.K=K){e:Expr}{te:TE}{j:Nat}{p2 p4 p5 pos:Pos}(he:PE X e te):PE X (.Subscript e (.Slice none none (some (.UnaryOp .USub (.Constant (.int 1) j p4) p5)) p2) pos) (ab5 K te):=by
 subst hK;intro aL s σ H Q I h;refine Subscript_ (bh (he aL s σ H _ I h) λv s1 ⟨x,H1,I1,r1,q1⟩=>?_);obtain⟨a,xs,rfl,hx,q⟩:=q1;cases r1;refine wpAny_Slice (bh (ki (X:=X) aL s1 σ H1 (λo H'=>o=none∧H'=H1) I1 ⟨rfl,rfl⟩) λvl s2 ⟨l,H2,I2,pl,e2⟩=>bh (ki (X:=X) aL s2 σ H2 (λo H'=>o=none∧H'=H2) I2 ⟨rfl,rfl⟩) λvu s3 ⟨u,H3,I3,pu,e3⟩=>bh (i7 (X:=X) (te:=yG (rU λi=>V.int (-i)) (tC (.int 1))) (ni nj aW) aL s3 σ H3 (λo H'=>o=some (-1)∧H'=H3) I3 ⟨_,rfl,_,rfl,rfl,rfl⟩) λvs s4 ⟨st,H4,I4,ps,e4⟩=>?_);obtain⟨rfl,rfl⟩:=e2;obtain⟨rfl,rfl⟩:=e3;obtain⟨rfl,rfl⟩:=e4;have I5:Inv X aL σ H4 { s4 with heap:=s4.heap.push { cls:=.type "slice",data:=.fields #[vl,vu,vs] } }:=I4.kept (t':=s4.toks) λb ob q=>dj _ q;obtain⟨its,r,ht,hz⟩:=I5.list hx;have cD:=r.length;show wpAny (model X.prog X.w) X.A (subscriptTail e (.Slice none none (some (.UnaryOp .USub (.Constant (.int 1) j p4) p5)) p2) (.ref a) (.ref s4.heap.objs.size)) (EP X aL σ Q) X.xe { s4 with heap:=s4.heap.push { cls:=.type "slice",data:=.fields #[vl,vu,vs] } };refine tail_any (ops:=[.ref a,.ref s4.heap.objs.size]) ht.isList.typeIs slot_list_getitem.lookup ?_ (by with_unfolding_all rfl);refine wpAny_getItem_list_slice ht.isList (Heap.IsSliceOf.new ..) pl pu ps (by simp) ?_ (by rw[eE];lia);rw[ab4];refine⟨.ref _,_,I5.laid (t':=s4.toks) (o:=.lst xs.reverse) (λb ob q=>dj _ q) (ck _) ?_,rfl,q _ (I5.bz.fresh (ck _))⟩;exact⟨by rw[List.length_reverse];exact hz,its.reverse,0,r.rev,gJ _ rfl⟩
end
end L2
namespace S21
open PySem L2 Bw
section
variable{p:Int}
theorem JB{x:Str}{n:Int}:∀q∈dy x n,(q.map Prod.fst).Nodup∧q.length≤3:=by
 unfold dy
 repeat' split
 all_goals (intro q hq;simp at hq)
 all_goals (try (rcases hq with rfl|rfl))
 all_goals (try subst hq)
 all_goals simp
theorem JC(x:Str)(n:Int):(dy x n).length≤2:=by
 unfold dy
 repeat' split
 all_goals simp
theorem JD{N:Nat}{q:dN}(h:(q.map Prod.fst).Nodup):((gQ N q).map Prod.fst).Nodup:=by
 unfold gQ;rw[o6];have e:(Prod.fst ∘ λt:Nat×Int=>(N+t.1,t.2))=(λs=>N+s)∘(Prod.fst:Nat×Int→Nat):=rfl;rw[e,← o6];exact List.pairwise_map.mpr (h.imp λcL z=>cL (by lia))
theorem vS:∀{d:Drw}{N:Nat},d.wf p→(aN d N).2≤N+4*d.bc.length∧(aN d N).1.aQ.length≤2*d.bc.length∧∀q∈(aN d N).1.aQ,(q.map Prod.fst).Nodup∧q.length≤3
 | .box x l r aQ,N,h=>by
  obtain⟨h1,h2,_⟩:=xB _ h;refine⟨by show N+l+r≤N+4*1;have h1:l≤2:=h1;have h2:r≤2:=h2;lia,by show((dy x 0).map (gQ N)).length≤2*1;rw[bO];exact JC x 0,λq hq=>?_⟩;obtain⟨q0,h0,rfl⟩:=cY.mp hq;obtain⟨a,b⟩:=JB q0 h0;exact⟨JD a,by unfold gQ;rw[bO];exact b⟩
 | .times n,N,_=>by
  refine⟨by show N+1+1≤N+4*2;lia,by show((dy "times" n).map (gQ N)).length≤2*2;rw[bO];have:=JC "times" n;lia,λq hq=>?_⟩;obtain⟨q0,h0,rfl⟩:=cY.mp hq;obtain⟨a,b⟩:=JB q0 h0;exact⟨JD a,by unfold gQ;rw[bO];exact b⟩
 | .back d,N,h=>by
  obtain⟨a,b,c⟩:=vS (d:=d) (N:=N) h;have e:(Drw.back d).bc.length=d.bc.length+1:=by show(V.str "back"::d.bc).length=_;rw[eK]
  exact⟨by show(aN d N).2≤_;lia,by show(aN d N).1.aQ.length≤_;lia,c⟩
 | .cF x y,N,h=>by
  obtain⟨a,b,c⟩:=vS (d:=y) (N:=N) h.2;obtain⟨a',b',c'⟩:=vS (d:=x) (N:=(aN y N).2) h.1;have e:(Drw.cF x y).bc.length=x.bc.length+y.bc.length+1:=by show(V.str "beside"::(x.bc++y.bc)).length=_;rw[eK,bY]
  rw[e];refine⟨by show(aN x (aN y N).2).2≤_;lia,?_,λq hq=>(dq.mp hq).elim (c q) (c' q)⟩;show((aN y N).1.aQ++(aN x (aN y N).2).1.aQ).length≤_;rw[bY];lia
 | .bh x y,N,h=>by
  obtain⟨a,b,c⟩:=vS (d:=y) (N:=N) h.2.1;obtain⟨a',b',c'⟩:=vS (d:=x) (N:=(aN y N).2) h.1;have e:(Drw.bh x y).bc.length=x.bc.length+y.bc.length+1:=by show(V.str "then"::(x.bc++y.bc)).length=_;rw[eK,bY]
  rw[e];refine⟨by show(aN x (aN y N).2).2≤_;lia,?_,λq hq=>(dq.mp hq).elim (c q) (c' q)⟩;show((aN y N).1.aQ++(aN x (aN y N).2).1.aQ).length≤_;rw[bY];lia
end
def Rq(K:Frag)(H:Hp)(t:Addr)(A:iJ):Prop:=∃(pt lr al a b c:Addr)(RS:List V),H t=some (.lst [.ref pt,.ref lr,.ref al])∧bj K H pt [.ref a,.ref b,.ref c]∧H a=some (.lst (cz A.l))∧H b=some (.lst (cz A.r))∧H c=some (.lst (cz A.cS))∧H lr=some (.lst RS)∧jr H RS A.aQ∧H al=some (.dK ((A.al.map qI).map rK))
def Rr(K:Frag):Sp:=λvs H Q _=>∃(p:Int)(aw:Addr)(d:Drw),vs=[.ref aw]∧d.wf p∧d.bc.length≤99∧bj K H aw d.bc∧∀t H',aU H H'→Rq K H' t (aN d 0).1→Q (.ref t) H'
def Rt(H:Hp)(t:Addr)(p:Int)(d:Drw):Prop:=∃(ol hl dn:Addr)(aM:List (Key×V))(aQ:List Fn)(D:List (Nat×Fn)),H t=some (.lst [.int (d.aO:Int),.ref ol,.ref hl,.ref dn])∧H ol=some (.lst (cz ((aN d 0).1.l++(aN d 0).1.r)))∧H hl=some (.lst (cz (aN d 0).1.cS))∧H dn=some (.dK aM)∧jD H aM D∧
 EI p (aN d 0).2 (qG p (aN d 0).1) ((aN d 0).1.al.map Prod.fst++((aN d 0).1.cS++((aN d 0).1.l++(aN d 0).1.r).reverse)) aQ D
def Ru(K:Frag):Sp:=λvs H Q _=>∃(p:Int)(aw:Addr)(d:Drw),vs=[.int p,.ref aw]∧p∈dW∧d.wf p∧d.bc.length≤99∧bj K H aw d.bc∧∀t H',aU H H'→Rt H' t p d→Q (.ref t) H'
theorem ab7:(["row","alias","p"]:List Str).Nodup:=by decide +kernel
noncomputable abbrev Rv:List Str:=["p","words","part","rows","alias","outer","done"]
theorem vT:dU Rv ["p","words"] (cg CA):=eT rfl rfl rfl (by decide +kernel) rfl
theorem ab8{f fP fM fS:Addr}{fd Ax oK lK:FuncData}(F:cO K "_law_system" "_law_system" CA f fd)(T:Txt mg)
  (GP:cj P w K mg base cb 2 fP Ax ["words"] (Rr K)) (kP:Kp K fP) (bP:Binds K Ax ["words"] []) (mP:Mg mg "_law_ports" fP)
  (GM:cj P w K mg base cb 1 fM oK ["p","row","alias"] QF) (kM:Kp K fM) (bM:Binds K oK ["p","row","alias"] []) (mM:Mg mg "_law_merged" fM)
  (GS:cj P w K mg base cb 2 fS lK ["p","order","rows"] QL) (kS:Kp K fS) (bS:Binds K lK ["p","order","rows"] []) (mS:Mg mg "_law_solved" fS) :
  cj P w K mg base cb 3 f fd ["p","words"] (Ru K):=by
 refine F.ok vT (λvs H Q E h=>?_) (λcq A outer s H vs Q E hr h=>?_)
 ·obtain⟨p,aw,d,rfl,_⟩:=h;rfl
 ·obtain⟨p,aw,d,rfl,pp,hd,hw,hq,q⟩:=h;obtain⟨p2,eC⟩:=gN p pp;have zz:(2000:Nat)≤sizeLine:=by decide
  have jw:eW 1 _:=hr.mono (by decide);refine⟨_,bo (sR (cV GP hr rfl mP kP bP .nil cW (aR (pv 1) aY)) (Xx (n:=3) rfl (iF (de (i:=2) vT.nd rfl (.inl rfl)) (iF (de (i:=3) vT.nd rfl (.inl rfl)) (iF (de (i:=4) vT.nd rfl (Or.inr rfl)) qa))))) (bo (rm (i:=3) (N:=["row","alias","p"]) (own:=1) (caps:=[4,0]) rfl vT.nd rfl rfl (rB K rfl (pv 3)) (show gM Rv (cg CA) ["row","alias","p"] 1 [4,0] _ from .mk' (by decide +kernel)) (λ_ _ _ _ _=>de (i:=0) ab7 rfl (.inl rfl)) (λ_ _ _ _ _=>me) (λ_ _ _ _ _=>cV GM jw rfl mM kM bM .nil cW (aR (pv 2) (aR (pv 0) (aR (pv 1) aY))))) (bo (cy (i:=5) vT.nd rfl (.inl rfl) (bq oy (br (bX K rfl) (pv 2) aW (λ_ _=>rfl)) (br (bX K rfl) (pv 2) aW (λ_ _=>rfl)))) (bo (cy (i:=6) vT.nd rfl (.inl rfl) (cV GS hr rfl mS kS bS .nil cW (aR (pv 0) (aR (bq oy (br (bX K rfl) (pv 2) aW (λ_ _=>rfl)) (ab6 (K:=K) rfl (pv 5))) (aR (pv 3) aY))))) (bZ (cM (ip (aR (iD (lH K rfl) rfl T.len lI (aR (br (bX K rfl) (pv 2) aW (λ_ _=>rfl)) aY)) (aR (pv 5) (aR (br (bX K rfl) (pv 2) aW (λ_ _=>rfl)) (aR (pv 6) aY)))))))))),?_⟩
  refine⟨_,rfl,p,aw,d,rfl,hd,hw,hq,λt H1 s1 hP=>?_⟩;obtain⟨pt,lr,al,a,b,c,RS,g1,g2,ga,gb,gc,gr,hE,gl⟩:=hP;refine⟨t,_,rfl,.of g1,rfl,_,_,rfl,_,_,rfl,_,_,rfl,rfl,?_⟩;obtain⟨f1,f2,f3⟩:=vS (N:=0) hd;obtain⟨l1,l2⟩:=jn (N:=0) hd;have hS:=abk pp hd;have Ad:=Ab hd;have cB:=λ(s:Nat)(hv:s∈(aN d 0).1.all)=>(nO hd hv).2;have lA:=DW _ Ad cB;have vP:RS.length=(aN d 0).1.aQ.length:=hE.1;have zz2:(aN d 0).2≤400:=by lia
  have adA:(aN d 0).1.l.length+(aN d 0).1.r.length+(aN d 0).1.cS.length≤400:=by
   unfold iJ.all at lA;simp only[bY]at lA;lia
  have ll:∀L:List Nat,(cz L).length=L.length:=λL=>bO _;refine⟨_,rfl,lr,rfl,⟨_,.of gr⟩,Gm (cp:=[some (.ref al),some (.int p)]) (λi H' zs=>pK H' zs (((aN d 0).1.aQ.take i).map (qF p (aN d 0).1.al))) (.of gr) (by lia) ⟨rfl,λi x f e=>by cases e⟩ (λi H' zs h=>by rw[h.1,bO,dE];exact we _ _) ?_ ?_⟩
  ·rintro i x H' zs hx sm hz;have hi:i<(aN d 0).1.aQ.length:=by rw[← vP];exact(dH.mp hx).1
   have JE:(aN d 0).1.aQ[i]?=some ((aN d 0).1.aQ[i]):=cC hi;obtain⟨n1,n2⟩:=f3 _ (dI JE);obtain⟨ra,rfl,Am⟩:=hE.2 i x _ hx JE;refine rE ⟨_,rfl,_,rfl,_,rfl,p,ra,al,_,(aN d 0).1.al,rfl,p2,eC,sm _ _ Am,n1,by lia,sm _ _ gl,λa' iH iS jT=>⟨⟨[_],rfl,rfl⟩,sm.trans iS,?_⟩⟩;rw[iB,JE];show pK iH (zs++[.ref a']) (((aN d 0).1.aQ.take i++[(aN d 0).1.aQ[i]]).map (qF p (aN d 0).1.al));rw[eM];exact(hz.mono iS).snoc jT
  rintro H2 zs vx hz lm zi;rw[vP,lZ]at hz;have s2:=vx.trans (aU.upd (o:=.lst zs) zi);have gm:(upd H2 lm (.lst zs)) lm=some (.lst zs):=bg;have qi:=hz.mono (aU.upd (o:=.lst zs) zi);clear hz zi vx;generalize upd H2 lm (.lst zs)=H3 at s2 gm qi ⊢;refine⟨_,rfl,pt,_,0,.ref a,rfl,rfl,s2.bt g2,cw (j:=0) rfl,_,rfl,pt,_,1,.ref b,rfl,rfl,s2.bt g2,cw (j:=1) rfl,a,b,_,_,rfl,rfl,s2 _ _ ga,s2 _ _ gb,by rw[ll,ll];lia,λol D9=>?_⟩;have s3:=s2.trans (aU.upd (o:=.lst (cz (aN d 0).1.l++cz (aN d 0).1.r)) D9);have Rx:=(aU.upd (o:=.lst (cz (aN d 0).1.l++cz (aN d 0).1.r)) D9) _ _ gm;have Ry:=qi.mono (aU.upd (o:=.lst (cz (aN d 0).1.l++cz (aN d 0).1.r)) D9);have go:(upd H3 ol (.lst (cz (aN d 0).1.l++cz (aN d 0).1.r))) ol=some (.lst (cz ((aN d 0).1.l++(aN d 0).1.r))):=by rw[bg];unfold cz;rw[eM]
  clear s2 gm qi D9;generalize upd H3 ol (.lst (cz (aN d 0).1.l++cz (aN d 0).1.r))=H4 at s3 Rx Ry go ⊢;refine⟨_,rfl,_,rfl,pt,_,2,.ref c,rfl,rfl,s3.bt g2,cw (j:=2) rfl,_,rfl,ol,_,rfl,.of go,λlv hlv=>?_⟩;have s4:=aU.upd (o:=.lst (cz ((aN d 0).1.l++(aN d 0).1.r)).reverse) hlv;refine⟨c,lv,_,_,rfl,rfl,(s3.trans s4) _ _ gc,bg,by rw[List.length_reverse,ll,ll,bY];lia,λlo L1=>?_⟩;have ab9:cz (aN d 0).1.cS++(cz ((aN d 0).1.l++(aN d 0).1.r)).reverse=cz ((aN d 0).1.cS++((aN d 0).1.l++(aN d 0).1.r).reverse):=by unfold cz;simp[List.map_reverse]
  rw[ab9];have s5:=s4.trans (aU.upd (o:=.lst (cz ((aN d 0).1.cS++((aN d 0).1.l++(aN d 0).1.r).reverse))) L1);have D4:∀s∈(aN d 0).1.cS++((aN d 0).1.l++(aN d 0).1.r).reverse,s<(aN d 0).2:=λs hs=>by
   refine DK hd ?_;rcases(dq.mp hs)with(z|z)
   ·exact eJ _ z
   ·exact e7 _ (List.mem_reverse.mp z)
  have aca:((aN d 0).1.al.map Prod.fst++((aN d 0).1.cS++((aN d 0).1.l++(aN d 0).1.r).reverse)).Nodup:=List.nodup_iff_count.mpr λs=>by
   have:=List.nodup_iff_count.mp Ad s
   unfold iJ.all at this;simp only[Bq,List.count_reverse]at this ⊢;lia
  refine⟨_,rfl,p,lo,lm,_,_,(aN d 0).2,zs,qG p (aN d 0).1,rfl,pp,bg,s5 _ _ Rx,Ry.mono s5,by unfold qG;rw[bO];lia,zz2,aca,D4,hS,λdn aM aQ D H5 s6 gdn JF hEn=>?_⟩;have s7:=s5.trans s6;have s8:=s3.trans s7;refine⟨_,rfl,pt,_,0,.ref a,rfl,rfl,s8.bt g2,cw (j:=0) rfl,a,_,rfl,.inl (.of (s8 _ _ ga)),_,rfl,_,rfl,pt,_,2,.ref c,rfl,rfl,s8.bt g2,cw (j:=2) rfl,_,rfl,by show 4≤sizeLine;lia,λt' mn=>?_⟩;have s9:=aU.upd (o:=.lst [.int ((cz (aN d 0).1.l).length:Int),.ref ol,.ref c,.ref dn]) mn;refine q t' _ (s1.trans (s8.trans s9)) ⟨ol,c,dn,aM,aQ,D,?_,(s7.trans s9) _ _ go,(s8.trans s9) _ _ gc,s9 _ _ gdn,JF.mono s9,hEn⟩;rw[bg,ll,l1]
end S21
namespace L2
open PySem PySem.Spec PyProof.Rows PySem.W
section
variable{X:Cx}{K:Frag}
theorem Rz:∀{ns:List Int}{its:List Value},Vals (ns.map V.int) its→∀(i:Nat)(v:Value),its[i]?=some v→∃t,v=.int (ns.getD i 0) t
 | [],_,.nil,i,v,h=>by cases h
 |n::ns,_,.cons r rr,0,v,h=>by
  obtain⟨t,rfl⟩:=r;cases h;exact⟨t,rfl⟩
 |n::ns,_,.cons r rr,i+1,v,h=>Rz rr i v h
def acb(K:Frag):List V→Hp→VK→Prop:=λxs H Q=>∃(p:Addr)(ns:List Int),xs=[.ref p]∧bj K H p (ns.map V.int)∧∀n:Int,Q (.int n) H
theorem acd(hK:X.K=K)(hc:X.calm=true):gY X (.builtin "sum") (acb K):=by
 subst hK;intro aL s σ H vs us Q I r h;obtain⟨p,ns,rfl,hq,q⟩:=h;obtain⟨u,rfl,ru⟩:=vals1 r;cases ru;obtain⟨its,rv,pt,hz⟩:=I.tuple hq;have ht:s.heap.IsTuple p its.toArray:=pt;have cB:p<s.heap.objs.size:=by obtain⟨_,e,_⟩:=id ht;exact dB e
 have hh:(X.A).in1.handled=none:=by simp[I.ok.hd hc]
 refine call_sum_walkG (wpAny_pyIter_tuple ht ?_);refine⟨_,_,_,_,_,_,λi=>ns.getD i 0,rfl,Walks.tuple hh _ p (fu cB) its.toArray,⟨⟨_,gJ _ rfl,rfl,rfl⟩,ht.at λo e=>dj _ e⟩,λb hb=>?_,λi v hv=>Rz rv i v (by simpa using hv),λh' tk t' hk=>?_⟩
 ·rcases(dX.mp hb)with(rfl|hb)
  ·rw[lX];exact Nat.lt_succ_self _
  ·rw[cJ.mp hb,lX];exact Nat.lt_succ_of_lt cB
 ·refine⟨.int _,H,I.kept (t':=tk) λb o e=>?_,⟨t',rfl⟩,q _⟩;exact hk b o (λz=>absurd (dB e) (by rw[cJ.mp z];exact qO _)) (dj _ e)
end
end L2
namespace S21
open PySem L2 Bw
theorem smW{p:Int}{d:Drw}(h:d.wf p)(hl:d.bc.length≤98):d.sm:=Drw.xC h (by lia)
theorem ace{p:Int}(pp:p∈dW){d:Drw}(hd:d.wf p)(hs:d.sm){H:Hp}{t:Addr}(h:Rt H t p d) :
  ∃(ol hl dn:Addr)(aM:List (Key×V))(D:List (Nat×Fn)),H t=some (.lst [.int (d.aO:Int),.ref ol,.ref hl,.ref dn])∧H ol=some (.lst (cz ((aN d 0).1.l++(aN d 0).1.r)))∧H dn=some (.dK aM)∧jD H aM D∧Jw D∧rV p ((aN d 0).1.l++(aN d 0).1.r) D=d.aQ p:=by
 obtain⟨ol,hl,dn,aM,aQ,D,g1,g2,_,g4,h5,hE⟩:=h;exact⟨ol,hl,dn,aM,D,g1,g2,g4,h5,λi j t u hi hj e=>QJ hE hi hj e,abp pp hd hs hE⟩
theorem acf:(["row"]:List Str).Nodup:=by decide +kernel
def RA(K:Frag)(Pt:Addr):Sp:=λvs H Q _=>∃(p:Int)(aw:Addr)(d:Drw),vs=[.int p,.ref aw]∧p∈dW∧d.wf p∧d.bc.length≤98∧bj K H aw d.bc∧j5 H Pt (qv lN) qw∧∀H',aU (S21.del Pt H) H'→j5 H' Pt (qv lN) qw→Q (.bl true) H'
noncomputable abbrev RB:List Str:=["p","words","found","due"]
theorem JG:dU RB ["p","words"] (cg CB):=eT rfl rfl rfl (by decide +kernel) rfl
theorem acg{Pt f fL fQ fS:Addr}{fd oJ RC lK:FuncData}(F:cO K "_law_right" "_law_right" CB f fd)(T:Txt mg)
  (GL:cj P w K mg base cb 10 fL oJ ["p","words"] (O3 K Pt)) (kL:Kp K fL) (bL:Binds K oJ ["p","words"] []) (mL:Mg mg "plain" fL)
  (GQ:cj P w K mg base cb 1 fQ RC ["p","system"] (Rc K)) (kQ:Kp K fQ) (bQ:Binds K RC ["p","system"] []) (mQ:Mg mg "_law_plain" fQ)
  (GS:cj P w K mg base cb 3 fS lK ["p","words"] (Ru K)) (kS:Kp K fS) (bS:Binds K lK ["p","words"] []) (mS:Mg mg "_law_system" fS) :
  cj P w K mg base cb 11 f fd ["p","words"] (RA K Pt):=by
 refine F.ok JG (λvs H Q E h=>?_) (λcq A outer s H vs Q E hr h=>?_)
 ·obtain⟨p,aw,d,rfl,_⟩:=h;rfl
 ·obtain⟨p,aw,d,rfl,pp,hd,hl,hw,hL,q⟩:=h;obtain⟨p2,eC⟩:=gN p pp;have zz:(2000:Nat)≤sizeLine:=by decide
  have hs:=smW hd hl;have jw:eW 1 _:=hr.mono (by decide);have hr3:eW 3 _:=hr.mono (by decide);refine⟨_,bo (cy (i:=2) JG.nd rfl (.inl rfl) (cV GL hr rfl mL kL bL .nil cW (aR (pv 0) (aR (pv 1) aY)))) (bo (cy (i:=3) JG.nd rfl (.inl rfl) (cV GQ jw rfl mQ kQ bQ .nil cW (aR (pv 0) (aR (cV GS hr3 rfl mS kS bS .nil cW (aR (pv 0) (aR (pv 1) aY))) aY)))) (bo (dQ (PW.pt (wu (uU (p8 (iD (MS K rfl (T := "tuple")) rfl T.isinstance zf (aR (pv 2) (aR (ze rfl T.tuple tJ) aY))))) (wt (df (MV K rfl hr.units) (pv 2) (pv 3) (cN _))))) (bZ (cM yy)) eA) (bZ (cM (iD (XF K rfl rfl) rfl T.all XG (aR (oC (N:=["row"]) (own:=1) (caps:=[]) rfl (tI K rfl (pv 2)) (show gM RB (cg CB) ["row"] 1 [] _ from .mk' (by decide +kernel)) (λ_ _ _ _ _=>de (i:=0) acf rfl (.inl rfl)) (λ_ _ _ _ _=>me) (λ_ _ _ _ _=>E5 (iD (MS K rfl (T := "tuple")) rfl T.isinstance zf (aR (pv 0) (aR (ze rfl T.tuple tJ) aY))) (UH (iD (MT K rfl (T := "bool")) rfl T.isinstance zf (aR (iD (acd (K:=K) rfl rfl) rfl T.sum Gs (aR (pv 0) aY)) (aR (ze rfl T.bool Xt) aY)))))) aY)))))),?_⟩
  obtain⟨b1,b2,b3,hR⟩:=Drw.good pp hd hs;obtain⟨l1,l2⟩:=jn (N:=0) hd;obtain⟨ps,hT⟩:=hL.tab;refine⟨_,rfl,_,rfl,p,aw,d,rfl,pp,hd,hs,by lia,hw,hL,λv RS H1 s1 Cb hv hA=>?_⟩;have hw1:=s1.bt (bj.del hT hw);refine⟨_,rfl,_,rfl,_,rfl,p,aw,d,rfl,pp,hd,by lia,hw1,λt H2 s2 ach=>?_⟩;obtain⟨ol,pw,dn,aM,D,g1,g2,g3,JF,nd,eP⟩:=ace pp hd hs ach;refine⟨p,t,ol,dn,_,_,_,aM,D,rfl,p2,eC,g1,g2,by rw[bY];lia,g3,JF,nd,λu DS H3 s3 hu RD=>?_⟩;rw[eP]at RD;have s4:=s2.trans s3;have um:=s4.bt hv;have JH:=cu.mono s4 hA;refine⟨_,rfl,v,_,true,rfl,um,MP K,true,rfl,eU ?_⟩;refine⟨_,rfl,_,rfl,.tuple _,.tuple _,.tuple um JH,.tuple hu RD,N1 _,N1 _,_,rfl,MR rfl ?_⟩;have eR:=jc JH;refine⟨_,rfl,v,rfl,⟨_,um⟩,zc (cp:=[]) (λj H' zs=>zs=List.replicate j (V.bl true)) um (by rw[eR];lia) rfl (λj H' zs e=>by rw[e,jG];exact ck _) ?_ ?_⟩
  ·rintro j x H' zs hx gP rfl;obtain⟨r,ra,CK,rfl,gO⟩:=tQ JH hx;have RE:=gP.bt gO;refine rE ⟨_,rfl,ra,_,true,rfl,RE,MP K,true,rfl,fU ?_⟩;refine⟨_,rfl,ra,r,rfl,RE,λn=>⟨n,false,rfl,Xk K,false,rfl,⟨[_],rfl,rfl⟩,gP,?_⟩⟩;rw[List.replicate_succ'];rfl
  ·rintro H4 zs nG ez lb qy;subst ez;refine⟨lb,List.replicate RS.length true,rfl,.of (by rw[bg,List.map_replicate]),?_⟩;rw[show(List.replicate RS.length true).all id=true by rw[pU];intro b hb;exact List.eq_of_mem_replicate hb];have sF:=s4.trans (nG.trans (aU.upd (o:=.lst (List.replicate RS.length (V.bl true))) qy));exact q _ (s1.trans sF) (Cb.mono sF)
noncomputable def dz(L:List Addr)(H:Hp):Hp:=λb=>if b∈L then none else H b
section
variable{L L':List Addr}{H H':Hp}{a b:Addr}{o:HO}
theorem JI(h:b∈L):dz L H b=none:=af h
theorem Ay(h:b ∉ L):dz L H b=H b:=ag h
theorem kU(e:dz L H b=some o):b ∉ L∧H b=some o:=by
 by_cases hb:b∈L
 ·rw[JI hb]at e;cases e
 ·rw[Ay hb]at e;exact⟨hb,e⟩
theorem r9(h:a∈L):dz L (upd H a o)=dz L H:=by
 funext b
 by_cases hb:b∈L
 ·rw[JI hb,JI hb]
 ·rw[Ay hb,Ay hb,bU λz=>hb (by rw[z];exact h)]
theorem pL:aU (dz L H) H:=λ_ _ e=>(kU e).2
theorem nU(h:aU H H'):aU (dz L H) (dz L H'):=λb o e=>by
 rw[Ay (kU e).1];exact h b o (kU e).2
theorem pM(h:H b=some o)(hb:b ∉ L):dz L H b=some o:=by rw[Ay hb];exact h
end
theorem JJ{B H':Hp}{c:Addr}{o:HO}(h:aU B H')(hc:B c=none):aU B (upd H' c o):=λb x e=>by
 have:b≠c:=λz=>by rw[z,hc]at e;cases e
 rw[bU this];exact h b x e
end S21
namespace L2
open PySem PySem.Spec PyProof.Rows
section
variable{P:Program}{w:World}{fs wm:List Addr}{H H1:Hp}{h h1 h2 B:Heap}
end
section
variable{P:Program}{w:World}{K:Frag}{mg:Str→Option Value}{base:Heap}{N:List Str}{qual:Str}{scope:Scope}{f C:Addr}{cd:Value}{A:Around}{outer:List Env}{s:Shared}{H:Hp}{E:XK}
end
section
variable{P:Program}{w:World}{K:Frag}{mg:Str→Option Value}{base:Heap}
end
section
variable{X:Cx}{x:Str}{np iE pos:Pos}{C:Addr}{bmB:List Value}{B adB adC:String}{e₀:Expr}{eh:List Expr}{t:TA}{E:XK}
end
open PySem.W (Looks)
open PySem.Builtin PySem.Builtin.ObjectAttr PySem.Builtin.Getset_descriptor
section
variable{X:Cx}{C W ea:Addr}{aL:List (Addr×Obj)}{σ:St}{H1 H':Hp}{s1 s':Shared}{B:Heap}{a0:Value}
end
section
variable{X:Cx}{C W f:Addr}{k:Nat}{fd:FuncData}{ps:List Str}{sp:Sp}{x wn n y:Str}{p cp ep wp np yp ap hp pos:Pos}{e:Expr}{es:List Expr}{t:TA}{ix ie:Nat}
end
section
variable{prog:Program}{w:World}{A:Around}{E:QV}{K:Frag}{C a:Addr}
end
section
variable{X:Cx}(K:Frag)(hK:X.K=K)
include hK
theorem aci{T:String}:gY X (.builtin "isinstance") (λxs H Q=>∃x b,xs=[.str x,.ty T]∧kitOne K (.type "str") (.type T)=some b∧Q (.bl b) H):=by
 subst hK;intro aL s σ H vs us Q I r ⟨x,b,e,k,q⟩;exact Gj aL s σ H vs us Q I r ⟨_,_,b,e,.str x,k,q⟩
end
end L2
namespace S21
open PySem L2 Bw
variable{A:iJ}{D:Ends}{H H':Hp}{L:List (Str×List Int)}{N i n:Nat}{Q:VK}{X:Cx}{a b c f:Addr}{as:List (Nat×Nat)}{fd:FuncData}{aM:List (Key×V)}{ns:List iJ}{p:Int}{cX dt eG ff eI s8 s9:Option V}{t u:TS}{te:TE}{v:V}{x y:Str}{σ:St}
theorem acj(K:Frag)(hK:X.K=K){T:String}:gY X (.builtin "isinstance") (λxs H Q=>∃(x:V)(b:Bool),xs=[x,.ty T]∧((∃i,x=.int i∧kitOne K (.type "int") (.type T)=some b)∨∃s,x=.str s∧kitOne K (.type "str") (.type T)=some b)∧Q (.bl b) H):=by
 rintro aL s σ H vs us Q I r ⟨x,b,e,h|h,q⟩
 ·obtain⟨i,rfl,k⟩:=h;exact MT K hK aL s σ H vs us Q I r ⟨i,b,e,k,q⟩
 ·obtain⟨y,rfl,k⟩:=h;exact aci K hK aL s σ H vs us Q I r ⟨y,b,e,k,q⟩
def Itm.xZ(p:Int):Itm→Prop
 | .num _=>True
 | .cG d=>d.wf p
theorem ack{t:Itm}(h:t.xZ p):∀u∈t.kids,u.xZ p:=by
 cases t with
 |num n=>intro u hu;cases hu
 |cG d=>
  cases d with
  |box=>intro u hu;cases hu
  |times n=>intro u hu;rw[cJ.mp hu];exact True.intro
  |back d=>
   intro u hu;rw[cJ.mp hu];exact h
  |cF a b=>
   intro u hu;rcases(dX.mp hu)with z|z
   ·rw[z];exact h.1
   ·rw[cJ.mp z];exact h.2
  |bh a b=>
   intro u hu;rcases(dX.mp hu)with z|z
   ·rw[z];exact h.1
   ·rw[cJ.mp z];exact h.2.1
theorem JK{p:Int}:∀(i:Nat){ts:List Itm},(∀t∈ts,t.xZ p)→∀t∈eV ts i,t.xZ p
 |0,ts,h=>h
 |i+1,[],h=>by intro t ht;rw[Df]at ht;cases ht
 |i+1,t::ts,h=>JK i (ts:=t.kids++ts) λu hu=>by
  rcases(dq.mp hu)with z|z
  ·exact ack (h t cU) u z
  ·exact h u (fK _ z)
structure FP where
 parts:List iJ
 aQ:List dN
 al:List (Nat×Nat)
 N:Nat
noncomputable def bu:List Itm→FP
 | []=>⟨[],[],[],0⟩
 | .num _::ts=>bu ts
 | .cG d::ts=>⟨(aN d (bu ts).N).1::(bu ts).parts,(bu ts).aQ++(aN d (bu ts).N).1.aQ,(bu ts).al++(aN d (bu ts).N).1.al,(aN d (bu ts).N).2⟩
section
variable{p:Int}
theorem qJ:∀{d:Drw}{N:Nat},d.wf p→(aN d N).1.al.length+(aN d N).1.l.length+(aN d N).1.r.length+(aN d N).1.cS.length+N=(aN d N).2
 | .box x l r aQ,N,_=>by
  show 0+(List.range' N l).length+(List.range' (N+l) r).length+0+N=N+l+r;rw[Bp,Bp];lia
 | .times n,N,_=>by
  show 0+(List.range' N 1).length+(List.range' (N+1) 1).length+0+N=N+1+1;rw[Bp,Bp];lia
 | .back d,N,h=>by
  have:=qJ (d:=d) (N:=N) h
  show(aN d N).1.al.length+(aN d N).1.r.length+(aN d N).1.l.length+(aN d N).1.cS.length+N=(aN d N).2;lia
 | .cF a b,N,h=>by
  have h1:=qJ (d:=b) (N:=N) h.2;have h2:=qJ (d:=a) (N:=(aN b N).2) h.1;show((aN b N).1.al++(aN a (aN b N).2).1.al).length+((aN a (aN b N).2).1.l++(aN b N).1.l).length+((aN a (aN b N).2).1.r++(aN b N).1.r).length+((aN a (aN b N).2).1.cS++(aN b N).1.cS).length+N=(aN a (aN b N).2).2;simp only[bY];lia
 | .bh a b,N,h=>by
  have h1:=qJ (d:=b) (N:=N) h.2.1;have h2:=qJ (d:=a) (N:=(aN b N).2) h.1;obtain⟨b1,b2⟩:=jn (d:=b) (N:=N) h.2.1;obtain⟨a1,a2⟩:=jn (d:=a) (N:=(aN b N).2) h.1;have hm:=h.2.2;show((aN b N).1.al++(aN a (aN b N).2).1.al++(aN b N).1.l.zip (aN a (aN b N).2).1.r).length+(aN a (aN b N).2).1.l.length+(aN b N).1.r.length+((aN a (aN b N).2).1.cS++(aN a (aN b N).2).1.r++(aN b N).1.cS).length+N=(aN a (aN b N).2).2;simp only[bY,List.length_zip];lia
theorem Ea:∀{ts:List Itm},(∀t∈ts,t.xZ p)→(bu ts).aQ.length≤2*(ts.flatMap Itm.bc).length∧(bu ts).N≤4*(ts.flatMap Itm.bc).length∧(bu ts).al.length≤(bu ts).N∧(bu ts).parts.length≤(ts.flatMap Itm.bc).length
 | [],_=>⟨ck 0,ck 0,ck 0,ck 0⟩
 | .num n::ts,h=>by
  obtain⟨a,b,c,e⟩:=Ea (ts:=ts) λt ht=>h t (fK _ ht);have ew:((Itm.num n::ts).flatMap Itm.bc).length=(ts.flatMap Itm.bc).length+1:=by
   rw[List.flatMap_cons,bY];show 1+_=_;lia
  rw[ew];exact⟨by show(bu ts).aQ.length≤_;lia,by show(bu ts).N≤_;lia,c,by show(bu ts).parts.length≤_;lia⟩
 | .cG d::ts,h=>by
  obtain⟨a,b,c,e⟩:=Ea (ts:=ts) λt ht=>h t (fK _ ht);have hd:d.wf p:=h (.cG d) cU;obtain⟨f1,f2,_⟩:=vS (d:=d) (N:=(bu ts).N) hd;have f3:=qJ (d:=d) (N:=(bu ts).N) hd;have ew:((Itm.cG d::ts).flatMap Itm.bc).length=d.bc.length+(ts.flatMap Itm.bc).length:=by
   rw[List.flatMap_cons,bY];rfl
  have dp:=d.pos;rw[ew];refine⟨?_,by show(aN d (bu ts).N).2≤_;lia,?_,by show(bu ts).parts.length+1≤_;lia⟩
  ·show((bu ts).aQ++(aN d (bu ts).N).1.aQ).length≤_;rw[bY];lia
  ·show((bu ts).al++(aN d (bu ts).N).1.al).length≤(aN d (bu ts).N).2;rw[bY];lia
end
def x4(K:Frag)(H:Hp)(v:V)(A:iJ):Prop:=∃t a b c,v=.ref t∧bj K H t [.ref a,.ref b,.ref c]∧H a=some (.lst (cz A.l))∧H b=some (.lst (cz A.r))∧H c=some (.lst (cz A.cS))
def jQ(K:Frag)(H:Hp)(PS:List V)(ns:List iJ):Prop:=PS.length=ns.length∧∀(i:Nat)(v:V)(A:iJ),PS[i]?=some v→ns[i]?=some A→x4 K H v A
section
variable{K:Frag}{B H H':Hp}
theorem x4.mono(h:x4 K H v A)(s:aU H H'):x4 K H' v A:=let ⟨t,a,b,c,e,g,g1,g2,g3⟩:=h;⟨t,a,b,c,e,s.bt g,s _ _ g1,s _ _ g2,s _ _ g3⟩
theorem jQ.mono{PS:List V}{ns:List iJ}(h:jQ K H PS ns)(s:aU H H'):jQ K H' PS ns:=⟨h.1,λi v A e1 e2=>(h.2 i v A e1 e2).mono s⟩
theorem jQ.nil:jQ K H [] []:=⟨rfl,λi v A e=>by cases e⟩
theorem jQ.snoc{PS:List V}(h:jQ K H PS ns)(hv:x4 K H v A):jQ K H (PS++[v]) (ns++[A]):=by
 refine⟨by rw[bY,bY,h.1];rfl,λi u C e1 e2=>?_⟩;by_cases hi:i<PS.length
 ·rw[gS hi]at e1;rw[gS (by rw[← h.1];exact hi)]at e2;exact h.2 i u C e1 e2
 ·rw[hU (by lia)]at e1;rw[hU (by rw[← h.1];lia),← h.1]at e2;generalize i-PS.length=j at e1 e2;cases j with
  |zero=>cases e1;cases e2;exact hv
  |succ j=>cases e1
theorem jQ.init{PS:List V}(h:jQ K H PS (ns++[A])):∃kX v,PS=kX++[v]∧jQ K H kX ns∧x4 K H v A:=by
 have ne:PS≠[]:=λe=>by have:=h.1;rw[e]at this;simp at this
 obtain⟨kX,v,rfl⟩:∃kX v,PS=kX++[v]:=⟨PS.dropLast,PS.getLast ne,(List.dropLast_concat_getLast ne).symm⟩;have l:kX.length=ns.length:=by have:=h.1;simpa using this
 refine⟨kX,v,rfl,⟨l,λi u C e1 e2=>h.2 i u C ?_ ?_⟩,h.2 kX.length v A (by simp) (by rw[l];simp)⟩
 ·rw[gS (dH.mp e1).1];exact e1
 ·rw[gS (dH.mp e2).1];exact e2
theorem jr.snoc{RS:List V}{qs:List dN}{q:dN}(h:jr H RS qs)(g:H a=some (.dK (q.map rK))):jr H (RS++[.ref a]) (qs++[q]):=by
 refine⟨by rw[bY,bY,h.1];rfl,λi x q' e1 e2=>?_⟩;by_cases hi:i<RS.length
 ·rw[gS hi]at e1;rw[gS (by rw[← h.1];exact hi)]at e2;exact h.2 i x q' e1 e2
 ·rw[hU (by lia)]at e1;rw[hU (by rw[← h.1];lia),← h.1]at e2;generalize i-RS.length=j at e1 e2;cases j with
  |zero=>cases e1;cases e2;exact⟨a,rfl,g⟩
  |succ j=>cases e1
structure dO(K:Frag)(B:Hp)(ap ar al:Addr)(F:FP)(H:Hp):Prop where
 b:B ap=none∧B ar=none∧B al=none
 ne:ap≠ar∧ap≠al∧ar≠al
 sm:aU B H
 p:∃PS,H ap=some (.lst PS)∧jQ K (dz [ap,ar,al] H) PS F.parts.reverse
 r:∃RS,H ar=some (.lst RS)∧jr (dz [ap,ar,al] H) RS F.aQ
 a:H al=some (.dK (jN [] ((F.al.map qI).map rK)))
variable{ap ar al:Addr}{F:FP}
theorem JL:ap∈[ap,ar,al]:=cU
theorem JM:ar∈[ap,ar,al]:=fK _ cU
theorem JN:al∈[ap,ar,al]:=fK _ (fK _ cU)
theorem dO.out(h:dO K B ap ar al F H){x:Addr}(hx:H x=none):x ∉ [ap,ar,al]:=λz=>by
 obtain⟨PS,g1,_⟩:=h.p;obtain⟨RS,g2,_⟩:=h.r;rcases(dX.mp z)with(rfl|z)
 ·rw[g1]at hx;cases hx
 rcases(dX.mp z)with(rfl|z)
 ·rw[g2]at hx;cases hx
 ·rw[cJ.mp z,h.a]at hx;cases hx
theorem dO.grow(h:dO K B ap ar al F H)(s:aU H H'):dO K B ap ar al F H':=
 ⟨h.b,h.ne,h.sm.trans s,let ⟨PS,g,k⟩:=h.p;⟨PS,s _ _ g,k.mono (nU s)⟩,let ⟨RS,g,k⟩:=h.r;⟨RS,s _ _ g,k.mono (nU s)⟩,s _ _ h.a⟩
theorem dO.RF(h:dO K B ap ar al F H){PS:List V}(hk:jQ K (dz [ap,ar,al] H) PS ns.reverse):dO K B ap ar al ⟨ns,F.aQ,F.al,F.N⟩ (upd H ap (.lst PS)):=by
 refine⟨h.b,h.ne,JJ h.sm h.b.1,⟨PS,bg,by rw[r9 JL];exact hk⟩,?_,by rw[bU h.ne.2.1.symm];exact h.a⟩;obtain⟨RS,g,k⟩:=h.r;exact⟨RS,by rw[bU h.ne.1.symm];exact g,by rw[r9 JL];exact k⟩
theorem dO.acm(h:dO K B ap ar al F H){RS:List V}{rs:List dN}(hk:jr (dz [ap,ar,al] H) RS rs):dO K B ap ar al ⟨F.parts,rs,F.al,F.N⟩ (upd H ar (.lst RS)):=by
 refine⟨h.b,h.ne,JJ h.sm h.b.2.1,?_,⟨RS,bg,by rw[r9 JM];exact hk⟩,by rw[bU h.ne.2.2.symm];exact h.a⟩;obtain⟨PS,g,k⟩:=h.p;exact⟨PS,by rw[bU h.ne.1];exact g,by rw[r9 JM];exact k⟩
theorem dO.acn(h:dO K B ap ar al F H)(t:Nat×Nat):dO K B ap ar al ⟨F.parts,F.aQ,F.al++[t],F.N⟩ (upd H al (.dK (gG (jN [] ((F.al.map qI).map rK)) (Sum.inl (t.1:Int)) (.int (t.2:Int))))):=by
 refine⟨h.b,h.ne,JJ h.sm h.b.2.2,?_,?_,?_⟩
 ·obtain⟨PS,g,k⟩:=h.p;exact⟨PS,by rw[bU h.ne.2.1];exact g,by rw[r9 JN];exact k⟩
 ·obtain⟨RS,g,k⟩:=h.r;exact⟨RS,by rw[bU h.ne.2.2];exact g,by rw[r9 JN];exact k⟩
 ·rw[bg];show _=some (HO.dK (jN [] (((F.al++[t]).map qI).map rK)));rw[eM,eM];unfold jN;rw[List.foldl_append];rfl
theorem dO.aco(h:dO K B ap ar al F H)(N:Nat):dO K B ap ar al ⟨F.parts,F.aQ,F.al,N⟩ H:=⟨h.b,h.ne,h.sm,h.p,h.r,h.a⟩
end
def Hand(H:Hp)(a:Addr)(n:Nat):Prop:=∃x0 x1 x2:Int,H a=some (.lst [.int x0,.int x1,.int x2])∧0≤x0∧x0≤(n:Int)∧0≤x1∧x1<1000000007
def Az:Sp:=λvs H Q _=>∃c k:Int,vs=[.int c,.int k]∧0≤k∧k≤100∧∀a H',aU H H'→H a=none→Hand H' a 0→Q (.ref a) H'
theorem acp:dU ["cell","k"] ["cell","k"] (cg Hv):=eT rfl rfl rfl (by decide +kernel) rfl
theorem RG(F:cO K "_law_hand" "_law_hand" Hv f fd):cj P w K mg base cb 1 f fd ["cell","k"] Az:=by
 refine F.ok acp (λvs H Q E h=>?_) (λcq A outer s H vs Q E hr h=>?_)
 ·obtain⟨c,k,rfl,_⟩:=h;rfl
 ·obtain⟨c,k,rfl,k0,k1,q⟩:=h;refine⟨_,bZ (cM (ip (aR aW (aR (bq kh (bq oq (bq fi (bq fi (bq kh (pv 0) aW) (bq oq aW (pv 1))) aW) aW) aW) (aR (pv 0) aY))))),?_⟩;have m0:0≤c%1000000007:=sM _ (by decide);have m1:c%1000000007<1000000007:=sN _ (by decide);refine⟨_,rfl,_,_,rfl,rfl,(by show(0:Int)<1000000007;decide),_,rfl,_,_,rfl,rfl,.inl ⟨by decide,by decide⟩,_,_,rfl,rfl,_,_,rfl,rfl,_,_,rfl,rfl,.inr ⟨by decide,by decide⟩,_,_,rfl,rfl,(by show(0:Int)<1000000007;decide),_,rfl,(by show 3≤sizeLine;decide),λa ha=>?_⟩;exact q a _ (.upd ha) ha ⟨0,_,c,bg,by decide,by decide,sM _ (by decide),sN _ (by decide)⟩
def pN:Sp:=λvs H Q _=>∃(a:Addr)(lim:Int)(n:Nat),vs=[.ref a,.int lim]∧Hand H a n∧n≤1000000∧1≤lim∧lim≤100∧∀(d:Int)(xs:List V),0≤d→d<lim→Hand (upd H a (.lst xs)) a (n+1)→Q (.int d) (upd H a (.lst xs))
theorem RH:dU ["hand","limit","found"] ["hand","limit"] (cg Hw):=eT rfl rfl rfl (by decide +kernel) rfl
theorem vU(F:cO K "_law_draw" "_law_draw" Hw f fd):cj P w K mg base cb 1 f fd ["hand","limit"] pN:=by
 refine F.ok RH (λvs H Q E h=>?_) (λcq A outer s H vs Q E hr h=>?_)
 ·obtain⟨a,lim,n,rfl,_⟩:=h;rfl
 ·obtain⟨a,lim,n,rfl,⟨x0,x1,x2,ha,b0,b1,b2,b3⟩,hn,l0,l1,q⟩:=h;refine⟨_,bo (dQ (PW.pt (wu (df U2 (br (fo K rfl) (pv 0) aW (λ_ _=>rfl)) aW (cN _)) (wt (df uZ (br (fo K rfl) (pv 0) aW (λ_ _=>rfl)) (ni nj aW) (cN _))))) (bo (cy (i:=2) RH.nd rfl (.inl rfl) (bq kh (br (fo K rfl) (pv 0) aW (λ_ _=>rfl)) (pv 1))) (bo (sR (bq Lw (br (fo K rfl) (pv 0) aW (λ_ _=>rfl)) (pv 1)) (E8 (pv 0) aW Ft)) (bZ (cM (pv 2))))) eA) (bo (sR (bq fi (br (fo K rfl) (pv 0) aW (λ_ _=>rfl)) aW) (E8 (pv 0) aW Ft)) (bo (sR (bq kh (bq fi (bq fi (bq oq (br (fo K rfl) (pv 0) aW (λ_ _=>rfl)) (br (fo K rfl) (pv 0) aW (λ_ _=>rfl))) (bq oq aW (br (fo K rfl) (pv 0) aW (λ_ _=>rfl)))) aW) aW) (E8 (pv 0) aW Ft)) (bZ (cM (bq kh (bq Lw (br (fo K rfl) (pv 0) aW (λ_ _=>rfl)) aW) (pv 1)))))),?_⟩;have lp:0<lim:=by lia
  refine(λbig=>⟨_,rfl,a,_,2,_,rfl,rfl,.of ha,cw (j:=2) rfl,_,_,rfl,rfl,_,rfl,wI (λ_=>fU big) (λ_=>⟨_,rfl,a,_,2,_,rfl,rfl,.of ha,cw (j:=2) rfl,_,rfl,_,_,rfl,rfl,_,rfl,wI (λ_=>big) (λ_=>?small)⟩)⟩) ?big
  case big=>
   refine⟨_,rfl,a,_,2,_,rfl,rfl,.of ha,cw (j:=2) rfl,_,rfl,_,_,rfl,rfl,lp,?_⟩;refine⟨_,rfl,a,_,2,_,rfl,rfl,.of ha,cw (j:=2) rfl,_,rfl,_,_,rfl,rfl,⟨lp,by lia⟩,_,rfl,a,_,2,2,rfl,rfl,ha,rfl,?_⟩;exact⟨_,rfl,q _ _ (sM _ (by lia)) (sN _ lp) ⟨x0,x1,x2/lim,bg,b0,by lia,b2,b3⟩⟩
  case small=>
   refine⟨_,rfl,a,_,0,_,rfl,rfl,.of ha,cw (j:=0) rfl,_,_,rfl,rfl,_,rfl,a,_,0,0,rfl,rfl,ha,rfl,?_⟩;have g1:(upd H a (.lst [.int (x0+1),.int x1,.int x2])) a=some (.lst [.int (x0+1),.int x1,.int x2]):=bg;refine⟨_,rfl,a,_,1,_,rfl,rfl,.of g1,cw (j:=1) rfl,_,rfl,a,_,1,_,rfl,rfl,.of g1,cw (j:=1) rfl,_,_,rfl,rfl,.inl ⟨by lia,by lia⟩,_,rfl,a,_,0,_,rfl,rfl,.of g1,cw (j:=0) rfl,_,_,rfl,rfl,.inl ⟨by decide,by decide⟩,_,_,rfl,rfl,_,_,rfl,rfl,_,_,rfl,rfl,(by show(0:Int)<1000000007;decide),_,rfl,a,_,1,1,rfl,rfl,g1,rfl,?_⟩;rw[Br];have g2:(upd H a (.lst [.int (x0+1),.int ((x1*x1+7*(x0+1)+11)%1000000007),.int x2])) a=some (.lst [.int (x0+1),.int ((x1*x1+7*(x0+1)+11)%1000000007),.int x2]):=bg;refine⟨_,rfl,a,_,1,_,rfl,rfl,.of g2,cw (j:=1) rfl,_,_,rfl,rfl,⟨by decide,by decide⟩,_,rfl,_,_,rfl,rfl,lp,?_⟩;exact q _ _ (sM _ (by lia)) (sN _ lp) ⟨_,_,x2,bg,by lia,by lia,sM _ (by decide),sN _ (by decide)⟩
theorem Hand.new{o:HO}(h:Hand H a n)(hb:H b=none):Hand (upd H b o) a n:=by
 obtain⟨x0,x1,x2,e,r⟩:=h;exact⟨x0,x1,x2,by rw[bU (fg e hb)];exact e,r⟩
theorem Hand.at_(h:Hand H a n):∃xs,H a=some (.lst xs):=let ⟨_,_,_,e,_⟩:=h;⟨_,e⟩
noncomputable def uo:List Int:=[2,3,5,7,11,13,17,19,23,29,31,37,41,43,47,53,59,61,67,71,73,79,83,89,97]
theorem acq:∀j:Nat,j<25→∃q,uo[j]?=some q∧q∈dW:=by decide +kernel
theorem cZ.trans{H1 H2:Hp}(s:cZ a H H1)(t:cZ a H1 H2):cZ a H H2:=λb o h n=>t b o (s b o h n) n
theorem cZ.put{o:HO}:cZ a H (upd H a o):=λb u h n=>by rw[bU n];exact h
def RI:Sp:=λvs H Q _=>∃(a:Addr)(n:Nat),vs=[.ref a]∧Hand H a n∧n≤900∧∀p H',p∈dW→cZ a H H'→Hand H' a (n+3)→Q (.int p) H'
theorem RJ:dU ["hand","primes"] ["hand"] (cg HF):=eT rfl rfl rfl (by decide +kernel) rfl
theorem acr{fD:Addr}{jk:FuncData}(F:cO K "_law_prime" "_law_prime" HF f fd)
  (GD:cj P w K mg base cb 1 fD jk ["hand","limit"] pN) (kD:Kp K fD) (bD:Binds K jk ["hand","limit"] []) (mD:Mg mg "_law_draw" fD):cj P w K mg base cb 2 f fd ["hand"] RI:=by
 refine F.ok RJ (λvs H Q E h=>?_) (λcq A outer s H vs Q E hr h=>?_)
 ·obtain⟨a,n,rfl,_⟩:=h;rfl
 ·obtain⟨a,n,rfl,hH,hn,q⟩:=h;refine⟨cn (cT (M0 uo) (cm 1)) (eB (cx (qf K) (aX 1) (cx (qf K) (gE (aZ (iw pN [] E0 (aZ (aX 0) (aZ (tC (.int 4)) bK))) (aZ (iw pN [] E0 (aZ (aX 0) (aZ (tC (.int 25)) bK))) bK))) (iw pN [] E0 (aZ (aX 0) (aZ (tC (.int 2)) bK)))))),bo ?_ ?_,?_⟩
  ·refine cy ?_ ?_ ?_ ?_ ?_ ?_
   ·exact RJ.nd
   ·rfl
   ·exact Or.inl rfl
   ·refine Xv ?_;exact Xu (by kernel_rfl)
   ·rfl
   ·exact .inl rfl
  ·refine bZ ?_;refine cM ?_;refine br ?_ ?_ ?_ ?_
   ·exact fo K rfl
   ·exact pv 1
   ·refine br ?_ ?_ ?_ ?_
    ·exact fo K rfl
    ·exact ip (aR (cV GD hr rfl mD kD bD .nil cW (aR (pv 0) (aR aW aY))) (aR (cV GD hr rfl mD kD bD .nil cW (aR (pv 0) (aR aW aY))) aY))
    ·exact cV GD hr rfl mD kD bD .nil cW (aR (pv 0) (aR aW aY))
    ·exact λ_ _=>rfl
   ·exact λ_ _=>rfl
  refine⟨(by show 25≤sizeLine;decide),λl hl=>?_⟩;have cL:l≠a:=λz=>by
   obtain⟨xs,e⟩:=hH.at_;rw[z,e]at hl;cases hl
  refine⟨_,rfl,_,rfl,a,4,n,rfl,hH.new hl,by lia,by decide,by decide,λd1 xs1 p0 p1 h1=>?_⟩;refine⟨_,rfl,a,25,n+1,rfl,h1,by lia,by decide,by decide,λd2 Eb r0 r1 h2=>?_⟩;rw[Br]at h2 ⊢;refine⟨(by show 2≤sizeLine;decide),λl2 nu=>⟨_,rfl,a,2,n+2,rfl,h2.new nu,by lia,by decide,by decide,λd3 JO t0 t1 h3=>?_⟩⟩;have na2:l2≠a:=λz=>by rw[z,bg]at nu;cases nu
  have Ec:∀b o,(upd H l (.lst (uo.map V.int))) b=some o→b≠a→(upd (upd (upd (upd H l (.lst (uo.map V.int))) a (.lst Eb)) l2 (.lst [.int d1,.int d2])) a (.lst JO)) b=some o:=λb o e nb=>by
   have e1:(upd (upd H l (.lst (uo.map V.int))) a (.lst Eb)) b=some o:=by rw[bU nb];exact e
   rw[bU nb,bU (fg e1 nu)];exact e1
  have gl:=Ec l _ bg cL;have RK:(upd (upd (upd (upd H l (.lst (uo.map V.int))) a (.lst Eb)) l2 (.lst [.int d1,.int d2])) a (.lst JO)) l2=some (.lst [.int d1,.int d2]):=by rw[bU na2];exact bg
  have sm:cZ a H (upd (upd (upd (upd H l (.lst (uo.map V.int))) a (.lst Eb)) l2 (.lst [.int d1,.int d2])) a (.lst JO)):=λb o e nb=>Ec b o (by rw[bU (fg e hl)];exact e) nb;have fin:∀d:Int,0≤d→d<25→∃pr,pr∈dW∧(uo.map V.int)[d.toNat]?=some (.int pr):=λd e0 e1=>by
   obtain⟨pr,z1,z2⟩:=acq d.toNat (by lia);exact⟨pr,z2,by rw[du,z1];rfl⟩
  have d01:d3=0∨d3=1:=by lia
  rcases d01 with rfl|rfl
  ·obtain⟨pr,hp,hi⟩:=fin d1 p0 (by lia);have ed:d1=((d1.toNat:Nat):Int):=by lia
   refine⟨l2,_,0,_,rfl,rfl,.of RK,cw (j:=0) rfl,l,_,d1,_,rfl,rfl,.of gl,?_,q pr _ hp sm h3⟩;rw[ed];exact cw (j:=d1.toNat) hi
  ·obtain⟨pr,hp,hi⟩:=fin d2 r0 r1;have ed:d2=((d2.toNat:Nat):Int):=by lia
   refine⟨l2,_,1,_,rfl,rfl,.of RK,cw (j:=1) rfl,l,_,d2,_,rfl,rfl,.of gl,?_,q pr _ hp sm h3⟩;rw[ed];exact cw (j:=d2.toNat) hi
noncomputable def AA:List Expr→Option (List Str)
 | []=>some []
 | .Constant (.str x) _ _::es=>(AA es).map (x::·)
 |_=>none
def JP(xs:List Str):TE:=gE (λ_ H Q=>Q (xs.map V.str) H)
theorem RL{X:Cx}:∀(es:List Expr)(xs:List Str),AA es=some xs→PA X es (λ_ H Q=>Q (xs.map V.str) H)
 | [],xs,h=>by cases h;exact aY
 |e::es,xs,h=>by
  unfold AA at h;split at h
  case h_1=>rename_i z;cases z
  case h_2 x _ _ es' z=>
   cases z;cases e:AA es with
   |none=>rw[e]at h;cases h
   |some ys=>
    rw[e]at h;cases h;exact aR dM (RL es ys e)
  case h_3=>cases h
theorem acs{es:List Expr}{xs:List Str}{pos:Pos}(h:AA es=some xs):PE X (.List es pos) (JP xs):=ip (RL es xs h)
noncomputable def JQ:Option Expr→Option Str
 |some (.Constant (.str x) _ _)=>some x
 |_=>none
noncomputable def JR:Expr→Option (List Int)
 | .Tuple es _ _=>wX es
 |_=>none
noncomputable def Ed:List (Option Expr)→List Expr→Option (List (Str×List Int))
 | [],[]=>some []
 |k::ks,v::vs=>match JQ k,JR v,Ed ks vs with
  |some x,some r,some ps=>some ((x,r)::ps)
  |_,_,_=>none
 |_,_=>none
noncomputable def RM:Expr→Option (List (Str×List Int))
 | .Dict ks vs _=>Ed ks vs
 |_=>none
def JS(ns:List Int):TE:=dR (λ_ H Q=>Q (ns.map V.int) H)
noncomputable def oW:List (Str×List Int)→List (TE×TE)
 | []=>[]
 |p::ps=>(tC (.str p.1),JS p.2)::oW ps
theorem acu{k:Option Expr}(h:JQ k=some x):∃e,k=some e∧PE X e (tC (.str x)):=by
 unfold JQ at h;split at h
 case h_2=>exact nomatch h
 case h_1 y i pos=>cases h;exact⟨_,rfl,dM⟩
theorem acv{v:Expr}{r:List Int}(h:JR v=some r):PE X v (JS r):=by
 unfold JR at h;split at h
 case h_2=>exact nomatch h
 case h_1 es i pos=>exact dm (Gq es r h)
theorem RN{X:Cx}{pos:Pos}:∀(ks:List (Option Expr))(vs:List Expr)(L:List (Str×List Int)),Ed ks vs=some L→
  zk X pos ks vs (oW L)∧ks.all (·.isSome)=true∧ks.length=L.length∧vs.length=L.length
 | [],[],L,h=>by cases h;exact⟨zl,rfl,rfl,rfl⟩
 | [],_::_,_,h=>nomatch h
 |_::_,[],_,h=>nomatch h
 |k::ks,v::vs,L,h=>by
  unfold Ed at h;split at h
  case h_2=>exact nomatch h
  case h_1 x r ps h1 h2 h3=>
   cases h;obtain⟨e,rfl,he⟩:=acu (X:=X) h1;obtain⟨g1,g2,g3,g4⟩:=RN (X:=X) (pos:=pos) ks vs ps h3;exact⟨rL he (acv h2) g1,by rw[List.all_cons,g2];rfl,aj (· + 1) g3,aj (· + 1) g4⟩
theorem RP{e:Expr}(h:RM e=some L)(h0:L≠[])(Hf:L.length≤15):PE X e (pz (oW L)):=by
 unfold RM at h;split at h
 case h_2=>exact nomatch h
 case h_1 ks vs pos=>
  obtain⟨g1,g2,g3,g4⟩:=RN (X:=X) (pos:=pos) ks vs L h;exact zm g1 g2 (g3.trans g4.symm) (λz=>by rw[z]at g3;exact h0 (List.eq_nil_of_length_eq_zero g3.symm)) (by rw[g3];exact Hf)
inductive jE(K:Frag)(H:Hp):List (Str×List Int)→List (Key×V)→Prop where
 |nil:jE K H [] []
 |cons {x:Str} {r:List Int} {v:Addr} {L:List (Str×List Int)} {aM:List (Key×V)} (h:bj K H v (r.map V.int)) (t:jE K H L aM):jE K H ((x,r)::L) ((.inr x,.ref v)::aM)
section
variable{K:Frag}{H H':Hp}{L:List (Str×List Int)}{aM:List (Key×V)}
theorem jE.tup(h:jE K H L aM)(s:eX H H'):jE K H' L aM:=by
 induction h with
 |nil=>exact .nil
 |cons h t ih=>exact .cons (s.bt h) ih
theorem jE.keys(h:jE K H L aM):aM.map (·.1)=L.map λp=>(Sum.inr p.1:Key):=by
 induction h with
 |nil=>rfl
 |cons h t ih=>rw[jt,jt,ih]
theorem jE.get(h:jE K H L aM)(x:Str):(∃r v,L.lookup x=some r∧dG (κ:=Key) aM (.inr x)=some (.ref v)∧bj K H v (r.map V.int))∨(L.lookup x=none∧dG (κ:=Key) aM (.inr x)=none):=by
 induction h with
 |nil=>exact .inr ⟨rfl,rfl⟩
 | @cons y r v L aM h t ih=>
  by_cases e:y=x
  ·subst e;exact .inl ⟨r,v,by simp,nB rfl,h⟩
  ·have n:(x==y)=false:=beq_eq_false_iff_ne.mpr λz=>e z.symm;rw[sH,n,nC (p:=(Sum.inr y,V.ref v)) (λz=>e (Sum.inr.inj z))];exact ih
end
theorem RQ:∀(ig aM:List (Key×V)),((aM++ig).map (·.1)).Nodup→jN aM ig=aM++ig
 | [],aM,_=>by rw[hJ];rfl
 |p::ig,aM,h=>by
  have hv:dG aM p.1=none:=by
   unfold dG;rw[Option.map_eq_none_iff,yj];intro q hq z;rw[aF]at z;rw[eM,jt,qR]at h;exact h.2.2 q.1 (n8 hq) p.1 cU z
  show jN (gG aM p.1 p.2) ig=_;rw[G5 _ hv,RQ ig (aM++[(p.1,p.2)]) (by rw[hW];exact h),hW];rfl
theorem RR{K:Frag}{σ:St}:∀(L:List (Str×List Int)){H:Hp}{Q:List (V×V)→Hp→Prop},(∀p∈L,p.2.length≤1000)→(∀aM H',aU H H'→jE K H' L aM→Q (aM.map λkv=>(kV kv.1,kv.2)) H')→vo (oW L) σ H Q
 | [],H,Q,_,q=>by
  unfold oW vo;exact q [] H (.refl _) .nil
 |p::L,H,Q,hl,q=>by
  have h0:=hl p cU;have h:JS p.2 σ H (λy H2=>vo (oW L) σ H2 λps H3=>Q ((.str p.1,y)::ps) H3):=by
   refine⟨by rw[bO];exact eS h0 (by decide),λt ht=>?_⟩;exact RR (K:=K) L (λx hx=>hl x (fK _ hx)) λaM H' s h=>q ((.inr p.1,.ref t)::aM) H' ((aU.upd ht).trans s) (.cons (s.bt (.of bg)) h)
  unfold oW vo;exact h
theorem RT{K:Frag}(nd:(L.map (·.1)).Nodup)(hL:L.length≤15)(hl:∀p∈L,p.2.length≤1000)(q:∀p aM H',aU H H'→H' p=some (.dK aM)→jE K H' L aM→Q (.ref p) H'):pz (oW L) σ H Q:=by
 intro p hp;have hs:aU H (upd H p (.dK [])):=.upd hp;have B3:(upd H p (.dK [])) p=some (.dK []):=bg;generalize upd H p (.dK [])=H0 at hs B3;refine RR (K:=K) L hl λaM H1 s1 r=>?_;have RU:=s1 _ _ B3;have ek:=r.keys;refine⟨RU,aM,rfl,?_,?_⟩
 ·have:=aj List.length ek
  rw[bO,bO]at this;lia
 ·rw[RQ aM [] (by
   rw[lY,ek];rw[show(L.map λp=>(Sum.inr p.1:Key))=(L.map (·.1)).map Sum.inr by rw[o6];rfl];exact List.Pairwise.map _ (λa b (h:a≠b) (z:Sum.inr a=Sum.inr b)=>h (Sum.inr.inj z)) nd),lY]
  exact q p aM _ (aU.put (hs.trans s1) hp) bg (r.tup (eX.NW RU))
theorem gq(h:te σ H λx H1=>u D (σ.set i (some x)) H1):cn (cT te (cm i)) u D σ H:=h
theorem Ee{g:TG}(h:te σ H λx H1=>g x σ H1 (u D)):cn (cT te g) u D σ H:=h
theorem kY{c:TT}(h:c σ H λb H1=>if b=true then t { D with nx:=u D } σ H1 else u D σ H1):cn (dF c t fh) u D σ H:=h
theorem qK(h:te σ H D.rt):eB te D σ H:=h
theorem RV{K:Frag}{j:Nat}{v:Addr}{x y:V}{R:St→Hp→Prop}(h:bj K H v [x,y])(q:R ((σ.set i (some x)).set j (some y)) H):qV K 2 (jH (cm i) (jH (cm j) sQ)) (.ref v) σ H R:=⟨v,_,rfl,h,rfl,_,_,rfl,_,_,rfl,rfl,q⟩
theorem RW{K:Frag}{j k:Nat}{v:Addr}{x y z:V}{R:St→Hp→Prop}(h:bj K H v [x,y,z])(q:R (((σ.set i (some x)).set j (some y)).set k (some z)) H):qV K 3 (jH (cm i) (jH (cm j) (jH (cm k) sQ))) (.ref v) σ H R:=⟨v,_,rfl,h,rfl,_,_,rfl,_,_,rfl,_,_,rfl,rfl,q⟩
def se(i:Nat)(t:TE):TE:=iw pN [] E0 (aZ (aX i) (aZ t bK))
section
variable{K:Frag}{σ:St}{H:Hp}{a:Addr}{n:Nat}
theorem cZ.bt{ys:List V}(s:cZ a H H')(hH:Hand H a n)(h:bj K H b ys):bj K H' b ys:=by
 obtain⟨xs,e⟩:=hH.at_;rcases h with(h|⟨o,h⟩)|h
 ·exact .inl (.inl (s _ _ h λz=>by rw[z,e]at h;cases h))
 ·exact .inl (.inr ⟨o,s _ _ h λz=>by rw[z,e]at h;cases h⟩)
 ·exact .inr h
theorem aU.gI(s:aU H H'):cZ a H H':=λb o e _=>s b o e
theorem vV{t:TE}{lim:Int}(h3:σ[i]?=some (some (.ref a)))(ht:∀R:VK,R (.int lim) H→t σ H R)(hH:Hand H a n)(hn:n≤900000)(l0:1≤lim)(l1:lim≤100)(q:∀d H',0≤d→d<lim→cZ a H H'→Hand H' a (n+1)→Q (.int d) H'):se i t σ H Q:=
 ⟨_,h3,ht _ ⟨a,lim,n,rfl,hH,by lia,l0,l1,λd xs d0 d1 h=>q d _ d0 d1 cZ.put h⟩⟩
theorem acw(hH:Hand H a n)(hb:H b=none):b≠a:=λz=>by
 obtain⟨xs,e⟩:=hH.at_;rw[z,e]at hb;cases hb
def acx:List V→Hp→VK→Prop:=λxs H Q=>(∃i,xs=[.int i]∧Q (.int i) H)∨∃k,xs=[.bl k]∧Q (.int (if k then 1 else 0)) H
def x5(i:Nat)(x:Str):TE:=lg acx (aZ (cx jI (aX i) (tC (.str x))) bK)
theorem JT{ta tb:TE}{i j:Int}(h1:eQ ta σ H i)(h2:eQ tb σ H j)(hi:-(2^60)<i∧i<2^60):eQ (cx (rI yH λi j=>.int (i*j)) ta tb) σ H (i*j):=λH' s _ q=>h1 H' s _ (h2 H' s _ ⟨i,j,rfl,rfl,.inl ⟨by lia,by lia⟩,q⟩)
theorem JU{ta tb:TE}{i j:Int}(h1:eQ ta σ H i)(h2:eQ tb σ H j):eQ (cx (ju λi j=>.int (i-j)) ta tb) σ H (i-j):=λH' s _ q=>h1 H' s _ (h2 H' s _ ⟨i,j,rfl,rfl,q⟩)
theorem Hand.mono(h:Hand H a n)(s:aU H H'):Hand H' a n:=let ⟨x0,x1,x2,e,r⟩:=h;⟨x0,x1,x2,s _ _ e,r⟩
theorem Ef(h:σ[i]?=some (some (.str y))):eQ (x5 i x) σ H (if y=x then 1 else 0):=λH' s R q=>by
 refine⟨_,h,rfl,.inr ⟨_,rfl,?_⟩⟩;by_cases e:y=x
 ·rw[af e]at q;rw[aC (aj V.str e)];exact q
 ·rw[ag e]at q;rw[ae λz=>e (V.str.inj z)];exact q
theorem acy{Q:Bool→Hp→Prop}(h:σ[i]?=some (some (.str y)))(q:Q (decide (y=x)) H):gg (cx jI (aX i) (tC (.str x))) σ H Q:=by
 refine⟨_,h,rfl,_,rfl,?_⟩;simpa using q
theorem AB{c:Prop} [Decidable c] {A B:Prop} (h1:c→A) (h2:¬c→B):if decide c=true then A else B:=by
 by_cases h:c
 ·rw[aC h];exact fU (h1 h)
 ·rw[ae h];exact eU (h2 h)
end
def fZ(K:Frag)(H:Hp)(v:Addr)(d:Drw):Prop:=∃aw,bj K H v [.ref aw,.int (d.aO:Int),.int (d.aV:Int)]∧bj K H aw d.bc
section
variable{K:Frag}{H H':Hp}{v:Addr}{d:Drw}
theorem fZ.mono(h:fZ K H v d)(s:aU H H'):fZ K H' v d:=let ⟨aw,h1,h2⟩:=h;⟨aw,s.bt h1,s.bt h2⟩
theorem fZ.tup(h:fZ K H v d)(s:eX H H'):fZ K H' v d:=let ⟨aw,h1,h2⟩:=h;⟨aw,s.bt h1,s.bt h2⟩
theorem fZ.gI(h:fZ K H v d)(hH:Hand H a n)(s:cZ a H H'):fZ K H' v d:=let ⟨aw,h1,h2⟩:=h;⟨aw,cZ.bt s hH h1,cZ.bt s hH h2⟩
end
def Drw.mid(s:Int):Drw→Prop
 | .box _ _ _ _=>True
 | .times _=>True
 | .back d=>d.mid s
 | .cF a b=>a.mid s∧b.mid s
 | .bh a b=>a.mid s∧b.mid s∧(a.aV:Int)≤s
theorem Drw.oX{p s:Int}(s2:2≤s):∀{d:Drw},d.wf p→d.bc.length≤3→d.mid s
 | .box _ _ _ _,_,_=>True.intro
 | .times _,_,_=>True.intro
 | .back d,h,hl=>Drw.oX (d:=d) s2 h (by simp only[Drw.bc,eK]at hl;lia)
 | .cF a b,h,hl=>by
  simp only[Drw.bc,eK,bY]at hl;exact⟨Drw.oX s2 h.1 (by lia),Drw.oX s2 h.2 (by lia)⟩
 | .bh a b,h,hl=>by
  simp only[Drw.bc,eK,bY]at hl;have hb:=b.pos;have hf:=(Drw.iP h.1).2;exact⟨Drw.oX s2 h.1 (by lia),Drw.oX s2 h.2.1 (by lia),by lia⟩
noncomputable abbrev vW:List Str:=["id","swap","copy","end","add","none","times","cup","empty","copy","add","times"]
noncomputable abbrev iq:List (Str×List Int):=[("id",[1,1]),("swap",[2,2]),("copy",[1,2]),("end",[1,0]),("add",[2,1]),("none",[0,1])]
theorem RX:(iq.map (·.1)).Nodup:=by decide +kernel
theorem Eg:iq.length≤15:=by show 6≤15;decide
theorem RY:iq≠[]:=λz=>nomatch z
theorem RZ:∀p∈iq,p.2.length≤1000:=by decide +kernel
theorem acz:∀j:Nat,j<12→∃x,vW[j]?=some x∧(x="times"∨∃e∈gZ,e.1=x∧x ≠ "times"):=by
 have h:∀j:Nat,j<12→(match vW[j]? with|some x=>decide (x="times")||gZ.any λe=>decide (e.1=x) && !decide (x="times")|none=>false)=true:=by decide +kernel
 intro j hj;have z:=h j hj;cases e:vW[j]? with
 |none=>rw[e]at z;cases z
 |some x=>
  rw[e]at z;refine⟨x,rfl,?_⟩;simp only[Bool.or_eq_true,aF,List.any_eq_true,ir,Bool.not_eq_true',aE]at z;exact z
theorem R1:iq.lookup ("times":Str)=none:=by decide +kernel
theorem R3:("times":Str) ≠ "cup":=by decide +kernel
theorem R4:∀e∈gZ,iq.lookup e.1=some [(e.2.1:Int),(e.2.2.1:Int)]∨(iq.lookup e.1=none∧(e.2.1:Int)=0∧(e.2.2.1:Int)=2*(if e.1="cup" then 1 else 0)):=by decide +kernel
def x6(K:Frag):Sp:=λvs H Q _=>∃(a:Addr)(n:Nat)(p:Int),vs=[.ref a,.int p]∧Hand H a n∧n≤800∧2≤p∧p≤97∧
 ∀v d H' n',d.wf p→d.bc.length≤3→d.aO≤2→d.aV≤2→cZ a H H'→Hand H' a n'→n'≤n+3→fZ K H' v d→Q (.ref v) H'
theorem sg:dU ["hand","p","some","word","times","sizes","left","right","words"] ["hand","p"] (cg Hy):=eT rfl rfl rfl (by decide +kernel) rfl
abbrev JV:R2:=rI yH λi j=>.int (i*j)
def AD:TE:=zo (aX 5) (aX 3) (dR (aZ (aX 4) (aZ (iI (aX 4) (cx JV (tC (.int 2)) (x5 3 "cup"))) bK)))
def Eh(K:Frag):TS:=cn (cT (JP vW) (cm 2)) (cn (cT (cx (qf K) (aX 2) (se 0 (tC (.int 12)))) (cm 3)) (cn (cT (x5 3 "times") (cm 4)) (cn (cT (pz (oW iq)) (cm 5)) (cn (cT (AD) (qV K 2 (jH (cm 6) (jH (cm 7) sQ)))) (cn (cT (dR (aZ (aX 3) bK)) (cm 8)) (cn (dF (gg (cx jI (aX 3) (tC (.str "times")))) (cT (dR (aZ (aX 3) (aZ (se 0 (aX 1)) bK))) (cm 8)) fh) (cn (dF (gg (cx jI (se 0 (tC (.int 3))) (tC (.int 1)))) (eB (dR (aZ (dY K (dR (aZ (tC (.str "back")) bK)) (aX 8)) (aZ (aX 7) (aZ (aX 6) bK))))) fh) (eB (dR (aZ (aX 8) (aZ (aX 6) (aZ (aX 7) bK))))))))))))
theorem acA{d:Addr}{tm l r:Int}(h3:σ[3]?=some (some (.str x)))(h4:σ[4]?=some (some (.int tm)))(h5:σ[5]?=some (some (.ref d)))(hd:H d=some (.dK aM))(hD:jE K H iq aM)
  (hs:iq.lookup x=some [l,r]∨(iq.lookup x=none∧l=tm∧r=tm+2*(if x="cup" then 1 else 0))) (q:∀v H',aU H H'→bj K H' v [.int l,.int r]→Q (.ref v) H'):AD σ H Q:=by
 unfold AD zo;refine⟨_,h5,d,rfl,.inl ⟨_,.of hd⟩,_,h3,_,h4,?_⟩;refine jd (i:=tm) (j:=2*(if x="cup" then 1 else 0)) (c9 h4) (JT jO (Ef h3) (by decide)) H (.refl _) _ ?_
 refine⟨by show 2≤sizeLine;decide,λt ht=>?_⟩;have st:=aU.upd (o:=.tup [.int tm,.int (tm+2*(if x="cup" then 1 else 0))]) ht
 refine⟨_,gH.k (k:=.inr x) (st _ _ hd),?_⟩;rcases hD.get x with⟨row,v,e1,e2,e3⟩|⟨e1,e2⟩
 ·rcases hs with hs|⟨hs,_⟩
  ·rw[e1]at hs;cases hs;rw[e2];exact q v _ st (st.bt e3)
  ·rw[e1]at hs;cases hs
 ·rcases hs with hs|⟨_,rfl,rfl⟩
  ·rw[e1]at hs;cases hs
  ·rw[e2];exact q t _ st (.of bg)
theorem acB(hH:Hand H a n)(hn:n≤800)(p2:2≤p)(eC:p≤97)(q:∀v d H' n',d.wf p→d.bc.length≤3→d.aO≤2→d.aV≤2→cZ a H H'→Hand H' a n'→n'≤n+3→fZ K H' v d→D.rt (.ref v) H') :
  Eh K D [some (.ref a),some (.int p),none,none,none,none,none,none,none] H:=by
 unfold Eh;refine gq ?_;refine⟨by show 12≤sizeLine;decide,λl0 zD=>?_⟩;refine gq ⟨_,rfl,?_⟩;refine vV rfl (λR h=>h) (hH.new zD) (by lia) (by decide) (by decide) λj H1 j0 j1 s1 g1=>?_;obtain⟨x,hx,hw⟩:=acz j.toNat (by lia);refine⟨l0,vW.map V.str,j,.str x,rfl,rfl,.of (s1 _ _ bg (acw hH zD)),?_,?_⟩
 ·rw[show j=((j.toNat:Nat):Int) by lia];refine cw (j:=j.toNat) ?_;rw[du,hx];rfl
 have sA:cZ a H H1:=λb o e nb=>s1 b o (by rw[bU (fg e zD)];exact e) nb;refine gq ?_;refine Ef (y:=x) (x := "times") rfl H1 (.refl _) _ ?_;refine gq ?_;refine RT (K:=K) RX Eg RZ ?_;intro dk aM H2 s2 hd hD;have g2:Hand H2 a (n+1):=g1.mono s2;have sB:cZ a H H2:=cZ.trans sA (aU.gI s2);obtain⟨l,r,aQ,hsz,hE⟩:∃(l r:Nat)(aQ:LL),(iq.lookup x=some [(l:Int),(r:Int)]∨(iq.lookup x=none∧(l:Int)=(if x="times" then 1 else 0)∧(r:Int)=(if x="times" then 1 else 0)+2*(if x="cup" then 1 else 0)))∧((x="times"∧l=1∧r=1)∨(x ≠ "times"∧(x,l,r,aQ)∈gZ)):=by
  rcases hw with rfl|⟨e,he,rfl,cL⟩
  ·exact⟨1,1,[],.inr ⟨R1,by rw[af rfl];rfl,by rw[af rfl,ag R3];rfl⟩,.inl ⟨rfl,rfl,rfl⟩⟩
  ·refine⟨e.2.1,e.2.2.1,e.2.2.2,?_,.inr ⟨cL,he⟩⟩;rw[ag cL];rcases R4 e he with z|⟨z1,z2,z3⟩
   ·exact .inl z
   ·exact .inr ⟨z1,z2,by rw[z3,pV]⟩
 refine Ee ?_;refine acA (K:=K) (x:=x) rfl rfl rfl hd hD hsz ?_;intro v3 H3 s3 um;have g3:Hand H3 a (n+1):=g2.mono s3;have sC:cZ a H H3:=cZ.trans sB (aU.gI s3);refine RV um ?_;refine gq ⟨_,rfl,by show 1≤sizeLine;decide,λw4 R5=>?_⟩;have s4:=aU.upd (o:=.tup [.str x]) R5;have g4:Hand (upd H3 w4 (.tup [.str x])) a (n+1):=g3.new R5;have vX:bj K (upd H3 w4 (.tup [.str x])) w4 [.str x]:=.of bg;have sD:cZ a H (upd H3 w4 (.tup [.str x])):=cZ.trans sC (aU.gI s4);generalize upd H3 w4 (.tup [.str x])=H4 at s4 g4 vX sD ⊢;have eh:∀(d:Drw)(ws:Addr)(H5:Hp)(m:Nat),d.wf p→d.bc.length≤2→d.aO=l→d.aV=r→l≤2→r≤2→cZ a H H5→Hand H5 a m→m≤n+2→bj K H5 ws d.bc→
   cn (dF (gg (cx jI (se 0 (tC (.int 3))) (tC (.int 1)))) (eB (dR (aZ (dY K (dR (aZ (tC (.str "back")) bK)) (aX 8)) (aZ (aX 7) (aZ (aX 6) bK))))) fh) (eB (dR (aZ (aX 8) (aZ (aX 6) (aZ (aX 7) bK))))) D
    [some (.ref a),some (.int p),some (.ref l0),some (.str x),some (.int (if x="times" then 1 else 0)),some (.ref dk),some (.int (l:Int)),some (.int (r:Int)),some (.ref ws)] H5:=by
  intro d ws H5 m hd vG el er l2 r2 sm hm hmn vX;refine kY ?_;refine vV rfl (λR h=>h) hm (by lia) (by decide) (by decide) λj H6 j0 j1 s6 g6=>⟨rfl,_,rfl,?_⟩;have R6:=cZ.bt s6 hm vX;have rQ:=cZ.trans sm s6;by_cases ej:j=1
  ·rw[aC (aj V.int ej)];refine fU ⟨by show 1≤sizeLine;decide,λb hb=>⟨_,rfl,?_⟩⟩;have sb:=aU.upd (o:=.tup [.str "back"]) hb;refine⟨b,ws,_,_,rfl,rfl,.of bg,sb.bt R6,?_,λc H7 s7 hc=>?_⟩
   ·have:(1000:Nat)≤sizeLine:=by decide
    show 1+d.bc.length≤sizeLine;lia
   refine⟨_,rfl,_,rfl,by show 3≤sizeLine;decide,λv hv=>?_⟩;have sv:=(sb.trans s7).trans (aU.upd (o:=.tup [.ref c,.int (r:Int),.int (l:Int)]) hv);refine q v (.back d) _ (m+1) hd (by simp only[Drw.bc,eK];lia) (by show d.aV≤2;lia) (by show d.aO≤2;lia) (cZ.trans rQ (aU.gI sv)) (g6.mono sv) (by lia) ⟨c,?_,(aU.upd hv).bt hc⟩;refine .of ?_;rw[bg];show some (HO.tup _)=some (HO.tup [_,.int (d.aV:Int),.int (d.aO:Int)]);rw[el,er]
  ·rw[ae λz=>ej (V.int.inj z)];refine eU ⟨_,rfl,_,rfl,_,rfl,by show 3≤sizeLine;decide,λv hv=>?_⟩;have sv:=aU.upd (o:=.tup [.ref ws,.int (l:Int),.int (r:Int)]) hv;refine q v d _ (m+1) hd (by lia) (by lia) (by lia) (cZ.trans rQ (aU.gI sv)) (g6.mono sv) (by lia) ⟨ws,?_,sv.bt R6⟩;refine .of ?_;rw[bg,el,er]
 refine kY ?_;refine acy (y:=x) rfl (AB (λct=>?_) λct=>?_)
 ·rcases hE with⟨_,rfl,rfl⟩|⟨cL,_⟩
  ·refine⟨_,rfl,?_⟩;refine vV rfl (λR h=>⟨_,rfl,h⟩) g4 (by lia) (by lia) (by lia) λm H5 m0 m1 s5 g5=>?_;refine⟨by show 2≤sizeLine;decide,λw5 R7=>?_⟩;have s6:=aU.upd (o:=.tup [.str x,.int m]) R7;refine eh (.times m) w5 _ (n+1+1) ⟨m0,m1⟩ (by show 2≤2;decide) rfl rfl (by decide) (by decide) (cZ.trans sD (cZ.trans s5 (aU.gI s6))) (g5.new R7) (by lia) ?_;rw[ct];exact .of bg
  ·exact absurd ct cL
 ·rcases hE with⟨ji,_⟩|⟨_,hb⟩
  ·exact absurd ji ct
  ·obtain⟨b1,b2,_⟩:=xB _ hb;exact eh (.box x l r aQ) w4 H4 (n+1) hb (by show 1≤2;decide) rfl rfl b1 b2 sD g4 (by lia) vX
noncomputable abbrev R8:List Str:=["words","sizes","parts","rows","alias","count","at","word","one","other","k","times","left","right","row"]
theorem kc:dU R8 ["words"] (cg Cw):=eT rfl rfl rfl (by decide +kernel) rfl
theorem acC:(["port","count","row"]:List Str).Nodup:=by decide +kernel
abbrev R9(K:Frag)(i n:Nat):TE:=cx (qf K) (aX i) (tC (.int (n:Int)))
abbrev uq(a b:TE):TE:=cx (ju λi j=>.int (i+j)) a b
abbrev acD(a b:TE):TE:=cx (ju λi j=>.int (i-j)) a b
abbrev iY(x:Str):TT:=gg (cx jI (aX 7) (tC (.str x)))
abbrev Ei(K:Frag):TE:=BO K "list" BR (aX 2)
abbrev Ej(K:Frag)(te:TE):TS:=uV (yT K "list" wF (aX 2) (aZ te bK))
abbrev ke(K:Frag)(i n:Nat):TE:=cx (sW K) (aX i) (tC (.int (n:Int)))
abbrev Sa(K:Frag)(te:TE):TE:=lg (λxs H Q=>∃p ys,xs=[.ref p]∧(dP K H p ys∨bj K H p ys)∧Q (.int ys.length) H) (aZ te bK)
abbrev rLR:List V→Hp→VK→Prop:=λxs H Q=>∃p i j,xs=[.ref p]∧H p=some (.qS i j)∧(-(2^62)≤i∧i<2^62∧-(2^62)≤j∧j<2^62)∧j-i≤16777216∧∀l,H l=none→Q (.ref l) (upd H l (.lst ((List.range (j-i).toNat).map λ(k:Nat)=>V.int (i+k))))
abbrev rR2:List V→Hp→VK→Prop:=λxs H Q=>∃i j:Int,xs=[.int i,.int j]∧∀p,H p=none→Q (.ref p) (upd H p (.qS i j))
abbrev JW(a b:TE):TE:=lg rLR (aZ (lg rR2 (aZ a (aZ b bK))) bK)
def uv(K:Frag):TS:=cn (cT (Ei K) (cm 8)) (Ej K (dR (aZ (ke K 8 1) (aZ (ke K 8 0) (aZ (ke K 8 2) bK)))))
def Ek(K:Frag):TS:=Ej K (dR (aZ (cx ox (ke K 8 0) (ke K 9 0)) (aZ (cx ox (ke K 8 1) (ke K 9 1)) (aZ (cx ox (ke K 8 2) (ke K 9 2)) bK))))
def El(K:Frag):TS:=cn (uY (Lr (aZ (Sa K (ke K 8 1)) bK)) (cm 10) (Nw (aX 4) (cx (qf K) (ke K 9 0) (aX 10)) (cx (qf K) (ke K 8 1) (aX 10)))) (Ej K (dR (aZ (ke K 8 0) (aZ (ke K 9 1) (aZ (cx ox (cx ox (ke K 8 2) (ke K 8 1)) (ke K 9 2)) bK)))))
def uw(K:Frag):TS:=cn (cT (Ei K) (cm 8)) (cn (cT (Ei K) (cm 9)) (dF (iY "beside") (Ek K) (El K)))
def AE(K:Frag):TE:=lg (Jc K) (aZ (Qv (rl (Qn (aX 14)) 1 [5,14] (cm 0) oB (dR (aZ (uq (aX 1) (aX 0)) (aZ (Nv (aX 2) (aX 0)) bK))))) bK)
def AF:TE:=zo (aX 1) (aX 7) (dR (aZ (aX 11) (aZ (iI (aX 11) (cx JV (tC (.int 2)) (x5 7 "cup"))) bK)))
def JX(K:Frag):TE:=iw Jy [] E0 (aZ (aX 7) (aZ (cx (sW K) (dY K (aX 0) (dR (aZ (tC (.int 0)) bK))) (uq (aX 6) (tC (.int 1)))) bK))
def JY(K:Frag):TS:=uV (yT K "list" wF (aX 3) (aZ (AE K) bK))
def JZ(K:Frag):TS:=cn (Ej K (dR (aZ (JW (aX 5) (uq (aX 5) (aX 12))) (aZ (JW (uq (aX 5) (aX 12)) (uq (uq (aX 5) (aX 12)) (aX 13))) (aZ (gE bK) bK))))) (cT (uq (uq (aX 5) (aX 12)) (aX 13)) (cm 5))
def ux(K:Frag):TS:=cn (cT (x5 7 "times") (cm 11)) (cn (cT AF (qV K 2 (jH (cm 12) (jH (cm 13) sQ)))) (cn (uY (BE K (JX K)) (cm 14) (JY K)) (JZ K)))
section
variable{B H:Hp}{ap ar al aw dk:Addr}{F:FP}{D:Ends}
noncomputable abbrev jR(aw dk ap ar al:Addr)(N k:Nat)(v:V)(s8 s9 cX dt eG ff eI:Option V):St:=[some (.ref aw),some (.ref dk),some (.ref ap),some (.ref ar),some (.ref al),some (.int (N:Int)),some (.int (k:Int)),some v,s8,s9,cX,dt,eG,ff,eI]
theorem AG(l m:List Nat):cz l++cz m=cz (l++m):=by unfold cz;rw[eM]
theorem oY(l:List Nat):(cz l).length=l.length:=by unfold cz;rw[bO]
theorem Sb{l:List Nat}{s:Nat}(h:l[i]?=some s):(cz l)[i]?=some (.int (s:Int)):=by unfold cz;rw[du,h];rfl
theorem AH{R:VK}(h2:σ[2]?=some (some (.ref ap)))(h:dO K B ap ar al F H)(hp:F.parts=A::ns)
  (q:∀t a b c PS H',dz [ap,ar,al] H'=dz [ap,ar,al] H→dO K B ap ar al ⟨ns,F.aQ,F.al,F.N⟩ H'→H' ap=some (.lst PS)→jQ K (dz [ap,ar,al] H') PS ns.reverse→bj K (dz [ap,ar,al] H') t [.ref a,.ref b,.ref c]→dz [ap,ar,al] H' a=some (.lst (cz A.l))→dz [ap,ar,al] H' b=some (.lst (cz A.r))→dz [ap,ar,al] H' c=some (.lst (cz A.cS))→R (.ref t) H') :
  Ei K σ H R:=by
 obtain⟨PS,g,hP⟩:=h.p;rw[hp,Bm]at hP;obtain⟨kX,u,rfl,Sd,t,a,b,c,rfl,ht,ha,hb,hc⟩:=hP.init;have e:dz [ap,ar,al] (upd H ap (.lst kX))=dz [ap,ar,al] H:=r9 JL;refine⟨_,h2,.inl ⟨rfl,_,.of g⟩,ap,kX++[.ref t],.ref t,rfl,rfl,g,by simp,?_⟩;rw[List.dropLast_concat];exact q t a b c kX _ e (h.RF Sd) bg (by rw[e];exact Sd) (by rw[e];exact ht) (by rw[e];exact ha) (by rw[e];exact hb) (by rw[e];exact hc)
theorem Em{PS:List V}{aQ:List dN}{Q:Hp→Prop}(h:dO K B ap ar al ⟨ns,aQ,as,N⟩ H)(g:H ap=some (.lst PS))(hP:jQ K (dz [ap,ar,al] H) PS ns.reverse)(hl:ns.length≤1000)
  (ha:dz [ap,ar,al] H a=some (.lst (cz A.l))) (hb:dz [ap,ar,al] H b=some (.lst (cz A.r))) (hc:dz [ap,ar,al] H c=some (.lst (cz A.cS))) (q:∀H',dO K B ap ar al ⟨A::ns,aQ,as,N⟩ H'→Q H') :
  ([V.ref a,V.ref b,V.ref c]).length≤sizeLine∧∀t,H t=none→wF (.ref ap) [.ref t] (upd H t (.tup [.ref a,.ref b,.ref c])) (λ_ H'=>Q H'):=by
 have z:(2000:Nat)≤sizeLine:=by decide
 refine⟨by show 3≤sizeLine;lia,λt ht=>?_⟩;have s2:=aU.upd (o:=.tup [.ref a,.ref b,.ref c]) ht;refine⟨ap,PS,.ref t,rfl,rfl,s2 _ _ g,by have:=hP.1;rw[List.length_reverse]at this;lia,?_⟩;refine q _ ((h.grow s2).RF (ns:=A::ns) ?_);rw[Bm];exact(hP.mono (nU s2)).snoc ⟨t,a,b,c,rfl,.of (pM bg (h.out ht)),nU s2 _ _ ha,nU s2 _ _ hb,nU s2 _ _ hc⟩
theorem acE{k:Nat}(h:dO K B ap ar al F H)(hp:F.parts=A::ns)(hl:F.parts.length≤1000)
  (q:∀s8 H',dO K B ap ar al ⟨⟨A.r,A.l,A.cS,A.aQ,A.al⟩::ns,F.aQ,F.al,F.N⟩ H'→D.nx (jR aw dk ap ar al N k v s8 s9 cX dt eG ff eI) H'):uv K D (jR aw dk ap ar al N k v s8 s9 cX dt eG ff eI) H:=by
 unfold uv;refine gq (AH rfl h hp λt a b c PS H1 e1 h1 g1 mx ht ha hb hc=>?_);have iQ:=pL.bt ht;refine⟨_,rfl,.inl ⟨rfl,_,.of g1⟩,_,rfl,t,_,1,.ref b,rfl,rfl,iQ,cw (j:=1) rfl,_,rfl,t,_,0,.ref a,rfl,rfl,iQ,cw (j:=0) rfl,_,rfl,t,_,2,.ref c,rfl,rfl,iQ,cw (j:=2) rfl,?_⟩;exact Em (A:=⟨A.r,A.l,A.cS,A.aQ,A.al⟩) h1 g1 mx (by rw[hp,eK]at hl;lia) hb ha hc λH' h'=>q _ H' h'
theorem acF{k:Nat}{C:iJ}{t t' a' b' c':Addr}{PS:List V}{aQ rw':List dN}{aa:List (Nat×Nat)}{M:Nat}(h1:dO K B ap ar al ⟨ns,aQ,as,M⟩ H)(g1:H ap=some (.lst PS))(mx:jQ K (dz [ap,ar,al] H) PS ns.reverse)(hl:ns.length≤1000)
  (ht:bj K (dz [ap,ar,al] H) t [.ref a,.ref b,.ref c]) (ha:dz [ap,ar,al] H a=some (.lst (cz A.l))) (hb:dz [ap,ar,al] H b=some (.lst (cz A.r))) (hc:dz [ap,ar,al] H c=some (.lst (cz A.cS)))
  (mn:bj K (dz [ap,ar,al] H) t' [.ref a',.ref b',.ref c']) (En:dz [ap,ar,al] H a'=some (.lst (cz C.l))) (lE:dz [ap,ar,al] H b'=some (.lst (cz C.r))) (i5:dz [ap,ar,al] H c'=some (.lst (cz C.cS)))
  (l1:A.l.length+A.r.length+A.cS.length≤900) (l2:C.l.length+C.r.length+C.cS.length≤900)
  (q:∀H',dO K B ap ar al ⟨⟨A.l++C.l,A.r++C.r,A.cS++C.cS,rw',aa⟩::ns,aQ,as,M⟩ H'→D.nx (jR aw dk ap ar al N k v (some (.ref t)) (some (.ref t')) cX dt eG ff eI) H'):Ek K D (jR aw dk ap ar al N k v (some (.ref t)) (some (.ref t')) cX dt eG ff eI) H:=by
 have z:(2000:Nat)≤sizeLine:=by decide
 have iQ:=pL.bt ht;have x8:=pL.bt mn;unfold Ek;refine⟨_,rfl,.inl ⟨rfl,_,.of g1⟩,_,rfl,t,_,0,.ref a,rfl,rfl,iQ,cw (j:=0) rfl,_,rfl,t',_,0,.ref a',rfl,rfl,x8,cw (j:=0) rfl,a,a',_,_,rfl,rfl,(kU ha).2,(kU En).2,by rw[oY,oY];lia,λx k1=>?_⟩;have s1:=aU.upd (o:=.lst (cz A.l++cz C.l)) k1;refine⟨_,rfl,t,_,1,.ref b,rfl,rfl,s1.bt iQ,cw (j:=1) rfl,_,rfl,t',_,1,.ref b',rfl,rfl,s1.bt x8,cw (j:=1) rfl,b,b',_,_,rfl,rfl,s1 _ _ (kU hb).2,s1 _ _ (kU lE).2,by rw[oY,oY];lia,λy k2=>?_⟩;have s2:=aU.upd (o:=.lst (cz A.r++cz C.r)) k2;have sA:=s1.trans s2;refine⟨_,rfl,t,_,2,.ref c,rfl,rfl,sA.bt iQ,cw (j:=2) rfl,_,rfl,t',_,2,.ref c',rfl,rfl,sA.bt x8,cw (j:=2) rfl,c,c',_,_,rfl,rfl,sA _ _ (kU hc).2,sA _ _ (kU i5).2,by rw[oY,oY];lia,λu k3=>?_⟩;have s3:=aU.upd (o:=.lst (cz A.cS++cz C.cS)) k3;have sB:=sA.trans s3;refine Em (A:=⟨A.l++C.l,A.r++C.r,A.cS++C.cS,rw',aa⟩) (h1.grow sB) (sB _ _ g1) (mx.mono (nU sB)) hl (pM ?_ (h1.out k1)) (pM ?_ (h1.out (j6 s1 k2))) (pM ?_ (h1.out (j6 sA k3))) λH' h'=>q H' h'
 ·rw[← AG];exact(s2.trans s3) _ _ bg
 ·rw[← AG];exact s3 _ _ bg
 ·rw[← AG];exact bg
theorem acG{k:Nat}{C:iJ}{t t' a' b' c':Addr}{PS:List V}{aQ rw':List dN}{aa:List (Nat×Nat)}{M:Nat}(h1:dO K B ap ar al ⟨ns,aQ,as,M⟩ H)(g1:H ap=some (.lst PS))(mx:jQ K (dz [ap,ar,al] H) PS ns.reverse)(hl:ns.length≤1000)
  (ht:bj K (dz [ap,ar,al] H) t [.ref a,.ref b,.ref c]) (ha:dz [ap,ar,al] H a=some (.lst (cz A.l))) (hb:dz [ap,ar,al] H b=some (.lst (cz A.r))) (hc:dz [ap,ar,al] H c=some (.lst (cz A.cS)))
  (mn:bj K (dz [ap,ar,al] H) t' [.ref a',.ref b',.ref c']) (En:dz [ap,ar,al] H a'=some (.lst (cz C.l))) (lE:dz [ap,ar,al] H b'=some (.lst (cz C.r))) (i5:dz [ap,ar,al] H c'=some (.lst (cz C.cS)))
  (l1:A.l.length+A.r.length+A.cS.length≤900) (l2:C.l.length+C.r.length+C.cS.length≤900) (hm:A.r.length=C.l.length) (las:as.length≤900)
  (q:∀cX H',dO K B ap ar al ⟨⟨A.l,C.r,A.cS++A.r++C.cS,rw',aa⟩::ns,aQ,as++C.l.zip A.r,M⟩ H'→D.nx (jR aw dk ap ar al N k v (some (.ref t)) (some (.ref t')) cX dt eG ff eI) H'):El K D (jR aw dk ap ar al N k v (some (.ref t)) (some (.ref t')) cX dt eG ff eI) H:=by
 have z:(3000:Nat)≤sizeLine:=by decide
 unfold El;refine⟨_,rfl,t,_,1,.ref b,rfl,rfl,pL.bt ht,cw (j:=1) rfl,b,_,rfl,.inl (.of (kU hb).2),((A.r.length:Nat):Int),by rw[oY],by lia,by lia,?_⟩;refine BH (n:=A.r.length) (lo:=0) (λi σ H'=>∃cX,σ=jR aw dk ap ar al N k v (some (.ref t)) (some (.ref t')) cX dt eG ff eI∧dO K B ap ar al ⟨ns,aQ,as++(C.l.zip A.r).take i,M⟩ H'∧dz [ap,ar,al] H'=dz [ap,ar,al] H∧H' ap=some (.lst PS)) ⟨cX,rfl,by rw[List.take_zero,hJ];exact h1,rfl,g1⟩ ?_ ?_
 ·rintro i σ H2 hi ⟨cX,rfl,h2,e2,g2⟩;have ex:A.r[i]?=some (A.r[i]'hi):=cC hi;have ey:C.l[i]?=some (C.l[i]'(by lia)):=cC (by lia);have ez:(C.l.zip A.r)[i]?=some (C.l[i]'(by lia),A.r[i]'hi):=by rw[EX];exact⟨ey,ex⟩
  rw[← e2]at ht mn hb En;rw[pV];refine⟨_,rfl,t,_,1,.ref b,rfl,rfl,pL.bt ht,cw (j:=1) rfl,_,rfl,b,_,(i:Int),_,rfl,rfl,.of (kU hb).2,cw (Sb ex),_,rfl,_,rfl,t',_,0,.ref a',rfl,rfl,pL.bt mn,cw (j:=0) rfl,_,rfl,a',_,(i:Int),_,rfl,rfl,.of (kU En).2,cw (Sb ey),al,_,rfl,ql.k (k:=Sum.inl ((C.l[i]'(by lia):Nat):Int)) h2.a ?_,_,rfl,?_,?_,?_⟩
  ·refine Nat.lt_of_le_of_lt (Ci _ _) ?_;rw[bO,bO];show 0+(as++(C.l.zip A.r).take i).length<sizeLine;rw[bY,dE];lia
  ·have h3:=h2.acn (C.l[i]'(by lia),A.r[i]'hi);rw[iB,ez];show dO K B ap ar al ⟨ns,aQ,as++((C.l.zip A.r).take i++[(C.l[i]'(by lia),A.r[i]'hi)]),M⟩ _;rw[← hW];exact h3
  ·rw[r9 JN];exact e2
  ·rw[bU h2.ne.2.1];exact g2
 ·rintro σ H2 ⟨cX,rfl,h2,e2,g2⟩;rw[← e2]at ht mn ha hb hc lE i5 mx;rw[o4 (by rw[List.length_zip];lia)]at h2;have iQ:=pL.bt ht;have x8:=pL.bt mn;refine⟨_,rfl,.inl ⟨rfl,_,.of g2⟩,_,rfl,t,_,0,.ref a,rfl,rfl,iQ,cw (j:=0) rfl,_,rfl,t',_,1,.ref b',rfl,rfl,x8,cw (j:=1) rfl,_,rfl,t,_,2,.ref c,rfl,rfl,iQ,cw (j:=2) rfl,_,rfl,t,_,1,.ref b,rfl,rfl,iQ,cw (j:=1) rfl,c,b,_,_,rfl,rfl,(kU hc).2,(kU hb).2,by rw[oY,oY];lia,λx k1=>?_⟩;have s1:=aU.upd (o:=.lst (cz A.cS++cz A.r)) k1;refine⟨_,rfl,t',_,2,.ref c',rfl,rfl,s1.bt x8,cw (j:=2) rfl,x,c',_,_,rfl,rfl,bg,s1 _ _ (kU i5).2,by rw[bY,oY,oY,oY];lia,λy k2=>?_⟩;have s2:=aU.upd (o:=.lst (cz A.cS++cz A.r++cz C.cS)) k2;have sA:=s1.trans s2;refine Em (A:=⟨A.l,C.r,A.cS++A.r++C.cS,rw',aa⟩) (h2.grow sA) (sA _ _ g2) (mx.mono (nU sA)) hl (nU sA _ _ ha) (nU sA _ _ lE) (pM ?_ (h2.out (j6 s1 k2))) λH' h'=>q _ H' h';rw[← AG,← AG];exact bg
theorem acH{d:Addr}{tm l r:Int}(h7:σ[7]?=some (some (.str x)))(Se:σ[11]?=some (some (.int tm)))(h1:σ[1]?=some (some (.ref d)))(hd:H d=some (.dK aM))(hD:jE K H iq aM)
  (hs:iq.lookup x=some [l,r]∨(iq.lookup x=none∧l=tm∧r=tm+2*(if x="cup" then 1 else 0))) (q:∀v H',aU H H'→bj K H' v [.int l,.int r]→Q (.ref v) H'):AF σ H Q:=by
 unfold AF zo;refine⟨_,h1,d,rfl,.inl ⟨_,.of hd⟩,_,h7,_,Se,?_⟩;refine jd (i:=tm) (j:=2*(if x="cup" then 1 else 0)) (c9 Se) (JT jO (Ef h7) (by decide)) H (.refl _) _ ?_
 refine⟨by show 2≤sizeLine;decide,λt ht=>?_⟩;have st:=aU.upd (o:=.tup [.int tm,.int (tm+2*(if x="cup" then 1 else 0))]) ht
 refine⟨_,gH.k (k:=.inr x) (st _ _ hd),?_⟩;rcases hD.get x with⟨row,v,e1,e2,e3⟩|⟨e1,e2⟩
 ·rcases hs with hs|⟨hs,_⟩
  ·rw[e1]at hs;cases hs;rw[e2];exact q v _ st (st.bt e3)
  ·rw[e1]at hs;cases hs
 ·rcases hs with hs|⟨_,rfl,rfl⟩
  ·rw[e1]at hs;cases hs
  ·rw[e2];exact q t _ st (.of bg)
theorem Sf{a b:TE}{l:Nat}(h1:eQ a σ H (N:Int))(h2:eQ b σ H ((N+l:Nat):Int))(hN:N+l≤10000)(q:∀x H',aU H H'→H x=none→H' x=some (.lst (cz (List.range' N l)))→Q (.ref x) H'):JW a b σ H Q:=by
 refine h1 H (.refl _) _ (h2 H (.refl _) _ ⟨(N:Int),((N+l:Nat):Int),rfl,λp hp=>?_⟩);refine⟨p,(N:Int),((N+l:Nat):Int),rfl,bg,⟨by lia,by lia,by lia,by lia⟩,by lia,λx hx=>?_⟩;have s1:=aU.upd (o:=.qS (N:Int) ((N+l:Nat):Int)) hp;have e:(List.range (((N+l:Nat):Int)-(N:Int)).toNat).map (λ(k:Nat)=>V.int ((N:Int)+k))=cz (List.range' N l):=by
  rw[show(((N+l:Nat):Int)-(N:Int)).toNat=l by lia];unfold cz;rw[List.range'_eq_map_range,o6];refine uJ λi _=>?_;show V.int _=V.int _
  congr 1
 rw[e];exact q x _ (s1.trans (aU.upd (o:=.lst (cz (List.range' N l))) hx)) (j6 s1 hx) bg
theorem acI{k:Nat}{ra:Addr}{S:dN}(g:H ra=some (.dK (S.map rK)))(nd:(S.map Prod.fst).Nodup)(hl:S.length≤100)
  (q:∀x H',aU H H'→H x=none→H' x=some (.dK ((gQ N S).map rK))→Q (.ref x) H'):AE K (jR aw dk ap ar al N k v s8 s9 cX dt eG ff (some (.ref ra))) H Q:=by
 have z:(2000:Nat)≤sizeLine:=by decide
 unfold AE;refine⟨ra,S.map rK,g,_,rfl,ra,_,rfl,g,λo=>?_⟩;have g1:(upd H ra (.dC o (.dK (S.map rK)))) ra=some (.dC o (.dK (S.map rK))):=bg;refine Jd (cp:=[some (.int (N:Int)),some (.ref ra)]) (λi H' zs=>lT K H' zs ((gQ N (S.take i)).map rK)) g1 (by rw[bO];lia) .nil (λi H' zs h=>?_) ?_ ?_
 ·rw[h.1,bO];unfold gQ;rw[bO,dE];exact we _ _
 ·intro i kv H' zs hk sm hP;rw[du]at hk;cases e:S[i]? with
  |none=>rw[e]at hk;cases hk
  |some t=>
   rw[e]at hk;cases hk;have ht:=dI e;refine rE ⟨_,rfl,_,rfl,(N:Int),(t.1:Int),rfl,rfl,_,rfl,_,rfl,ra,.int t.2,rfl,by have:=uh (k:=Sum.inl (t.1:Int)) (sm _ _ g1);rw[rW nd ht]at this;exact this,by show 2≤sizeLine;lia,λx hx=>?_⟩;have s1:=aU.upd (o:=.tup [.int ((N:Int)+(t.1:Int)),.int t.2]) hx;refine⟨⟨[_],rfl,rfl⟩,sm.trans s1,?_⟩;rw[iB,e];unfold gQ;rw[eM,eM];refine(hP.mono s1).snoc (.of ?_);rw[bg];show some (HO.tup [.int ((N:Int)+(t.1:Int)),.int t.2])=some (HO.tup [.int ((N+t.1:Nat):Int),.int t.2]);rw[Int.natCast_add]
 ·intro H' zs sm hP lz jx;rw[bO,lZ]at hP;have s1:=sm.trans (aU.upd (o:=.lst zs) jx);have s2:=Af g s1;have ne:lz≠ra:=λe=>by rw[e,sm _ _ g1]at jx;cases jx
  refine⟨⟨o,s1 _ _ g1⟩,lz,zs,(gQ N S).map rK,rfl,by rw[bU ne];exact bg,?_,λx hx=>?_⟩
  ·refine⟨hP.1,λi y kv e1 e2=>?_⟩;obtain⟨t,e,gt⟩:=hP.2 i y kv e1 e2;exact⟨t,e,bj.Jj ((aU.upd (o:=.lst zs) jx).bt gt) (s1 _ _ g1)⟩
  ·rw[vO _ [] (by rw[lY];exact xS _ (JD nd)),lY];exact q x _ (s2.trans (aU.upd (o:=.dK ((gQ N S).map rK)) hx)) (j6 s2 hx) bg
theorem acJ{k:Nat}{f:V}{n:Int}{ws:List V}(h:dO K B ap ar al F H)(hw:bj K B aw ws)(wG:ws.length≤1000)(hf:(ws++[.int 0])[k+1]?=some f)(hv:x="times"→f=.int n)(hR:F.aQ.length≤1000)
  (q:∀eI H',dO K B ap ar al ⟨F.parts,F.aQ++(dy x n).map (gQ N),F.al,F.N⟩ H'→u D (jR aw dk ap ar al N k (.str x) s8 s9 cX dt eG ff eI) H') :
  cn (uY (BE K (JX K)) (cm 14) (JY K)) u D (jR aw dk ap ar al N k (.str x) s8 s9 cX dt eG ff eI) H:=by
 have z:(2000:Nat)≤sizeLine:=by decide
 have J3:=h.sm.bt hw;have Sh:∀{b:Addr},H b=none→b ∉ [ap,ar,al]:=λhb=>h.out hb;refine⟨_,rfl,_,rfl,by show 1≤sizeLine;lia,λt0 k0=>?_⟩;have s0:=aU.upd (o:=.tup [.int 0]) k0;refine⟨aw,t0,_,_,rfl,rfl,s0.bt J3,.of bg,by show _+1≤sizeLine;lia,λt1 H2 s2 h1=>?_⟩;have sA:=s0.trans s2;refine⟨_,rfl,(k:Int),1,rfl,rfl,t1,_,((k+1:Nat):Int),f,rfl,aj V.int (by lia),h1,cw hf,?_⟩;refine⟨x,f,n,rfl,hv,λt RS H3 s3 nt nv gt hE=>?_⟩;have sB:=sA.trans s3;have h3:=h.grow sB;have gtd:dz [ap,ar,al] H3 t=some (.lst RS):=pM gt (Sh (j6 sA nt));have hEd:jr (dz [ap,ar,al] H3) RS (dy x n):=⟨hE.1,λi y q' e1 e2=>by
  obtain⟨a,e,g⟩:=hE.2 i y q' e1 e2;exact⟨a,e,pM g (Sh (j6 sA (nv y (dI e1) a e)))⟩⟩
 have eR:=hE.1;have fR:=JC x n;refine⟨t,rfl,⟨RS,.of gt⟩,?_⟩;refine yF (K:=K) (xs:=RS) (λi σ H'=>∃eI,σ=jR aw dk ap ar al N k (.str x) s8 s9 cX dt eG ff eI∧dO K B ap ar al ⟨F.parts,F.aQ++((dy x n).take i).map (gQ N),F.al,F.N⟩ H'∧aU (dz [ap,ar,al] H3) (dz [ap,ar,al] H')) ⟨eI,rfl,by rw[List.take_zero,List.map_nil,hJ];exact h3,.refl _⟩ ?_ ?_ ?_
 ·rintro i σ H' _ ⟨_,_,_,sm⟩;exact .of (pL _ _ (sm _ _ gtd))
 ·rintro i y σ H' hy ⟨Si,rfl,h',sm⟩;have hi:i<(dy x n).length:=by rw[← eR];exact(dH.mp hy).1
  have hq:(dy x n)[i]?=some (dy x n)[i]:=cC hi;obtain⟨nd,l3⟩:=JB _ (dI hq);obtain⟨ra,rfl,Am⟩:=hEd.2 i y _ hy hq;obtain⟨gk,gR,Sj⟩:=h'.r;refine⟨_,rfl,.inl ⟨rfl,_,.of gR⟩,?_⟩;refine acI (kU (sm _ _ Am)).2 nd (by lia) λx' H4 s4 nx gx=>?_;refine⟨ar,gk,.ref x',rfl,rfl,s4 _ _ gR,?_,_,rfl,?_,?_⟩
  ·rw[Sj.1];show(F.aQ++((dy x n).take i).map (gQ N)).length<sizeLine;rw[bY,bO,dE];lia
  ·have hk:=(h'.grow s4).acm ((Sj.mono (nU s4)).snoc (pM gx (h'.out nx)));rw[iB,hq];show dO K B ap ar al ⟨F.parts,F.aQ++((dy x n).take i++[(dy x n)[i]]).map (gQ N),F.al,F.N⟩ _;rw[eM,← hW];exact hk
  ·rw[r9 JM];exact sm.trans (nU s4)
 ·rintro σ H' ⟨Si,rfl,h',_⟩;rw[eR,lZ]at h';exact q Si H' h'
theorem jE.sm(h:jE K H L aM)(s:aU H H'):jE K H' L aM:=by
 induction h with
 |nil=>exact .nil
 |cons h t ih=>exact .cons (s.bt h) ih
theorem Sk{k l r:Nat}{f:V}{n:Int}{ws:List V}(h:dO K B ap ar al F H)(hw:bj K B aw ws)(wG:ws.length≤1000)(hf:(ws++[.int 0])[k+1]?=some f)(hv:x="times"→f=.int n)(hR:F.aQ.length≤1000)(hd:B dk=some (.dK aM))(hD:jE K B iq aM)
  (hs:iq.lookup x=some [(l:Int),(r:Int)]∨(iq.lookup x=none∧(l:Int)=(if x="times" then 1 else 0)∧(r:Int)=(if x="times" then 1 else 0)+2*(if x="cup" then 1 else 0))) (hl:F.parts.length≤1000) (hN:N+l+r≤10000)
  (q:∀dt eG ff eI H',dO K B ap ar al ⟨⟨List.range' N l,List.range' (N+l) r,[],(dy x n).map (gQ N),[]⟩::F.parts,F.aQ++(dy x n).map (gQ N),F.al,N+l+r⟩ H'→D.nx (jR aw dk ap ar al (N+l+r) k (.str x) s8 s9 cX dt eG ff eI) H') :
  ux K D (jR aw dk ap ar al N k (.str x) s8 s9 cX dt eG ff eI) H:=by
 unfold ux;refine gq ?_;refine Ef (y:=x) (x := "times") rfl H (.refl _) _ ?_;refine Ee ?_;refine acH (K:=K) (x:=x) rfl rfl rfl (h.sm _ _ hd) (hD.sm h.sm) hs ?_;intro v3 H3 s3 um;refine RV um ?_;refine acJ (h.grow s3) hw wG hf hv hR λeI H4 h4=>?_;unfold JZ;obtain⟨PS,g4,hP4⟩:=h4.p;refine⟨_,rfl,.inl ⟨rfl,_,.of g4⟩,?_⟩;refine Sf (N:=N) (l:=l) (c9 rfl) (by rw[Int.natCast_add];exact jd (c9 rfl) (c9 rfl)) (by lia) λa H5 s5 na ga=>?_;refine Sf (N:=N+l) (l:=r) (by rw[Int.natCast_add];exact jd (c9 rfl) (c9 rfl)) (by rw[Int.natCast_add,Int.natCast_add];exact jd (jd (c9 rfl) (c9 rfl)) (c9 rfl)) hN λb H6 s6 nb gb=>?_;refine⟨by show 0≤sizeLine;exact jf _,λc hc=>?_⟩;have s7:=aU.upd (o:=.lst []) hc;have sA:=s5.trans (s6.trans s7);refine Em (A:=⟨List.range' N l,List.range' (N+l) r,[],(dy x n).map (gQ N),[]⟩) (h4.grow sA) (sA _ _ g4) (hP4.mono (nU sA)) hl (pM ((s6.trans s7) _ _ ga) (h4.out na)) (pM (s7 _ _ gb) (h4.out (j6 s5 nb))) (pM bg (h4.out (j6 (s5.trans s6) hc))) λH' h'=>?_;refine jd (jd (c9 rfl) (c9 rfl)) (c9 rfl) H' (.refl _) _ ?_;have e:((N+l+r:Nat):Int)=(N:Int)+(l:Int)+(r:Int):=by lia
 show D.nx [some (.ref aw),some (.ref dk),some (.ref ap),some (.ref ar),some (.ref al),some (.int ((N:Int)+(l:Int)+(r:Int))),some (.int (k:Int)),some (.str x),s8,s9,cX,_,_,_,eI] H';rw[← e];exact q _ _ _ eI H' (h'.aco _)
end
def Eo(K:Frag):TT:=tB (lg (λxs H Q=>∃(x:V)(b:Bool),xs=[x,.ty "int"]∧((∃i,x=.int i∧kitOne K (.type "int") (.type "int")=some b)∨∃s,x=.str s∧kitOne K (.type "str") (.type "int")=some b)∧Q (.bl b) H) (aZ (aX 7) (aZ (tC (.ty "int")) bK)))
def Ep(K:Frag):TS:=cn (cT (cx (sW K) (aX 0) (aX 6)) (cm 7)) (cn (dF (Eo K) wx fh) (dF (iY "back") (uv K) (dF (pb (iY "beside") (iY "then")) (uw K) (ux K))))
def Er(K:Frag):TS:=cn (cT (pz (oW iq)) (cm 1)) (cn (cT (gE bK) (cm 2)) (cn (cT (gE bK) (cm 3)) (cn (cT He (cm 4)) (cn (cT (tC (.int 0)) (cm 5)) (cn (uY (NT (aZ (acD (Sa K (aX 0)) (tC (.int 1))) (aZ Av (aZ Av bK)))) (cm 6) (Ep K)) (eB (gE (aZ (R9 K 2 0) (aZ (aX 3) (aZ (aX 4) bK))))))))))
theorem acK:∀e∈gZ,e.1 ≠ "back"∧e.1 ≠ "beside"∧e.1 ≠ "then"∧e.1 ≠ "times":=by decide +kernel
section
variable{B H:Hp}{ap ar al aw dk:Addr}{D:Ends}
theorem AI(h7:σ[7]?=some (some v))(hs:Fh v (.str x)=true)(n:v≠.str x)(h:u D σ H):dF (iY x) t u D σ H:=⟨_,h7,hs,_,rfl,by rw[ae n];exact eU h⟩
theorem Sl(h7:σ[7]?=some (some (.str x)))(h:t D σ H):dF (iY x) t u D σ H:=⟨_,h7,rfl,_,rfl,zO h⟩
theorem Sm{z:Str}(h7:σ[7]?=some (some (.str z)))(e:z=x∨z=y)(h:t D σ H):dF (pb (iY x) (iY y)) t u D σ H:=by
 refine⟨_,h7,rfl,_,rfl,?_⟩;by_cases c:z=x
 ·rw[aC (aj V.str c)];exact fU (fU h)
 ·rw[ae λe=>c (V.str.inj e)];refine eU ⟨_,h7,rfl,_,rfl,?_⟩;rw[aC (aj V.str (e.resolve_left c))];exact fU h
theorem Sn{z:Str}(h7:σ[7]?=some (some (.str z)))(n1:z≠x)(n2:z≠y)(h:u D σ H):dF (pb (iY x) (iY y)) t u D σ H:=by
 refine⟨_,h7,rfl,_,rfl,?_⟩;rw[ae λe=>n1 (V.str.inj e)];refine eU ⟨_,h7,rfl,_,rfl,?_⟩;rw[ae λe=>n2 (V.str.inj e)];exact eU h
theorem acL{d:Drw}{k:Nat}{s7:Option V}(hd:d.wf p)(hl:d.bc.length≤99)(hk:k<d.bc.length)(h:dO K B ap ar al (bu (eV [.cG d] (k+1))) H)(hw:bj K B aw d.bc)(Es:B dk=some (.dK aM))(hD:jE K B iq aM)
  (q:∀s7 s8 s9 cX dt eG ff eI H',dO K B ap ar al (bu (eV [.cG d] k)) H'→D.nx [some (.ref aw),some (.ref dk),some (.ref ap),some (.ref ar),some (.ref al),some (.int ((bu (eV [.cG d] k)).N:Int)),some (.int (k:Int)),s7,s8,s9,cX,dt,eG,ff,eI] H')
  (qc:∀s7 s8 s9 cX dt eG ff eI H',dO K B ap ar al (bu (eV [.cG d] k)) H'→D.ct [some (.ref aw),some (.ref dk),some (.ref ap),some (.ref ar),some (.ref al),some (.int ((bu (eV [.cG d] k)).N:Int)),some (.int (k:Int)),s7,s8,s9,cX,dt,eG,ff,eI] H') :
  Ep K D [some (.ref aw),some (.ref dk),some (.ref ap),some (.ref ar),some (.ref al),some (.int ((bu (eV [.cG d] (k+1))).N:Int)),some (.int (k:Int)),s7,s8,s9,cX,dt,eG,ff,eI] H:=by
 have ew:([Itm.cG d]).flatMap Itm.bc=d.bc:=by simp[Itm.bc]
 have lP:∀t∈[Itm.cG d],t.xZ p:=λt ht=>by rw[cJ.mp ht];exact hd
 obtain⟨t,r,e1,e2,e3⟩:=Dg (ts:=[.cG d]) (i:=k) (by rw[ew];exact hk);rw[ew]at e2;have So:=JK k lP;have acM:=JK (k+1) lP;have fl:∀i,((eV [Itm.cG d] i).flatMap Itm.bc).length≤99:=λi=>by rw[xD,ew,iK];lia
 obtain⟨f1,f2,f3,f4⟩:=Ea acM;obtain⟨_,J4,_,_⟩:=Ea So;have fk:=fl (k+1);have fk':=fl k;have ht:=So t (by rw[e1];exact cU);rw[e1]at q qc J4;rw[e3]at h f1 f2 f3 f4 ⊢;have J3:=h.sm.bt hw;unfold Ep;refine⟨_,rfl,_,rfl,aw,_,(k:Int),t.head,rfl,rfl,J3,cw e2,?_⟩;show(cn (dF (Eo K) wx fh) (dF (iY "back") (uv K) (dF (pb (iY "beside") (iY "then")) (uw K) (ux K)))) D (jR aw dk ap ar al (bu (t.kids++r)).N k t.head s8 s9 cX dt eG ff eI) H;refine kY ?_;have str:∀{z:Str},t.head=.str z→(dF (iY "back") (uv K) (dF (pb (iY "beside") (iY "then")) (uw K) (ux K))) D (jR aw dk ap ar al (bu (t.kids++r)).N k (.str z) s8 s9 cX dt eG ff eI) H→Eo K (jR aw dk ap ar al (bu (t.kids++r)).N k t.head s8 s9 cX dt eG ff eI) H λb H1=>if b=true then wx { D with nx:=(dF (iY "back") (uv K) (dF (pb (iY "beside") (iY "then")) (uw K) (ux K))) D } (jR aw dk ap ar al (bu (t.kids++r)).N k t.head s8 s9 cX dt eG ff eI) H1 else(dF (iY "back") (uv K) (dF (pb (iY "beside") (iY "then")) (uw K) (ux K))) D (jR aw dk ap ar al (bu (t.kids++r)).N k t.head s8 s9 cX dt eG ff eI) H1:=λ{z} e go=>by
  rw[e];exact⟨_,rfl,.str z,false,rfl,.inr ⟨z,rfl,MQ K⟩,false,rfl,eU go⟩
 cases t with
 |num m=>
  exact⟨_,rfl,.int m,true,rfl,.inl ⟨m,rfl,MO K⟩,true,rfl,fU (qc _ _ _ _ _ _ _ _ H h)⟩
 |cG c=>
  cases c with
  |box x l r' aQ=>
   have hb:(x,l,r',aQ)∈gZ:=ht;obtain⟨n1,n2,n3,n4⟩:=acK _ hb;refine str rfl (AI rfl rfl (λe=>n1 (V.str.inj e)) (Sn rfl n2 n3 ?_));obtain⟨f,hf⟩:∃f,(d.bc++[.int 0])[k+1]?=some f:=⟨_,cC (by rw[bY];show k+1<_+1;lia)⟩;have hs:iq.lookup x=some [(l:Int),(r':Int)]∨(iq.lookup x=none∧(l:Int)=(if x="times" then 1 else 0)∧(r':Int)=(if x="times" then 1 else 0)+2*(if x="cup" then 1 else 0)):=by
    have n4':¬x="times":=n4;rw[ag n4'];rcases R4 _ hb with z|⟨z1,z2,z3⟩
    ·exact .inl z
    ·exact .inr ⟨z1,z2,by rw[pV];exact z3⟩
   have hN:(bu r).N+l+r'≤4*_:=J4;exact Sk (n:=0) h hw (by lia) hf (λe=>absurd e n4) (by show(bu r).aQ.length≤_;have:(bu r).aQ.length≤_:=f1;lia) Es hD hs (by have:(bu r).parts.length≤_:=f4;show(bu r).parts.length≤_;lia) (by lia) λdt eG ff eI H' h'=>q _ _ _ _ _ _ _ _ H' (by
    have h':dO K B ap ar al ⟨_,_,(bu r).al,_⟩ H':=h';rw[← hJ (bu r).al]at h';exact h')
  |times m=>
   refine str rfl (AI rfl rfl (λe=>absurd (V.str.inj e) (by decide +kernel)) (Sn rfl (by decide +kernel) (by decide +kernel) ?_));have hf:(d.bc++[.int 0])[k+1]?=some (.int m):=by
    have e:=xD (k+1) [.cG d];rw[e3,ew]at e;have e:V.int m::r.flatMap Itm.bc=d.bc.drop (k+1):=e
    have:(d.bc.drop (k+1))[0]?=some (.int m):=by rw[← e];rfl
    rw[sJ,Nat.add_zero]at this;rw[gS (dH.mp this).1];exact this
   have hN:(bu r).N+1+1≤4*_:=J4;exact Sk (n:=m) (l:=1) (r:=1) h hw (by lia) hf (λ_=>rfl) (by show(bu r).aQ.length≤_;have:(bu r).aQ.length≤_:=f1;lia) Es hD (.inr ⟨R1,by rw[af rfl];rfl,by rw[af rfl,ag R3];rfl⟩) (by have:(bu r).parts.length≤_:=f4;show(bu r).parts.length≤_;lia) (by show(bu r).N+1+1≤_;lia) λdt eG ff eI H' h'=>q _ _ _ _ _ _ _ _ H' (by
    have h':dO K B ap ar al ⟨_,_,(bu r).al,_⟩ H':=h';rw[← hJ (bu r).al]at h';exact h')
  |back c=>
   refine str rfl (Sl rfl ?_);exact acE h rfl (by lia) λs8 H' h'=>q _ s8 _ _ _ _ _ _ H' h'
  |cF a b=>
   refine str rfl (AI rfl rfl (λe=>absurd (V.str.inj e) (by decide +kernel)) (Sm rfl (.inl rfl) ?_));have wa:a.wf p:=ht.1;have wb:b.wf p:=ht.2;have c1:=qJ (d:=a) (N:=(aN b (bu r).N).2) wa;have c2:=qJ (d:=b) (N:=(bu r).N) wb;have hN:(aN a (aN b (bu r).N).2).2≤4*_:=f2;have f4:(bu r).parts.length+1+1≤_:=f4;unfold uw;refine gq (AH (ns:=(aN b (bu r).N).1::(bu r).parts) (A:=(aN a (aN b (bu r).N).2).1) rfl h rfl λt1 x1 y1 z1 PS1 H1 eq1 h1 g1 mx iQ hx1 AJ pq=>?_);refine gq (AH (ns:=(bu r).parts) (A:=(aN b (bu r).N).1) rfl h1 rfl λt2 x2 y2 z2 PS2 H2 J5 h2 g2 J6 nJ hx2 J7 qi=>?_);rw[← J5]at iQ hx1 AJ pq;refine Sl rfl ?_;refine acF (A:=(aN a (aN b (bu r).N).2).1) (C:=(aN b (bu r).N).1) (rw':=(aN b (bu r).N).1.aQ++(aN a (aN b (bu r).N).2).1.aQ) (aa:=(aN b (bu r).N).1.al++(aN a (aN b (bu r).N).2).1.al) h2 g2 J6 (by lia) iQ hx1 AJ pq nJ hx2 J7 qi (by lia) (by lia) λH' h'=>q _ _ _ _ _ _ _ _ H' ?_;have er:(bu r).aQ++(aN b (bu r).N).1.aQ++(aN a (aN b (bu r).N).2).1.aQ=(bu r).aQ++((aN b (bu r).N).1.aQ++(aN a (aN b (bu r).N).2).1.aQ):=hW _ _ _;have ea:(bu r).al++(aN b (bu r).N).1.al++(aN a (aN b (bu r).N).2).1.al=(bu r).al++((aN b (bu r).N).1.al++(aN a (aN b (bu r).N).2).1.al):=hW _ _ _;have h':dO K B ap ar al ⟨_,(bu r).aQ++(aN b (bu r).N).1.aQ++(aN a (aN b (bu r).N).2).1.aQ,(bu r).al++(aN b (bu r).N).1.al++(aN a (aN b (bu r).N).2).1.al,_⟩ H':=h';rw[er,ea]at h';exact h'
  |bh a b=>
   refine str rfl (AI rfl rfl (λe=>absurd (V.str.inj e) (by decide +kernel)) (Sm rfl (.inr rfl) ?_));have wa:a.wf p:=ht.1;have wb:b.wf p:=ht.2.1;have hm:a.aV=b.aO:=ht.2.2;have c1:=qJ (d:=a) (N:=(aN b (bu r).N).2) wa;have c2:=qJ (d:=b) (N:=(bu r).N) wb;obtain⟨_,u2⟩:=jn (d:=a) (N:=(aN b (bu r).N).2) wa;obtain⟨u3,_⟩:=jn (d:=b) (N:=(bu r).N) wb;have hN:(aN a (aN b (bu r).N).2).2≤4*_:=f2;have f3:((bu r).al++(aN b (bu r).N).1.al++(aN a (aN b (bu r).N).2).1.al).length≤(aN a (aN b (bu r).N).2).2:=f3;have f4:(bu r).parts.length+1+1≤_:=f4;unfold uw;refine gq (AH (ns:=(aN b (bu r).N).1::(bu r).parts) (A:=(aN a (aN b (bu r).N).2).1) rfl h rfl λt1 x1 y1 z1 PS1 H1 eq1 h1 g1 mx iQ hx1 AJ pq=>?_);refine gq (AH (ns:=(bu r).parts) (A:=(aN b (bu r).N).1) rfl h1 rfl λt2 x2 y2 z2 PS2 H2 J5 h2 g2 J6 nJ hx2 J7 qi=>?_);rw[← J5]at iQ hx1 AJ pq;refine AI rfl rfl (λe=>absurd (V.str.inj e) (by decide +kernel)) ?_;refine acG (A:=(aN a (aN b (bu r).N).2).1) (C:=(aN b (bu r).N).1) (rw':=(aN b (bu r).N).1.aQ++(aN a (aN b (bu r).N).2).1.aQ) (aa:=(aN b (bu r).N).1.al++(aN a (aN b (bu r).N).2).1.al++(aN b (bu r).N).1.l.zip (aN a (aN b (bu r).N).2).1.r) h2 g2 J6 (by lia) iQ hx1 AJ pq nJ hx2 J7 qi (by lia) (by lia) (by lia) (eS f3 (by lia)) λcX H' h'=>q _ _ _ cX _ _ _ _ H' ?_;have er:(bu r).aQ++(aN b (bu r).N).1.aQ++(aN a (aN b (bu r).N).2).1.aQ=(bu r).aQ++((aN b (bu r).N).1.aQ++(aN a (aN b (bu r).N).2).1.aQ):=hW _ _ _;have ea:(bu r).al++(aN b (bu r).N).1.al++(aN a (aN b (bu r).N).2).1.al++(aN b (bu r).N).1.l.zip (aN a (aN b (bu r).N).2).1.r=(bu r).al++((aN b (bu r).N).1.al++(aN a (aN b (bu r).N).2).1.al++(aN b (bu r).N).1.l.zip (aN a (aN b (bu r).N).2).1.r):=by simp only[hW]
   have h':dO K B ap ar al ⟨_,(bu r).aQ++(aN b (bu r).N).1.aQ++(aN a (aN b (bu r).N).2).1.aQ,(bu r).al++(aN b (bu r).N).1.al++(aN a (aN b (bu r).N).2).1.al++(aN b (bu r).N).1.l.zip (aN a (aN b (bu r).N).2).1.r,_⟩ H':=h';rw[er,ea]at h';exact h'
theorem acN{d:Drw}(hd:d.wf p)(hl:d.bc.length≤99)(hw:bj K H aw d.bc)(q:∀t H',aU H H'→Rq K H' t (aN d 0).1→D.rt (.ref t) H') :
  Er K D [some (.ref aw),none,none,none,none,none,none,none,none,none,none,none,none,none,none] H:=by
 have z:(2000:Nat)≤sizeLine:=by decide
 unfold Er;refine gq (RT (K:=K) RX Eg RZ λdk aM B s1 Es hD=>?_);refine gq ⟨by decide,λap Sr=>?_⟩;refine gq ⟨by decide,λar Et=>?_⟩;refine gq (λal kr=>?_);refine gq ?_;have u1:=aU.upd (o:=.lst []) Sr;have u2:=aU.upd (o:=.lst []) Et;have u3:=aU.upd (o:=.dK []) kr;have n1:ap≠ar:=λe=>by rw[← e,bg]at Et;cases Et
 have n2:ap≠al:=λe=>by rw[← e,u2 _ _ bg]at kr;cases kr
 have n3:ar≠al:=λe=>by rw[← e,bg]at kr;cases kr
 have h0:dO K B ap ar al ⟨[],[],[],0⟩ (upd (upd (upd B ap (.lst [])) ar (.lst [])) al (.dK [])):=
  ⟨⟨Sr,j6 u1 Et,j6 (u1.trans u2) kr⟩,⟨n1,n2,n3⟩,u1.trans (u2.trans u3),⟨[],(u2.trans u3) _ _ bg,.nil⟩,⟨[],u3 _ _ bg,.nil⟩,bg⟩
 have Ss:=s1.bt hw;have Su:=h0.sm.bt Ss;generalize upd (upd (upd B ap (.lst [])) ar (.lst [])) al (.dK [])=H1 at h0 Su ⊢;have ew:([Itm.cG d]).flatMap Itm.bc=d.bc:=by simp[Itm.bc]
 have dp:=d.pos;refine⟨_,rfl,aw,_,rfl,.inr Su,_,_,rfl,rfl,1,rfl,1,rfl,((d.bc.length-1:Nat):Int),?_,⟨by lia,by lia⟩,?_⟩
 ·show[V.int ((d.bc.length:Int)-1),V.int (-1),V.int (-1)]=_;rw[show(d.bc.length:Int)-1=((d.bc.length-1:Nat):Int) by lia]
 rw[show((((d.bc.length-1:Nat):Int)+1).toNat)=d.bc.length by lia];refine NV (λi σ H'=>i≤d.bc.length∧∃s6 s7 s8 s9 cX dt eG ff eI,σ=[some (.ref aw),some (.ref dk),some (.ref ap),some (.ref ar),some (.ref al),some (.int ((bu (eV [.cG d] (d.bc.length-i))).N:Int)),s6,s7,s8,s9,cX,dt,eG,ff,eI]∧dO K B ap ar al (bu (eV [.cG d] (d.bc.length-i))) H') ⟨jf _,none,none,none,none,none,none,none,none,none,?_,?_⟩ ?_ ?_
 ·have e:=IA (ts:=[.cG d]);rw[ew]at e;rw[Nat.sub_zero,e];rfl
 ·have e:=IA (ts:=[.cG d]);rw[ew]at e;rw[Nat.sub_zero,e];exact h0
 ·rintro i σ H2 hi ⟨_,s6,s7,s8,s9,cX,dt,eG,ff,eI,rfl,h2⟩;dsimp only[cm];have ek:((d.bc.length-1:Nat):Int)-(i:Int)=((d.bc.length-1-i:Nat):Int):=by lia
  rw[ek];have e1:d.bc.length-i=(d.bc.length-1-i)+1:=by lia
  have e2:d.bc.length-(i+1)=d.bc.length-1-i:=by lia
  rw[e1]at h2 ⊢;have fin:∀(s7 s8 s9 cX dt eG ff eI:Option V)(H':Hp),dO K B ap ar al (bu (eV [.cG d] (d.bc.length-1-i))) H'→i+1≤d.bc.length∧∃t6 t7 t8 t9 t10 t11 t12 t13 t14,([some (.ref aw),some (.ref dk),some (.ref ap),some (.ref ar),some (.ref al),some (.int ((bu (eV [.cG d] (d.bc.length-1-i))).N:Int)),some (.int ((d.bc.length-1-i:Nat):Int)),s7,s8,s9,cX,dt,eG,ff,eI]:St)=[some (.ref aw),some (.ref dk),some (.ref ap),some (.ref ar),some (.ref al),some (.int ((bu (eV [.cG d] (d.bc.length-(i+1)))).N:Int)),t6,t7,t8,t9,t10,t11,t12,t13,t14]∧dO K B ap ar al (bu (eV [.cG d] (d.bc.length-(i+1)))) H':=λs7 s8 s9 cX dt eG ff eI H' h'=>by
   rw[e2];exact⟨hi,_,_,_,_,_,_,_,_,_,rfl,h'⟩
  exact acL hd hl (by lia) h2 Ss Es hD fin fin
 ·rintro σ H2 ⟨_,s6,s7,s8,s9,cX,dt,eG,ff,eI,rfl,h2⟩;rw[Nat.sub_self]at h2;obtain⟨PS,g,hP⟩:=h2.p;obtain⟨RS,gR,hR⟩:=h2.r;have hP:jQ K (dz [ap,ar,al] H2) PS [(aN d 0).1]:=hP;obtain⟨v,rfl⟩:∃v,PS=[v]:=by
   match PS,hP.1 with
   | [v],_=>exact⟨v,rfl⟩
  obtain⟨t,a,b,c,rfl,ht,ha,hb,hc⟩:=(hP.2 0 v _ rfl rfl).mono pL;have hR:jr H2 RS (aN d 0).1.aQ:=jr.mono hR pL;have ga:H2 al=some (.dK (jN [] (((aN d 0).1.al.map qI).map rK))):=h2.a;rw[vO _ [] (by
   rw[lY];refine xS _ ?_;rw[o6];exact(qR.mp (Ab hd)).2.1),lY]at ga
  refine⟨_,rfl,ap,_,0,.ref t,rfl,rfl,.of g,cw (j:=0) rfl,_,rfl,_,rfl,by show 3≤sizeLine;lia,λu hu=>?_⟩;have s9:=aU.upd (o:=.lst [.ref t,.ref ar,.ref al]) hu;exact q u _ (s1.trans (h2.sm.trans s9)) ⟨t,ar,al,a,b,c,RS,bg,s9.bt ht,s9 _ _ ha,s9 _ _ hb,s9 _ _ hc,s9 _ _ gR,hR.mono s9,s9 _ _ ga⟩
end
theorem acO{fE:Addr}{Sv:FuncData}(F:cO K "_law_ports" "_law_ports" Cw f fd)(T:Txt mg)(ui:mg "dict"=none)
  (GE:cj P w K mg base cb 1 fE Sv ["word","number"] Jy) (kE:Kp K fE) (bE:Binds K Sv ["word","number"] []) (mE:Mg mg "_law_equations" fE):cj P w K mg base cb 2 f fd ["words"] (Rr K):=by
 refine F.ok kc (λvs H Q E h=>?_) (λcq A outer s H vs Q E hr h=>?_)
 ·obtain⟨p,aw,d,rfl,_⟩:=h;rfl
 ·obtain⟨p,aw,d,rfl,hd,hl,hw,q⟩:=h;have hu:=rh hr;refine⟨Er K,?_,acN hd hl hw q⟩;unfold Er;refine bo ?_ ?_
  ·refine cy (i:=1) (te:=pz (oW iq)) ?_ ?_ ?_ ?_ ?_ ?_
   ·exact kc.nd
   ·rfl
   ·exact Or.inl rfl
   ·refine RP (L:=iq) ?_ ?_ ?_
    ·kernel_rfl
    ·exact RY
    ·exact Eg
   ·rfl
   ·exact .inl rfl
  refine bo ?_ ?_
  ·exact cy (i:=2) (te:=gE bK) kc.nd rfl (.inl rfl) (ip aY)
  refine bo ?_ ?_
  ·exact cy (i:=3) (te:=gE bK) kc.nd rfl (.inl rfl) (ip aY)
  refine bo ?_ ?_
  ·exact cy (i:=4) (te:=He) kc.nd rfl (.inl rfl) Cf
  refine bo ?_ ?_
  ·exact cy (i:=5) (te:=tC (.int 0)) kc.nd rfl (Or.inr rfl) aW
  refine bo ?_ ?_
  ·refine kZ mX rfl ?_ (de (i:=6) kc.nd rfl (.inl rfl)) ?_
   ·exact NU rfl T.range (aR (bq qX (iD (lH K rfl) rfl T.len lI (aR (pv 0) aY)) aW) (aR (ni nj aW) (aR (ni nj aW) aY)))
   unfold Ep;refine bo ?_ ?_
   ·exact cy (i:=7) kc.nd rfl (.inl rfl) (br (bX K rfl) (pv 0) (pv 6) (λ_ _=>rfl))
   refine bo ?_ ?_
   ·refine dQ ?_ ?_ eA
    ·unfold Eo;exact p8 (iD (acj K rfl (T := "int")) rfl T.isinstance zf (aR (pv 7) (aR (ze rfl T.int vi) aY)))
    ·exact bZ E6
   refine bZ ?_;refine dQ ?_ ?_ ?_
   ·exact df fj (pv 7) dM (cN _)
   ·unfold uv;refine bo ?_ ?_
    ·exact cy (i:=8) kc.nd rfl (.inl rfl) (BP mV PySem.F.slot_list_pop PySem.F.type_list_pop BS (pv 2))
    ·refine bZ ?_;exact nh (pj mV qP qQ pk (pv 2) (aR (dm (aR (br (bX K rfl) (pv 8) aW (λ_ _=>rfl)) (aR (br (bX K rfl) (pv 8) aW (λ_ _=>rfl)) (aR (br (bX K rfl) (pv 8) aW (λ_ _=>rfl)) aY)))) aY))
   refine bZ ?_;refine dQ ?_ ?_ ?_
   ·exact PW.pt (wu (df fj (pv 7) dM (cN _)) (wt (df fj (pv 7) dM (cN _))))
   ·unfold uw;refine bo ?_ ?_
    ·exact cy (i:=8) kc.nd rfl (.inl rfl) (BP mV PySem.F.slot_list_pop PySem.F.type_list_pop BS (pv 2))
    refine bo ?_ ?_
    ·exact cy (i:=9) kc.nd rfl (.inl rfl) (BP mV PySem.F.slot_list_pop PySem.F.type_list_pop BS (pv 2))
    refine bZ ?_;refine dQ ?_ ?_ ?_
    ·exact df fj (pv 7) dM (cN _)
    ·unfold Ek;refine bZ ?_;exact nh (pj mV qP qQ pk (pv 2) (aR (dm (aR (bq oy (br (bX K rfl) (pv 8) aW (λ_ _=>rfl)) (br (bX K rfl) (pv 9) aW (λ_ _=>rfl))) (aR (bq oy (br (bX K rfl) (pv 8) aW (λ_ _=>rfl)) (br (bX K rfl) (pv 9) aW (λ_ _=>rfl))) (aR (bq oy (br (bX K rfl) (pv 8) aW (λ_ _=>rfl)) (br (bX K rfl) (pv 9) aW (λ_ _=>rfl))) aY)))) aY))
    ·unfold El;refine bo ?_ ?_
     ·refine kZ mX rfl ?_ (de (i:=10) kc.nd rfl (.inl rfl)) ?_
      ·exact uX rfl T.range (aR (iD (lH K rfl) rfl T.len lI (aR (br (bX K rfl) (pv 8) aW (λ_ _=>rfl)) aY)) aY)
      ·refine bZ ?_;exact xb hu (pv 4) (br (fo K rfl) (br (bX K rfl) (pv 9) aW (λ_ _=>rfl)) (pv 10) (λ_ _=>rfl)) (br (fo K rfl) (br (bX K rfl) (pv 8) aW (λ_ _=>rfl)) (pv 10) (λ_ _=>rfl)) rfl
     ·refine bZ ?_;exact nh (pj mV qP qQ pk (pv 2) (aR (dm (aR (br (bX K rfl) (pv 8) aW (λ_ _=>rfl)) (aR (br (bX K rfl) (pv 9) aW (λ_ _=>rfl)) (aR (bq oy (bq oy (br (bX K rfl) (pv 8) aW (λ_ _=>rfl)) (br (bX K rfl) (pv 8) aW (λ_ _=>rfl))) (br (bX K rfl) (pv 9) aW (λ_ _=>rfl))) aY)))) aY))
   unfold ux;refine bo ?_ ?_
   ·exact cy (i:=11) (te:=x5 7 "times") kc.nd rfl (.inl rfl) (iT yO rfl T.int vi (aR (sV fj (pv 7) dM (cN _)) aY))
   refine bo ?_ ?_
   ·refine sR (te:=AF) ?_ ?_ ?_
    ·unfold AF;refine vp hu (pv 1) (pv 7) ?_ ?_
     ·refine dm ?_;refine aR (pv 11) ?_ ?_
      ·refine aR ?_ aY ?_
       ·refine bq fi (pv 11) ?_;refine bq oq aW ?_;exact iT yO rfl T.int vi (aR (sV fj (pv 7) dM (cN _)) aY)
       ·rfl
      ·rfl
     ·exact⟨rfl,rfl,rfl,rfl⟩
    ·exact rC (n:=2) K rfl rfl (iF (de (i:=12) kc.nd rfl (.inl rfl)) (iF (de (i:=13) kc.nd rfl (.inl rfl)) qa))
    ·rfl
   refine bo ?_ ?_
   ·refine kZ mX rfl ?_ (de (i:=14) kc.nd rfl (Or.inr rfl)) ?_
    ·refine rB K rfl ?_;unfold JX;refine cV GE hr rfl mE kE bE .nil cW ?_;refine aR (pv 7) ?_ ?_
     ·refine aR ?_ aY ?_
      ·exact br (bX K rfl) (bq (dJ K rfl) (pv 0) (dm (aR aW aY))) (bq fi (pv 6) aW) (λ_ _=>rfl)
      ·rfl
     ·rfl
    ·unfold JY;refine bZ ?_;refine nh (te:=yT K "list" wF (aX 3) (aZ (AE K) bK)) ?_ ?_
     ·refine pj mV qP qQ pk (pv 3) ?_;refine aR ?_ aY ?_
      ·unfold AE;refine iT (DR (K:=K) rfl rfl) rfl ui Ag ?_;refine aR ?_ aY ?_
       ·refine DT ?_;refine oC (N:=["port","count","row"]) (own:=1) (caps:=[5,14]) rfl ?_ ?_ ?_ ?_ ?_
        ·exact xQ (pv 14)
        ·exact(show gM R8 (cg Cw) ["port","count","row"] 1 [5,14] _ from .mk' (by decide +kernel))
        ·exact λ_ _ _ _ _=>de (i:=0) acC rfl (.inl rfl)
        ·exact λ_ _ _ _ _=>me
        ·intro _ _ _ _ _;exact dm (aR (bq fi (pv 1) (pv 0)) (aR (jZ hu (pv 2) (pv 0) (λ_ _=>rfl)) aY))
       ·rfl
      ·rfl
     ·rfl
   unfold JZ;refine bo ?_ ?_
   ·exact nh (pj mV qP qQ pk (pv 2) (aR (dm (aR (iT (MI rfl) rfl T.list B5 (aR (iT MH rfl T.range MY (aR (pv 5) (aR (bq fi (pv 5) (pv 12)) aY))) aY)) (aR (iT (MI rfl) rfl T.list B5 (aR (iT MH rfl T.range MY (aR (bq fi (pv 5) (pv 12)) (aR (bq fi (bq fi (pv 5) (pv 12)) (pv 13)) aY))) aY)) (aR (ip aY) aY)))) aY))
   refine bZ ?_;exact cy (i:=5) kc.nd rfl (Or.inr rfl) (bq fi (bq fi (pv 5) (pv 12)) (pv 13))
  refine bZ ?_;exact cM (te:=gE (aZ (R9 K 2 0) (aZ (aX 3) (aZ (aX 4) bK)))) (ip (aR (br (fo K rfl) (pv 2) aW (λ_ _=>rfl)) (aR (pv 3) (aR (pv 4) aY))))
end S21
namespace L2
open PySem PySem.Spec PyProof.Rows
section
variable{K:Frag}{b:Bool}{a:Addr}{xs:List V}{g:TG}{tb:TS}{D:Ends}{σ:St}{H:Hp}
theorem acP(Pv:Nat→St→Hp→Prop)(h0:Pv 0 σ H)(hq:∀k σ H,Pv k σ H→Sq b K H a xs)
  (hs:∀k x σ H pp,xs[k]?=some x→Pv k σ H→H pp=none→g (.ref pp) σ (upd H pp (.tup [.int (k:Nat),x])) λσ2 H2=>tb { D with nx:=Pv (k+1),ct:=Pv (k+1),bk:=D.nx } σ2 H2) (hd:∀σ H,Pv xs.length σ H→D.nx σ H) :
  ∃W:Nat→Nat→St→Hp→Prop,(∃m,W 0 m σ H)∧∀k m σ H,W k m σ H→
   ((tD K b a).stop k H∧D.nx σ H)∨((tD K b a).go k H∧∃N:St→Hp→Prop,(∀σ' H',N σ' H'→∃m',m'<m∧W (k+1) m' σ' H')∧∀x H',(tD K b a).pe k H x H'→g x σ H' λσ2 H2=>tb { D with nx:=N,ct:=N,bk:=D.nx } σ2 H2):=by
 refine⟨λk m σ H=>m=xs.length-k∧k≤xs.length∧Pv k σ H,⟨xs.length,by simp,jf _,h0⟩,?_⟩;rintro k m σ H ⟨rfl,hk,p⟩;have q:=hq k σ H p;by_cases cB:k<xs.length
 ·refine .inr ⟨⟨xs,xs[k],q,by simp[cB]⟩,Pv (k+1),λσ' H' p'=>⟨xs.length-(k+1),by lia,rfl,cB,p'⟩,λv H' yl=>?_⟩;obtain⟨pp,x,rfl,hp,rfl,hx⟩:=yl;exact hs k x σ H pp (hx xs q) p hp
 ·have e:k=xs.length:=by lia
  subst e;exact .inl ⟨⟨xs,q,rfl⟩,hd σ H p⟩
end
end L2
namespace S21
open PySem L2 Bw
variable{D:Ends}{H:Hp}{a b f fD:Addr}{ab m n:Nat}{c:Bool}{d:Drw}{fd jk:FuncData}{i j p:Int}{ps:List Str}{ta tb:TE}{x:Str}{xs ys:List V}{σ:St}
theorem Sw(F:cO K "_law_box" "_law_box" Hy f fd)(T:Txt mg)
  (GD:cj P w K mg base cb 1 fD jk ["hand","limit"] pN) (kD:Kp K fD) (bD:Binds K jk ["hand","limit"] []) (mD:Mg mg "_law_draw" fD):cj P w K mg base cb 2 f fd ["hand","p"] (x6 K):=by
 refine F.ok sg (λvs H Q E h=>?_) (λcq A outer s H vs Q E hr h=>?_)
 ·obtain⟨a,n,p,rfl,_⟩:=h;rfl
 ·obtain⟨a,n,p,rfl,hH,hn,p2,eC,q⟩:=h;have hu:=rh hr;refine⟨Eh K,?_,?_⟩
  ·unfold Eh;refine bo ?_ ?_
   ·refine cy (i:=2) (te:=JP vW) ?_ ?_ ?_ ?_ ?_ ?_
    ·exact sg.nd
    ·rfl
    ·exact Or.inl rfl
    ·refine acs (xs:=vW) ?_
     kernel_rfl
    ·rfl
    ·exact .inl rfl
   refine bo ?_ ?_
   ·exact cy (i:=3) sg.nd rfl (.inl rfl) (br (fo K rfl) (pv 2) (cV GD hr rfl mD kD bD .nil cW (aR (pv 0) (aR aW aY))) (λ_ _=>rfl))
   refine bo ?_ ?_
   ·exact cy (i:=4) sg.nd rfl (.inl rfl) (iT yO rfl T.int vi (aR (sV fj (pv 3) dM (cN _)) aY))
   refine bo ?_ ?_
   ·refine cy (i:=5) (te:=pz (oW iq)) ?_ ?_ ?_ ?_ ?_ ?_
    ·exact sg.nd
    ·rfl
    ·exact Or.inl rfl
    ·refine RP (L:=iq) ?_ ?_ ?_
     ·kernel_rfl
     ·exact RY
     ·exact Eg
    ·rfl
    ·exact .inl rfl
   refine bo ?_ ?_
   ·refine sR (te:=AD) ?_ ?_ ?_
    ·unfold AD;refine vp hu (pv 5) (pv 3) ?_ ?_
     ·refine dm ?_;refine aR (pv 4) ?_ ?_
      ·refine aR ?_ aY ?_
       ·refine bq fi (pv 4) ?_;refine bq oq aW ?_;exact iT yO rfl T.int vi (aR (sV fj (pv 3) dM (cN _)) aY)
       ·rfl
      ·rfl
     ·exact⟨rfl,rfl,rfl,rfl⟩
    ·exact rC (n:=2) K rfl rfl (iF (de (i:=6) sg.nd rfl (.inl rfl)) (iF (de (i:=7) sg.nd rfl (.inl rfl)) qa))
    ·rfl
   refine bo ?_ ?_
   ·exact cy (i:=8) sg.nd rfl (.inl rfl) (dm (aR (pv 3) aY))
   refine bo ?_ ?_
   ·refine dQ ?_ ?_ eA
    ·exact df fj (pv 3) dM (cN _)
    ·refine bZ ?_;exact cy (i:=8) sg.nd rfl (.inl rfl) (dm (aR (pv 3) (aR (cV GD hr rfl mD kD bD .nil cW (aR (pv 0) (aR (pv 1) aY))) aY)))
   refine bo ?_ ?_
   ·refine dQ ?_ ?_ eA
    ·exact df fj (cV GD hr rfl mD kD bD .nil cW (aR (pv 0) (aR aW aY))) aW (cN _)
    ·refine bZ ?_;refine cM (te:=dR (aZ (dY K (dR (aZ (tC (.str "back")) bK)) (aX 8)) (aZ (aX 7) (aZ (aX 6) bK)))) ?_;refine dm ?_;refine aR ?_ ?_ ?_
     ·exact bq (dJ K rfl) (dm (aR dM aY)) (pv 8)
     ·exact aR (pv 7) (aR (pv 6) aY)
     ·rfl
   refine bZ ?_;exact cM (te:=dR (aZ (aX 8) (aZ (aX 6) (aZ (aX 7) bK)))) (dm (aR (pv 8) (aR (pv 6) (aR (pv 7) aY))))
  ·exact acB hH hn p2 eC q
noncomputable def Sx:Drw:=.box "id" 1 1 [[1,1]]
noncomputable def jF:Nat→Drw
 |0=>.box "empty" 0 0 []
 |1=>Sx
 |n+2=>.cF Sx (jF (n+1))
theorem Sy:(("id":Str),1,1,[[1,1]])∈gZ:=by decide +kernel
theorem acQ:(("empty":Str),0,0,([]:LL))∈gZ:=by decide +kernel
theorem AK{p:Int}:∀n,(jF n).wf p
 |0=>acQ
 |1=>Sy
 |n+2=>⟨Sy,AK (n+1)⟩
theorem Sz:∀n,(jF n).jz=(n,n)
 |0=>rfl
 |1=>rfl
 |n+2=>by
  show(1+(jF (n+1)).jz.1,1+(jF (n+1)).jz.2)=_;rw[Sz (n+1)];show(1+(n+1),1+(n+1))=_;rw[Nat.add_comm 1]
theorem SA:∀n,(jF (n+1)).bc=(List.replicate n [V.str "beside",V.str "id"]).flatten++[V.str "id"]
 |0=>rfl
 |n+1=>by
  show V.str "beside"::([V.str "id"]++(jF (n+1)).bc)=_;rw[SA n];rfl
theorem AM:∀n,(jF n).bc.length≤2*n+1
 |0=>ck _
 |1=>by show 1≤3;decide
 |n+2=>by
  have:=AM (n+1)
  show(V.str "beside"::([V.str "id"]++(jF (n+1)).bc)).length≤_;simp only[eK,bY,wc];lia
def AN(K:Frag):Sp:=λvs H Q _=>∃m:Nat,vs=[.int (m:Int)]∧m≤200∧∀v H',aU H H'→bj K H' v (jF m).bc→Q (.ref v) H'
theorem acR:dU ["many"] ["many"] (cg Hz):=eT rfl rfl rfl (by decide +kernel) rfl
def Eu(K:Frag):TS:=cn (dF (gg (cx jI (aX 0) (tC (.int 0)))) (eB (dR (aZ (tC (.str "empty")) bK))) fh)
 (eB (dY K (cx (wV K) (dR (aZ (tC (.str "beside")) (aZ (tC (.str "id")) bK))) (cx (ju λi j=>.int (i-j)) (aX 0) (tC (.int 1)))) (dR (aZ (tC (.str "id")) bK))))
theorem acS(hm:m≤200)(q:∀v H',aU H H'→bj K H' v (jF m).bc→D.rt (.ref v) H'):Eu K D [some (.int (m:Int))] H:=by
 have rS:(1000:Nat)≤sizeLine:=by decide
 unfold Eu;refine kY ⟨_,rfl,rfl,_,rfl,?_⟩;cases m with
 |zero=>
  rw[aC (show V.int ((0:Nat):Int)=V.int 0 from rfl)]
  refine fU ⟨by show 1≤sizeLine;decide,λv hv=>q v _ (.upd hv) (.of bg)⟩
 |succ k=>
  rw[ae λz=>by have:=V.int.inj z;lia];refine eU ⟨by show 2≤sizeLine;decide,λa ha=>⟨_,rfl,_,_,rfl,rfl,a,((k:Nat):Int),_,rfl,(show V.int (((k+1:Nat):Int)-1)=V.int (k:Int) from aj V.int (by lia)),.of bg,by simp,by lia,by lia,by show 2*(k:Int).toNat≤sizeLine;lia,λb H1 s1 hb=>?_⟩⟩
  refine⟨by show 1≤sizeLine;decide,λc hc=>?_⟩;have sc:=aU.upd (o:=.tup [.str "id"]) hc;refine⟨b,c,_,_,rfl,rfl,sc.bt hb,.of bg,?_,λe H2 s2 he=>q e H2 ((aU.upd ha).trans (s1.trans (sc.trans s2))) ?_⟩
  ·have:((List.replicate (k:Int).toNat [V.str "beside",V.str "id"]).flatten).length=2*k:=by
    rw[List.length_flatten,List.map_replicate,List.sum_replicate_nat];simp;lia
   rw[this];show 2*k+1≤sizeLine;lia
  ·rw[SA];rw[show(k:Int).toNat=k by lia]at he;exact he
theorem acT(F:cO K "_law_ids" "_law_ids" Hz f fd):cj P w K mg base cb 1 f fd ["many"] (AN K):=by
 refine F.ok acR (λvs H Q E h=>?_) (λcq A outer s H vs Q E hr h=>?_)
 ·obtain⟨m,rfl,_⟩:=h;rfl
 ·obtain⟨m,rfl,hm,q⟩:=h;refine⟨Eu K,?_,?_⟩
  ·unfold Eu;refine bo ?_ ?_
   ·exact dQ (df fj (pv 0) aW (cN _)) (bZ (cM (dm (aR dM aY)))) eA
   ·refine bZ ?_;refine cM (te:=dY K (cx (wV K) (dR (aZ (tC (.str "beside")) (aZ (tC (.str "id")) bK))) (cx (ju λi j=>.int (i-j)) (aX 0) (tC (.int 1)))) (dR (aZ (tC (.str "id")) bK))) ?_;refine bq (dJ K rfl) ?_ ?_
    ·exact bq (tH K rfl) (dm (aR dM (aR dM aY))) (bq qX (pv 0) aW)
    ·exact dm (aR dM aY)
  ·exact acS hm q
def pO(K:Frag)(te:TE)(σ:St)(H:Hp)(xs:List V):Prop:=∀H',aU H H'→∀R:VK,(∀v iH,aU H' iH→bj K iH v xs→R (.ref v) iH)→te σ H' R
abbrev pP(x:Str):TE:=dR (aZ (tC (.str x)) bK)
abbrev J8(x y:Str):TE:=dR (aZ (tC (.str x)) (aZ (tC (.str y)) bK))
abbrev J9(ta tb:TE):TE:=cx (ju λi j=>.int (i-j)) ta tb
section
variable{K:Frag}{σ:St}{H:Hp}
theorem uy{i:Nat}(h:σ[i]?=some (some (.ref a)))(ha:bj K H a xs):pO K (aX i) σ H xs:=λ_ s _ q=>⟨_,h,q a _ (.refl _) (s.bt ha)⟩
theorem x9{i:Nat}{j:Nat}(h:σ[i]?=some (some (.ref a)))(ha:bj K H a ys)(hj:ys[j]?=some (.ref b))(hb:bj K H b xs):pO K (cx (sW K) (aX i) (tC (.int (j:Int)))) σ H xs:=
 λ_ s _ q=>⟨_,h,a,ys,(j:Int),_,rfl,rfl,s.bt ha,cw hj,q b _ (.refl _) (s.bt hb)⟩
theorem qL:pO K (pP x) σ H [.str x]:=λ_ _ _ q=>⟨by show 1≤sizeLine;decide,λv hv=>q v _ (.upd hv) (.of bg)⟩
theorem SD{y:Str}:pO K (J8 x y) σ H [.str x,.str y]:=λ_ _ _ q=>⟨by show 2≤sizeLine;decide,λv hv=>q v _ (.upd hv) (.of bg)⟩
theorem iZ(h1:pO K ta σ H xs)(h2:pO K tb σ H ys)(hl:xs.length+ys.length≤10000):pO K (dY K ta tb) σ H (xs++ys):=λH' s R q=>by
 have z:(10000:Nat)≤sizeLine:=by decide
 refine h1 H' s _ λa H1 s1 ha=>h2 H1 (s.trans s1) _ λb H2 s2 hb=>?_;exact⟨a,b,_,_,rfl,rfl,s2.bt ha,hb,by lia,λc H3 s3 hc=>q c H3 (s1.trans (s2.trans s3)) hc⟩
theorem SE{te:TE}(h:eQ te σ H (m:Int))(hm:m≤200):pO K (iw (AN K) [] E0 (aZ te bK)) σ H (jF m).bc:=λH' s _ q=>h H' s _ ⟨m,rfl,hm,q⟩
theorem qM{Q:VK}{tw tl tr:TE}(h1:pO K tw σ H d.bc)(h2:∀H',aU H H'→eQ tl σ H' (d.aO:Int))(h3:∀H',aU H H'→eQ tr σ H' (d.aV:Int))(q:∀v H',aU H H'→fZ K H' v d→Q (.ref v) H'):dR (aZ tw (aZ tl (aZ tr bK))) σ H Q:=by
 refine h1 H (.refl _) _ λa H1 s1 ha=>h2 H1 s1 H1 (.refl _) _ (h3 H1 s1 H1 (.refl _) _ ⟨by show 3≤sizeLine;decide,λv hv=>?_⟩);exact q v _ (s1.trans (.upd hv)) ⟨a,.of bg,(aU.upd hv).bt ha⟩
end
noncomputable def je(d:Drw)(ab un:Nat):Drw:=
 let d1:=if 0<un then Drw.cF d (jF un)else d
 if 0<ab then .cF (jF ab) d1 else d1
theorem SF{un:Nat}(h:d.wf p):(je d ab un).wf p:=by
 unfold je;split<;>split
 ·exact⟨AK _,h,AK _⟩
 ·exact⟨h,AK _⟩
 ·exact⟨AK _,h⟩
 ·exact h
theorem AO{s:Int}:∀n,(jF n).mid s
 |0=>True.intro
 |1=>True.intro
 |n+2=>⟨True.intro,AO (n+1)⟩
theorem SG{s:Int}{un:Nat}(h:d.mid s):(je d ab un).mid s:=by
 unfold je;split<;>split
 ·exact⟨AO _,h,AO _⟩
 ·exact⟨h,AO _⟩
 ·exact⟨AO _,h⟩
 ·exact h
theorem Ka{un:Nat}:(je d ab un).aO=ab+d.aO+un∧(je d ab un).aV=d.aV+ab+un:=by
 unfold je;split<;>split<;>simp only[Drw.aO,Drw.aV,Drw.jz,Sz]<;>lia
theorem SH{un:Nat}:(je d ab un).bc.length≤d.bc.length+2*ab+2*un+4:=by
 have h1:=AM ab;have h2:=AM un;unfold je;split<;>split<;>simp only[Drw.bc,eK,bY]<;>lia
def Kb(K:Frag):Sp:=λvs H Q _=>∃(a b:Addr)(n:Nat)(d:Drw)(m:Nat),vs=[.ref a,.ref b,.int (m:Int)]∧Hand H a n∧n≤800∧fZ K H b d∧d.aO≤m∧m≤90∧d.bc.length≤100∧
 ∀v ab un H',ab+d.aO+un=m→cZ a H H'→Hand H' a (n+1)→fZ K H' v (je d ab un)→Q (.ref v) H'
theorem uz:dU ["hand","box","many","words","left","right","above","under"] ["hand","box","many"] (cg HA):=eT rfl rfl rfl (by decide +kernel) rfl
abbrev vY:R2:=ju λi j=>.bl (decide (j<i))
def SI(K:Frag):TE:=dY K (dY K (pP "beside") (aX 3)) (iw (AN K) [] E0 (aZ (aX 7) bK))
def Kc(K:Frag):TE:=dY K (dY K (pP "beside") (iw (AN K) [] E0 (aZ (aX 6) bK))) (aX 3)
def Ew(K:Frag):TS:=cn (cT (aX 1) (qV K 3 (jH (cm 3) (jH (cm 4) (jH (cm 5) sQ)))))
 (cn (cT (se 0 (iI (J9 (aX 2) (aX 4)) (tC (.int 1)))) (cm 6)) (cn (cT (J9 (J9 (aX 2) (aX 4)) (aX 6)) (cm 7)) (cn (dF (gg (cx vY (aX 7) (tC (.int 0)))) (cT (SI K) (cm 3)) fh) (cn (dF (gg (cx vY (aX 6) (tC (.int 0)))) (cT (Kc K) (cm 3)) fh) (eB (dR (aZ (aX 3) (aZ (aX 2) (aZ (iI (iI (aX 5) (aX 6)) (aX 7)) bK)))))))))
theorem acU(hH:Hand H a n)(hn:n≤800)(hd:fZ K H b d)(hl:d.aO≤m)(hm:m≤90)(hw:d.bc.length≤100)
  (q:∀v ab un H',ab+d.aO+un=m→cZ a H H'→Hand H' a (n+1)→fZ K H' v (je d ab un)→D.rt (.ref v) H'):Ew K D [some (.ref a),some (.ref b),some (.int (m:Int)),none,none,none,none,none] H:=by
 obtain⟨aw,h1,h2⟩:=hd;unfold Ew;refine Ee ⟨_,rfl,RW h1 ?_⟩;refine gq ?_;refine vV (lim:=(m:Int)-(d.aO:Int)+1) rfl (λR h=>jd (JU (c9 rfl) (c9 rfl)) jO H (.refl _) _ h) hH (by lia) (by lia) (by lia) λab H1 j0 j1 s1 g1=>?_;obtain⟨ab,rfl⟩:∃k:Nat,ab=(k:Int):=⟨ab.toNat,by lia⟩;obtain⟨un,hun⟩:∃un:Nat,(m:Int)-(d.aO:Int)-(ab:Int)=(un:Int):=⟨((m:Int)-(d.aO:Int)-(ab:Int)).toNat,by lia⟩;have e:ab+d.aO+un=m:=by lia
 refine gq ?_;refine JU (i:=(m:Int)-(d.aO:Int)) (j:=(ab:Int)) (JU (c9 rfl) (c9 rfl)) (c9 rfl) H1 (.refl _) _ ?_;rw[hun];have h2:=cZ.bt s1 hH h2;have li:=AM ab;have lu:=AM un;have eh:∀(d1:Drw)(ws:Addr)(H2:Hp),d1=(if 0<un then Drw.cF d (jF un)else d)→d1.bc.length≤400→aU H1 H2→bj K H2 ws d1.bc→
   cn (dF (gg (cx vY (aX 6) (tC (.int 0)))) (cT (Kc K) (cm 3)) fh) (eB (dR (aZ (aX 3) (aZ (aX 2) (aZ (iI (iI (aX 5) (aX 6)) (aX 7)) bK))))) D
    [some (.ref a),some (.ref b),some (.int (m:Int)),some (.ref ws),some (.int (d.aO:Int)),some (.int (d.aV:Int)),some (.int (ab:Int)),some (.int (un:Int))] H2:=by
  intro d1 ws H2 SJ vN s2 vX;have ps:=Ka (d:=d) (ab:=ab) (un:=un);have fin:∀(Kd:Addr)(H3:Hp),aU H1 H3→bj K H3 Kd (je d ab un).bc→eB (dR (aZ (aX 3) (aZ (aX 2) (aZ (iI (iI (aX 5) (aX 6)) (aX 7)) bK)))) D
    [some (.ref a),some (.ref b),some (.int (m:Int)),some (.ref Kd),some (.int (d.aO:Int)),some (.int (d.aV:Int)),some (.int (ab:Int)),some (.int (un:Int))] H3:=by
   intro Kd H3 s3 acV;refine qK ?_;refine qM (d:=je d ab un) (uy rfl acV) (λH' s'=>?_) (λH' s'=>?_) λv H4 s4 hv=>q v ab un H4 e (cZ.trans s1 (aU.gI (s3.trans s4))) (g1.mono (s3.trans s4)) hv
   ·rw[ps.1,e];exact c9 rfl
   ·rw[ps.2,show((d.aV+ab+un:Nat):Int)=(d.aV:Int)+(ab:Int)+(un:Int) by lia];exact jd (jd (c9 rfl) (c9 rfl)) (c9 rfl)
  refine kY ⟨_,rfl,_,_,rfl,rfl,_,rfl,?_⟩;by_cases c:0<ab
  ·rw[aC (show(0:Int)<(ab:Int) by lia)];refine fU ?_;refine iZ (K:=K) (iZ qL (SE (m:=ab) (c9 rfl) (by lia)) ?_) (uy rfl vX) ?_ H2 (.refl _) _ λv H3 s3 hv=>fin v H3 (s2.trans s3) ?_
   ·show 1+_≤10000;lia
   ·rw[bY];show 1+_+_≤10000;lia
   ·unfold je;rw[af c,← SJ];show bj K H3 v (.str "beside"::((jF ab).bc++d1.bc));rw[hW]at hv;exact hv
  ·rw[ae (show ¬(0:Int)<(ab:Int) by lia)];refine eU (fin ws H2 s2 ?_);unfold je;rw[ag c,← SJ];exact vX
 refine kY ⟨_,rfl,_,_,rfl,rfl,_,rfl,?_⟩;by_cases c:0<un
 ·rw[aC (show(0:Int)<(un:Int) by lia)];refine fU ?_;refine iZ (K:=K) (iZ qL (uy rfl h2) ?_) (SE (m:=un) (c9 rfl) (by lia)) ?_ H1 (.refl _) _ λv H3 s3 hv=>eh (.cF d (jF un)) v H3 (by rw[af c]) ?_ s3 ?_
  ·show 1+_≤10000;lia
  ·rw[bY];show 1+_+_≤10000;lia
  ·simp only[Drw.bc,eK,bY];lia
  ·show bj K H3 v (.str "beside"::(d.bc++(jF un).bc));rw[hW]at hv;exact hv
 ·rw[ae (show ¬(0:Int)<(un:Int) by lia)];exact eU (eh d aw H1 (by rw[ag c]) (by lia) (.refl _) h2)
def pQ(tt:TT)(σ:St)(H:Hp)(c:Bool):Prop:=∀H',aU H H'→∀R:Bool→Hp→Prop,R c H'→tt σ H' R
abbrev Ke:R2:=ju λi j=>.bl (decide (i≤j))
abbrev Kf:R2:=ju λi j=>.bl (decide (i<j))
abbrev SK:R2:=rI (λ_ j=>0<j) λi j=>.int (i%j)
section
variable{K:Frag}{σ:St}{H:Hp}
theorem Kg(h1:eQ ta σ H i)(h2:eQ tb σ H j):pQ (gg (cx vY ta tb)) σ H (decide (j<i)):=λH' s _ q=>h1 H' s _ (h2 H' s _ ⟨i,j,rfl,rfl,_,rfl,q⟩)
theorem SM(h1:eQ ta σ H i)(h2:eQ tb σ H j):pQ (gg (cx Ke ta tb)) σ H (decide (i≤j)):=λH' s _ q=>h1 H' s _ (h2 H' s _ ⟨i,j,rfl,rfl,_,rfl,q⟩)
theorem SN(h1:eQ ta σ H i)(h2:eQ tb σ H j):pQ (gg (cx Kf ta tb)) σ H (decide (i<j)):=λH' s _ q=>h1 H' s _ (h2 H' s _ ⟨i,j,rfl,rfl,_,rfl,q⟩)
theorem yI:decide (V.int i=V.int j)=decide (i=j):=by simp
theorem si(h1:eQ ta σ H i)(h2:eQ tb σ H j):pQ (gg (cx jI ta tb)) σ H (decide (i=j)):=λH' s _ q=>h1 H' s _ (h2 H' s _ ⟨rfl,_,rfl,by rw[yI];exact q⟩)
theorem Kh(h1:eQ ta σ H i)(h2:eQ tb σ H j):pQ (gg (cx Fi ta tb)) σ H (!decide (i=j)):=λH' s _ q=>h1 H' s _ (h2 H' s _ ⟨rfl,_,rfl,by rw[yI];exact q⟩)
theorem sj{ta tb:TT}{d:Bool}(h1:pQ ta σ H c)(h2:pQ tb σ H d):pQ (o9 ta tb) σ H (c&&d):=λH' s R q=>h1 H' s _ (by
 cases c with
 |true=>exact fU (h2 H' s _ q)
 |false=>exact eU q)
theorem acW{ta tb:TT}{d:Bool}(h1:pQ ta σ H c)(h2:pQ tb σ H d):pQ (pb ta tb) σ H (c||d):=λH' s R q=>h1 H' s _ (by
 cases c with
 |true=>exact fU q
 |false=>exact eU (h2 H' s _ q))
theorem Ki(h1:eQ ta σ H i)(h2:eQ tb σ H j)(j0:0<j):eQ (cx SK ta tb) σ H (i%j):=λH' s _ q=>h1 H' s _ (h2 H' s _ ⟨i,j,rfl,rfl,j0,q⟩)
theorem nV{A B:Prop}(h1:c=true→A)(h2:c=false→B):if c=true then A else B:=by
 cases c with
 |true=>exact fU (h1 rfl)
 |false=>exact eU (h2 rfl)
end
theorem acX{fI:Addr}{AQ:FuncData}(F:cO K "_law_padded" "_law_padded" HA f fd)
  (GD:cj P w K mg base cb 1 fD jk ["hand","limit"] pN) (kD:Kp K fD) (bD:Binds K jk ["hand","limit"] []) (mD:Mg mg "_law_draw" fD)
  (GI:cj P w K mg base cb 1 fI AQ ["many"] (AN K)) (kI:Kp K fI) (bI:Binds K AQ ["many"] []) (mI:Mg mg "_law_ids" fI):cj P w K mg base cb 2 f fd ["hand","box","many"] (Kb K):=by
 refine F.ok uz (λvs H Q E h=>?_) (λcq A outer s H vs Q E hr h=>?_)
 ·obtain⟨a,b,n,d,m,rfl,_⟩:=h;rfl
 ·obtain⟨a,b,n,d,m,rfl,hH,hn,hd,hl,hm,hw,q⟩:=h;refine⟨Ew K,?_,?_⟩
  ·unfold Ew;refine bo ?_ ?_
   ·exact sR (pv 1) (rC (n:=3) K rfl rfl (iF (de (i:=3) uz.nd rfl (.inl rfl)) (iF (de (i:=4) uz.nd rfl (.inl rfl)) (iF (de (i:=5) uz.nd rfl (.inl rfl)) qa))))
   refine bo ?_ ?_
   ·exact cy (i:=6) uz.nd rfl (.inl rfl) (cV GD hr rfl mD kD bD .nil cW (aR (pv 0) (aR (bq fi (bq qX (pv 2) (pv 4)) aW) aY)))
   refine bo ?_ ?_
   ·exact cy (i:=7) uz.nd rfl (.inl rfl) (bq qX (bq qX (pv 2) (pv 4)) (pv 6))
   refine bo ?_ ?_
   ·refine dQ ?_ ?_ eA
    ·exact df yM (pv 7) aW (cN _)
    ·refine bZ ?_;exact cy (i:=3) (te:=SI K) uz.nd rfl (.inl rfl) (bq (dJ K rfl) (bq (dJ K rfl) (dm (aR dM aY)) (pv 3)) (cV GI hr rfl mI kI bI .nil cW (aR (pv 7) aY)))
   refine bo ?_ ?_
   ·refine dQ ?_ ?_ eA
    ·exact df yM (pv 6) aW (cN _)
    ·refine bZ ?_;exact cy (i:=3) (te:=Kc K) uz.nd rfl (.inl rfl) (bq (dJ K rfl) (bq (dJ K rfl) (dm (aR dM aY)) (cV GI hr rfl mI kI bI .nil cW (aR (pv 6) aY))) (pv 3))
   refine bZ ?_;refine cM (te:=dR (aZ (aX 3) (aZ (aX 2) (aZ (iI (iI (aX 5) (aX 6)) (aX 7)) bK)))) ?_;exact dm (aR (pv 3) (aR (pv 2) (aR (bq fi (bq fi (pv 5) (pv 6)) (pv 7)) aY)))
  ·exact acU hH hn hd hl hm hw q
def SO(d d':Drw):Prop:=∀s:Int,2≤s→d.mid s→(d.aO:Int)≤s→(d.aV:Int)≤s→d'.mid s
def Kj(K:Frag):Sp:=λvs H Q _=>∃(a b:Addr)(n:Nat)(p:Int)(d:Drw),vs=[.ref a,.int p,.ref b]∧Hand H a n∧n≤700∧2≤p∧p≤97∧fZ K H b d∧d.wf p∧d.aO≤90∧d.aV≤90∧d.bc.length≤100∧
 ∀v d' H' n',d'.wf p→SO d d'→d'.bc.length≤500→cZ a H H'→Hand H' a n'→n'≤n+5→fZ K H' v d'→Q (.ref v) H'
theorem uA:dU ["hand","p","here","style","words","left","right","box","far"] ["hand","p","here"] (cg HB):=eT rfl rfl rfl (by decide +kernel) rfl
abbrev Kk(i:Int):TT:=gg (cx jI (cx SK (aX 3) (tC (.int 2))) (tC (.int i)))
def SQ(K:Frag):TT:=o9 (gg (cx vY (aX 3) (tC (.int 3)))) (o9 (Kk 0) (gg (cx Ke (cA K 7 1) (aX 6))))
def SR(K:Frag):TT:=o9 (gg (cx vY (aX 3) (tC (.int 3)))) (o9 (Kk 1) (gg (cx Ke (cA K 7 1) (aX 5))))
abbrev qN(ta tb tc:TE):TE:=dR (aZ ta (aZ tb (aZ tc bK)))
def Kl(K:Frag):TE:=qN (dY K (pP "back") (aX 4)) (aX 6) (aX 5)
def Km(K:Frag):TE:=qN (dY K (dY K (pP "then") (aX 4)) (cA K 8 0)) (aX 5) (cA K 8 2)
def Kn(K:Frag):TE:=qN (dY K (dY K (J8 "then" "back") (cA K 8 0)) (aX 4)) (cA K 8 2) (aX 6)
def Ko(K:Frag):TE:=qN (dY K (dY K (pP "beside") (aX 4)) (cA K 7 0)) (iI (aX 5) (cA K 7 1)) (iI (aX 6) (cA K 7 2))
def Kq(K:Frag):TE:=qN (dY K (dY K (pP "beside") (cA K 7 0)) (aX 4)) (iI (aX 5) (cA K 7 1)) (iI (aX 6) (cA K 7 2))
def Ex(K:Frag)(i:Nat):TE:=iw (Kb K) [] E0 (aZ (aX 0) (aZ (aX 7) (aZ (aX i) bK)))
def Ey(K:Frag):TS:=cn (cT (se 0 (tC (.int 9))) (cm 3)) (cn (cT (aX 2) (qV K 3 (jH (cm 4) (jH (cm 5) (jH (cm 6) sQ))))) (cn (cT (iw (x6 K) [] E0 (aZ (aX 0) (aZ (aX 1) bK))) (cm 7)) (cn (dF (gg (cx jI (aX 3) (tC (.int 0)))) (eB (Kl K)) fh) (cn (dF (SQ K) (cn (cT (Ex K 6) (cm 8)) (eB (Km K))) fh) (cn (dF (SR K) (cn (cT (Ex K 5) (cm 8)) (eB (Kn K))) fh) (cn (dF (Kk 0) (eB (Ko K)) fh) (eB (Kq K))))))))
theorem acY(hH:Hand H a n)(hn:n≤700)(p2:2≤p)(eC:p≤97)(hd:fZ K H b d)(lP:d.wf p)(hl:d.aO≤90)(hr:d.aV≤90)(hw:d.bc.length≤100)
  (q:∀v d' H' n',d'.wf p→SO d d'→d'.bc.length≤500→cZ a H H'→Hand H' a n'→n'≤n+5→fZ K H' v d'→D.rt (.ref v) H'):Ey K D [some (.ref a),some (.int p),some (.ref b),none,none,none,none,none,none] H:=by
 unfold Ey;refine gq ?_;refine vV rfl (λR h=>h) hH (by lia) (by decide) (by decide) λst H1 j0 j1 s1 g1=>?_;obtain⟨aw,oV,jh⟩:=hd.gI hH s1;refine Ee ⟨_,rfl,RW oV ?_⟩;refine gq ⟨_,rfl,_,rfl,a,n+1,p,rfl,g1,by lia,p2,eC,λbx e H2 n2 i0 el DM CU s2 g2 NM Kr=>?_⟩;have jh:=cZ.bt s2 g1 jh;have sA:=cZ.trans s1 s2;obtain⟨bw,mz,Ez⟩:=id Kr;refine kY ?_;refine si (i:=st) (j:=0) (c9 rfl) jO H2 (.refl _) _ (nV (λ_=>?_) λ_=>?_)
 ·refine qK ?_;refine qM (d:=.back d) (iZ qL (uy rfl jh) (by show 1+_≤10000;lia)) (λH' s'=>c9 rfl) (λH' s'=>c9 rfl) λv H3 s3 hv=>q v (.back d) H3 n2 lP (λ_ _ h _ _=>h) (by simp only[Drw.bc,eK];lia) (cZ.trans sA (aU.gI s3)) (g2.mono s3) (by lia) hv
 refine kY ?_;refine sj (Kg (i:=st) (j:=3) (c9 rfl) jO) (sj (si (Ki (c9 rfl) jO (by decide)) jO) (SM (i:=(e.aO:Int)) (j:=(d.aV:Int)) (gh (j:=1) rfl mz rfl) (c9 rfl))) H2 (.refl _) _ (nV (λc=>?_) λ_=>?_)
 ·simp only[ir,aF]at c;refine gq ⟨_,rfl,_,rfl,_,rfl,a,bx,n2,e,d.aV,rfl,g2,by lia,Kr,by lia,hr,by lia,λv ab un H3 EA s3 g3 hv=>?_⟩;obtain⟨vw,AR,Ks⟩:=id hv;have Ae:=cZ.bt s3 g2 jh;have ps:=Ka (d:=e) (ab:=ab) (un:=un);have pl:=SH (d:=e) (ab:=ab) (un:=un);refine qK ?_;refine qM (d:=.bh d (je e ab un)) (iZ (iZ qL (uy rfl Ae) (by show 1+_≤10000;lia)) (x9 (j:=0) rfl AR rfl Ks) ?_) (λH' s'=>c9 rfl) (λH' s'=>gh (j:=2) rfl (s'.bt AR) rfl) λu H4 s4 hu=>q u (.bh d (je e ab un)) H4 (n2+1) ⟨lP,SF i0,?_⟩ (λs s2 h _ h2=>⟨h,SG (Drw.oX s2 i0 el),h2⟩) ?_ (cZ.trans sA (cZ.trans s3 (aU.gI s4))) (g3.mono s4) (by lia) hu
  ·rw[bY];show 1+_+_≤10000;lia
  ·rw[ps.1,EA]
  ·simp only[Drw.bc,eK,bY];lia
 refine kY ?_;refine sj (Kg (i:=st) (j:=3) (c9 rfl) jO) (sj (si (Ki (c9 rfl) jO (by decide)) jO) (SM (i:=(e.aO:Int)) (j:=(d.aO:Int)) (gh (j:=1) rfl mz rfl) (c9 rfl))) H2 (.refl _) _ (nV (λc=>?_) λ_=>?_)
 ·simp only[ir,aF]at c;refine gq ⟨_,rfl,_,rfl,_,rfl,a,bx,n2,e,d.aO,rfl,g2,by lia,Kr,by lia,hl,by lia,λv ab un H3 EA s3 g3 hv=>?_⟩;obtain⟨vw,AR,Ks⟩:=id hv;have Ae:=cZ.bt s3 g2 jh;have ps:=Ka (d:=e) (ab:=ab) (un:=un);have pl:=SH (d:=e) (ab:=ab) (un:=un);refine qK ?_;refine qM (d:=.bh (.back (je e ab un)) d) (iZ (iZ SD (x9 (j:=0) rfl AR rfl Ks) (by show 2+_≤10000;lia)) (uy rfl Ae) ?_) (λH' s'=>gh (j:=2) rfl (s'.bt AR) rfl) (λH' s'=>c9 rfl) λu H4 s4 hu=>q u (.bh (.back (je e ab un)) d) H4 (n2+1) ⟨SF i0,lP,?_⟩ (λs s2 h h1 _=>⟨SG (Drw.oX s2 i0 el),h,by show((je e ab un).aO:Int)≤s;rw[ps.1,EA];exact h1⟩) ?_ (cZ.trans sA (cZ.trans s3 (aU.gI s4))) (g3.mono s4) (by lia) hu
  ·rw[bY];show 2+_+_≤10000;lia
  ·show(je e ab un).aO=_;rw[ps.1,EA]
  ·simp only[Drw.bc,eK,bY];lia
 refine kY ?_;refine si (Ki (i:=st) (j:=2) (c9 rfl) jO (by decide)) jO H2 (.refl _) _ (nV (λ_=>?_) λ_=>?_)
 ·refine qK ?_;refine qM (d:=.cF d e) (iZ (iZ qL (uy rfl jh) (by show 1+_≤10000;lia)) (x9 (j:=0) rfl mz rfl Ez) ?_) (λH' s'=>?_) (λH' s'=>?_) λv H3 s3 hv=>q v (.cF d e) H3 n2 ⟨lP,i0⟩ (λs s2 h _ _=>⟨h,Drw.oX s2 i0 el⟩) (by simp only[Drw.bc,eK,bY];lia) (cZ.trans sA (aU.gI s3)) (g2.mono s3) (by lia) hv
  ·rw[bY];show 1+_+_≤10000;lia
  ·rw[show(((Drw.cF d e).aO:Nat):Int)=(d.aO:Int)+(e.aO:Int) by show((d.aO+e.aO:Nat):Int)=_;lia];exact jd (c9 rfl) (gh (j:=1) rfl (s'.bt mz) rfl)
  ·rw[show(((Drw.cF d e).aV:Nat):Int)=(d.aV:Int)+(e.aV:Int) by show((d.aV+e.aV:Nat):Int)=_;lia];exact jd (c9 rfl) (gh (j:=2) rfl (s'.bt mz) rfl)
 ·refine qK ?_;refine qM (d:=.cF e d) (iZ (iZ qL (x9 (j:=0) rfl mz rfl Ez) (by show 1+_≤10000;lia)) (uy rfl jh) ?_) (λH' s'=>?_) (λH' s'=>?_) λv H3 s3 hv=>q v (.cF e d) H3 n2 ⟨i0,lP⟩ (λs s2 h _ _=>⟨Drw.oX s2 i0 el,h⟩) (by simp only[Drw.bc,eK,bY];lia) (cZ.trans sA (aU.gI s3)) (g2.mono s3) (by lia) hv
  ·rw[bY];show 1+_+_≤10000;lia
  ·rw[show(((Drw.cF e d).aO:Nat):Int)=(d.aO:Int)+(e.aO:Int) by show((e.aO+d.aO:Nat):Int)=_;lia];exact jd (c9 rfl) (gh (j:=1) rfl (s'.bt mz) rfl)
  ·rw[show(((Drw.cF e d).aV:Nat):Int)=(d.aV:Int)+(e.aV:Int) by show((e.aV+d.aV:Nat):Int)=_;lia];exact jd (c9 rfl) (gh (j:=2) rfl (s'.bt mz) rfl)
theorem sk{X:Cx}{a b c:Expr}{k:Nat}{pos:Pos}{tc:TE}(h1:PE X a ta)(h2:PE X b tb)(h3:PE X c tc)(s1:starEach [a,b,c] X.env=(false,eval a X.env)::starEach [b,c] X.env)(s2:starEach [b,c] X.env=(false,eval b X.env)::starEach [c] X.env)(s3:starEach [c] X.env=(false,eval c X.env)::starEach [] X.env):PE X (.Tuple [a,b,c] k pos) (qN ta tb tc):=
 dm (aR h1 (aR h2 (aR h3 aY s3) s2) s1)
theorem acZ{fB fI:Addr}{ua AQ:FuncData}(F:cO K "_law_next" "_law_next" HB f fd)
  (GD:cj P w K mg base cb 1 fD jk ["hand","limit"] pN) (kD:Kp K fD) (bD:Binds K jk ["hand","limit"] []) (mD:Mg mg "_law_draw" fD)
  (GB:cj P w K mg base cb 2 fB ua ["hand","p"] (x6 K)) (kB:Kp K fB) (bB:Binds K ua ["hand","p"] []) (mB:Mg mg "_law_box" fB)
  (GI:cj P w K mg base cb 2 fI AQ ["hand","box","many"] (Kb K)) (kI:Kp K fI) (bI:Binds K AQ ["hand","box","many"] []) (mI:Mg mg "_law_padded" fI):cj P w K mg base cb 3 f fd ["hand","p","here"] (Kj K):=by
 refine F.ok uA (λvs H Q E h=>?_) (λcq A outer s H vs Q E hr h=>?_)
 ·obtain⟨a,b,n,p,d,rfl,_⟩:=h;rfl
 ·obtain⟨a,b,n,p,d,rfl,hH,hn,p2,eC,hd,lP,hl,pB,hw,q⟩:=h;have jw:eW 1 _:=hr.mono (by decide);refine⟨Ey K,?_,?_⟩
  ·unfold Ey;refine bo ?_ ?_
   ·exact cy (i:=3) uA.nd rfl (.inl rfl) (cV GD jw rfl mD kD bD .nil cW (aR (pv 0) (aR aW aY)))
   refine bo ?_ ?_
   ·exact sR (pv 2) (rC (n:=3) K rfl rfl (iF (de (i:=4) uA.nd rfl (.inl rfl)) (iF (de (i:=5) uA.nd rfl (.inl rfl)) (iF (de (i:=6) uA.nd rfl (.inl rfl)) qa))))
   refine bo ?_ ?_
   ·exact cy (i:=7) uA.nd rfl (.inl rfl) (cV GB hr rfl mB kB bB .nil cW (aR (pv 0) (aR (pv 1) aY)))
   refine bo ?_ ?_
   ·refine dQ ?_ ?_ eA
    ·exact df fj (pv 3) aW (cN _)
    ·refine bZ ?_;refine cM (te:=Kl K) ?_;unfold Kl;refine sk ?_ ?_ ?_ ?_ ?_ ?_
     ·exact bq (dJ K rfl) (dm (aR dM aY)) (pv 4)
     ·exact pv 6
     ·exact pv 5
     ·rfl
     ·rfl
     ·rfl
   refine bo ?_ ?_
   ·refine dQ ?_ ?_ eA
    ·unfold SQ;refine PW.pt (om ?_ (om ?_ (uT ?_)))
     ·exact df yM (pv 3) aW (cN _)
     ·exact df fj (bq kh (pv 3) aW) aW (cN _)
     ·exact df yJ (br (bX K rfl) (pv 7) aW (λ_ _=>rfl)) (pv 6) (cN _)
    ·refine bo ?_ ?_
     ·exact cy (i:=8) (te:=Ex K 6) uA.nd rfl (.inl rfl) (cV GI hr rfl mI kI bI .nil cW (aR (pv 0) (aR (pv 7) (aR (pv 6) aY))))
     ·refine bZ ?_;refine cM (te:=Km K) ?_;unfold Km;refine sk ?_ ?_ ?_ ?_ ?_ ?_
      ·exact bq (dJ K rfl) (bq (dJ K rfl) (dm (aR dM aY)) (pv 4)) (br (bX K rfl) (pv 8) aW (λ_ _=>rfl))
      ·exact pv 5
      ·exact br (bX K rfl) (pv 8) aW (λ_ _=>rfl)
      ·rfl
      ·rfl
      ·rfl
   refine bo ?_ ?_
   ·refine dQ ?_ ?_ eA
    ·unfold SR;refine PW.pt (om ?_ (om ?_ (uT ?_)))
     ·exact df yM (pv 3) aW (cN _)
     ·exact df fj (bq kh (pv 3) aW) aW (cN _)
     ·exact df yJ (br (bX K rfl) (pv 7) aW (λ_ _=>rfl)) (pv 5) (cN _)
    ·refine bo ?_ ?_
     ·exact cy (i:=8) (te:=Ex K 5) uA.nd rfl (.inl rfl) (cV GI hr rfl mI kI bI .nil cW (aR (pv 0) (aR (pv 7) (aR (pv 5) aY))))
     ·refine bZ ?_;refine cM (te:=Kn K) ?_;unfold Kn;refine sk ?_ ?_ ?_ ?_ ?_ ?_
      ·exact bq (dJ K rfl) (bq (dJ K rfl) (dm (aR dM (aR dM aY))) (br (bX K rfl) (pv 8) aW (λ_ _=>rfl))) (pv 4)
      ·exact br (bX K rfl) (pv 8) aW (λ_ _=>rfl)
      ·exact pv 6
      ·rfl
      ·rfl
      ·rfl
   refine bo ?_ ?_
   ·refine dQ ?_ ?_ eA
    ·exact df fj (bq kh (pv 3) aW) aW (cN _)
    ·refine bZ ?_;refine cM (te:=Ko K) ?_;unfold Ko;refine sk ?_ ?_ ?_ ?_ ?_ ?_
     ·exact bq (dJ K rfl) (bq (dJ K rfl) (dm (aR dM aY)) (pv 4)) (br (bX K rfl) (pv 7) aW (λ_ _=>rfl))
     ·exact bq fi (pv 5) (br (bX K rfl) (pv 7) aW (λ_ _=>rfl))
     ·exact bq fi (pv 6) (br (bX K rfl) (pv 7) aW (λ_ _=>rfl))
     ·rfl
     ·rfl
     ·rfl
   refine bZ ?_;refine cM (te:=Kq K) ?_;unfold Kq;refine sk ?_ ?_ ?_ ?_ ?_ ?_
   ·exact bq (dJ K rfl) (bq (dJ K rfl) (dm (aR dM aY)) (br (bX K rfl) (pv 7) aW (λ_ _=>rfl))) (pv 4)
   ·exact bq fi (pv 5) (br (bX K rfl) (pv 7) aW (λ_ _=>rfl))
   ·exact bq fi (pv 6) (br (bX K rfl) (pv 7) aW (λ_ _=>rfl))
   ·rfl
   ·rfl
   ·rfl
  ·exact acY hH hn p2 eC hd lP hl pB hw q
def Kt(d e d':Drw):Prop:=∀s:Int,d.mid s→e.mid s→(d.aO:Int)≤s→(d.aV:Int)≤s→d'.mid s
def Ku(K:Frag):Sp:=λvs H Q _=>∃(a b c:Addr)(n:Nat)(p:Int)(d e:Drw),vs=[.ref a,.ref b,.ref c]∧Hand H a n∧n≤700∧fZ K H b d∧fZ K H c e∧d.wf p∧e.wf p∧d.bc.length≤100∧e.bc.length≤100∧
 ∀v d' H',d'.wf p→Kt d e d'→d'.bc.length≤500→cZ a H H'→Hand H' a (n+1)→fZ K H' v d'→Q (.ref v) H'
theorem SS:dU ["hand","one","other","style"] ["hand","one","other"] (cg HC):=eT rfl rfl rfl (by decide +kernel) rfl
abbrev Kv(K:Frag)(i j:Int):TT:=gg (cx Fi (cA K 1 i) (cA K 2 j))
def SU(K:Frag):TT:=pb (gg (cx jI (aX 3) (tC (.int 0)))) (o9 (Kv K 2 1) (o9 (Kv K 2 2) (Kv K 1 1)))
def Kw(K:Frag):TE:=qN (dY K (dY K (pP "beside") (cA K 1 0)) (cA K 2 0)) (iI (cA K 1 1) (cA K 2 1)) (iI (cA K 1 2) (cA K 2 2))
def Kx(K:Frag):TE:=qN (dY K (dY K (pP "then") (cA K 1 0)) (cA K 2 0)) (cA K 1 1) (cA K 2 2)
def Ky(K:Frag):TE:=qN (dY K (dY K (dY K (pP "then") (cA K 1 0)) (pP "back")) (cA K 2 0)) (cA K 1 1) (cA K 2 1)
def Kz(K:Frag):TE:=qN (dY K (dY K (J8 "then" "back") (cA K 1 0)) (cA K 2 0)) (cA K 1 2) (cA K 2 2)
def EB(K:Frag):TS:=cn (cT (se 0 (tC (.int 4))) (cm 3)) (cn (dF (SU K) (eB (Kw K)) fh) (cn (dF (gg (cx jI (cA K 1 2) (cA K 2 1))) (eB (Kx K)) fh) (cn (dF (gg (cx jI (cA K 1 2) (cA K 2 2))) (eB (Ky K)) fh) (eB (Kz K)))))
theorem ac0{c:Addr}{e:Drw}(hH:Hand H a n)(hn:n≤700)(hd:fZ K H b d)(he:fZ K H c e)(lW:d.wf p)(i0:e.wf p)(hw:d.bc.length≤100)(Dm:e.bc.length≤100)
  (q:∀v d' H',d'.wf p→Kt d e d'→d'.bc.length≤500→cZ a H H'→Hand H' a (n+1)→fZ K H' v d'→D.rt (.ref v) H'):EB K D [some (.ref a),some (.ref b),some (.ref c),none] H:=by
 unfold EB;refine gq ?_;refine vV rfl (λR h=>h) hH (by lia) (by decide) (by decide) λst H1 j0 j1 s1 g1=>?_;obtain⟨dw,oV,jh⟩:=hd.gI hH s1;obtain⟨ew,KA,he2⟩:=he.gI hH s1;have fin:∀(d':Drw) v H3,d'.wf p→Kt d e d'→d'.bc.length≤500→aU H1 H3→fZ K H3 v d'→D.rt (.ref v) H3:=λd' v H3 a1 a0 a2 s3 hv=>q v d' H3 a1 a0 a2 (cZ.trans s1 (aU.gI s3)) (g1.mono s3) hv;have I1:∀{σ:St}{H':Hp}{i:Nat},σ[i]?=some (some (.ref b))→aU H1 H'→eQ (cA K i 1) σ H' (d.aO:Int):=λh s=>gh (j:=1) h (s.bt oV) rfl;have I2:∀{σ:St}{H':Hp}{i:Nat},σ[i]?=some (some (.ref b))→aU H1 H'→eQ (cA K i 2) σ H' (d.aV:Int):=λh s=>gh (j:=2) h (s.bt oV) rfl;have J1:∀{σ:St}{H':Hp}{i:Nat},σ[i]?=some (some (.ref c))→aU H1 H'→eQ (cA K i 1) σ H' (e.aO:Int):=λh s=>gh (j:=1) h (s.bt KA) rfl;have J2:∀{σ:St}{H':Hp}{i:Nat},σ[i]?=some (some (.ref c))→aU H1 H'→eQ (cA K i 2) σ H' (e.aV:Int):=λh s=>gh (j:=2) h (s.bt KA) rfl;have I0:∀{σ:St}{i:Nat},σ[i]?=some (some (.ref b))→pO K (cA K i 0) σ H1 d.bc:=λh=>x9 (j:=0) h oV rfl jh;have J0:∀{σ:St}{i:Nat},σ[i]?=some (some (.ref c))→pO K (cA K i 0) σ H1 e.bc:=λh=>x9 (j:=0) h KA rfl he2;refine kY ?_;refine acW (si (i:=st) (j:=0) (c9 rfl) jO) (sj (Kh (I2 rfl (.refl _)) (J1 rfl (.refl _))) (sj (Kh (I2 rfl (.refl _)) (J2 rfl (.refl _))) (Kh (I1 rfl (.refl _)) (J1 rfl (.refl _))))) H1 (.refl _) _ (nV (λ_=>?_) λc1=>?_)
 ·refine qK ?_;refine qM (d:=.cF d e) (iZ (iZ qL (I0 rfl) (by show 1+_≤10000;lia)) (J0 rfl) ?_) (λH' s'=>?_) (λH' s'=>?_) λv H3 s3 hv=>fin (.cF d e) v H3 ⟨lW,i0⟩ (λs h h' _ _=>⟨h,h'⟩) (by simp only[Drw.bc,eK,bY];lia) s3 hv
  ·rw[bY];show 1+_+_≤10000;lia
  ·rw[show(((Drw.cF d e).aO:Nat):Int)=(d.aO:Int)+(e.aO:Int) by show((d.aO+e.aO:Nat):Int)=_;lia];exact jd (I1 rfl s') (J1 rfl s')
  ·rw[show(((Drw.cF d e).aV:Nat):Int)=(d.aV:Int)+(e.aV:Int) by show((d.aV+e.aV:Nat):Int)=_;lia];exact jd (I2 rfl s') (J2 rfl s')
 refine kY ?_;refine si (I2 rfl (.refl _)) (J1 rfl (.refl _)) H1 (.refl _) _ (nV (λc2=>?_) λc2=>?_)
 ·rw[aF]at c2;refine qK ?_;refine qM (d:=.bh d e) (iZ (iZ qL (I0 rfl) (by show 1+_≤10000;lia)) (J0 rfl) ?_) (λH' s'=>I1 rfl s') (λH' s'=>J2 rfl s') λv H3 s3 hv=>fin (.bh d e) v H3 ⟨lW,i0,by lia⟩ (λs h h' _ h2=>⟨h,h',h2⟩) (by simp only[Drw.bc,eK,bY];lia) s3 hv;rw[bY];show 1+_+_≤10000;lia
 refine kY ?_;refine si (I2 rfl (.refl _)) (J2 rfl (.refl _)) H1 (.refl _) _ (nV (λc3=>?_) λc3=>?_)
 ·rw[aF]at c3;refine qK ?_;refine qM (d:=.bh d (.back e)) (λH' s' R q'=>iZ (iZ (iZ qL (I0 rfl) (by show 1+_≤10000;lia)) qL ?_) (J0 rfl) ?_ H' s' R λv iH iS hv=>q' v iH iS ?_) (λH' s'=>I1 rfl s') (λH' s'=>J1 rfl s') λv H3 s3 hv=>fin (.bh d (.back e)) v H3 ⟨lW,i0,by show d.aV=e.aV;lia⟩ (λs h h' _ h2=>⟨h,h',h2⟩) (by simp only[Drw.bc,eK,bY];lia) s3 hv
  ·rw[bY];show 1+_+1≤10000;lia
  ·rw[bY,bY];show 1+_+1+_≤10000;lia
  ·show bj K iH v (.str "then"::(d.bc++.str "back"::e.bc));rw[hW,hW]at hv;exact hv
 ·refine qK ?_;have c4:d.aO=e.aO:=by
   simp only[Bool.or_eq_false_iff,Bool.and_eq_false_iff,Bool.not_eq_false',aF,aE]at c1 c2 c3;lia
  refine qM (d:=.bh (.back d) e) (iZ (iZ SD (I0 rfl) (by show 2+_≤10000;lia)) (J0 rfl) ?_) (λH' s'=>I2 rfl s') (λH' s'=>J2 rfl s') λv H3 s3 hv=>fin (.bh (.back d) e) v H3 ⟨lW,i0,c4⟩ (λs h h' h1 _=>⟨h,h',h1⟩) (by simp only[Drw.bc,eK,bY];lia) s3 hv;rw[bY];show 2+_+_≤10000;lia
theorem ac1(F:cO K "_law_joined" "_law_joined" HC f fd)
  (GD:cj P w K mg base cb 1 fD jk ["hand","limit"] pN) (kD:Kp K fD) (bD:Binds K jk ["hand","limit"] []) (mD:Mg mg "_law_draw" fD):cj P w K mg base cb 2 f fd ["hand","one","other"] (Ku K):=by
 refine F.ok SS (λvs H Q E h=>?_) (λcq A outer s H vs Q E hr h=>?_)
 ·obtain⟨a,b,c,n,p,d,e,rfl,_⟩:=h;rfl
 ·obtain⟨a,b,c,n,p,d,e,rfl,hH,hn,hd,he,lW,i0,hw,Dm,q⟩:=h;refine⟨EB K,?_,?_⟩
  ·unfold EB;refine bo ?_ ?_
   ·exact cy (i:=3) SS.nd rfl (.inl rfl) (cV GD hr rfl mD kD bD .nil cW (aR (pv 0) (aR aW aY)))
   refine bo ?_ ?_
   ·refine dQ ?_ ?_ eA
    ·unfold SU;refine PW.pt (wu ?_ (wt (PW.pt (om ?_ (om ?_ (uT ?_))))))
     ·exact df fj (pv 3) aW (cN _)
     ·exact df sU (br (bX K rfl) (pv 1) aW (λ_ _=>rfl)) (br (bX K rfl) (pv 2) aW (λ_ _=>rfl)) (cN _)
     ·exact df sU (br (bX K rfl) (pv 1) aW (λ_ _=>rfl)) (br (bX K rfl) (pv 2) aW (λ_ _=>rfl)) (cN _)
     ·exact df sU (br (bX K rfl) (pv 1) aW (λ_ _=>rfl)) (br (bX K rfl) (pv 2) aW (λ_ _=>rfl)) (cN _)
    ·refine bZ ?_;refine cM (te:=Kw K) ?_;unfold Kw;refine sk ?_ ?_ ?_ ?_ ?_ ?_
     ·exact bq (dJ K rfl) (bq (dJ K rfl) (dm (aR dM aY)) (br (bX K rfl) (pv 1) aW (λ_ _=>rfl))) (br (bX K rfl) (pv 2) aW (λ_ _=>rfl))
     ·exact bq fi (br (bX K rfl) (pv 1) aW (λ_ _=>rfl)) (br (bX K rfl) (pv 2) aW (λ_ _=>rfl))
     ·exact bq fi (br (bX K rfl) (pv 1) aW (λ_ _=>rfl)) (br (bX K rfl) (pv 2) aW (λ_ _=>rfl))
     ·rfl
     ·rfl
     ·rfl
   refine bo ?_ ?_
   ·refine dQ ?_ ?_ eA
    ·exact df fj (br (bX K rfl) (pv 1) aW (λ_ _=>rfl)) (br (bX K rfl) (pv 2) aW (λ_ _=>rfl)) (cN _)
    ·refine bZ ?_;refine cM (te:=Kx K) ?_;unfold Kx;refine sk ?_ ?_ ?_ ?_ ?_ ?_
     ·exact bq (dJ K rfl) (bq (dJ K rfl) (dm (aR dM aY)) (br (bX K rfl) (pv 1) aW (λ_ _=>rfl))) (br (bX K rfl) (pv 2) aW (λ_ _=>rfl))
     ·exact br (bX K rfl) (pv 1) aW (λ_ _=>rfl)
     ·exact br (bX K rfl) (pv 2) aW (λ_ _=>rfl)
     ·rfl
     ·rfl
     ·rfl
   refine bo ?_ ?_
   ·refine dQ ?_ ?_ eA
    ·exact df fj (br (bX K rfl) (pv 1) aW (λ_ _=>rfl)) (br (bX K rfl) (pv 2) aW (λ_ _=>rfl)) (cN _)
    ·refine bZ ?_;refine cM (te:=Ky K) ?_;unfold Ky;refine sk ?_ ?_ ?_ ?_ ?_ ?_
     ·exact bq (dJ K rfl) (bq (dJ K rfl) (bq (dJ K rfl) (dm (aR dM aY)) (br (bX K rfl) (pv 1) aW (λ_ _=>rfl))) (dm (aR dM aY))) (br (bX K rfl) (pv 2) aW (λ_ _=>rfl))
     ·exact br (bX K rfl) (pv 1) aW (λ_ _=>rfl)
     ·exact br (bX K rfl) (pv 2) aW (λ_ _=>rfl)
     ·rfl
     ·rfl
     ·rfl
   refine bZ ?_;refine cM (te:=Kz K) ?_;unfold Kz;refine sk ?_ ?_ ?_ ?_ ?_ ?_
   ·exact bq (dJ K rfl) (bq (dJ K rfl) (dm (aR dM (aR dM aY))) (br (bX K rfl) (pv 1) aW (λ_ _=>rfl))) (br (bX K rfl) (pv 2) aW (λ_ _=>rfl))
   ·exact br (bX K rfl) (pv 1) aW (λ_ _=>rfl)
   ·exact br (bX K rfl) (pv 2) aW (λ_ _=>rfl)
   ·rfl
   ·rfl
   ·rfl
  ·exact ac0 hH hn hd he lW i0 hw Dm q
def KC(K:Frag):Sp:=λvs H Q _=>∃(v:Addr)(d:Drw)(m s:Int),vs=[.ref v,.int m,.int s]∧fZ K H v d∧Q (.bl (decide ((d.bc.length:Int)≤m)&&(decide ((d.aO:Int)≤s)&&decide ((d.aV:Int)≤s)))) H
theorem ac2:dU ["drawing","most","side"] ["drawing","most","side"] (cg HD):=eT rfl rfl rfl (by decide +kernel) rfl
theorem ac3(F:cO K "_law_fits" "_law_fits" HD f fd)(T:Txt mg):cj P w K mg base cb 1 f fd ["drawing","most","side"] (KC K):=by
 refine F.ok ac2 (λvs H Q E h=>?_) (λcq A outer s H vs Q E hr h=>?_)
 ·obtain⟨v,d,m,sd,rfl,_⟩:=h;rfl
 ·obtain⟨v,d,m,sd,rfl,⟨aw,h1,h2⟩,q⟩:=h;refine⟨_,bZ (cM (E5 (sV yJ (iD (lH K rfl) rfl T.len lI (aR (br (bX K rfl) (pv 0) aW (λ_ _=>rfl)) aY)) (pv 1) (cN _)) (E5 (sV yJ (br (bX K rfl) (pv 0) aW (λ_ _=>rfl)) (pv 2) (cN _)) (UG (sV yJ (br (bX K rfl) (pv 0) aW (λ_ _=>rfl)) (pv 2) (cN _)))))),?_⟩;refine⟨_,rfl,v,_,0,_,rfl,rfl,h1,cw (j:=0) rfl,aw,_,rfl,.inr h2,_,rfl,_,_,rfl,rfl,_,rfl,?_⟩;refine nV (λc1=>?_) λc1=>?_
  ·rw[c1,Bool.true_and]at q;refine⟨_,rfl,v,_,1,_,rfl,rfl,h1,cw (j:=1) rfl,_,rfl,_,_,rfl,rfl,_,rfl,?_⟩;refine nV (λc2=>?_) λc2=>?_
   ·rw[c2,Bool.true_and]at q;exact⟨_,rfl,v,_,2,_,rfl,rfl,h1,cw (j:=2) rfl,_,rfl,_,_,rfl,rfl,q⟩
   ·rw[c2,Bool.false_and]at q;exact q
  ·rw[c1,Bool.false_and]at q;exact q
inductive gX(K:Frag)(H:Hp):List V→List Drw→Prop where
 |nil:gX K H [] []
 |cons {v:Addr} {d:Drw} {VS:List V} {ds:List Drw} (h:fZ K H v d) (r:gX K H VS ds):gX K H (.ref v::VS) (d::ds)
section
variable{K:Frag}{H H':Hp}{VS:List V}{ds:List Drw}
theorem gX.tup(h:gX K H VS ds)(s:eX H H'):gX K H' VS ds:=by
 induction h with
 |nil=>exact .nil
 |cons h r ih=>exact .cons (h.tup s) ih
theorem gX.gI{a:Addr}{n:Nat}(h:gX K H VS ds)(hH:Hand H a n)(s:cZ a H H'):gX K H' VS ds:=by
 induction h with
 |nil=>exact .nil
 |cons h r ih=>exact .cons (h.gI hH s) ih
theorem gX.append{US:List V}{es:List Drw}(h:gX K H VS ds)(g:gX K H US es):gX K H (VS++US) (ds++es):=by
 induction h with
 |nil=>exact g
 |cons h r ih=>exact .cons h ih
theorem gX.len(h:gX K H VS ds):VS.length=ds.length:=by
 induction h with
 |nil=>rfl
 |cons h r ih=>rw[eK,eK,ih]
theorem gX.last(h:gX K H VS ds)(cL:0<VS.length):∃US v es d,VS=US++[.ref v]∧ds=es++[d]∧gX K H US es∧fZ K H v d:=by
 induction h with
 |nil=>exact absurd cL (by simp)
 | @cons v d VS ds h r ih=>
  cases r with
  |nil=>exact⟨[],v,[],d,rfl,rfl,.nil,h⟩
  |cons h' r'=>
   obtain⟨US,u,es,e,e1,e2,g1,g2⟩:=ih (by simp);exact⟨.ref v::US,u,d::es,e,by rw[e1];rfl,by rw[e2];rfl,.cons h g1,g2⟩
theorem gX.at{i:Nat}{v:V}(hV:gX K H VS ds)(hi:VS[i]?=some v):∃a d,v=.ref a∧ds[i]?=some d∧fZ K H a d:=by
 induction hV generalizing i with
 |nil=>cases hi
 | @cons u d VS ds h r ih=>
  cases i with
  |zero=>cases hi;exact⟨u,d,rfl,rfl,h⟩
  |succ i=>exact ih hi
end
def ya(p most side:Int)(d:Drw):Prop:=d.wf p∧(d.bc.length:Int)≤most∧(d.aO:Int)≤side∧(d.aV:Int)≤side∧d.mid side
structure GI(K:Frag)(H:Hp)(lc lf lp:Addr)(xs:List V)(p most side:Int)(i:Nat)(hd:Addr)(H':Hp)(FS PS:List V)(fs ps:List Drw)(d:Drw):Prop where
 sm:aU H H'
 c:H' lc=some (.lst xs)
 f:H' lf=some (.lst FS)
 pl:H' lp=some (.lst PS)
 F:gX K H' FS fs
 P:gX K H' PS ps
 uB:∀e∈fs,ya p most side e
 so:∀e∈ps,ya p most side e
 here:fZ K H' hd d
 ok:ya p most side d
 iP:fs.length+ps.length≤i
section
variable{P:Program}{w:World}{K:Frag}{mg:Str→Option Value}{base:Heap}{H H' iH:Hp}{lc lf lp hd a:Addr}{xs FS PS:List V}{p most side:Int}{i n:Nat}{fs ps:List Drw}{d:Drw}
theorem GI.mono(g:GI K H lc lf lp xs p most side i hd H' FS PS fs ps d)(s:aU H' iH):GI K H lc lf lp xs p most side i hd iH FS PS fs ps d:=
 ⟨g.sm.trans s,s _ _ g.c,s _ _ g.f,s _ _ g.pl,g.F.tup s.tup,g.P.tup s.tup,g.uB,g.so,g.here.mono s,g.ok,g.iP⟩
theorem GI.gI(g:GI K H lc lf lp xs p most side i hd H' FS PS fs ps d)(hn:H a=none)(h1:a≠lc)(h2:a≠lf)(h3:a≠lp)(hH:Hand H' a n)(s:cZ a H' iH):GI K H lc lf lp xs p most side i hd iH FS PS fs ps d:=
 ⟨λb o e=>s b o (g.sm b o e) (fg e hn),s _ _ g.c h1.symm,s _ _ g.f h2.symm,s _ _ g.pl h3.symm,g.F.gI hH s,g.P.gI hH s,g.uB,g.so,g.here.gI hH s,g.ok,g.iP⟩
theorem GI.push(g:GI K H lc lf lp xs p most side i hd H' FS PS fs ps d)(hn:H lp=none)(h1:lc≠lp)(h2:lf≠lp):GI K H lc lf lp xs p most side (i+1) hd (upd H' lp (.lst (PS++[.ref hd]))) FS (PS++[.ref hd]) fs (ps++[d]) d:=by
 have t:eX H' (upd H' lp (.lst (PS++[.ref hd]))):=eX.lst g.pl;refine⟨g.sm.put hn,by rw[bU h1];exact g.c,by rw[bU h2];exact g.f,bg,g.F.tup t,(g.P.tup t).append (.cons (g.here.tup t) .nil),g.uB,λe he=>?_,g.here.tup t,g.ok,?_⟩
 ·rcases(dq.mp he)with z|z
  ·exact g.so e z
  ·rw[cJ.mp z];exact g.ok
 ·have:=g.iP
  rw[bY];show _+(_+1)≤_;lia
theorem GI.tell(g:GI K H lc lf lp xs p most side i hd H' FS PS fs ps d)(hn:H lf=none)(h1:lc≠lf)(h2:lp≠lf):GI K H lc lf lp xs p most side (i+1) hd (upd H' lf (.lst (FS++[.ref hd]))) (FS++[.ref hd]) PS (fs++[d]) ps d:=by
 have t:eX H' (upd H' lf (.lst (FS++[.ref hd]))):=eX.lst g.f;refine⟨g.sm.put hn,by rw[bU h1];exact g.c,bg,by rw[bU h2];exact g.pl,(g.F.tup t).append (.cons (g.here.tup t) .nil),g.P.tup t,λe he=>?_,g.so,g.here.tup t,g.ok,?_⟩
 ·rcases(dq.mp he)with z|z
  ·exact g.uB e z
  ·rw[cJ.mp z];exact g.ok
 ·have:=g.iP
  rw[bY];show _+1+_≤_;lia
theorem GI.pop{US:List V}{v:V}{es:List Drw}{e:Drw}(g:GI K H lc lf lp xs p most side i hd H' FS (US++[v]) fs (es++[e]) d)(gU:gX K H' US es)(hn:H lp=none)(h1:lc≠lp)(h2:lf≠lp):GI K H lc lf lp xs p most side (i+1) hd (upd H' lp (.lst US)) FS US fs es d:=by
 have t:eX H' (upd H' lp (.lst US)):=eX.lst g.pl;refine⟨g.sm.put hn,by rw[bU h1];exact g.c,by rw[bU h2];exact g.f,bg,g.F.tup t,gU.tup t,g.uB,λe he=>g.so e (e7 _ he),g.here.tup t,g.ok,?_⟩
 have:=g.iP
 rw[bY]at this;lia
theorem GI.new{jT:Addr}{d':Drw}(g:GI K H lc lf lp xs p most side i hd H' FS PS fs ps d)(h:fZ K H' jT d')(ok:ya p most side d'):GI K H lc lf lp xs p most side i jT H' FS PS fs ps d':=
 ⟨g.sm,g.c,g.f,g.pl,g.F,g.P,g.uB,g.so,h,ok,g.iP⟩
theorem GI.next(g:GI K H lc lf lp xs p most side i hd H' FS PS fs ps d):GI K H lc lf lp xs p most side (i+1) hd H' FS PS fs ps d:=
 ⟨g.sm,g.c,g.f,g.pl,g.F,g.P,g.uB,g.so,g.here,g.ok,Nat.le_succ_of_le g.iP⟩
def ac4(K:Frag):List V→Hp→VK→Prop:=λxs H Q=>∃p ys,xs=[.ref p]∧(dP K H p ys∨bj K H p ys)∧Q (.int ys.length) H
def EC(K:Frag)(t:TE):TE:=lg (ac4 K) (aZ t bK)
def SV(K:Frag):TT:=o9 (gg (cx jI (aX 10) (tC (.int 0)))) (o9 (gg (cx Kf (EC K (aX 5)) (tC (.int 3)))) (gg (cx Kf (cx JV (tC (.int 2)) (EC K (cA K 6 0))) (aX 2))))
def SW(K:Frag):TT:=o9 (gg (cx jI (aX 10) (tC (.int 1)))) (gg (cx vY (EC K (aX 5)) (tC (.int 0))))
def ED(K:Frag)(i j:Nat):TE:=yT K "list" wF (aX i) (aZ (aX j) bK)
def EF(K:Frag):TE:=iw (x6 K) [] E0 (aZ (aX 9) (aZ (aX 1) bK))
def KD(K:Frag):TE:=iw (KC K) [] E0 (aZ (aX 11) (aZ (aX 2) (aZ (aX 3) bK)))
def SX(K:Frag):TE:=iw (Ku K) [] E0 (aZ (aX 9) (aZ (cx (qf K) (aX 5) (yG (rU λi=>.int (-i)) (tC (.int 1)))) (aZ (aX 6) bK)))
def KG(K:Frag):TE:=iw (Kj K) [] E0 (aZ (aX 9) (aZ (aX 1) (aZ (aX 6) bK)))
def KH(K:Frag):TS:=cn (uV (ED K 5 6)) (cn (cT (EF K) (cm 6)) wx)
def KI(K:Frag):TS:=cn (cT (SX K) (cm 11)) (dF (tB (KD K)) (cn (uV (BO K "list" BR (aX 5))) (cn (cT (aX 11) (cm 6)) wx)) fh)
def EG(K:Frag):TS:=cn (uV (ED K 4 6)) (cT (EF K) (cm 11))
def EH(K:Frag):TS:=cn (cT (iw Az [] E0 (aZ (aX 8) (aZ (aX 7) bK))) (cm 9)) (cn (cT (se 9 (tC (.int 10))) (cm 10)) (cn (dF (SV K) (KH K) fh) (cn (dF (SW K) (KI K) fh) (cn (cT (KG K) (cm 11)) (cn (dF (BC (tB (KD K))) (EG K) fh) (cT (aX 11) (cm 6)))))))
theorem SY{te:TE}{u:TS}(h:te σ H λ_ H1=>u D σ H1):cn (uV te) u D σ H:=h
theorem KJ{t:TE}{v:Addr}(h:∀H',aU H H'→∀R:VK,R (.ref v) H'→t σ H' R)(hs:dP K H v ys∨bj K H v ys):eQ (EC K t) σ H (ys.length:Int):=λH' s _ q=>h H' s _ ⟨v,ys,rfl,hs.elim (λz=>.inl (s.seq z)) (λz=>.inr (s.bt z)),q⟩
theorem ac5{sc:V}{kI cI:Int}{s9 cX dt:Option V}(k0:0≤kI)(k1:kI≤100)(p2:2≤p)(eC:p≤97)(m3:3≤most)(EJ:most≤90)(d2:2≤side)(EK:side≤90)(hi:i≤100)(nf:H lf=none)(np:H lp=none)(xg:lc≠lf)(EL:lc≠lp)(vZ:lf≠lp)
  (g:GI K H lc lf lp xs p most side i hd H' FS PS fs ps d)
  (Gv:St→Hp→Prop) (EM:∀jT H2 KL kX wm KN d' s7 s8 s9 cX dt,GI K H lc lf lp xs p most side (i+1) jT H2 KL kX wm KN d'→Gv [some sc,some (.int p),some (.int most),some (.int side),some (.ref lf),some (.ref lp),some (.ref jT),s7,s8,s9,cX,dt] H2)
  (qn:∀σ H,Gv σ H→D.nx σ H) (qc:∀σ H,Gv σ H→D.ct σ H) :
  EH K D [some sc,some (.int p),some (.int most),some (.int side),some (.ref lf),some (.ref lp),some (.ref hd),some (.int kI),some (.int cI),s9,cX,dt] H':=by
 have rS:(1000:Nat)≤sizeLine:=by decide
 unfold EH;refine gq ⟨_,rfl,_,rfl,cI,kI,rfl,k0,k1,λa H1 s1 sr g1=>?_⟩;have aH:H a=none:=by
  cases e:H a with
  |none=>rfl
  |some o=>rw[g.sm _ _ e]at sr;cases sr
 have AS:a≠lc:=λz=>by rw[z,g.c]at sr;cases sr
 have uC:a≠lf:=λz=>by rw[z,g.f]at sr;cases sr
 have uD:a≠lp:=λz=>by rw[z,g.pl]at sr;cases sr
 replace g:=g.mono s1;refine gq ?_;refine vV rfl (λR h=>h) g1 (by lia) (by decide) (by decide) λst H2 j0 j1 s2 g2=>?_;replace g:=g.gI aH AS uC uD g1 s2;have g2:Hand H2 a 1:=g2;clear g1 s1 s2 sr;obtain⟨lP,cD,hl,hr,S0⟩:=g.ok;have eF:=g.F.len;have eP:=g.P.len;have fw:=g.iP;obtain⟨aw,IZ,Jb⟩:=g.here;refine kY ?_;refine sj (si (i:=st) (j:=0) (c9 rfl) jO) (sj (SN (i:=(PS.length:Int)) (j:=3) (KJ (v:=lp) (λ_ _ _ q=>⟨_,rfl,q⟩) (.inl (.of g.pl))) jO) (SN (i:=2*(d.bc.length:Int)) (j:=most) (JT jO (KJ (v:=aw) (λH3 s3 R q=>⟨_,rfl,hd,_,0,_,rfl,rfl,s3.bt IZ,cw (j:=0) rfl,q⟩) (.inr Jb)) (by decide)) (c9 rfl))) H2 (.refl _) _ (nV (λ_=>?_) λ_=>?_)
 ·
  unfold KH;refine SY ?_;refine⟨_,rfl,.inl ⟨rfl,_,.of g.pl⟩,_,rfl,lp,PS,_,rfl,rfl,g.pl,by lia,?_⟩;have gp:=g.push np EL vZ;have g3:Hand (upd H2 lp (.lst (PS++[.ref hd]))) a 1:=let ⟨x0,x1,x2,e,r⟩:=g2;⟨x0,x1,x2,by rw[bU uD];exact e,r⟩;refine gq ?_;refine⟨_,rfl,_,rfl,a,1,p,rfl,g3,by decide,p2,eC,λv e H3 n3 i0 el DM CU s3 g4 _ hv=>?_⟩;exact qc _ _ (EM _ _ _ _ _ _ _ _ _ _ _ _ ((gp.gI aH AS uC uD g3 s3).new hv ⟨i0,by lia,by lia,by lia,Drw.oX d2 i0 el⟩))
 have eh:∀(dt:Option V)(H3:Hp)(n3:Nat),GI K H lc lf lp xs p most side i hd H3 FS PS fs ps d→Hand H3 a n3→n3≤10→cn (cT (KG K) (cm 11)) (cn (dF (BC (tB (KD K))) (EG K) fh) (cT (aX 11) (cm 6))) D
   [some sc,some (.int p),some (.int most),some (.int side),some (.ref lf),some (.ref lp),some (.ref hd),some (.int kI),some (.int cI),some (.ref a),some (.int st),dt] H3:=by
  intro dt H3 n3 g h3 hn3;refine gq ⟨_,rfl,_,rfl,_,rfl,a,hd,n3,p,d,rfl,h3,by lia,p2,eC,g.here,lP,by lia,by lia,by lia,λv e H4 n4 i0 KO el s4 h4 hn4 hv=>?_⟩;replace g:=g.gI aH AS uC uD h3 s4;refine kY ⟨_,rfl,_,rfl,_,rfl,v,e,most,side,rfl,hv,_,rfl,?_⟩;refine nV (λ_=>?_) λc=>?_
  ·unfold EG;refine⟨_,rfl,.inl ⟨rfl,_,.of g.f⟩,_,rfl,lf,FS,_,rfl,rfl,g.f,by lia,?_⟩;have gp:=g.tell nf xg vZ.symm;have h5:Hand (upd H4 lf (.lst (FS++[.ref hd]))) a n4:=let ⟨x0,x1,x2,e,r⟩:=h4;⟨x0,x1,x2,by rw[bU uC];exact e,r⟩;refine⟨_,rfl,_,rfl,a,n4,p,rfl,h5,by lia,p2,eC,λv' e' H5 n5 S3 el' DM CU s5 g5 _ hv'=>?_⟩;refine⟨_,rfl,?_⟩;exact qn _ _ (EM _ _ _ _ _ _ _ _ _ _ _ _ ((gp.gI aH AS uC uD h5 s5).new hv' ⟨S3,by lia,by lia,by lia,Drw.oX d2 S3 el'⟩))
  ·refine⟨_,rfl,?_⟩;simp only[Bool.not_eq_false',ir,aF]at c;exact qn _ _ (EM _ _ _ _ _ _ _ _ _ _ _ _ (g.next.new hv ⟨i0,c.1,c.2.1,c.2.2,KO side d2 S0 hl hr⟩))
 refine kY ?_;refine sj (si (i:=st) (j:=1) (c9 rfl) jO) (Kg (i:=(PS.length:Int)) (j:=0) (KJ (v:=lp) (λ_ _ _ q=>⟨_,rfl,q⟩) (.inl (.of g.pl))) jO) H2 (.refl _) _ (nV (λc=>?_) λ_=>?_)
 ·simp only[ir,aF]at c;obtain⟨US,u,es,e,rfl,rfl,gU,gu⟩:=g.P.last (by lia);obtain⟨uwf,adD,ul,ur,ac6⟩:=g.so e (eJ _ cU);unfold KI;refine gq ⟨_,rfl,_,rfl,1,rfl,lp,_,-1,_,rfl,rfl,.of g.pl,LU _ _,_,rfl,a,u,hd,1,p,e,d,rfl,g2,by decide,gu,g.here,uwf,lP,by lia,by lia,λv e' H3 i0 KO el s3 h3 hv=>?_⟩;have gU3:=gU.gI g2 s3;have g3:=g.gI aH AS uC uD g2 s3;refine⟨_,rfl,_,rfl,_,rfl,v,e',most,side,rfl,hv,_,rfl,?_⟩;refine nV (λc'=>?_) λ_=>?_
  ·simp only[ir,aF]at c';refine SY ?_;refine⟨_,rfl,.inl ⟨rfl,_,.of g3.pl⟩,lp,_,.ref u,rfl,rfl,g3.pl,by simp,?_⟩;rw[List.dropLast_concat];have gp:=g3.pop gU3 np EL vZ;refine gq ?_;refine⟨_,rfl,?_⟩;exact qc _ _ (EM _ _ _ _ _ _ _ _ _ _ _ _ (gp.new (hv.tup (eX.lst g3.pl)) ⟨i0,c'.1,c'.2.1,c'.2.2,KO side ac6 S0 ul ur⟩))
  ·exact eh _ H3 _ g3 h3 (by decide)
 ·exact eh _ H2 _ g g2 (by decide)
end
def S4(K:Frag):Sp:=λvs H Q _=>∃(s:Addr)(ns:List Int)(p most side:Int),vs=[.ref s,.int p,.int most,.int side]∧dP K H s (ns.map V.int)∧ns.length≤63∧2≤p∧p≤97∧3≤most∧most≤90∧2≤side∧side≤90∧
 ∀v VS ds H',aU H H'→H' v=some (.lst VS)→gX K H' VS ds→(∀d∈ds,ya p most side d)→ds.length≤70→1≤ds.length→Q (.ref v) H'
theorem mK:dU ["script","p","most","side","found","pile","here","k","cell","hand","style","more"] ["script","p","most","side"] (cg HE):=eT rfl rfl rfl (by decide +kernel) rfl
def ac7(K:Frag):List V→Hp→VK→Prop:=λxs H Q=>∃p ns,xs=[.ref p]∧dP K H p (List.map V.int ns)∧Q (.int ns.sum) H
def KP(K:Frag):TE:=iw (x6 K) [] E0 (aZ (iw Az [] E0 (aZ (lg (ac7 K) (aZ (aX 0) bK)) (aZ (tC (.int 99)) bK))) (aZ (aX 1) bK))
def KQ(K:Frag):TS:=uY (B4 K true (aZ (lq (Fu K) (aX 0) nr (jU (tC (.int 63)))) bK)) (zd K 7 8) (EH K)
def AU:TE:=cx ox (cx ox (aX 4) (aX 5)) (gE (aZ (aX 6) bK))
def EN(K:Frag):TS:=cn (cT (gE bK) (cm 4)) (cn (cT (gE bK) (cm 5)) (cn (cT (KP K) (cm 6)) (cn (KQ K) (eB AU))))
theorem ac8{t u:TS}(h:t { D with nx:=u D } σ H):cn t u D σ H:=h
theorem ac9{sc:Addr}{ns:List Int}{most side:Int}(hS:dP K H sc (ns.map V.int))(cD:ns.length≤63)(p2:2≤p)(eC:p≤97)(m3:3≤most)(EJ:most≤90)(d2:2≤side)(EK:side≤90)
  (q:∀v VS ds H',aU H H'→H' v=some (.lst VS)→gX K H' VS ds→(∀d∈ds,ya p most side d)→ds.length≤70→1≤ds.length→D.rt (.ref v) H') :
  EN K D [some (.ref sc),some (.int p),some (.int most),some (.int side),none,none,none,none,none,none,none,none] H:=by
 have rS:(1000:Nat)≤sizeLine:=by decide
 unfold EN;refine gq ⟨by show 0≤sizeLine;decide,λlf vF=>?_⟩;refine gq ⟨by show 0≤sizeLine;decide,λlp AV=>?_⟩;have vZ:lf≠lp:=λz=>by rw[z,bg]at AV;cases AV
 have np0:H lp=none:=by rw[bU (Ne.symm vZ)]at AV;exact AV
 have s2:aU H (upd (upd H lf (.lst [])) lp (.lst [])):=(aU.upd vF).trans (.upd AV);have gf:(upd (upd H lf (.lst [])) lp (.lst [])) lf=some (.lst []):=by rw[bU vZ];exact bg
 have gp:(upd (upd H lf (.lst [])) lp (.lst [])) lp=some (.lst []):=bg;generalize upd (upd H lf (.lst [])) lp (.lst [])=H2 at s2 gf gp ⊢;refine gq ?_;unfold KP;refine⟨_,rfl,sc,ns,rfl,s2.seq hS,ns.sum,99,rfl,by decide,by decide,λa H3 s3 ha g3=>⟨_,rfl,a,0,p,rfl,g3,by decide,p2,eC,λv d H4 n4 lW dl dll dlr s4 g4 _ hv=>?_⟩⟩;have uC:lf≠a:=λz=>by rw[← z,gf]at ha;cases ha
 have uD:lp≠a:=λz=>by rw[← z,gp]at ha;cases ha
 have hna:H a=none:=by
  cases e:H a with
  |none=>rfl
  |some o=>rw[s2 _ _ e]at ha;cases ha
 have sA:aU H H4:=λb o e=>s4 b o ((s2.trans s3) b o e) (fg e hna);have S5:=s4 _ _ (s3 _ _ gf) uC;have S6:=s4 _ _ (s3 _ _ gp) uD;refine ac8 ?_;unfold KQ uY B4;refine⟨_,rfl,63,rfl,sc,_,rfl,sA.seq hS,λlc oR=>?_⟩;obtain⟨cs,wB,zp⟩:∃cs:List Int,jW (ns.map V.int) none (some 63)=cs.map V.int∧cs.length≤63:=by
  refine⟨_,by unfold jW;rw[← List.map_drop,← List.map_take],?_⟩;rw[dE,iK];lia
 rw[wB];have qq:aU H4 (upd H4 lc (.lst (cs.map V.int))):=.upd oR;have gC:(upd H4 lc (.lst (cs.map V.int))) lc=some (.lst (cs.map V.int)):=bg;have xg:lc≠lf:=λz=>by rw[z,S5]at oR;cases oR
 have EL:lc≠lp:=λz=>by rw[z,S6]at oR;cases oR
 generalize upd H4 lc (.lst (cs.map V.int))=H5 at qq gC ⊢;have G0:GI K H lc lf lp (cs.map V.int) p most side 0 v H5 [] [] [] [] d:=
  ⟨sA.trans qq,gC,qq _ _ S5,qq _ _ S6,.nil,.nil,λe he=>(nomatch he),λe he=>(nomatch he),hv.mono qq,⟨lW,by lia,by lia,by lia,Drw.oX d2 lW dl⟩,ck _⟩
 refine⟨lc,rfl,⟨_,.of gC⟩,Xj (b:=true) (xs:=cs.map V.int) (λi σ H'=>∃hd FS PS fs ps d s7 s8 s9 cX dt,σ=[some (.ref sc),some (.int p),some (.int most),some (.int side),some (.ref lf),some (.ref lp),some (.ref hd),s7,s8,s9,cX,dt]∧GI K H lc lf lp (cs.map V.int) p most side i hd H' FS PS fs ps d) ⟨v,[],[],[],[],d,_,_,_,_,_,rfl,G0⟩ (λi σ H' ⟨_,_,_,_,_,_,_,_,_,_,_,_,g⟩=>.of g.c) (λi σ H1 H2 eG ⟨hd,FS,PS,fs,ps,d,s7,s8,s9,cX,dt,e,g⟩=>⟨hd,FS,PS,fs,ps,d,s7,s8,s9,cX,dt,e,g.mono eG⟩) ?_ ?_⟩
 ·rintro i x σ H6 hx ⟨hd,FS,PS,fs,ps,d,s7,s8,s9,cX,dt,rfl,g⟩;have hi:i<cs.length:=by
   have:=(dH.mp hx).1
   rwa[bO]at this
  rw[du,cC hi]at hx;cases hx;exact ac5 (by lia) (by lia) p2 eC m3 EJ d2 EK (by lia) vF np0 xg EL vZ g (λσ H'=>∃hd FS PS fs ps d s7 s8 s9 cX dt,σ=[some (.ref sc),some (.int p),some (.int most),some (.int side),some (.ref lf),some (.ref lp),some (.ref hd),s7,s8,s9,cX,dt]∧GI K H lc lf lp (cs.map V.int) p most side (i+1) hd H' FS PS fs ps d)
   (λjT H2 KL kX wm KN d' s7 s8 s9 cX dt g'=>⟨jT,KL,kX,wm,KN,d',s7,s8,s9,cX,dt,rfl,g'⟩) (λ_ _ h=>h) (λ_ _ h=>h)
 ·rintro σ H6 ⟨hd,FS,PS,fs,ps,d,s7,s8,s9,cX,dt,rfl,g⟩;have eF:=g.F.len;have eP:=g.P.len;have fw:=g.iP;rw[bO]at fw;show AU _ _ _;unfold AU;refine⟨_,rfl,_,rfl,lf,lp,FS,PS,rfl,rfl,g.f,g.pl,by lia,λl1 vN=>⟨_,rfl,by show 1≤sizeLine;decide,λl2 nu=>?_⟩⟩;have t1:=aU.upd (o:=.lst (FS++PS)) vN;have t2:=aU.upd (o:=.lst [.ref hd]) nu;refine⟨l1,l2,_,_,rfl,rfl,t2 _ _ bg,bg,by rw[bY];show _+1≤_;lia,λl3 Ec=>?_⟩;have t3:=aU.upd (o:=.lst (FS++PS++[.ref hd])) Ec;have t:=t1.trans (t2.trans t3);refine q l3 _ (fs++ps++[d]) _ (g.sm.trans t) bg (((g.F.tup t.tup).append (g.P.tup t.tup)).append (.cons (g.here.mono t) .nil)) (λe he=>?_) (by rw[bY,bY];show _+_+1≤_;lia) (by rw[bY];show 1≤_+1;lia);rcases(dq.mp he)with z|z
  ·rcases(dq.mp z)with z|z
   ·exact g.uB e z
   ·exact g.so e z
  ·rw[cJ.mp z];exact g.ok
theorem ada{fH fB fJ fF fN:Addr}{AW ua S7 tT S8:FuncData}(F:cO K "_law_grown" "_law_grown" HE f fd)(T:Txt mg)
  (GH:cj P w K mg base cb 1 fH AW ["cell","k"] Az) (kH:Kp K fH) (bH:Binds K AW ["cell","k"] []) (mH:Mg mg "_law_hand" fH)
  (GD:cj P w K mg base cb 1 fD jk ["hand","limit"] pN) (kD:Kp K fD) (bD:Binds K jk ["hand","limit"] []) (mD:Mg mg "_law_draw" fD)
  (GB:cj P w K mg base cb 2 fB ua ["hand","p"] (x6 K)) (kB:Kp K fB) (bB:Binds K ua ["hand","p"] []) (mB:Mg mg "_law_box" fB)
  (GJ:cj P w K mg base cb 2 fJ S7 ["hand","one","other"] (Ku K)) (kJ:Kp K fJ) (bJ:Binds K S7 ["hand","one","other"] []) (mJ:Mg mg "_law_joined" fJ)
  (GF:cj P w K mg base cb 1 fF tT ["drawing","most","side"] (KC K)) (kF:Kp K fF) (bF:Binds K tT ["drawing","most","side"] []) (mF:Mg mg "_law_fits" fF)
  (GN:cj P w K mg base cb 3 fN S8 ["hand","p","here"] (Kj K)) (kN:Kp K fN) (bN:Binds K S8 ["hand","p","here"] []) (mN:Mg mg "_law_next" fN) :
  cj P w K mg base cb 4 f fd ["script","p","most","side"] (S4 K):=by
 refine F.ok mK (λvs H Q E h=>?_) (λcq A outer s H vs Q E hr h=>?_)
 ·obtain⟨sc,ns,p,most,side,rfl,_⟩:=h;rfl
 ·obtain⟨sc,ns,p,most,side,rfl,hS,cD,p2,eC,m3,EJ,d2,EK,q⟩:=h;have jw:eW 1 _:=hr.mono (by decide);have yd:eW 2 _:=hr.mono (by decide);refine⟨EN K,?_,?_⟩
  ·unfold EN;refine bo ?_ ?_
   ·exact cy (i:=4) mK.nd rfl (.inl rfl) (ip aY)
   refine bo ?_ ?_
   ·exact cy (i:=5) mK.nd rfl (.inl rfl) (ip aY)
   refine bo ?_ ?_
   ·exact cy (i:=6) (te:=KP K) mK.nd rfl (.inl rfl) (cV GB yd rfl mB kB bB .nil cW (aR (cV GH jw rfl mH kH bH .nil cW (aR (iD (MU K rfl rfl) rfl T.sum Gs (aR (pv 0) aY)) (aR aW aY))) (aR (pv 1) aY)))
   refine bo ?_ ?_
   ·unfold KQ;refine kZ mX rfl ?_ ?_ ?_
    ·exact MX K rfl true rfl T.enumerate (aR (jV (Xq K rfl) (pv 0) ki (i7 aW)) aY)
    ·exact rC (n:=2) K rfl rfl (iF (de (i:=7) mK.nd rfl (.inl rfl)) (iF (de (i:=8) mK.nd rfl (.inl rfl)) qa))
    ·unfold EH;refine bo ?_ ?_
     ·exact cy (i:=9) mK.nd rfl (.inl rfl) (cV GH jw rfl mH kH bH .nil cW (aR (pv 8) (aR (pv 7) aY)))
     refine bo ?_ ?_
     ·exact cy (i:=10) mK.nd rfl (.inl rfl) (cV GD jw rfl mD kD bD .nil cW (aR (pv 9) (aR aW aY)))
     refine bo ?_ ?_
     ·refine dQ ?_ ?_ eA
      ·unfold SV;refine PW.pt (om ?_ (om ?_ (uT ?_)))
       ·exact df fj (pv 10) aW (cN _)
       ·exact df uZ (iD (lH K rfl) rfl T.len lI (aR (pv 5) aY)) aW (cN _)
       ·exact df uZ (bq oq aW (iD (lH K rfl) rfl T.len lI (aR (br (bX K rfl) (pv 6) aW (λ_ _=>rfl)) aY))) (pv 2) (cN _)
      ·unfold KH;refine bo ?_ ?_
       ·exact nh (te:=ED K 5 6) (pj mV qP qQ pk (pv 5) (aR (pv 6) aY))
       refine bo ?_ ?_
       ·exact cy (i:=6) (te:=EF K) mK.nd rfl (.inl rfl) (cV GB yd rfl mB kB bB .nil cW (aR (pv 9) (aR (pv 1) aY)))
       exact bZ E6
     refine bo ?_ ?_
     ·refine dQ ?_ ?_ eA
      ·unfold SW;refine PW.pt (om ?_ (uT ?_))
       ·exact df fj (pv 10) aW (cN _)
       ·exact df yM (iD (lH K rfl) rfl T.len lI (aR (pv 5) aY)) aW (cN _)
      ·unfold KI;refine bo ?_ ?_
       ·exact cy (i:=11) (te:=SX K) mK.nd rfl (.inl rfl) (cV GJ yd rfl mJ kJ bJ .nil cW (aR (pv 9) (aR (br (fo K rfl) (pv 5) (ni nj aW) (λ_ _=>rfl)) (aR (pv 6) aY))))
       refine bZ ?_;refine dQ ?_ ?_ eA
       ·exact p8 (cV GF jw rfl mF kF bF .nil cW (aR (pv 11) (aR (pv 2) (aR (pv 3) aY))))
       ·refine bo ?_ ?_
        ·exact nh (NY K rfl (pv 5))
        refine bo ?_ ?_
        ·exact cy (i:=6) mK.nd rfl (.inl rfl) (pv 11)
        exact bZ E6
     refine bo ?_ ?_
     ·exact cy (i:=11) (te:=KG K) mK.nd rfl (.inl rfl) (cV GN hr rfl mN kN bN .nil cW (aR (pv 9) (aR (pv 1) (aR (pv 6) aY))))
     refine bo ?_ ?_
     ·refine dQ ?_ ?_ eA
      ·exact uU (p8 (cV GF jw rfl mF kF bF .nil cW (aR (pv 11) (aR (pv 2) (aR (pv 3) aY)))))
      ·unfold EG;refine bo ?_ ?_
       ·exact nh (te:=ED K 4 6) (pj mV qP qQ pk (pv 4) (aR (pv 6) aY))
       refine bZ ?_;exact cy (i:=11) (te:=EF K) mK.nd rfl (.inl rfl) (cV GB yd rfl mB kB bB .nil cW (aR (pv 9) (aR (pv 1) aY)))
     refine bZ ?_;exact cy (i:=6) mK.nd rfl (.inl rfl) (pv 11)
   refine bZ ?_;refine cM (te:=AU) ?_;unfold AU;exact bq oy (bq oy (pv 4) (pv 5)) (ip (aR (pv 6) aY))
  ·exact ac9 hS cD p2 eC m3 EJ d2 EK q
theorem adb{Pt:Addr}{ps:Array Value}(hP:H Pt=some (.iu ps)):eX H (S21.del Pt H):=λb o e k=>CW hP e λqs z=>by
 subst z;rcases k with⟨_,k⟩|⟨_,_,k⟩<;>cases k
theorem ade{VS:List V}{k:Nat}(hk:k<VS.length):∃(v:V)(j:Nat),q4 VS ((k:Int)-1)=some v∧VS[j]?=some v:=by
 cases k with
 |zero=>
  obtain⟨US,v,rfl⟩:∃US v,VS=US++[v]:=⟨VS.dropLast,VS.getLast (λe=>by rw[e]at hk;cases hk),(List.dropLast_concat_getLast _).symm⟩;exact⟨v,US.length,LU US v,by simp⟩
 |succ k=>
  have h:VS[k]?=some (VS[k]'(by lia)):=cC _;refine⟨_,k,?_,h⟩;rw[show((k+1:Nat):Int)-1=(k:Int) by lia];exact cw h
def EO(K:Frag)(Pt:Addr):Sp:=λvs H Q _=>∃(a:Addr)(ns:List Int),vs=[.ref a]∧dP K H a (ns.map V.int)∧ns.length≤63∧j5 H Pt (qv lN) qw∧∀H',Q (.bl true) H'
noncomputable abbrev adf:List Str:=["script","hand","p","drawings","k","words","left","right","other"]
theorem su:dU adf ["script"] (cg rN):=eT rfl rfl rfl (by decide +kernel) rfl
theorem adg{Pt fH fP fG fR:Addr}{AW Ax S9 Ta:FuncData}(F:cO K "law" "law" rN f fd)(T:Txt mg)
  (GH:cj P w K mg base cb 1 fH AW ["cell","k"] Az) (kH:Kp K fH) (bH:Binds K AW ["cell","k"] []) (mH:Mg mg "_law_hand" fH)
  (GP:cj P w K mg base cb 2 fP Ax ["hand"] RI) (kP:Kp K fP) (bP:Binds K Ax ["hand"] []) (mP:Mg mg "_law_prime" fP)
  (GG:cj P w K mg base cb 4 fG S9 ["script","p","most","side"] (S4 K)) (kG:Kp K fG) (bG:Binds K S9 ["script","p","most","side"] []) (mG:Mg mg "_law_grown" fG)
  (GR:cj P w K mg base cb 11 fR Ta ["p","words"] (RA K Pt)) (kR:Kp K fR) (bR:Binds K Ta ["p","words"] []) (mR:Mg mg "_law_right" fR) :
  cj P w K mg base cb 12 f fd ["script"] (EO K Pt):=by
 refine F.ok su (λvs H Q E h=>by obtain⟨a,ns,rfl,_⟩:=h;rfl) (λcq A outer s H vs Q E hr h=>?_);obtain⟨a,ns,rfl,hS,cD,hL,q⟩:=h;have jw:eW 1 _:=hr.mono (by decide);have yd:eW 2 _:=hr.mono (by decide);have zU:eW 4 _:=hr.mono (by decide);have zz:(2000:Nat)≤sizeLine:=by decide
 refine⟨_,bo (cy (i:=1) su.nd rfl (.inl rfl) (cV GH jw rfl mH kH bH .nil cW (aR (iD (MU K rfl rfl) rfl T.sum Gs (aR (pv 0) aY)) (aR aW aY)))) (bo (cy (i:=2) su.nd rfl (.inl rfl) (cV GP yd rfl mP kP bP .nil cW (aR (pv 1) aY))) (bo (cy (i:=3) su.nd rfl (.inl rfl) (cV GG zU rfl mG kG bG .nil cW (aR (pv 0) (aR (pv 2) (aR aW (aR aW aY)))))) (bo (kZ mX rfl (MX K rfl true rfl T.enumerate (aR (pv 3) aY)) (rC (n:=2) K rfl rfl (iF (de (i:=4) su.nd rfl (.inl rfl)) (iF (rC (n:=3) K rfl rfl (iF (de (i:=5) su.nd rfl (.inl rfl)) (iF (de (i:=6) su.nd rfl (.inl rfl)) (iF (de (i:=7) su.nd rfl (.inl rfl)) qa)))) qa))) (bo (dQ (PW.pt (wu (uU (p8 (cV GR hr rfl mR kR bR .nil cW (aR (pv 2) (aR (pv 5) aY))))) (wt (uU (p8 (cV GR hr rfl mR kR bR .nil cW (aR (pv 2) (aR (bq (dJ K rfl) (dm (aR dM aY)) (pv 5)) aY)))))))) (bZ (cM yy)) eA) (bo (dQ (PW.pt (om (df uZ (iD (lH K rfl) rfl T.len lI (aR (pv 5) aY)) aW (cN _)) (uT (uU (p8 (cV GR hr rfl mR kR bR .nil cW (aR (pv 2) (aR (bq (dJ K rfl) (bq (dJ K rfl) (bq (dJ K rfl) (dm (aR dM aY)) (pv 5)) (dm (aR dM aY))) (pv 5)) aY)))))))) (bZ (cM yy)) eA) (bo (cy (i:=8) su.nd rfl (.inl rfl) (br (fo K rfl) (pv 3) (bq qX (pv 4) aW) (λ_ _=>rfl))) (bZ (dQ (PW.pt (om (df uZ (bq fi (iD (lH K rfl) rfl T.len lI (aR (pv 5) aY)) (iD (lH K rfl) rfl T.len lI (aR (br (bX K rfl) (pv 8) aW (λ_ _=>rfl)) aY))) aW (cN _)) (om (df uZ (bq fi (pv 6) (br (bX K rfl) (pv 8) aW (λ_ _=>rfl))) aW (cN _)) (uT (df uZ (bq fi (pv 7) (br (bX K rfl) (pv 8) aW (λ_ _=>rfl))) aW (cN _)))))) (bZ (dQ (uU (p8 (cV GR hr rfl mR kR bR .nil cW (aR (pv 2) (aR (bq (dJ K rfl) (bq (dJ K rfl) (dm (aR dM aY)) (pv 5)) (br (bX K rfl) (pv 8) aW (λ_ _=>rfl))) aY))))) (bZ (cM yy)) eA)) eA)))))) (bZ (cM yy))))),?_⟩;refine⟨_,rfl,a,ns,rfl,hS,ns.sum,33,rfl,by decide,by decide,λha H1 s1 hn1 g1=>?_⟩;refine⟨_,rfl,ha,0,rfl,g1,by decide,λp H2 pp s2 g2=>?_⟩;obtain⟨p2,eC⟩:=gN p pp;have sA:aU H H2:=λb o e=>s2 b o (s1 b o e) (fg e hn1);refine⟨_,rfl,_,rfl,a,ns,p,60,8,rfl,sA.seq hS,cD,p2,eC,by decide,by decide,by decide,by decide,λvl VS ds H3 s3 tS hD Tb vG oV=>?_⟩;have hL3:=(hL.mono sA).mono s3;refine⟨_,rfl,vl,rfl,⟨_,.of tS⟩,acP (b:=true) (xs:=VS) (λi σ H'=>∃s4 s5 s6 s7 s8,σ=[some (.ref a),some (.ref ha),some (.int p),some (.ref vl),s4,s5,s6,s7,s8]∧H' vl=some (.lst VS)∧gX K H' VS ds∧j5 H' Pt (qv lN) qw) ⟨_,_,_,_,_,rfl,tS,hD,hL3⟩ (λi σ H' ⟨_,_,_,_,_,_,g,_⟩=>.of g) ?_ (λσ H' _=>q _)⟩;rintro k x σ H4 tp hx ⟨s4',s5',s6',Rh,Ar,rfl,gl,AX,AY⟩ htp;have st:=aU.upd (o:=.tup [.int (k:Nat),x]) htp;have gt:bj K (upd H4 tp (.tup [.int (k:Nat),x])) tp [.int (k:Nat),x]:=.of bg;have AX:=AX.tup st.tup;have gl:=st _ _ gl;have AY:=AY.mono st;generalize upd H4 tp (.tup [.int (k:Nat),x])=H5 at gt AX gl AY ⊢;obtain⟨dv,d,rfl,hdi,aw,oV,jh⟩:=AX.at hx;obtain⟨lW,adE,dl,dr,adF⟩:=Tb d (dI hdi);have kl:k<VS.length:=(dH.mp hx).1;refine⟨tp,_,rfl,gt,rfl,_,_,rfl,_,_,rfl,dv,_,rfl,oV,rfl,_,_,rfl,_,_,rfl,_,_,rfl,rfl,rfl,?_⟩;have keep:∀{G G':Hp},aU (S21.del Pt G) G'→j5 G Pt (qv lN) qw→G vl=some (.lst VS)→gX K G VS ds→bj K G aw d.bc→G' vl=some (.lst VS)∧gX K G' VS ds∧bj K G' aw d.bc:=λ{G G'} s hL gl hD hw=>by
  obtain⟨qs,hT⟩:=hL.tab;have t2:=(adb hT).trans s.tup;exact⟨s _ _ (CW hT gl λ_ z=>nomatch z),hD.tup t2,t2.bt hw⟩
 refine⟨_,rfl,_,rfl,p,aw,d,rfl,pp,lW,by lia,jh,AY,λH6 s6 Tc=>⟨true,rfl,eU ?_⟩⟩;obtain⟨gl6,hD6,Td⟩:=keep s6 AY gl AX jh;refine⟨_,rfl,by show 1≤sizeLine;lia,λb1 mz=>⟨_,rfl,?_⟩⟩;have s7:=aU.upd (o:=.tup [.str "back"]) mz;refine⟨b1,aw,_,_,rfl,rfl,.of bg,s7.bt Td,by show 1+d.bc.length≤sizeLine;lia,λbw H7 s8 hbw=>?_⟩;have s9:=s7.trans s8;refine⟨p,bw,.back d,rfl,pp,lW,by simp only[Drw.bc,eK];lia,hbw,Tc.mono s9,λH8 cX KR=>⟨true,rfl,eU ?_⟩⟩;obtain⟨Te,Tf,AZ⟩:=keep cX (Tc.mono s9) (s9 _ _ gl6) (hD6.tup s9.tup) (s9.bt Td);dsimp only[fh];refine Y4 (λσ G=>σ=[some (.ref a),some (.ref ha),some (.int p),some (.ref vl),some (.int (k:Nat)),some (.ref aw),some (.int (d.aO:Int)),some (.int (d.aV:Int)),Ar]∧G vl=some (.lst VS)∧gX K G VS ds∧bj K G aw d.bc∧j5 G Pt (qv lN) qw) (λN hN=>?_) ?_
 ·refine⟨_,rfl,aw,_,rfl,.inr AZ,_,_,rfl,rfl,_,rfl,AB (λcB=>?_) (λ_=>eU (hN _ _ ⟨rfl,Te,Tf,AZ,KR⟩))⟩;have cB:d.bc.length<39:=by lia
  refine⟨_,rfl,by show 1≤sizeLine;lia,λb1 mz=>⟨_,rfl,?_⟩⟩;have u1:=aU.upd (o:=.tup [.str "then"]) mz;refine⟨b1,aw,_,_,rfl,rfl,.of bg,u1.bt AZ,by show 1+d.bc.length≤sizeLine;lia,λc1 G1 u2 y0=>⟨by show 1≤sizeLine;lia,λb2 Ez=>?_⟩⟩;have u3:=aU.upd (o:=.tup [.str "back"]) Ez;refine⟨c1,b2,_,_,rfl,rfl,u3.bt y0,.of bg,by simp only[bY,eK,wc];lia,λc2 G2 u4 ph=>⟨_,rfl,?_⟩⟩;have u5:=u1.trans (u2.trans (u3.trans u4));refine⟨c2,aw,_,_,rfl,rfl,ph,u5.bt AZ,by simp only[bY,eK,wc];lia,λc3 G3 u6 hc3=>?_⟩;have u7:=u5.trans u6;have ew:(V.str "then"::(d.bc++(V.str "back"::d.bc)))=([V.str "then"]++d.bc++[V.str "back"])++d.bc:=by simp
  refine⟨p,c3,.bh d (.back d),rfl,pp,⟨lW,lW,rfl⟩,by simp only[Drw.bc,eK,bY];lia,(show bj K G3 c3 (V.str "then"::(d.bc++(V.str "back"::d.bc))) from ew▸hc3),KR.mono u7,λG4 u8 Ao=>⟨true,rfl,eU (hN _ _ ?_)⟩⟩
  obtain⟨KS,KU,hw9⟩:=keep u8 (KR.mono u7) (u7 _ _ Te) (Tf.tup u7.tup) (u7.bt AZ);exact⟨rfl,KS,KU,hw9,Ao⟩
 ·rintro σ G ⟨rfl,A0,Ba,KW,Bb⟩;obtain⟨ov,j,eo,hj⟩:=ade kl;obtain⟨oa,od,rfl,hoi,ow,ER,vd⟩:=Ba.at hj;obtain⟨owf,adG,ol,or',adH⟩:=Tb od (dI hoi);refine⟨_,rfl,_,rfl,_,_,rfl,rfl,vl,_,(k:Int)-1,.ref oa,rfl,rfl,.of A0,eo,?_⟩;refine⟨_,rfl,aw,_,rfl,.inr KW,_,rfl,oa,_,0,.ref ow,rfl,rfl,ER,cw (j:=0) rfl,ow,_,rfl,.inr vd,_,_,rfl,rfl,_,_,rfl,rfl,_,rfl,AB (λcB=>?_) (λ_=>eU ⟨_,_,_,_,_,rfl,A0,Ba,Bb⟩)⟩;have cB:d.bc.length+od.bc.length<79:=by lia
  refine⟨_,rfl,_,rfl,oa,_,1,_,rfl,rfl,ER,cw (j:=1) rfl,_,_,rfl,rfl,_,_,rfl,rfl,_,rfl,AB (λ_=>?_) (λ_=>eU ⟨_,_,_,_,_,rfl,A0,Ba,Bb⟩)⟩;refine⟨_,rfl,_,rfl,oa,_,2,_,rfl,rfl,ER,cw (j:=2) rfl,_,_,rfl,rfl,_,_,rfl,rfl,_,rfl,AB (λ_=>?_) (λ_=>⟨_,_,_,_,_,rfl,A0,Ba,Bb⟩)⟩;refine⟨_,rfl,by show 1≤sizeLine;lia,λb1 mz=>⟨_,rfl,?_⟩⟩;have u1:=aU.upd (o:=.tup [.str "beside"]) mz;refine⟨b1,aw,_,_,rfl,rfl,.of bg,u1.bt KW,by show 1+d.bc.length≤sizeLine;lia,λc1 G1 u2 y0=>?_⟩;have u3:=u1.trans u2;refine⟨_,rfl,oa,_,0,.ref ow,rfl,rfl,u3.bt ER,cw (j:=0) rfl,c1,ow,_,_,rfl,rfl,y0,u3.bt vd,by simp only[bY,eK,wc];lia,λc2 G2 u4 ph=>?_⟩;have u5:=u3.trans u4;refine⟨p,c2,.cF d od,rfl,pp,⟨lW,owf⟩,by simp only[Drw.bc,eK,bY];lia,ph,Bb.mono u5,λG4 u8 Ao=>⟨true,rfl,eU ?_⟩⟩;obtain⟨KS,KU,_⟩:=keep u8 (Bb.mono u5) (u5 _ _ A0) (Ba.tup u5.tup) (u5.bt KW);exact⟨_,_,_,_,_,rfl,KS,KU,Ao⟩
noncomputable def sx(K:Frag)(x:Str):Addr:=match nsIn K mainGlobals x with
 |some (some (.ref a))=>a
 |_=>0
noncomputable def Bc(K:Frag)(x:Str):Bool:=match nsIn K mainGlobals x with
 |some (some (.ref _))=>true
 |_=>false
theorem KY{K:Frag}(h:Bc K x=true):nsIn K mainGlobals x=some (some (.ref (sx K x))):=by
 unfold Bc at h;split at h
 case h_2=>cases h
 case h_1 a e=>
  unfold sx;rw[e]
noncomputable def Bd(K:Frag):Bool:=Bc K "PARTS"&&Bc K "SIDES"&&Bc K "BOX_ROWS"&&Co K (sx K "PARTS")&&decide (qm K (sx K "PARTS")=CM)&&zM K (sx K "SIDES") (sx K "BOX_ROWS")
section
variable{K:Frag}{h:Heap}{mg:Str→Option Value}
theorem Tg(X:K.In h)(G:h.Ns mainGlobals mg)(e:Bd K=true):Parts K mg (sx K "PARTS"):=by
 simp only[Bd,ir,aF]at e;obtain⟨⟨⟨⟨⟨e1,_⟩,_⟩,e4⟩,e5⟩,_⟩:=e;exact⟨eN X G (KY e1),λh X=>e5▸Hm X e4⟩
theorem Th(X:K.In h)(G:h.Ns mainGlobals mg)(e:Bd K=true):qt K mg (sx K "SIDES") (sx K "BOX_ROWS"):=by
 simp only[Bd,ir,aF]at e;obtain⟨⟨⟨⟨⟨_,e2⟩,e3⟩,_⟩,_⟩,e6⟩:=e;exact⟨eN X G (KY e2),eN X G (KY e3),e6⟩
end
noncomputable def Ti(K:Frag):Bool:=nsIn K mainGlobals "dict"==some none
theorem ET{K:Frag}{h:Heap}{mg:Str→Option Value}(X:K.In h)(G:h.Ns mainGlobals mg)(e:Ti K=true):mg "dict"=none:=mY X G (beq_iff_eq.mp e)
theorem yf(h:∀a0,bindArgs fd ⟨[a0],[]⟩=pure (ps.zip [a0])):∀(us:List Value),us.length=1→bindArgs fd ⟨us,[]⟩=pure (ps.zip us)
 | [a0],_=>h a0
theorem mO(h:∀a0 a1,bindArgs fd ⟨[a0,a1],[]⟩=pure (ps.zip [a0,a1])):∀(us:List Value),us.length=2→bindArgs fd ⟨us,[]⟩=pure (ps.zip us)
 | [a0,a1],_=>h a0 a1
theorem oZ(h:∀a0 a1 a2,bindArgs fd ⟨[a0,a1,a2],[]⟩=pure (ps.zip [a0,a1,a2])):∀(us:List Value),us.length=3→bindArgs fd ⟨us,[]⟩=pure (ps.zip us)
 | [a0,a1,a2],_=>h a0 a1 a2
theorem Be(h:∀a0 a1 a2 a3,bindArgs fd ⟨[a0,a1,a2,a3],[]⟩=pure (ps.zip [a0,a1,a2,a3])):∀(us:List Value),us.length=4→bindArgs fd ⟨us,[]⟩=pure (ps.zip us)
 | [a0,a1,a2,a3],_=>h a0 a1 a2 a3
structure FA(K:Frag)(x:Str)(st:Stmt)(f:Addr)(fd:FuncData):Prop where
 a:nsIn K mainGlobals x=some (some (.ref f))
 F:cO K x x st f fd
 k:keepIn K (.ref f)=true
theorem FA.of{K:Frag}{st:Stmt}{od an:Option Addr}{sl:Array (Option Value)}{oc kV dc pm cd ct:Value}(a:nsIn K mainGlobals x=some (some (.ref f)))(l:K.lookup f=some ⟨oc,od,.func (fnOf x x (rf st) (md st) (cg st) .none kV dc pm an cd ct),sl⟩)(c:PySem.W.codeIn K cd x=true)(k:keepIn K (.ref f)=true):FA K x st f (fnOf x x (rf st) (md st) (cg st) .none kV dc pm an cd ct):=⟨a,FH l c k,k⟩
theorem all_mk{l:PySem.W.OpenLaw}{w:World}{K:Frag}{h:Heap}{mg:Str→Option Value}{fa f1 f2 f3 f4 f5 f6 f7 f8 f9 f10 f11 f12 KZ f14 f15 f16 f17 f18 f19 f20 f21 f22 f23 f24 f25 f26 f27 f28 f29 f30 f31 f32 f33 f34 f35 f36 f37 K0:Addr}(X:K.In h)(G:h.Ns mainGlobals mg)(hfa:mg "law"=some (.ref fa))
  {adh adi adj Tj:Option Addr} {adk adl:Array (Option Value)} {adm adn ado adp Tn adq ads To Tp Tq K1 Tr:Value} {d1 d2 d3 d4 d5 d6 d7 d8 d9 d10 d11 Mt d14 d15 d16 d17 d18 d19 d20 d21 d22 d23 d24 d25 d26 d27 d28 d29 d30 d31 d32 d33 d34 d35 d36 d37:FuncData}
  (A1:FA K "turned" zv f1 d1)
  (A2:FA K "added" rM f2 d2)
  (A3:FA K "summed" zw f3 d3)
  (A4:FA K "reduced" xl f4 d4)
  (A5:FA K "led" Cp f5 d5)
  (A6:FA K "cleared" Cq f6 d6)
  (A7:FA K "wires" Ho f7 d7)
  (A8:FA K "folded" Hq f8 d8)
  (A9:FA K "all_folded" Cr f9 d9)
  (A10:FA K "measured" Hr f10 d10)
  (A11:FA K "measure" Ct f11 d11)
  (A12:FA K "plain" Hs f12 Mt)
  (a13:nsIn K mainGlobals "forms"=some (some (.ref KZ))) (l13:K.lookup KZ=some ⟨adm,adh,.func (fnOf "forms" "forms" (rf ku) (md ku) (cg ku) .none adn ado adp adi Tn adq),adk⟩) (c13:PySem.W.codeIn K Tn "forms"=true) (k13:keepIn K (.ref KZ)=true)
  (A14:FA K "refuse_late" Ht f14 d14)
  (A15:FA K "form" Hu f15 d15)
  (A16:FA K "form_of_back" Cu f16 d16)
  (A17:FA K "form_of_beside" zx f17 d17)
  (A18:FA K "form_of_then" Cv f18 d18)
  (A19:FA K "facing" zy f19 d19)
  (A20:FA K "_law_hand" Hv f20 d20)
  (A21:FA K "_law_draw" Hw f21 d21)
  (A22:FA K "_law_box" Hy f22 d22)
  (A23:FA K "_law_ids" Hz f23 d23)
  (A24:FA K "_law_padded" HA f24 d24)
  (A25:FA K "_law_next" HB f25 d25)
  (A26:FA K "_law_joined" HC f26 d26)
  (A27:FA K "_law_fits" HD f27 d27)
  (A28:FA K "_law_grown" HE f28 d28)
  (A29:FA K "_law_prime" HF f29 d29)
  (A30:FA K "_law_equations" HG f30 d30)
  (A31:FA K "_law_ports" Cw f31 d31)
  (A32:FA K "_law_merged" Cy f32 d32)
  (A33:FA K "_law_less" Cz f33 d33)
  (A34:FA K "_law_solved" vy f34 d34)
  (A35:FA K "_law_system" CA f35 d35)
  (A36:FA K "_law_plain" HH f36 d36)
  (A37:FA K "_law_right" CB f37 d37)
  (a38:nsIn K mainGlobals "law"=some (some (.ref K0))) (l38:K.lookup K0=some ⟨ads,adj,.func (fnOf "law" "law" (rf rN) (md rN) (cg rN) .none To Tp Tq Tj K1 Tr),adl⟩) (c38:PySem.W.codeIn K K1 "law"=true) (k38:keepIn K (.ref K0)=true)
  (z1:nsIn K mainGlobals "range"=some none) (z2:nsIn K mainGlobals "zip"=some none) (z3:nsIn K mainGlobals "tuple"=some none) (z4:nsIn K mainGlobals "list"=some none) (z5:nsIn K mainGlobals "int"=some none) (z6:nsIn K mainGlobals "bool"=some none) (z7:nsIn K mainGlobals "isinstance"=some none) (z8:nsIn K mainGlobals "len"=some none) (z9:nsIn K mainGlobals "sum"=some none) (z10:nsIn K mainGlobals "max"=some none) (z11:nsIn K mainGlobals "min"=some none) (z12:nsIn K mainGlobals "enumerate"=some none) (z13:nsIn K mainGlobals "any"=some none) (z14:nsIn K mainGlobals "all"=some none) (hs1:(tabIn K "forms").isSome=true) (hx1:Bd K=true) (hx2:Ti K=true) :
  ∃fd:FuncData,(∀(s:Shared)(v:Value),BindsTo s fd ⟨[v],[]⟩ [("script",v)])∧∀base:Heap,K.In base→base.Ns mainGlobals mg→tM mg base→(∀q∈[oI K "forms"],CodeHd base q.1 q.2)→cj l.prog w K mg base cb 12 fa fd ["script"] (EO K (oI K "forms").2):=by
 have e:=hfa.symm.trans (eN X G a38);cases e;have T:Txt mg:=⟨mY X G z1,mY X G z2,mY X G z3,mY X G z4,mY X G z5,mY X G z6,mY X G z7,mY X G z8,mY X G z9,mY X G z10,mY X G z11,mY X G z12,mY X G z13,mY X G z14⟩;obtain⟨a1,F1,k1⟩:=A1;obtain⟨a2,F2,k2⟩:=A2;obtain⟨a3,F3,k3⟩:=A3;obtain⟨a4,F4,k4⟩:=A4;obtain⟨a5,F5,k5⟩:=A5;obtain⟨a6,F6,k6⟩:=A6;obtain⟨a7,F7,k7⟩:=A7;obtain⟨a8,F8,k8⟩:=A8;obtain⟨a9,F9,k9⟩:=A9;obtain⟨a10,Ts,k10⟩:=A10;obtain⟨a11,K2,k11⟩:=A11;obtain⟨a12,Tt,k12⟩:=A12;have Tu:=FH (st:=ku) l13 c13 k13;obtain⟨a14,Tv,k14⟩:=A14;obtain⟨a15,Tw,k15⟩:=A15;obtain⟨a16,Tx,k16⟩:=A16;obtain⟨a17,Tz,k17⟩:=A17;obtain⟨a18,TB,k18⟩:=A18;obtain⟨a19,TC,k19⟩:=A19;obtain⟨a20,K3,TF⟩:=A20;obtain⟨a21,uE,v5⟩:=A21;obtain⟨a22,K4,TH⟩:=A22;obtain⟨a23,TJ,k23⟩:=A23;obtain⟨a24,TK,k24⟩:=A24;obtain⟨a25,TL,k25⟩:=A25;obtain⟨a26,TM,k26⟩:=A26;obtain⟨a27,TN,k27⟩:=A27;obtain⟨a28,TQ,k28⟩:=A28;obtain⟨a29,TU,k29⟩:=A29;obtain⟨a30,TV,k30⟩:=A30;obtain⟨a31,TX,k31⟩:=A31;obtain⟨a32,TY,k32⟩:=A32;obtain⟨a33,TZ,k33⟩:=A33;obtain⟨a34,T1,k34⟩:=A34;obtain⟨a35,T2,k35⟩:=A35;obtain⟨a36,T3,k36⟩:=A36;obtain⟨a37,T4,k37⟩:=A37;have F38:=FH (st:=rN) l38 c38 k38;have b1:=F1.binds (ps:=["p","number"]) λ_ _ _ _ _ _=>mO λ_ _=>rfl;have m1:=eN X G a1;have b2:=F2.binds (ps:=["p","row","factor","other"]) λ_ _ _ _ _ _=>Be λ_ _ _ _=>rfl;have m2:=eN X G a2;have b3:=F3.binds (ps:=["p","rows","factors","length"]) λ_ _ _ _ _ _=>Be λ_ _ _ _=>rfl;have m3:=eN X G a3;have b4:=F4.binds (ps:=["p","rows"]) λ_ _ _ _ _ _=>mO λ_ _=>rfl;have m4:=eN X G a4;have b5:=F5.binds (ps:=["p","row","place"]) λ_ _ _ _ _ _=>oZ λ_ _ _=>rfl;have m5:=eN X G a5;have b6:=F6.binds (ps:=["p","row","lead","place"]) λ_ _ _ _ _ _=>Be λ_ _ _ _=>rfl;have m6:=eN X G a6;have b7:=F7.binds (ps:=["words"]) λ_ _ _ _ _ _=>yf λ_=>rfl;have m7:=eN X G a7;have b8:=F8.binds (ps:=["words","made"]) λ_ _ _ _ _ _=>mO λ_ _=>rfl;have m8:=eN X G a8;have b9:=F9.binds (ps:=["words","made"]) λ_ _ _ _ _ _=>mO λ_ _=>rfl;have m9:=eN X G a9;have b10:=Ts.binds (ps:=["words"]) λ_ _ _ _ _ _=>yf λ_=>rfl;have m10:=eN X G a10;have b11:=K2.binds (ps:=["place","word","parts"]) λ_ _ _ _ _ _=>oZ λ_ _ _=>rfl;have m11:=eN X G a11;have b12:=Tt.binds (ps:=["p","words"]) λ_ _ _ _ _ _=>mO λ_ _=>rfl;have m12:=eN X G a12;have b13:=Tu.binds (ps:=["p","words"]) λ_ _ _ _ _ _=>mO λ_ _=>rfl;have m13:=eN X G a13;have b14:=Tv.binds (ps:=["words"]) λ_ _ _ _ _ _=>yf λ_=>rfl;have m14:=eN X G a14;have b15:=Tw.binds (ps:=["p","word","parts"]) λ_ _ _ _ _ _=>oZ λ_ _ _=>rfl;have m15:=eN X G a15;have b16:=Tx.binds (ps:=["p","one"]) λ_ _ _ _ _ _=>mO λ_ _=>rfl;have m16:=eN X G a16;have b17:=Tz.binds (ps:=["p","one","other"]) λ_ _ _ _ _ _=>oZ λ_ _ _=>rfl;have m17:=eN X G a17;have b18:=TB.binds (ps:=["p","one","other"]) λ_ _ _ _ _ _=>oZ λ_ _ _=>rfl;have m18:=eN X G a18;have b19:=TC.binds (ps:=["p","one","other"]) λ_ _ _ _ _ _=>oZ λ_ _ _=>rfl;have m19:=eN X G a19;have T5:=K3.binds (ps:=["cell","k"]) λ_ _ _ _ _ _=>mO λ_ _=>rfl;have T6:=eN X G a20;have v7:=uE.binds (ps:=["hand","limit"]) λ_ _ _ _ _ _=>mO λ_ _=>rfl;have v8:=eN X G a21;have T7:=K4.binds (ps:=["hand","p"]) λ_ _ _ _ _ _=>mO λ_ _=>rfl;have T8:=eN X G a22;have b23:=TJ.binds (ps:=["many"]) λ_ _ _ _ _ _=>yf λ_=>rfl;have m23:=eN X G a23;have b24:=TK.binds (ps:=["hand","box","many"]) λ_ _ _ _ _ _=>oZ λ_ _ _=>rfl;have m24:=eN X G a24;have b25:=TL.binds (ps:=["hand","p","here"]) λ_ _ _ _ _ _=>oZ λ_ _ _=>rfl;have m25:=eN X G a25;have b26:=TM.binds (ps:=["hand","one","other"]) λ_ _ _ _ _ _=>oZ λ_ _ _=>rfl;have m26:=eN X G a26;have b27:=TN.binds (ps:=["drawing","most","side"]) λ_ _ _ _ _ _=>oZ λ_ _ _=>rfl;have m27:=eN X G a27;have b28:=TQ.binds (ps:=["script","p","most","side"]) λ_ _ _ _ _ _=>Be λ_ _ _ _=>rfl;have m28:=eN X G a28;have b29:=TU.binds (ps:=["hand"]) λ_ _ _ _ _ _=>yf λ_=>rfl;have m29:=eN X G a29;have b30:=TV.binds (ps:=["word","number"]) λ_ _ _ _ _ _=>mO λ_ _=>rfl;have m30:=eN X G a30;have b31:=TX.binds (ps:=["words"]) λ_ _ _ _ _ _=>yf λ_=>rfl;have m31:=eN X G a31;have b32:=TY.binds (ps:=["p","row","alias"]) λ_ _ _ _ _ _=>oZ λ_ _ _=>rfl;have m32:=eN X G a32;have b33:=TZ.binds (ps:=["p","row","other","factor"]) λ_ _ _ _ _ _=>Be λ_ _ _ _=>rfl;have m33:=eN X G a33;have b34:=T1.binds (ps:=["p","order","rows"]) λ_ _ _ _ _ _=>oZ λ_ _ _=>rfl;have m34:=eN X G a34;have b35:=T2.binds (ps:=["p","words"]) λ_ _ _ _ _ _=>mO λ_ _=>rfl;have m35:=eN X G a35;have b36:=T3.binds (ps:=["p","system"]) λ_ _ _ _ _ _=>mO λ_ _=>rfl;have m36:=eN X G a36;have b37:=T4.binds (ps:=["p","words"]) λ_ _ _ _ _ _=>mO λ_ _=>rfl;have m37:=eN X G a37;exact⟨fnOf "law" "law" (rf rN) (md rN) (cg rN) .none To Tp Tq Tj K1 Tr,λs v=>.of_eq rfl,λbase _ _ bb cc=>adg F38 T (RG K3) TF T5 T6 (acr TU (vU uE) v5 v7 v8) k29 b29 m29 (ada TQ T (RG K3) TF T5 T6 (vU uE) v5 v7 v8 (Sw K4 T (vU uE) v5 v7 v8) TH T7 T8 (ac1 TM (vU uE) v5 v7 v8) k26 b26 m26 (ac3 TN T) k27 b27 m27 (acZ TL (vU uE) v5 v7 v8 (Sw K4 T (vU uE) v5 v7 v8) TH T7 T8 (acX TK (vU uE) v5 v7 v8 (acT TJ) k23 b23 m23) k24 b24 m24) k25 b25 m25) k28 b28 m28 (acg T4 T (aaI Tt (aaG Tu (YA a13 l13 (NO hs1)) (cc _ cU) bb (ZY Tv) k14 b14 m14 (Ol F9 T (Tg X G hx1)) k9 b9 m9 (aay Tw (Th X G hx1) (ZP Tx (HU F4 T F2 b2 m2 F1 b1 m1 F3 b3 m3 F6 b6 m6 F5 b5 m5) k4 b4 m4) k16 b16 m16 (aag Tz (HU F4 T F2 b2 m2 F1 b1 m1 F3 b3 m3 F6 b6 m6 F5 b5 m5) k4 b4 m4) k17 b17 m17 (aaw TB T (HU F4 T F2 b2 m2 F1 b1 m1 F3 b3 m3 F6 b6 m6 F5 b5 m5) k4 b4 m4 (aas TC T) k19 b19 m19) k18 b18 m18 (ZL F7 (ZJ Ts (ZH F8 (Ol F9 T (Tg X G hx1)) k9 b9 m9) k8 b8 m8 (ZE K2 (Th X G hx1)) K2 b11 m11) k10 b10 m10) k7 b7 m7) k15 b15 m15) k13 b13 m13) k12 b12 m12 (abY T3 T) k36 b36 m36 (ab8 T2 T (acO TX T (ET X G hx2) (ab3 TV) k30 b30 m30) k31 b31 m31 (abQ TY (ET X G hx2)) k32 b32 m32 (abV T1 T (ET X G hx2) (abO TZ (ET X G hx2)) k33 b33 m33) k34 b34 m34) k35 b35 m35) k37 b37 m37⟩
theorem walk{l:PySem.W.OpenLaw}{q:Program}{wH:List Str}{XP:(Str→Option Value)→Heap→Prop}{YP:World→Heap→Prop}{d:DefRec}{K:Params→Frag}(hn:l.most=some 63)(yX:d.params.defaults=[])
  (hY:∀(w:World)(h:Heap),YP w h→(K w.params).In h) (noT:∀w:World,PySem.W.noTabs (K w.params)=true)
  (hT:∀(w:World){zt:ExcName→Option Value}{lo:List Str}{mg mb:Str→Option Value}{h:Heap},PyProof.Rows.Top q lo zt mg mb h→(K w.params).In h→PySem.W.TabsAt [oI (K w.params) "forms"] h)
  (F:∀(w:World)(mg:Str→Option Value)(fa:Addr)(h:Heap),(K w.params).In h→h.Ns mainGlobals mg→mg d.name=some (.ref fa)→
   ∃fd:FuncData,(∀(s:Shared)(u:Value),BindsTo s fd ⟨[u],[]⟩ [("script",u)])∧∀base:Heap,(K w.params).In base→base.Ns mainGlobals mg→tM mg base→(∀q∈[oI (K w.params) "forms"],CodeHd base q.1 q.2)→cj l.prog w (K w.params) mg base cb 12 fa fd ["script"] (EO (K w.params) (oI (K w.params) "forms").2)) :
  PySem.W.WalkO q wH XP YP l.row.toRowW d [] (λf vs=>PySem.call f vs):=
 L2.YL (n:=63) (k:=12) (x := "script") (tabs:=λw=>[oI (K w.params) "forms"]) (sp:=λw=>EO (K w.params) (oI (K w.params) "forms").2) hn (by decide) yX ⟨rfl,by decide,by decide⟩ hY noT hT F λ_ _ a ns hl hS xh=>⟨a,ns,rfl,hS,hl,.inl (xh _ cU),λ_=>rfl⟩
end S21
structure PySem.W.Fast:Prop where
 (tw4756274786732969040 tw17724362677571865204 tw7561986882304793653 tw18215333388966464955 tw15676007069974477176 tw4819308309855383500 tw5266187059004632345 tw7051249533498643791 tw18170494983676091871 tw14789916652614052023 tw631075807638020928 tw9941984382019814990 tw14041896751556255418 tw9125375274084496480 tw4764054751654844994 tw13068723850572851864 tw5472548395123800231 tw14141362655319526203 tw1049210387418381561 tw4642280433087347199 tw4584772764163334220 tw12674113172386455900 tw12870787364514496700 tw13334326148050001566 tw7403731419444310173 tw3701501727786251335 tw4915508090294688073 tw6551804233020337828 tw8558598571253316716 tw13790936076691905640 tw4503222660402276968 tw8933508461511736217 tw7201296589375242952 tw11947217183019295973 tw9549284339958771884 tw17242983117124636248 tw15537065815222906726 tw3662200450511619173 tw5222652629370147634 tw2628368707910147990 tw2738444438897566670 tw14042489052155748347 tw18310783359231710092 tw2276551511484175828 tw11517217021678589583 tw5247606686902355731 tw11303875129752201276 tw16307504896815671463 tw12981222646619843383 tw10573691848206104007 tw9961464393054764337 tw3752861988465899129 tw13412231299362548508 tw17312461482569517440 tw18123181571655817621 tw17313305156295711865 tw12613249373678026354 tw1503786737348849279 tw7512456969138219980 tw6755043159883391563 tw7648902901514943279 tw11118101500462917806 tw7888202916530006227 tw15968208054716738597 tw8072146719646143613 tw5764735201129149130 tw1456090641174220397 tw8741591791590336019 tw9967854687136511494 tw3836469052213034180 tw12925725661530857323 tw3948876363584249471 tw5401481601246529895 tw6378152733983338766 tw4943437371074752312 tw10160345711570432374 tw3784974384274344660 tw9612286883434134056 tw584238425110849902 tw8845830484830865692 tw17787433638978301161 tw1361763831581212121 tw14270652587933107351 tw14144650352103117767 tw9231004578724507168 tw2096569027343458270 tw12312858064919849483 tw930770713417794454 tw13997388222579319525 tw17327367549420297861 tw3901969600271029293 tw6101673639463825703 tw4828327593204854767 tw4640671322465515727 tw6546766897835345490 tw8385691845471724103 tw6253924656899090456 tw58151955624537906 tw10520440788735177301 tw3170283059801883831:True)
open PySem PySem.W PyProof.Rows
set_option maxRecDepth 100000 in
set_option maxHeartbeats 0 in
theorem PySem.Challenge.cw_bentwires_k24_whole_plain_forms_holds : PySem.Challenge.rw_bentwires_k24_whole_plain_forms.Holds := by
 w_on;o_law;k_head;(case hw=>w_witness2)
 k_fill
 refine S21.walk (l:=PySem.Challenge.rw_bentwires_k24_whole_plain_forms) rfl rfl (fun w h Y=>PySem.W.km_in_of Y) ?noT ?hT ?F
 (case noT=>exact fun w=>by kernel_rfl)
 (case hT=>exact fun w {_ _ _ _ _} T X=>L2.tabs_cons T X rfl (by kernel_rfl) (L2.tabs_nil))
 case F =>
  intro w mg fa h KX G hmg
  refine' S21.all_mk KX G hmg ?_ ?_ ?_ ?_ ?_ ?_ ?_ ?_ ?_ ?_ ?_ ?_ ?a13 ?l13 ?c13 ?k13 ?_ ?_ ?_ ?_ ?_ ?_ ?_ ?_ ?_ ?_ ?_ ?_ ?_ ?_ ?_ ?_ ?_ ?_ ?_ ?_ ?_ ?_ ?_ ?_ ?a38 ?l38 ?c38 ?k38 ?z1 ?z2 ?z3 ?z4 ?z5 ?z6 ?z7 ?z8 ?z9 ?z10 ?z11 ?z12 ?z13 ?z14 ?hs1 ?hx1 ?hx2
  (case a13=>k_is)
  (case l13=>k_is)
  (case c13=>k_is)
  (case k13=>k_is)
  (case a38=>k_is)
  (case l38=>k_is)
  (case c38=>k_is)
  (case k38=>k_is)
  (case hs1=>kernel_rfl)
  (case hx1=>kernel_rfl)
  (case hx2=>kernel_rfl)
  any_goals refine' S21.FA.of ?_ ?_ ?_ ?_
  any_goals k_is
