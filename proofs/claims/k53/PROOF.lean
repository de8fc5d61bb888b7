import PyProof.Rows.All
import KE.KItemsList
import PyProof.Rows.SortWalk
import PyProof.DictTruth
import PyProof.DictWalks
import PyProof.ListRange
import PyProof.TupleOfStr
import KE.KSortTup
import PyProof.AttrMissHeap
import KE.KDictList
import PyProof.CallStr
import PyProof.StrWalks
import PyProof.Rows.StrNews
import PyProof.Rows.StrJoin2
import KE.KIntText
import KE.KTabLook
import KE.KLam
import Wide.All
import OpenK.AllK
import Wide.FinOn
import Lean
import PyProof.EqAt
import PyProof.EqKinds
import PyProof.TupleCall
import PySem.Challenge.RW_bentwires_k53_whole_moves_keep
set_option compiler.extract_closed false
set_option maxHeartbeats 3900000
set_option maxRecDepth 100000
set_option Elab.async false
set_option linter.all false
open PySem.W(Frag keepIn nsIn fnOf kitOne CodeHd tabIn kqdOk Dat)
noncomputable section
abbrev bH:=@List.length_map
abbrev cb:=@List.length_append
abbrev ck:=@Nat.le_refl
abbrev cD:=@List.getElem?_eq_getElem
abbrev cT:=@List.mem_singleton
abbrev cV:=@List.length_take
abbrev du:=@List.mem_cons_self
abbrev dD:=@PySem.Heap.get?_push_of_some
abbrev dF:=@List.mem_map
abbrev dG:=@List.getD_eq_getElem?_getD
abbrev dH:=@PySem.W.mg_of
abbrev dJ:=@Option.some.inj
abbrev dM:=@Bool.and_eq_true
abbrev dP:=@List.size_toArray
abbrev dR:=@List.getElem?_map
abbrev dS:=@List.mem_of_getElem?
abbrev dU:=@List.length_drop
abbrev eh:=@Nat.le_trans
abbrev eA:=@List.getElem?_eq_some_iff
abbrev eB:=@List.mem_append
abbrev eC:=@List.map_append
abbrev eE:=@PySem.Heap.lt_size
abbrev eK:=@List.mem_cons
abbrev eX:=@List.length_cons
abbrev fg:=@List.length_replicate
abbrev gp:=@PySem.Heap.get?_push_size
abbrev gq:=@List.mem_cons_of_mem
abbrev gF:=@List.all_eq_true
abbrev gR:=@List.append_assoc
abbrev ia:=@Bool.false_ne_true
abbrev ib:=@List.map_cons
abbrev iA:=@Nat.ne_of_lt
abbrev iD:=@Ne.symm
abbrev iL:=@Nat.zero_le
abbrev iM:=@List.take_add_one
abbrev iV:=@List.append_nil
abbrev i9:=@List.getElem?_append_left
abbrev ji:=@List.mem_append_right
abbrev jy:=@List.getElem?_append_right
abbrev jR:=@Nat.lt_of_lt_of_le
abbrev kf:=@List.getElem?_eq_none
abbrev kQ:=@List.contains_iff_mem
abbrev lO:=@List.take_of_length_le
abbrev lP:=@Nat.zero_add
abbrev lQ:=@Int.zero_add
abbrev lR:=@PySem.F.plainAttrs_list
abbrev lS:=@PySem.PassesOwn.never
abbrev mr:=@PySem.W.mg_none_of
abbrev nF:=@List.take_length
abbrev nG:=@List.cons.inj
abbrev o8:=@List.mem_append_left
abbrev o9:=@PySem.Heap.SameBut.update
abbrev pd:=@List.getElem_mem
abbrev pe:=@List.flatMap_cons
abbrev pf:=@PySem.F.slot_list_append
abbrev ph:=@PySem.F.type_list_append
abbrev qd:=@List.mem_filter
abbrev qe:=@List.lookup_cons
abbrev qf:=@PySem.AutoSeq1.wpAny_loadPart'
abbrev qg:=@List.mem_of_mem_take
abbrev qh:=@List.mem_of_mem_drop
abbrev qY:=@PySem.W.kia_one
abbrev qZ:=@PySem.mem_of_lookup
abbrev rg:=@PySem.Heap.get?_update_self
abbrev rh:=@Int.emod_nonneg
abbrev ri:=@Int.emod_lt_of_pos
abbrev rj:=@Int.mul_sub
abbrev rl:=@Array.getD_eq_getD_getElem?
abbrev sM:=@Int.dvd_add
abbrev sN:=@Int.add_zero
abbrev sO:=@List.length_take_le
abbrev sP:=@Int.one_mul
abbrev sQ:=@Int.natCast_add
abbrev sR:=@List.reverse_append
abbrev uz:=@List.mem_range
abbrev uA:=@List.replicate_succ
abbrev uB:=@PySem.Heap.size_push
abbrev uC:=@List.mem_iff_getElem
abbrev uD:=@Option.map_eq_some_iff
abbrev vP:=@Nat.le_of_lt
abbrev vQ:=@PySem.Heap.get?_update_other
abbrev vR:=@List.getElem?_drop
abbrev vS:=@Int.mul_comm
abbrev vT:=@Array.getElem?_eq_getElem
abbrev vU:=@List.nodup_append
abbrev xG:=@Nat.lt_irrefl
abbrev xH:=@Array.length_toList
abbrev xI:=@Bool.false_eq_true
abbrev xJ:=@List.cons_append
abbrev xK:=@Nat.lt_succ_self
abbrev xM:=@List.map_congr_left
abbrev xN:=@List.mem_replicate
abbrev xO:=@Nat.min_eq_left
abbrev xP:=@List.flatMap_append
abbrev xQ:=@Nat.add_assoc
abbrev zZ:=@PyProof.Rows.callWith_type1
abbrev Aa:=@PySem.Calls.spliced_cons
abbrev Ab:=@List.nodup_cons
abbrev Ac:=@List.of_mem_zip
abbrev Ad:=@List.flatten_cons
abbrev Ae:=@List.length_reverse
abbrev Af:=@List.nil_append
abbrev Ag:=@List.not_mem_nil
abbrev Ah:=@Option.getD_some
abbrev Ai:=@List.mem_of_mem_eraseIdx
abbrev CM:=@PyProof.Rows.slot_tuple_getitem
abbrev CN:=@List.mem_map_of_mem
abbrev CO:=@List.reverse_reverse
abbrev CP:=@Option.bind_eq_some_iff
abbrev Ht:=@PySem.W.cellsFrom_some
abbrev Hu:=@Option.isSome_iff_exists
abbrev Hv:=@Int.dvd_mul_of_dvd_right
abbrev Hw:=@PySem.F.slot_dict_get
abbrev Hy:=@List.drop_eq_getElem_cons
abbrev Hz:=@List.length_filter_le
abbrev HG:=@List.drop_eq_nil_of_le
abbrev HH:=@PySem.F.slot_dict_keyiterator_next
abbrev HI:=@Nat.le_of_ble_eq_true
abbrev ND:=@PySem.F.slot_tuple_iterator_next
abbrev NG:=@Int.mul_le_mul_of_nonneg_left
abbrev ae:=@decide_eq_false
abbrev af:=@if_pos
abbrev ag:=@if_neg
abbrev ah:=@PySem.wpAny_mono
abbrev ai:=@PySem.wpAny_truthy_bool
abbrev aj:=@congrArg
abbrev ak:=@PySem.wpAny_passesOwn
abbrev ao:=@PySem.wpAny_pure
abbrev aq:=@PySem.wpAny_bind
abbrev ar:=@PySem.sizeLine_eq
abbrev au:=@PySem.wpAny_Call_Name_kw
abbrev av:=@PySem.wpAny_newFunctionEnv_cells
abbrev az:=@PySem.wpAny_loadPart'
abbrev aA:=@PySem.wpAny_field
abbrev aC:=@PySem.wpAny_holding
abbrev aE:=@PySem.wpAny_callSpecial?_slot
abbrev aF:=@PySem.wpAny_call_entry
abbrev aG:=@PySem.wpAny_newObj_type
abbrev aH:=@decide_eq_true
abbrev aI:=@PySem.wpAny_ite_false
abbrev aJ:=@decide_eq_false_iff_not
abbrev aK:=@decide_eq_true_eq
abbrev aL:=@PySem.wpAny_specialOf
abbrev aM:=@of_decide_eq_true
abbrev aO:=@PySem.typeLookup_type
abbrev aQ:=@PySem.builtinLookup_eq_fast
abbrev aU:=@PySem.isSubtype_type
abbrev aV:=@PySem.wpAny_typeNameOfWhole_keyiter
abbrev aW:=@PySem.wpAny_typeNameOf_keyiter
abbrev aX:=@beq_self_eq_true
abbrev Kp(K:Frag)(f:PySem.Addr):Prop:=keepIn K (.ref f)=true
abbrev Mg(m:PySem.Str->Option PySem.Value)(x:PySem.Str)(f:PySem.Addr):Prop:=m x=some (.ref f)
abbrev QV:=PySem.Value->PySem.Shared->Prop
abbrev LL:=List (List Int)
variable{P:PySem.Program}{w:PySem.World}{K:Frag}{mg:PySem.Str->Option PySem.Value}{base:PySem.Heap}
section
set_option hygiene false
def t_:Array Lean.Name:=#[`o_,`o_,`o_,`o_,`o_,`Value,`true,`o_,`none,`rfl,`o_,`o_,`o_,`o_,`o_,`o_,`o_,`o_,`o_,`o_,`o_,`xs.length,`s.heap.objs.size,`d.aY.length]
open Lean in
def cvP:Nat->TSyntax `term->MacroM (TSyntax `rcasesPat)
|0,_=>Macro.throwUnsupported
|n+1,s=>match s with
 |`([$a,*])=>do
  let b<-a.getElems.mapM λx=>do `(Lean.Parser.Tactic.rcasesPatLo|$(<-cvP n x):rcasesPat)
  `(rcasesPat|⟨$b,*⟩)
 |`(_)=>`(rcasesPat|_)
 |`($x:ident)=>`(rcasesPat|$x:ident)
 |_=>Macro.throwUnsupported
local macro_rules|`(tactic|let $p:term:=$e)=>do `(tactic|obtain $(<-cvP 9 p):rcasesPat:=$e)
local macro_rules|`(#[$a,*])=>if a.elemsAndSeps.size%2==0 then Lean.Macro.throwUnsupported else `(⟨$a,*⟩)
local macro_rules|`(command|$m:declModifiers def $i:declId $s:optDeclSig:=$v:term)=>if v.raw.isOfKind ``Lean.Parser.Term.byTactic||v.raw.isOfKind ``Lean.Parser.Term.paren then `(command|$m:declModifiers theorem $i:declId $(⟨Lean.mkNode ``Lean.Parser.Command.declSig #[s.raw[0],s.raw[1][0],]⟩):declSig:=$v) else if m.raw.getPos?.isNone then `(command|noncomputable def $i:declId $s:optDeclSig:=$v) else Lean.Macro.throwUnsupported
local macro_rules|`(tactic|let $d:letIdDecl)=>`(tactic|have $d:letIdDecl)
local macro_rules|`($n:num $z*)=>let a:=z.getD 0 default;let b:=z.getD 1 default;let c:=z.getD 2 default;let d:=z.getD 3 default;let e:=z.getD 4 default;let f:=z.getD 5 default;let g:=z.getD 6 default;match n.getNat with
|0=>`(some $a)
|1=>`(List $a)
|2=>`(.int $a)
|3=>`(.ref $a)
|4=>`(Str.ofString $a)
|5=>`(1<|$a×$b)
|6=>`($a->Prop)
|7=>`(Option $a)
|8=>`(0<|3 $a)
|9=>`(upd $a $b<|.lst $c)
|10=>`(bf (pv $a) $b)
|11=>`($a<=sizeLine)
|12=>`(Inv $a aZ $b $c $d)
|13=>`(0<|.lst $a)
|14=>`(r.getD $a 0)
|15=>`(wpAny (model $a $b) $c $d $e $f $g)
|16=>`(List.replicate $a $b)
|17=>`(F.ok $a $b λcq A outer s H vs Q E hr h=>$c)
|_=>Lean.Macro.throwUnsupported
local macro_rules|`($n:num)=>if n.raw[0].getAtomVal.startsWith "0"&&n.raw[0].getAtomVal.length>1 then Lean.Macro.throwUnsupported else match n.getNat with
|7=>`(by lia)
|4=>`(1 Int)
|16=>`(by decide)
|17=>`(by simp)
|18=>`(.inl 9)
|19=>`(by decide +kernel)
|24=>`(λvs H Q E h=>?_)
|i=>match t_.getD i `o_ with|`o_=>Lean.Macro.throwUnsupported|x=>pure (Lean.mkIdent x)
namespace L2
open PySem PySem.Spec PyProof.Rows
variable{A:Around}{CX:rn}{D:Ends}{E:QV}{H:Hp}{M:Model}{Q:Unit->6 Shared}{X:Cx}{a b:Addr}{body:1 Stmt}{c e tg:Expr}{ch fp:1 Addr}{f:5->5->Sem 5}{g:TG}{h:Heap}{i n t':Nat}{o:HO}{op:CmpOp}{aZ:5 Addr Obj}{ps:1 Str}{s:Shared}{t te:TE}{tb:TS}{u:Value}{us:1 5}{v:V}{x:Str}{xs:1 V}{σ:St}
abbrev Key:=Sum Int Str
noncomputable def xR:Key->5->Bool
 | .inl k,v=>Value.isInt k v
 | .inr x,v=>Value.isStrOf x v
noncomputable def Xz(w:World):Key->Int
 | .inl k=>hashInt k
 | .inr x=>hashStr w x
theorem ro:∀{k:Key}{v:Value},xR k v=6->(∃i t,k=Sum.inl i/\v=Value.int i t)\/(∃x t,k=Sum.inr x/\v=Value.str x t)
 | .inl i,v,h=>by
  let[t,e]:=Value.isInt_shape (k:=i) (v:=v) h;exact .inl #[i,t,9,e]
 | .inr x,v,h=>by
  let[t,e]:=Value.isStrOf_shape (x:=x) (v:=v) h;exact .inr #[x,t,9,e]
def XA(i:Int)(t:Tok):xR (.inl i) (.int i t)=6:=by simp[xR,Value.isInt]
def XB(x:Str)(t:Tok):xR (.inr x) (.str x t)=6:=by simp[xR,Value.isStrOf]
def XC(a b:Int):decide ((Sum.inl a:Key)=Sum.inl b)=(a==b):=by
 by_cases e:a=b
 .subst e;simp
 .let h:¬(Sum.inl a:Key)=Sum.inl b:=λq=>e<|Sum.inl.inj q;rw[ae h];exact(beq_eq_false_iff_ne.mpr e).symm
def XD(a b:Str):decide ((Sum.inr a:Key)=Sum.inr b)=decide (a=b):=by
 by_cases e:a=b
 .subst e;simp
 .let h:¬(Sum.inr a:Key)=Sum.inr b:=λq=>e<|Sum.inr.inj q;rw[ae h,ae e]
def XE(a:Int)(b:Str):decide ((Sum.inl a:Key)=Sum.inr b)=false:=(ae λq=>nomatch q)
def XF(a:Str)(b:Int):decide ((Sum.inr a:Key)=Sum.inl b)=false:=(ae λq=>nomatch q)
noncomputable def jj(prog:Program)(w:World):PySem.KeyKind prog w Key where
 is:=xR
 hash:=Xz w
 inj:=λv a b ha hb=>by
  rcases ro ha with⟨i,t,rfl,rfl⟩|⟨x,t,rfl,rfl⟩
  .rcases ro hb with⟨j,u,rfl,e⟩|⟨y,u,rfl,e⟩
   .injection e with e1 _;rw[e1]
   .exact nomatch e
  .rcases ro hb with⟨j,u,rfl,e⟩|⟨y,u,rfl,e⟩
   .exact nomatch e
   .injection e with e1 _;rw[e1]
 byValue:=λk v h=>by
  rcases ro h with⟨i,t,rfl,rfl⟩|⟨x,t,rfl,rfl⟩<;>rfl
 pyHash:=λhv h=>by
  rcases ro hv with⟨i,t,rfl,rfl⟩|⟨x,t,rfl,rfl⟩
  .exact wpAny_pyHash_int h
  .exact wpAny_pyHash_str h
 eqBool:=λhu hv h=>by
  rcases ro hu with⟨i,t,rfl,rfl⟩|⟨x,t,rfl,rfl⟩
  .rcases ro hv with⟨j,u,rfl,rfl⟩|⟨y,u,rfl,rfl⟩
   .rw[XC]at h;exact wpAny_eqBool_int h
   .rw[XE]at h;exact SeqAt.EqAt.int_str i t y u _ _ _ _ h
  .rcases ro hv with⟨j,u,rfl,rfl⟩|⟨y,u,rfl,rfl⟩
   .rw[XF]at h;exact SeqAt.EqAt.str_int x t j u _ _ _ _ h
   .rw[XD]at h;exact wpAny_eqBool_str h
 «strs»:=λk x t v h=>by
  rcases ro h with⟨i,u,rfl,e⟩|⟨y,u,rfl,e⟩
  .exact nomatch e
  .injection e with e1 _;subst e1;cases v<;>rfl
def XG(prog:Program)(w:World)(i:Int)(t:Tok):(jj prog w).is (.inl i) (.int i t)=6:=(XA i t)
def XH(prog:Program)(w:World)(x:Str)(t:Tok):(jj prog w).is (.inr x) (.str x t)=6:=(XB x t)
inductive V where
 |cI|bl (b:Bool)|int (i:Int)|str (x:Str)|ou (b:Array UInt8)|xS (b:UInt64)|ref (a:Addr)|ty (n:String)
 deriving DecidableEq
def RelV:V->6 5
 | .cI,u=>u=Value.none
 | .bl b,u=>u=Value.bool b
 | .int i,u=>∃t,u=Value.int i t
 | .str x,u=>∃t,u=Value.str x t
 | .ou b,u=>∃t,u=Value.bytes b t
 | .xS b,u=>∃t,u=Value.float b t
 | .ref a,u=>u=Value.ref a
 | .ty n,u=>u=Value.type n
abbrev Vals:1 V->6 (1 5):=Paired RelV
def Vals.length{xs:1 V}{us:1 5}(r:Vals xs us):21=us.length:=(Paired.length r)
theorem Vals.get:∀{xs:1 V}{us:1 5}{i:Nat}{x:V},Vals xs us->xs[i]?=0 x->∃u,us[i]?=0 u/\RelV x u
 |_,_,_,_,.nil,e=>by simp at e
 |_,_,0,_,.cons r _,e=>by simp at e;subst e;exact#[_,9,r]
 |_,_,i+1,x,.cons _ t,e=>by
  let[u,h1,h2]:=Vals.get (i:=i) (x:=x) t (by simpa using e);exact#[u,by simpa using h1,h2]
theorem Vals.append:∀{xs ys:1 V}{us ws:1 5},Vals xs us->Vals ys ws->Vals (xs++ys) (us++ws)
 |_,_,_,_,.nil,s=>s
 |_,_,_,_,.cons r t,s=>.cons r (Vals.append t s)
theorem Vals.take:∀{xs:1 V}{us:1 5}(n:Nat),Vals xs us->Vals (xs.take n) (us.take n)
 |_,_,0,_=>.nil
 |_,_,_+1,.nil=>.nil
 |_,_,n+1,.cons r t=>.cons r (Vals.take n t)
theorem Vals.drop:∀{xs:1 V}{us:1 5}(n:Nat),Vals xs us->Vals (xs.drop n) (us.drop n)
 |_,_,0,r=>r
 |_,_,_+1,.nil=>.nil
 |_,_,n+1,.cons _ t=>Vals.drop n t
def ow:7 V->6 (7 5)
 |some v,some u=>RelV v u
 |none,none=>True
 |_,_=>False
def KV{κ:Type}:5 κ V->6 (5 κ 5):=Paired λ(p:κ×V)(q:κ×Value)=>p.1=q.1/\RelV p.2 q.2
noncomputable def kV:Key->V
 | .inl i=>2 i
 | .inr x=>.str x
inductive HO where
 |lst (xs:1 V)
 |tup (xs:1 V)
 |dK (ba:5 Key V)|dT (ba:5 (1 Key) V)
 |set (S:Int->Bool) (n:Nat)
 |ins (C dx:Addr) (fs:5 Str V)
 |own (x:Addr)
 |xd (fs:5 Str V)
 |met (f x:Addr)
 |qi (lo hi:Int)
 |e7 (o:Obj) (u:HO)
 |ic (ps:Array 5)
 |ext (φ:6 Heap)
abbrev Hp:=Addr->7 HO
def upd(H:Hp)(a:Addr)(o:HO):Hp:=λb=>if b=a then 0 o else H b
def bq:upd H a o a=0 o:=by unfold upd;rw[af 9]
def cF(h:b≠a):upd H a o b=H b:=by unfold upd;rw[ag h]
def XI{u:HO}:upd (upd H a o) a u=upd H a u:=by
 funext b;unfold upd;split<;>rfl
def XJ{u:HO}(h:H a=0 o)(h':H b=0 u)(d:o≠u):a≠b:=by
 intro e;subst e;rw[h]at h';exact d<|dJ h'
def ig(h:H a=0 o)(h':H b=8):a≠b:=by
 intro e;subst e;rw[h]at h';cases h'
def qj(h:Heap)(a:Addr)(items:Array 5):Prop:=∃o,h.get? a=0 o/\o.cls=.type "tuple"/\o.dict=8/\∃n,o.data=.seq items n
def qj.tup{items:Array 5}(x:qj h a items):IsTup h a items:=(let ⟨o,e,c,_,n,d⟩:=x;#[o,e,c,n,d])
def qj.new(h:Heap)(items:Array 5):qj (h.push { cls:=.type "tuple",data:=.seq items }) h.objs.size items:=(#[_,gp _ 9,9,9,_,9])
section
variable(P:Program)(w:World)
def gS(H:Hp)(h:Heap)(a:Addr):6 HO
 | .lst xs=>11 21/\∃(its:1 5)(n:Nat),Vals xs its/\h.get? a=0 { cls:=.type "list",data:=.seq its.toArray n }
 | .tup xs=>11 21/\∃its:1 5,Vals xs its/\qj h a its.toArray
 | .dK ba=>11 ba.length/\(a==sysModules)=false/\∃vs,KV ba vs/\h.DictOf (jj P w) a vs
 | .dT ba=>11 ba.length/\(a==sysModules)=false/\∃xs:5 (1 Key) (Addr×5),
   Paired (λ(p:List Key×V)(q:List Key×Addr×Value)=>p.1=q.1/\H q.2.1=0 (.tup<|p.1.map kV)/\RelV p.2 q.2.2) ba xs/\
   ∃o es ep,h.get? a=0 o/\o.ExactDict/\o.data=.dict es ep/\es.toList=xs.map (entryOfKey<|tupleKind<|jj P w)/\(xs.map (·.1)).Nodup
 | .set S n=>h.SetOf (intKind P w) a S n
 | .ins C dx fs=>H dx=0 (.own a)/\fs.length<=1000/\dx≠a/\h.get? a=0 (PySem.W.instObj C dx)/\
   ∃mA,h.Ns1 dx mA/\(∀f,ow (fs.lookup f) (mA f))/\PySem.Within mA (fs.map (·.1))
 | .own _=>∃o,h.get? a=0 o
 | .xd fs=>∃mA,h.Ns1 a mA/\∀f,ow (fs.lookup f) (mA f)
 | .qi lo hi=>∃t u v,h.get? a=0 { cls:=.type "range",data:=.fields #[.int lo t,.int hi u,.int 1 v,] }
 | .e7 o u=>h.get? a=0 o/\gS H h a u
 | .ic ps=>h.get? a=0 { cls:=.none,data:=.fields ps }
 | .met f x=>h.get? a=0 (PySem.W.methodObj (3 f)<|3 x)
 | .ext φ=>φ h/\(∃o,h.get? a=0 o)/\∀h1 h2:Heap,φ h1->(∀o,h1.get? a=0 o->h2.get? a=0 o)->φ h2
def gT(H:Hp)(h:Heap):Prop:=∀a o,H a=0 o->gS P w H h a o
end
section
variable{P:Program}{w:World}{H H':Hp}{h h':Heap}{a:Addr}{o:HO}
def gS.lt(x:gS P w H h a o):a<h.objs.size:=by
 cases o with
 |lst xs=>let[_,_,_,_,e]:=x;exact eE e
 |tup xs=>let[_,_,_,p]:=x;exact p.tup.lt
 |dK ba=>let[_,_,_,_,o,_,_,e,_]:=x;exact eE e
 |dT ba=>let[_,_,_,_,o,_,_,e,_]:=x;exact eE e
 |set S n=>let[o,_,_,_,e,_]:=x;exact eE e
 |ins C dx fs=>let[_,_,_,e,_]:=x;exact eE e
 |own y=>let[_,e]:=x;exact eE e
 |xd fs=>let[_,[_,_,_,e,_],_]:=x;exact eE e
 |qi lo hi=>let[_,_,_,e]:=x;exact eE e
 |e7 ob u=>let[e,_]:=x;exact eE e
 |ic ps=>exact eE (show h.get? a=0 _ from x)
 |met f y=>exact eE (show h.get? a=0 _ from x)
 |ext φ=>let[_,[_,e],_]:=x;exact eE e
theorem Paired.HJ{α β:Type}{F G:α->6 β}:∀{l₁:1 α}{l₂:1 β},Paired F l₁ l₂->(∀a b,F a b->G a b)->Paired G l₁ l₂
 |_,_,.nil,_=>.nil
 |_,_,.cons r t,f=>.cons (f _ _ r) (Paired.HJ t f)
def gS.rp(x:gS P w H h a o)(k:∀b u,(b=a\/H b=0 (.own a))->h.get? b=0 u->h'.get? b=0 u)
  (ho:∀b,H b=0 (.own a)->H' b=0 (.own a)) (ht:∀b xs,H b=0 (.tup xs)->H' b=0 (.tup xs)):gS P w H' h' a o:=by
 induction o with
 |lst xs=>let[z,its,n,r,e]:=x;exact#[z,its,n,r,k _ _ 18 e]
 |tup xs=>let[z,its,r,ob,e,c]:=x;exact#[z,its,r,ob,k _ _ 18 e,c]
 |dK ba=>let[z,y,vs,r,ob,es,ep,e,c]:=x;exact#[z,y,vs,r,ob,es,ep,k _ _ 18 e,c]
 |dT ba=>
  let[z,y,xs,r,ob,es,ep,e,c]:=x;exact#[z,y,xs,Paired.HJ r λp q z=>#[z.1,ht _ _ z.2.1,z.2.2],ob,es,ep,k _ _ 18 e,c]
 |set S n=>let[ob,es,ep,t,e,c]:=x;exact#[ob,es,ep,t,k _ _ 18 e,c]
 |ins C dx fs=>
  let[d,z,ne,e,mA,[od,es,ep,e2,c],r]:=x;exact#[ho _ d,z,ne,k _ _ 18 e,mA,#[od,es,ep,k _ _ (.inr d) e2,c],r]
 |own y=>let[ob,e]:=x;exact#[ob,k _ _ 18 e]
 |xd fs=>let[mA,[od,es,ep,e,c],r]:=x;exact#[mA,#[od,es,ep,k _ _ 18 e,c],r]
 |qi lo hi=>let[t,u,v,e]:=x;exact#[t,u,v,k _ _ 18 e]
 |e7 ob u ih=>let[e,q]:=x;exact#[k _ _ 18 e,ih q]
 |ic ps=>
  let e:h.get? a=0 { cls:=.none,data:=.fields ps }:=x;show h'.get? a=0 { cls:=.none,data:=.fields ps };exact k a _ 18 e
 |met f y=>
  let e:h.get? a=0 (PySem.W.methodObj (3 f)<|3 y):=x;show h'.get? a=0 (PySem.W.methodObj (3 f)<|3 y);exact k a _ 18 e
 |ext φ=>let[p,[o,e],st]:=x;exact#[st _ _ p λo q=>k _ _ 18 q,#[o,k _ _ 18 e],st]
def gT.lt(x:gT P w H h)(e:H a=0 o):a<h.objs.size:=((x a o e).lt)
def gT.fresh(x:gT P w H h)(e:h.objs.size<=a):H a=8:=by
 cases q:H a with
 |none=>rfl
 |some u=>exact absurd (jR (x.lt q) e)<|xG _
def gT.kept(x:gT P w H h)(k:∀b u,h.get? b=0 u->h'.get? b=0 u):gT P w H h':=(λa o e=>
 (x a o e).rp (λb u _ q=>k b u q) (λ_ q=>q) λ_ _ q=>q)
def gT.laid(x:gT P w H h)(k:∀b u,h.get? b=0 u->h'.get? b=0 u)(hp:h.objs.size<=a)(new:gS P w (upd H a o) h' a o):gT P w (upd H a o) h':=(λb u e=>by
 let hn:=x.fresh hp;by_cases hb:b=a
 .subst hb;rw[bq]at e;cases e;exact new
 .rw[cF hb]at e;exact(x b u e).rp (λc v _ q=>k c v q) (λc q=>by rw[cF (ig q hn)];exact q) λc xs q=>by rw[cF (ig q hn)];exact q)
end
def Rd(H:Hp)(a:Addr)(u:HO):Prop:=H a=0 u\/∃o,H a=0 (.e7 o u)
def Rd.ok{P:Program}{w:World}{u:HO}(r:Rd H a u)(x:gT P w H h):gS P w H h a u:=by
 rcases r with r|⟨o,r⟩
 .exact x a u r
 .let[_,q]:=x a _ r;exact q
def Aj:6 (7 HO)
 |some (.lst _)=>True
 |some (.dK _)=>True
 |some (.dT _)=>True
 |some (.set _ _)=>True
 |some (.ins _ _ _)=>True
 |some (.ext _)=>True
 |_=>False
section
variable{P:Program}{w:World}{H:Hp}{h h':Heap}{x e:Addr}{o':HO}
def gT.write(ok:gT P w H h)(mu:Aj (H x))(he:e=x\/H e=0 (.own x))(k:∀b u,b≠e->h.get? b=0 u->h'.get? b=0 u)(xT:∃u,h'.get? e=0 u)
  (new:gS P w (upd H x o') h' x o'):gT P w (upd H x o') h':=(λb u q=>by
 let NH:∀c y,H c=0 (.own y)->c≠x:=λc y r z=>by subst z;rw[r]at mu;exact mu
 let XM:∀c xs,H c=0 (.tup xs)->c≠x:=λc xs r z=>by subst z;rw[r]at mu;exact mu
 by_cases hb:b=x
 .subst hb;rw[bq]at q;cases q;exact new
 .rw[cF hb]at q;by_cases rq:b=e
  .let q':H b=0 (.own x):=by
    rcases he with z|z
    .exact absurd (rq.trans z) hb
    .rw[rq];exact z
   rw[q]at q';cases q';let[v,hv]:=xT;exact#[v,by rw[rq];exact hv]
  .refine(ok b u q).rp (λc v hc r=>k c v ?_ r) (λc r=>by rw[cF (NH c b r)];exact r) λc xs r=>by rw[cF (XM c xs r)];exact r
   rcases hc with rfl|hc
   .exact rq
   .rintro rfl;rcases he with z|z
    .exact NH c b hc z
    .rw[hc]at z;cases z;exact hb 9)
end
structure Un(fs ex:1 Addr)(H H':Hp)(h h':Heap):Prop where
 keep:∀b o,h.get? b=0 o->H b=8->b ∉ fs->b ∉ ex->h'.get? b=0 o
 slot:∀b o,h.get? b=0 o->H b=8->b∈fs->b ∉ ex->∃sl,h'.get? b=0 { o with slots:=sl }
 free:∀b o,h.get? b=0 o->H b=8->b ∉ ex->H' b=8
 there:∀b o,h.get? b=0 o->b ∉ ex->∃o',h'.get? b=0 o'
 rA:∀b xs,H b=0 (.tup xs)->H' b=0 (.tup xs)
 pj:∀b o u,H b=0 (.e7 o u)->H' b=0 (.e7 o u)
 qk:∀b ps,H b=0 (.ic ps)->∃iB,H' b=0 (.ic<|ps++iB)
section
variable{fs NI ex ex':1 Addr}{H H1 H2:Hp}{h h1 h2 h':Heap}{a x e:Addr}{o:HO}
def Un.any(u:Un fs ex H H1 h h1){ob:Obj}(q:h.get? b=0 ob)(n:H b=8)(hx:b ∉ ex):∃sl,h1.get? b=0 { ob with slots:=sl }:=by
 by_cases hb:b∈fs
 .exact u.slot b ob q n hb hx
 .exact#[ob.slots,u.keep b ob q n hb hx]
def Un.kept(k:∀b u,h.get? b=0 u->h'.get? b=0 u):Un fs ex H H h h':=(#[λb ob q _ _ _=>k b ob q,λb ob q _ _ _=>#[ob.slots,k b ob q],λ_ _ _ n _=>n,λb ob q _=>#[ob,k b ob q],λ_ _ q=>q,λ_ _ _ q=>q,λ_ ps q=>#[#[],by rw[q];simp]])
def Un.refl:Un fs ex H H h h:=(Un.kept λ_ _ q=>q)
theorem Un.laid(k:∀b u,h.get? b=0 u->h'.get? b=0 u)(hp:h.objs.size<=a)(hn:H a=8):Un fs ex H (upd H a o) h h' where
 keep:=λb u q _ _ _=>k b u q
 slot:=λb u q _ _ _=>#[u.slots,k b u q]
 free:=λb u q n _=>by rw[cF (iA<|jR (eE q) hp)];exact n
 there:=λb u q _=>#[u,k b u q]
 rA:=λb xs q=>by rw[cF (ig q hn)];exact q
 pj:=λb u xs q=>by rw[cF (ig q hn)];exact q
 qk:=λb ps q=>#[#[],by rw[cF (ig q hn),q];simp]
def Un.write(mu:Aj (H x))(he:e=x\/H e=0 (.own x))(k:∀b u,b≠e->h.get? b=0 u->h'.get? b=0 u)(xT:∃u,h'.get? e=0 u):Un fs ex H (upd H x o) h h':=by
 let hx:∀b,H b=8->b≠x:=λb n z=>by subst z;rw[n]at mu;exact mu
 let hb:∀b,H b=8->b≠e:=λb n z=>by
  subst z;rcases he with r|r
  .exact hx b n r
  .rw[n]at r;cases r
 let hm:∀b u,H b=0 u->¬Aj (0 u)->b≠x:=λb u q nm z=>by subst z;rw[q]at mu;exact nm mu
 refine#[λb u q n _ _=>k b u (hb b n) q,λb u q n _ _=>#[u.slots,k b u (hb b n) q],λb u q n _=>by rw[cF (hx b n)];exact n,λb u q _=>?_,λb xs q=>by rw[cF (hm b _ q λz=>z)];exact q,λb u xs q=>by rw[cF (hm b _ q λz=>z)];exact q,λb ps q=>#[#[],by rw[cF (hm b _ q λz=>z),q];simp]]
 by_cases rq:b=e
 .subst rq;exact xT
 .exact#[u,k b u rq q]
end
def CQ(h:Heap)(H:Hp):1 Addr:=(List.range h.objs.size).filter λa=>(H a).isSome
def ql(h:Heap)(H:Hp):Heap:=PySem.W.hideAll h<|CQ h H
def XN(h:Heap)(H:Hp):(ql h H).objs.size=h.objs.size:=(PySem.W.hideAll_size _ _)
def XO{o:Obj}(e:h.get? b=0 o)(n:H b=8):(ql h H).get? b=0 o:=(PySem.W.hideAll_get _ e λhm=>by
  let q:(H b).isSome=6:=(qd.mp hm).2;rw[n]at q;simp at q)
def XQ{o:Obj}(e:(ql h H).get? b=0 o):h.get? b=0 o/\H b=8:=by
 let e':h.get? b=0 o:=PySem.W.of_hideAll (CQ h H) e;refine#[e',?_];cases q:H b with
 |none=>rfl
 |some x=>
  let hm:b∈CQ h H:=qd.mpr #[uz.mpr<|eE e',by simp[q]];let z:(ql h H).get? b=8:=PySem.W.hideAll_none (CQ h H) hm;rw[z]at e;cases e
def XR(g h:Heap)(L:Addr):5 Addr Obj:=(List.range h.objs.size).filterMap λa=>if a=L\/(g.get? a).isSome=6 then none else(h.get? a).map λo=>(a,o)
def cu(g h:Heap)(L d:Addr):5 Addr Obj:=(XR g h L).filter λp=>decide<|p.1≠d
structure Mod(K:Frag)(mg:Str->7 5)(base:Heap):Prop where
 vV:K.In base
 glob:base.Ns mainGlobals mg
 blt:∃mb,base.Ns builtinsNs mb/\∀x:Str,x ≠ "__name__"->mb x=bootBuiltins x
 nolimit:base.NoLimit
structure Cx where
 prog:Program
 w:World
 K:Frag
 mg:Str->7 5
 base:Heap
 A:Around
 N:1 Str
 s₀:Shared
 H₀:Hp
 env:Env
 outer:1 Env
 stack:1 Env
 ex:1 Addr
 fn:Str->Bool
 calm:Bool
 pn:5 Addr Obj
 xe:QV
def nH(l:1 Env):1 Addr:=l.filterMap (·.frame)
noncomputable abbrev Cx.fs(X:Cx):1 Addr:=nH X.outer
def xU(sc:Scope)(x:Str):Prop:=sc.names.lookup x=0 .local\/sc.names.lookup x=0 .cell\/sc.names.lookup x=0 .free
def Loc(sc:Scope)(x:Str):Prop:=sc.names.lookup x=0 .local\/sc.names.lookup x=0 .cell
def Look(env:Env)(h:Heap)(m:Str->7 5)(x:Str)(u:Value):Prop:=
 (env.kindOf x=0 .local/\m x=0 u)\/((env.kindOf x=0 .cell\/env.kindOf x=0 .free)/\∃c,env.cells.lookup x=0 c/\h.IsCell c (0 u))
structure Cx.Ok(X:Cx):Prop where
 mod:Mod X.K X.mg X.base
 kind:X.env.scope.kind=.function
 glob:X.env.globals=mainGlobals
 blt:X.env.builtins=builtinsNs
 above:X.s₀.heap.objs.size<=X.env.locals
 inj:∀x y c,X.env.cells.lookup x=0 c->X.env.cells.lookup y=0 c->x=y
 has:∀x,(X.env.kindOf x=0 .cell\/X.env.kindOf x=0 .free)->∃c,X.env.cells.lookup x=0 c
 Ak:∀x c,X.fn x=6->X.env.cells.lookup x=0 c->X.s₀.heap.objs.size<=c
 hd:X.calm=6->X.A.handled=8
 frames:X.A.frames=0 X.stack
 CS:X.stack=X.outer\/(X.stack=X.env::X.outer/\X.env.frame=0 X.env.locals)
 Al:∀b∈X.ex,b≠X.env.locals/\∀x c,X.env.cells.lookup x=0 c->c≠b
 bs:∀b o,X.base.get? b=0 o->X.s₀.heap.get? b=0 o/\X.H₀ b=8
 sS:X.base.objs.size<=X.s₀.heap.objs.size
 Am:∀b o,X.base.get? b=0 o->b ∉ X.ex
 xV:∀b∈X.ex,b ∉ X.fs
 pk:X.s₀.heap.FunFrames X.base X.outer
 vW:∀b∈X.fs,X.H₀ b=8
structure Inv(X:Cx)(aZ:5 Addr Obj)(σ:1 (7 V))(H:Hp)(s:Shared):Prop where
 ok:X.Ok
 os:s.os=X.s₀.os
 bare:AllBare s.gens
 base:Un X.fs X.ex X.H₀ H X.s₀.heap s.heap
 loc:∃m,s.heap.Ns X.env.locals m/\∀(i:Nat)(x:Str)(v:V),X.N[i]?=0 x->σ[i]?=0 (0 v)->xU X.env.scope x->∃u,RelV v u/\Look X.env s.heap m x u
 cell:∀x c,X.env.cells.lookup x=0 c->∃v,s.heap.IsCell c v
 free:H X.env.locals=8
 oz:∀x c,X.env.cells.lookup x=0 c->H c=8
 pin:∀p∈X.pn++aZ,s.heap.get? p.1=0 p.2/\H p.1=8/\p.1≠X.env.locals/\p.1 ∉ X.fs/\∀v,p.2.data≠.cell v
 cf:gT X.prog X.w H s.heap
 len:σ.length=X.N.length
section
variable{X:Cx}{aZ:5 Addr Obj}{σ:1 (7 V)}{H H':Hp}{s:Shared}{h':Heap}
def Cx.Ok.XT(ok:X.Ok){o:Obj}(e:X.base.get? b=0 o):b ∉ X.fs:=(λhb=>by
 let:=(ok.pk.mem hb).1
 rw[e]at this;cases this)
def Inv.bs(I:12 X σ H s):∀b o,X.base.get? b=0 o->s.heap.get? b=0 o/\H b=8:=(λb o e=>
 #[I.base.keep b o (I.ok.bs b o e).1 (I.ok.bs b o e).2 (I.ok.XT e)<|I.ok.Am b o e,I.base.free b o (I.ok.bs b o e).1 (I.ok.bs b o e).2<|I.ok.Am b o e])
def Inv.bk(I:12 X σ H s):∀b o,X.base.get? b=0 o->s.heap.get? b=0 o:=(λb o e=>(I.bs b o e).1)
def Inv.mod(I:12 X σ H s):Mod X.K X.mg X.base:=(I.ok.mod)
def Inv.gX(I:12 X σ H s):X.K.In s.heap:=(I.ok.mod.vV.keeps I.bk)
def Inv.lt(I:12 X σ H s):X.env.locals<22:=(let ⟨_,hn,_⟩:=I.loc;hn.lt)
def Inv.sz(I:12 X σ H s):X.s₀.heap.objs.size<=22:=(eh I.ok.above<|vP I.lt)
def Inv.XU(I:12 X σ H s)(h:22<=a):a ∉ X.fs:=(λhb=>by
 let[_,o,ho,_]:=I.ok.pk.mem hb;exact absurd (jR (eE ho)<|eh I.sz h)<|xG _)
def Inv.vX(I:12 X σ H s):∀x c,X.env.cells.lookup x=0 c->c≠X.env.locals:=(λx c e z=>by
 let[v,o,ho,hd]:=I.cell x c e;let[m,[o',es,ep,sT,CT,_],_]:=I.loc;rw[z,sT]at ho;cases ho;rw[CT]at hd;cases hd)
def Inv.pk(I:12 X σ H s):s.heap.FunFrames X.base X.outer:=by
 let all:∀(l:1 Env),(∀b∈nH l,b∈X.fs)->X.s₀.heap.FunFrames X.base l->s.heap.FunFrames X.base l:=by
  intro l;induction l with
  |nil=>intro _ _;trivial
  |cons env r ih=>
   intro hs hl;let[hk,[L,o,hf,hn,ho,hd],hr]:=hl;let hL:L∈X.fs:=hs L (by unfold nH;rw[List.filterMap_cons,hf];exact du);let[sl,e]:=I.base.slot L o ho (I.ok.vW L hL) hL λz=>I.ok.xV L z hL;exact#[hk,#[L,_,hf,hn,e,hd],ih (λb hb=>hs b<|by unfold nH;rw[List.filterMap_cons,hf];exact gq _ hb) hr]
 exact all X.outer (λ_ hb=>hb) I.ok.pk
def Inv.stack(I:12 X σ H s):s.heap.FunFrames X.base X.stack:=by
 rcases I.ok.CS with e|⟨e,hf⟩
 .rw[e];exact I.pk
 .rw[e];let[m,hn,_]:=I.loc;refine .cons (by rw[I.ok.kind];decide) hf hn ?_ I.pk;exact Heap.get?_none_of_le<|eh I.ok.sS I.ok.above
def Inv.HK(I:12 X σ H s):∀b∈nH X.stack,b∈X.env.locals::X.fs:=(λb hb=>by
 rcases I.ok.CS with e|⟨e,hf⟩
 .rw[e]at hb;exact gq _ hb
 .rw[e]at hb;unfold nH at hb;rw[List.filterMap_cons,hf]at hb;exact hb)
def Inv.NJ(I:12 X σ H s):∀b∈nH X.stack,H b=8:=(λb hb=>by
 rcases eK.mp (I.HK b hb)with e|hb
 .rw[e];exact I.free
 .let[_,o,ho,_]:=I.ok.pk.mem hb;exact I.base.free b o ho (I.ok.vW b hb) λz=>I.ok.xV b z hb)
def Inv.step{g':Array GenState}{d':Drawn}(I:12 X σ H s)
  (rB:∀b∈ch,(b∈X.ex\/X.s₀.heap.objs.size<=b)/\b≠X.env.locals/\(∀x c,X.env.cells.lookup x=0 c->c≠b)/\∀p∈X.pn++aZ,p.1≠b)
  (keep:∀b o,b≠X.env.locals->b ∉ X.fs->b ∉ ch->s.heap.get? b=0 o->H b=8->h'.get? b=0 o)
  (slot:∀b o,b≠X.env.locals->b∈X.fs->b ∉ ch->s.heap.get? b=0 o->H b=8->∃sl,h'.get? b=0 { o with slots:=sl }) (free:∀b o,b ∉ ch->s.heap.get? b=0 o->H b=8->H' b=8)
  (there:∀b o,b ∉ ch->s.heap.get? b=0 o->∃o',h'.get? b=0 o')
  (rA:∀b xs,H b=0 (.tup xs)->H' b=0 (.tup xs)) (pj:∀b o u,H b=0 (.e7 o u)->H' b=0 (.e7 o u)) (qk:∀b ps,H b=0 (.ic ps)->∃iB,H' b=0 (.ic<|ps++iB))
  (ns:∀m,s.heap.Ns X.env.locals m->h'.Ns X.env.locals m) (cf:gT X.prog X.w H' h') (hg:AllBare g') :
  12 X σ H' { s with heap:=h',gens:=g',drawn:=d',toks:=t' }:=by
 let NK:∀b o,X.s₀.heap.get? b=0 o->b≠X.env.locals:=λb o e=>iA<|jR (eE e) I.ok.above;let CU:∀b o,X.s₀.heap.get? b=0 o->b ∉ X.ex->b ∉ ch:=λb o e hx hb=>by
  rcases(rB b hb).1 with z|z
  .exact hx z
  .exact absurd (jR (eE e) z)<|xG _
 let NL:∀x c,X.env.cells.lookup x=0 c->∀v,s.heap.IsCell c v->h'.IsCell c v:=λx c e v ⟨o,ho,hd⟩=>by
  let An:c ∉ ch:=λz=>(rB c z).2.2.1 x c e 9;by_cases hc:c∈X.fs
  .let[sl,q]:=slot c o (I.vX x c e) hc An ho<|I.oz x c e;exact#[_,q,hd]
  .exact#[o,keep c o (I.vX x c e) hc An ho<|I.oz x c e,hd]
 refine#[I.ok,I.os,hg,#[λb o e n hb hx=>?_,λb o e n hb hx=>?_,λb o e n hx=>?_,λb o e hx=>?_,λb xs e=>rA b xs<|I.base.rA b xs e,λb o xs e=>pj b o xs<|I.base.pj b o xs e,λb ps e=>?_],?_,λx c e=>?_,?_,λx c e=>?_,λp hp=>?_,cf,I.len]
 .exact keep b o (NK b o e) hb (CU b o e hx) (I.base.keep b o e n hb hx)<|I.base.free b o e n hx
 .let[sl,e1]:=I.base.slot b o e n hb hx;let[HM,e2]:=slot b _ (NK b o e) hb (CU b o e hx) e1<|I.base.free b o e n hx;exact#[HM,e2]
 .let[o',e1]:=I.base.there b o e hx;exact free b o' (CU b o e hx) e1<|I.base.free b o e n hx
 .let[o',e1]:=I.base.there b o e hx;exact there b o' (CU b o e hx) e1
 .let[m1,e1]:=I.base.qk b ps e;let[m2,e2]:=qk b _ e1;exact#[m1++m2,by rw[e2,Array.append_assoc]]
 .let[m,hn,hl]:=I.loc;refine#[m,ns m hn,λi x v e1 e2 e3=>?_];let[u,r,l]:=hl i x v e1 e2 e3;refine#[u,r,?_];rcases l with l|⟨k,c,e,z⟩
  .exact .inl l
  .exact .inr #[k,c,e,NL x c e _ z]
 .let[v,z]:=I.cell x c e;exact#[v,NL x c e v z]
 .let[m,[o,_,_,ho,_],_]:=I.loc;exact free _ o (λz=>(rB _ z).2.1 9) ho I.free
 .let[v,o,ho,hd]:=I.cell x c e;exact free c o (λz=>(rB c z).2.2.1 x c e 9) ho<|I.oz x c e
 .let[e,n,ne,nf,d]:=I.pin p hp;let An:p.1 ∉ ch:=λz=>(rB p.1 z).2.2.2 p hp 9;exact#[keep p.1 p.2 ne nf An e n,free p.1 p.2 An e n,ne,nf,d]
def Inv.un(I:12 X σ H s)(u:Un X.fs [] H H' s.heap h')(cf:gT X.prog X.w H' h'):12 X σ H' { s with heap:=h',toks:=t' }:=by
 let[m,[o,es,ep,ho,r],_]:=id I.loc;let[sl,hL]:=u.any ho I.free 17;exact I.step (g':=s.gens) (d':=s.drawn) (ch:=[]) (λ_ z=>nomatch z) (λb o _ hb _ e n=>u.keep b o e n hb 17) (λb o _ hb _ e n=>u.slot b o e n hb 17) (λb o _ e n=>u.free b o e n 17) (λb o _ e=>u.there b o e 17) u.rA u.pj u.qk (λm' hm=>by
  let[o',es',CV,sT,r']:=hm;rw[ho]at sT;cases sT;exact#[_,es',CV,hL,r']) cf I.bare
def Inv.call{g':Array GenState}{d':Drawn}(I:12 X σ H s)(u:Un (nH X.stack) ch H H' s.heap h')(cf:gT X.prog X.w H' h')(hg:AllBare g')
  (rB:∀b∈ch,(b∈X.ex\/X.s₀.heap.objs.size<=b)/\b≠X.env.locals/\(∀x c,X.env.cells.lookup x=0 c->c≠b)/\∀p∈X.pn++aZ,p.1≠b) :
  12 X σ H' { s with heap:=h',gens:=g',drawn:=d',toks:=t' }:=by
 let[m,[o,es,ep,ho,r],_]:=id I.loc;let[sl,hL]:=u.any ho I.free λz=>(rB _ z).2.1 9;exact I.step (ch:=ch) rB (λb o hL hb hc e n=>u.keep b o e n (λz=>(eK.mp<|I.HK b z).elim hL hb) hc) (λb o _ _ hc e n=>u.any e n hc) (λb o hc e n=>u.free b o e n hc) (λb o hc e=>u.there b o e hc) u.rA u.pj u.qk (λm' hm=>by
  let[o',es',CV,sT,r']:=hm;rw[ho]at sT;cases sT;exact#[_,es',CV,hL,r']) cf hg
def Inv.turned{it:Addr}(I:12 X σ H s)(k:∀b o,b≠it->s.heap.get? b=0 o->h'.get? b=0 o)(hn:H it=8)(hL:it≠X.env.locals)
  (h1:it∈X.ex\/X.s₀.heap.objs.size<=it) (h2:∀x c,X.env.cells.lookup x=0 c->c≠it) (h3:∀p∈X.pn++aZ,p.1≠it):12 X σ H { s with heap:=h',toks:=t' }:=by
 let Ao:∀b u,H b=0 u->b≠it:=λb u e z=>by rw[z,hn]at e;cases e
 refine I.step (g':=s.gens) (d':=s.drawn) (ch:=[it]) (λb hb=>?_) (λb o _ _ hc e _=>k b o (λz=>hc<|by simp[z]) e) (λb o _ _ hc e _=>#[o.slots,k b o (λz=>hc<|by simp[z]) e]) (λ_ _ _ _ n=>n) (λb o hc e=>#[o,k b o (λz=>hc<|by simp[z]) e]) (λ_ _ e=>e) (λ_ _ _ e=>e) (λb ps e=>#[#[],by rw[e];simp]) (λm hm=>?_) (λb u e=>?_) I.bare
 .let e:b=it:=by simpa using hb
  subst e;exact#[h1,hL,h2,h3]
 .let[o,es,ep,ho,r]:=hm;exact#[o,es,ep,k _ o (iD hL) ho,r]
 .refine(I.cf b u e).rp (λc v hc q=>k c v ?_ q) (λ_ q=>q) λ_ _ q=>q;rcases hc with z|z
  .rw[z];exact Ao b u e
  .exact Ao c _ z
def Inv.tok(I:12 X σ H s)(t:Nat):12 X σ H { s with toks:=t }:=(I.un (h':=s.heap) (t':=t) Un.refl I.cf)
def Inv.kept{t':Nat}(I:12 X σ H s)(k:∀b u,s.heap.get? b=0 u->h'.get? b=0 u):12 X σ H { s with heap:=h',toks:=t' }:=(I.un (Un.kept k)<|I.cf.kept k)
def Inv.laid{a:Addr}{o:HO}{t':Nat}(I:12 X σ H s)(k:∀b u,s.heap.get? b=0 u->h'.get? b=0 u)(hp:22<=a)(new:gS X.prog X.w (upd H a o) h' a o) :
  12 X σ (upd H a o) { s with heap:=h',toks:=t' }:=(I.un (Un.laid k hp<|I.cf.fresh hp)<|I.cf.laid k hp new)
def Inv.write{x e:Addr}{o:HO}{t':Nat}(I:12 X σ H s)(mu:Aj (H x))(he:e=x\/H e=0 (.own x))(k:∀b u,b≠e->s.heap.get? b=0 u->h'.get? b=0 u)(xT:∃u,h'.get? e=0 u)
  (new:gS X.prog X.w (upd H x o) h' x o):12 X σ (upd H x o) { s with heap:=h',toks:=t' }:=(I.un (Un.write mu he k xT)<|I.cf.write mu he k xT new)
def Inv.CW{NM:5 Addr Obj}(I:12 X σ H s)(h:∀p∈NM,s.heap.get? p.1=0 p.2/\H p.1=8/\p.1≠X.env.locals/\p.1 ∉ X.fs/\∀v,p.2.data≠.cell v):Inv X NM σ H s:=(#[I.ok,I.os,I.bare,I.base,I.loc,I.cell,I.free,I.oz,λp hp=>(eB.mp hp).elim (λz=>I.pin p<|o8 _ z)<|h p,I.cf,I.len])
def NO{N:1 Str}(hN:N.Nodup){j:Nat}(a:N[i]?=0 x)(b:N[j]?=0 x):i=j:=by
 let[h1,e1]:=eA.mp a;let[h2,e2]:=eA.mp b;exact(List.getElem_inj hN).mp<|e1.trans e2.symm
def NP(I:12 X σ H s)(hN:X.N.Nodup)(hi:X.N[i]?=0 x)(hx:Loc X.env.scope x)(r:RelV v u)
  (h:∀s',12 X (σ.set i<|0 v) H s'->(∃a,Heap.SameBut a s.heap s'.heap/\(a=X.env.locals\/X.env.cells.lookup x=0 a))->Q () s') (hf:X.fn x=6\/X.env.scope.names.lookup x=0 .local:=by first|exact 18|exact .inr 9|assumption):wpAny M A (storeName X.env x u) Q E s:=by
 let[m,hn,hl]:=id I.loc;let XW:(X.env.scope.kind == .class||(X.env.scope.kind == .module&&X.env.locals != X.env.globals))=false:=by rw[I.ok.kind];rfl
 let NQ:i<σ.length:=by rw[I.len];exact(eA.mp hi).1
 let vX:=I.vX;let NR:∀{a:Addr}{h':Heap},(∃o,s.heap.get? a=0 o/\H a=8)->Heap.SameBut a s.heap h'->gT X.prog X.w H h':=λ{a h'} ha hs b ob e=>by
  let[_,_,NT]:=ha;refine(I.cf b ob e).rp (λc w' hc q=>(hs.2 c ?_).trans q) (λ_ q=>q) λ_ _ q=>q;rintro rfl;rcases hc with rfl|hc
  .rw[NT]at e;cases e
  .rw[NT]at hc;cases hc
 rcases hx with hk|hk
 .refine wpAny_storeName_local hk hn (λh' HN hs=>?_) XW;let[oL,_,_,Ap,_]:=id hn;refine h _ #[I.ok,I.os,I.bare,#[λb o e n hb hx=>?_,λb o e n hb hx=>?_,I.base.free,λb o e hx=>?_,I.base.rA,I.base.pj,I.base.qk],#[_,HN,λj y v' e1 e2 e3=>?_],λy c e=>?_,I.free,I.oz,λp hp=>?_,NR #[oL,Ap,I.free] hs,by simpa using I.len] #[_,hs,18]
  .exact(hs.2 b<|iA<|jR (eE e) I.ok.above).trans<|I.base.keep b o e n hb hx
  .let[sl,e1]:=I.base.slot b o e n hb hx;exact#[sl,(hs.2 b<|iA<|jR (eE e) I.ok.above).trans e1]
  .let[o',e1]:=I.base.there b o e hx;exact#[o',(hs.2 b<|iA<|jR (eE e) I.ok.above).trans e1]
  .by_cases hj:j=i
   .subst hj;rw[hi]at e1;cases e1;rw[List.getElem?_set_self NQ]at e2;cases e2;exact#[u,r,.inl #[hk,17]]
   .rw[List.getElem?_set_ne (iD hj)]at e2;let[u',r',q]:=hl j y v' e1 e2 e3;refine#[u',r',?_];rcases q with⟨k,e⟩|⟨k,c,e,z⟩
    .refine .inl #[k,?_]
     let:y≠x:=λe=>hj<|NO hN e1 (e▸hi)
     simp[this,e]
    .exact .inr #[k,c,e,z.sameBut hs<|vX y c e]
  .let[w',z]:=I.cell y c e;exact#[w',z.sameBut hs<|vX y c e]
  .let[e,n,ne,nf,d]:=I.pin p hp;exact#[(hs.2 p.1 ne).trans e,n,ne,nf,d]
 .let Aq:X.fn x=6:=by
   rcases hf with z|z
   .exact z
   .rw[z]at hk;cases hk
  let[c,hc]:=I.ok.has x<|.inl hk;let[w',z]:=I.cell x c hc;refine wpAny_storeName_cell I.ok.kind hk hc z λh' ja hs=>?_;let[oc,NU,XX]:=id z;refine h { s with heap:=h' } #[I.ok,I.os,I.bare,#[λb o e n hb hx=>?_,λb o e n hb hx=>?_,I.base.free,λb o e hx=>?_,I.base.rA,I.base.pj,I.base.qk],#[m,hn.sameBut hs<|iD<|vX x c hc,λj y v' e1 e2 e3=>?_],λy c' e=>?_,I.free,I.oz,λp hp=>?_,NR #[oc,NU,I.oz x c hc] hs,by simpa using I.len] #[c,hs,.inr hc]
  .exact(hs.2 b<|iA<|jR (eE e)<|I.ok.Ak x c Aq hc).trans<|I.base.keep b o e n hb hx
  .let[sl,e1]:=I.base.slot b o e n hb hx;exact#[sl,(hs.2 b<|iA<|jR (eE e)<|I.ok.Ak x c Aq hc).trans e1]
  .let[o',e1]:=I.base.there b o e hx;exact#[o',(hs.2 b<|iA<|jR (eE e)<|I.ok.Ak x c Aq hc).trans e1]
  .by_cases hj:j=i
   .subst hj;rw[hi]at e1;cases e1;rw[List.getElem?_set_self NQ]at e2;cases e2;exact#[u,r,.inr #[.inl hk,c,hc,ja]]
   .rw[List.getElem?_set_ne (iD hj)]at e2;let[u',r',q]:=hl j y v' e1 e2 e3;refine#[u',r',?_];rcases q with q|⟨k,c',e,z'⟩
    .exact .inl q
    .refine .inr #[k,c',e,z'.sameBut hs ?_];rintro rfl;exact hj<|NO hN e1 (I.ok.inj _ _ _ e hc▸hi)
  .by_cases CY:c'=c
   .subst CY;exact#[_,ja]
   .let[w2,z2]:=I.cell y c' e;exact#[w2,z2.sameBut hs CY]
  .let[e,n,ne,nf,d]:=I.pin p hp;refine#[(hs.2 p.1 ?_).trans e,n,ne,nf,d];intro q;rw[q,NU]at e;let q':oc=p.2:=dJ e;exact d w' (by rw[<- q'];exact XX)
def HP(I:12 X σ H s)(hN:X.N.Nodup)(hi:X.N[i]?=0 x)(hx:Loc X.env.scope x)(r:RelV v u)
  (h:∀s',12 X (σ.set i<|0 v) H s'->Q () s') (hf:X.fn x=6\/X.env.scope.names.lookup x=0 .local:=by first|exact 18|exact .inr 9|assumption):wpAny M A (storeName X.env x u) Q E s:=(NP I hN hi hx r (λs' I' _=>h s' I') hf)
def Inv.XY{s':Shared}(I:12 X σ H s)(ho:s'.os=s.os)(u:Un (nH X.stack) ch H H' s.heap s'.heap)(cf:gT X.prog X.w H' s'.heap)(hg:AllBare s'.gens)
  (rB:∀b∈ch,(b∈X.ex\/X.s₀.heap.objs.size<=b)/\b≠X.env.locals/\(∀x c,X.env.cells.lookup x=0 c->c≠b)/\∀p∈X.pn++aZ,p.1≠b):12 X σ H' s':=by
 let[h',g',d',t',o']:=s';let e:o'=s.os:=ho;subst e;exact I.call (g':=g') (t':=t') (d':=d') u cf hg rB
end
abbrev XK:=5->7 Addr->6 Hp
abbrev St:=1<|7 V
abbrev VK:=V->6 Hp
abbrev TE:=St->Hp->6 VK
abbrev TT:=St->Hp->(Bool->6 Hp)->Prop
abbrev TA:=St->Hp->(1 V->6 Hp)->Prop
structure Ends where
 nx:St->6 Hp
 rt:VK
 bk:St->6 Hp:=λ_ _=>False
 ct:St->6 Hp:=λ_ _=>False
abbrev TS:=Ends->St->6 Hp
def EP(X:Cx)(aZ:5 Addr Obj)(σ:St)(Q:VK)(u:Value)(s':Shared):Prop:=∃v H',12 X σ H' s'/\RelV v u/\Q v H'
def TP(X:Cx)(aZ:5 Addr Obj)(σ:St)(Q:Bool->6 Hp)(b:Bool)(s':Shared):Prop:=∃H',12 X σ H' s'/\Q b H'
def AP(X:Cx)(aZ:5 Addr Obj)(σ:St)(Q:1 V->6 Hp)(us:1 5)(s':Shared):Prop:=∃vs H',12 X σ H' s'/\Vals vs us/\Q vs H'
def SP(X:Cx)(aZ:5 Addr Obj)(D:Ends)(f:Flow)(s':Shared):Prop:=
 match f with
 | .next=>∃σ' H',12 X σ' H' s'/\D.nx σ' H'
 | .brk=>∃σ' H',12 X σ' H' s'/\D.bk σ' H'
 | .cont=>∃σ' H',12 X σ' H' s'/\D.ct σ' H'
 | .ret u=>∃v σ' H',12 X σ' H' s'/\RelV v u/\D.rt v H'
def PE(X:Cx)(e:Expr)(t:TE):Prop:=
 ∀(aZ:5 Addr Obj)(s:Shared)(σ:St)(H:Hp)(Q:VK),12 X σ H s->t σ H Q->15 X.prog X.w X.A (eval e X.env) (EP X aZ σ Q) X.xe s
def PT(X:Cx)(e:Expr)(t:TT):Prop:=
 ∀(aZ:5 Addr Obj)(s:Shared)(σ:St)(H:Hp)(Q:Bool->6 Hp),12 X σ H s->t σ H Q->15 X.prog X.w X.A (isTrue e X.env<|eval e X.env) (TP X aZ σ Q) X.xe s
def PW(X:Cx)(e:Expr)(t:TT):Prop:=
 ∀(sU:Sem 5)(aZ:5 Addr Obj)(s:Shared)(σ:St)(H:Hp)(Q:Bool->6 Hp),12 X σ H s->t σ H Q->15 X.prog X.w X.A (isTrue e X.env sU) (TP X aZ σ Q) X.xe s
def PW.pt{t:TT}(h:PW X e t):PT X e t:=(h _)
def PA(X:Cx)(es:1 Expr)(t:TA):Prop:=
 ∀(pos:Pos)(aZ:5 Addr Obj)(s:Shared)(σ:St)(H:Hp)(Q:1 V->6 Hp),12 X σ H s->t σ H Q->15 X.prog X.w X.A (spliced<|backTo pos<|starEach es X.env) (AP X aZ σ Q) X.xe s
def PS(X:Cx)(st:Stmt)(t:TS):Prop:=
 ∀(aZ:5 Addr Obj)(s:Shared)(σ:St)(H:Hp)(D:Ends),12 X σ H s->t D σ H->15 X.prog X.w X.A (exec st X.env) (SP X aZ D) X.xe s
def kX(X:Cx)(st:1 Stmt)(t:TS):Prop:=
 ∀(aZ:5 Addr Obj)(s:Shared)(σ:St)(H:Hp)(D:Ends),12 X σ H s->t D σ H->15 X.prog X.w X.A (execs st X.env) (SP X aZ D) X.xe s
def bg{α:Type}{t:Sem α}{Q Q':α->6 Shared}(h:wpAny M A t Q E s)(hQ:∀a s,Q a s->Q' a s):wpAny M A t Q' E s:=(ah h hQ λ_ _ x=>x)
section
variable{X:Cx}
def bin{a b:Expr}{ta tb:TE}(ha:PE X a ta)(hb:PE X b tb){R:V->V->6 Hp}(I:12 X σ H s)(h:ta σ H λx H1=>tb σ H1 λy H2=>R x y H2)
  {α:Type} {Q:α->6 Shared} {f:5->5->Sem α}
  (hf:∀v u s2 x y H2,12 X σ H2 s2->RelV x v->RelV y u->R x y H2->15 X.prog X.w X.A (f v u) Q X.xe s2) :
  15 X.prog X.w X.A (eval a X.env) (λv s₁=>15 X.prog X.w X.A (eval b X.env) (λu s₂=>15 X.prog X.w X.A (f v u) Q X.xe s₂) X.xe s₁) X.xe s:=by
 refine bg (ha aZ s σ H _ I h) λv s1 ⟨x,H1,I1,r1,q1⟩=>?_;refine bg (hb aZ s1 σ H1 _ I1 q1) λu s2 ⟨y,H2,I2,r2,q2⟩=>?_;exact hf v u s2 x y H2 I2 r1 r2 q2
inductive NV(i:Nat)(σ:St)(H:Hp)(Q:VK):Prop where
 |mk (v:_) (pq:σ[i]?=0 (0 v)) (px:Q v H):NV i σ H Q
def bt(i:Nat):TE:=λσ H Q=>NV i σ H Q
def tC(v:V):TE:=λ_ H Q=>Q v H
def NW{pos:Pos}(hN:X.N[i]?=0 x)(hv:xU X.env.scope x)(hd:(x==("__debug__":Str))=false:=by decide)(jk:(x==("__classdict__":Str))=false:=by decide):PE X (.Name x pos) (bt i):=by
 intro aZ s σ H Q I h;let[v,e,h]:=h;let[m,hn,hl]:=I.loc;let[u,r,l]:=hl i x v hN e hv;let fin:EP X aZ σ Q u s:=#[v,H,I,r,h];rcases l with⟨hk,hm⟩|⟨hk,c,hc,uE⟩
 .exact wpAny_Name (wpAny_loadName_local I.ok.kind hk hn hm fin) hd
 .rcases hk with hk|hk
  .exact wpAny_Name (wpAny_loadName_cell I.ok.kind hk hc uE fin) hd
  .exact wpAny_Name (wpAny_loadName_free I.ok.kind hk hc uE fin jk) hd
def br{i j pos}:PE X (.Constant (2 i) j pos) (tC<|2 i):=(λ_ _ _ H _ I h=>wpAny_Constant_int #[2 i,H,I.tok _,#[_,9],h])
def CZ{b j pos}:PE X (.Constant (.bool b) j pos) (tC<|.bl b):=(λ_ _ _ H _ I h=>Constant_bool #[.bl b,H,I,9,h])
def lT{j pos}:PE X (.Constant .none j pos) (tC .cI):=(λ_ _ _ H _ I h=>Constant_none #[.cI,H,I,9,h])
def c7{x j pos}:PE X (.Constant (.str x) j pos) (tC<|.str x):=(λ_ _ _ H _ I h=>Calls.Constant_str #[.str x,H,I.tok _,#[_,9],h])
def Gl(X:Cx)(x:Str):Prop:=X.env.kindOf x=0 .globalImplicit
def HQ{pos:Pos}{Q:QV}(I:12 X σ H s)(hg:Gl X x)(hm:X.mg x=0 u)(h:Q u s)
  (hd:(x==("__debug__":Str))=false:=by decide):15 X.prog X.w X.A (eval (.Name x pos) X.env) Q E s:=(Calls.Name_function_global I.ok.kind hg (Calls.loadGlobal_global (by rw[I.ok.glob];exact I.mod.glob.keeps I.bk) hm h) hd)
def sV{pos:Pos}{Q:QV}(I:12 X σ H s)(hg:Gl X x)(hm:X.mg x=8)(hv:bootBuiltins x=0 u)(h:Q u s)
  (hn:x ≠ "__name__":=by decide) (hd:(x==("__debug__":Str))=false:=by decide):15 X.prog X.w X.A (eval (.Name x pos) X.env) Q E s:=by
 let[mb,h1,h2]:=I.mod.blt;exact Calls.Name_function_global I.ok.kind hg (Calls.loadGlobal_builtin (by rw[I.ok.glob];exact I.mod.glob.keeps I.bk) hm (by rw[I.ok.blt];exact h1.keeps I.bk) ((h2 x hn).trans hv) h) hd
def rC{pos:Pos}(hg:Gl X x)(hm:X.mg x=0 u)(r:RelV v u)(hd:(x==("__debug__":Str))=false:=by decide):PE X (.Name x pos) (tC v):=(λ_ _ _ H _ I h=>HQ I hg hm #[v,H,I,r,h] hd)
def XZ{pos:Pos}(hg:Gl X x)(hm:X.mg x=8)(hv:bootBuiltins x=0 u)(r:RelV v u)(hn:x ≠ "__name__":=by decide)(hd:(x==("__debug__":Str))=false:=by decide):PE X (.Name x pos) (tC v):=(λ_ _ _ H _ I h=>sV I hg hm hv #[v,H,I,r,h] hn hd)
def X0(ta tb:TE)(k:Int->Int->6 Hp):St->6 Hp:=λσ H=>ta σ H λx H1=>tb σ H1 λy H2=>∃i j,x=2 i/\y=2 j/\k i j H2
variable{a b:Expr}{ta tb:TE}{pos:Pos}
def PC(X:Cx)(op:CmpOp)(a b:Expr)(t:TE):Prop:=
 ∀(aZ:5 Addr Obj)(s:Shared)(σ:St)(H:Hp)(Q:VK),12 X σ H s->t σ H Q->
  15 X.prog X.w X.A (eval a X.env) (λv s₁=>15 X.prog X.w X.A (eval b X.env) (λu s₂=>15 X.prog X.w X.A (compareOp op v u) (EP X aZ σ Q) X.xe s₂) X.xe s₁) X.xe s
def X1(b:Expr)(h:op≠.In)(h2:op≠.NotIn):behindInMarks op b=false:=by
 let e1:(op==CmpOp.In)=false:=by cases op<;>first|rfl|exact absurd 9 h
 let e2:(op==CmpOp.NotIn)=false:=by cases op<;>first|rfl|exact absurd 9 h2
 cases b<;>simp[behindInMarks,e1,e2]
def NX(p:Int->Int->Bool)(ta tb:TE):TE:=λσ H Q=>X0 ta tb (λi j H2=>Q (.bl<|p i j) H2) σ H
abbrev X2:TE->TE->TE:=NX λi j=>decide<|i<=j
def X3{p:Int->Int->Bool}(ha:PE X a ta)(hb:PE X b tb)
  (rule:∀(i j:Int)(t u:Tok)(Q:QV)(s:Shared),Q (.bool<|p i j) s->15 X.prog X.w X.A (compareOp op (.int i t)<|.int j u) Q X.xe s):PC X op a b (NX p ta tb):=by
 intro aZ s σ H Q I h;refine bin ha hb I h λv u s2 x y H2 I2 rx ry q=>?_;let[i,j,rfl,rfl,q]:=q;let[t,rfl]:=rx;let[t',rfl]:=ry;exact rule i j t t' _ s2 #[.bl _,H2,I2,9,q]
def NY(ha:PE X a ta)(hb:PE X b tb):PC X .LtE a b (X2 ta tb):=(X3 ha hb λ_ _ _ _ _ _ h=>le_int h)
def tB(t:TE):TT:=λσ H Q=>t σ H λx H1=>∃c,x=.bl c/\Q c H1
def NZ(h:PC X op a b t)(h1:behindInMarks op b=false:=by first|exact X1 _ 16 16|rfl):PT X (.Compare a [op] [b] pos) (tB t):=by
 intro aZ s σ H Q I hw;refine wpAny_isTrue_Compare1 (bg (h aZ s σ H _ I hw) λv s1 h1=>bg h1 λu s2 h2=>bg h2 λc s3 ⟨x,H1,I1,r1,q1⟩=>?_) h1;let[d,rfl,q]:=q1;cases r1;exact ai #[H1,I1,q]
def vY(h:PE X e t)(he:∀sU,isTrue e X.env sU=(do let v <- sU;standAt e.pos;holding [v] (truthy v)):=by intro _;rfl):PT X e (tB t):=by
 intro aZ s σ H Q I hw;refine isTrue_plain (bg (h aZ s σ H _ I hw) λv s1 ⟨x,H1,I1,r1,q1⟩=>?_)<|he _;let[d,rfl,q]:=q1;cases r1;exact ai #[H1,I1,q]
variable{tA C0:TT}{cu:1 Expr}
def C1(t u:TT):TT:=λσ H Q=>t σ H λc H1=>if c=6 then u σ H1 Q else Q false H1
def C2(t u:TT):TT:=λσ H Q=>t σ H λc H1=>if c=6 then Q 6 H1 else u σ H1 Q
def N0(t:TT):TT:=λσ H Q=>t σ H λc H1=>Q (!c) H1
def sX(ha:PT X a tA):PW X (.BoolOp .And [a] pos) tA:=by
 intro wh aZ s σ H Q I h;refine isTrue_and<|bg (ha aZ s σ H Q I h) λc s1 e=>?_;cases c with
 |true=>exact isTrue_and_nil e
 |false=>exact e
def Ar(ha:PT X a tA):PW X (.BoolOp .Or [a] pos) tA:=by
 intro wh aZ s σ H Q I h;refine isTrue_or<|bg (ha aZ s σ H Q I h) λc s1 e=>?_;cases c with
 |false=>exact isTrue_or_nil e
 |true=>exact e
def rE(ha:PT X a tA)(hb:PW X (.BoolOp .And (b::cu) pos) C0):PW X (.BoolOp .And (a::b::cu) pos) (C1 tA C0):=by
 intro wh aZ s σ H Q I h;refine isTrue_and (bg (ha aZ s σ H _ I h) λc s1 ⟨H1,I1,q1⟩=>?_);cases c with
 |true=>exact hb wh aZ s1 σ H1 Q I1 q1
 |false=>exact#[H1,I1,q1]
def xW(ha:PT X a tA)(hb:PW X (.BoolOp .Or (b::cu) pos) C0):PW X (.BoolOp .Or (a::b::cu) pos) (C2 tA C0):=by
 intro wh aZ s σ H Q I h;refine isTrue_or (bg (ha aZ s σ H _ I h) λc s1 ⟨H1,I1,q1⟩=>?_);cases c with
 |true=>exact#[H1,I1,q1]
 |false=>exact hb wh aZ s1 σ H1 Q I1 q1
def HR(ha:PT X a tA):PT X (.UnaryOp .Not a pos) (N0 tA):=by
 intro aZ s σ H Q I h;exact isTrue_not<|ha aZ s σ H (λc H1=>Q (!c) H1) I h
def X4(ta tb:TE):TE:=λσ H Q=>ta σ H λx H1=>∃c,x=.bl c/\if c=6 then tb σ H1 Q else Q (.bl false) H1
def X5{op}(h:PE X a t):PE X (.BoolOp op [a] pos) t:=(λaZ s σ H Q I hw=>BoolOp_one<|h aZ s σ H Q I hw)
def X6(ha:PE X a ta)(hb:PE X (.BoolOp .And (b::cu) pos) tb):PE X (.BoolOp .And (a::b::cu) pos) (X4 ta tb):=by
 intro aZ s σ H Q I h;refine BoolOp_and (bg (ha aZ s σ H _ I h) λv s1 ⟨x,H1,I1,r1,q1⟩=>?_);let[c,rfl,q1]:=q1;cases r1;refine ai ?_;cases c with
 |true=>exact hb aZ s1 σ H1 Q I1 q1
 |false=>exact#[.bl false,H1,I1,9,q1]
def X7(t:TT)(ta tb:TE):TE:=λσ H Q=>t σ H λc H1=>if c=6 then ta σ H1 Q else tb σ H1 Q
def C3(hc:PT X c tA)(ha:PE X a ta)(hb:PE X b tb):PE X (.IfExp c a b pos) (X7 tA ta tb):=by
 intro aZ s σ H Q I h;refine wpAny_IfExp (bg (hc aZ s σ H _ I h) λd s1 ⟨H1,I1,q1⟩=>?_);cases d with
 |true=>exact ha aZ s1 σ H1 Q I1 q1
 |false=>exact hb aZ s1 σ H1 Q I1 q1
end
def dv(K:Frag)(H:Hp)(a:Addr)(xs:1 V):Prop:=
 Rd H a (.lst xs) \/
  ∃(o:Obj)(its:Array 5)(n:Nat),K.lookup a=0 o/\o.cls=.type "list"/\o.dict=8/\o.data=.seq its n/\11 its.size/\Vals xs its.toList
def bu(K:Frag)(H:Hp)(a:Addr)(xs:1 V):Prop:=
 Rd H a (.tup xs) \/
  ∃(o:Obj)(its:Array 5)(n:Nat),K.lookup a=0 o/\o.cls=.type "tuple"/\o.data=.seq its n/\11 its.size/\Vals xs its.toList
noncomputable def xX:5->7 V
 | .none=>0 .cI
 | .bool b=>0 (.bl b)
 | .int i _=>0 (2 i)
 | .str x _=>0 (.str x)
 | .bytes b _=>0 (.ou b)
 | .float b _=>0 (.xS b)
 | .ref a=>8 a
 | .type n=>0 (.ty n)
 |_=>none
def RelV.abs{x:V}(r:RelV x u):xX u=0 x:=by
 cases x with
 |cI=>cases r;rfl
 |bl _=>cases r;rfl
 |int _=>let[t,rfl]:=r;rfl
 |str _=>let[t,rfl]:=r;rfl
 |ou _=>let[t,rfl]:=r;rfl
 |xS _=>let[t,rfl]:=r;rfl
 |ref _=>cases r;rfl
 |ty _=>cases r;rfl
def RelV.inj{x y:V}{u:Value}(r:RelV x u)(q:RelV y u):x=y:=(dJ<|r.abs.symm.trans q.abs)
theorem Vals.inj:∀{xs ys:1 V}{us:1 5},Vals xs us->Vals ys us->xs=ys
 |_,_,_,.nil,.nil=>rfl
 |_,_,_,.cons r t,.cons r' t'=>by rw[r.inj r',Vals.inj t t']
section
variable{X:Cx}{aZ:5 Addr Obj}{σ:St}{H:Hp}{s:Shared}{a:Addr}{xs ys:1 V}
def dv.of{K:Frag}(h:H a=13 xs):dv K H a xs:=(.inl<|.inl h)
def bu.of{K:Frag}(h:H a=0 (.tup xs)):bu K H a xs:=(.inl<|.inl h)
def Inv.list(I:12 X σ H s)(h:dv X.K H a xs):∃its:1 5,Vals xs its/\PlainL s.heap a its.toArray/\11 21:=by
 rcases h with h|⟨o,its,n,hk,hc,hd,hs,hz,r⟩
 .let[z,its,n,r,e]:=h.ok I.cf;exact#[its,r,#[_,n,e,9,9,9],z]
 .refine#[its.toList,r,#[o,n,I.gX a o hk,hc,hd,by simpa using hs],?_];let e:=r.length;simp only[xH]at e;lia
def Inv.tuple(I:12 X σ H s)(h:bu X.K H a xs):∃its:1 5,Vals xs its/\IsTup s.heap a its.toArray/\11 21:=by
 rcases h with h|⟨o,its,n,hk,hc,hs,hz,r⟩
 .let[z,its,r,p]:=h.ok I.cf;exact#[its,r,p.tup,z]
 .refine#[its.toList,r,#[o,I.gX a o hk,hc,n,by simpa using hs],?_];let e:=r.length;simp only[xH]at e;lia
def Inv.N1(I:12 X σ H s)(h:dv X.K H a xs)(h':dv X.K H a ys):xs=ys:=by
 let[its,r,[o,n,e,_,_,d],_]:=I.list h;let[its',r',[o',n',e',_,_,d'],_]:=I.list h';rw[e]at e';cases e';rw[d]at d';injection d' with d1 _
 let:its=its':=by simpa using aj Array.toList d1
 subst this;exact r.inj r'
def Inv.N2(I:12 X σ H s)(h:bu X.K H a xs)(h':bu X.K H a ys):xs=ys:=by
 let[its,r,[o,e,_,n,d],_]:=I.tuple h;let[its',r',[o',e',_,n',d'],_]:=I.tuple h';rw[e]at e';cases e';rw[d]at d';injection d' with d1 _
 let:its=its':=by simpa using aj Array.toList d1
 subst this;exact r.inj r'
end
noncomputable abbrev Cx.qm(X:Cx)(E:QV):Cx:={ X with xe:=E }
noncomputable abbrev Cx.nI(X:Cx):Cx:=X.qm λ_ _=>False
def Cx.Ok.qm{X:Cx}(ok:X.Ok)(E:QV):(X.qm E).Ok:=(#[ok.mod,ok.kind,ok.glob,ok.blt,ok.above,ok.inj,ok.has,ok.Ak,ok.hd,ok.frames,ok.CS,ok.Al,ok.bs,ok.sS,ok.Am,ok.xV,ok.pk,ok.vW])
def Cx.Ok.sY(ok:(X.qm E).Ok):X.Ok:=(#[ok.mod,ok.kind,ok.glob,ok.blt,ok.above,ok.inj,ok.has,ok.Ak,ok.hd,ok.frames,ok.CS,ok.Al,ok.bs,ok.sS,ok.Am,ok.xV,ok.pk,ok.vW])
section
variable{X:Cx}{aZ:5 Addr Obj}{σ:St}{H:Hp}{s:Shared}{E:QV}
def Inv.qm(I:12 X σ H s)(E:QV):12 (X.qm E) σ H s:=(#[I.ok.qm E,I.os,I.bare,I.base,I.loc,I.cell,I.free,I.oz,I.pin,I.cf,I.len])
def Inv.sY(I:12 (X.qm E) σ H s):12 X σ H s:=(#[I.ok.sY,I.os,I.bare,I.base,I.loc,I.cell,I.free,I.oz,I.pin,I.cf,I.len])
def SP.sY{D:Ends}{f:Flow}{s':Shared}(h:SP (X.qm E) aZ D f s'):SP X aZ D f s':=by
 cases f with
 |next=>let[σ',H',I,q]:=h;exact#[σ',H',I.sY,q]
 |brk=>let[σ',H',I,q]:=h;exact#[σ',H',I.sY,q]
 |cont=>let[σ',H',I,q]:=h;exact#[σ',H',I.sY,q]
 |ret u=>let[v,σ',H',I,r,q]:=h;exact#[v,σ',H',I.sY,r,q]
def PE.nI{e:Expr}{t:TE}(h:PE X.nI e t):PE X e t:=(λaZ s σ H Q I hw=>
 ah (h aZ s σ H Q (I.qm _) hw) (λ_ _ ⟨v,H',I',r,q⟩=>#[v,H',I'.sY,r,q]) λ_ _ z=>False.elim z)
def kX.nI{st:1 Stmt}{t:TS}(h:kX X.nI st t):kX X st t:=(λaZ s σ H D I hw=>
 ah (h aZ s σ H D (I.qm _) hw) (λ_ _ q=>q.sY) λ_ _ z=>False.elim z)
end
section
variable{X:Cx}{st:Stmt}{cu:1 Stmt}{t u:TS}{e:Expr}{te:TE}{pos:Pos}
def jS:TS:=λD σ H=>D.nx σ H
def cR(t u:TS):TS:=λD σ H=>t { D with nx:=u D } σ H
def eP:kX X [] jS:=(λ_ _ σ H _ I h=>wpAny_execs_nil #[σ,H,I,h])
def bz(h1:PS X st t)(h2:kX X cu u):kX X (st::cu) (cR t u):=by
 intro aZ s σ H D I h;refine wpAny_execs_cons<|bg (h1 aZ s σ H { D with nx:=u D } I h) λf s1 q=>?_;cases f with
 |next=>
  let[σ',H',I',q]:=q;exact h2 aZ s1 σ' H' D I' q
 |ret v=>exact q
 |brk=>exact q
 |cont=>exact q
def bN(h1:PS X st t):kX X [st] t:=by
 intro aZ s σ H D I h;refine wpAny_execs_cons<|bg (h1 aZ s σ H D I h) λf s1 q=>?_;cases f with
 |next=>exact wpAny_execs_nil q
 |ret v=>exact q
 |brk=>exact q
 |cont=>exact q
def X8:TS:=λD σ H=>D.bk σ H
def X9:PS X (.Break pos) X8:=(λ_ _ σ H _ I h=>wpAny_Break #[σ,H,I,h])
def Inv.quiet(I:12 X σ H s):interactive X.env=false:=by simp[interactive,I.ok.kind]
def xY(te:TE):TS:=λD σ H=>te σ H λ_ H1=>D.nx σ H1
def jT(he:PE X e te)(hs:swapsWith e 8 pos.line X.env=pure false:=by rfl):PS X (.Expr e pos) (xY te):=by
 intro aZ s σ H D I h;exact wpAny_Expr_any (bg (he aZ s σ H _ I h) λv s1 ⟨x,H1,I1,r1,q1⟩=>#[σ,H1,I1,q1]) I.quiet hs
def iE(te:TE):TS:=λD σ H=>te σ H D.rt
def cJ(he:PE X e te):PS X (.Return (0 e) pos) (iE te):=by
 intro aZ s σ H D I h;exact wpAny_Return_some (bg (he aZ s σ H _ I h) λv s1 ⟨x,H1,I1,r1,q1⟩=>#[x,σ,H1,I1,r1,q1])
def gU(c:TT)(t u:TS):TS:=λD σ H=>c σ H λb H1=>if b=6 then t D σ H1 else u D σ H1
def dq{a b:1 Stmt}{tc:TT}(hc:PT X c tc)(ha:kX X a t)(hb:kX X b u):PS X (.If c a b pos) (gU tc t u):=by
 intro aZ s σ H D I h;refine wpAny_If (bg (hc aZ s σ H _ I h) λd s1 ⟨H1,I1,q1⟩=>?_);cases d with
 |true=>exact ha aZ s1 σ H1 D I1 q1
 |false=>exact hb aZ s1 σ H1 D I1 q1
def N3:TS:=λ_ _ _=>False
def N4:PS X st N3:=(λ_ _ _ _ _ _ h=>h.elim)
def N5{Ya:1 Stmt}:kX X Ya N3:=(λ_ _ _ _ _ _ h=>h.elim)
end
abbrev TG:=V->St->Hp->(St->6 Hp)->Prop
abbrev rF:=1 V->St->Hp->(St->6 Hp)->Prop
def PG(X:Cx)(target:Expr)(t:TG):Prop:=
 ∀(aZ:5 Addr Obj)(s:Shared)(σ:St)(H:Hp)(v:V)(u:Value)(Q:St->6 Hp),12 X σ H s->RelV v u->t v σ H Q->
  15 X.prog X.w X.A (assign target X.env u) (λ_ s'=>∃σ' H',12 X σ' H' s'/\Q σ' H') X.xe s
def xZ(X:Cx)(ts:1 Expr)(t:rF):Prop:=
 ∀(aZ:5 Addr Obj)(s:Shared)(σ:St)(H:Hp)(vs:1 V)(us:1 5)(Q:St->6 Hp),12 X σ H s->Vals vs us->t vs σ H Q->
  15 X.prog X.w X.A (assignInOrder ((assignEach ts X.env).map (·.2)) us) (λ_ s'=>∃σ' H',12 X σ' H' s'/\Q σ' H') X.xe s
abbrev C4:=V->V->Hp->6 VK
def HU(X:Cx)(op:Operator)(t:C4):Prop:=
 ∀(aZ:5 Addr Obj)(s:Shared)(σ:St)(H:Hp)(x y:V)(v u:Value)(Q:VK),12 X σ H s->RelV x v->RelV y u->t x y H Q->
  15 X.prog X.w X.A (inplaceOp op v u) (EP X aZ σ Q) X.xe s
section
variable{X:Cx}{pos:Pos}
def cg(i:Nat):TG:=λv σ H Q=>Q (σ.set i<|0 v) H
def cH(hN:X.N.Nodup)(hi:X.N[i]?=0 x)(hx:Loc X.env.scope x)(hf:X.fn x=6\/X.env.scope.names.lookup x=0 .local:=by first|exact 18|exact .inr 9|assumption):PG X (.Name x pos) (cg i):=by
 intro aZ s σ H v u Q I r h;exact wpAny_assign_Name<|HP I hN hi hx r (λs' I'=>#[_,H,I',h]) hf
def rG:rF:=λvs σ H Q=>vs=[]/\Q σ H
def iF(t:TG)(u:rF):rF:=λvs σ H Q=>∃v r,vs=v::r/\t v σ H λσ' H'=>u r σ' H' Q
def nJ:xZ X [] rG:=by
 intro aZ s σ H vs us Q I r h;let[e,h]:=h;subst e;cases r;exact assignInOrder_nil #[σ,H,I,h]
def eR{es:1 Expr}{t:TG}{u:rF}(h1:PG X e t)(h2:xZ X es u)
  (hs:(assignEach (e::es) X.env).map (·.2)=assign e X.env::(assignEach es X.env).map (·.2):=by rfl):xZ X (e::es) (iF t u):=by
 intro aZ s σ H vs us Q I r h;let[v,vr,e1,h]:=h;subst e1;cases r with
 |cons r rr=>
  rw[hs];refine assignInOrder_cons (bg (h1 aZ s σ H _ _ _ I r h) λ_ s1 ⟨σ1,H1,I1,q1⟩=>?_);exact h2 aZ s1 σ1 H1 _ _ Q I1 rr q1
def x4(K:Frag)(n:Nat)(t:rF):TG:=λv σ H Q=>∃a xs,v=3 a/\bu K H a xs/\21=n/\t xs σ H Q
def Yb{es:1 Expr}{k:Nat}{t:rF}(hc:X.calm=6)(h:xZ X es t)
  (hn:(assignEach es X.env).length=n:=by rfl) (As:(assignEach es X.env).findIdx? (·.1)=8:=by rfl):PG X (.Tuple es k pos) (x4 X.K n t):=by
 intro aZ s σ H v u Q I r hw;let[a,xs,e1,hq,hl,hw]:=hw;subst e1;cases r;let[its,rv,ht,hz]:=I.tuple hq;refine assign_Tuple_tuple (I.ok.hd hc) ht (by simp[hn,<- hl,rv.length]) As λh' hx=>?_;let I1:12 X σ H { s with heap:=h' }:=I.kept (t':=s.toks) λb o e=>hx b o (iA<|eE e) e;exact h aZ _ σ H xs _ Q I1 (by simpa using rv) hw
def dI(te:TE)(g:TG):TS:=λD σ H=>te σ H λx H1=>g x σ H1 D.nx
def pA(he:PE X e te)(hg:PG X tg g)(hs:swapsWithSole [tg] e pos.line X.env=pure false:=by rfl)(hw:swappedStores [tg] e X.env=pure 8:=by rfl)
  (h1:(assignEach [tg] X.env).map (·.2)=[assign tg X.env]:=by rfl):PS X (.Assign [tg] e pos) (dI te g):=by
 intro aZ s σ H D I h;refine wpAny_Assign_stores (bg (he aZ s σ H _ I h) λv s1 ⟨x,H1,I1,r1,q1⟩=>?_) hs hw;rw[h1];exact bg (hg aZ s1 σ H1 x v _ I1 r1 q1) λ_ s2 q=>q
def cx{nK:Pos}(hN:X.N.Nodup)(hi:X.N[i]?=0 x)(hx:Loc X.env.scope x)(he:PE X e te)(hs:swapsWith e (0<|.Name x nK) pos.line X.env=pure false:=by rfl)(hf:X.fn x=6\/X.env.scope.names.lookup x=0 .local:=by first|exact 18|exact .inr 9|assumption) :
  PS X (.Assign [.Name x nK] e pos) (dI te<|cg i):=by
 intro aZ s σ H D I h;refine wpAny_Assign_Name (bg (he aZ s σ H _ I h) λv s1 ⟨y,H1,I1,r1,q1⟩=>?_) hs;exact HP I1 hN hi hx r1 (λs2 I2=>#[_,H1,I2,q1]) hf
def Yc(i:Nat)(te:TE)(ti:C4):TS:=λD σ H=>∃x,σ[i]?=0 (0 x)/\te σ H λy H1=>ti x y H1 λz H2=>D.nx (σ.set i<|0 z) H2
def HV{op:Operator}{ti:C4}{nK:Pos}(hN:X.N.Nodup)(hi:X.N[i]?=0 x)(hx:Loc X.env.scope x)(he:PE X e te)(ho:HU X op ti)(hf:X.fn x=6\/X.env.scope.names.lookup x=0 .local:=by first|exact 18|exact .inr 9|assumption) :
  PS X (.AugAssign (.Name x nK) op e pos) (Yc i te ti):=by
 intro aZ s σ H D I h;let[v,e1,h]:=h;let[m,hn,hl]:=I.loc;let Yd:xU X.env.scope x:=by rcases hx with k|k;exact .inl k;exact .inr<|.inl k
 let[u,r,l]:=hl i x v hi e1 Yd;refine wpAny_AugAssign_Name ?_;let go:15 X.prog X.w X.A (eval e X.env) (λw s₂=>15 X.prog X.w X.A (inplaceOp op u w) (λr s₃=>15 X.prog X.w X.A (storeName X.env x r) (λ_=>SP X aZ D .next) X.xe s₃) X.xe s₂) X.xe s:=by
  refine bg (he aZ s σ H _ I h) λw s1 ⟨y,H1,I1,r1,q1⟩=>?_;refine bg (ho aZ s1 σ H1 v y u w _ I1 r r1 q1) λz s2 ⟨zv,H2,I2,r2,q2⟩=>?_;exact HP I2 hN hi hx r2 (λs3 I3=>#[_,H2,I3,q2]) hf
 rcases l with⟨hk,hm⟩|⟨hk,c,hc,uE⟩
 .exact wpAny_loadName_local I.ok.kind hk hn hm go
 .rcases hk with hk|hk
  .exact wpAny_loadName_cell I.ok.kind hk hc uE go
  .rcases hx with k|k
   .let:X.env.scope.names.lookup x=0 .free:=hk
    rw[k]at this;cases this
   .let:X.env.scope.names.lookup x=0 .free:=hk
    rw[k]at this;cases this
def Ye(f:Int->Int->Int):C4:=λx y H Q=>∃i j,x=2 i/\y=2 j/\Q (2<|f i j) H
def N6:HU X .Add (Ye λi j=>i+j):=by
 intro aZ s σ H x y v u Q I r1 r2 h;let[i,j,e1,e2,q]:=h;subst e1;subst e2;let[t,rfl]:=r1;let[t',rfl]:=r2;exact iadd_int #[2 _,H,I.tok _,#[_,9],q]
end
section
variable{X:Cx}{pos:Pos}
def Yf(c:TT)(tb:TS):TS:=λD σ H=>∃W:Nat->St->6 Hp,(∃m,W m σ H)/\∀m σ H,W m σ H->
 c σ H λb H1=>if b=6 then ∃N:St->6 Hp,(∀σ' H',N σ' H'->∃m',m'<m/\W m' σ' H')/\tb { D with nx:=N,ct:=N,bk:=D.nx } σ H1 else D.nx σ H1
def Yg{tc:TT}(hp:PassesOwn (model X.prog X.w) X.A X.env X.xe)(hc:PT X c tc)(hb:kX X body tb):PS X (.While c body [] pos) (Yf tc tb):=by
 intro aZ s σ H D I h;let[W,[m0,w0],qo]:=h;refine wpAny_While<|codeAny_whileLoop (λn s'=>∃σ' H',12 X σ' H' s'/\W n σ' H') ?_ m0 #[σ,H,I,w0];rintro n s1 ⟨σ1,H1,I1,w1⟩;refine ak hp (bg (hc aZ s1 σ1 H1 _ I1<|qo n σ1 H1 w1) λb s2 ⟨H2,I2,q2⟩=>?_);cases b with
 |true=>
  let[N,hN,q2]:=q2;rw[af 9];refine ak hp<|bg (hb aZ s2 σ1 H2 _ I2 q2) λf s3 q3=>?_;cases f with
  |next=>
   let[σ3,H3,I3,n3]:=q3;let[m',hm,w3]:=hN σ3 H3 n3;exact#[m',hm,σ3,H3,I3,w3]
  |cont=>
   let[σ3,H3,I3,n3]:=q3;let[m',hm,w3]:=hN σ3 H3 n3;exact#[m',hm,σ3,H3,I3,w3]
  |brk=>exact q3
  |ret v=>exact q3
 |false=>
  rw[ag ia];exact wpAny_execs_nil #[σ1,H2,I2,q2]
end
structure It where
 go:Nat->6 Hp
 pB:Nat->Hp->V->6 Hp
 stop:Nat->6 Hp
def jU(X:Cx)(aZ:5 Addr Obj)(H:Hp)(b:Addr):Prop:=
 H b=8/\b≠X.env.locals/\b ∉ X.fs/\(b∈X.ex\/X.s₀.heap.objs.size<=b)/\(∀x c,X.env.cells.lookup x=0 c->c≠b)/\∀p∈X.pn++aZ,p.1≠b
def Inv.nL{H':Hp}(I:12 X σ H s)(hb:22<=b)(hn:H' b=8):jU X aZ H' b:=by
 refine#[hn,Nat.ne_of_gt<|jR I.lt hb,I.XU hb,.inr<|eh I.sz hb,λx c e z=>?_,λp hp z=>?_]
 .let[v,q]:=I.cell x c e;exact absurd (jR q.lt<|by rw[z];exact hb)<|xG _
 .exact absurd (jR (eE (I.pin p hp).1)<|by rw[z];exact hb)<|xG _
structure Turn(P:Program)(w:World)(K:Frag)(tg:Expr)(J:It)(fp:1 Addr)(it:Addr)(tn:Nat->6 Heap):Prop where
 mem:it∈fp
 obj:∀i h,tn i h->∀b∈fp,∃o,h.get? b=0 o/\∀v,o.data≠.cell v
 keep:∀i h h',tn i h->(∀b∈fp,∀o,h.get? b=0 o->h'.get? b=0 o)->tn i h'
 item:∀(X:Cx),X.prog=P->X.w=w->X.K=K->X.calm=6->∀(i:Nat)(aZ:5 Addr Obj)(s:Shared)(σ:St)(H:Hp)(E:QV),12 X σ H s->(∀b∈fp,jU X aZ H b)->tn i s.heap->J.go i H->
  15 P w X.A (pyNext<|3 it) (λr s1=>∃u,r=0 u/\
   15 P w X.A (letOwnedTupleGo tg (3 it) u) (λ_ s2=>∃x H',12 X σ H' s2/\RelV x u/\J.pB i H x H'/\tn (i+1) s2.heap/\∀b∈fp,H' b=8) E s1) E s
 done:∀(X:Cx),X.prog=P->X.w=w->X.K=K->X.calm=6->∀(i:Nat)(aZ:5 Addr Obj)(s:Shared)(σ:St)(H:Hp)(E:QV),12 X σ H s->(∀b∈fp,jU X aZ H b)->tn i s.heap->J.stop i H->
  15 P w X.A (pyNext<|3 it) (λr s1=>r=8/\12 X σ H s1) E s
 self:∀(A:Around)(i:Nat)(s:Shared)(Q:QV)(E:QV),tn i s.heap->Q (3 it) s->15 P w A (pyIter<|3 it) Q E s
abbrev TI:=St->Hp->(It->6 Hp)->Prop
def HW(X:Cx)(aZ:5 Addr Obj)(σ:St)(tg:Expr)(R:It->6 Hp)(C5:Value)(s2:Shared):Prop:=
 ∃(it:Addr)(fp:1 Addr)(tn:Nat->6 Heap)(J:It)(H':Hp),C5=3 it/\12 X σ H' s2/\Turn X.prog X.w X.K tg J fp it tn/\tn 0 s2.heap/\(∀b∈fp,jU X aZ H' b)/\R J H'
def PI(X:Cx)(tg iter:Expr)(wi:TI):Prop:=
 ∀(aZ:5 Addr Obj)(s:Shared)(σ:St)(H:Hp)(R:It->6 Hp),12 X σ H s->wi σ H R->
  15 X.prog X.w X.A (eval iter X.env) (λv s1=>15 X.prog X.w X.A (pyIter v) (HW X aZ σ tg R) X.xe s1) X.xe s
def vZ{it:Addr}{o:Obj}{n:String}{vs:Array 5}(ho:s.heap.get? it=0 o)(hc:o.cls=.type n)(hd:o.data=.fields vs)
  (hn:["enumerate","zip","dict_itemiterator","dict_reverseitemiterator","odict_iterator","itertools.zip_longest","itertools.pairwise"].contains n=false) (hQ:Q () s):wpAny M A (letOwnedTupleGo tg (3 it) u) Q E s:=by
 unfold letOwnedTupleGo;cases tg<;>first
  |exact ao hQ
  |(cases u<;>first
    |exact ao hQ
    |(refine aq<|wpAny_load ho ?_;rw[hc,hd];show wpAny M A (if(["enumerate","zip","dict_itemiterator","dict_reverseitemiterator","odict_iterator","itertools.zip_longest","itertools.pairwise"].contains n&&vs[0]? == 0 (rawInt _))=6 then _ else _) Q E s;rw[ag (by intro h;rw[hn,Bool.false_and]at h;cases h)];exact ao hQ))
def sZ(K:Frag)(a:Addr):It:=
 #[λi H=>∃xs x,dv K H a xs/\xs[i]?=0 x,λi H x H'=>H'=H/\∀xs,dv K H a xs->xs[i]?=0 x,λi H=>∃xs,dv K H a xs/\21<=i]
def tm(K:Frag)(a:Addr):It:=
 #[λi H=>∃xs x,bu K H a xs/\xs[i]?=0 x,λi H x H'=>H'=H/\∀xs,bu K H a xs->xs[i]?=0 x,λi H=>∃xs,bu K H a xs/\21<=i]
def uF(lo:Int)(n:Nat):It:=#[λi _=>i<n,λi H x H'=>H'=H/\x=2 (lo+i),λi _=>n<=i]
theorem Yh{P:Program}{w:World}{K:Frag}(a it:Addr):Turn P w K tg (sZ K a) [it] it (λi h=>h.IsListIter it a i) where
 mem:=by simp
 obj:=λi h st b hb=>by
  let e:b=it:=by simpa using hb
  subst e;let[o,e,c,d]:=st;exact#[o,e,λv z=>by rw[d]at z;cases z]
 keep:=λi h h' st k=>st.at λo e=>k it 17 o e
 item:=by
  intro X hP hw hK hc i aZ s σ H E I hf st hg;subst hP hw hK;let[xs,x,hq,hx]:=hg;let[its,rv,p,hz]:=I.list hq;let[u,hu,ru]:=rv.get hx;let[f0,f1,f2,f3,f4,f5]:=hf it 17;refine wpAny_pyNext_list_item st p.isList (x:=u) (by simpa using hu) λh' iN sb=>?_;let I1:12 X σ H { s with heap:=h' }:=I.turned (t':=s.toks) (λb o hb e=>(sb.2 b hb).trans e) f0 f1 f3 f4 f5;let[o,e,c,d]:=id iN;exact#[u,9,vZ (s:={ s with heap:=h' }) e c d 16 #[x,H,I1,ru,#[9,λys hy=>by rw[I.N1 hy hq];exact hx],iN,λb hb=>(hf b hb).1]]
 done:=by
  intro X hP hw hK hc i aZ s σ H E I hf st hg;subst hP hw hK;let[xs,hq,hx]:=hg;let[its,rv,p,hz]:=I.list hq;let[f0,f1,f2,f3,f4,f5]:=hf it 17;let hl:=rv.length;exact wpAny_pyNext_list_end (I.ok.hd hc) st p.isList (by simp;lia) λh' eb=>#[9,I.turned (t':=s.toks) (λb o hb e=>eb b o hb e) f0 f1 f3 f4 f5]
 self:=λ_ _ _ _ _ st h=>wpAny_pyIter_listiter st h
theorem Yi{P:Program}{w:World}{K:Frag}(a it:Addr):Turn P w K tg (tm K a) [it] it (λi h=>h.IsTupleIter it a i) where
 mem:=by simp
 obj:=λi h st b hb=>by
  let e:b=it:=by simpa using hb
  subst e;let[o,e,c,d]:=st;exact#[o,e,λv z=>by rw[d]at z;cases z]
 keep:=λi h h' st k=>st.at λo e=>k it 17 o e
 item:=by
  intro X hP hw hK hc i aZ s σ H E I hf st hg;subst hP hw hK;let[xs,x,hq,hx]:=hg;let[its,rv,p,hz]:=I.tuple hq;let[u,hu,ru]:=rv.get hx;let[f0,f1,f2,f3,f4,f5]:=hf it 17;refine wpAny_pyNext_tuple_item st (show s.heap.IsTuple a its.toArray from p) (x:=u) (by simpa using hu) λh' iN sb=>?_
  let I1:12 X σ H { s with heap:=h' }:=I.turned (t':=s.toks) (λb o hb e=>(sb.2 b hb).trans e) f0 f1 f3 f4 f5;let[o,e,c,d]:=id iN;exact#[u,9,vZ (s:={ s with heap:=h' }) e c d 16 #[x,H,I1,ru,#[9,λys hy=>by rw[I.N2 hy hq];exact hx],iN,λb hb=>(hf b hb).1]]
 done:=by
  intro X hP hw hK hc i aZ s σ H E I hf st hg;subst hP hw hK;let[xs,hq,hx]:=hg;let[its,rv,p,hz]:=I.tuple hq;let[f0,f1,f2,f3,f4,f5]:=hf it 17;let hl:=rv.length;exact wpAny_pyNext_tuple_end (I.ok.hd hc) st (show s.heap.IsTuple a its.toArray from p) (by simp;lia) λh' eb=>#[9,I.turned (t':=s.toks) (λb o hb e=>eb b o hb e) f0 f1 f3 f4 f5]
 self:=λ_ _ _ _ _ st h=>wpAny_pyIter_tupleiter st h
theorem Yj{P:Program}{w:World}{K:Frag}(it:Addr)(lo:Int)(n:Nat):Turn P w K tg (uF lo n) [it] it (λi h=>IsRangeIter h it (lo+(i:Nat)*1) ((n:Int)-(i:Nat)) 1) where
 mem:=by simp
 obj:=λi h st b hb=>by
  let e:b=it:=by simpa using hb
  subst e;exact#[_,st,λv z=>by
   let z':Data.fields _=Data.cell v:=z;cases z']
 keep:=λi h h' st k=>k it 17 _ st
 item:=by
  intro X hP hw hK hc i aZ s σ H E I hf st hg;subst hP hw hK;let[f0,f1,f2,f3,f4,f5]:=hf it 17;let W:=Walks.range (prog:=X.prog) (w:=X.w) (I.ok.hd hc) it lo 1 n;refine W.item i s _ _ hg st λv h' tk hv iN kk=>?_;let[t,rfl]:=hv;let I1:12 X σ H { s with heap:=h',toks:=tk }:=I.turned (λb o hb e=>kk b o (by simpa using hb) e) f0 f1 f3 f4 f5;refine#[_,9,vZ (s:={ s with heap:=h',toks:=tk }) (n := "range_iterator") iN 9 9 16 #[2<|lo+i,H,I1,#[t,?_],#[9,9],iN,λb hb=>(hf b hb).1]];rw[Int.mul_one]
 done:=by
  intro X hP hw hK hc i aZ s σ H E I hf st hg;subst hP hw hK;let[f0,f1,f2,f3,f4,f5]:=hf it 17;exact wpAny_pyNext_range_end (I.ok.hd hc) st (by let:n<=i:=hg;lia) λh' eb=>#[9,I.turned (t':=s.toks) (λb o hb e=>eb b o hb e) f0 f1 f3 f4 f5]
 self:=λ_ _ _ _ _ st h=>wpAny_pyIter_rangeiter st h
section
variable{X:Cx}{tg:Expr}
def Au(K:Frag)(tl:TE):TI:=λσ H R=>tl σ H λx H1=>∃a,x=3 a/\(∃xs,dv K H1 a xs)/\R (sZ K a) H1
def uG(K:Frag)(tl:TE):TI:=λσ H R=>tl σ H λx H1=>∃a,x=3 a/\(∃xs,bu K H1 a xs)/\R (tm K a) H1
def Yk{l:Expr}{tl:TE}(hl:PE X l tl):PI X tg l (Au X.K tl):=by
 intro aZ s σ H R I h;refine bg (hl aZ s σ H _ I h) λv s1 ⟨x,H1,I1,r1,q1⟩=>?_;let[a,e,[xs,hq],q]:=q1;subst e;cases r1;let[its,rv,p,hz]:=I1.list hq;refine wpAny_pyIter_list p.isList ?_;refine#[s1.heap.objs.size,[s1.heap.objs.size],_,_,H1,9,I1.kept (t':=s1.toks) λb o e=>dD _ e,Yh a _,#[_,gp _ 9,9,9],λb hb=>?_,q];let e:b=s1.heap.objs.size:=by simpa using hb
 subst e;exact I1.nL (ck _)<|I1.cf.fresh<|ck _
def Yl{l:Expr}{tl:TE}(hl:PE X l tl):PI X tg l (uG X.K tl):=by
 intro aZ s σ H R I h;refine bg (hl aZ s σ H _ I h) λv s1 ⟨x,H1,I1,r1,q1⟩=>?_;let[a,e,[xs,hq],q]:=q1;subst e;cases r1;let[its,rv,p,hz]:=I1.tuple hq;refine wpAny_pyIter_tuple (show s1.heap.IsTuple a its.toArray from p) ?_
 refine#[s1.heap.objs.size,[s1.heap.objs.size],_,_,H1,9,I1.kept (t':=s1.toks) λb o e=>dD _ e,Yi a _,#[_,gp _ 9,9,9],λb hb=>?_,q];let e:b=s1.heap.objs.size:=by simpa using hb
 subst e;exact I1.nL (ck _)<|I1.cf.fresh<|ck _
def Ym{R:It->6 Hp}{lo hi:Int}{t u v:Tok}{tk:Nat}(I:12 X σ H s)(h1:-(2^62)<=lo)(h2:lo<2^62)(h3:-(2^62)<=hi)(h4:hi<2^62)
  (q:R (uF lo (hi-lo).toNat) H):15 X.prog X.w X.A (pyIter<|3 22) (HW X aZ σ tg R) E { s with heap:=s.heap.push { cls:=.type "range",data:=.fields #[.int lo t,.int hi u,.int 1 v,] },toks:=tk }:=by
 refine wpAny_pyIter_range (IsRange.new ..) (small_one h1 h2 h3 h4) ?_;let I1:12 X σ H { s with heap:=s.heap.push { cls:=.type "range",data:=.fields #[.int lo t,.int hi u,.int 1 v,] },toks:=tk }:=I.kept λb o e=>dD _ e;refine#[(s.heap.push { cls:=.type "range",data:=.fields #[.int lo t,.int hi u,.int 1 v,] }).objs.size,[(s.heap.push { cls:=.type "range",data:=.fields #[.int lo t,.int hi u,.int 1 v,] }).objs.size],_,_,H,9,I1.kept (t':=tk) λb o e=>dD _ e,Yj _ lo (hi-lo).toNat,?_,λb hb=>?_,q]
 .let e1:lo+((0:Nat):Int)*1=lo:=by simp
  let e2:(((hi-lo).toNat:Nat):Int)-((0:Nat):Int)=Builtin.Range.rangeSize lo hi 1:=by rw[rangeSize_one];split<;>lia
  show IsRangeIter _ _ (lo+((0:Nat):Int)*1) ((((hi-lo).toNat:Nat):Int)-((0:Nat):Int)) 1;rw[e1,e2];exact gp _ 9
 .let e:b=(s.heap.push { cls:=.type "range",data:=.fields #[.int lo t,.int hi u,.int 1 v,] }).objs.size:=by simpa using hb
  subst e;exact I1.nL (ck _)<|I1.cf.fresh<|ck _
def Yn(ta:TA):TI:=λσ H R=>ta σ H λvs H1=>∃j:Int,vs=[2 j]/\-(2^62)<=j/\j<2^62/\R (uF 0 j.toNat) H1
def x5{a:Expr}{ta:TA}{p pos:Pos}(hg:Gl X "range")(hm:X.mg "range"=8)(ha:PA X [a] ta)(hs:starEach [a] X.env=[(false,eval a X.env)]:=by rfl):PI X tg (.Call (.Name "range" p) [a] [] pos) (Yn ta):=by
 intro aZ s σ H R I h;refine Call_<|sV I hg hm boot_range<|zZ (bg (ha pos aZ s σ H _ I h) λus s1 ⟨vs,H1,I1,r1,q1⟩=>?_) hs 9;let[j,e,q1,q2,q]:=q1;subst e;cases r1 with
 |cons r rr=>
  cases rr;let[t,rfl]:=r;exact call_range_1 (Ym I1 7 7 q1 q2<|by simpa using q)
def Yo(wi:TI)(g:TG)(tb:TS):TS:=λD σ H=>wi σ H λJ H1=>∃W:Nat->Nat->St->6 Hp,(∃m,W 0 m σ H1)/\∀i m σ H,W i m σ H->
 (J.stop i H/\D.nx σ H)\/(J.go i H/\∃N:St->6 Hp,(∀σ' H',N σ' H'->∃m',m'<m/\W (i+1) m' σ' H')/\∀x H',J.pB i H x H'->g x σ H' λσ2 H2=>tb { D with nx:=N,ct:=N,bk:=D.nx } σ2 H2)
def Av(fp:1 Addr)(h:Heap):5 Addr Obj:=fp.filterMap λb=>(h.get? b).map λo=>(b,o)
def C6{o:Obj}(hb:b∈fp)(e:h.get? b=0 o):(b,o)∈Av fp h:=(List.mem_filterMap.mpr #[b,hb,by rw[e];rfl])
def Yp{p:Addr×Obj}(hp:p∈Av fp h):p.1∈fp/\h.get? p.1=0 p.2:=by
 let[b,hb,e]:=List.mem_filterMap.mp hp;cases q:h.get? b with
 |none=>rw[q]at e;cases e
 |some o=>
  rw[q]at e;let e':(b,o)=p:=dJ e;subst e';exact#[hb,q]
def Inv.pinned(I:12 X σ H s)(hf:∀b∈fp,jU X aZ H b)(ho:∀b∈fp,∃o,s.heap.get? b=0 o/\∀v,o.data≠.cell v):Inv X (aZ++Av fp s.heap) σ H s:=(I.CW λp hp=>(eB.mp hp).elim (λz=>I.pin p<|ji _ z) λz=>by
  let[hb,e]:=Yp z;let[f0,f1,f2,_]:=hf p.1 hb;let[o,e',d]:=ho p.1 hb;rw[e]at e';cases e';exact#[e,f0,f1,f2,d])
def Inv.HX{pl:5 Addr Obj}(I:Inv X (aZ++pl) σ H s):12 X σ H s:=(I.CW λp hp=>I.pin p<|ji _<|o8 _ hp)
def kY{iter:Expr}{wi:TI}{pos:Pos}(hp:PassesOwn (model X.prog X.w) X.A X.env X.xe)(hc:X.calm=6)(hi:PI X tg iter wi)(hg:PG X tg g)(hb:kX X body tb)
  (hs:∀x,foldedSetIterable iter X.env x=pure x:=by intro _;rfl):PS X (.For tg iter body [] pos) (Yo wi g tb):=by
 intro aZ s σ H D I h;refine wpAny_For (bg (hi aZ s σ H _ I h) λv s1 h1=>bg h1 λC5 s2 h2=>?_) hs;let[it,fp,tn,J,H2,e,I2,T,nM,f2,W,[m0,w0],qo]:=h2;subst e;let HY:∀{H':Hp},(∀b∈fp,H' b=8)->∀b∈fp,jU X aZ H' b:=λhn b hb=>#[hn b hb,(f2 b hb).2];refine codeAny_forLoop_any (λn s'=>∃i σ' H',12 X σ' H' s'/\tn i s'.heap/\(∀b∈fp,H' b=8)/\W i n σ' H') ?_ m0 #[0,σ,H2,I2,nM,λb hb=>(f2 b hb).1,w0];rintro n s3 ⟨i,σ3,H3,I3,N7,N8,w3⟩;rcases qo i n σ3 H3 w3 with⟨stop,qn⟩|⟨go,N,hN,step⟩
 .refine ak hp (bg (T.done X 9 9 9 hc i aZ s3 σ3 H3 X.xe I3 (HY N8) N7 stop) λr s4 ⟨hr,I4⟩=>?_);subst hr;exact wpAny_execs_nil #[σ3,H3,I4,qn]
 .refine ak hp (bg (T.item X 9 9 9 hc i aZ s3 σ3 H3 X.xe I3 (HY N8) N7 go) λr s4 ⟨u,hr,h4⟩=>?_);subst hr;refine ak hp (bg h4 λ_ s5 ⟨x,H5,I5,r5,y5,HZ,C7⟩=>?_);let Yq:=I5.pinned (HY C7)<|T.obj _ _ HZ;refine ak hp (bg (hg _ s5 σ3 H5 x u _ Yq r5<|step x H5 y5) λ_ s6 ⟨σ6,H6,I6,q6⟩=>?_);refine ak hp<|bg (hb _ s6 σ6 H6 _ I6 q6) λf s7 q7=>?_;let again:∀{σ7:St}{H7:Hp},Inv X (aZ++Av fp s5.heap) σ7 H7 s7->N σ7 H7->∃m,m<n/\∃i σ' H',12 X σ' H' s7/\tn i s7.heap/\(∀b∈fp,H' b=8)/\W i m σ' H':=λ{σ7 H7} I7 n7=>by
   let[m',hm,w7]:=hN σ7 H7 n7;refine#[m',hm,i+1,σ7,H7,I7.HX,T.keep _ _ _ HZ λb hb o e=>(I7.pin (b,o)<|ji _<|ji _<|C6 hb e).1,λb hb=>?_,w7];let[o,e,d]:=T.obj _ _ HZ b hb;exact(I7.pin (b,o)<|ji _<|ji _<|C6 hb e).2.1
  cases f with
  |next=>let[σ7,H7,I7,n7]:=q7;exact again I7 n7
  |cont=>let[σ7,H7,I7,n7]:=q7;exact again I7 n7
  |brk=>let[σ7,H7,I7,q7]:=q7;exact#[σ7,H7,I7.HX,q7]
  |ret v=>let[x7,σ7,H7,I7,r7,q7]:=q7;exact#[x7,σ7,H7,I7.HX,r7,q7]
end
def uH{K:Frag}(Pv:Nat->St->6 Hp)(h0:Pv 0 σ H)(hl:∀i σ H,i<=21->Pv i σ H->dv K H a xs)
  (hs:∀i x σ H,xs[i]?=0 x->Pv i σ H->g x σ H λσ2 H2=>tb { D with nx:=Pv (i+1),ct:=Pv (i+1),bk:=D.nx } σ2 H2) (hd:∀σ H,Pv 21 σ H->D.nx σ H) :
  ∃W:Nat->Nat->St->6 Hp,(∃m,W 0 m σ H)/\∀i m σ H,W i m σ H->
   ((sZ K a).stop i H/\D.nx σ H)\/((sZ K a).go i H/\∃N:St->6 Hp,(∀σ' H',N σ' H'->∃m',m'<m/\W (i+1) m' σ' H')/\∀x H',(sZ K a).pB i H x H'->g x σ H' λσ2 H2=>tb { D with nx:=N,ct:=N,bk:=D.nx } σ2 H2):=by
 refine#[λi m σ H=>m=21-i/\i<=21/\Pv i σ H,#[21,17,iL _,h0],?_];rintro i m σ H ⟨rfl,hi,p⟩;let q:=hl i σ H hi p;by_cases cX:i<21
 .refine .inr #[#[xs,xs[i],q,by simp[cX]],Pv<|i+1,λσ' H' p'=>#[21-(i+1),7,9,cX,p'],λx H' y=>?_];let[e,y]:=y;subst e;exact hs i x σ _ (y xs q) p
 .let e:i=21:=by lia
  subst e;exact .inl #[#[xs,q,ck _],hd σ H p]
def Yr{K:Frag}(Pv:Nat->St->6 Hp)(h0:Pv 0 σ H)(hl:∀i σ H,i<=21->Pv i σ H->bu K H a xs)
  (hs:∀i x σ H,xs[i]?=0 x->Pv i σ H->g x σ H λσ2 H2=>tb { D with nx:=Pv (i+1),ct:=Pv (i+1),bk:=D.nx } σ2 H2) (hd:∀σ H,Pv 21 σ H->D.nx σ H) :
  ∃W:Nat->Nat->St->6 Hp,(∃m,W 0 m σ H)/\∀i m σ H,W i m σ H->
   ((tm K a).stop i H/\D.nx σ H)\/((tm K a).go i H/\∃N:St->6 Hp,(∀σ' H',N σ' H'->∃m',m'<m/\W (i+1) m' σ' H')/\∀x H',(tm K a).pB i H x H'->g x σ H' λσ2 H2=>tb { D with nx:=N,ct:=N,bk:=D.nx } σ2 H2):=by
 refine#[λi m σ H=>m=21-i/\i<=21/\Pv i σ H,#[21,17,iL _,h0],?_];rintro i m σ H ⟨rfl,hi,p⟩;let q:=hl i σ H hi p;by_cases cX:i<21
 .refine .inr #[#[xs,xs[i],q,by simp[cX]],Pv<|i+1,λσ' H' p'=>#[21-(i+1),7,9,cX,p'],λx H' y=>?_];let[e,y]:=y;subst e;exact hs i x σ _ (y xs q) p
 .let e:i=21:=by lia
  subst e;exact .inl #[#[xs,q,ck _],hd σ H p]
def Aw{lo:Int}(Pv:Nat->St->6 Hp)(h0:Pv 0 σ H)
  (hs:∀i σ H,i<n->Pv i σ H->g (2<|lo+i) σ H λσ2 H2=>tb { D with nx:=Pv (i+1),ct:=Pv (i+1),bk:=D.nx } σ2 H2) (hd:∀σ H,Pv n σ H->D.nx σ H) :
  ∃W:Nat->Nat->St->6 Hp,(∃m,W 0 m σ H)/\∀i m σ H,W i m σ H->
   ((uF lo n).stop i H/\D.nx σ H)\/((uF lo n).go i H/\∃N:St->6 Hp,(∀σ' H',N σ' H'->∃m',m'<m/\W (i+1) m' σ' H')/\∀x H',(uF lo n).pB i H x H'->g x σ H' λσ2 H2=>tb { D with nx:=N,ct:=N,bk:=D.nx } σ2 H2):=by
 refine#[λi m σ H=>m=n-i/\i<=n/\Pv i σ H,#[n,17,iL _,h0],?_];rintro i m σ H ⟨rfl,hi,p⟩;by_cases cX:i<n
 .refine .inr #[cX,Pv<|i+1,λσ' H' p'=>#[n-(i+1),7,9,cX,p'],λx H' y=>?_];let[e,y]:=y;subst e y;exact hs i σ _ cX p
 .let e:i=n:=by lia
  subst e;exact .inl #[ck _,hd σ H p]
abbrev R2:=V->V->Hp->6 VK
def fN(X:Cx)(f:5->5->Sem 5)(r:R2):Prop:=
 ∀(aZ:5 Addr Obj)(s:Shared)(σ:St)(H:Hp)(x y:V)(v u:Value)(Q:VK),12 X σ H s->RelV x v->RelV y u->r x y H Q->
  15 X.prog X.w X.A (f v u) (EP X aZ σ Q) X.xe s
def Ia(X:Cx)(f:5->Sem 5)(r:V->Hp->6 VK):Prop:=
 ∀(aZ:5 Addr Obj)(s:Shared)(σ:St)(H:Hp)(x:V)(v:Value)(Q:VK),12 X σ H s->RelV x v->r x H Q->
  15 X.prog X.w X.A (f v) (EP X aZ σ Q) X.xe s
def gG(X:Cx)(f:Value)(r:1 V->Hp->6 VK):Prop:=
 ∀(aZ:5 Addr Obj)(s:Shared)(σ:St)(H:Hp)(xs:1 V)(us:1 5)(Q:VK),12 X σ H s->Vals xs us->r xs H Q->
  15 X.prog X.w X.A (call f us) (EP X aZ σ Q) X.xe s
def Ys(X:Cx)(r:V->Hp->(Bool->6 Hp)->Prop):Prop:=
 ∀(aZ:5 Addr Obj)(s:Shared)(σ:St)(H:Hp)(x:V)(v:Value)(Q:Bool->6 Hp),12 X σ H s->RelV x v->r x H Q->
  15 X.prog X.w X.A (truthy v) (TP X aZ σ Q) X.xe s
def bY(r:R2)(ta tb:TE):TE:=λσ H Q=>ta σ H λx H1=>tb σ H1 λy H2=>r x y H2 Q
def N9(r:V->Hp->6 VK)(ta:TE):TE:=λσ H Q=>ta σ H λx H1=>r x H1 Q
inductive Oa(C:Int->6 Int)(g:Int->Int->V)(x:V)(y:V)(H:Hp)(Q:VK):Prop where
 |mk (i j:_) (pq:x=2 i) (px:y=2 j) (qp:C i j) (uI:Q (g i j) H):Oa C g x y H Q
def rI(C:Int->6 Int)(g:Int->Int->V):R2:=λx y H Q=>Oa C g x y H Q
inductive Ob(g:Int->Int->V)(x:V)(y:V)(H:Hp)(Q:VK):Prop where
 |mk (i j:_) (pq:x=2 i) (px:y=2 j) (qp:Q (g i j) H):Ob g x y H Q
def gH(g:Int->Int->V):R2:=λx y H Q=>Ob g x y H Q
def rU(g:Int->V):V->Hp->6 VK:=λx H Q=>∃i,x=2 i/\Q (g i) H
section
variable{X:Cx}{a b c:Expr}{ta tb tc:TE}{pos:Pos}
def Ib(ha:PE X a ta)(hb:PE X b tb){R:V->V->6 Hp}(I:12 X σ H s)
  (h:ta σ H λx H1=>tb σ H1 λy H2=>R x y H2) {Q:QV} {f:5->5->Sem 5}
  (hf:∀v u s2 x y H2,12 X σ H2 s2->RelV x v->RelV y u->R x y H2->15 X.prog X.w X.A (f v u) Q X.xe s2) :
  15 X.prog X.w X.A (eval a X.env) (λv s₁=>15 X.prog X.w X.A (eval b X.env) (λu s₂=>15 X.prog X.w X.A (f v u) Q X.xe s₂) X.xe s₁) X.xe s:=by
 refine bg (ha aZ s σ H _ I h) λv s1 ⟨x,H1,I1,r1,q1⟩=>?_;refine bg (hb aZ s1 σ H1 _ I1 q1) λu s2 ⟨y,H2,I2,r2,q2⟩=>?_;exact hf v u s2 x y H2 I2 r1 r2 q2
def bI{op:Operator}{r:R2}(ho:fN X (binaryOp op) r)(ha:PE X a ta)(hb:PE X b tb):PE X (.BinOp a op b pos) (bY r ta tb):=by
 intro aZ s σ H Q I h;exact wpAny_BinOp<|Ib ha hb I h λv u s2 x y H2 I2 rx ry q=>ho aZ s2 σ H2 x y v u Q I2 rx ry q
def v3{op:UnaryOp}{r:V->Hp->6 VK}(ho:Ia X (unaryOp op) r)(ha:PE X a ta):PE X (.UnaryOp op a pos) (N9 r ta):=by
 intro aZ s σ H Q I h;exact UnaryOp_ (bg (ha aZ s σ H _ I h) λv s1 ⟨x,H1,I1,r1,q1⟩=>ho aZ s1 σ H1 x v Q I1 r1 q1)
def Ic{C:Int->6 Int}{g:Int->Int->Int}
  (rule:∀(i j:Int)(t u:Tok)(s:Shared)(Q:QV)(E:QV),C i j->Q (.int (g i j) s.toks) { s with toks:=s.toks+1 }->15 X.prog X.w X.A (f (.int i t)<|.int j u) Q E s) :
  fN X f (rI C λi j=>2<|g i j):=by
 intro aZ s σ H x y v u Q I rx ry h;let[i,j,rfl,rfl,hc,q]:=h;let[t,rfl]:=rx;let[t',rfl]:=ry;exact rule i j t t' s _ _ hc #[2<|g i j,H,I.tok _,#[_,9],q]
def Ie{g:Int->Int->Int}
  (rule:∀(i j:Int)(t u:Tok)(s:Shared)(Q:QV)(E:QV),Q (.int (g i j) s.toks) { s with toks:=s.toks+1 }->15 X.prog X.w X.A (f (.int i t)<|.int j u) Q E s) :
  fN X f (gH λi j=>2<|g i j):=by
 intro aZ s σ H x y v u Q I rx ry h;let[i,j,rfl,rfl,q]:=h;let[t,rfl]:=rx;let[t',rfl]:=ry;exact rule i j t t' s _ _ #[2<|g i j,H,I.tok _,#[_,9],q]
def Ig{g:Int->Int->Bool}
  (rule:∀(i j:Int)(t u:Tok)(s:Shared)(Q:QV)(E:QV),Q (.bool<|g i j) s->15 X.prog X.w X.A (f (.int i t)<|.int j u) Q E s) :
  fN X f (gH λi j=>.bl<|g i j):=by
 intro aZ s σ H x y v u Q I rx ry h;let[i,j,rfl,rfl,q]:=h;let[t,rfl]:=rx;let[t',rfl]:=ry;exact rule i j t t' s _ _ #[.bl<|g i j,H,I,9,q]
def v5(i j:Int):Prop:=0<j/\j<1073741824
def Ih(i j:Int):Prop:=(-(2^64)<i/\i<2^64)\/(-(2^64)<j/\j<2^64)
def Ih.ok{i j:Int}(h:Ih i j):IntMulOk i j:=by
 rcases h with⟨h1,h2⟩|⟨h1,h2⟩
 .exact .of_left<|intBits_le_64 h1 h2
 .exact .of_right<|intBits_le_64 h1 h2
def ij:fN X (binaryOp .Add) (gH λi j=>2<|i+j):=(Ie λ_ _ _ _ _ _ _ q=>add_int q)
def nN:fN X (binaryOp .Sub) (gH λi j=>2<|i-j):=(Ie λ_ _ _ _ _ _ _ q=>sub_int q)
def x6:fN X (binaryOp .Mult) (rI Ih λi j=>2<|i*j):=(Ic λ_ _ _ _ _ _ _ hc q=>mul_int q hc.ok)
def rH:fN X (binaryOp .FloorDiv) (rI v5 λi j=>2<|i/j):=(Ic λi j _ _ _ _ _ hc q=>by
 let h1:(0:Int)<j:=hc.1;let h2:j<1073741824:=hc.2;exact floordiv_int 7 (by rw[Int.fdiv_eq_ediv_of_nonneg i 7];exact q)<|.inl<|PyProof.noPylong_small 7)
def jb:fN X (binaryOp .Mod) (rI (λ_ j=>0<j) λi j=>2<|i%j):=(Ic λi j _ _ _ _ _ hc q=>by
 let h1:(0:Int)<j:=hc;exact mod_int' 7 (by rw[Int.fmod_eq_emod_of_nonneg i 7];exact q))
def Oc:fN X (binaryOp .BitOr) (gH λi j=>2<|Builtin.bitOr i j):=(Ie λ_ _ _ _ _ _ _ q=>or_int q)
def Yt{f:5->Sem 5}{g:Int->Int}
  (rule:∀(i:Int)(t:Tok)(s:Shared)(Q:QV)(E:QV),Q (.int (g i) s.toks) { s with toks:=s.toks+1 }->15 X.prog X.w X.A (f<|.int i t) Q E s) :
  Ia X f (rU λi=>2<|g i):=by
 intro aZ s σ H x v Q I rx h;let[i,rfl,q]:=h;let[t,rfl]:=rx;exact rule i t s _ _ #[2<|g i,H,I.tok _,#[_,9],q]
def v7:Ia X (unaryOp .USub) (rU λi=>2<|-i):=(Yt λ_ _ _ _ _ q=>neg_int q)
end
noncomputable def Od:V->V->Bool
 | .cI,.cI=>true | .cI,.int _=>true | .int _,.cI=>true | .cI,.bl _=>true | .bl _,.cI=>true | .cI,.str _=>true | .str _,.cI=>true
 | .int _,.int _=>true | .bl _,.bl _=>true | .str _,.str _=>true | .ou _,.ou _=>true
 | .int _,.str _=>true | .str _,.int _=>true | .bl _,.str _=>true | .str _,.bl _=>true
 |_,_=>false
def rJ:R2:=λx y H Q=>Od x y=6/\Q (.bl<|decide<|x=y) H
def Oe:R2:=λx y H Q=>Od x y=6/\Q (.bl (! decide (x=y))) H
def Ii{i j:Int}:decide (V.int i=V.int j)=(i==j):=by
 rw[Bool.eq_iff_iff];simp
def Of{i j:Bool}:decide (V.bl i=V.bl j)=(i==j):=by
 rw[Bool.eq_iff_iff];simp
def Og{i j:Str}:decide (V.str i=V.str j)=(i==j):=by
 rw[Bool.eq_iff_iff];simp
def Oh{i j:Array UInt8}:decide (V.ou i=V.ou j)=(i.toList==j.toList):=by
 rw[Bool.eq_iff_iff];cases i;cases j;simp
section
variable{X:Cx}{a b c:Expr}{ta tb tc:TE}{pos:Pos}
def gI{Q:VK}{k k':Bool}(I:12 X σ H s)(q:Q (.bl k) H)(e:k=k'):EP X aZ σ Q (.bool k') s:=by
 subst e;exact#[.bl k,H,I,9,q]
def e8:fN X (compareOp .Eq) rJ:=by
 intro aZ s σ H x y v u Q I rx ry h;let[hs,q]:=h;cases x with
 |cI=>
  cases rx;cases y with
  |cI=>cases ry;exact PySem.EqNone.eq_none_none<|gI I q 17
  |bl j=>cases ry;exact PySem.EqNone.eq_none_bool<|gI I q 17
  |int j=>let[t',rfl]:=ry;exact PySem.EqNone.eq_none_int<|gI I q 17
  |str j=>let[t',rfl]:=ry;exact PySem.EqNone.eq_none_str<|gI I q 17
  |_=>exact absurd (show false=6 from hs) ia
 |bl i=>
  cases rx;cases y with
  |cI=>cases ry;exact PySem.EqNone.eq_bool_none<|gI I q 17
  |bl j=>cases ry;exact eq_bool<|gI I q Of
  |str j=>let[t',rfl]:=ry;exact PySem.EqMixed.eq_bool_str<|gI I q 17
  |_=>exact absurd (show false=6 from hs) ia
 |int i=>
  let[t,rfl]:=rx;cases y with
  |cI=>cases ry;exact PySem.EqNone.eq_int_none<|gI I q 17
  |int j=>let[t',rfl]:=ry;exact eq_int<|gI I q Ii
  |str j=>let[t',rfl]:=ry;exact PySem.EqMixed.eq_int_str<|gI I q 17
  |_=>exact absurd (show false=6 from hs) ia
 |str i=>
  let[t,rfl]:=rx;cases y with
  |cI=>cases ry;exact PySem.EqNone.eq_str_none<|gI I q 17
  |bl j=>cases ry;exact PySem.EqMixed.eq_str_bool<|gI I q 17
  |int j=>let[t',rfl]:=ry;exact PySem.EqMixed.eq_str_int<|gI I q 17
  |str j=>let[t',rfl]:=ry;exact eq_str<|gI I q Og
  |_=>exact absurd (show false=6 from hs) ia
 |ou i=>
  let[t,rfl]:=rx;cases y with
  |ou j=>let[t',rfl]:=ry;exact PySem.W.eq_bytes<|gI I q Oh
  |_=>exact absurd (show false=6 from hs) ia
 |_=>cases y<;>exact absurd (show false=6 from hs) ia
def uJ:fN X (compareOp .NotEq) Oe:=by
 intro aZ s σ H x y v u Q I rx ry h;let[hs,q]:=h;cases x with
 |cI=>
  cases rx;cases y with
  |cI=>cases ry;exact PySem.EqNone.ne_none_none<|gI I q 17
  |bl j=>cases ry;exact PySem.EqNone.ne_none_bool<|gI I q 17
  |int j=>let[t',rfl]:=ry;exact PySem.EqNone.ne_none_int<|gI I q 17
  |str j=>let[t',rfl]:=ry;exact PySem.EqNone.ne_none_str<|gI I q 17
  |_=>exact absurd (show false=6 from hs) ia
 |bl i=>
  cases rx;cases y with
  |cI=>cases ry;exact PySem.EqNone.ne_bool_none<|gI I q 17
  |bl j=>cases ry;exact ne_bool<|gI I q<|aj not Of
  |str j=>let[t',rfl]:=ry;exact PySem.EqMixed.ne_bool_str<|gI I q 17
  |_=>exact absurd (show false=6 from hs) ia
 |int i=>
  let[t,rfl]:=rx;cases y with
  |cI=>cases ry;exact PySem.EqNone.ne_int_none<|gI I q 17
  |int j=>let[t',rfl]:=ry;exact ne_int<|gI I q<|aj not Ii
  |str j=>let[t',rfl]:=ry;exact PySem.EqMixed.ne_int_str<|gI I q 17
  |_=>exact absurd (show false=6 from hs) ia
 |str i=>
  let[t,rfl]:=rx;cases y with
  |cI=>cases ry;exact PySem.EqNone.ne_str_none<|gI I q 17
  |bl j=>cases ry;exact PySem.EqMixed.ne_str_bool<|gI I q 17
  |int j=>let[t',rfl]:=ry;exact PySem.EqMixed.ne_str_int<|gI I q 17
  |str j=>let[t',rfl]:=ry;exact ne_str<|gI I q<|aj not Og
  |_=>exact absurd (show false=6 from hs) ia
 |ou i=>
  let[t,rfl]:=rx;cases y with
  |ou j=>let[t',rfl]:=ry;exact PySem.W.ne_bytes<|gI I q<|aj not Oh
  |_=>exact absurd (show false=6 from hs) ia
 |_=>cases y<;>exact absurd (show false=6 from hs) ia
def Oi:fN X (compareOp .Lt) (gH λi j=>.bl<|decide<|i<j):=(Ig λ_ _ _ _ _ _ _ q=>lt_int q)
def Ij:fN X (compareOp .LtE) (gH λi j=>.bl<|decide<|i<=j):=(Ig λ_ _ _ _ _ _ _ q=>le_int q)
def x8:fN X (compareOp .Gt) (gH λi j=>.bl<|decide<|j<i):=(Ig λ_ _ _ _ _ _ _ q=>gt_int q)
def Oj:fN X (compareOp .Is) (λx y H Q=>y=.cI/\Q (.bl<|decide<|x=.cI) H):=by
 intro aZ s σ H x y v u Q I rx ry h;let[rfl,q]:=h;cases ry;refine is_none_gen<|gI I q ?_;cases x<;>first
  |(cases rx;rfl)
  |(let[t,rfl]:=rx;rfl)
def C8:fN X (compareOp .IsNot) (λx y H Q=>y=.cI/\Q (.bl (! decide (x=.cI))) H):=by
 intro aZ s σ H x y v u Q I rx ry h;let[rfl,q]:=h;cases ry;refine isnot_none_gen<|gI I q ?_;cases x<;>first
  |(cases rx;rfl)
  |(let[t,rfl]:=rx;rfl)
def cO(b:Expr)(h:op≠.In:=by decide)(h2:op≠.NotIn:=by decide):behindInMarks op b=false:=by
 let e1:(op==CmpOp.In)=false:=by cases op<;>first|rfl|exact absurd 9 h
 let e2:(op==CmpOp.NotIn)=false:=by cases op<;>first|rfl|exact absurd 9 h2
 cases b<;>simp[behindInMarks,e1,e2]
def v8{r:R2}(ho:fN X (compareOp op) r)(ha:PE X a ta)(hb:PE X b tb)(hm:behindInMarks op b=false):PE X (.Compare a [op] [b] pos) (bY r ta tb):=by
 intro aZ s σ H Q I h;exact wpAny_Compare1 (Ib ha hb I h λv u s2 x y H2 I2 rx ry q=>ho aZ s2 σ H2 x y v u Q I2 rx ry q) hm
def kZ(t:TE):TT:=λσ H Q=>t σ H λx H'=>∃k,x=.bl k/\Q k H'
def cQ{r:R2}(ho:fN X (compareOp op) r)(ha:PE X a ta)(hb:PE X b tb)(hm:behindInMarks op b=false):PT X (.Compare a [op] [b] pos) (kZ<|bY r ta tb):=by
 intro aZ s σ H Q I h;refine wpAny_isTrue_Compare1 (bg (ha aZ s σ H _ I h) λv s1 ⟨x,H1,I1,r1,q1⟩=>bg (hb aZ s1 σ H1 _ I1 q1) λu s2 ⟨y,H2,I2,r2,q2⟩=>
  bg (ho aZ s2 σ H2 x y v u _ I2 r1 r2 q2) λc s3 ⟨z,H3,I3,r3,k,e,q3⟩=>?_) hm
 subst e;cases r3;exact ai #[H3,I3,q3]
def Yu(r r':R2)(ta tb tc:TE):TE:=λσ H Q=>ta σ H λx H1=>tb σ H1 λy H2=>r x y H2 λz H3=>∃k,z=.bl k/\
 (if k=6 then tc σ H3 λw' H4=>r' y w' H4 Q else Q (.bl false) H3)
def Yv{Ik:CmpOp}{r r':R2}(ho:fN X (compareOp op) r)(sT:fN X (compareOp Ik) r')(ha:PE X a ta)(hb:PE X b tb)(hc:PE X c tc)
  (hm:lastMarks [op,Ik] [b,c]=false:=by with_unfolding_all rfl):PT X (.Compare a [op,Ik] [b,c] pos) (kZ<|Yu r r' ta tb tc):=by
 intro aZ s σ H Q I h;refine isTrue_chain (bg (ha aZ s σ H _ I h) λv s1 ⟨x,H1,I1,r1,q1⟩=>test_link (bg (hb aZ s1 σ H1 _ I1 q1) λu s2 ⟨y,H2,I2,r2,q2⟩=>
  bg (ho aZ s2 σ H2 x y v u _ I2 r1 r2 q2) λd s3 ⟨z,H3,I3,r3,k,e,q3⟩=>?_)) hm
 subst e;cases r3;refine ai ?_;cases k with
 |false=>
  let[k',e',q']:=q3;cases e';exact ite_ff #[H3,I3,q']
 |true=>
  refine ite_tt (test_last<|bg (hc aZ s3 σ H3 _ I3 q3) λw' s4 ⟨z',H4,I4,r4,q4⟩=>bg (sT aZ s4 σ H4 y z' u w' _ I4 r2 r4 q4) λd' s5 ⟨z2,H5,I5,r5,k2,e2,q5⟩=>?_);subst e2;cases r5;exact ai #[H5,I5,q5]
def Ol(K:Frag)(x:V)(H:Hp)(k:Bool):Prop:=
 match x with
 | .cI=>k=false
 | .bl b=>k=b
 | .int i=>k=(i != 0)
 | .str y=>11 y.length/\k=((y.length:Int) != 0)
 | .ou y=>11 y.size/\k=((y.size:Int) != 0)
 | .ref p=>(∃xs,dv K H p xs/\k=!xs.isEmpty)\/(∃xs,bu K H p xs/\k=!xs.isEmpty)\/∃ba,H p=0 (.dK ba)/\k=!ba.isEmpty
 |_=>False
def Yw{κ:Type}{ba:5 κ V}{vs:5 κ 5}(r:KV ba vs):(!vs.isEmpty)=!ba.isEmpty:=by
 cases r<;>rfl
def Om{its:1 5}(r:Vals xs its):(!its.toArray.isEmpty)=!xs.isEmpty:=by
 cases r<;>simp
def C9:(sizeLine:Nat)<2^63:=by rw[ar];decide
def Yx:Ys X (λx H Q=>∃k,Ol X.K x H k/\Q k H):=by
 intro aZ s σ H x v Q I rx h;let[k,e,q]:=h;let hl:=C9;let hs:sizeLine=16777216:=ar;cases x with
 |cI=>
  cases rx;let e':k=false:=e;subst e';exact truthy_none #[H,I,q]
 |bl b=>
  cases rx;let e':k=b:=e;subst e';exact ai #[H,I,q]
 |int i=>
  let[t,rfl]:=rx;let e':k=(i != 0):=e;subst e';exact PySem.P.truthy_int #[H,I,q]
 |str y=>
  let[t,rfl]:=rx;obtain⟨hy,e'⟩:11 y.length/\k=((y.length:Int) != 0):=e;subst e';exact PySem.P.truthy_str 7 #[H,I.tok _,q]
 |ou y=>
  let[t,rfl]:=rx;obtain⟨hy,e'⟩:11 y.size/\k=((y.size:Int) != 0):=e;subst e';exact PySem.W.truthy_bytes 7 #[H,I.tok _,q]
 |ref p=>
  cases rx;let e':(∃xs,dv X.K H p xs/\k=!xs.isEmpty)\/(∃xs,bu X.K H p xs/\k=!xs.isEmpty)\/∃ba,H p=0 (.dK ba)/\k=!ba.isEmpty:=e;rcases e' with⟨xs,hx,e'⟩|⟨xs,hx,e'⟩|⟨ba,hx,e'⟩
  .subst e';let[its,r,pl,hz]:=I.list hx;let cW:=r.length;exact wpAny_truthy_list pl.isList (by simp only[dP];lia) #[H,I.tok _,by rw[Om r];exact q]
  .subst e';let[its,r,pl,hz]:=I.tuple hx;let cW:=r.length;exact truthy_tuple pl (by simp only[dP];lia) #[H,I.tok _,by rw[Om r];exact q]
  .subst e';obtain⟨hz,hS,vs,r,m⟩:11 ba.length/\(p==sysModules)=false/\∃vs,KV ba vs/\s.heap.DictOf (jj X.prog X.w) p vs:=I.cf p _ hx;let cW:ba.length=vs.length:=Paired.length r;exact wpAny_truthy_dict hS m 7 #[H,I.tok _,by rw[Yw r];exact q]
 |_=>exact(show False from e).elim
def Dc(ha:PE X a ta)(he:∀sU,isTrue a X.env sU=(do let v <- sU;standAt a.pos;holding [v] (truthy v))) :
  PT X a (λσ H Q=>ta σ H λx H'=>∃k,Ol X.K x H' k/\Q k H'):=by
 intro aZ s σ H Q I h;exact isTrue_plain (bg (ha aZ s σ H _ I h) λv s1 ⟨x,H1,I1,r1,q1⟩=>Yx aZ s1 σ H1 x v Q I1 r1 q1)<|he _
def vals1{x:V}(r:Vals [x] us):∃u,us=[u]/\RelV x u:=by
 cases r with
 |cons r1 r2=>cases r2;exact#[_,9,r1]
def vals2{x y:V}(r:Vals [x,y] us):∃u w',us=[u,w']/\RelV x u/\RelV y w':=by
 cases r with
 |cons r1 r2=>
  cases r2 with
  |cons r3 r4=>cases r4;exact#[_,_,9,r1,r3]
def Il:gG X (.type "int") (λxs H Q=>(∃i,xs=[2 i]/\Q (2 i) H)\/∃k,xs=[.bl k]/\Q (2<|if k then 1 else 0) H):=by
 intro aZ s σ H xs us Q I r h;rcases h with⟨i,rfl,q⟩|⟨k,rfl,q⟩
 .let[u,rfl,t,rfl]:=vals1 r;exact call_int_int #[2 i,H,I,#[_,9],q]
 .let[u,rfl,r1]:=vals1 r;cases r1;exact call_int_bool #[2 (if k then 1 else 0),H,I.tok _,#[_,9],q]
def Yy:gG X (.type "str") (λxs H Q=>∃i,xs=[2 i]/\i.natAbs.log2<1920/\Q (.str<|toString i) H):=by
 intro aZ s σ H xs us Q I r h;let[i,rfl,hz,q]:=h;let[u,rfl,t,rfl]:=vals1 r;exact PySem.P.str_of_int hz #[.str _,H,I.tok _,#[_,9],q]
end
structure Im(h:Heap)(x dx C:Addr)(mA:Str->7 5):Prop where
 obj:h.get? x=0 (PySem.W.instObj C dx)
 ns:h.Ns1 dx mA
 ne:dx≠x
def Yz{dx:Addr}{mA:Str->7 5}(n:h.Ns1 dx mA):∃od,h.get? dx=0 od/\∀name,PySem.W.lookIn name od=0 (mA name):=by
 let[o,es,ep,ho,hd,hk,_,hm]:=n;refine#[o,ho,λname=>?_];let e:=hm name;unfold nsFind findBy at e;rw[<- Array.find?_toList]at e;unfold PySem.W.lookIn;rw[hd];dsimp only;split
 .rename_i y q
  rw[q]at e;exact aj some e
 .rename_i q
  rw[q]at e;let a:es.toList.any (·.refKey)=false:=by
   rw[List.any_eq_false];intro y hy;let[z,t,YA]:=hk y<|Array.mem_toList_iff.mp hy;simp[DictEntry.refKey,YA]
  let a':¬es.toList.any (·.refKey)=6:=by rw[a];exact ia
  rw[ag a'];exact aj some e
def Im.look{x dx C:Addr}{mA:Str->7 5}(I:Im h x dx C mA):∃od,PySem.W.InstAt h x (PySem.W.instObj C dx) C (0 od)/\∀name,PySem.W.lookIn name od=0 (mA name):=(let ⟨od,ho,hl⟩:=Yz I.ns
 #[od,#[I.obj,9,9,ho],hl])
section
variable{prog:Program}{w:World}{A:Around}{E:QV}{s:Shared}{K:Frag}{x dx C f:Addr}{mA:Str->7 5}{name:Str}{v:Value}
end
def ow.some_of{o:7 5}(r:ow (0 v) o):∃u,o=0 u/\RelV v u:=by
 cases o with
 |none=>exact(show False from r).elim
 |some u=>exact#[u,9,r]
section
variable{P:Program}{w:World}{H H':Hp}{h h':Heap}{a C dx:Addr}{fs NI:5 Str V}
def YB(cf:gT P w H h)(e:H a=0 (.ins C dx fs)):∃mA,Im h a dx C mA/\(∀f,ow (fs.lookup f) (mA f))/\PySem.Within mA (fs.map (·.1))/\fs.length<=1000/\H dx=0 (.own a):=by
 let[d,z,ne,ob,mA,n,r,q]:=(show gS P w H h a (.ins C dx fs) from cf a _ e)
 exact#[mA,#[ob,n,ne],r,q,z,d]
end
structure Io(K:Frag)(C:Addr):Prop where
 pg:PySem.W.plainGet K C Str.empty=6
 hd:PySem.W.hasDictIn K C=6
 po:PySem.W.plainOver K C=6
 sa:PySem.W.findIn K (3 C) "__setattr__"=0 (0<|.builtin "object.__setattr__")
def Io.get{K:Frag}{C:Addr}(c:Io K C)(f:Str):PySem.W.plainGet K C f=6:=(c.pg)
section
variable{X:Cx}{aZ:5 Addr Obj}{σ:St}{H:Hp}{s:Shared}{a C dx:Addr}{fs:5 Str V}{f:Str}{v:V}{A:Around}{E:QV}
end
section
variable{X:Cx}{o e value:Expr}{f:Str}{pos nK YC:Pos}{ta tv:TE}
end
section
variable{X:Cx}{aZ:5 Addr Obj}{σ:St}{H:Hp}{s:Shared}{A:Around}{E:QV}{Q:QV}{c:Value}{b:Bool}
inductive oC(K:Frag)(H:Hp):V->6 5 where
 |cI:oC K H .cI (.type "NoneType")
 |bl (x:Bool):oC K H (.bl x) (.type "bool")
 |int (i:Int):oC K H (2 i) (.type "int")
 |str (x:Str):oC K H (.str x) (.type "str")
 |xS (x:UInt64):oC K H (.xS x) (.type "float")
 |lst {a:Addr} {xs:1 V} (e:H a=13 xs):oC K H (3 a) (.type "list")
 |e7 {a:Addr} {o:Obj} {xs:1 V} (e:H a=0 (.e7 o<|.lst xs)):oC K H (3 a) (.type "list")
 |tup {a:Addr} {xs:1 V} (e:H a=0 (.tup xs)):oC K H (3 a) (.type "tuple")
 |dK {a:Addr} {ba:5 Key V} (e:H a=0 (.dK ba)):oC K H (3 a) (.type "dict")
 |dT {a:Addr} {ba:5 (1 Key) V} (e:H a=0 (.dT ba)):oC K H (3 a) (.type "dict")
 |ins {a C dx:Addr} {fs:5 Str V} (e:H a=0 (.ins C dx fs)) (cl:Io K C) (ha:PySem.W.findIn K (3 C) "__class__"=0 (0<|.builtin "object.__class__"))
   (hn:PySem.W.specialIn K (.builtin "object.__class__") "__get__"=0 (0<|.builtin "getset_descriptor.__get__")) (uK:PySem.W.takesIn K (.builtin "object.__class__")=0 6)
   (hm:PySem.W.mroIn K C (.type "object")=0 6):oC K H (3 a) (3 C)
def YD{x:V}{t:Value}(I:12 X σ H s)(rx:RelV x u)(ty:oC X.K H x t)(e:kitOne X.K t c=0 b)(h:∀tk,Q (.bool b) { s with toks:=tk }) :
  15 X.prog X.w A (call (.builtin "isinstance") [u,c]) Q E s:=by
 cases ty with
 |cI=>cases(show u=Value.none from rx);exact qY PySem.W.kitx_none I.gX True.intro e (λz=>nomatch z) h
 |bl y=>cases(show u=Value.bool y from rx);exact qY PySem.W.kitx_bool I.gX True.intro e (λz=>nomatch z) h
 |int i=>let[t,q]:=(show ∃t,u=Value.int i t from rx);cases q;exact qY PySem.W.kitx_int I.gX True.intro e (λz=>nomatch z) h
 |str y=>let[t,q]:=(show ∃t,u=Value.str y t from rx);cases q;exact qY PySem.W.kitx_str I.gX True.intro e (λz=>nomatch z) h
 |xS y=>let[t,q]:=(show ∃t,u=Value.float y t from rx);cases q;exact qY PySem.W.kitx_float I.gX True.intro e (λz=>nomatch z) h
 | @lst a xs ea=>
  cases(show u=Value.ref a from rx)
  let[_,_,n,_,h1]:=(show gS X.prog X.w H s.heap a (.lst xs) from I.cf a _ ea)
  exact qY PySem.W.kitx_list I.gX #[_,h1,9] e (λz=>nomatch z) h
 | @e7 a ob xs ea=>
  cases(show u=Value.ref a from rx)
  let[_,_,_,n,_,h1]:=(show gS X.prog X.w H s.heap a (.e7 ob<|.lst xs) from I.cf a _ ea)
  exact qY PySem.W.kitx_list I.gX #[_,h1,9] e (λz=>nomatch z) h
 | @tup a xs ea=>
  cases(show u=Value.ref a from rx)
  let[_,_,_,p]:=(show gS X.prog X.w H s.heap a (.tup xs) from I.cf a _ ea)
  let[o,h1,h2,_]:=p;exact qY PySem.W.kitx_tuple I.gX #[o,h1,h2] e (λz=>nomatch z) h
 | @dK a ba ea=>
  cases(show u=Value.ref a from rx)
  let[_,_,vs,_,p]:=(show gS X.prog X.w H s.heap a (.dK ba) from I.cf a _ ea)
  let[o,es,ep,h1,h2,_]:=p;exact qY PySem.W.kitx_dict I.gX #[o,h1,h2.1] e (λz=>nomatch z) h
 | @dT a ba ea=>
  cases(show u=Value.ref a from rx)
  let[_,_,xs,_,o,es,ep,h1,h2,_]:=(show gS X.prog X.w H s.heap a (.dT ba) from I.cf a _ ea)
  exact qY PySem.W.kitx_dict I.gX #[o,h1,h2.1] e (λz=>nomatch z) h
 | @ins a C dx fs ea cl ha hn uK hm=>
  cases(show u=Value.ref a from rx)
  let[mA,O,_]:=YB I.cf ea;let[od,J,_]:=O.look;exact qY (PySem.W.kitx_own (cl.get _) cl.hd ha hn uK hm) I.gX J e (λz=>nomatch z) h
end
structure eU(k:Nat)(A:Around):Prop where
 hd:A.handled=8
 dp:A.depth+3*k+05<recursionLimit
 un:A.units+016*k+200<cLine
def eU.mono{j k:Nat}(r:eU k A)(h:j<=k):eU j A:=(#[r.hd,by let:=r.dp;lia,by let:=r.un;lia])
def eU.deeper{k:Nat}{A:Around}(r:eU (k+1) A)(env:Env):eU k (A.deeper env):=(#[r.hd,by let:=r.dp;show A.depth+1+3*k+05<_;lia,by let:=r.un;show A.units+3+016*k+200<_;lia])
def eU.depth{k:Nat}{A:Around}(r:eU k A):A.depth<recursionLimit:=by let:=r.dp;lia
def eU.units{k:Nat}{A:Around}(r:eU k A):A.units+64<cLine:=by let:=r.un;lia
def cB:TA:=λ_ H Q=>Q [] H
def bw(ta:TE)(tr:TA):TA:=λσ H Q=>ta σ H λx H1=>tr σ H1 λxs H2=>Q (x::xs) H2
section
variable{X:Cx}{e:Expr}{es:1 Expr}{te:TE}{t:TA}{pos:Pos}
def bj:PA X [] cB:=(λ_ _ _ _ H Q I h=>Calls.spliced_nil #[[],H,I,.nil,h])
def bf(ha:PE X e te)(hr:PA X es t)(hs:starEach (e::es) X.env=(false,eval e X.env)::starEach es X.env:=by rfl):PA X (e::es) (bw te t):=by
 intro pos aZ s σ H Q I h;rw[hs];show wpAny _ _ (spliced<|(false,eval e X.env)::backTo pos (starEach es X.env)) _ _ s;refine Aa (bg (ha aZ s σ H _ I h) λu s1 ⟨x,H1,I1,r1,q1⟩=>?_);exact bg (hr pos aZ s1 σ H1 _ I1 q1) λus s2 ⟨xs,H2,I2,r2,q2⟩=>#[x::xs,H2,I2,.cons r1 r2,q2]
def jz(t:TA):TE:=λσ H Q=>t σ H λxs H1=>11 21/\∀p,H1 p=8->Q (3 p) (upd H1 p<|.tup xs)
def dt(t:TA):TE:=λσ H Q=>t σ H λxs H1=>11 21/\∀p,H1 p=8->Q (3 p) (9 H1 p xs)
def eF{x1}(h:PA X es t):PE X (.Tuple es x1 pos) (jz t):=by
 intro aZ s σ H Q I hq;refine wpAny_Tuple_spliced (bg (h pos aZ s σ H _ I hq) λus s1 ⟨xs,H1,I1,r,z,q⟩=>#[by rw[<- r.length];exact z,?_]);let hf:H1 s1.heap.objs.size=8:=I1.cf.fresh<|ck _;refine#[3 s1.heap.objs.size,upd H1 s1.heap.objs.size<|.tup xs,I1.laid (t':=s1.toks) (λb u e=>dD _ e) (ck _) ?_,9,q _ hf];exact#[z,us,r,#[_,gp _ 9,9,9,_,9]]
def cK(h:PA X es t):PE X (.List es pos) (dt t):=by
 intro aZ s σ H Q I hq;refine wpAny_List_spliced (bg (h pos aZ s σ H _ I hq) λus s1 ⟨xs,H1,I1,r,z,q⟩=>#[by rw[<- r.length];exact z,?_]);let hf:H1 s1.heap.objs.size=8:=I1.cf.fresh<|ck _;refine#[3 s1.heap.objs.size,9 H1 s1.heap.objs.size xs,I1.laid (t':=s1.toks) (λb u e=>dD _ e) (ck _) ?_,9,q _ hf];exact#[z,us,0,r,gp _ 9]
end
abbrev Sp:=1 V->Hp->VK->6 XK
abbrev rn:=1 Env->Hp->Shared->XK->5->6 Shared
structure x9(P:Program)(w:World)(K:Frag)(mg:Str->7 5)(base:Heap)(A:Around)(outer:1 Env)(s:Shared)(H:Hp):Prop where
 frames:A.frames=0 outer
 mod:Mod K mg base
 bs:∀b o,base.get? b=0 o->s.heap.get? b=0 o/\H b=8
 sS:base.objs.size<=22
 pk:s.heap.FunFrames base outer
 vW:∀b∈nH outer,H b=8
 cf:gT P w H s.heap
 bare:AllBare s.gens
def CE(outer:1 Env)(P:Program)(w:World)(H:Hp)(s:Shared)(Q:VK)(u:Value)(s':Shared):Prop:=
 ∃v H',s'.os=s.os/\AllBare s'.gens/\Un (nH outer) [] H H' s.heap s'.heap/\gT P w H' s'.heap/\RelV v u/\Q v H'
def CR(CX:rn)(outer:1 Env)(P:Program)(w:World)(H:Hp)(s:Shared)(Q:VK)(E:XK)(r:Result)(s':Shared):Prop:=
 match r with
 | .ok (.ret u)=>CE outer P w H s Q u s'
 | .ok _=>False
 | .error e=>CX outer H s E e s'
structure bQ(P:Program)(w:World)(K:Frag)(mg:Str->7 5)(base:Heap)(CX:rn)(k:Nat)(f:Addr)(fd:FuncData)(ps:1 Str)(sp:Sp):Prop where
 len:∀vs H Q E,sp vs H Q E->vs.length=ps.length
 run:∀(A:Around)(outer:1 Env)(s:Shared)(H:Hp)(args:Args)(us:1 5)(vs:1 V)(Q:VK)(E:XK),eU k A->x9 P w K mg base A outer s H->BindsTo s fd args (ps.zip us)->Vals vs us->sp vs H Q E->
  codeAny (model P w) A (.call (3 f) args) (CR CX outer P w H s Q E) s
def bQ.mono{P:Program}{w:World}{K:Frag}{mg:Str->7 5}{base:Heap}{CX:rn}{j k:Nat}{f:Addr}{fd:FuncData}{ps:1 Str}{sp:Sp}(F:bQ P w K mg base CX j f fd ps sp)(h:j<=k) :
  bQ P w K mg base CX k f fd ps sp:=(#[F.len,λA outer s H args us vs Q E hr=>F.run A outer s H args us vs Q E<|hr.mono h])
def bQ.imp{P:Program}{w:World}{K:Frag}{mg:Str->7 5}{base:Heap}{k:Nat}{f:Addr}{fd:FuncData}{sp Ax:Sp}(F:bQ P w K mg base CX k f fd ps sp)
  (h:∀vs H Q E,Ax vs H Q E->sp vs H Q E):bQ P w K mg base CX k f fd ps Ax:=(#[λvs H Q E q=>F.len vs H Q E<|h _ _ _ _ q,λA outer s H args us vs Q E hr he hb hv hs=>F.run A outer s H args us vs Q E hr he hb hv<|h _ _ _ _ hs])
section
variable{X:Cx}{aZ:5 Addr Obj}{σ:St}{H:Hp}{s s':Shared}
def Inv.Ip(I:12 X σ H s):x9 X.prog X.w X.K X.mg X.base X.A X.stack s H:=(#[I.ok.frames,I.ok.mod,I.bs,eh I.ok.sS I.sz,I.stack,I.NJ,I.cf,I.bare])
def Inv.after{Q:VK}(I:12 X σ H s)(h:CE X.stack X.prog X.w H s Q u s'):EP X aZ σ Q u s':=by
 let[v,H',os,bare,un,cf,r,q]:=h;let[hh,g,d,t,YE]:=s';obtain rfl:YE=s.os:=os;exact#[v,H',I.call (h':=hh) (g':=g) (d':=d) (t':=t) (ch:=[]) un cf bare λb z=>absurd z 17,r,q]
end
def kg(sp:Sp)(uL:1 V)(E:XK)(t:TA):TE:=λσ H Q=>t σ H λvs H1=>sp (vs++uL) H1 Q E
def Binds(K:Frag)(fd:FuncData)(ps:1 Str)(ds:1 5):Prop:=
 ∀(s:Shared)(us:1 5),K.In s.heap->(us++ds).length=ps.length->BindsTo s fd #[us,[]] (ps.zip<|us++ds)
def Binds.all{K:Frag}{fd:FuncData}(h:∀us:1 5,us.length=ps.length->bindArgs fd #[us,[]]=pure (ps.zip us)):Binds K fd ps []:=(λs us _ hl=>by
 rw[iV]at hl |-;exact .of_eq<|h us hl)
def Passes(CX:rn)(X:Cx)(E:XK):Prop:=∀(aZ:5 Addr Obj)(σ:St)(H:Hp)(s:Shared)(e:Value)(s':Shared),12 X σ H s->CX X.stack H s E e s'->X.xe e s'
section
variable{X:Cx}{CX:rn}{k:Nat}{f C:Addr}{fd:FuncData}{ps:1 Str}{sp:Sp}{uL:1 V}{ds:1 5}{E:XK}{x m:Str}{p pos jV:Pos}{e o:Expr}{es:1 Expr}{ta:TE}{t:TA}
def YF{Q:VK}{vs:1 V}(F:bQ X.prog X.w X.K X.mg X.base CX k f fd ps sp)(hr:eU k X.A)(hb:Binds X.K fd ps ds)(hd:Vals uL ds)(hx:Passes CX X E)
  (I:12 X σ H s) (r:Vals vs us) (h:sp (vs++uL) H Q E):15 X.prog X.w X.A (call (3 f) us) (EP X aZ σ Q) X.xe s:=by
 let r2:Vals (vs++uL) (us++ds):=r.append hd;let hl:(us++ds).length=ps.length:=by rw[<- r2.length];exact F.len _ _ _ _ h
 refine wpAny_call<|codeAny_mono (F.run X.A X.stack s H #[us,[]] (us++ds) (vs++uL) Q E hr I.Ip (hb s us I.gX hl) r2 h) λr s' hq=>?_;cases r with
 |error e=>exact hx aZ σ H s e s' I hq
 |ok fl=>
  cases fl with
  |ret u=>exact I.after hq
  |next=>exact False.elim hq
  |brk=>exact False.elim hq
  |cont=>exact False.elim hq
def cY(F:bQ X.prog X.w X.K X.mg X.base CX k f fd ps sp)(hr:eU k X.A)(hg:Gl X x)(hm:X.mg x=8 f)(hk:Kp X.K f)(hb:Binds X.K fd ps ds)(hd:Vals uL ds)(hx:Passes CX X E)
  (ha:PA X (e::es) t) (v9:(x==("__debug__":Str))=false:=by decide) (he:starEach (e::es) X.env=(false,eval e X.env)::starEach es X.env:=by rfl) (mw:(backTo pos<|starEach es X.env).any (·.1)=false:=by rfl) :
  PE X (.Call (.Name x p) (e::es) [] pos) (kg sp uL E t):=by
 intro aZ s σ H Q I h;refine au<|HQ I hg hm ?_ v9;refine PySem.W.callWith_K (h₀:=X.base) I.ok.mod.vV hk (bg (ha pos aZ s σ H _ I h) λus s1 ⟨vs,H1,I1,r,q⟩=>#[I1.gX,?_]) he mw;exact YF F hr hb hd hx I1 r q
end
section
variable{X:Cx}{CX:rn}{k:Nat}{f C:Addr}{fd:FuncData}{ps ks:1 Str}{sp:Sp}{E:XK}{x m:Str}{p pos jV aiM:Pos}{e o:Expr}{es:1 Expr}{kws:1 Keyword}{te ta:TE}{t tk:TA}{nm:7 Str}
variable{g:1 5->1 5->1 5}{gV:1 V->1 V->1 V}
end
structure dz(N P:1 Str)(sc:Scope):Prop where
 kind:sc.kind=.function
 co:sc.isCoroutine=false
 gen:sc.isGenerator=false
 nd:N.Nodup
 pre:N.take P.length=P
 par:∀x∈P,sc.names.lookup x=0 .local\/sc.names.lookup x=0 .cell
 YG:∀y∈sc.names,y.2≠.free
def dW{N P:1 Str}{sc:Scope}(a:sc.kind=.function)(b:sc.isCoroutine=false)(c:sc.isGenerator=false)(h:N.Nodup/\(∀x∈P,sc.names.lookup x=0 .local\/sc.names.lookup x=0 .cell)/\∀y∈sc.names,y.2≠.free)(e:N.take P.length=P):dz N P sc:=(#[a,b,c,h.1,e,h.2.1,h.2.2])
theorem Oo{kindOf:Str->7 NameKind}{x:Str}:∀{binds:5 Str 5}{m:Str->7 5},(∀v,(x,v) ∉ binds)->bindL kindOf binds m x=m x
 | [],_,_=>rfl
 |(n,v)::r,m,h=>by
  unfold bindL;rw[Oo λw hw=>h w (gq _ hw)];split
  .let:x≠n:=by rintro rfl;exact h v du
   simp[this]
  .rfl
theorem Oq{kindOf:Str->7 NameKind}{x:Str}:∀{binds:5 Str 5}{m:Str->7 5},(∀v,(x,v) ∉ binds)->bindC kindOf binds m x=m x
 | [],_,_=>rfl
 |(n,v)::r,m,h=>by
  unfold bindC;rw[Oq λw hw=>h w (gq _ hw)];split
  .rfl
  .let:x≠n:=by rintro rfl;exact h v du
   simp[this]
theorem Ot{kindOf:Str->7 NameKind}{x:Str}{v:Value}:∀{P:1 Str}{vs:1 5}{i:Nat}{m:Str->7 5},P.Nodup->P[i]?=0 x->vs[i]?=0 v->kindOf x=0 .local->
  bindL kindOf (P.zip vs) m x=0 v
 | [],_,_,_,_,h,_,_=>by simp at h
 |_::_,[],_,_,_,_,h,_=>by simp at h
 |p::P,w::vs,0,m,nd,h1,h2,hk=>by
  simp at h1 h2;subst h1;subst h2;show bindL kindOf ((p,w)::P.zip vs) m p=_;unfold bindL;rw[Oo λv hv=>(Ab.mp nd).1 (Ac hv).1,af hk];simp
 |p::P,w::vs,i+1,m,nd,h1,h2,hk=>by
  show bindL kindOf ((p,w)::P.zip vs) m x=_;unfold bindL;exact Ot (i:=i) (Ab.mp nd).2 (by simpa using h1) (by simpa using h2) hk
theorem Ou{kindOf:Str->7 NameKind}{x:Str}{v:Value}:∀{P:1 Str}{vs:1 5}{i:Nat}{m:Str->7 5},P.Nodup->P[i]?=0 x->vs[i]?=0 v->kindOf x≠0 .local->
  bindC kindOf (P.zip vs) m x=0 v
 | [],_,_,_,_,h,_,_=>by simp at h
 |_::_,[],_,_,_,_,h,_=>by simp at h
 |p::P,w::vs,0,m,nd,h1,h2,hk=>by
  simp at h1 h2;subst h1;subst h2;show bindC kindOf ((p,w)::P.zip vs) m p=_;unfold bindC;rw[Oq λv hv=>(Ab.mp nd).1 (Ac hv).1,ag hk];simp
 |p::P,w::vs,i+1,m,nd,h1,h2,hk=>by
  show bindC kindOf ((p,w)::P.zip vs) m x=_;unfold bindC;exact Ou (i:=i) (Ab.mp nd).2 (by simpa using h1) (by simpa using h2) hk
def start(N:1 Str)(vs:1 V):St:=vs.map some++16 (N.length-vs.length) 8
noncomputable def oD(CX:rn)(P:Program)(w:World)(K:Frag)(mg:Str->7 5)(base:Heap)(N:1 Str)(qual:Str)(scope:Scope)(f:Addr)(cd:Value)(A:Around)(outer:1 Env)(s:Shared)(H:Hp)(E:XK):Cx where
 prog:=P
 w:=w
 K:=K
 mg:=mg
 base:=base
 A:=A.deeper (envOfC qual scope 22 f cd)
 N:=N
 s₀:=s
 H₀:=H
 env:=envOfC qual scope 22 f cd
 outer:=outer
 stack:=envOfC qual scope 22 f cd::outer
 ex:=[]
 calm:=true
 fn:=λ_=>6
 pn:=[]
 xe:=λe s'=>15 P w (A.deeper<|envOfC qual scope 22 f cd) (leaving (envOfC qual scope 22 f cd) e) (λ_ jW=>CX outer H s E e jW) (λe' jW=>CX outer H s E e' jW) s'
def Iq{sc:Scope}(h:sc.names.lookup x=0 .cell):∃c,(cellsFrom n sc.names []).lookup x=0 c:=by
 let q:=Ht sc.names n []<|.inl h;exact Hu.mp q
def Ir{P:Program}{w:World}{K:Frag}{mg:Str->7 5}{base:Heap}{N:1 Str}{qual:Str}{scope:Scope}{f:Addr}{cd:Value}{outer:1 Env}{s1:Shared}{E:XK}{vs:1 V}
  (S:dz N ps scope) (hd:A.handled=8) (e0:x9 P w K mg base A outer s H) (hl:vs.length=ps.length) (r:Vals vs us)
  (x:InCallC s 22 (bindL (envOfC qual scope 22 f cd).kindOf (ps.zip us) λ_=>8) (cellsFrom (22+1) scope.names []) (bindC (envOfC qual scope 22 f cd).kindOf (ps.zip us) λ_=>8) s1) :
  Inv (oD CX P w K mg base N qual scope f cd A outer s H E) [] (start N vs) H s1:=by
 let mw:ps.length<=N.length:=by let:=aj List.length S.pre;rw[cV]at this;lia
 let[h1,tk,rfl,hk]:=x.done;let wg:∀b:Addr,b ∉ (oD CX P w K mg base N qual scope f cd A outer s H E).ex:=λb z=>absurd (show b∈([]:1 Addr) from z) 17
 refine#[#[e0.mod,S.kind,9,9,ck _,λy z c h1 h2=>?_,λy hy=>?_,λy c _ h=>?_,λ_=>hd,Around.frames_deeper e0.frames,.inr #[9,9],λb z=>absurd z<|wg b,e0.bs,e0.sS,λb _ _=>wg b,λb z=>absurd z<|wg b,e0.pk,e0.vW],9,e0.bare,Un.kept hk,#[_,x.toInCall.ns,λi y v h1 h2 h3=>?_],λy c h=>#[_,x.cell y c h],e0.cf.fresh<|ck _,λy c h=>?_,λp hp=>absurd (show p∈([]:5 Addr Obj) from hp) 17,e0.cf.kept hk,?_]
 .exact name_of_addr x.apart (qZ h1)<|qZ h2
 .let hy:scope.names.lookup y=0 .cell\/scope.names.lookup y=0 .free:=hy;rcases hy with hy|hy
  .exact Iq hy
  .exact absurd 9<|S.YG _<|qZ hy
 .exact vP<|x.above y c<|qZ h
 .let hi:i<vs.length:=by
   unfold start at h2;by_cases hi:i<vs.length
   .exact hi
   .rw[jy (by simpa using hi)]at h2;rw[List.getElem?_replicate]at h2;split at h2<;>cases h2
  let ha:vs[i]?=0 v:=by
   unfold start at h2;rw[i9 (by simpa using hi),dR]at h2;cases e:vs[i]? with
   |none=>rw[e]at h2;cases h2
   |some a=>rw[e]at h2;cases h2;rfl
  let[u,hu,rv]:=r.get ha;let hp:ps[i]?=0 y:=by
   rw[<- S.pre,List.getElem?_take_of_lt 7];exact h1
  let Ov:ps.Nodup:=by rw[<- S.pre];exact S.nd.sublist<|List.take_sublist _ _
  refine#[u,rv,?_];rcases S.par y (dS hp)with k|k
  .exact .inl #[k,Ot Ov hp hu k]
  .let[c,e]:=Iq (n:=22+1) k;refine .inr #[.inl k,c,e,?_];let q:=x.cell y c e;rw[Ou Ov hp hu (by show scope.names.lookup y≠_;rw[k];decide)]at q;exact q
 .exact e0.cf.fresh<|vP<|x.above y c<|qZ h
 .unfold start;show _=N.length;rw[cb,bH,fg];lia
def Ow{P:Program}{w:World}{K:Frag}{mg:Str->7 5}{base:Heap}{k:Nat}{f:Addr}{name qual:Str}{params:Arguments}{scope:Scope}{dV kV doc pm cq ct oc:Value}{an od:7 Addr}
  {pC:Array (7 5)} {N ps:1 Str} {sp:Sp} (lk:K.lookup f=0 #[oc,od,.func<|fnOf name qual params body scope dV kV doc pm an cq ct,pC]) (jk:PySem.W.codeIn K cq qual=6) (S:dz N ps scope)
  (len:∀vs H Q E,sp vs H Q E->vs.length=ps.length)
  (qq:∀(A:Around)(outer:1 Env)(s:Shared)(H:Hp)(vs:1 V)(Q:VK)(E:XK),eU k (A.deeper<|envOfC qual scope 22 f cq)->sp vs H Q E->
   ∃t,kX (oD CX P w K mg base N qual scope f cq A outer s H E) body t/\t { nx:=λ_ H'=>Q .cI H',rt:=Q } (start N vs) H) :
  bQ P w K mg base CX (k+1) f (fnOf name qual params body scope dV kV doc pm an cq ct) ps sp:=by
 refine#[len,λA outer s H args us vs Q E hr e0 hb r lj=>?_];let hl:=len _ _ _ _ lj;let KX:K.In s.heap:=e0.mod.vV.keeps λb o e=>(e0.bs b o e).1;let wj:s.heap.NoLimit:=e0.mod.nolimit.keeps λb o e=>(e0.bs b o e).1;let Ay:∀y∈ps.zip us,scope.names.lookup y.1=0 .local\/(scope.names.lookup y.1=0 .cell/\((cellsFrom (22+1) scope.names []).lookup y.1).isSome=6):=λ⟨n,v⟩ hy=>by
  rcases S.par n (Ac hy).1 with q|q
  .exact .inl q
  .exact .inr #[q,Ht _ _ _<|.inl q]
 refine codeAny_call_function hr.depth (KX _ _ lk) 9 S.co S.gen 9 (PySem.W.codeRec_of KX jk)<|hb _ _ _ _ ?_;refine av S.kind Ay λenv he s1 x=>?_;subst he;refine#[wj.keeps x.toInCall.keep,codeAny_func ?_];let[t,ht,hq]:=qq A outer s H vs Q E (hr.deeper _) lj;let I:Inv (oD CX P w K mg base N qual scope f cq A outer s H E) [] (start N vs) H s1:=Ir S hr.hd e0 hl r x;refine ah (ht [] s1 (start N vs) H _ I hq) (λfl s' hs=>?_) λe s' hs=>hs;let fin:∀{σ':St}{H':Hp}{v:V}{u:Value},Inv (oD CX P w K mg base N qual scope f cq A outer s H E) [] σ' H' s'->RelV v u->Q v H'->CE outer P w H s Q u s':=
  λ{σ' H' v u} J rv q=>#[v,H',J.os,J.bare,J.base,J.cf,rv,q]
 cases fl with
 |ret u=>
  let[v,σ',H',J,rv,q]:=hs;exact fin J rv q
 |next=>
  let[σ',H',J,q]:=hs;exact fin (v:=V.cI) (u:=Value.none) J 9 q
 |brk=>
  let[_,_,_,q]:=hs;exact False.elim q
 |cont=>
  let[_,_,_,q]:=hs;exact False.elim q
section
variable{X:Cx}{x:Str}{p pos:Pos}{e:Expr}{es:1 Expr}{t:TA}{id T:String}{r:1 V->Hp->6 VK}
def qr(r:1 V->Hp->6 VK)(t:TA):TE:=λσ H Q=>t σ H λvs H1=>r vs H1 Q
def iW(hc:gG X (.builtin id) r)(hg:Gl X x)(hm:X.mg x=8)(hv:bootBuiltins x=0 (.builtin id))(ha:PA X (e::es) t)(hn:x ≠ "__name__":=by decide)(v9:(x==("__debug__":Str))=false:=by decide)
  (he:starEach (e::es) X.env=(false,eval e X.env)::starEach es X.env:=by rfl) (mw:(backTo pos<|starEach es X.env).any (·.1)=false:=by rfl):PE X (.Call (.Name x p) (e::es) [] pos) (qr r t):=by
 intro aZ s σ H Q I h;refine au<|sV I hg hm hv ?_ hn v9;exact PyProof.Rows.callWith_builtin1 (bg (ha pos aZ s σ H _ I h) λus s1 ⟨vs,H1,I1,r1,q1⟩=>hc aZ s1 σ H1 vs us Q I1 r1 q1) he mw
def jl(hc:gG X (.type T) r)(hg:Gl X x)(hm:X.mg x=8)(hv:bootBuiltins x=0 (.type T))(ha:PA X (e::es) t)(hn:x ≠ "__name__":=by decide)(v9:(x==("__debug__":Str))=false:=by decide)
  (he:starEach (e::es) X.env=(false,eval e X.env)::starEach es X.env:=by rfl) (mw:(backTo pos<|starEach es X.env).any (·.1)=false:=by rfl):PE X (.Call (.Name x p) (e::es) [] pos) (qr r t):=by
 intro aZ s σ H Q I h;refine au<|sV I hg hm hv ?_ hn v9;exact zZ (bg (ha pos aZ s σ H _ I h) λus s1 ⟨vs,H1,I1,r1,q1⟩=>hc aZ s1 σ H1 vs us Q I1 r1 q1) he mw
end
end L2
namespace HT
open PySem PyProof.Rows
section
open PySem.SeqAt
open PySem.AutoSeq1 (wpAny_loadPart')
open PySem.MeetsSeq PySem.MeetsSeq2 PySem.MeetsSeq3
end
section
variable{prog:Program}{w:World}{A:Around}{E:QV}{s:Shared}
def YH{t b:Addr}{vs ws:1 5}{Q:QV}(ht:IsTup s.heap t vs.toArray)(hb:IsTup s.heap b ws.toArray)(hv:vs≠[])
  (h1:ws=[]->Q (3 t) s) (h2:ws≠[]->Q (3 22) { s with heap:=s.heap.push { cls:=.type "tuple",data:=.seq (vs++ws).toArray } })
  (hsz:11 (vs.length+ws.length)):15 prog w A (binaryOp .Add (3 t)<|3 b) Q E s:=by
 let[[cls,dd,data,sl],ho,hc,n,hd]:=id ht;let[[aiN,Dd,data2,De],Df,tq,n2,Az]:=id hb;simp only at hc hd tq Az;subst hc hd tq Az;let e:vs.toArray++ws.toArray=(vs++ws).toArray:=by simp
 by_cases hw:ws=[]
 .exact concat_meets #[_,ho,9] #[_,Df,9] noFill_tuple_add seq_tuple_add PySem.F.slot_tuple_add PySem.F.entry_tuple_add (PySem.F.args_tuple_add_2 _ _) (tuple_addW1 t b vs.toArray ws.toArray n n2 dd Dd sl De (by simpa using hv)<|by simp[hw]) #[ho,Df,h1 hw]
 .refine concat_meets #[_,ho,9] #[_,Df,9] noFill_tuple_add seq_tuple_add PySem.F.slot_tuple_add PySem.F.entry_tuple_add (PySem.F.args_tuple_add_2 _ _) (tuple_addW2 t b vs.toArray ws.toArray n n2 dd Dd sl De (by simpa using hv) (by simpa using hw)<|by rw[dP,dP];exact hsz) #[ho,Df,?_]
  rw[e];exact h2 hw
noncomputable def cS(n d:Nat):7 Int->Nat
 |none=>d
 |some v=>if v<0 then(v+(n:Int)).toNat else min v.toNat n
def wk(n d:Nat):cS n d 8=d:=(rfl)
def rK(n d k:Nat):cS n d (0 (k:Int))=min k n:=by
 show(if(k:Int)<0 then((k:Int)+(n:Int)).toNat else min (k:Int).toNat n)=min k n
 rw[ag 7,Int.toNat_natCast]
def YI(n d:Nat)(hd:d<=n)(o:7 Int):cS n d o<=n:=by
 cases o with
 |none=>exact hd
 |some v=>
  show(if v<0 then(v+(n:Int)).toNat else min v.toNat n)<=n
  by_cases hv:v<0
  .rw[af hv];lia
  .rw[ag hv];exact Nat.min_le_right _ _
def Ox(v:Int)(n d:Nat):(if v<0 then max (v+(n:Int)) 0 else min v (n:Int))=((cS n d<|0 v:Nat):Int):=by
 show(if v<0 then max (v+(n:Int)) 0 else min v (n:Int))=(((if v<0 then(v+(n:Int)).toNat else min v.toNat n):Nat):Int)
 by_cases hv:v<0
 .simp only[af hv];lia
 .simp only[ag hv];lia
def YJ(lo hi:7 Int)(n:Nat):Builtin.Slice.sliceAdjust lo hi 1 (n:Int)=(((cS n 0 lo:Nat):Int),((cS n n hi:Nat):Int)):=by
 let h1:¬((1:Int)<0):=by lia
 unfold Builtin.Slice.sliceAdjust;simp only[h1,if_false];refine Prod.ext ?_ ?_
 .cases lo with
  |none=>rfl
  |some v=>exact Ox v n 0
 .cases hi with
  |none=>rfl
  |some v=>exact Ox v n n
def YK(i j:Nat):Builtin.Slice.slicePlaces (i:Int) (j:Int) 1=j-i:=by
 unfold Builtin.Slice.slicePlaces;let h1:(1:Int)>0:=by lia
 simp only[h1,if_true,Int.ediv_one];split<;>lia
def Oy{v:Value}{o:7 Int}{Q:7 Int->6 Shared}(p:IsPart v o)(h:Q o s):15 prog w A (Builtin.Slice.slicePartIndex v) Q E s:=by
 cases p with
 |none=>exact slicePart_none h
 |int i t=>exact slicePart_int h
def Oz{sl:Addr}{vl vu:Value}{lo hi:7 Int}{n:Nat}{Q:Int×Int×Nat->6 Shared}(hs:s.heap.IsSliceOf sl vl vu .none)(pl:IsPart vl lo)(pu:IsPart vu hi)
  (h:Q (((cS n 0 lo:Nat):Int),1,cS n n hi-cS n 0 lo) s):15 prog w A (Builtin.Slice.sliceApplied (3 sl)<|pure (n:Int)) Q E s:=by
 let[os,wm,Dg,AA]:=id hs;unfold Builtin.Slice.sliceApplied Builtin.Slice.sliceFields;refine aq<|aq<|aA wm AA (x:=vl) 9<|aq<|aA wm AA (x:=vu) 9<|aq<|aA wm AA (x:=.none) 9<|ao ?_;refine aq<|slicePart_none ?_;show wpAny _ _ (if((1:Int)==0)=6 then _ else _) _ _ s
 rw[ag 16];refine aq<|Oy pl<|aq<|Oy pu<|aq<|ao ?_;show wpAny _ _ (match Builtin.Slice.sliceAdjust lo hi 1 (n:Int)with|(lo,hi)=>pure (lo,(1:Int),Builtin.Slice.slicePlaces lo hi 1)) _ _ s
 rw[YJ lo hi n];show wpAny _ _ (pure (((cS n 0 lo:Nat):Int),(1:Int),Builtin.Slice.slicePlaces ((cS n 0 lo:Nat):Int) ((cS n n hi:Nat):Int) 1)) _ _ s;rw[YK];exact ao h
def YL(xs:Array 5)(i k:Nat):((List.range k).filterMap λ(m:Nat)=>xs[((i:Int)+(m:Int)*1).toNat]?).toArray=((xs.toList.drop i).take k).toArray:=by
 let e:(λ(m:Nat)=>xs[((i:Int)+(m:Int)*1).toNat]?)=λm=>xs[i+m]?:=by
  funext m
  let:((i:Int)+(m:Int)*1).toNat=i+m:=by lia
  rw[this]
 rw[e]
 let:=pick_run xs i k
 rw[List.filterMap_map]at this;let e2:((λx=>xs[x]?) ∘ λx=>i+x)=λm=>xs[i+m]?:=9;rw[e2]at this;rw[this]
def YM{t sl:Addr}{items:Array 5}{vl vu:Value}{lo hi:7 Int}{Q:QV}(ht:IsTup s.heap t items)(hs:s.heap.IsSliceOf sl vl vu .none)(pl:IsPart vl lo)(pu:IsPart vu hi)
  (hw:¬(cS items.size 0 lo=0/\cS items.size items.size hi=items.size))
  (h:Q (3 22) { s with heap:=s.heap.push { cls:=.type "tuple",data:=.seq ((items.toList.drop<|cS items.size 0 lo).take<|cS items.size items.size hi-cS items.size 0 lo).toArray } })
  (hsz:11 items.size):15 prog w A (getItem (3 t)<|3 sl) Q E s:=by
 let Dh:sizeOk (.seq ((items.toList.drop<|cS items.size 0 lo).take<|cS items.size items.size hi-cS items.size 0 lo).toArray):=by
  show 11 ((items.toList.drop<|cS items.size 0 lo).take<|cS items.size items.size hi-cS items.size 0 lo).toArray.size;rw[dP,cV,dU,xH];lia
 let hj:cS items.size items.size hi<=items.size:=YI _ _ (ck _) hi;let[os,wm,Dg,AA]:=id hs;let Iu:s.TypeIs (3 sl) "slice":=#[os,wm,Dg];unfold getItem
 try with_reducible refine aC ?_
 first|refine aq<|ao ?_|skip
 refine aq<|wpAny_sequenceKey ht.typeIs 16 ?_;refine aq (aE (name:=4 "__getitem__") ht.typeIs CM (aF CM ht.typeIs entry_tuple_getitem ?_<|args_tuple_getitem _ _));show wpAny _ _ (Builtin.Tuple.tupleItemsOf (3 t) >>= _) _ _ s;refine aq<|tupleItemsOf_ ht ?_;refine aq<|wpAny_typeOf Iu ?_;rw[af 16];refine aq<|Oz hs pl pu ?_;let ya:¬((((cS items.size 0 lo:Nat):Int)==0&&(1:Int)==1&&(cS items.size items.size hi-cS items.size 0 lo)==items.size)=6):=by
  intro q;rw[dM,dM]at q;let q1:((cS items.size 0 lo:Nat):Int)=0:=eq_of_beq q.1.1;let q2:cS items.size items.size hi-cS items.size 0 lo=items.size:=eq_of_beq q.2;exact hw #[7,7]
 show wpAny _ _ (if(((cS items.size 0 lo:Nat):Int)==0&&(1:Int)==1&&(cS items.size items.size hi-cS items.size 0 lo)==items.size)=6 then _ else _) _ _ s
 rw[ag ya,YL];first
  |exact aq (m:=Builtin.Tuple.tupleExact _) (aG (ao #[_,9,ao h]) Dh)
  |exact aq (m:=Builtin.Tuple.tupleExact _) (aG (aq<|ao<|ao #[_,9,ao h]) Dh)
  |exact aq (aq (m:=Builtin.Tuple.tupleExact _) (aG (ao<|ao #[_,9,ao h]) Dh))
  |exact aq (aq (m:=Builtin.Tuple.tupleExact _) (aG (ao #[_,9,ao h]) Dh))
end
end HT
namespace L2
open PySem PySem.Spec PyProof.Rows
variable{n:Nat}{x:V}{α:Type}
abbrev TO:=St->Hp->(7 Int->6 Hp)->Prop
def PO(X:Cx)(e:7 Expr)(t:TO):Prop:=
 ∀(aZ:5 Addr Obj)(s:Shared)(σ:St)(H:Hp)(Q:7 Int->6 Hp),12 X σ H s->t σ H Q->
  15 X.prog X.w X.A (evalPart e X.env) (λu s'=>∃o H',12 X σ H' s'/\IsPart u o/\Q o H') X.xe s
def lU:TO:=λ_ H Q=>Q 8 H
def jA(t:TE):TO:=λσ H Q=>t σ H λx H1=>∃i,x=2 i/\Q (0 i) H1
section
variable{X:Cx}{e:Expr}{te:TE}{lo hi:7 Expr}{tl th:TO}{pos p2:Pos}
def ik:PO X 8 lU:=by
 intro aZ s σ H Q I h;rw[evalPart_none];exact ao #[8,H,I,.none,h]
def eM(h:PE X e te):PO X (0 e) (jA te):=by
 intro aZ s σ H Q I hw;rw[evalPart_some];refine bg (h aZ s σ H _ I hw) λu s1 ⟨x,H1,I1,r1,q1⟩=>?_;let[i,rfl,q]:=q1;let[t,rfl]:=r1;exact#[0 i,H1,I1,.int i t,q]
def yd(X:Cx)(r:V->7 Int->7 Int->Hp->6 VK):Prop:=
 ∀(aZ:5 Addr Obj)(s:Shared)(σ:St)(H:Hp)(x:V)(v vl vu:Value)(lo hi:7 Int)(sl:Addr)(Q:VK),12 X σ H s->RelV x v->s.heap.IsSliceOf sl vl vu .none->IsPart vl lo->IsPart vu hi->r x lo hi H Q->
  ∃T id,typeLookup (.type T) "__getitem__"=pure (0<|.builtin id)/\s.TypeIs v T/\15 X.prog X.w X.A (getItem v<|3 sl) (EP X aZ σ Q) X.xe s
def kh(r:V->7 Int->7 Int->Hp->6 VK)(te:TE)(tl th:TO):TE:=λσ H Q=>te σ H λx H1=>tl σ H1 λl H2=>th σ H2 λu H3=>r x l u H3 Q
def fQ{r:V->7 Int->7 Int->Hp->6 VK}(hr:yd X r)(he:PE X e te)(hl:PO X lo tl)(hu:PO X hi th):PE X (.Subscript e (.Slice lo hi 8 p2) pos) (kh r te tl th):=by
 intro aZ s σ H Q I h;refine Subscript_ (bg (he aZ s σ H _ I h) λv s1 ⟨x,H1,I1,r1,q1⟩=>?_);refine wpAny_Slice (bg (hl aZ s1 σ H1 _ I1 q1) λvl s2 ⟨l,H2,I2,pl,q2⟩=>bg (hu aZ s2 σ H2 _ I2 q2) λvu s3 ⟨u,H3,I3,pu,q3⟩=>?_);rw[evalPart_none];refine ao ?_;let I4:12 X σ H3 { s3 with heap:=s3.heap.push { cls:=.type "slice",data:=.fields #[vl,vu,.none,] } }:=I3.kept (t':=s3.toks) λb ob q=>dD _ q;let[T,id,hT,ht,hg]:=hr aZ { s3 with heap:=s3.heap.push { cls:=.type "slice",data:=.fields #[vl,vu,.none,] } } σ H3 x v vl vu l u s3.heap.objs.size Q I4 r1 (Heap.IsSliceOf.new ..) pl pu q3;show 15 X.prog X.w X.A (subscriptTail e (.Slice lo hi 8 p2) v<|3 s3.heap.objs.size) (EP X aZ σ Q) X.xe { s3 with heap:=s3.heap.push { cls:=.type "slice",data:=.fields #[vl,vu,.none,] } };exact tail_any (ops:=[3 s3.heap.objs.size,v]) ht hT hg (by with_unfolding_all rfl)
def gJ(xs:1 V)(lo hi:7 Int):1 V:=(xs.drop<|HT.cS 21 0 lo).take<|HT.cS 21 21 hi-HT.cS 21 0 lo
def OA(xs:1 V)(lo hi:7 Int):(gJ xs lo hi).length<=21:=by
 unfold gJ;rw[cV,dU];lia
def YN(K:Frag):V->7 Int->7 Int->Hp->6 VK:=λx lo hi H Q=>∃a xs,x=3 a/\bu K H a xs/\
 ¬(HT.cS 21 0 lo=0/\HT.cS 21 21 hi=21)/\∀p,H p=8->Q (3 p) (upd H p<|.tup<|gJ xs lo hi)
def YO:yd X (YN X.K):=by
 intro aZ s σ H x v vl vu lo hi sl Q I rx hs pl pu h;let[a,xs,rfl,hx,hw,q]:=h;cases rx;let[its,r,ht,hz]:=I.tuple hx;let cW:its.toArray.size=21:=by rw[dP];exact r.length.symm
 refine#["tuple",_,CM.lookup,ht.typeIs,?_];refine HT.YM ht hs pl pu (by rw[cW];exact hw) ?_ (by rw[cW];exact hz);rw[cW];refine#[3 22,_,I.laid (t':=s.toks) (o:=.tup<|gJ xs lo hi) (λb ob q=>dD _ q) (ck _) ?_,9,q _<|I.cf.fresh<|ck _];exact#[eh (OA xs lo hi) hz,_,(r.drop<|HT.cS 21 0 lo).take<|HT.cS 21 21 hi-HT.cS 21 0 lo,qj.new _ _]
def YQ(K:Frag):R2:=λx y H Q=>∃a b xs ys,x=3 a/\y=3 b/\bu K H a xs/\bu K H b ys/\xs≠[]/\11 (21+ys.length)/\
 (ys=[]->Q (3 a) H)/\(ys≠[]->∀p,H p=8->Q (3 p) (upd H p<|.tup<|xs++ys))
def Vals.wo{xs:1 V}{us:1 5}(r:Vals xs us):us=[]↔xs=[]:=by
 cases r with
 |nil=>simp
 |cons _ _=>simp
def YR:fN X (binaryOp .Add) (YQ X.K):=by
 intro aZ s σ H x y v u Q I rx ry h;let[a,b,xs,ys,rfl,rfl,ha,hb,hx,hz,q1,q2]:=h;cases rx;cases ry;let[its,r1,p1,_]:=I.tuple ha;let[ki,r2,p2,_]:=I.tuple hb;refine HT.YH p1 p2 (λz=>hx<|r1.wo.mp z) (λz=>#[3 a,H,I,9,q1<|r2.wo.mp z]) (λz=>?_) (by rw[<- r1.length,<- r2.length];exact hz);refine#[3 22,_,I.laid (t':=s.toks) (o:=.tup<|xs++ys) (λb ob q=>dD _ q) (ck _) ?_,9,q2 (λw=>z<|r2.wo.mpr w) _<|I.cf.fresh<|ck _];exact#[by rw[cb];exact hz,_,r1.append r2,qj.new _ _]
end
def uM(n:Nat)(i:Int):7 Nat:=if 0<=i then(if i<n then 0 i.toNat else none)else if -(n:Int)<=i then 0 (i+n).toNat else none
def rL(xs:1 α)(i:Int):7 α:=(uM 21 i).bind λj=>xs[j]?
def YT{i:Int}{j:Nat}(h:uM n i=0 j):seqIndex? i n=0 j/\j<n/\-(n:Int)<=i/\i<n:=by
 unfold uM at h;by_cases h0:0<=i
 .rw[af h0]at h;by_cases h1:i<n
  .rw[af h1]at h;let e:i.toNat=j:=dJ h;exact#[by rw[seqIndex_of h0 h1,e],7,7,h1]
  .rw[ag h1]at h;cases h
 .rw[ag h0]at h;by_cases h1:-(n:Int)<=i
  .rw[af h1]at h;let e:(i+n).toNat=j:=dJ h;exact#[by rw[seqIndex_neg 7 h1,e],7,h1,7]
  .rw[ag h1]at h;cases h
def OB{xs:1 α}{i:Int}{v:α}(h:rL xs i=0 v):∃j,seqIndex? i 21=0 j/\xs[j]?=0 v/\j<21/\-(xs.length:Int)<=i/\i<21:=by
 unfold rL at h;cases e:uM 21 i with
 |none=>rw[e]at h;cases h
 |some j=>
  rw[e]at h;let[h1,h2,h3,h4]:=YT e;exact#[j,h1,h,h2,h3,h4]
def cm{xs:1 α}{j:Nat}{v:α}(h:xs[j]?=0 v):rL xs (j:Int)=0 v:=by
 let hj:j<21:=(eA.mp h).1;let e:uM 21 (j:Int)=0 j:=by
  unfold uM;rw[af 7,af 7];simp
 unfold rL;rw[e];exact h
def OC(xs:1 α)(v:α):rL (xs++[v]) (-1)=0 v:=by
 let hl:(xs++[v]).length=21+1:=by simp
 let e:uM (xs++[v]).length (-1)=0 21:=by
  unfold uM;rw[hl,ag 16,af 7]
  congr 1
  lia
 unfold rL;rw[e];show(xs++[v])[xs.length]?=0 v;simp
def YU(b:Expr):Prop:=∀o i,subscripted b false o i=operate [o,i] (getItem o i)
def AB(X:Cx)(r:R2):Prop:=
 ∀(value slice:Expr)(aZ:5 Addr Obj)(s:Shared)(σ:St)(H:Hp)(x y:V)(v u:Value)(Q:VK),12 X σ H s->RelV x v->RelV y u->r x y H Q->
  subscripted slice false v u=operate [v,u] (getItem v u)->15 X.prog X.w X.A (subscriptTail value slice v u) (EP X aZ σ Q) X.xe s
def Iv(X:Cx)(id:String)(r:V->1 V->Hp->6 VK):Prop:=
 ∀(aZ:5 Addr Obj)(s:Shared)(σ:St)(H:Hp)(x:V)(xs:1 V)(v:Value)(us:1 5)(Q:VK),12 X σ H s->RelV x v->Vals xs us->r x xs H Q->
  15 X.prog X.w X.A (call (.builtin id)<|v::us) (EP X aZ σ Q) X.xe s
section
variable{X:Cx}{a b:Expr}{ta tb:TE}{pos:Pos}
def bZ{r:R2}(hr:AB X r)(ha:PE X a ta)(hb:PE X b tb)(hs:YU b:=by exact λ_ _=>9):PE X (.Subscript a b pos) (bY r ta tb):=by
 intro aZ s σ H Q I h;exact Subscript_<|Ib ha hb I h λv u s2 x y H2 I2 rx ry q=>hr a b aZ s2 σ H2 x y v u Q I2 rx ry q<|hs _ _
inductive OD(K:Frag)(x:V)(y:V)(H:Hp)(Q:VK):Prop where
 |mk (p xs i v:_) (pq:x=3 p) (px:y=2 i) (qp:dv K H p xs) (uI:rL xs i=0 v) (wq:Q v H):OD K x y H Q
def nO(K:Frag):R2:=λx y H Q=>OD K x y H Q
inductive OE(K:Frag)(x:V)(y:V)(H:Hp)(Q:VK):Prop where
 |mk (p xs i v:_) (pq:x=3 p) (px:y=2 i) (qp:bu K H p xs) (uI:rL xs i=0 v) (wq:Q v H):OE K x y H Q
def rM(K:Frag):R2:=λx y H Q=>OE K x y H Q
def YV:AB X (nO X.K):=by
 intro value slice aZ s σ H x y v u Q I rx ry h hs;let[p,xs,i,z,rfl,rfl,hq,he,q]:=h;cases rx;let[t,rfl]:=ry;let[its,r,pl,hz]:=I.list hq;let[j,h1,h2,h3,h4,h5]:=OB he;let[w,ew,qt]:=r.get h2;let hl:=r.length;let hn:=C9;let fin:EP X aZ σ Q w s:=#[z,H,I,qt,q];by_cases h0:0<=i
 .let hj:i.toNat=j:=by
   rw[seqIndex_of h0 h5]at h1;exact dJ h1
  exact item_listR pl.isList h0 7 (by rw[hj];simpa using ew) fin hs
 .let hj:(i+(its.toArray.size:Int)).toNat=j:=by
   rw[seqIndex_neg 7 h4]at h1;rw[dP,<- hl];exact dJ h1
  exact subscriptTail_builtinR (x:=w) pl.isList.typeIs slot_list_getitem.lookup (wpAny_getItem_list_neg (Q:=λr s'=>r=w/\EP X aZ σ Q r s') pl.isList (by lia) (by rw[dP]<;>lia) (by lia) (by rw[hj];simpa using ew) #[9,fin]) hs
def YW:AB X (rM X.K):=by
 intro value slice aZ s σ H x y v u Q I rx ry h hs;let[p,xs,i,z,rfl,rfl,hq,he,q]:=h;cases rx;let[t,rfl]:=ry;let[its,r,pl,hz]:=I.tuple hq;let[j,h1,h2,h3,h4,h5]:=OB he;let[w,ew,qt]:=r.get h2;let hl:=r.length;let hn:=C9;let fin:EP X aZ σ Q w s:=#[z,H,I,qt,q];exact subscriptTail_builtinR (x:=w) pl.typeIs slot_tuple_getitem.lookup (getItem_tuple (j:=j) (Q:=λr s'=>r=w/\EP X aZ σ Q r s') pl (by lia) (by lia) (by rw[dP,<- hl];exact h1) (by simpa using ew) #[9,fin]) hs
def YX(lo hi:7 Int)(n:Nat):(sliceBounds lo hi 8 n).1=((HT.cS n 0 lo:Nat):Int)/\(sliceBounds lo hi 8 n).2.1=((HT.cS n n hi:Nat):Int)/\(sliceBounds lo hi 8 n).2.2=1:=by
 refine#[?_,?_,9]
 .cases lo with
  |none=>simp[sliceBounds,HT.cS]
  |some i=>
   simp only[sliceBounds,HT.cS,Option.getD_none,show(1:Int)>0 by decide,if_true];by_cases h:i<0
   .simp only[h,if_true]<;>lia
   .simp only[h,if_false]<;>lia
 .cases hi with
  |none=>simp[sliceBounds,HT.cS]
  |some i=>
   simp only[sliceBounds,HT.cS,Option.getD_none,show(1:Int)>0 by decide,if_true];by_cases h:i<0
   .simp only[h,if_true]<;>lia
   .simp only[h,if_false]<;>lia
def YY(its:1 5)(lo hi:7 Int):slicePick its.toArray lo hi 8=((its.drop<|HT.cS its.length 0 lo).take<|HT.cS its.length its.length hi-HT.cS its.length 0 lo).toArray:=by
 let[h1,h2,h3]:=YX lo hi its.toArray.size;unfold slicePick;rw[h1,h2,h3];simp only[sliceRange_one,pick_run,dP]<;>rfl
inductive OF(K:Frag)(x:V)(lo:7 Int)(hi:7 Int)(H:Hp)(Q:VK):Prop where
 |mk (a xs:_) (pq:x=3 a) (px:dv K H a xs) (qp:∀p,H p=8->Q (3 p) (9 H p<|gJ xs lo hi)):OF K x lo hi H Q
def yf(K:Frag):V->7 Int->7 Int->Hp->6 VK:=λx lo hi H Q=>OF K x lo hi H Q
def YZ:yd X (yf X.K):=by
 intro aZ s σ H x v vl vu lo hi sl Q I rx hs pl pu h;let[a,xs,rfl,hx,q]:=h;cases rx;let[its,r,ht,hz]:=I.list hx;let cW:=r.length;refine#["list",_,slot_list_getitem.lookup,ht.isList.typeIs,?_];refine wpAny_getItem_list_slice ht.isList hs pl pu .none 17 ?_ (by rw[dP]<;>lia)
 rw[YY,<- cW];refine#[3 22,_,I.laid (t':=s.toks) (o:=.lst<|gJ xs lo hi) (λb ob q=>dD _ q) (ck _) ?_,9,q _<|I.cf.fresh<|ck _];exact#[eh (OA xs lo hi) hz,_,0,(r.drop<|HT.cS 21 0 lo).take<|HT.cS 21 21 hi-HT.cS 21 0 lo,gp _ 9]
noncomputable def rN:V->Bool
 | .cI=>true
 | .bl _=>true
 | .int _=>true
 | .str _=>true
 |_=>false
noncomputable def mx:V->V->Bool
 | .cI,.cI=>true
 | .bl a,.bl b=>a==b
 | .bl a,.int b=>(if a then 1 else 0)==b
 | .int a,.bl b=>a==(if b then 1 else 0)
 | .int a,.int b=>a==b
 | .str a,.str b=>a==b
 |_,_=>false
def Y0{A:Around}{s:Shared}{y:V}{u v:Value}(ry:RelV y u)(rx:RelV x v)(fy:rN y=6)(fx:rN x=6):SeqAt.EqAt A s u v (mx y x):=by
 cases y with
 |cI=>
  cases ry;cases x with
  |cI=>cases rx;exact SeqAt.EqAt.same _
  |bl b=>cases rx;exact SeqAt.EqAt.none_bool b
  |int b=>let[t,rfl]:=rx;exact SeqAt.EqAt.none_int b t
  |str b=>let[t,rfl]:=rx;exact SeqAt.EqAt.none_str b t
  |_=>exact absurd (show false=6 from fx) ia
 |bl a=>
  cases ry;cases x with
  |cI=>cases rx;exact SeqAt.EqAt.bool_none a
  |bl b=>cases rx;exact SeqAt.EqAt.bool_bool a b
  |int b=>let[t,rfl]:=rx;exact SeqAt.EqAt.bool_int a b t
  |str b=>let[t,rfl]:=rx;exact SeqAt.EqAt.bool_str a b t
  |_=>exact absurd (show false=6 from fx) ia
 |int a=>
  let[t',rfl]:=ry;cases x with
  |cI=>cases rx;exact SeqAt.EqAt.int_none a t'
  |bl b=>cases rx;exact SeqAt.EqAt.int_bool a t' b
  |int b=>let[t,rfl]:=rx;exact SeqAt.EqAt.int_int a t' b t
  |str b=>let[t,rfl]:=rx;exact SeqAt.EqAt.int_str a t' b t
  |_=>exact absurd (show false=6 from fx) ia
 |str a=>
  let[t',rfl]:=ry;cases x with
  |cI=>cases rx;exact SeqAt.EqAt.str_none a t'
  |bl b=>cases rx;exact SeqAt.EqAt.str_bool a t' b
  |int b=>let[t,rfl]:=rx;exact SeqAt.EqAt.str_int a t' b t
  |str b=>let[t,rfl]:=rx;exact SeqAt.EqAt.str_str a t' b t
  |_=>exact absurd (show false=6 from fx) ia
 |_=>exact absurd (show false=6 from fy) ia
def tE(x:V)(u:Value):Bool:=match u with
 | .none=>mx .cI x
 | .bool b=>mx (.bl b) x
 | .int i _=>mx (2 i) x
 | .str z _=>mx (.str z) x
 |_=>false
def OG{y:V}{u:Value}(r:RelV y u)(f:rN y=6):tE x u=mx y x:=by
 cases y with
 |cI=>cases r;rfl
 |bl b=>cases r;rfl
 |int i=>let[t,rfl]:=r;rfl
 |str z=>let[t,rfl]:=r;rfl
 |_=>exact absurd (show false=6 from f) ia
theorem Iw{x:V}:∀{xs:1 V}{us:1 5},Vals xs us->xs.all rN=6->us.any (tE x)=xs.any λy=>mx y x
 |_,_,.nil,_=>rfl
 |y::xs,u::us,.cons r t,f=>by
  rw[List.all_cons,dM]at f;rw[List.any_cons,List.any_cons,OG r f.1,Iw t f.2]
theorem Iy{A:Around}{s:Shared}{x:V}{v:Value}(rx:RelV x v)(fx:rN x=6):∀{xs:1 V}{us:1 5},Vals xs us->xs.all rN=6->∀u∈us,SeqAt.EqAt A s u v (tE x u)
 |_,_,.nil,_=>λu hu=>by cases hu
 |y::xs,u::us,.cons r t,f=>λu' hu=>by
  rw[List.all_cons,dM]at f;rcases eK.mp hu with rfl|hu
  .rw[OG r f.1];exact Y0 r rx f.1 fx
  .exact Iy rx fx t f.2 u' hu
def rO(x:V)(xs:1 V):Bool:=xs.any λy=>mx y x
def OH(K:Frag)(neg:Bool):R2:=λx y H Q=>∃p xs,y=3 p/\(dv K H p xs\/bu K H p xs)/\rN x=6/\xs.all rN=6/\Q (.bl<|if neg then ! rO x xs else rO x xs) H
def Y1:fN X (compareOp .In) (OH X.K false):=by
 intro aZ s σ H x y v u Q I rx ry h;let[p,xs,rfl,hq,fx,fs,q]:=h;cases ry;rcases hq with hq|hq
 .let[its,r,pl,hz]:=I.list hq;refine SeqAt.in_listAt (tE x) pl.isList (λw hw=>Iy rx fx r fs w<|by simpa using hw) #[.bl _,H,I,9,?_];rw[show its.toArray.any (tE x)=its.any (tE x) by simp,Iw r fs];exact q
 .let[its,r,pl,hz]:=I.tuple hq;refine SeqAt.in_tupleAt (tE x) pl (λw hw=>Iy rx fx r fs w<|by simpa using hw) #[.bl _,H,I,9,?_];rw[show its.toArray.any (tE x)=its.any (tE x) by simp,Iw r fs];exact q
def Y2:gG X (.builtin "len") (λxs H Q=>∃p ys,xs=[3 p]/\(dv X.K H p ys\/bu X.K H p ys)/\Q (2 ys.length) H):=by
 intro aZ s σ H xs us Q I r h;let[p,ys,rfl,hq,q]:=h;let[u,rfl,rx]:=vals1 r;cases rx;let hn:=C9;rcases hq with hq|hq
 .let[its,r',pl,hz]:=I.list hq;let cW:=r'.length;exact Calls.call_len_list pl.isList (by simp only[dP]<;>lia) #[2 ys.length,H,I.tok _,#[s.toks+1,by rw[dP,cW]],q]
 .let[its,r',pl,hz]:=I.tuple hq;let cW:=r'.length;exact len_tuple pl (by simp only[dP]<;>lia) #[2 ys.length,H,I.tok _,#[s.toks+1,by rw[dP,cW]],q]
def gG.or{f:Value}{r r':1 V->Hp->6 VK}(h:gG X f r)(h':gG X f r'):gG X f (λxs H Q=>r xs H Q\/r' xs H Q):=by
 intro aZ s σ H xs us Q I rs q;rcases q with q|q
 .exact h aZ s σ H xs us Q I rs q
 .exact h' aZ s σ H xs us Q I rs q
def Y3:gG X (.type "list") (λxs H Q=>∃p ys,xs=[3 p]/\(dv X.K H p ys\/bu X.K H p ys)/\∀l,H l=8->Q (3 l) (9 H l ys)):=by
 intro aZ s σ H xs us Q I r h;let[p,ys,rfl,hq,q]:=h;let[u,rfl,rx]:=vals1 r;cases rx;let fin:∀(its:1 5),Vals ys its->11 ys.length->∀(h':Heap)(c':Nat),(∀b o',s.heap.get? b=0 o'->h'.get? b=0 o')->
   h'.get? 22=0 { cls:=.type "list",dict:=none,data:=.seq its.toArray c',slots:=#[] }->EP X aZ σ Q (3 22) { s with heap:=h' }:=λits r' hz h' c' kp e=>
  #[3 22,_,I.laid (t':=s.toks) kp (ck _) (show gS X.prog X.w _ h' _ (.lst ys) from#[hz,its,c',r',e]),9,q _<|I.cf.fresh<|ck _]
 rcases hq with hq|hq
 .let[its,r',pl,hz]:=I.list hq;let cW:=r'.length;let[o,ho,hc,n,hd]:=pl.isList;exact call_list_seq p 18 ho hc hd (λh' c' kp e=>fin its r' hz h' c' kp e) (by simp only[dP]<;>lia)
 .let[its,r',pl,hz]:=I.tuple hq;let cW:=r'.length;let[o,ho,hc,n,hd]:=pl;exact call_list_seq p (.inr 9) ho hc hd (λh' c' kp e=>fin its r' hz h' c' kp e) (by simp only[dP]<;>lia)
def Y4:gG X (.type "tuple") (λxs H Q=>∃p ys,xs=[3 p]/\((dv X.K H p ys/\∀l,H l=8->Q (3 l) (upd H l<|.tup ys))\/(bu X.K H p ys/\Q (3 p) H))):=by
 intro aZ s σ H xs us Q I r h;let[p,ys,rfl,h]:=h;let[u,rfl,rx]:=vals1 r;cases rx;rcases h with⟨hq,q⟩|⟨hq,q⟩
 .let[its,r',pl,hz]:=I.list hq;let cW:=r'.length;refine call_tuple_list pl.isList (λh' kp=>?_) (by simp only[dP]<;>lia)
  let I1:12 X σ H { s with heap:=h' }:=I.kept (t':=s.toks) kp;let I2:12 X σ (upd H h'.objs.size<|.tup ys) { s with heap:=h'.push { cls:=.type "tuple",data:=.seq its.toArray } }:=
   I1.laid (t':=s.toks) (λb o e=>dD _ e) (ck _) (show gS X.prog X.w _ _ _ (.tup ys) from#[hz,its,r',qj.new _ _])
  exact#[3 h'.objs.size,_,I2,9,q _<|I1.cf.fresh<|ck _]
 .let[its,r',pl,hz]:=I.tuple hq;exact call_tuple_same pl #[3 p,H,I,9,q]
def Iz(K:Frag)(T:String)(x:V)(H:Hp):Prop:=match x with
 | .str _=>T="str"
 | .int _=>T="int"
 | .ref p=>(T="list"/\∃xs,dv K H p xs)\/(T="tuple"/\∃o,K.lookup p=0 o/\o.cls=.type "tuple"/\o.dict=8) \/
   (T="dict"/\((∃ba,H p=0 (.dK ba))\/∃ba,H p=0 (.dT ba)))\/(T="set"/\∃S n,H p=0 (.set S n))
 |_=>False
def OI{aZ:5 Addr Obj}{σ:St}{H:Hp}{s:Shared}{T:String}{v:Value}(I:12 X σ H s)(r:RelV x v)(ty:Iz X.K T x H) :
  s.TypeIs v T/\∀a,v=3 a->∃ob,s.heap.get? a=0 ob/\ob.dict=8:=by
 cases x with
 |str z=>
  let[t,rfl]:=r;cases(show T="str" from ty)
  exact#[typeIs_str s z t,λ_ e=>nomatch e]
 |int i=>
  let[t,rfl]:=r;cases(show T="int" from ty)
  exact#[typeIs_int s i t,λ_ e=>nomatch e]
 |ref p=>
  cases r;rcases ty with⟨rfl,xs,hq⟩|⟨rfl,o,hk,hc,hd⟩|⟨rfl,hk⟩|⟨rfl,S,n,hk⟩
  .let[its,_,pl,_]:=I.list hq;refine#[pl.isList.typeIs,λa e=>?_];cases e;let[o,n,e,c,hd,_]:=pl;exact#[o,e,hd]
  .refine#[#[o,I.gX p o hk,hc],λa e=>?_];cases e;exact#[o,I.gX _ o hk,hd]
  .let z:∃o,s.heap.get? p=0 o/\o.ExactDict:=by
    rcases hk with⟨ba,hk⟩|⟨ba,hk⟩
    .let[_,_,_,_,o,_,_,e,ex,_]:=I.cf p _ hk;exact#[o,e,ex]
    .let[_,_,_,_,o,_,_,e,ex,_]:=I.cf p _ hk;exact#[o,e,ex]
   let[o,e,ex]:=z;refine#[#[o,e,ex.1],λa e2=>?_];cases e2;exact#[o,e,ex.2.1]
  .let[o,_,_,_,e,ex,_]:=I.cf p _ hk;refine#[#[o,e,ex.1],λa e2=>?_];cases e2;exact#[o,e,ex.2.1]
 |_=>exact False.elim ty
def AD(K:Frag)(T:String)(r:V->1 V->Hp->6 VK)(to:TE):TE:=λσ H Q=>to σ H λx H1=>Iz K T x H1/\r x [] H1 Q
def yh(K:Frag)(T:String)(r:V->1 V->Hp->6 VK)(to:TE)(t:TA):TE:=λσ H Q=>to σ H λx H1=>Iz K T x H1/\t σ H1 λxs H2=>r x xs H2 Q
variable{o e:Expr}{es:1 Expr}{to:TE}{t:TA}{name:Str}{jV iG:Pos}{T id:String}{r:V->1 V->Hp->6 VK}
def OJ(pa:PlainAttrs T)(slot:Slot T name id)(IA:typeOf (.builtin id)=pure (.type "method_descriptor"))(hm:Iv X id r)(ho:PE X o to)
  (AE:attributeBase o name X.env (eval o X.env)=eval o X.env:=by rfl) (AF:(jV.endLine==iG.line)=6:=by rfl):PE X (.Call (.Attribute o name jV) [] [] iG) (AD X.K T r to):=by
 intro aZ s σ H Q I h;refine wpAny_Call_method0_late AE AF (bg (ho aZ s σ H _ I h) λv s1 ⟨x,H1,I1,r1,ty,q1⟩=>?_);let[h1,h2]:=OI I1 r1 ty;exact#[T,id,pa,slot,IA,h1,h2,Calls.callWith_builtin 9<|PySem.evalArgs_none<|hm aZ s1 σ H1 x [] v [] Q I1 r1 .nil q1]
def jX(pa:PlainAttrs T)(slot:Slot T name id)(IA:typeOf (.builtin id)=pure (.type "method_descriptor"))(hm:Iv X id r)(ho:PE X o to)(ha:PA X (e::es) t)
  (AE:attributeBase o name X.env (eval o X.env)=eval o X.env:=by rfl)
  (IC:((backTo iG<|starEach (e::es) X.env).all (λx=>!x.1)&&(backToKw iG<|keywordEach [] X.env).all (λx=>x.1.isSome)
   && decide ((e::es).length+([]:1 Keyword).length+(if([]:1 Keyword).isEmpty then 0 else 1)<30))=6:=by rfl)
  (AF:(jV.endLine==iG.line)=6:=by rfl) (hs:starEach (e::es) X.env=(false,eval e X.env)::starEach es X.env:=by rfl) (Y5:(backTo iG<|starEach es X.env).any (·.1)=false:=by rfl) :
  PE X (.Call (.Attribute o name jV) (e::es) [] iG) (yh X.K T r to t):=by
 intro aZ s σ H Q I h;refine wpAny_Call_method_late AE IC AF 9 (bg (ho aZ s σ H _ I h) λv s1 ⟨x,H1,I1,r1,ty,q1⟩=>?_);let[h1,h2]:=OI I1 r1 ty;refine#[T,id,pa,slot,IA,h1,h2,?_];let hA:=ha iG aZ s1 σ H1 _ I1 q1;rw[hs]at hA |-;refine Calls.callWith_builtin (by show(false||(backTo iG<|starEach es X.env).any (·.1))=false;rw[Y5]<;>rfl)<|Calls.evalArgs_plain ?_
 exact bg hA λus s2 ⟨vs,H2,I2,r2,q2⟩=>hm aZ s2 σ H2 x vs v us Q I2 r1 r2 q2
end
def AG(X:Cx)(id:String)(r:V->1 V->Hp->6 VK):Prop:=
 ∀(aZ:5 Addr Obj)(s:Shared)(σ:St)(H:Hp)(x:V)(xs:1 V)(v:Value)(us:1 5)(Q:VK),12 X σ H s->RelV x v->Vals xs us->r x xs H Q->
  15 X.prog X.w X.A (call (.builtin id)<|v::us) (EP X aZ σ Q) X.xe s
theorem Vals.one:∀{x:V}{us:1 5},Vals [x] us->∃u,us=[u]/\RelV x u
 |_,_,.cons r .nil=>#[_,9,r]
theorem Vals.two:∀{x y:V}{us:1 5},Vals [x,y] us->∃u v,us=[u,v]/\RelV x u/\RelV y v
 |_,_,_,.cons r (.cons q .nil)=>#[_,_,9,r,q]
theorem Vals.zero:∀{us:1 5},Vals [] us->us=[]
 |_,.nil=>rfl
def Vals.dropLast{xs:1 V}{us:1 5}(h:Vals xs us):Vals xs.dropLast us.dropLast:=by
 induction h with
 |nil=>exact .nil
 |cons r t ih=>
  cases t with
  |nil=>exact .nil
  |cons q t'=>exact .cons r ih
theorem Vals.eraseIdx:∀{xs:1 V}{us:1 5}(i:Nat),Vals xs us->Vals (xs.eraseIdx i) (us.eraseIdx i)
 |_,_,_,.nil=>.nil
 |_,_,0,.cons _ t=>t
 |_,_,i+1,.cons r t=>.cons r (Vals.eraseIdx i t)
def Vals.reverse{xs:1 V}{us:1 5}(h:Vals xs us):Vals xs.reverse us.reverse:=by
 induction h with
 |nil=>exact .nil
 |cons r t ih=>rw[List.reverse_cons,List.reverse_cons];exact Vals.append ih<|.cons r .nil
theorem Vals.rep{xs:1 V}{us:1 5}(h:Vals xs us):∀k:Nat,Vals (16 k xs).flatten (16 k us).flatten
 |0=>.nil
 |k+1=>by
  rw[uA,uA,Ad,Ad];exact Vals.append h<|Vals.rep h k
def Y6(l:1 α):l.eraseIdx (l.length-1)=l.dropLast:=by
 induction l with
 |nil=>rfl
 |cons a r ih=>
  cases r with
  |nil=>rfl
  |cons b r=>
   let e:(a::b::r).length-1=((b::r).length-1)+1:=by
    let h1:(a::b::r).length=r.length+2:=9;let h2:(b::r).length=r.length+1:=9;lia
   rw[e,List.eraseIdx_cons_succ,ih];all_goals rfl
theorem OK{α:Type}:∀(l:1 α)(i:Nat),(l.eraseIdx i).length<=l.length
 | [],_=>ck _
 |_::_,0=>Nat.le_succ _
 |_::r,i+1=>Nat.succ_le_succ (OK r i)
theorem foldl_rep(its:1 5):∀(k:Nat)(acc:1 5),
  List.foldl (λx1 x2=>x1++x2) acc.toArray (16 k its.toArray)=(acc++(16 k its).flatten).toArray
 |0,acc=>by simp
 |k+1,acc=>by
  let e:acc.toArray++its.toArray=(acc++its).toArray:=by simp
  let e2:(acc++its)++(16 k its).flatten=acc++(16 (k+1) its).flatten:=by
   rw[uA,Ad,gR]
  rw[<- e2,<- foldl_rep its k (acc++its),<- e,uA,List.foldl_cons]
section
variable{X:Cx}{aZ:5 Addr Obj}{σ:St}{H:Hp}{s:Shared}{l b:Addr}{xs ys zs:1 V}
def Inv.AH{its its':1 5}{f:Array 5->Array 5}{t':Nat}(I:12 X σ H s)(hH:H l=13 xs)
  (e:s.heap.get? l=0 { cls:=.type "list",data:=.seq its.toArray n }) (hf:f its.toArray=its'.toArray) (hv:Vals ys its') (hz:11 ys.length) :
  12 X σ (9 H l ys) { s with heap:=s.heap.update l (Obj.mapSeq f),toks:=t' }:=by
 let q:=PySem.IsL.update e f;rw[hf]at q;refine I.write (x:=l) (e:=l) (by rw[hH];exact trivial) 18 (λb' u hb hu=>(vQ s.heap (Obj.mapSeq f)<|iD hb).trans hu) #[_,q] ?_;exact#[hz,its',_,hv,q]
def Inv.OL{its:1 5}{t':Nat}(I:12 X σ H s)(hv:Vals ys its)(hz:11 ys.length) :
  12 X σ (9 H 22 ys) { s with heap:=s.heap.push { cls:=.type "list",data:=.seq its.toArray },toks:=t' }:=(I.laid (λ_ _ q=>dD _ q) (ck _) #[hz,its,0,hv,gp _ 9])
def Inv.fresh(I:12 X σ H s):H 22=8:=(I.cf.fresh<|ck _)
def Inv.tF(I:12 X σ H s)(hH:H l=13 xs):11 21/\∃(its:1 5)(n:Nat),Vals xs its/\21=its.length/\s.heap.get? l=0 { cls:=.type "list",data:=.seq its.toArray n }:=by
 let[z,its,n,r,e]:=I.cf l _ hH;exact#[z,its,n,r,r.length,e]
def IF(h:11 n):Builtin.List.listTooLong n=false:=by
 unfold Builtin.List.listTooLong;exact ae 7
end
section
variable{X:Cx}
inductive OM(x:V)(vs:1 V)(H:Hp)(Q:VK):Prop where
 |mk (l xs y:_) (pq:x=3 l) (px:vs=[y]) (qp:H l=13 xs) (uI:21<sizeLine) (wq:Q .cI (9 H l<|xs++[y])):OM x vs H Q
def AI:V->1 V->Hp->6 VK:=λx vs H Q=>OM x vs H Q
def nP:AG X "list.append" AI:=by
 intro aZ s σ H x vs v us Q I rx rv h;let[l,xs,y,rfl,rfl,hH,hz,q]:=h;cases rx;let[u,rfl,ru]:=rv.one;let[z,its,n,r,hl,e]:=I.tF hH;refine call_meets F.slot_list_append #[_,e,9] F.entry_list_append (F.args_list_append_2 _ _) (PySem.list_append l its.toArray n u<|by rw[dP];lia) #[e,?_];refine#[.cI,_,I.AH (its':=its++[u]) hH e 17 (r.append<|.cons ru .nil) ?_,9,q];rw[cb,List.length_singleton];lia
def Y7:V->1 V->Hp->6 VK:=λx vs H Q=>∃l b xs zs,x=3 l/\vs=[3 b]/\H l=13 xs/\H b=13 zs/\11 (21+zs.length)/\Q .cI (9 H l<|xs++zs)
def Y8:AG X "list.extend" Y7:=by
 intro aZ s σ H x vs v us Q I rx rv h;let[l,b,xs,zs,rfl,rfl,hH,hB,hz,q]:=h;cases rx;let[u,rfl,ru]:=rv.one;cases ru;let[z,its,n,r,hl,e]:=I.tF hH;let[z2,ki,n2,r2,rP,e2]:=I.tF hB;let hsz:11 (its.toArray.size+ki.toArray.size):=by rw[dP,dP];lia
 let IG:¬(!its.toArray.isEmpty&&Builtin.List.listTooLong (its.toArray.size+ki.toArray.size))=6:=by
  rw[IF hsz,Bool.and_false];exact ia
 refine call_meets F.slot_list_extend #[_,e,9] F.entry_list_extend (F.args_list_extend_2 _ _) (AutoSeq1.list_extend_list_list_0 l its.toArray n b ki.toArray n2 IG (by rw[dP];lia) 7) #[e,e2,?_]
 refine#[.cI,_,I.AH (its':=its++ki) hH e 17 (r.append r2) ?_,9,q];rw[cb];lia
def Di:V->1 V->Hp->6 VK:=λx vs H Q=>∃l xs y,x=3 l/\vs=[]/\H l=13 xs/\xs[xs.length-1]?=0 y/\Q y (9 H l xs.dropLast)
def Y9:AG X "list.pop" Di:=by
 intro aZ s σ H x vs v us Q I rx rv h;let[l,xs,y,rfl,rfl,hH,hy,q]:=h;cases rx;let IH:=rv.zero;subst IH;let[z,its,n,r,hl,e]:=I.tF hH;let[u,hu,ru]:=r.get hy;let Dj:its.toArray[its.toArray.size-1]?=0 u:=by
  show its.toArray[its.length-1]?=0 u;rw[<- Array.getElem?_toList,<- hl];exact hu
 refine call_meets F.slot_list_pop #[_,e,9] F.entry_list_pop (F.args_list_pop_1 _) (MeetsSeq.list_pop_last l its.toArray n u Dj<|by rw[dP];lia) #[e,?_];refine#[y,_,I.AH (its':=its.dropLast) hH e ?_ r.dropLast ?_,ru,q]
 .show its.toArray.eraseIdxIfInBounds (its.toArray.size-1)=its.dropLast.toArray;rw[dP,List.eraseIdxIfInBounds_toArray,Y6]
 .rw[List.length_dropLast];lia
def ON:V->1 V->Hp->6 VK:=λx vs H Q=>∃l xs,x=3 l/\vs=[]/\H l=13 xs/\Q .cI (9 H l xs.reverse)
def Za:AG X "list.reverse" ON:=by
 intro aZ s σ H x vs v us Q I rx rv h;let[l,xs,rfl,rfl,hH,q]:=h;cases rx;let IH:=rv.zero;subst IH;let[z,its,n,r,hl,e]:=I.tF hH;refine call_meets F.slot_list_reverse #[_,e,9] F.entry_list_reverse (F.args_list_reverse_1 _) (AutoSeq1.list_reverse_list_0 l its.toArray n<|by rw[dP];lia) #[e,?_];refine#[.cI,_,I.AH (its':=its.reverse) hH e 17 r.reverse ?_,9,q];rw[Ae];lia
inductive OO(x:V)(y:V)(H:Hp)(Q:VK):Prop where
 |mk (l b xs zs:_) (pq:x=3 l) (px:y=3 b) (qp:H l=13 xs) (uI:H b=13 zs) (wq:11 (21+zs.length)) (II:∀p,H p=8->Q (3 p) (9 H p<|xs++zs)):OO x y H Q
def fh:R2:=λx y H Q=>OO x y H Q
def eV:fN X (binaryOp .Add) fh:=by
 intro aZ s σ H x y v u Q I rx ry h;let[l,b,xs,zs,rfl,rfl,hH,hB,hz,q]:=h;cases rx;cases ry;let[z,its,n,r,hl,e]:=I.tF hH;let[z2,ki,n2,r2,rP,e2]:=I.tF hB;refine PySem.P.add_list e e2 ?_ (by rw[dP,dP];lia);let ea:its.toArray++ki.toArray=(its++ki).toArray:=by simp
 rw[ea];exact#[3 _,_,I.OL (t':=s.toks) (r.append r2) (by rw[cb];lia),9,q _ I.fresh]
inductive OP(x:V)(y:V)(H:Hp)(Q:VK):Prop where
 |mk (l k xs:_) (pq:x=3 l) (px:y=2 k) (qp:H l=13 xs) (uI:-(2^63)<=k) (wq:k<2^63) (II:11 (21*k.toNat)) (Zb:∀p,H p=8->Q (3 p) (9 H p (16 k.toNat xs).flatten)):OP x y H Q
def IJ:R2:=λx y H Q=>OP x y H Q
def OQ(xs:1 α)(k:Nat):(16 k xs).flatten.length=k*21:=by
 induction k with
 |zero=>simp
 |succ k ih=>rw[uA,Ad,cb,ih,Nat.succ_mul,Nat.add_comm]
def rQ:fN X (binaryOp .Mult) IJ:=by
 intro aZ s σ H x y v u Q I rx ry h;let[l,k,xs,rfl,rfl,hH,h1,h2,hz,q]:=h;cases rx;let[t,rfl]:=ry;let[z,its,n,r,hl,e]:=I.tF hH;let cW:11 (its.toArray.size*k.toNat):=by rw[dP,<- hl];exact hz
 let Zc:¬its.toArray.size*k.toNat>(2^63-1)/08:=by
  let:(sizeLine:Nat)<=(2^63-1)/08:=by decide
  lia
 let Zd:¬(! Builtin.List.listFitsIndex k)=6:=by
  rw[fitsIndex_both h1 h2];exact ia
 let IG:¬Builtin.List.listTooLong (its.toArray.size*k.toNat)=6:=by
  rw[IF cW];exact ia
 let IK:List.foldl (λx1 x2=>x1++x2) #[] (16 (if its.toArray.isEmpty=6 then 0 else k.toNat) its.toArray)=(16 k.toNat its).flatten.toArray:=by
  let f0:∀m:Nat,List.foldl (λx1 x2=>x1++x2) #[] (16 m its.toArray)=(16 m its).flatten.toArray:=λm=>by
   let:=foldl_rep its m []
   rw[Af]at this;exact this
  rw[f0];cases its with
  |nil=>simp
  |cons a r'=>rw[ag 17]
 refine wpAny_binaryOp_repeat_ref (T := "list") (U := "int") 16 #[_,e,9] (λs'=>typeIs_int s' k t) noFill_list_mul F.fills_int_mul F.slot_int_rmul repeat_list F.slot_int_index.lookup<|call_meets F.slot_int_rmul (typeIs_int s k t) F.entry_int_rmul (F.args_int_rmul_2 _ _) (int___rmul___int_list k t l its.toArray n) #[e,9,#[_,e,9],call_meets F.slot_list_mul #[_,e,9] F.entry_list_mul (F.args_list_mul_2 _ _) (AutoListH.list___mul___list_int_3 l its.toArray n k t Zd Zc IG) #[e,?_]]
 rw[IK];exact#[3 _,_,I.OL (t':=s.toks) (r.rep k.toNat) (by rw[OQ,Nat.mul_comm];exact hz),9,q _ I.fresh]
end
section
variable{prog:Program}{w:World}{A:Around}{E:QV}{s:Shared}
end
section
variable{X:Cx}
end
end L2
namespace Att
open PySem PySem.W PySem.Calls PyProof.Rows
def Ze{P:Params}{h:Heap}:∀(ns:4)(vs:1 5),WellAll P h vs (ns.map WData.int)->IntsAre vs ns:=by
 intro ns;induction ns with
 |nil=>
  intro vs w;rw[List.map_nil]at w;cases w;exact .nil
 |cons n ns ih=>
  intro vs w;rw[ib]at w;cases w with
  |cons a b=>
   cases a;exact .cons _ _<|ih _ b
def Zf{l:OpenLaw}{n:Nat}(hn:l.most=0 n){P:Params}{h:Heap}{args:1 WData}{IM:1 5}
  (Dk:l.row.toRowW.claim.pre args=6) (Dl:WellAll P h IM args) :
  ∃a vs ns,IM=[Value.ref a]/\args=[WData.list<|ns.map WData.int]/\h.get? a=0 { cls:=.type "list",data:=.seq vs.toArray }/\IntsAre vs ns/\ns.length<=n:=by
 let Zg:WShape.hasAll [] args [.list .int]=6:=(pre_splitW Dk).1;let hc:l.pre.holds [] { args:=args }=6:=(pre_splitW Dk).2;let[d,r,rfl,h1,h2]:=hasAllW_cons Zg;obtain rfl:=hasAllW_nil h2;let[xs,rfl,h3]:=hasW_list h1;let[ns,rfl]:=items_int h3;let cW:ns.length<=n:=by
  unfold OpenLaw.pre at hc;let h4:(WTm.not<|.lt (.lit<|2 (n:Int))<|.len<|.arg 0).holds [] { args:=[.list<|ns.map .int] }=6:=by
   let h4:=(holds_andW hc).1;rw[hn]at h4;exact h4
  let h5:=condW_of h4<|w_not<|w_lt w_lit<|w_len_list<|w_arg 9;rw[bH]at h5;refine Nat.le_of_not_lt λq=>?_;let q':(n:Int)<((ns.length:Nat):Int):=by lia
  first
   |(rw[aH q']at h5;exact absurd h5 16)
   |(simp at h5;lia)
 cases Dl with
 |cons w1 w2=>
  cases w2;cases w1 with
  |list ho IP=>exact#[_,_,ns,9,9,ho,Ze ns _ IP,cW]
def Zh(l:OpenLaw)(args:1 WData):l.row.toRowW.claim.post args (.bool 6) args=6:=(postW_of (r:=l.row.toRowW) (X:=(true==true)) (show WShape.has [] (.bool 6) .bool=6 by first|rfl|decide|simp[WShape.has,WShape.arms,WShape.armsAll]) (show(WTm.eq .res<|.lit<|.bool 6).value [] { args:=args,res:=0 (.bool 6),after:=args }=0 (.bool<|6==6) from w_eq_bool (w_res 9) w_lit) 9)
def Zi{l:OpenLaw}{n:Nat}{q:Program}{yi:1 Str}{XP:(Str->7 5)->6 Heap}{YP:World->6 Heap}{d:DefRec}
  (hn:l.most=0 n) (AJ:d.params.defaults=[])
  (call:∀(w:World)(s₀ s₁:Shared)(mg mb:Str->7 5)(fa:Addr)(o:Obj)(pm cd doc:Value)(a:Addr)(vs:1 5)(ns:4),
   Ground q yi [] XP w s₀ mg mb s₁.heap->YP w s₁.heap->
   s₁.heap.get? fa=0 o->o.data=.func (docDef d.name d.params d.body d.scope pm cd doc)->s₁.heap.CodeRec cd d.name->mg d.name=8 fa->
   s₁.heap.get? a=0 { cls:=.type "list",data:=.seq vs.toArray }->IntsAre vs ns->ns.length<=n->s₁.gens=#[]->
   codeAny (model l.prog w) callerA (.call (3 fa) #[[3 a],[]]) (λr s'=>r=.ok (.ret<|.bool 6)/\OldK s₁.heap s'.heap/\s'.os=s₁.os/\AllBare s'.gens) s₁) :
  WalkO q yi XP YP l.row.toRowW d [] (λf vs=>PySem.call f vs):=by
 intro w s₀ s₁ mg mb G Y fa o pm cd doc dV kV ho hd jk hD hmg hg args IM as Dk aiO hrd Dl hlo;obtain rfl:dV=.none:=Dflts.none hD AJ;obtain rfl:kV=.none:=Dflts.noKw hD;let[a,vs,ns,rfl,rfl,IQ,hints,cW]:=Zf hn Dk Dl;refine enter_call<|codeAny_mono (call w s₀ s₁ mg mb fa o pm cd doc a vs ns G Y ho (fd_plain hd) jk hmg IQ hints cW hg) λr s' hq=>?_;let[rfl,h2,h3,h4]:=hq;exact#[.inl #[.bool 6,.bool 6,[],9,λ_=>9,.bool 6,Zh l _,λ_=>#[List.Pairwise.nil,λ_ hm=>(nomatch hm)]],h2,h3,h4]
section
variable{prog:Program}{w:World}{A:Around}{E:QV}{s:Shared}{K:Frag}
end
end Att
namespace L2
open PySem PySem.Spec PyProof.Rows
variable{A:Around}{B:Prop}{H H':Hp}{Q:QV}{X:Cx}{a c f it p:Addr}{b:Bool}{env:Env}{h h':Heap}{i n:Nat}{its:Array 5}{aZ:5 Addr Obj}{qual x:Str}{s:Shared}{scope:Scope}{st:Stmt}{xs:1 V}
theorem OR:∀{vs:1 5}{ns:4},IntsAre vs ns->Vals (ns.map V.int) vs
 |_,_,.nil=>.nil
 |_,_,.cons n t h=>.cons #[t,9] (OR h)
def tG(s:Stmt):Arguments:=match s with
 | .FunctionDef _ a _ _ _ _ _ _ _ _=>a
 |_=>{ posonlyargs:=[],args:=[],vararg:=none,kwonlyargs:=[],kw_defaults:=[],kwarg:=none,defaults:=[] }
def nQ(s:Stmt):1 Stmt:=match s with
 | .FunctionDef _ _ b _ _ _ _ _ _ _=>b
 |_=>[]
def cj(s:Stmt):Scope:=match s with
 | .FunctionDef _ _ _ _ _ _ sc _ _ _=>sc
 |_=>{ kind:=.function,names:=[],isGenerator:=false,isCoroutine:=false }
abbrev bX:rn:=λ_ _ _ _ _ _=>False
abbrev E0:XK:=λ_ _ _=>False
def cZ:Passes bX X E0:=(λ_ _ _ _ _ _ _ h=>h.elim)
structure cL(K:Frag)(x qual:Str)(st:Stmt)(f:Addr)(fd:FuncData):Prop where
 ex:∃(oc:Value)(od:7 Addr)(kV doc pm:Value)(an:7 Addr)(cq ct:Value)(pC:Array (7 5)),
  fd=fnOf x qual (tG st) (nQ st) (cj st) .none kV doc pm an cq ct/\K.lookup f=0 #[oc,od,.func fd,pC]/\PySem.W.codeIn K cq qual=6
 kp:Kp K f
section
variable{P:Program}{w:World}{K:Frag}{mg:Str->7 5}{base:Heap}
def cL.ok{fd:FuncData}{N ps:1 Str}{k:Nat}{sp:Sp}(F:cL K x qual st f fd)(S:dz N ps (cj st))(len:∀vs H Q E,sp vs H Q E->vs.length=ps.length)
  (qq:∀(cq:Value)(A:Around)(outer:1 Env)(s:Shared)(H:Hp)(vs:1 V)(Q:VK)(E:XK),eU k (A.deeper<|envOfC qual (cj st) 22 f cq)->sp vs H Q E->
   ∃t,kX (oD bX P w K mg base N qual (cj st) f cq A outer s H E).nI (nQ st) t/\t { nx:=λ_ H'=>Q .cI H',rt:=Q } (start N vs) H):bQ P w K mg base bX (k+1) f fd ps sp:=by
 let[oc,od,kV,doc,pm,an,cq,ct,pC,rfl,lk,jk]:=F.ex;refine Ow lk jk S len λA outer s H vs Q E hr lj=>?_;let[t,h,q]:=qq cq A outer s H vs Q E hr lj;exact#[t,h.nI,q]
def cL.binds{fd:FuncData}{ps:1 Str}(F:cL K x qual st f fd)
  (h:∀(kV doc pm:Value)(an:7 Addr)(cq ct:Value)(us:1 5),us.length=ps.length->bindArgs (fnOf x qual (tG st) (nQ st) (cj st) .none kV doc pm an cq ct) #[us,[]]=pure (ps.zip us)):Binds K fd ps []:=by
 let[oc,od,kV,doc,pm,an,cq,ct,pC,rfl,lk,jk]:=F.ex;exact .all<|h kV doc pm an cq ct
def IS{oc:Value}{od an:7 Addr}{pC:Array (7 5)}{kV doc pm cq ct:Value}(l:K.lookup f=0 #[oc,od,.func<|fnOf x qual (tG st) (nQ st) (cj st) .none kV doc pm an cq ct,pC])
  (c:PySem.W.codeIn K cq qual=6) (k:Kp K f):cL K x qual st f (fnOf x qual (tG st) (nQ st) (cj st) .none kV doc pm an cq ct):=(#[#[oc,od,kV,doc,pm,an,cq,ct,pC,9,l,c],k])
end
def uN{k:Nat}(hr:eU k A):A.units+1<cLine:=(Nat.lt_of_le_of_lt (Nat.add_le_add_left (by decide:1<=64) _) hr.units)
def IT(h:n<=1000):n<sizeLine:=(Nat.lt_of_le_of_lt h 16)
section
variable{X:Cx}
def pv(i:Nat){pos:Pos}(hN:X.N[i]?=0 x:=by rfl)(hv:xU X.env.scope x:=by first|exact Or.inl 9|exact Or.inr 18|exact Or.inr<|Or.inr 9)(hd:(x==("__debug__":Str))=false:=by decide)
  (jk:(x==("__classdict__":Str))=false:=by decide):PE X (.Name x pos) (bt i):=(NW hN hv hd jk)
end
def dh{A:Prop}(h:B):if false=6 then A else B:=by
 rw[ag ia];exact h
def fw{A:Prop}(h:A):if 6=6 then A else B:=by
 rw[af 9];exact h
def wu{c A:Prop} [Decidable c] (h1:c->A) (h2:¬c->B):if c then A else B:=by
 by_cases h:c
 .rw[af h];exact h1 h
 .rw[ag h];exact h2 h
def Zj{c A:Prop} [Decidable c] (hc:c) (h:B):if(! decide c)=6 then A else B:=by
 rw[aH hc];exact dh h
def bc(H H':Hp):Prop:=∀b o,H b=0 o->H' b=0 o
def bc.refl(H:Hp):bc H H:=(λ_ _ h=>h)
def bc.trans{H1 H2:Hp}(a:bc H H1)(b:bc H1 H2):bc H H2:=(λc o h=>b c o<|a c o h)
def bc.seq{K:Frag}(e:bc H H')(h:dv K H a xs):dv K H' a xs:=by
 rcases h with(h|⟨o,h⟩)|h
 .exact .inl<|.inl<|e _ _ h
 .exact .inl<|.inr #[o,e _ _ h]
 .exact .inr h
noncomputable def my(cells:5 Str Addr):5 Str NameKind->5 Str Addr->5 Str Addr
 | [],acc=>acc
 |(n,k)::r,acc=>if k == .free then my cells r ((n,(cells.lookup n).getD 0)::acc)else my cells r acc
def Zk(h:∀x∈scope.names,x.2=.free->∃c,env.cells.lookup x.1=0 c):closureFor scope env=pure (my env.cells scope.names []):=by
 unfold closureFor;let key:∀(names:5 Str NameKind)(acc:5 Str Addr),(∀x∈names,x.2=.free->∃c,env.cells.lookup x.1=0 c)->
   (forIn names acc λ(x:Str×NameKind)(r:List (Str×Addr))=>(if(x.2==NameKind.free)=6 then do let c <- cellOf env x.1;pure (ForInStep.yield<|(x.1,c)::r)else pure (ForInStep.yield r):Sem (ForInStep<|5 Str Addr)))=pure (my env.cells names acc):=by
  intro names;induction names with
  |nil=>intro acc _;rfl
  |cons x r ih=>
   intro acc hx;let[n,k]:=x;rw[List.forIn_cons];unfold my;by_cases hk:(k==NameKind.free)=6
   .let jm:k=.free:=by simpa using hk
    let[c,hc]:=hx (n,k) du jm;let ja:env.cells.lookup n=0 c:=hc;simp only[hk,if_true];let e1:cellOf env n=pure c:=by unfold cellOf;rw[ja]
    rw[e1,ja];exact ih ((n,c)::acc) λy hy=>hx y<|gq _ hy
   .simp only[hk,if_false,xI];exact ih acc λy hy=>hx y<|gq _ hy
 let e:=key scope.names [] h;first
  |exact e
  |(simp only[bind_pure];exact e)
theorem Dm{cells:5 Str Addr}{x:Str}{c:Addr}:∀(names:5 Str NameKind)(acc:5 Str Addr),(my cells names acc).lookup x=0 c->acc.lookup x=0 c\/((x,NameKind.free)∈names/\c=(cells.lookup x).getD 0)
 | [],_,h=>.inl h
 |(n,k)::r,acc,h=>by
  unfold my at h;by_cases hk:(k==NameKind.free)=6
  .let jm:k=.free:=by simpa using hk
   rw[af hk]at h;rcases Dm r _ h with z|⟨z,e⟩
   .rw[qe]at z;cases hb:x==n with
    |true=>
     rw[hb]at z;let e':x=n:=by simpa using hb
     subst e';subst jm;exact .inr #[du,(dJ z).symm]
    |false=>rw[hb]at z;exact .inl z
   .exact .inr #[gq _ z,e]
  .rw[ag hk]at h;rcases Dm r _ h with z|⟨z,e⟩
   .exact .inl z
   .exact .inr #[gq _ z,e]
theorem IU{cells:5 Str Addr}{x:Str}:∀(names:5 Str NameKind)(acc:5 Str Addr),((x,NameKind.free)∈names\/(acc.lookup x).isSome=6)->((my cells names acc).lookup x).isSome=6
 | [],_,h=>by
  rcases h with h|h
  .cases h
  .exact h
 |(n,k)::r,acc,h=>by
  unfold my;by_cases hk:(k==NameKind.free)=6
  .rw[af hk];refine IU r _ ?_;rcases h with h|h
   .rcases(eK.mp h)with(e|h)
    .cases e;exact .inr (by rw[qe];simp)
    .exact .inl h
   .refine .inr ?_;rw[qe];cases hb:x==n<;>simp[h]
  .rw[ag hk];refine IU r _ ?_;rcases h with h|h
   .rcases(eK.mp h)with(e|h)
    .cases e;exact absurd 9 hk
    .exact .inl h
   .exact .inr h
theorem yj:∀(names:5 Str NameKind)(n:Nat)(acc:5 Str Addr),cellsFrom n names acc=cellsFrom n names []++acc
 | [],_,_=>rfl
 |(x,k)::r,n,acc=>by
  unfold cellsFrom;by_cases hk:(k==NameKind.cell)=6
  .rw[af hk,af hk,yj r (n+1) ((x,n)::acc),yj r (n+1) [(x,n)],gR];rfl
  .rw[ag hk,ag hk];exact yj r n acc
theorem IV:∀(names:5 Str NameKind)(n:Nat)(x:Str)(c:Addr),(x,c)∈cellsFrom n names []->(x,NameKind.cell)∈names
 | [],_,_,_,h=>nomatch h
 |(y,k)::r,n,x,c,h=>by
  unfold cellsFrom at h;by_cases hk:(k==NameKind.cell)=6
  .let jm:k=.cell:=by simpa using hk
   rw[af hk,yj]at h;refine(eB.mp h).elim (λh=>?_) λh=>?_
   .exact gq _<|IV r _ x c h
   .let e:(x,c)=(y,n):=by simpa using h
    cases e;subst jm;exact du
  .rw[ag hk]at h;exact gq _<|IV r n x c h
theorem IW{α:Type}{x:Str}:∀(a b:5 Str α),(a++b).lookup x=(a.lookup x).or (b.lookup x)
 | [],_=>by simp
 |(y,v)::r,b=>by
  rw[xJ,qe,qe];cases hb:x==y with
  |true=>simp
  |false=>exact IW r b
theorem AK{α:Type}{x:Str}{v:α}:∀{l:5 Str α},(l.map (·.1)).Nodup->(x,v)∈l->l.lookup x=0 v
 | [],_,h=>by cases h
 |(y,w)::r,nd,h=>by
  rw[ib,Ab]at nd;rw[qe];cases h with
  |head=>simp
  |tail _ h=>
   let c8:(x==y)=false:=by
    apply beq_false_of_ne;intro Zl;exact nd.1<|dF.mpr #[(x,v),h,Zl]
   rw[c8];exact AK nd.2 h
theorem OS{α β:Type}{x:Str}(f:Str×α->Str×β)(hf:∀p,(f p).1=p.1):∀(l:5 Str α),(l.map f).lookup x=(l.lookup x).map λk=>(f (x,k)).2
 | []=>rfl
 |(n,k)::r=>by
  obtain⟨m,z⟩:∃z,f (n,k)=(n,z):=#[(f (n,k)).2,Prod.ext (hf _) 9];rw[ib,z,qe,qe];cases hx:x==n with
  |false=>exact OS f hf r
  |true=>cases(beq_iff_eq.mp hx);simp[z]
def Zm(names:5 Str NameKind):(names.map λ(n,k)=>if(k==NameKind.free&&env.scope.kind == .function&&env.kindOf n==0 .cell)then(n,NameKind.cell)else(n,k)).lookup x =
  (names.lookup x).map λk=>if(k==NameKind.free&&env.scope.kind == .function&&env.kindOf x==0 .cell)=6 then NameKind.cell else k:=by
 rw[OS _ (λp=>by dsimp only;split<;>rfl)]
 congr 1
 funext k
 dsimp only;split<;>rfl
def Zn{M:Model}{E:QV}{cl:5 Str Addr}{Q:Env->6 Shared}
  (q:Q (newEnv scope 22 env.globals (cellsFrom (22+1) scope.names cl) env.qual 8 .none (0 env) builtinsNs) { s with heap:=pushCells (s.heap.push { cls:=.type "dict",data:=.dict #[] }) scope.names }) :
  wpAny M A (newFunctionEnv scope env.globals cl [] env.qual 8 .none<|0 env) Q E s:=by
 let z:(s.heap.push { cls:=.type "dict",data:=.dict #[] }).objs.size=22+1:=uB ..;rw[<- z]at q;unfold newFunctionEnv;let cells:=wpAny_layCells (M:=M) (A:=A) (E:=E) (λx r=>if(x.2==NameKind.cell)=6 then(do let c <- alloc { cls:=.type "cell",data:=.cell 8 };pure (ForInStep.yield<|(x.1,c)::r))else pure (ForInStep.yield r)) (λ_ _ _=>9) scope.names cl { s with heap:=s.heap.push { cls:=.type "dict",data:=.dict #[] } }
 exact aq<|wpAny_alloc<|aq<|cells _<|aq<|ao<|ao q
noncomputable def pE(X:Cx)(N:1 Str)(scope:Scope)(cs:5 Str Addr)(C:Addr)(s₀:Shared)(H₀:Hp)(ex:1 Addr):Cx where
 prog:=X.prog
 w:=X.w
 K:=X.K
 mg:=X.mg
 base:=X.base
 A:=X.A
 N:=N
 s₀:=s₀
 H₀:=H₀
 env:=compEnvC scope cs C X.env
 outer:=X.stack
 stack:=X.stack
 ex:=ex
 fn:=λx=>scope.names.lookup x==0 .cell
 calm:=X.calm
 pn:=[]
 xe:=λ_ _=>False
structure fH(oN:1 Str)(uO:Scope)(N:1 Str)(own:Nat)(caps:1 Nat)(scope:Scope):Prop where
 kind:scope.kind=.function
 nd:N.Nodup
 Dn:(scope.names.map (·.1)).Nodup
 free:∀x∈scope.names,x.2=.free->uO.names.lookup x.1=0 .cell\/uO.names.lookup x.1=0 .free
 len:N.length=own+caps.length
 pF:caps.map (λi=>oN[i]?)=(N.drop own).map some
 Zo:∀x∈N.drop own,scope.names.lookup x=0 .free
def rR(own:Nat)(caps:1 Nat)(σ:St):St:=16 own 8++caps.map λi=>(σ[i]?).join
noncomputable abbrev uP(X:Cx)(scope:Scope)(C:Addr):5 Str Addr:=cellsFrom (C+1) scope.names<|my X.env.cells scope.names []
noncomputable abbrev AL(h:Heap)(scope:Scope):Heap:=pushCells (h.push { cls:=.type "dict",data:=.dict #[] }) scope.names
section
variable{X:Cx}{aZ:5 Addr Obj}{σ:St}{H:Hp}{s:Shared}{N:1 Str}{own:Nat}{caps:1 Nat}{scope:Scope}{ex:1 Addr}
def yk(S:fH X.N X.env.scope N own caps scope)(I:12 X σ H s)(n:Nat)(h:(cellsFrom n scope.names<|my X.env.cells scope.names []).lookup x=0 c) :
  (x,c)∈cellsFrom n scope.names []\/((x,NameKind.free)∈scope.names/\X.env.cells.lookup x=0 c):=by
 rw[yj,IW]at h;cases q:(cellsFrom n scope.names []).lookup x with
 |some c'=>
  rw[q]at h;let e:c'=c:=by simpa using h
  subst e;exact .inl<|qZ q
 |none=>
  rw[q]at h;let h':(my X.env.cells scope.names []).lookup x=0 c:=by simpa using h
  rcases Dm _ _ h' with z|⟨z,e⟩
  .cases z
  .refine .inr #[z,?_];let[c',ja]:=I.ok.has x<|S.free (x,.free) z 9;rw[ja]at e |-;rw[e];rfl
def OT(S:fH X.N X.env.scope N own caps scope)(I:12 X σ H s)(n:Nat)(hx:scope.names.lookup x=0 .free) :
  ∃c,X.env.cells.lookup x=0 c/\(cellsFrom n scope.names<|my X.env.cells scope.names []).lookup x=0 c:=by
 let hm:(x,NameKind.free)∈scope.names:=qZ hx;let[c,hc]:=I.ok.has x<|S.free (x,.free) hm 9;refine#[c,hc,?_];let[c',ja]:=Hu.mp<|IU (cells:=X.env.cells) (x:=x) scope.names []<|.inl hm;let e0:(cellsFrom n scope.names []).lookup x=8:=by
  cases q:(cellsFrom n scope.names []).lookup x with
  |none=>rfl
  |some d=>
   let:=AK S.Dn<|IV _ _ _ _<|qZ q
   rw[hx]at this;cases this
 rw[yj,IW,e0,ja];rcases Dm _ _ ja with z|⟨_,e⟩
 .cases z
 .rw[hc]at e;rw[e];rfl
def Zp(S:fH X.N X.env.scope N own caps scope)(I:12 X σ H s)(hex:∀b∈ex,jU X aZ H b/\b<22) :
  Inv (pE X N scope (uP X scope 22) 22 s H ex) [] (rR own caps σ) H { s with heap:=AL s.heap scope }:=by
 let k1:∀b o,s.heap.get? b=0 o->(AL s.heap scope).get? b=0 o:=λb o e=>pushCells_keeps _ _ b o<|dD _ e;let ok:=cellsFrom_ok scope.names (s.heap.push { cls:=.type "dict",data:=.dict #[] }) (22+1) [] #[λ_ _ hm=>(nomatch hm),List.Pairwise.nil] (by rw[uB];exact ck _);rw[uB]at ok;let OU:∀x c,X.env.cells.lookup x=0 c->c<22:=λx c e=>by
  let[v,q]:=I.cell x c e;exact q.lt
 let OV:∀x,(compEnvC scope (uP X scope 22) 22 X.env).kindOf x=(scope.names.lookup x).map λk=>if(k==NameKind.free&&X.env.scope.kind == .function&&X.env.kindOf x==0 .cell)=6 then NameKind.cell else k:=
  λx=>Zm (env:=X.env) scope.names
 let kk:∀x,(compEnvC scope (uP X scope 22) 22 X.env).kindOf x=0 .cell\/(compEnvC scope (uP X scope 22) 22 X.env).kindOf x=0 .free->
   scope.names.lookup x=0 .cell\/scope.names.lookup x=0 .free:=λx h=>by
  rw[OV]at h;cases q:scope.names.lookup x with
  |none=>rw[q]at h;rcases h with h|h<;>cases h
  |some k=>
   rw[q]at h;by_cases hf:k=.free
   .exact .inr (by rw[hf])
   .let hb:(k==NameKind.free)=false:=by simpa using hf
    let e:(0 k).map (λk=>if(k==NameKind.free&&X.env.scope.kind == .function&&X.env.kindOf x==0 .cell)=6 then NameKind.cell else k)=0 k:=by
     simp[hf]
    rw[e]at h;exact h
 refine#[#[I.ok.mod,S.kind,I.ok.glob,I.ok.blt,ck _,λx y c h1 h2=>?_,λx hx=>?_,λx c hf h=>?_,I.ok.hd,I.ok.frames,18,λb hb=>#[?_,λx c h=>?_],λb o e=>?_,eh I.ok.sS I.sz,λb o e hb=>?_,λb hb hf=>?_,I.stack,I.NJ],9,I.bare,Un.kept k1,#[λ_=>8,?_,λi x v h1 h2 h3=>?_],λx c h=>?_,I.cf.fresh<|ck _,λx c h=>?_,λp hp=>absurd (show p∈([]:5 Addr Obj) from hp) 17,I.cf.kept k1,?_]
 .
  rcases yk S I _ h1 with a1|⟨_,a1⟩<;>rcases yk S I _ h2 with a2|⟨_,a2⟩
  .exact name_of_addr ok.apart a1 a2
  .exact absurd (OU _ _ a2)<|Nat.not_lt.mpr<|Nat.le_of_succ_le (ok.empty _ _ a1).2
  .exact absurd (OU _ _ a1)<|Nat.not_lt.mpr<|Nat.le_of_succ_le (ok.empty _ _ a2).2
  .exact I.ok.inj _ _ _ a1 a2
 .
  rcases kk x hx with q|q
  .exact Hu.mp<|Ht scope.names _ _<|.inl q
  .let[c,_,hc]:=OT S I (22+1) q;exact#[c,hc]
 .
  let iq:scope.names.lookup x=0 .cell:=by simpa[pE]using hf
  rcases yk S I _ h with a|⟨a,_⟩
  .exact Nat.le_of_succ_le (ok.empty _ _ a).2
  .rw[AK S.Dn a]at iq;cases iq
 .exact iA (hex b hb).2
 .rcases yk S I _ h with a|⟨_,a⟩
  .exact Nat.ne_of_gt<|jR (hex b hb).2<|Nat.le_of_succ_le (ok.empty _ _ a).2
  .exact(hex b hb).1.2.2.2.2.1 x c a
 .exact I.bs b o e
 .rcases(hex b hb).1.2.2.2.1 with z|z
  .exact I.ok.Am b o e z
  .exact absurd (jR (eE e)<|eh I.ok.sS z)<|xG _
 .rcases eK.mp (I.HK b hf)with z|z
  .exact(hex b hb).1.2.1 z
  .exact(hex b hb).1.2.2.1 z
 .exact(Heap.Ns.new s.heap<|.type "dict").keeps<|pushCells_keeps _ _
 .
  let hi:own<=i:=by
   refine Nat.le_of_not_lt λcX=>?_;unfold rR at h2;rw[i9 (by simpa using cX),List.getElem?_replicate]at h2;split at h2<;>cases h2
  obtain⟨j,rfl⟩:∃j,i=own+j:=#[i-own,7];unfold rR at h2;rw[jy 17,fg,Nat.add_sub_cancel_left,dR]at h2;cases hc:caps[j]? with
  |none=>rw[hc]at h2;cases h2
  |some ci=>
   rw[hc]at h2;let hσ:σ[ci]?=0 (0 v):=by
    let z:(σ[ci]?).join=0 v:=by simpa using h2
    cases q:σ[ci]? with
    |none=>rw[q]at z;cases z
    |some o=>rw[q]at z;let z':o=0 v:=z;rw[z']
   let OW:(N.drop own)[j]?=0 x:=by rw[vR];exact h1
   let hX:X.N[ci]?=0 x:=by
    let e:=aj (λl=>l[j]?) S.pF;simp only[dR,hc,OW,Option.map_some]at e;exact dJ e
   let IX:=S.Zo x<|dS OW;let[c,Dp,tq]:=OT S I (22+1) IX;let[m,hn,hl]:=I.loc;let hk:=S.free (x,.free) (qZ IX) 9;let Zq:xU X.env.scope x:=.inr hk;let[u,ru,lk]:=hl ci x v hX hσ Zq;refine#[u,ru,?_];rcases lk with⟨z,_⟩|⟨_,c',e',z⟩
   .let z':X.env.scope.names.lookup x=0 .local:=z;rcases hk with hk|hk
    .let jm:X.env.scope.names.lookup x=0 .cell:=hk;rw[z']at jm;cases jm
    .let jm:X.env.scope.names.lookup x=0 .free:=hk;rw[z']at jm;cases jm
   .rw[Dp]at e';cases e';refine .inr #[?_,c,tq,z.keeps k1];show(compEnvC scope _ _ X.env).kindOf x=_\/(compEnvC scope _ _ X.env).kindOf x=_;rw[OV,IX];show 0 (if _ then NameKind.cell else NameKind.free)=_\/0 (if _ then NameKind.cell else NameKind.free)=_
    split
    .exact 18
    .exact .inr 9
 .rcases yk S I _ h with a|⟨_,a⟩
  .exact#[_,(ok.empty _ _ a).1]
  .let[v,q]:=I.cell x c a;exact#[v,q.keeps k1]
 .rcases yk S I _ h with a|⟨_,a⟩
  .exact I.cf.fresh<|Nat.le_of_succ_le (ok.empty _ _ a).2
  .exact I.oz x c a
 .unfold rR;show _=N.length;rw[S.len,cb,fg,bH]
end
def ym(X:Cx)(kj:1 Expr)(t:TT):Prop:=
 ∀(aZ:5 Addr Obj)(s:Shared)(σ:St)(H:Hp)(Q:Bool->6 Hp),12 X σ H s->t σ H Q->
  15 X.prog X.w X.A (forIn kj 6 λc r=>if r=6 then do let ok <- isTrue c X.env (eval c X.env);pure (ForInStep.yield ok)else pure (ForInStep.yield r)) (TP X aZ σ Q) X.xe s
def lV:TT:=λ_ H Q=>Q 6 H
def jn:ym X [] lV:=(λ_ _ _ H _ I h=>wpAny_tests_nil #[H,I,h])
def AM{c:Expr}{t:TT}(h:PT X c t):ym X [c] t:=(λaZ s σ H Q I q=>wpAny_tests_one<|h aZ s σ H Q I q)
def IY(M:Model)(A:Around)(env:Env)(it acc:Value)(tg lW:Expr)(kj:1 Expr)(E:QV)(fin iB:6 Shared):6 Shared:=
 let kept:6 Shared:=λu=>wpAny M A (eval lW env) (λx u5=>wpAny M A (call (.builtin "list.append") [acc,x]) (λ_ u6=>iB u6) E u5) E u
 let Zr:6 Shared:=λu=>wpAny M A (forIn kj 6 λc r=>if r=6 then(do let ok <- isTrue c env (eval c env);pure (ForInStep.yield ok))else pure (ForInStep.yield r)) (λok u4=>if ok=6 then kept u4 else iB u4) E u
 let Zs:QV:=λv u=>wpAny M A (letOwnedTupleGo tg it v) (λ_ u2=>wpAny M A (assign tg env v) (λ_ u3=>Zr u3) E u2) E u
 λu=>wpAny M A (pyNext it) (λo u1=>match o with|none=>fin u1|some v=>Zs v u1) E u
def Zt{prog:Program}{w:World}{R:Result->6 Shared}{lW tg iter:Expr}{kj:1 Expr}{pos:Pos}{it acc:Value}(I:Nat->6 Shared)(n:Nat)(start:I n s)
  (qo:∀m u,I m u->IY (model prog w) A env it acc tg lW kj (notedBy (model prog w) A env λe v=>R (.error e) v) (R<|.ok .next) (λv=>∃j,j<m/\I j v) u) :
  codeAny (model prog w) A (.compLoop (.ListComp lW [#[tg,iter,kj,0]] scope pos) 0 it acc env) R s:=by
 refine codeAny_loop 9 I (λm u hu=>wpAny_noted (m:=compTurn (.ListComp lW [#[tg,iter,kj,0]] scope pos) 0 it acc env) ?_) n start;let go:=qo m u hu;unfold IY at go;rw[compTurn_list];refine aq<|wpAny_standAt<|aq<|bg go λo u1 b1=>?_
 match o,b1 with
 |none,b1=>exact ao b1
 |some v,b1=>
  refine aq<|bg b1 λ_ u2 b2=>aq<|bg b2 λ_ u3 b3=>aq<|bg b3 λok u4 b4=>?_
  match ok,b4 with
  |false,b4=>exact ao #[9,b4]
  |true,b4=>exact aq<|aq<|bg b4 λx u5 b5=>aq<|bg b5 λ_ u6 b6=>ao<|ao #[9,b6]
def mz(J:It)(g:TG)(tt:TT)(te:TE)(Q:VK)(W:Nat->Nat->St->Hp->6 (1 V)):Prop:=
 ∀i m σ' H' ys,W i m σ' H' ys->
  (J.stop i H'/\11 ys.length/\∀p,H' p=8->Q (3 p) (9 H' p ys)) \/
  (J.go i H'/\ys.length<sizeLine/\∃N:St->Hp->6 (1 V),(∀σ2 H2 zs,N σ2 H2 zs->∃m',m'<m/\W (i+1) m' σ2 H2 zs)/\
   ∀x H2,J.pB i H' x H2->g x σ' H2 λσ3 H3=>tt σ3 H3 λb H4=>if b=6 then te σ3 H4 λv H5=>N σ3 H5 (ys++[v])else N σ3 H4 ys)
def qu(wi:TI)(own:Nat)(caps:1 Nat)(g:TG)(tt:TT)(te:TE):TE:=λσ H Q=>wi σ H λJ H1=>
 ∃W:Nat->Nat->St->Hp->6 (1 V),(∃m,W 0 m (rR own caps σ) H1 [])/\mz J g tt te Q W
section
variable{X:Cx}{tg lW iter:Expr}{kj:1 Expr}{scope:Scope}{pos:Pos}{N:1 Str}{own:Nat}{caps:1 Nat}{wi:TI}{g:TG}{tt:TT}{te:TE}
def OX{σ:St}{H2:Hp}{s2:Shared}{J:It}{fp:1 Addr}{tn:Nat->6 Heap}{Q:VK}{W:Nat->Nat->St->Hp->6 (1 V)}{m0:Nat}
  {E:QV} {R:5->Addr->Result->6 Shared} (hc:X.calm=6) (S:fH X.N X.env.scope N own caps scope)
  (hg:∀cs C s₀ H₀ ex,PG (pE X N scope cs C s₀ H₀ ex) tg g) (ht:∀cs C s₀ H₀ ex,ym (pE X N scope cs C s₀ H₀ ex) kj tt) (he:∀cs C s₀ H₀ ex,PE (pE X N scope cs C s₀ H₀ ex) lW te)
  (I2:12 X σ H2 s2) (T:Turn X.prog X.w X.K tg J fp it tn) (nM:tn 0 s2.heap) (f2:∀b∈fp,jU X aZ H2 b)
  (w0:W 0 m0 (rR own caps σ) H2 []) (qo:mz J g tt te Q W)
  (Zu:∀D C s' H' ys,12 X σ (9 H' D ys) s'->jU X aZ (9 H' D ys) C->(∃m,s'.heap.Ns C m)->Q (3 D) (9 H' D ys)->R (3 D) C (.ok .next) s') :
  15 X.prog X.w X.A (newList []) (λacc s₃=>15 X.prog X.w X.A (newFunctionEnv scope X.env.globals (my X.env.cells scope.names []) [] X.env.qual 8 .none<|0 X.env) (λOY s₄=>
   codeAny (model X.prog X.w) X.A (.compStart (.ListComp lW [#[tg,iter,kj,0]] scope pos) 0 (3 it) acc { OY with scope:=relabel scope X.env }) (R acc OY.locals) s₄) E s₃) E s2:=by
 refine aG<|Zn ?_;dsimp only;generalize IZ:s2.heap.push { cls:=.type "list",dict:=none,data:=.seq ([]:1 5).toArray }=h3;let hC:h3.objs.size=s2.heap.objs.size+1:=by rw[<- IZ,uB]
 let OZ:∀b o,s2.heap.get? b=0 o->h3.get? b=0 o:=λb o e=>IZ▸dD _ e;let I3:12 X σ H2 { s2 with heap:=h3 }:=I2.kept (t':=s2.toks) OZ;let gD:h3.get? s2.heap.objs.size=0 { cls:=.type "list",data:=.seq ([]:1 5).toArray }:=IZ▸gp _ 9;let fD:jU X aZ H2 s2.heap.objs.size:=I2.nL (ck _)<|I2.cf.fresh<|ck _;let O0:∀b∈fp,b<s2.heap.objs.size:=λb hb=>by
  let[o,e,_]:=T.obj 0 _ nM b hb;exact eE e
 let hex:∀b∈s2.heap.objs.size::fp,jU X aZ H2 b/\b<({ s2 with heap:=h3 }:Shared).heap.objs.size:=λb hb=>by
  show _/\b<h3.objs.size;rw[hC];cases hb with
  |head=>exact#[fD,xK _]
  |tail _ hb=>exact#[f2 b hb,Nat.lt_succ_of_lt<|O0 b hb]
 let IB:=Zp S I3 hex;generalize hY:pE X N scope (uP X scope h3.objs.size) h3.objs.size { s2 with heap:=h3 } H2 (s2.heap.objs.size::fp)=Y at IB;let yP:Y.prog=X.prog:=by rw[<- hY];rfl
 let yW:Y.w=X.w:=by rw[<- hY];rfl
 let yK:Y.K=X.K:=by rw[<- hY];rfl
 let yc:Y.calm=6:=by rw[<- hY];exact hc
 let yA:Y.A=X.A:=by rw[<- hY];rfl
 let yx:Y.xe=λ_ _=>False:=by rw[<- hY];rfl
 let yL:Y.env.locals=h3.objs.size:=by rw[<- hY];rfl
 let O1:Y.ex=s2.heap.objs.size::fp:=by rw[<- hY];rfl
 let Zv:Y.fs=nH X.stack:=by rw[<- hY];rfl
 let O2:Y.pn=[]:=by rw[<- hY];rfl
 let I0:Y.env=compEnvC scope (uP X scope h3.objs.size) h3.objs.size X.env:=by rw[<- hY];rfl
 let yg:PG Y tg g:=by rw[<- hY];exact hg _ _ _ _ _
 let yt:ym Y kj tt:=by rw[<- hY];exact ht _ _ _ _ _
 let ye:PE Y lW te:=by rw[<- hY];exact he _ _ _ _ _
 let yb:∀{σ':St}{H':Hp}{s':Shared}{pn:5 Addr Obj},Inv Y pn σ' H' s'->Un (nH X.stack) (s2.heap.objs.size::fp) H2 H' h3 s'.heap:=λ{σ' H' s' pn} J=>by
  let b:=J.base;rw[Zv,O1]at b;let e1:Y.H₀=H2:=by rw[<- hY];rfl
  let e2:Y.s₀.heap=h3:=by rw[<- hY];rfl
  rw[e1,e2]at b;exact b
 let Zw:∀{σ':St}{H':Hp}{s':Shared}{pn:5 Addr Obj},Inv Y pn σ' H' s'->s'.os=s2.os:=λ{σ' H' s' pn} J=>by
  let e:Y.s₀.os=s2.os:=by rw[<- hY];rfl
  exact J.os.trans e
 let DL:s2.heap.objs.size≠Y.env.locals:=by rw[yL,hC];exact iA<|xK _
 let O3:s2.heap.objs.size ∉ fp:=λz=>xG _<|O0 _ z;let Ja:∀b∈s2.heap.objs.size::fp,b∈Y.ex:=λb hb=>by rw[O1];exact hb
 let Zx:∀{pn:5 Addr Obj}{H':Hp},(∀p∈pn,p.1 ∉ fp)->(∀b∈fp,H' b=8)->∀b∈fp,jU Y pn H' b:=λ{pn H'} hp hn b hb=>by
  let oE:=Ja b<|gq _ hb;refine#[hn b hb,(IB.ok.Al b oE).1,IB.ok.xV b oE,.inl oE,(IB.ok.Al b oE).2,λp qv z=>?_];rw[O2,Af]at qv;exact hp p qv (z▸hb)
 let O4:∀b o,h3.get? b=0 o->(AL h3 scope).get? b=0 o:=λb o e=>pushCells_keeps _ _ b o<|dD _ e;let O5:tn 0 (AL h3 scope):=T.keep 0 s2.heap _ nM λb _ o e=>O4 b o<|OZ b o e;let Zy:=O4 _ _ gD;let loop:codeAny (model X.prog X.w) X.A (.compLoop (.ListComp lW [#[tg,iter,kj,0]] scope pos) 0 (3 it) (3 s2.heap.objs.size)<|compEnvC scope (uP X scope h3.objs.size) h3.objs.size X.env) (R (3 s2.heap.objs.size) h3.objs.size) { s2 with heap:=AL h3 scope }:=by
  refine Zt (λn s'=>∃i σ' H' ys its pF,Inv Y [] σ' H' s'/\tn i s'.heap/\(∀b∈fp,H' b=8)/\H' s2.heap.objs.size=8/\
   s'.heap.get? s2.heap.objs.size=0 { cls:=.type "list",data:=.seq (its:1 5).toArray pF }/\Vals ys its/\W i n σ' H' ys) m0 #[0,_,H2,[],[],_,IB,O5,λb hb=>(f2 b hb).1,fD.1,Zy,.nil,w0] ?_
  rintro n s5 ⟨i,σ5,H5,ys,its,pF,I5,t5,C7,O6,Zz,Dq,w5⟩;unfold IY;dsimp only;let O7:Inv Y [(s2.heap.objs.size,{ cls:=.type "list",data:=.seq its.toArray pF })] σ5 H5 s5:=I5.CW λp hp=>by
   let e:=cT.mp hp;subst e;exact#[Zz,O6,DL,IB.ok.xV _<|Ja _ du,λv z=>by cases z]
  let ZA:∀p∈[((s2.heap.objs.size:Addr),({ cls:=.type "list",data:=.seq its.toArray pF }:Obj))],p.1 ∉ fp:=λp hp=>by
   let e:=cT.mp hp;subst e;exact O3
  let Jb:∀{H':Hp},(∀b∈fp,H' b=8)->∀b∈fp,jU Y [((s2.heap.objs.size:Addr),({ cls:=.type "list",data:=.seq its.toArray pF }:Obj))] H' b:=λhn=>Zx ZA hn;rcases qo i n σ5 H5 ys w5 with⟨stop,hz,qn⟩|⟨go,hz,NN,O8,step⟩
  .rw[<- yA];refine ah (T.done Y yP yW yK yc i _ s5 σ5 H5 (λ_ _=>False) O7 (Jb C7) t5 stop) (λr s6 h6=>?_) λ_ _ f=>f.elim;let[hr,I6]:=h6;subst hr;let Jc:=I6.pin (s2.heap.objs.size,_)<|ji _<|cT.mpr 9;let nD:H2 s2.heap.objs.size=8:=fD.1;let base:=yb I6;let un:Un (nH X.stack) (s2.heap.objs.size::fp) H2 (9 H5 s2.heap.objs.size ys) h3 s6.heap:=#[base.keep,base.slot,λb o e n hx=>by
     rw[cF (λz=>hx<|by rw[z];exact du)];exact base.free b o e n hx,base.there,λb xs e=>by rw[cF (ig e nD)];exact base.rA b xs e,λb o u e=>by rw[cF (ig e nD)];exact base.pj b o u e,λb ps e=>by
     let[iB,q]:=base.qk b ps e;exact#[iB,by rw[cF (ig e nD)];exact q]]
   let cf:gT X.prog X.w (9 H5 s2.heap.objs.size ys) s6.heap:=λb u e=>by
    let O9:=I6.cf;rw[yP,yW]at O9;by_cases hb:b=s2.heap.objs.size
    .subst hb;rw[bq]at e;cases e;exact#[hz,its,pF,Dq,Jc.1]
    .rw[cF hb]at e;exact(O9 b u e).rp (λc v _ q=>q) (λc q=>by rw[cF (ig q Jc.2.1)];exact q) λc xs q=>by rw[cF (ig q Jc.2.1)];exact q
   let I7:12 X σ (9 H5 s2.heap.objs.size ys) s6:=I3.XY (Zw I6) un cf I6.bare λb hb=>by
    let z:=(hex b hb).1;exact#[z.2.2.2.1,z.2.1,z.2.2.2.2.1,z.2.2.2.2.2]
   let ZC:H5 h3.objs.size=8:=by rw[<- yL];exact I6.free
   let CD:h3.objs.size≠s2.heap.objs.size:=by rw[hC];exact Nat.succ_ne_self _
   refine Zu _ _ s6 H5 ys I7 (I3.nL (ck _)<|by rw[cF CD];exact ZC) ?_<|qn _ O6;let[m,hn,_]:=I6.loc;rw[yL]at hn;exact#[m,hn]
  .rw[<- yA];let lift:∀{α:Type}{t:Sem α}{Q1 Q2:α->6 Shared}{s':Shared},15 X.prog X.w Y.A t Q1 Y.xe s'->(∀a jW,Q1 a jW->Q2 a jW)->
     15 X.prog X.w Y.A t Q2 (notedBy (model X.prog X.w) Y.A (compEnvC scope (uP X scope h3.objs.size) h3.objs.size X.env) λe s'=>R (3 s2.heap.objs.size) h3.objs.size (.error e) s') s':=λh k=>
    ah h k λ_ _ f=>by rw[yx]at f;exact f.elim
   refine lift (T.item Y yP yW yK yc i _ s5 σ5 H5 Y.xe O7 (Jb C7) t5 go) λr s6 h6=>?_;let[u,hr,h6]:=h6;subst hr;refine lift h6 λ_ s7 h7=>?_;let[x,H7,I7,r7,y7,t7,ZD]:=h7;let ZE:=I7.pinned (Jb ZD)<|T.obj _ _ t7;let ha:=yg _ s7 σ5 H7 x u _ ZE r7<|step x H7 y7;rw[yP,yW,I0]at ha;refine lift ha λ_ s8 h8=>?_;let[σ8,H8,I8,q8]:=h8;let hb:=yt _ s8 σ8 H8 _ I8 q8;rw[yP,yW,I0]at hb;refine lift hb λok s9 h9=>?_;let[H9,I9,q9]:=h9;let after:∀{σ':St}{H':Hp}{s':Shared},Inv Y ([((s2.heap.objs.size:Addr),({ cls:=.type "list",data:=.seq its.toArray pF }:Obj))]++Av fp s7.heap) σ' H' s'->
     Inv Y [] σ' H' s'/\tn (i+1) s'.heap/\(∀b∈fp,H' b=8)/\H' s2.heap.objs.size=8/\s'.heap.get? s2.heap.objs.size=0 { cls:=.type "list",data:=.seq its.toArray pF }:=λ{σ' H' s'} J=>by
    let pD:=J.pin (s2.heap.objs.size,_)<|ji _<|o8 _<|cT.mpr 9;refine#[J.CW (λp hp=>by cases hp),T.keep _ _ _ t7 λb hb o e=>(J.pin (b,o)<|ji _<|ji _<|C6 hb e).1,λb hb=>?_,pD.2.1,pD.1];let[o,e,d]:=T.obj _ _ t7 b hb;exact(J.pin (b,o)<|ji _<|ji _<|C6 hb e).2.1
   cases ok with
   |false=>
    rw[ag 16]at q9;rw[ag 16];let[m',hm,w9]:=O8 _ _ _ q9;let[a1,a2,a3,a4,a5]:=after I9;exact#[m',hm,i+1,σ8,H9,ys,its,pF,a1,a2,a3,a4,a5,Dq,w9]
   |true=>
    rw[af 9]at q9;rw[af 9];let hd:=ye _ s9 σ8 H9 _ I9 q9;rw[yP,yW,I0]at hd;refine lift hd λv nR ZF=>?_;let[y,Ds,ZG,ZH,ZI]:=ZF;let[m',hm,ZJ]:=O8 _ _ _ ZI;let[a1,a2,a3,a4,a5]:=after ZG;let cW:=Dq.length;refine append_at (hsz:=by rw[dP];lia) a5 λh' sb g'=>?_;let Pa:=Ja _<|du (a:=s2.heap.objs.size) (l:=fp);let ZK:Inv Y [] σ8 Ds { nR with heap:=h' }:=a1.turned (t':=nR.toks) (it:=s2.heap.objs.size) (λb o hb e=>(sb.2 b hb).trans e) a4 DL (.inl Pa) (IB.ok.Al _ Pa).2 (by rw[O2];intro p hp;cases hp);refine#[m',hm,i+1,σ8,Ds,ys++[y],its++[v],pF+1,ZK,T.keep _ _ _ a2 λb hb o e=>(sb.2 b λz=>O3 (z▸hb)).trans e,a3,a4,?_,Dq.snoc ZH,ZJ];rw[g',List.push_toArray]
 exact codeAny_compStart_list loop<|T.self X.A 0 _ _ _ O5 loop
def Pb(S:fH X.N X.env.scope N own caps scope){σ:St}(I:12 X σ H s):closureFor scope X.env=pure (my X.env.cells scope.names []):=(Zk λx hx hk=>I.ok.has x.1<|S.free x hx hk)
def qw(hc:X.calm=6)(hi:PI X tg iter wi)(S:fH X.N X.env.scope N own caps scope)
  (hg:∀cs C s₀ H₀ ex,PG (pE X N scope cs C s₀ H₀ ex) tg g) (ht:∀cs C s₀ H₀ ex,ym (pE X N scope cs C s₀ H₀ ex) kj tt) (he:∀cs C s₀ H₀ ex,PE (pE X N scope cs C s₀ H₀ ex) lW te)
  (hs:∀x,foldedSetIterable iter X.env x=pure x:=by intro _;rfl):PE X (.ListComp lW [#[tg,iter,kj,0]] scope pos) (qu wi own caps g tt te):=by
 intro aZ s σ H Q I h;rw[eval_ListComp];refine wpAny_comprehension_free (use:=none) 9 hs (Pb S I) S.kind (λx hx hl=>AK S.Dn<|by rw[<- hl];exact hx) ?_;refine bg (hi aZ s σ H _ I h) λv s1 h1=>bg h1 λC5 s2 h2=>?_;let[it,fp,tn,J,H2,e,I2,T,nM,f2,W,[m0,w0],qo]:=h2;subst e;refine OX hc S hg ht he I2 T nM f2 w0 qo λD C s' H' ys I' F' hn q=>?_;let[m,hn]:=hn;refine#[m,hn,λh' sb=>#[3 D,_,I'.turned (t':=s'.toks) (λb o hb e=>(sb.2 b hb).trans e) F'.1 F'.2.1 F'.2.2.2.1 F'.2.2.2.2.1 F'.2.2.2.2.2,9,q]]
def mH{nK Pc:Pos}(hc:X.calm=6)(hN:X.N.Nodup)(Dt:X.N[i]?=0 x)(hx:X.env.scope.names.lookup x=0 .local)(hi:PI X tg iter wi)(S:fH X.N X.env.scope N own caps scope)
  (hg:∀cs C s₀ H₀ ex,PG (pE X N scope cs C s₀ H₀ ex) tg g) (ht:∀cs C s₀ H₀ ex,ym (pE X N scope cs C s₀ H₀ ex) kj tt) (he:∀cs C s₀ H₀ ex,PE (pE X N scope cs C s₀ H₀ ex) lW te)
  (ZL:swapsWith (.ListComp lW [#[tg,iter,kj,0]] scope pos) (0<|.Name x nK) Pc.line X.env=pure 6:=by rfl)
  (hs:∀x,foldedSetIterable iter X.env x=pure x:=by intro _;rfl):PS X (.Assign [.Name x nK] (.ListComp lW [#[tg,iter,kj,0]] scope pos) Pc) (dI (qu wi own caps g tt te)<|cg i):=by
 intro aZ s σ H D I h;rw[exec_Assign_Name_used _ _ _ _ ZL];refine aq<|wpAny_standAt<|aq ?_;show wpAny _ X.A (do let _ <- comprehension (.ListComp lW [#[tg,iter,kj,0]] scope pos) scope X.env _ (newList []) false (eval iter X.env) (0<|assign (.Name x nK) X.env)) _ _ s
 refine aq<|ah (wpAny_comprehension_free (use:=0<|assign (.Name x nK) X.env) (Q:=λ_ s'=>SP X aZ D .next s') rfl hs (Pb S I) S.kind (λx hx hl=>AK S.Dn<|by rw[<- hl];exact hx) ?_) (λ_ s' hq=>ao<|ao hq) λ_ _ e=>e;refine bg (hi aZ s σ H _ I h) λv s1 h1=>bg h1 λC5 s2 h2=>?_;let[it,fp,tn,J,H2,e,I2,T,nM,f2,W,[m0,w0],qo]:=h2;subst e;refine OX hc S hg ht he I2 T nM f2 w0 qo λD' C s' H' ys I' F' hn q=>?_;let[m,hn]:=hn;refine wpAny_assign_Name (NP (v:=3 D') I' hN Dt (.inl hx) rfl (λjW ZM yn=>?_) (.inr hx));let[a,sb,ha]:=yn;let ZN:C≠a:=by
  rcases ha with ha|ha
  .rw[ha];exact F'.2.1
  .exact(F'.2.2.2.2.1 x a ha).symm
 exact#[m,hn.sameBut sb ZN,λh' ZO=>#[_,_,ZM.turned (t':=jW.toks) (λb o hb e=>(ZO.2 b hb).trans e) F'.1 F'.2.1 F'.2.2.2.1 F'.2.2.2.2.1 F'.2.2.2.2.2,q]]
end
def ZP(b:Bool):String:=match b with
 |true => "list_iterator"
 |false => "tuple_iterator"
def ZQ(b:Bool):String:=match b with
 |true => "list"
 |false => "tuple"
noncomputable abbrev oF(b:Bool)(a:Addr)(i:Nat):Obj:={ cls:=.type (ZP b),data:=.fields #[3 a,.int i 0,] }
def kl(b:Bool)(h:Heap)(it a:Addr)(i:Nat):Prop:=h.get? it=0 (oF b a i)
def mI(b:Bool)(h:Heap)(a:Addr)(its:Array 5):Prop:=∃o n,h.get? a=0 o/\o.cls=.type (ZQ b)/\o.data=.seq its n
section
variable(it a:Addr)(i:Nat)(its:Array 5)(o:Obj)(n:Nat)(ed:o.data=.seq its n)
include ed
def ZR(x:Value)(hx:its[i]?=0 x) :
  Meets (Builtin.«tuple_iterator.__next__» #[[3 it],[]]) (λ_ R s=>(s.heap.get? it=0 (oF false a i)/\s.heap.get? a=0 o)/\
   R (.ok<|.ret x) { s with heap:=s.heap.update it (Obj.mapFields λvs=>vs.setIfInBounds 1<|rawInt<|(i:Int)+1) }):=(.of_wp λprog w A R s hyp=>by
  let[h,g,dr,tk,os]:=s;let[[e1,e2],fin]:=hyp;let e9:its[((i:Nat):Int).toNat]?=0 x:=by simpa using hx
  wp_walk
  rw[ed];wp_walk
  rw[e9];wp_walk
  exact#[_,9,fin])
def ZT(x:Value)(hx:its[i]?=0 x) :
  Meets (Builtin.«list_iterator.__next__» #[[3 it],[]]) (λ_ R s=>(s.heap.get? it=0 (oF 6 a i)/\s.heap.get? a=0 o)/\
   R (.ok<|.ret x) { s with heap:=s.heap.update it (Obj.mapFields λvs=>vs.setIfInBounds 1<|rawInt<|(i:Int)+1) }):=(.of_wp λprog w A R s hyp=>by
  let[h,g,dr,tk,os]:=s;let[[e1,e2],fin]:=hyp;let e9:its[((i:Nat):Int).toNat]?=0 x:=by simpa using hx
  wp_walk
  rw[ed];wp_walk
  rw[e9];wp_walk
  exact#[_,9,fin])
def ZU(hx:its[i]?=8) :
  Meets (Builtin.«tuple_iterator.__next__» #[[3 it],[]]) (λA R s=>A.handled=8/\(s.heap.get? it=0 (oF false a i)/\s.heap.get? a=0 o)/\
   ∀h' e,(∀b u,b≠it->s.heap.get? b=0 u->h'.get? b=0 u)->(∃u,h'.get? e=0 u/\u.cls=.type "StopIteration")->R (.error<|3 e) { s with heap:=h' }):=(.of_wp λprog w A R s hyp=>by
  let[h,g,dr,tk,os]:=s;let[hh,[e1,e2],fin]:=hyp;let yo:A.in1.handled=8:=hh;let e9:its[((i:Nat):Int).toNat]?=8:=by simpa using hx
  wp_walk
  rw[ed];wp_walk
  rw[e9];wp_walk
  unfold raiseNew;wp_walk
  refine fin _ _ (λb u hb q=>?_) #[_,gp _ 9,9];exact dD _<|dD _<|(vQ _ _<|iD hb).trans q)
def ZV(hx:its[i]?=8) :
  Meets (Builtin.«list_iterator.__next__» #[[3 it],[]]) (λA R s=>A.handled=8/\(s.heap.get? it=0 (oF 6 a i)/\s.heap.get? a=0 o)/\
   ∀h' e,(∀b u,b≠it->s.heap.get? b=0 u->h'.get? b=0 u)->(∃u,h'.get? e=0 u/\u.cls=.type "StopIteration")->R (.error<|3 e) { s with heap:=h' }):=(.of_wp λprog w A R s hyp=>by
  let[h,g,dr,tk,os]:=s;let[hh,[e1,e2],fin]:=hyp;let yo:A.in1.handled=8:=hh;let e9:its[((i:Nat):Int).toNat]?=8:=by simpa using hx
  wp_walk
  rw[ed];wp_walk
  rw[e9];wp_walk
  unfold raiseNew;wp_walk
  refine fin _ _ (λb u hb q=>?_) #[_,gp _ 9,9];exact dD _<|dD _<|(vQ _ _<|iD hb).trans q)
end
section
variable{prog:Program}{w:World}{A:Around}{E:QV}{s:Shared}{b:Bool}{it a:Addr}{i:Nat}{its:Array 5}
def kl.moved(h:Heap)(e:kl b h it a i):kl b (h.update it<|Obj.mapFields λvs=>vs.setIfInBounds 1<|rawInt<|(i:Int)+1) it a (i+1):=(rg _ e 9)
def ZW{x:Value}(e1:kl b s.heap it a i)(e2:mI b s.heap a its)(hx:its[i]?=0 x)
  (q:∀h',kl b h' it a (i+1)->Heap.SameBut it s.heap h'->Q x { s with heap:=h' }):15 prog w A (Builtin.SmallTypes.nextOf<|3 it) Q E s:=by
 let[o,n,eo,ec,ed]:=e2;cases b<;>unfold Builtin.SmallTypes.nextOf
 .exact aq<|aE (T := "tuple_iterator") #[_,e1,9] ND<|call_meets ND #[_,e1,9] F.entry_tuple_iterator_next (F.args_tuple_iterator_next_1 _) (ZR it a i its o n ed x hx) #[#[e1,eo],ao<|q _ (kl.moved _ e1)<|o9 ..]
 .exact aq<|aE (T := "list_iterator") #[_,e1,9] slot_listiter_next<|call_meets slot_listiter_next #[_,e1,9] entry_listiter_next (args_listiter_next _) (ZT it a i its o n ed x hx) #[#[e1,eo],ao<|q _ (kl.moved _ e1)<|o9 ..]
def ZX(hh:A.handled=8)(e1:kl b s.heap it a i)(e2:mI b s.heap a its)(hx:its[i]?=8)
  (q:∀h' e,Heap.ExtBut it s.heap h'->(∃u,h'.get? e=0 u/\u.cls=.type "StopIteration")->E (3 e) { s with heap:=h' }):15 prog w A (Builtin.SmallTypes.nextOf<|3 it) Q E s:=by
 let[o,n,eo,ec,ed]:=e2;cases b<;>unfold Builtin.SmallTypes.nextOf
 .exact aq<|aE (T := "tuple_iterator") #[_,e1,9] ND<|call_meets ND #[_,e1,9] F.entry_tuple_iterator_next (F.args_tuple_iterator_next_1 _) (ZU it a i its o n ed hx) #[hh,#[e1,eo],λh' e k z=>q h' e (λc u hc y=>k c u hc y) z]
 .exact aq<|aE (T := "list_iterator") #[_,e1,9] slot_listiter_next<|call_meets slot_listiter_next #[_,e1,9] entry_listiter_next (args_listiter_next _) (ZV it a i its o n ed hx) #[hh,#[e1,eo],λh' e k z=>q h' e (λc u hc y=>k c u hc y) z]
end
def Du{prog:Program}{w:World}(b:Bool)(hh:A.handled=8)(it l:Addr)(c8:l≠it)(items:Array 5) :
  Draws prog w A it [it,l] items.size (λi v=>items[i]?=0 v) (λi h=>kl b h it l i/\mI b h l items):=by
 refine#[λi h st=>#[_,st.1],λi h h' st k=>#[k it 17 _ st.1,?_],λi s Q E hi st q=>?_,λs Q E st q=>ZX hh st.1 st.2 17 q]
 .let[o,n,eo,r]:=st.2;exact#[o,n,k l 17 o eo,r]
 .let hx:items[i]?=0 items[i]:=by simp[hi]
  refine ZW st.1 st.2 hx λh' e1 sb=>q _ h' s.toks hx #[e1,?_] sb;let[o,n,eo,r]:=st.2;exact#[o,n,(sb.2 l c8).trans eo,r]
structure Jd(z TI TO i1 i2:Addr)(tH tI:1 Addr):Prop where
 Pd:TI≠z
 uQ:TO≠z
 Dv:i1≠z
 Je:i2≠z
 ZY:TI≠TO
 ZZ:TI≠i1
 Z0:TI≠i2
 Pe:TO≠i1
 Z1:TO≠i2
 Pf:i1≠i2
 fz:z ∉ tH/\z ∉ tI
 fO:TO ∉ tH/\TO ∉ tI
 f2:i2 ∉ tH
 f1:i1 ∉ tI
section
variable{prog:Program}{w:World}{A:Around}{E:QV}{z TI TO i1 i2:Addr}{tH tI:1 Addr}{n1 n2 k:Nat}{P1 P2:Nat->6 5}{S1 S2:Nat->6 Heap}{a b:Value}
def Draws.but{fp:1 Addr}{P:Nat->6 5}{St:Nat->6 Heap}(D:PySem.Draws prog w A it fp n P St){k:Nat}(x:St k h)(hc:c ∉ fp)(sb:Heap.SameBut c h h'):St k h':=(D.frame _ _ _ x λb hb o e=>(sb.2 b λz=>hc (z▸hb)).trans e)
def Pg(z TO i1 i2:Addr)(h h':Heap):Prop:=∀c o,c≠z->c≠TO->c≠i1->c≠i2->h.get? c=0 o->h'.get? c=0 o
set_option maxHeartbeats 2000000 in
def Z2(D1:PySem.Draws prog w A i1 tH n1 P1 S1)(D2:PySem.Draws prog w A i2 tI n2 P2 S2)(D:Jd z TI TO i1 i2 tH tI)
  (hz:IsZip s.heap z TI TO .none) (hT:IsPair s.heap TI (3 i1) (3 i2)) (hO:IsPair s.heap TO a b) (h1:S1 k s.heap) (h2:S2 k s.heap) (l1:k<n1) (l2:k<n2)
  (q:∀x y h' t,P1 k x->P2 k y->IsZip h' z TI TO (rawInt 22)->IsPair h' TO x y->S1 (k+1) h'->S2 (k+1) h'->IsPair h' 22 x y->h'.objs.size=22+1->Pg z TO i1 i2 s.heap h'->
   Q (3 22) { s with heap:=h',toks:=t }):15 prog w A (Builtin.«zip.__next__» #[[3 z],[]]) (λfin s'=>∃v,fin=.done (.ret v)/\Q v s') E s:=by
 let[h,g,dr,tk,os]:=s;let wx:h.get? z=0 _:=hz;let Z3:h.get? TI=0 _:=hT;wp_walk using wpAny_onRaise,D1.item k _ _ _ l1
 .exact Draws.but D1 h1 D.fz.1<|o9 ..
 intro x ha ta p1 sa ka;replace ka:Heap.SameBut i1 (h.update z _) ha:=ka;let zz:=o9 h z<|Obj.mapFields λvs=>vs.setIfInBounds 0 Value.ellipsis;let Dx:ha.get? TO=0 _:=((ka.2 TO D.Pe).trans<|zz.2 TO D.uQ).trans hO;let tt:=o9 ha TO<|Obj.mapSeq λvs=>vs.setIfInBounds 0 x;wp_walk using wpAny_onRaise,wpAny_updateSeq Dx 9,D2.item k _ _ _ l2
 all_goals try exact Draws.but D2 (Draws.but D2 (Draws.but D2 h2 D.fz.2 zz) D.f1 ka) D.fO.2 tt
 intro y hb tb p2 sb kb;replace kb:Heap.SameBut i2 (ha.update TO _) hb:=kb;let Ph:hb.get? TO=0 { cls:=.type "tuple",data:=.seq #[x,b,] }:=by
  rw[kb.2 TO D.Z1,rg _ Dx 9];simp[Obj.mapSeq]
 let Z4:hb.get? z=0 { cls:=.type "zip",dict:=none,data:=.fields #[.ellipsis,.bool false,.bool false,3 TI,3 TO,],slots:=#[] }:=by
  rw[kb.2 z D.Je.symm,tt.2 z D.uQ.symm,ka.2 z D.Dv.symm,rg _ wx 9];simp[Obj.mapFields]
 let nz:TO≠z:=D.uQ;wp_walk using wpAny_updateSeq Ph 9
 refine#[_,9,?_];dsimp only;let sz:hb.objs.size=h.objs.size:=by rw[kb.1,tt.1,ka.1,zz.1]
 let uu:=o9 hb TO<|Obj.mapSeq λvs=>vs.setIfInBounds (0+1) y;let Pj:(hb.update TO<|Obj.mapSeq λvs=>vs.setIfInBounds (0+1) y).get? TO=0 { cls:=.type "tuple",data:=.seq #[x,y,] }:=by
  rw[rg _ Ph 9];simp[Obj.mapSeq]
 let ex:(#[x,b,].setIfInBounds (0+1) y).toList.toArray=#[x,y,]:=by simp
 rw[ex];generalize hb.update TO (Obj.mapSeq λvs=>vs.setIfInBounds (0+1) y)=hc at uu Pj |-;let Z5:hc.objs.size=h.objs.size:=uu.1.trans sz;let new:=gp hc (o:={ cls:=.type "tuple",data:=.seq #[x,y,] }) rfl;let Jf:=uB hc { cls:=.type "tuple",data:=.seq #[x,y,] };let old:∀c o,hc.get? c=0 o->(hc.push { cls:=.type "tuple",data:=.seq #[x,y,] }).get? c=0 o:=λc o e=>dD _ e;rw[Z5]at new Jf |-;generalize hc.push { cls:=.type "tuple",data:=.seq #[x,y,] }=hp at new Jf old |-;let Z6:=old z _<|(uu.2 z D.uQ.symm).trans Z4;let v1:=o9 hp z<|Obj.mapFields λvs=>vs.setIfInBounds 0<|rawInt h.objs.size;let v2:=o9 (hp.update z<|Obj.mapFields λvs=>vs.setIfInBounds 0<|rawInt h.objs.size) z<|Obj.mapFields λvs=>vs.setIfInBounds 1<|Value.bool false;let Pk:((hp.update z<|Obj.mapFields λvs=>vs.setIfInBounds 0<|rawInt h.objs.size).update z<|Obj.mapFields λvs=>vs.setIfInBounds 1<|Value.bool false).get? z=0 { cls:=.type "zip",dict:=none,data:=.fields #[rawInt h.objs.size,.bool false,.bool false,3 TI,3 TO,],slots:=#[] }:=by
  rw[rg _ (rg _ Z6 9) 9];simp[Obj.mapFields]
 let fwd:∀c o,c≠z->hc.get? c=0 o->((hp.update z<|Obj.mapFields λvs=>vs.setIfInBounds 0<|rawInt h.objs.size).update z<|Obj.mapFields λvs=>vs.setIfInBounds 1<|Value.bool false).get? c=0 o:=λc o ne e=>((v2.2 c ne).trans<|v1.2 c ne).trans<|old c o e;let Pl:=(v2.1.trans v1.1).trans Jf;let Pm:=((v2.2 h.objs.size<|Nat.ne_of_gt<|eE wx).trans<|v1.2 h.objs.size<|Nat.ne_of_gt<|eE wx).trans new;generalize (hp.update z<|Obj.mapFields λvs=>vs.setIfInBounds 0<|rawInt h.objs.size).update z (Obj.mapFields λvs=>vs.setIfInBounds 1<|Value.bool false)=hF at Pk fwd Pl Pm |-;refine q x y hF tb p1 p2 Pk (fwd TO _ D.uQ Pj) (D1.frame _ _ _ (Draws.but D1 (Draws.but D1 (Draws.but D1 sa D.fO.1 tt) D.f2 kb) D.fO.1 uu) λc hm o e=>fwd c o (λj=>D.fz.1 (j▸hm)) e) (D2.frame _ _ _ (Draws.but D2 sb D.fO.2 uu) λc hm o e=>fwd c o (λj=>D.fz.2 (j▸hm)) e) Pm Pl λc o n1 n2 n3 n4 e=>fwd c o n1 ?_
 rw[uu.2 c n2,kb.2 c n4,tt.2 c n2,ka.2 c n3,zz.2 c n1];exact e
end
section
variable{prog:Program}{w:World}{A:Around}{E:QV}{z TI TO i1 i2:Addr}{tH tI:1 Addr}{n1 n2 k:Nat}{P1 P2:Nat->6 5}{S1 S2:Nat->6 Heap}{a b:Value}
set_option maxHeartbeats 2000000 in
def Z7{Q:Fin->6 Shared}(D1:PySem.Draws prog w A i1 tH n1 P1 S1)(D2:PySem.Draws prog w A i2 tI n2 P2 S2)(D:Jd z TI TO i1 i2 tH tI)
  (hz:IsZip s.heap z TI TO .none) (hT:IsPair s.heap TI (3 i1) (3 i2)) (hO:IsPair s.heap TO a b) (h1:S1 k s.heap) (h2:S2 k s.heap) (Z8:k=n1\/(k<n1/\k=n2))
  (q:∀h' e t,Pg z TO i1 i2 s.heap h'->(∃o,h'.get? e=0 o/\o.cls=.type "StopIteration")->E (3 e) { s with heap:=h',toks:=t }):15 prog w A (Builtin.«zip.__next__» #[[3 z],[]]) Q E s:=by
 let[h,g,dr,tk,os]:=s;let wx:h.get? z=0 _:=hz;let Z3:h.get? TI=0 _:=hT;let zz:=o9 h z<|Obj.mapFields λvs=>vs.setIfInBounds 0 Value.ellipsis;let Pn:(h.update z<|Obj.mapFields λvs=>vs.setIfInBounds 0 Value.ellipsis).get? z=0 { cls:=.type "zip",dict:=none,data:=.fields #[.ellipsis,.bool false,.bool false,3 TI,3 TO,],slots:=#[] }:=by
  rw[rg _ wx 9];simp[Obj.mapFields]
 rcases Z8 with rfl|⟨l1,rfl⟩
 .wp_walk using wpAny_onRaise,D1.done
  all_goals try exact Draws.but D1 h1 D.fz.1 zz
  intro hx e kx #[oe,xe,xc];let Jg:hx.get? z=0 _:=kx z _ D.Dv.symm Pn;let Jh:e≠z:=λy=>by
   subst y;rw[Jg]at xe;cases xe;simp at xc
  wp_walk
  let vv:=o9 hx z<|Obj.mapFields λvs=>vs.setIfInBounds 0 Value.none;exact q _ e _ (λc o m1 m2 m3 m4 y=>(vv.2 c m1).trans<|kx c o m3<|(zz.2 c m1).trans y) #[oe,(vv.2 e Jh).trans xe,xc]
 .wp_walk using wpAny_onRaise,D1.item k _ _ _ l1
  all_goals try exact Draws.but D1 h1 D.fz.1 zz
  intro x ha ta p1 sa ka;replace ka:Heap.SameBut i1 (h.update z _) ha:=ka;let Dx:ha.get? TO=0 _:=((ka.2 TO D.Pe).trans<|zz.2 TO D.uQ).trans hO;let tt:=o9 ha TO<|Obj.mapSeq λvs=>vs.setIfInBounds 0 x;wp_walk using wpAny_onRaise,wpAny_updateSeq Dx 9,D2.done
  all_goals try exact Draws.but D2 (Draws.but D2 (Draws.but D2 h2 D.fz.2 zz) D.f1 ka) D.fO.2 tt
  intro hx e kx #[oe,xe,xc];replace kx:Heap.ExtBut i2 (ha.update TO _) hx:=kx;let Jg:hx.get? z=0 _:=kx z _ D.Je.symm<|(tt.2 z D.uQ.symm).trans<|(ka.2 z D.Dv.symm).trans Pn;let Jh:e≠z:=λy=>by
   subst y;rw[Jg]at xe;cases xe;simp at xc
  wp_walk
  let vv:=o9 hx z<|Obj.mapFields λvs=>vs.setIfInBounds 0 Value.none;exact q _ e _ (λc o m1 m2 m3 m4 y=>(vv.2 c m1).trans<|kx c o m4<|(tt.2 c m2).trans<|(ka.2 c m3).trans<|(zz.2 c m1).trans y) #[oe,(vv.2 e Jh).trans xe,xc]
end
def Sq(b:Bool)(K:Frag)(H:Hp)(a:Addr)(xs:1 V):Prop:=match b with
 |true=>dv K H a xs
 |false=>bu K H a xs
def Inv.sq{σ:St}(I:12 X σ H s)(h:Sq b X.K H a xs):∃its:1 5,Vals xs its/\mI b s.heap a its.toArray/\11 21:=by
 cases b with
 |true=>
  let[its,rv,p,hz]:=I.list h;let[o,eo,ec,n,ed]:=p.isList;exact#[its,rv,#[o,n,eo,ec,ed],hz]
 |false=>
  let[its,rv,[o,eo,ec,n,ed],hz]:=I.tuple h;exact#[its,rv,#[o,n,eo,ec,ed],hz]
def Inv.Po{σ:St}{ys:1 V}(I:12 X σ H s)(h:Sq b X.K H a xs)(h':Sq b X.K H a ys):xs=ys:=by
 cases b with
 |true=>exact I.N1 h h'
 |false=>exact I.N2 h h'
def kl.up(x:kl b h it a i)(k:∀o,h.get? it=0 o->h'.get? it=0 o):kl b h' it a i:=(k _ x)
def kl.obj(x:kl b h it a i):∃o,h.get? it=0 o/\∀v,o.data≠.cell v:=(#[_,x,λv z=>by cases z])
def mI.obj(x:mI b h a its):∃o,h.get? a=0 o:=(let ⟨o,_,e,_⟩:=x;#[o,e])
section
variable{X:Cx}{aZ:5 Addr Obj}{σ:St}{H:Hp}{s:Shared}{h':Heap}
def Inv.Pp{t':Nat}{ch:1 Addr}(I:12 X σ H s)(k:∀b o,b ∉ ch->s.heap.get? b=0 o->h'.get? b=0 o)(hf:∀b∈ch,jU X aZ H b):12 X σ H { s with heap:=h',toks:=t' }:=by
 let Ao:∀b u,H b=0 u->b ∉ ch:=λb u e z=>by rw[(hf b z).1]at e;cases e
 refine I.step (g':=s.gens) (d':=s.drawn) (ch:=ch) (λb hb=>#[(hf b hb).2.2.2.1,(hf b hb).2.1,(hf b hb).2.2.2.2.1,(hf b hb).2.2.2.2.2]) (λb o _ _ hc e _=>k b o hc e) (λb o _ _ hc e _=>#[o.slots,k b o hc e]) (λ_ _ _ _ n=>n) (λb o hc e=>#[o,k b o hc e]) (λ_ _ e=>e) (λ_ _ _ e=>e) (λb ps e=>#[#[],by rw[e];simp]) (λm hm=>?_) (λb u e=>?_) I.bare
 .let[o,es,ep,ho,r]:=hm;exact#[o,es,ep,k _ o (λz=>(hf _ z).2.1 9) ho,r]
 .refine(I.cf b u e).rp (λc v hc q=>k c v ?_ q) (λ_ q=>q) λ_ _ q=>q;rcases hc with z|z
  .rw[z];exact Ao b u e
  .exact Ao c _ z
def Inv.Dy{o:HO}(I:12 X σ H s)(f:jU X aZ H p)(new:gS X.prog X.w (upd H p o) s.heap p o):12 X σ (upd H p o) s:=by
 let hp:=f.1;refine I.step (g':=s.gens) (d':=s.drawn) (t':=s.toks) (h':=s.heap) (ch:=[p]) (λb hb=>?_) (λb o _ _ _ e _=>e) (λb o _ _ _ e _=>#[o.slots,e]) (λb o hc e n=>?_) (λb o _ e=>#[o,e]) (λb xs e=>by rw[cF (ig e hp)];exact e) (λb o u e=>by rw[cF (ig e hp)];exact e) (λb ps e=>#[#[],by rw[cF (ig e hp),e];simp]) (λm hm=>hm) (λb u e=>?_) I.bare
 .let e:=cT.mp hb;subst e;exact#[f.2.2.2.1,f.2.1,f.2.2.2.2.1,f.2.2.2.2.2]
 .rw[cF (λz=>hc<|by rw[z];exact cT.mpr 9)];exact n
 .by_cases hb:b=p
  .subst hb;rw[bq]at e;cases e;exact new
  .rw[cF hb]at e;exact(I.cf b u e).rp (λc v _ q=>q) (λc q=>by rw[cF (ig q hp)];exact q) λc xs q=>by rw[cF (ig q hp)];exact q
end
section
variable{prog:Program}{w:World}{A:Around}{E:QV}{s:Shared}
def Dz{T id:String}{v:Value}{Q:7 5->6 Shared}(ty:s.TypeIs v T)(sl:Slot T (4 "__next__") id)
  (h:15 prog w A (call (.builtin id) [v]) (λx s'=>Q (0 x) s') (λe s'=>∃c o,e=3 c/\s'.heap.get? c=0 o/\o.cls=.type "StopIteration"/\Q 8 s') s):15 prog w A (pyNext v) Q E s:=by
 unfold pyNext;refine aq<|wpAny_attempt<|aE ty sl<|ah h (λx s' y=>ao y) λe s' y=>?_;let[c,o,rfl,e1,e2,y]:=y;exact aq<|wpAny_isInstance (b:=true) #[o,e1,e2] isSubtype_stop<|ao y
def Pq(b:Bool)(e:mI b s.heap a its)(q:Q (3 22) { s with heap:=s.heap.push (oF b a 0) }):15 prog w A (pyIter<|3 a) Q E s:=by
 let[o,n,eo,ec,ed]:=e;cases b
 .exact wpAny_pyIter_tuple #[o,eo,ec,n,ed] q
 .exact wpAny_pyIter_list #[o,eo,ec,n,ed] q
end
structure Pu(b1 b2:Bool)(l1 l2:Addr)(h h':Heap):Prop where
 zip:IsZip h' (h.objs.size+04) (h.objs.size+2) (h.objs.size+3) .none
 Z9:IsPair h' (h.objs.size+2) (3 h.objs.size) (3<|h.objs.size+1)
 out:IsPair h' (h.objs.size+3) .none .none
 one:kl b1 h' h.objs.size l1 0
 two:kl b2 h' (h.objs.size+1) l2 0
 old:∀c o,h.get? c=0 o->h'.get? c=0 o
def mI.up(x:mI b h a its)(k:∀o,h.get? a=0 o->h'.get? a=0 o):mI b h' a its:=by
 let[o,n,eo,r]:=x;exact#[o,n,k o eo,r]
def aaa(b1 b2:Bool)(l1 l2:Addr)(xs ys:Array 5) :
  Meets (Builtin.«zip.__new__» #[[.type "zip",3 l1,3 l2],[]]) (λ_ R s=>(mI b1 s.heap l1 xs/\mI b2 s.heap l2 ys)/\
   ∀h',Pu b1 b2 l1 l2 s.heap h'->R (.ok<|.ret<|3<|22+04) { s with heap:=h' }):=(.of_wp λprog w A R s hyp=>by
  let[h,g,dr,tk,os]:=s;let[[q1,q2],fin]:=hyp;let sub:=sub_zip;let q2':mI b2 (Shared.mk (h.push<|oF b1 l1 0) g dr tk os).heap l2 ys:=q2.up λo e=>dD _ e;wp_walk using Pq b1 q1,Pq b2 q2'
  dsimp only;let z1:=uB h<|oF b1 l1 0;generalize e1:h.push (oF b1 l1 0)=ha at *;let z2:=uB ha<|oF b2 l2 0;generalize e2:ha.push (oF b2 l2 0)=hb at *;generalize e3:hb.push _=hc;let z3:hc.objs.size=hb.objs.size+1:=by rw[<- e3];exact uB ..
  generalize e4:hc.push _=hd;let z4:hd.objs.size=hc.objs.size+1:=by rw[<- e4];exact uB ..
  rw[z1]at z2;rw[z2]at z3;rw[z3]at z4;let a1:ha.get? h.objs.size=0 (oF b1 l1 0):=by rw[<- e1];exact gp _ 9
  let a2:hb.get? (h.objs.size+1)=0 (oF b2 l2 0):=by rw[<- e2,<- z1];exact gp _ 9
  let a3:hc.get? (h.objs.size+2)=0 { cls:=.type "tuple",data:=.seq #[3 h.objs.size,3<|h.objs.size+1,] }:=by
   rw[<- e3,<- z2,<- z1];exact gp _ 9
  let a4:hd.get? (h.objs.size+3)=0 { cls:=.type "tuple",data:=.seq #[.none,.none,] }:=by
   rw[<- e4,<- z3];exact gp _ 9
  let u1:∀c o,h.get? c=0 o->ha.get? c=0 o:=λc o y=>by rw[<- e1];exact dD _ y
  let u2:∀c o,ha.get? c=0 o->hb.get? c=0 o:=λc o y=>by rw[<- e2];exact dD _ y
  let u3:∀c o,hb.get? c=0 o->hc.get? c=0 o:=λc o y=>by rw[<- e3];exact dD _ y
  let u4:∀c o,hc.get? c=0 o->hd.get? c=0 o:=λc o y=>by rw[<- e4];exact dD _ y
  let u5:∀(r:Obj) c o,hd.get? c=0 o->(hd.push r).get? c=0 o:=λr c o y=>dD _ y;rw[z2,z3,z4];refine#[_,9,fin _ #[?_,u5 _ _ _<|u4 _ _ a3,u5 _ _ _ a4,u5 _ _ _<|u4 _ _<|u3 _ _<|u2 _ _ a1,u5 _ _ _<|u4 _ _<|u3 _ _ a2,λc o y=>u5 _ _ _<|u4 _ _<|u3 _ _<|u2 _ _<|u1 _ _ y]];rw[<- z4];exact gp _ 9)
section
variable{prog:Program}{w:World}{A:Around}{E:QV}{s:Shared}
def aab(b1 b2:Bool){l1 l2:Addr}{xs ys:Array 5}(q1:mI b1 s.heap l1 xs)(q2:mI b2 s.heap l2 ys)
  (q:∀h',Pu b1 b2 l1 l2 s.heap h'->Q (3<|22+04) { s with heap:=h' }):15 prog w A (call (.type "zip") [3 l1,3 l2]) Q E s:=(callType_new F.called_zip 16 (F.typeCall_zip_2 _ _) (F.newCall_zip_2 _ _) (λv=>F.args_object_init_3 v _ _) F.entry_zip_new (aaa b1 b2 l1 l2 xs ys) #[#[q1,q2],λh' N=>#[#[_,N.zip,9],q h' N]])
end
def yq(K:Frag)(b1 b2:Bool)(l1 l2:Addr):It:=
 #[λi H=>∃xs ys x y,Sq b1 K H l1 xs/\Sq b2 K H l2 ys/\xs[i]?=0 x/\ys[i]?=0 y,λi H v H'=>∃p x y,v=3 p/\H p=8/\H'=upd H p (.tup [x,y])/\(∀xs,Sq b1 K H l1 xs->xs[i]?=0 x)/\∀ys,Sq b2 K H l2 ys->ys[i]?=0 y,λi H=>∃xs ys,Sq b1 K H l1 xs/\Sq b2 K H l2 ys/\(i=21\/(i<21/\i=ys.length))]
def aac{P:Program}{w:World}{x y:V}{u v:Value}(hp:IsPair h p u v)(rx:RelV x u)(ry:RelV y v):gS P w H h p (.tup [x,y]):=(#[by show 11 2;decide,[u,v],.cons rx<|.cons ry .nil,_,hp,9,9,_,9])
structure aad(z TI TO i1 i2 l1 l2:Addr):Prop where
 sep:Jd z TI TO i1 i2 [i1,l1] [i2,l2]
 n1:l1≠i1
 n2:l2≠i2
theorem aae{P:Program}{w:World}{K:Frag}{es:1 Expr}{kt:Nat}{pt:Pos}(b1 b2:Bool){z TI TO i1 i2 l1 l2:Addr}(D:aad z TI TO i1 i2 l1 l2) :
  Turn P w K (.Tuple es kt pt) (yq K b1 b2 l1 l2) [z,TI,TO,i1,i2] z (λi h=>IsZip h z TI TO .none/\IsPair h TI (3 i1) (3 i2)/\(∃a b,IsPair h TO a b)/\kl b1 h i1 l1 i/\kl b2 h i2 l2 i) where
 mem:=by simp
 obj:=λi h st b hb=>by
  let[hz,tJ,[a,c,uR],h1,h2]:=st;simp only[eK,or_false,Ag]at hb;rcases hb with rfl|rfl|rfl|rfl|rfl
  .exact#[_,hz,λv q=>by cases q]
  .exact#[_,tJ,λv q=>by cases q]
  .exact#[_,uR,λv q=>by cases q]
  .exact h1.obj
  .exact h2.obj
 keep:=λi h h' st k=>by
  let[hz,tJ,[a,c,uR],h1,h2]:=st;exact#[k z 17 _ hz,k TI 17 _ tJ,#[a,c,k TO 17 _ uR],h1.up λo e=>k i1 17 o e,h2.up λo e=>k i2 17 o e]
 item:=by
  intro X hP hw hK hc i aZ s σ H E I hf st hg;subst hP hw hK;let[hz,tJ,[ta,tb,uR],h1,h2]:=st;let[xs,ys,x,y,lC,jc,hx,hy]:=hg;let[yr,DA,p1,yu]:=I.sq lC;let[yv,DB,p2,DC]:=I.sq jc;let[u,hu,ru]:=DA.get hx;let[v,hv,rv]:=DB.get hy;let lx:i<yr.toArray.size:=by rw[dP];exact(eA.mp hu).1
  let ly:i<yv.toArray.size:=by rw[dP];exact(eA.mp hv).1
  let hh:X.A.in1.handled=8:=I.ok.hd hc;let aaf:z<22:=eE hz;refine Dz #[_,hz,9] F.slot_zip_next<|aF F.slot_zip_next #[_,hz,9] F.entry_zip_next (Z2 (Du b1 hh i1 l1 D.n1 yr.toArray) (Du b2 hh i2 l2 D.n2 yv.toArray) D.sep hz tJ uR #[h1,p1] #[h2,p2] lx ly λu' v' h' tk e1 e2 a1 a2 a3 a4 a5 a6 hk=>?_)<|F.args_zip_next_1 _;let eu:u'=u:=by
   let yw:yr.toArray[i]?=0 u':=e1;rw[List.getElem?_toArray,hu]at yw;exact(dJ yw).symm
  let ev:v'=v:=by
   let yy:yv.toArray[i]?=0 v':=e2;rw[List.getElem?_toArray,hv]at yy;exact(dJ yy).symm
  subst eu ev;refine#[_,9,wpAny_letOwnedTupleGo_zip a1 λyn aag sb=>?_];let jm:∀b o,b ∉ [z,TI,TO,i1,i2]->s.heap.get? b=0 o->yn.get? b=0 o:=λb o hb e=>by
   let:b≠z/\b≠TI/\b≠TO/\b≠i1/\b≠i2:=by simpa using hb
   exact(sb.2 b this.1).trans<|hk b o this.1 this.2.2.1 this.2.2.2.1 this.2.2.2.2 e
  let I1:12 X σ H { s with heap:=yn,toks:=tk }:=I.Pp jm hf;let hpz:22≠z:=Nat.ne_of_gt aaf;let Ji:IsPair yn 22 u' v':=(sb.2 _ hpz).trans a5;let fp:jU X aZ H 22:=I.nL (ck _)<|I.cf.fresh<|ck _;let I2:=I1.Dy (o:=.tup [x,y]) fp (aac Ji ru rv);let up:∀b,b≠z->∀o,h'.get? b=0 o->yn.get? b=0 o:=λb hb o e=>(sb.2 b hb).trans e;refine#[3 22,_,I2,9,#[_,x,y,9,fp.1,9,λxs' q=>by rw[I.Po q lC];exact hx,λys' q=>by rw[I.Po q jc];exact hy],#[aag,up _ D.sep.Pd _<|hk _ _ D.sep.Pd D.sep.ZY D.sep.ZZ D.sep.Z0 tJ,#[_,_,up _ D.sep.uQ _ a2],a3.1.up λo e=>up _ D.sep.Dv o e,a4.1.up λo e=>up _ D.sep.Je o e],λb hb=>?_];rw[cF]
  .exact(hf b hb).1
  .obtain⟨o,e⟩:∃o,s.heap.get? b=0 o:=by
    simp only[eK,or_false,Ag]at hb;rcases hb with rfl|rfl|rfl|rfl|rfl
    .exact#[_,hz]
    .exact#[_,tJ]
    .exact#[_,uR]
    .exact#[_,h1.obj.choose_spec.1]
    .exact#[_,h2.obj.choose_spec.1]
   exact iA<|eE e
 done:=by
  intro X hP hw hK hc i aZ s σ H E I hf st hg;subst hP hw hK;let[hz,tJ,[ta,tb,uR],h1,h2]:=st;let[xs,ys,lC,jc,hx]:=hg;let[yr,DA,p1,yu]:=I.sq lC;let[yv,DB,p2,DC]:=I.sq jc;let hh:X.A.in1.handled=8:=I.ok.hd hc;let ll1:=DA.length;let ll2:=DB.length;refine Dz #[_,hz,9] F.slot_zip_next<|aF F.slot_zip_next #[_,hz,9] F.entry_zip_next (Z7 (Du b1 hh i1 l1 D.n1 yr.toArray) (Du b2 hh i2 l2 D.n2 yv.toArray) D.sep hz tJ uR #[h1,p1] #[h2,p2] ?_ λh' e tk hk ⟨o,e1,e2⟩=>#[e,o,9,e1,e2,?_])<|F.args_zip_next_1 _
  .rw[dP,dP];lia
  .refine#[9,I.Pp (λb o hb y=>?_) hf]
   let:b≠z/\b≠TI/\b≠TO/\b≠i1/\b≠i2:=by simpa using hb
   exact hk b o this.1 this.2.2.1 this.2.2.2.1 this.2.2.2.2 y
 self:=λ_ _ _ _ _ st h=>wpAny_pyIter_zip st.1 h
def lX(i j:Nat)(h:i≠j:=by decide):@Ne Addr (n+i) (n+j):=(λz=>h<|Nat.add_left_cancel z)
def yz{l:Addr}(i:Nat)(h:l<n):@Ne Addr (n+i) l:=(Nat.ne_of_gt<|jR h<|Nat.le_add_right n i)
def yB{b:Addr}(h1:a≠b)(h2:a≠c):a ∉ [b,c]:=by simp[h1,h2]
def aah:bootBuiltins "zip"=0 (.type "zip"):=by decide +kernel
section
variable{X:Cx}
def Pw(K:Frag)(b1 b2:Bool)(t:TA):TI:=λσ H R=>t σ H λvs H1=>∃l1 l2,vs=[3 l1,3 l2]/\(∃xs,Sq b1 K H1 l1 xs)/\(∃ys,Sq b2 K H1 l2 ys)/\R (yq K b1 b2 l1 l2) H1
def aai(b1 b2:Bool){a b:Expr}{ta:TA}{p pos pt:Pos}{es:1 Expr}{kt:Nat}(hg:Gl X "zip")(hm:X.mg "zip"=8)(ha:PA X [a,b] ta)(hs:starEach [a,b] X.env=[(false,eval a X.env),(false,eval b X.env)]:=by rfl)(pG:starEach [b] X.env=[(false,eval b X.env)]:=by rfl) :
  PI X (.Tuple es kt pt) (.Call (.Name "zip" p) [a,b] [] pos) (Pw X.K b1 b2 ta):=by
 intro aZ s σ H R I h;refine Call_ (sV I hg hm aah<|zZ (bg (ha pos aZ s σ H _ I h) λus s1 ⟨vs,H1,I1,r1,q1⟩=>?_) (by rw[hs,pG])<|by rw[pG];rfl);let[l1,l2,e,[xs,lC],[ys,jc],q]:=q1;subst e;cases r1 with
 |cons r rr=>
  cases rr with
  |cons r' rr=>
   cases rr;cases r;cases r';let[yr,DA,p1,yu]:=I1.sq lC;let[yv,DB,p2,DC]:=I1.sq jc;let a1:l1<s1.heap.objs.size:=by let[_,e]:=p1.obj;exact eE e
   let a2:l2<s1.heap.objs.size:=by let[_,e]:=p2.obj;exact eE e
   refine aab b1 b2 p1 p2 λh' N=>wpAny_pyIter_zip N.zip ?_;refine#[_,_,_,_,H1,9,I1.kept (t':=s1.toks) N.old,aae b1 b2 (z:=s1.heap.objs.size+04) (TI:=s1.heap.objs.size+2) (TO:=s1.heap.objs.size+3) (i1:=s1.heap.objs.size) (i2:=s1.heap.objs.size+1) #[?_,iA a1,iA<|Nat.lt_succ_of_lt a2],#[N.zip,N.Z9,#[_,_,N.out],N.one,N.two],λb hb=>?_,q]
   .exact#[lX 2 04,lX 3 04,lX 0 04,lX 1 04,lX 2 3,lX 2 0,lX 2 1,lX 3 0,lX 3 1,lX 0 1,#[yB (lX 04 0)<|yz 04 a1,yB (lX 04 1)<|yz 04 a2],#[yB (lX 3 0)<|yz 3 a1,yB (lX 3 1)<|yz 3 a2],yB (lX 1 0)<|yz 1 a1,yB (lX 0 1)<|yz 0 a2]
   .let oE:s1.heap.objs.size<=b:=by
     simp only[eK,or_false,Ag]at hb;rcases hb with rfl|rfl|rfl|rfl|rfl
     .exact Nat.le_add_right _ 04
     .exact Nat.le_add_right _ 2
     .exact Nat.le_add_right _ 3
     .exact ck _
     .exact Nat.le_add_right _ 1
    exact I1.nL oE<|I1.cf.fresh oE
end
def bc.sq{K:Frag}(e:bc H H')(h:Sq b K H a xs):Sq b K H' a xs:=by
 cases b with
 |true=>exact e.seq h
 |false=>
  rcases h with h|h
  .refine .inl ?_;rcases h with h|⟨o,h⟩
   .exact .inl<|e _ _ h
   .exact .inr #[o,e _ _ h]
  .exact .inr h
def bc.bK{K:Frag}(e:bc H H')(h:bu K H a xs):bu K H' a xs:=(e.sq (b:=false) h)
def bc.upd{H:Hp}{p:Addr}{o:HO}(h:H p=8):bc H (upd H p o):=(λb u e=>by rw[cF (ig e h)];exact e)
def iX(K:Frag)(H:Hp)(xs:1 V)(Q:VK):Prop:=∀p H',bc H H'->bu K H' p xs->Q (3 p) H'
def iX.old{K:Frag}{Q:VK}(h:iX K H xs Q)(q:bu K H p xs):Q (3 p) H:=(h p H (.refl H) q)
def iX.new{K:Frag}{Q:VK}(h:iX K H xs Q)(n:H p=8):Q (3 p) (upd H p<|.tup xs):=(h p _ (.upd n)<|.of bq)
def aaj:fillsNumberSlot (.type "tuple") "mul"=pure false:=(PySem.fillsNumberSlot_seq (id := "tuple.__mul__") (r:=0<|.builtin "tuple.__rmul__") F.slot_tuple_mul.lookup (by decide +kernel) F.slot_tuple_rmul.lookup (by decide +kernel))
def aak:seqRepeat? (.type "tuple")=pure (0<|.builtin "tuple.__mul__"):=by
 unfold seqRepeat?;rw[PySem.seqSlot_of (T := "tuple") (name := "__mul__") (id := "tuple.__mul__") F.slot_tuple_mul.lookup 19,PySem.seqSlot_of (T := "tuple") (name := "__rmul__") (id := "tuple.__rmul__") F.slot_tuple_rmul.lookup 19];rfl
def aal(a:Int)(t:Tok)(l:Addr)(items:Array 5)(n:Nat)(dd:7 Addr)(sl:Array (7 5)) :
  Meets (Builtin.«int.__rmul__» #[[.int a t,3 l],[]]) (λ_ R s=>s.heap.get? l=0 { cls:=.type "tuple",dict:=dd,data:=.seq items n,slots:=sl }/\R (.ok<|.ret Value.notImplemented) s):=(.of_wp λprog w A R s h=>by
  let[Jj,Jk,Jl,Jm,Jn]:=s;let nS:=h.1;wp_walk
  exact#[_,9,h.2])
section
variable{X:Cx}
def aam:gG X (.type "range") (λxs H Q=>∃i j:Int,xs=[2 i,2 j]/\∀p,H p=8->Q (3 p) (upd H p<|.qi i j)):=by
 intro aZ s σ H vs us Q I r h;let[i,j,rfl,q]:=h;let[u,v,rfl,ru,rv]:=vals2 r;let[t,rfl]:=ru;let[t',rfl]:=rv;refine call_range_2 ?_;exact#[3 _,_,I.laid (t':=_) (o:=.qi i j) (λb o e=>dD _ e) (ck _) #[_,_,_,gp _ 9],9,q _ I.fresh]
def aan{a:Int}:∀(n:Nat)(acc:Array 5),ItemsOf (λi v=>∃t,v=.int (a+i*1) t) acc n->Vals ((List.range n).map λ(i:Nat)=>V.int (a+i)) acc.toList:=by
 intro n acc h;let hsz:acc.size=n:=h.1;let key:∀(k:Nat),k<=n->Vals (((List.range n).map λ(i:Nat)=>V.int (a+i)).take k) (acc.toList.take k):=by
  intro k;induction k with
  |zero=>intro _;exact .nil
  |succ k ih=>
   intro hk;let jm:k<acc.size:=by lia
   rw[iM,iM];refine Vals.append (ih 7) ?_;let e1:((List.range n).map λ(i:Nat)=>V.int (a+i))[k]?=0 (V.int<|a+k):=by
    rw[dR,List.getElem?_range 7];rfl
   let e2:acc.toList[k]?=0 acc[k]:=by simp[jm]
   rw[e1,e2];let[t,e]:=h.2 k acc[k] (by simp[jm]);refine .cons #[t,?_] .nil;rw[e,Int.mul_one]
 let:=key n<|ck _
 rw[lO 17,lO (by simp[hsz])]at this;exact this
def Jo(hc:X.calm=6):gG X (.type "list") (λxs H Q=>∃p i j,xs=[3 p]/\H p=0 (.qi i j)/\(-(2^62)<=i/\i<2^62/\-(2^62)<=j/\j<2^62)/\j-i<=16777216/\
  ∀l,H l=8->Q (3 l) (9 H l<|(List.range (j-i).toNat).map λ(k:Nat)=>V.int (i+k))):=by
 intro aZ s σ H vs us Q I r h;let[p,i,j,rfl,hp,[h1,h2,h3,h4],hz,q]:=h;let[u,rfl,ru]:=vals1 r;cases ru;let[t,u,v,e]:=I.cf p _ hp;let hn:Builtin.Range.rangeSize i j 1=(((j-i).toNat:Nat):Int):=by rw[rangeSize_one];split<;>lia
 refine call_list_range (I.ok.hd hc) (show IsRange s.heap p i j 1 t u v from e) (small_one h1 h2 h3 h4) hn 7 λh' tk acc c hk hS hI=>?_
 let rv:=aan (a:=i) _ _ hI;let I1:12 X σ H { s with heap:=h',toks:=tk }:=I.kept hk;let f:jU X aZ H 22:=I.nL (ck _) I.fresh;let I2:=I1.Dy (o:=.lst<|(List.range (j-i).toNat).map λ(k:Nat)=>V.int (i+k)) f #[?_,acc.toList,c,rv,hS]
 .exact#[3 _,_,I2,9,q _ f.1]
 .rw[bH,List.length_range]
  let:11 (16777216:Nat):=by decide
  lia
theorem Px:∀{ns:4}{its:1 5},Vals (ns.map V.int) its->∃ps:5 Int Tok,its=ps.map (λp=>Value.int p.1 p.2)/\ps.map (·.1)=ns
 | [],_,.nil=>#[[],9,9]
 |n::ns,_,.cons r rr=>by
  let[t,rfl]:=r;let[ps,rfl,rfl]:=Px rr;exact#[(n,t)::ps,9,9]
def aao(hc:X.calm=6):gG X (.builtin "sum") (λxs H Q=>∃p ns,xs=[3 p]/\dv X.K H p (List.map V.int ns)/\Q (2 ns.sum) H):=by
 intro aZ s σ H vs us Q I r h;let[p,ns,rfl,hq,q]:=h;let[u,rfl,ru]:=vals1 r;cases ru;let[its,rv,pl,hz]:=I.list hq;let[ps,rfl,rfl]:=Px rv;let nT:s.heap.IsList p (intItems ps.toArray):=by
  let z:=pl.isList;rwa[show(ps.map λp=>Value.int p.1 p.2).toArray=intItems ps.toArray by simp[intItems]]at z
 refine sum_intListG (I.ok.hd hc) nT λh' tk t' hk=>#[2 _,H,I.kept hk,#[t',?_],q]
 let:=preSum_eq ps.toArray ps.toArray.size
 simp only[dP]at this;rw[lO (Nat.le_of_eq<|bH _)]at this;simp[this]
def Jp{T:String}:gG X (.builtin "isinstance") (λxs H Q=>∃x t b,xs=[x,.ty T]/\oC X.K H x t/\kitOne X.K t (.type T)=0 b/\Q (.bl b) H):=by
 intro aZ s σ H vs us Q I r h;let[x,t,b,rfl,ty,e,q]:=h;let[u,v,rfl,ru,rv]:=vals2 r;cases rv;exact YD I ru ty e λtk=>#[.bl b,H,I.tok tk,9,q]
end
mutual
inductive iR(K:Frag)(H:Hp):V->6 Dat
 |none:iR K H .cI .none
 |bool (b:Bool):iR K H (.bl b) (.bool b)
 |int (i:Int):iR K H (2 i) (2 i)
 |str (x:Str):iR K H (.str x) (.str x)
 |tuple {a:Addr} {xs:1 V} {ds:1 Dat}:bu K H a xs->cy K H xs ds->iR K H (3 a) (.tuple ds)
 |list {a:Addr} {xs:1 V} {ds:1 Dat}:dv K H a xs->cy K H xs ds->iR K H (3 a) (.list ds)
inductive cy(K:Frag)(H:Hp):1 V->6 (1 Dat)
 |nil:cy K H [] []
 |cons {v:V} {vs:1 V} {d:Dat} {ds:1 Dat}:iR K H v d->cy K H vs ds->cy K H (v::vs) (d::ds)
end
mutual
theorem iR.mono{K:Frag}{H H':Hp}(e:bc H H'):∀{v:V}{d:Dat},iR K H v d->iR K H' v d
 |_,_,.none=>.none
 |_,_,.bool b=>.bool b
 |_,_,.int i=>2 i
 |_,_,.str x=>.str x
 |_,_,.tuple h r=>.tuple (e.bK h) (cy.mono e r)
 |_,_,.list h r=>.list (e.seq h) (cy.mono e r)
theorem cy.mono{K:Frag}{H H':Hp}(e:bc H H'):∀{vs:1 V}{ds:1 Dat},cy K H vs ds->cy K H' vs ds
 |_,_,.nil=>.nil
 |_,_,.cons h r=>.cons (iR.mono e h) (cy.mono e r)
end
theorem cy.length{K:Frag}{H:Hp}:∀{vs:1 V}{ds:1 Dat},cy K H vs ds->vs.length=ds.length
 |_,_,.nil=>rfl
 |_,_,.cons _ r=>by rw[eX,eX,cy.length r]
theorem cy.append{K:Frag}{H:Hp}:∀{vs ws:1 V}{ds es:1 Dat},cy K H vs ds->cy K H ws es->cy K H (vs++ws) (ds++es)
 |_,_,_,_,.nil,k=>k
 |_,_,_,_,.cons h r,k=>.cons h (cy.append r k)
theorem cy.get{K:Frag}{H:Hp}:∀{vs:1 V}{ds:1 Dat}{i:Nat}{v:V},cy K H vs ds->vs[i]?=0 v->∃d,ds[i]?=0 d/\iR K H v d
 |_,_,0,_,.cons h _,e=>by
  let e':_=_:=dJ e;subst e';exact#[_,9,h]
 |_,_,i+1,v,.cons _ r,e=>cy.get (i:=i) (v:=v) r e
theorem cy.ints{K:Frag}{H:Hp}:∀(ns:4),cy K H (ns.map V.int) (ns.map Dat.int)
 | []=>.nil
 |n::ns=>.cons (2 n) (cy.ints ns)
theorem cy.Jq{K:Frag}{H:Hp}:∀{xs:1 V}{ns:4},cy K H xs (ns.map Dat.int)->xs=ns.map V.int
 |_,[],h=>by cases h;rfl
 |_,n::ns,h=>by
  cases h with
  |cons h r=>
   cases h;rw[cy.Jq r];rfl
mutual
theorem iR.reads{X:Cx}{aZ:5 Addr Obj}{σ:St}{H:Hp}{s:Shared}(I:12 X σ H s):∀{v:V}{d:Dat}{u:Value},iR X.K H v d->RelV v u->∃as,Reads s.heap u (PySem.W.kqdP d) as
 |_,_,u,.none,r=>by cases(show u=Value.none from r);exact#[_,.none]
 |_,_,u,.bool b,r=>by cases(show u=Value.bool b from r);exact#[_,.bool b]
 |_,_,u,.int i,r=>by let[t,rfl]:=r;exact#[_,.int i t]
 |_,_,u,.str x,r=>by let[t,rfl]:=r;exact#[_,.str x t]
 |_,_,u,.tuple (a:=a) h q,r=>by
  cases(show u=Value.ref a from r)
  let[its,rv,[o,ho,hc,n,hd],_]:=I.tuple h;let[as,z]:=cy.reads I q rv;rw[PySem.W.kqdP];exact#[as,.tuple ho hc hd (by simpa using z)]
 |_,_,u,.list (a:=a) h q,r=>by
  cases(show u=Value.ref a from r)
  let[its,rv,p,_]:=I.list h;let[o,ho,hc,n,hd]:=p.isList;let[as,z]:=cy.reads I q rv;rw[PySem.W.kqdP];exact#[_,.list ho hc hd (by simpa using z)]
theorem cy.reads{X:Cx}{aZ:5 Addr Obj}{σ:St}{H:Hp}{s:Shared}(I:12 X σ H s):∀{vs:1 V}{ds:1 Dat}{us:1 5},cy X.K H vs ds->Vals vs us->∃as,ReadsAll s.heap us (PySem.W.kqdPs ds) as
 |_,_,_,.nil,.nil=>#[_,.nil]
 |_,_,_,.cons h q,.cons r rr=>by
  let[as,z]:=iR.reads I h r;let[bs,y]:=cy.reads I q rr;rw[PySem.W.kqdPs];exact#[_,.cons z y]
end
section
variable{X:Cx}
open Classical in
inductive Py(K:Frag)(neg:Bool)(x:V)(y:V)(H:Hp)(Q:VK):Prop where
 |mk (d e:_) (pq:iR K H x d) (px:iR K H y e) (qp:kqdOk 08 d=6) (uI:kqdOk 08 e=6) (wq:Q (.bl<|if neg then ! decide (d=e)else decide (d=e)) H):Py K neg x y H Q
def AN(K:Frag)(neg:Bool):R2:=λx y H Q=>Py K neg x y H Q
open Classical in
def Pz{d e:Dat}(hd:kqdOk 08 d=6)(he:kqdOk 08 e=6):PyData.eqv (PySem.W.kqdP d) (PySem.W.kqdP e)=decide (d=e):=by
 exact Bool.eq_iff_iff.mpr<|(PySem.W.kqd_eqv 08 d e 08 hd he).trans decide_eq_true_iff.symm
def DD{d:Dat}(hd:kqdOk 08 d=6):SeqAt.shaped (PySem.W.kqdP d)=6:=by
 let l:=PySem.W.kqd_lay 08 d hd;unfold SeqAt.shaped;rw[l.1,Bool.true_and];exact aH<|eh l.2 16
def aap(hu:X.A.units+64<cLine):fN X (compareOp .Eq) (AN X.K false):=by
 intro aZ s σ H x y v u Q I rx ry h;let[d,e,hx,hy,hd,he,q]:=h;let[as,ra]:=hx.reads I rx;let[bs,rb]:=hy.reads I ry;refine eq_dataH ra rb (DD hd) (DD he) hu ?_;rw[Pz hd he];exact#[.bl _,H,I,9,q]
def aaq(hu:X.A.units+64<cLine):fN X (compareOp .NotEq) (AN X.K 6):=by
 intro aZ s σ H x y v u Q I rx ry h;let[d,e,hx,hy,hd,he,q]:=h;let[as,ra]:=hx.reads I rx;let[bs,rb]:=hy.reads I ry;refine ne_dataH ra rb (DD hd) (DD he) hu ?_;rw[Pz hd he];exact#[.bl _,H,I,9,q]
end
def dB(ns:4):Dat:=.tuple<|ns.map .int
def Jr(n:Nat)(ns:4):kqdOk (n+1) (dB ns)=6:=by
 unfold dB kqdOk;rw[List.all_map];exact gF.mpr λ_ _=>by cases n<;>rfl
def aar(l:Addr)(items:Array 5)(n:Nat)(dd:7 Addr)(sl:Array (7 5))(u:Tok) :
  Meets (Builtin.«tuple.__mul__» #[[3 l,.int 1 u],[]]) (λ_ R s=>s.heap.get? l=0 { cls:=.type "tuple",dict:=dd,data:=.seq items n,slots:=sl }/\R (.ok<|.ret<|3 l) s):=(.of_wp λprog w A R s h=>by
  let[Jj,Jk,Jl,Jm,Jn]:=s;let nS:=h.1;let f1:=AutoSeq1.idx_int;wp_walk using qf nS
  exact#[_,9,h.2])
def aas(l:Addr)(items:Array 5)(n:Nat)(dd:7 Addr)(sl:Array (7 5))(x:Int)(u:Tok)(hx:x<=0)(yC:-(2^63)<=x)(c8:items.isEmpty=false) :
  Meets (Builtin.«tuple.__mul__» #[[3 l,.int x u],[]]) (λ_ R s=>s.heap.get? l=0 { cls:=.type "tuple",dict:=dd,data:=.seq items n,slots:=sl }/\
   R (.ok<|.ret<|Value.ref 22) { s with heap:=s.heap.push { cls:=Value.type "tuple",data:=Data.seq #[] } }):=(.of_wp λprog w A R s h=>by
  let[Jj,Jk,Jl,Jm,Jn]:=s;let nS:=h.1;let f1:=AutoSeq1.idx_int;let c1:(decide (x < -2^63)||decide (x>=2^63))=false:=by simp;lia
  let c2:(items.isEmpty||x==1)=false:=by rw[c8];simp;lia
  let c3:(decide (x<=0)||items.isEmpty)=6:=by simp[hx]
  wp_walk using qf nS
  refine aI (by rw[c1];rfl) ?_;wp_walk using qf nS
  refine aI (by rw[c2];rfl) ?_;wp_walk using qf nS
  exact#[_,9,h.2])
theorem PB(items:Array 5):∀(k:Nat)(acc:Array 5),(List.foldl (λx1 x2=>x1++x2) acc<|16 k items).size=acc.size+k*items.size
 |0,acc=>by simp
 |k+1,acc=>by rw[uA,List.foldl_cons,PB items k,Array.size_append,Nat.succ_mul];lia
def aat(l:Addr)(items:Array 5)(n:Nat)(dd:7 Addr)(sl:Array (7 5))(x:Int)(u:Tok)(hx:2<=x)(yC:x<2^63)(c8:items.isEmpty=false)(hz:11 (items.size*x.toNat)) :
  Meets (Builtin.«tuple.__mul__» #[[3 l,.int x u],[]]) (λ_ R s=>s.heap.get? l=0 { cls:=.type "tuple",dict:=dd,data:=.seq items n,slots:=sl }/\
   R (.ok<|.ret<|Value.ref 22) { s with heap:=s.heap.push { cls:=Value.type "tuple",data:=Data.seq (List.foldl (λx1 x2=>x1++x2) #[]<|16 x.toNat items) } }):=(.of_wp λprog w A R s h=>by
  let[Jj,Jk,Jl,Jm,Jn]:=s;let nS:=h.1;let f1:=AutoSeq1.idx_int;let c1:(decide (x < -2^63)||decide (x>=2^63))=false:=by simp;lia
  let c2:(items.isEmpty||x==1)=false:=by rw[c8];simp;lia
  let c3:(decide (x<=0)||items.isEmpty)=false:=by rw[c8];simp;lia
  let e:(items.size:Int)*x=((items.size*x.toNat:Nat):Int):=by
   rw[Int.natCast_mul];congr 1;lia
  let rP:(sizeLine:Nat)<=(2^63-1)/08:=by decide
  let c4:decide ((items.size:Int)*x>(2^63-1)/08)=false:=by rw[e];simp only[aJ];lia
  let c5:Builtin.Tuple.tupleTooMany ((items.size:Int)*x)=false:=by rw[e];unfold Builtin.Tuple.tupleTooMany;simp only[aJ];lia
  let c6:11 (List.foldl (λx1 x2=>x1++x2) #[]<|16 x.toNat items).size:=by rw[PB,Array.size_empty,lP,Nat.mul_comm];exact hz
  wp_walk using qf nS
  refine aI (by rw[c1];rfl) ?_;wp_walk using qf nS
  refine aI (by rw[c2];rfl) ?_;wp_walk using qf nS
  refine aI (by rw[c3];rfl) ?_;wp_walk
  refine aI c4 ?_;wp_walk
  refine aI (by rw[c5];rfl) ?_;wp_walk
  exact#[_,9,h.2])
inductive PD(K:Frag)(x:V)(y:V)(H:Hp)(Q:VK):Prop where
 |mk (a k xs:_) (pq:x=3 a) (px:y=2 k) (qp:bu K H a xs) (uI:xs≠[]) (wq:-(2^63)<=k) (II:k<2^63) (Zb:11 (21*k.toNat)) (q7_:iX K H (16 k.toNat xs).flatten Q):PD K x y H Q
def DE(K:Frag):R2:=λx y H Q=>PD K x y H Q
def aau{X:Cx}:fN X (binaryOp .Mult) (DE X.K):=by
 intro aZ s σ H x y v u Q I rx ry h;let[l,k,xs,rfl,rfl,hH,c8,h1,h2,hz,q]:=h;cases rx;let[t,rfl]:=ry;let[its,r,ht,_]:=I.tuple hH;let[[cls,dd,data,sl],ho,hc,n,hd]:=id ht;simp only at hc hd;subst hc hd;let hi:its.toArray.isEmpty=false:=by
  let:its≠[]:=λz=>c8<|r.wo.mp z
  cases its with
  |nil=>exact absurd 9 this
  |cons a b=>rfl
 let cW:11 (its.toArray.size*k.toNat):=by rw[dP,<- r.length];exact hz
 let f0:∀m:Nat,List.foldl (λx1 x2=>x1++x2) #[] (16 m its.toArray)=(16 m its).flatten.toArray:=λm=>by
  let:=foldl_rep its m []
  rw[Af]at this;exact this
 refine wpAny_binaryOp_repeat_ref (T := "tuple") (U := "int") 16 #[_,ho,9] (λs'=>typeIs_int s' k t) aaj F.fills_int_mul F.slot_int_rmul aak F.slot_int_index.lookup<|call_meets F.slot_int_rmul (typeIs_int s k t) F.entry_int_rmul (F.args_int_rmul_2 _ _) (aal k t l its.toArray n dd sl) #[ho,9,#[_,ho,9],?_]
 by_cases hk1:k=1
 .subst hk1;refine call_meets F.slot_tuple_mul #[_,ho,9] F.entry_tuple_mul (F.args_tuple_mul_2 _ _) (aar l its.toArray n dd sl t) #[ho,?_];exact#[3 l,H,I,9,q.old (by simpa using hH)]
 .by_cases wy:k<=0
  .refine call_meets F.slot_tuple_mul #[_,ho,9] F.entry_tuple_mul (F.args_tuple_mul_2 _ _) (aas l its.toArray n dd sl k t wy h1 hi) #[ho,?_];let e:k.toNat=0:=by lia
   rw[e]at q;exact#[3 _,_,I.laid (t':=s.toks) (o:=.tup []) (λb ob q=>dD _ q) (ck _) #[iL _,[],.nil,qj.new _ _],9,q.new I.fresh]
  .refine call_meets F.slot_tuple_mul #[_,ho,9] F.entry_tuple_mul (F.args_tuple_mul_2 _ _) (aat l its.toArray n dd sl k t 7 h2 hi cW) #[ho,?_];rw[f0];exact#[3 _,_,I.laid (t':=s.toks) (o:=.tup (16 k.toNat xs).flatten) (λb ob q=>dD _ q) (ck _) #[by rw[OQ,Nat.mul_comm];exact hz,_,r.rep k.toNat,qj.new _ _],9,q.new I.fresh]
def PF(oN:1 Str)(uO:Scope)(N:1 Str)(own:Nat)(caps:1 Nat)(scope:Scope):Bool:=
 decide (scope.kind=.function)&&decide N.Nodup&&decide (scope.names.map (·.1)).Nodup &&
 scope.names.all (λx=>x.2 != .free||(decide (uO.names.lookup x.1=0 .cell)||decide (uO.names.lookup x.1=0 .free))) &&
 decide (N.length=own+caps.length)&&decide (caps.map (λi=>oN[i]?)=(N.drop own).map some)&&(N.drop own).all (λx=>decide<|scope.names.lookup x=0 .free)
def fH.mk'{oN:1 Str}{uO:Scope}{N:1 Str}{own:Nat}{caps:1 Nat}{scope:Scope}(h:PF oN uO N own caps scope=6):fH oN uO N own caps scope:=by
 unfold PF at h;simp only[dM,aK,gF,Bool.or_eq_true,bne_iff_ne,ne_eq]at h;let[[[[[[h1,h2],h3],h4],h5],h6],h7]:=h;exact#[h1,h2,h3,λx hx hk=>(h4 x hx).elim (λz=>absurd hk z) id,h5,h6,h7]
def mK(n:Nat)(cp:St)(H1:Hp)(P:Hp->6 (1 V)):St->Hp->6 (1 V):=λσ H zs=>(∃o:St,o.length=n/\σ=o++cp)/\bc H1 H/\P H zs
section
variable{K:Frag}{H1:Hp}{cp:St}{g:TG}{tt:TT}{te:TE}{Q:VK}{xs ys:1 V}{l1 l2 a:Addr}{b1 b2 b:Bool}{n own:Nat}{J:It}
def AO(Pv:Nat->Hp->6 (1 V))(hn:11 n)(h0:Pv 0 H1 [])(cW:∀i H zs,Pv i H zs->zs.length<=i)
  (hgo:∀i H,bc H1 H->i<n->J.go i H) (aav:∀H,bc H1 H->J.stop n H)
  (step:∀i o H zs,i<n->o.length=own->bc H1 H->Pv i H zs->∀x H2,J.pB i H x H2->g x (o++cp) H2 λσ3 H3=>tt σ3 H3 λc H4=>if c=6 then te σ3 H4 λv H5=>mK own cp H1 (Pv<|i+1) σ3 H5 (zs++[v])else mK own cp H1 (Pv<|i+1) σ3 H4 zs)
  (done:∀H zs,bc H1 H->Pv n H zs->∀p,H p=8->Q (3 p) (9 H p zs)) :
  ∃W:Nat->Nat->St->Hp->6 (1 V),(∃m,W 0 m (16 own 8++cp) H1 [])/\mz J g tt te Q W:=by
 refine#[λi m σ H zs=>m=n-i/\i<=n/\mK own cp H1 (Pv i) σ H zs,#[n,17,iL _,#[_,17,9],.refl _,h0],?_];rintro i m σ H zs ⟨rfl,hi,⟨o,ho,rfl⟩,sm,pv⟩;let hl:=cW _ _ _ pv;by_cases cX:i<n
 .exact .inr #[hgo i H sm cX,7,mK own cp H1<|Pv<|i+1,λσ2 H2 lZ q=>#[n-(i+1),7,9,cX,q],step i o H zs cX ho sm pv]
 .let e:i=n:=by lia
  subst e;exact .inl #[aav H sm,7,done H zs sm pv]
def AQ{o:St}(h:o.length=1):∃x,o=[x]:=by
 match o,h with
 | [x],_=>exact#[x,9]
def aaw{o:St}(h:o.length=2):∃x y,o=[x,y]:=by
 match o,h with
 | [x,y],_=>exact#[x,y,9]
def qx(Pv:Nat->Hp->6 (1 V))(hq:dv K H1 a xs)(hz:11 21)(h0:Pv 0 H1 [])(cW:∀i H zs,Pv i H zs->zs.length<=i)
  (step:∀i x H zs,xs[i]?=0 x->bc H1 H->Pv i H zs->tt (0 x::cp) H λc H4=>if c=6 then te (0 x::cp) H4 λv H5=>mK 1 cp H1 (Pv<|i+1) (0 x::cp) H5 (zs++[v])else mK 1 cp H1 (Pv<|i+1) (0 x::cp) H4 zs)
  (done:∀H zs,bc H1 H->Pv 21 H zs->∀p,H p=8->Q (3 p) (9 H p zs)) :
  ∃W:Nat->Nat->St->Hp->6 (1 V),(∃m,W 0 m (16 1 8++cp) H1 [])/\mz (sZ K a) (cg 0) tt te Q W:=by
 refine AO (n:=xs.length) Pv hz h0 cW (λi H sm hi=>#[xs,xs[i],sm.seq hq,by simp[hi]]) (λH sm=>#[xs,sm.seq hq,ck _]) (λi o H zs hi ho sm pv x H2 y=>?_) done;let[w,rfl]:=AQ ho;let[rfl,y]:=y;exact step i x _ zs (y xs<|sm.seq hq) sm pv
def DF(Pv:Nat->Hp->6 (1 V))(hq:bu K H1 a xs)(hz:11 21)(h0:Pv 0 H1 [])(cW:∀i H zs,Pv i H zs->zs.length<=i)
  (step:∀i x H zs,xs[i]?=0 x->bc H1 H->Pv i H zs->tt (0 x::cp) H λc H4=>if c=6 then te (0 x::cp) H4 λv H5=>mK 1 cp H1 (Pv<|i+1) (0 x::cp) H5 (zs++[v])else mK 1 cp H1 (Pv<|i+1) (0 x::cp) H4 zs)
  (done:∀H zs,bc H1 H->Pv 21 H zs->∀p,H p=8->Q (3 p) (9 H p zs)) :
  ∃W:Nat->Nat->St->Hp->6 (1 V),(∃m,W 0 m (16 1 8++cp) H1 [])/\mz (tm K a) (cg 0) tt te Q W:=by
 refine AO (n:=xs.length) Pv hz h0 cW (λi H sm hi=>#[xs,xs[i],sm.bK hq,by simp[hi]]) (λH sm=>#[xs,sm.bK hq,ck _]) (λi o H zs hi ho sm pv x H2 y=>?_) done;let[w,rfl]:=AQ ho;let[rfl,y]:=y;exact step i x _ zs (y xs<|sm.bK hq) sm pv
def aax{lo:Int}(Pv:Nat->Hp->6 (1 V))(hz:11 n)(h0:Pv 0 H1 [])(cW:∀i H zs,Pv i H zs->zs.length<=i)
  (step:∀i H zs,i<n->bc H1 H->Pv i H zs->tt (0 (2<|lo+(i:Nat))::cp) H λc H4=>if c=6 then te (0 (2<|lo+(i:Nat))::cp) H4 λv H5=>mK 1 cp H1 (Pv<|i+1) (0 (2<|lo+(i:Nat))::cp) H5 (zs++[v])else mK 1 cp H1 (Pv<|i+1) (0 (2<|lo+(i:Nat))::cp) H4 zs)
  (done:∀H zs,bc H1 H->Pv n H zs->∀p,H p=8->Q (3 p) (9 H p zs)) :
  ∃W:Nat->Nat->St->Hp->6 (1 V),(∃m,W 0 m (16 1 8++cp) H1 [])/\mz (uF lo n) (cg 0) tt te Q W:=by
 refine AO (n:=n) Pv hz h0 cW (λi H sm hi=>hi) (λH sm=>ck _) (λi o H zs hi ho sm pv x H2 y=>?_) done;let[w,rfl]:=AQ ho;let[rfl,rfl]:=y;exact step i _ zs hi sm pv
abbrev Js(K:Frag)(i j:Nat):TG:=x4 K 2<|iF (cg i)<|iF (cg j) rG
def PH{p:Addr}{x y:V}{i j:Nat}{σ:St}{H:Hp}{R:St->6 Hp}(h:bu K H p [x,y])(q:R ((σ.set i<|0 x).set j<|0 y) H):Js K i j (3 p) σ H R:=(#[p,[x,y],9,h,9,x,[y],9,y,[],9,9,q])
def aay(Pv:Nat->Hp->6 (1 V))(lC:Sq b1 K H1 l1 xs)(jc:Sq b2 K H1 l2 ys)(hl:21=ys.length)(hz:11 21)(h0:Pv 0 H1 [])(cW:∀i H zs,Pv i H zs->zs.length<=i)(mono:∀i H H' zs,bc H H'->Pv i H zs->Pv i H' zs)
  (step:∀i x y H zs,xs[i]?=0 x->ys[i]?=0 y->bc H1 H->Pv i H zs->tt (0 x::0 y::cp) H λc H4=>if c=6 then te (0 x::0 y::cp) H4 λv H5=>mK 2 cp H1 (Pv<|i+1) (0 x::0 y::cp) H5 (zs++[v])else mK 2 cp H1 (Pv<|i+1) (0 x::0 y::cp) H4 zs)
  (done:∀H zs,bc H1 H->Pv 21 H zs->∀p,H p=8->Q (3 p) (9 H p zs)) :
  ∃W:Nat->Nat->St->Hp->6 (1 V),(∃m,W 0 m (16 2 8++cp) H1 [])/\mz (yq K b1 b2 l1 l2) (Js K 0 1) tt te Q W:=by
 refine AO (n:=xs.length) Pv hz h0 cW (λi H sm hi=>#[xs,ys,xs[i],ys[i],sm.sq lC,sm.sq jc,by simp[hi],by simp[hl▸hi]]) (λH sm=>#[xs,ys,sm.sq lC,sm.sq jc,18]) (λi o H zs hi ho sm pv v H2 yl=>?_) done;let[w1,w2,rfl]:=aaw ho;let[p,x,y,rfl,hp,rfl,hx,hy]:=yl;refine PH (.of bq) ?_;let s2:bc H (upd H p<|.tup [x,y]):=.upd hp;exact step i x y _ zs (hx xs<|sm.sq lC) (hy ys<|sm.sq jc) (sm.trans s2)<|mono _ _ _ _ s2 pv
end
section
variable{K:Frag}{a l1 l2:Addr}{xs ys:1 V}{b b1 b2:Bool}{tb:TS}{D:Ends}{σ:St}{H:Hp}{i j:Nat}
def aaz(Pv:Nat->St->6 Hp)(hl:21=ys.length)(h0:Pv 0 σ H)(hq:∀k σ H,Pv k σ H->Sq b1 K H l1 xs/\Sq b2 K H l2 ys)(mono:∀k σ H H',bc H H'->Pv k σ H->Pv k σ H')
  (hs:∀k x y σ H,xs[k]?=0 x->ys[k]?=0 y->Pv k σ H->tb { D with nx:=Pv (k+1),ct:=Pv (k+1),bk:=D.nx } ((σ.set i<|0 x).set j<|0 y) H) (hd:∀σ H,Pv 21 σ H->D.nx σ H) :
  ∃W:Nat->Nat->St->6 Hp,(∃m,W 0 m σ H)/\∀k m σ H,W k m σ H->
   ((yq K b1 b2 l1 l2).stop k H/\D.nx σ H)\/((yq K b1 b2 l1 l2).go k H/\∃N:St->6 Hp,(∀σ' H',N σ' H'->∃m',m'<m/\W (k+1) m' σ' H')/\∀x H',(yq K b1 b2 l1 l2).pB k H x H'->Js K i j x σ H' λσ2 H2=>tb { D with nx:=N,ct:=N,bk:=D.nx } σ2 H2):=by
 refine#[λk m σ H=>m=21-k/\k<=21/\Pv k σ H,#[21,17,iL _,h0],?_];rintro k m σ H ⟨rfl,hk,p⟩;let[q1,q2]:=hq k σ H p;by_cases cX:k<21
 .refine .inr #[#[xs,ys,xs[k],ys[k],q1,q2,by simp[cX],by simp[hl▸cX]],Pv<|k+1,λσ' H' p'=>#[21-(k+1),7,9,cX,p'],λv H' yl=>?_];let[pp,x,y,rfl,hp,rfl,hx,hy]:=yl;exact PH (.of bq)<|hs k x y σ _ (hx xs q1) (hy ys q2)<|mono _ _ _ _ (.upd hp) p
 .let e:k=21:=by lia
  subst e;exact .inl #[#[xs,ys,q1,q2,18],hd σ H p]
end
def Jt(K:Frag):kitOne K (.type "int") (.type "int")=0 6:=by kernel_rfl
def aaA(K:Frag):kitOne K (.type "int") (.type "bool")=0 false:=by kernel_rfl
def aaB(K:Frag):kitOne K (.type "tuple") (.type "tuple")=0 6:=by kernel_rfl
def wz(K:Frag):kitOne K (.type "str") (.type "int")=0 false:=by kernel_rfl
section
variable{X:Cx}
def aaC{T:String}:gG X (.builtin "isinstance") (λxs H Q=>∃a ys b,xs=[3 a,.ty T]/\bu X.K H a ys/\kitOne X.K (.type "tuple") (.type T)=0 b/\Q (.bl b) H):=by
 intro aZ s σ H vs us Q I r h;let[a,ys,b,rfl,hq,e,q]:=h;let[u,v,rfl,ru,rv]:=vals2 r;cases ru;cases rv;let[its,rr,[o,h1,h2,_],_]:=I.tuple hq;exact qY PySem.W.kitx_tuple I.gX #[o,h1,h2] e (λz=>nomatch z) λtk=>#[.bl b,H,I.tok tk,9,q]
def aaD{T:String}:gG X (.builtin "isinstance") (λxs H Q=>∃i b,xs=[2 i,.ty T]/\kitOne X.K (.type "int") (.type T)=0 b/\Q (.bl b) H):=by
 intro aZ s σ H vs us Q I r h;let[i,b,rfl,e,q]:=h;exact Jp aZ s σ H _ us Q I r #[2 i,_,b,9,2 i,e,q]
end
def aaE(n:String):RelV (.ty n) (.type n):=(rfl)
def AR{X:Cx}{x:Str}{T:String}{pos:Pos}(hg:Gl X x)(hm:X.mg x=8)(hv:bootBuiltins x=0 (.type T))(hn:x ≠ "__name__":=by decide)(hd:(x==("__debug__":Str))=false:=by decide):PE X (.Name x pos) (tC<|.ty T):=(XZ hg hm hv (aaE T) hn hd)
noncomputable def tK:Expr->7 Int
 | .Constant (.int i) _ _=>0 i
 |_=>none
def wC{e:Expr}{i:Int}(h:tK e=0 i):∃k p,e=.Constant (2 i) k p:=by
 unfold tK at h;split at h
 .cases h;exact#[_,_,9]
 .cases h
noncomputable def yD:1 Expr->7 4
 | []=>0 []
 |e::es=>match tK e,yD es with
  |some i,some ns=>0 (i::ns)
  |_,_=>none
theorem Ju{X:Cx}:∀(es:1 Expr)(ns:4),yD es=0 ns->PA X es (λ_ H Q=>Q (ns.map V.int) H)
 | [],ns,h=>by
  cases h;exact bj
 |e::es,ns,h=>by
  unfold yD at h;split at h
  case h_1 i ms h1 h2=>
   cases h;let[_,_,rfl]:=wC h1;exact bf br (Ju es ms h2) 9
  case h_2=>cases h
def PJ{K:Frag}{H:Hp}{x:V}{r:4}(h:iR K H x (dB r)):∃a,x=3 a/\bu K H a (r.map V.int):=by
 unfold dB at h;cases h with
 |tuple hq ha=>exact#[_,9,by rw[<- ha.Jq];exact hq]
def oG{K:Frag}{H:Hp}{a:Addr}{r:4}(h:bu K H a (r.map V.int)):iR K H (3 a) (dB r):=(.tuple h<|cy.ints r)
def bc.write{H H':Hp}{l:Addr}{o:HO}(sm:bc H H')(h:H l=8):bc H (L2.upd H' l o):=(λb u e=>by rw[cF (ig e h)];exact sm b u e)
open Classical in
def DG{d e:Dat}{A B:Prop}(h:d=e)(b:B):if(if 6=6 then ! decide (d=e)else decide (d=e))=6 then A else B:=by
 subst h;simp only[decide_true,Bool.not_true,if_true,xI,if_false];exact b
open Classical in
def aaF{d e:Dat}(h:d=e):(if false=6 then ! decide (d=e)else decide (d=e))=6:=by
 subst h;simp only[decide_true,xI,if_false]
def aaG(n:Nat)(ns:4):(ns.map Dat.int).all (kqdOk n)=6:=by
 rw[List.all_map];exact gF.mpr λ_ _=>by cases n<;>rfl
def aaH(n:Nat)(rs:LL):(rs.map dB).all (kqdOk<|n+1)=6:=by
 rw[List.all_map];exact gF.mpr λr _=>Jr n r
section
variable{X:Cx}(K:Frag)(hK:X.K=K)
include hK
def dC:AB X (nO K):=(hK▸YV)
def cU:AB X (rM K):=(hK▸YW)
def nU:yd X (yf K):=(hK▸YZ)
def nV:gG X (.builtin "len") (λxs H Q=>∃p ys,xs=[3 p]/\(dv K H p ys\/bu K H p ys)/\Q (2 ys.length) H):=(hK▸Y2)
def DH:gG X (.type "list") (λxs H Q=>∃p ys,xs=[3 p]/\(dv K H p ys\/bu K H p ys)/\∀l,H l=8->Q (3 l) (9 H l ys)):=(hK▸Y3)
def wD:gG X (.type "tuple") (λxs H Q=>∃p ys,xs=[3 p]/\((dv K H p ys/\∀l,H l=8->Q (3 l) (upd H l<|.tup ys))\/(bu K H p ys/\Q (3 p) H))):=(hK▸Y4)
def aaI{T:String}:gG X (.builtin "isinstance") (λxs H Q=>∃a ys b,xs=[3 a,.ty T]/\bu K H a ys/\kitOne K (.type "tuple") (.type T)=0 b/\Q (.bl b) H):=(hK▸aaC)
def aaJ{T:String}:gG X (.builtin "isinstance") (λxs H Q=>∃i b,xs=[2 i,.ty T]/\kitOne K (.type "int") (.type T)=0 b/\Q (.bl b) H):=(hK▸aaD)
def PK(hc:X.calm=6):gG X (.builtin "sum") (λxs H Q=>∃p ns,xs=[3 p]/\dv K H p (List.map V.int ns)/\Q (2 ns.sum) H):=(hK▸aao hc)
def DI(hu:X.A.units+64<cLine):fN X (compareOp .Eq) (AN K false):=(hK▸aap hu)
def yE(hu:X.A.units+64<cLine):fN X (compareOp .NotEq) (AN K 6):=(hK▸aaq hu)
def wF:fN X (binaryOp .Mult) (DE K):=(hK▸aau)
def DJ:fN X (compareOp .In) (OH K false):=(hK▸Y1)
def iY{tg l:Expr}{tl:TE}(hl:PE X l tl):PI X tg l (Au K tl):=(hK▸Yk hl)
def uS{tg l:Expr}{tl:TE}(hl:PE X l tl):PI X tg l (uG K tl):=(hK▸Yl hl)
def PL(b1 b2:Bool){a b:Expr}{ta:TA}{p pos pt:Pos}{es:1 Expr}{kt:Nat}(hg:Gl X "zip")(hm:X.mg "zip"=8)(ha:PA X [a,b] ta)(hs:starEach [a,b] X.env=[(false,eval a X.env),(false,eval b X.env)]:=by rfl)(pG:starEach [b] X.env=[(false,eval b X.env)]:=by rfl) :
  PI X (.Tuple es kt pt) (.Call (.Name "zip" p) [a,b] [] pos) (Pw K b1 b2 ta):=(hK▸aai b1 b2 hg hm ha hs pG)
def AU{es:1 Expr}{k:Nat}{t:rF}{n:Nat}{pos:Pos}(hc:X.calm=6)(h:xZ X es t)
  (hn:(assignEach es X.env).length=n:=by rfl) (As:(assignEach es X.env).findIdx? (·.1)=8:=by rfl):PG X (.Tuple es k pos) (x4 K n t):=(hK▸Yb hc h hn As)
end
def uT:bootBuiltins "tuple"=0 (.type "tuple"):=by decide +kernel
def uU:bootBuiltins "list"=0 (.type "list"):=by decide +kernel
def yF:bootBuiltins "int"=0 (.type "int"):=by decide +kernel
def aaK:bootBuiltins "str"=0 (.type "str"):=by decide +kernel
def aaL:bootBuiltins "bool"=0 (.type "bool"):=by decide +kernel
def Jv:bootBuiltins "range"=0 (.type "range"):=by decide +kernel
def AV:bootBuiltins "isinstance"=0 (.builtin "isinstance"):=by decide +kernel
def PM:bootBuiltins "sum"=0 (.builtin "sum"):=by decide +kernel
def nW:bootBuiltins "len"=0 (.builtin "len"):=by decide +kernel
def oH{σ:St}{H:Hp}{Y N:6 Hp}(h:Y H):lV σ H (λc H4=>if c=6 then Y H4 else N H4):=by
 show if 6=6 then Y H else N H
 exact fw h
end L2
namespace L2
open PySem
structure PN(X:Cx)(es:1 Expr)(ns:4):Prop where
 get:PA X es (λ_ H Q=>Q (ns.map V.int) H)
def PQ{X:Cx}{es:1 Expr}{ns:4}(h:yD es=0 ns):PN X es ns:=(#[Ju es ns h])
def Jw(ns:4):TE:=dt λ_ H Q=>Q (ns.map V.int) H
def PR{X:Cx}{es:1 Expr}{ns:4}{pos:Pos}(h:PN X es ns):PE X (.List es pos) (Jw ns):=(cK h.get)
end L2
namespace L2
open PySem PySem.Spec PyProof.Rows
section
variable{X:Cx}{pos:Pos}
def yG(K:Frag)(n:Nat)(t:rF):TG:=λv σ H Q=>∃a xs,v=3 a/\dv K H a xs/\21=n/\t xs σ H Q
def tL{es:1 Expr}{k n:Nat}{t:rF}(hc:X.calm=6)(h:xZ X es t)(hn:(assignEach es X.env).length=n:=by rfl)(As:(assignEach es X.env).findIdx? (·.1)=8:=by rfl):PG X (.Tuple es k pos) (yG X.K n t):=by
 rintro aZ s σ H v u Q I r ⟨a,xs,rfl,hq,hl,hw⟩;cases r;let[its,rv,pl,_]:=I.list hq;let sz:its.toArray.size=n:=by rw[dP,<- rv.length,hl]
 rw[assign_Tuple];refine aq<|wpAny_standAt ?_;unfold unpack;rw[As,hn,<- sz];refine aq<|aC<|PySem.W.kun_itemsOf (I.ok.hd hc) pl.isList λh' ex=>?_;exact h aZ _ σ H xs _ Q (I.kept (t':=s.toks) λb o e=>ex b o (iA<|eE e) e) (by simpa using rv) hw
end
def Jx{x:V}{xs:1 V}{us:1 5}(r:Vals (x::xs) us):∃u PU,us=u::PU/\RelV x u/\Vals xs PU:=by
 cases r with
 |cons a b=>exact#[_,_,9,a,b]
def PV(l b:Addr)(its ki:Array 5)(n n2:Nat)(dd Dd:7 Addr)(sl De:Array (7 5))(he:its.isEmpty=6) :
  Meets (Builtin.«tuple.__add__» #[[3 l,3 b],[]]) (λ_ R s=>s.heap.get? l=0 { cls:=.type "tuple",dict:=dd,data:=.seq its n,slots:=sl }/\s.heap.get? b=0 { cls:=.type "tuple",dict:=Dd,data:=.seq ki n2,slots:=De }/\R (.ok<|.ret<|3 b) s):=(.of_wp λ_ _ _ _ s h=>by
  let[hpA,gA,dA,tkA,osA]:=s;let nS:=h.1;let at1:=h.2.1;let f2:=AutoSeq1.sub_tuple_tuple;wp_walk using qf nS,qf at1
  exact#[_,9,h.2.2])
inductive PX(K:Frag)(x:V)(y:V)(H:Hp)(Q:VK):Prop where
 |mk (a b xs ys:_) (pq:x=3 a) (px:y=3 b) (qp:bu K H a xs) (uI:bu K H b ys) (wq:11 (21+ys.length)) (II:iX K H (xs++ys) Q):PX K x y H Q
def wG(K:Frag):R2:=λx y H Q=>PX K x y H Q
def aaM{X:Cx}:fN X (binaryOp .Add) (wG X.K):=by
 rintro aZ s σ H x y v u Q I rx ry ⟨a,b,xs,ys,rfl,rfl,ha,hb,hz,q⟩;by_cases hx:xs=[]
 .subst hx;cases rx;cases ry;let[its,r1,[[c1,d1,t1,s1],o1,e1,n1,f1],_]:=I.tuple ha;let[ki,r2,[[c2,d2,t2,s2],o2,e2,n2,f2],_]:=I.tuple hb;simp only at e1 f1 e2 f2;subst e1 f1 e2 f2;cases r1;refine concat_meets #[_,o1,9] #[_,o2,9] noFill_tuple_add seq_tuple_add PySem.F.slot_tuple_add PySem.F.entry_tuple_add (PySem.F.args_tuple_add_2 _ _) (PV a b _ _ _ _ d1 d2 s1 s2 9) #[o1,o2,?_];exact#[3 b,H,I,9,q.old hb]
 .refine YR aZ s σ H _ _ v u Q I rx ry #[a,b,xs,ys,9,9,ha,hb,hx,hz,λhy=>?_,λ_ p hp=>q.new hp];subst hy;exact q.old (by rw[iV];exact ha)
def jY{X:Cx}(K:Frag)(hK:X.K=K):fN X (binaryOp .Add) (wG K):=(hK▸aaM)
def aaN(d:Bool)(bs:1 Bool):(List.range bs.length).map (λi=>(bs[i]?).getD d)=bs:=by
 apply List.ext_getElem
 .simp
 .intro i h1 h2;simp[cD h2]
def aaO(bs:1 Bool):((List.range bs.length).any λi=>(bs[i]?).getD false)=bs.any id:=by
 let e:=aj (λl=>List.any l id)<|aaN false bs;rw[<- e];simp only[List.any_map];rfl
section
variable{X:Cx}
def aaP:bootBuiltins "any"=0 (.builtin "any"):=by decide +kernel
end
end L2
namespace Bw
variable{D L:LL}{f:Nat->Int}{h o:4}{j n place:Nat}{ls:1 Nat}{p:Int}{u v:Fn}
def cM:4:=[2,3,05,07,11,13,017,019,023,29,31,37,41,43,47,53,59,61,67,71,73,79,83,89,97]
noncomputable def wH(p n:Int):Nat->Int
 |0=>1
 |k+1=>wH p n k*n%p
def dN(p n:Int):Int:=wH p n (p-2).toNat
def PY(p n:Int):Bool:=decide (1<=dN p n)&&decide (dN p n<p)&&decide (dN p n*n%p=1)
def aaQ:(cM.all λp=>(List.range p.toNat).all λn=>n==0||PY p n)=6:=by decide +kernel
def gK:∀p∈cM,2<=p/\p<=97:=by decide +kernel
def yH{n:Int}(hp:p∈cM)(h1:1<=n)(h2:n<p):1<=dN p n/\dN p n<p/\dN p n*n%p=1:=by
 let h:=gF.mp aaQ p hp;let h':=gF.mp h n.toNat<|uz.mpr 7;let en:((n.toNat:Nat):Int)=n:=by lia
 let n0:(n.toNat==0)=false:=by simp;lia
 rw[n0,Bool.false_or,en]at h';unfold PY at h';simp only[aK,dM]at h';exact#[h'.1.1,h'.1.2,h'.2]
theorem aaR{n:Int}(hp:2<=p):∀k,0<=wH p n k/\wH p n k<p
 |0=>by unfold wH;lia
 |k+1=>by
  unfold wH;exact#[rh _ 7,ri _ 7]
def iC(p:Int)(row:4)(f:Int)(other:4):4:=List.zipWith (λa b=>(a+f*b)%p) row other
noncomputable def l6(p:Int):5 4 Int->4->4
 | [],t=>t
 |(r,f)::L,t=>l6 p L (iC p t f r)
def wI(L:5 4 Int)(j:Nat):Int:=(L.map λq=>q.1.getD j 0*q.2).sum
def aaS(r:4)(f:Int)(L:5 4 Int)(j:Nat):wI ((r,f)::L) j=14 j*f+wI L j:=by simp[wI]
def aaT{f:Int}{r:4}(c:Nat->Int)(hr:r.length=n):iC p ((List.range n).map λj=>c j%p) f r=(List.range n).map λj=>(c j+14 j*f)%p:=by
 apply List.ext_getElem
 .simp[iC,hr]
 .intro i h1 h2;let hi:i<r.length:=by simp[iC,hr]at h1;lia
  simp only[iC,List.getElem_zipWith,List.getElem_map,List.getElem_range];rw[dG,cD hi,Ah,vS f,Int.emod_add_emod]
theorem PZ{p:Int}{n:Nat}:∀(L:5 4 Int)(c:Nat->Int),(∀q∈L,q.1.length=n)->l6 p L ((List.range n).map λj=>c j%p)=(List.range n).map λj=>(c j+wI L j)%p
 | [],c,_=>by simp[l6,wI]
 |(r,f)::L,c,h=>by
  rw[l6,aaT c (h (r,f) du),PZ L (λj=>c j+14 j*f) λq hq=>h q (gq _ hq)];apply xM;intro j _;rw[aaS,Int.add_assoc]
def P0(L:5 4 Int)(h:∀q∈L,q.1.length=n):l6 p L (16 n 0)=(List.range n).map λj=>wI L j%p:=by
 let e:16 n (0:Int)=(List.range n).map λj=>(λ_=>(0:Int)) j%p:=by
  apply List.ext_getElem
  .simp
  .intro i _ _;simp
 rw[e,PZ L (λ_=>0) h];apply xM;intro j _;rw[lQ]
abbrev Fn:=Nat->Int
def iZ(p:Int)(u v:Fn):Prop:=∀j,p∣u j-v j
def pH(p a:Int):p∣a%p-a:=(#[-(a/p),by
 let:=Int.emod_add_mul_ediv a p
 rw[Int.mul_neg];lia])
def iZ.refl(p:Int)(u:Fn):iZ p u u:=(λj=>#[0,7])
def iZ.trans{w:Fn}(h:iZ p u v)(k:iZ p v w):iZ p u w:=(λj=>by
 let:=sM (h j)<|k j
 rwa[show u j-v j+(v j-w j)=u j-w j by lia]at this)
inductive Sp(p:Int)(R:6 Fn):6 Fn
 |zero:Sp p R (λ_=>0)
 |add {v r:Fn} (c:Int):Sp p R v->R r->Sp p R (λj=>v j+c*r j)
 |ir {u v:Fn}:Sp p R v->iZ p v u->Sp p R u
section
variable{p:Int}{R R':6 Fn}
def Sp.of_eq(h:Sp p R v)(e:∀j,v j=u j):Sp p R u:=(.ir h λj=>#[0,by rw[e j];lia])
def Sp.mem{r:Fn}(h:R r):Sp p R r:=((Sp.add 1 .zero h).of_eq λj=>7)
def Sp.plus(c:Int)(hu:Sp p R u)(hv:Sp p R v):Sp p R (λj=>u j+c*v j):=by
 induction hv with
 |zero=>exact hu.of_eq λj=>17
 | @add v r d _ hr ih=>exact(Sp.add (c*d) ih hr).of_eq λj=>by rw[Int.mul_add,<- Int.add_assoc,Int.mul_assoc]
 | @ir w v _ e ih=>
  refine .ir ih λj=>?_
  let:p∣c*(v j-w j):=Hv<|e j
  rw[rj]at this;rwa[show u j+c*v j-(u j+c*w j)=c*v j-c*w j by lia]
def Sp.trans(h:∀r,R r->Sp p R' r)(hv:Sp p R v):Sp p R' v:=by
 induction hv with
 |zero=>exact .zero
 |add c _ hr ih=>exact ih.plus c<|h _ hr
 |ir _ e ih=>exact .ir ih e
end
def fn(r:4):Fn:=λj=>14 j
def RS(L:LL):6 Fn:=λf=>∃r∈L,f=fn r
def Rw(p:Int)(n:Nat)(r:4):Prop:=r.length=n/\∀x∈r,0<=x/\x<p
def cC(p:Int)(n:Nat)(L:LL):Prop:=∀r∈L,Rw p n r
def Rw.at{r:4}(hp:0<p)(h:Rw p n r)(j:Nat):0<=14 j/\14 j<p:=by
 rw[dG (i:=j)];by_cases hj:j<r.length
 .rw[cD hj];exact h.2 _<|pd hj
 .rw[kf 7];exact#[Int.le_refl 0,hp]
def Rw.out{r:4}(h:Rw p n r)(hj:n<=j):14 j=0:=by
 rw[dG,kf (by rw[h.1];exact hj)];rfl
def P4{a b:Int}(h:p∣a-b)(a0:0<=a)(a1:a<p)(b0:0<=b)(b1:b<p):a=b:=by
 let[c,hc]:=h
 let:c=0:=by
  rcases Int.lt_trichotomy c 0 with h|h|h
  .let:=NG (show c<=-1 by lia) (show 0<=p by lia)
   lia
  .exact h
  .let:=NG (show 1<=c by lia) (show 0<=p by lia)
   lia
 rw[this]at hc;lia
def Rw.ext{r s:4}(hp:0<p)(hr:Rw p n r)(hs:Rw p n s)(h:∀j,p∣14 j-s.getD j 0):r=s:=by
 apply List.ext_getElem (by rw[hr.1,hs.1]);intro i h1 h2
 let:=P4 (h i) (hr.at hp i).1 (hr.at hp i).2 (hs.at hp i).1 (hs.at hp i).2
 simpa[dG,h1,h2]using this
def AW{r:4}(f:Int)(hr:r.length=n)(ho:o.length=n)(j:Nat):(iC p r f o).getD j 0=if j<n then(14 j+f*o.getD j 0)%p else 0:=by
 by_cases hj:j<n
 .rw[af hj];let h1:j<r.length:=by lia
  let h2:j<o.length:=by lia
  let h3:j<(iC p r f o).length:=by simp[iC];lia
  rw[dG,cD h3,dG,cD h1,dG,cD h2];simp[iC]
 .rw[ag hj,dG,kf (by simp[iC];lia)];rfl
def AX{r:4}(f:Int)(hp:0<p)(hr:r.length=n)(ho:o.length=n):Rw p n (iC p r f o):=by
 refine#[by simp[iC];lia,λx hx=>?_];let[i,hi,rfl]:=uC.mp hx;simp only[iC,List.getElem_zipWith];exact#[rh _ (show p≠0 by lia),ri _ hp]
def P5{r:4}(f:Int)(hr:r.length=n)(ho:o.length=n):iZ p (λj=>fn r j+f*fn o j) (fn<|iC p r f o):=(λj=>by
 show p∣14 j+f*o.getD j 0-(iC p r f o).getD j 0;rw[AW f hr ho];by_cases hj:j<n
 .rw[af hj]
  let:=Int.dvd_neg.mpr<|pH p<|14 j+f*o.getD j 0
  rwa[show -((14 j+f*o.getD j 0)%p-(14 j+f*o.getD j 0))=14 j+f*o.getD j 0-(14 j+f*o.getD j 0)%p by lia]at this
 .rw[ag hj];let e1:14 j=0:=by rw[dG,kf 7];rfl
  let e2:o.getD j 0=0:=by rw[dG,kf 7];rfl
  rw[e1,e2];exact#[0,17])
def fb(p:Int)(lead:4)(place:Nat)(row:4):4:=if row.getD place 0≠0 then iC p row (-(row.getD place 0)) lead else row
section
variable{p:Int}{n place:Nat}{lead row:4}
def P6(hp:0<p)(hl:Rw p n lead)(hr:Rw p n row):Rw p n (fb p lead place row):=by
 unfold fb;split
 .exact AX _ hp hr.1 hl.1
 .exact hr
def P7(hl:Rw p n lead)(hr:Rw p n row):iZ p (λj=>fn row j + -(row.getD place 0)*fn lead j) (fn<|fb p lead place row):=by
 unfold fb;split
 .exact P5 _ hr.1 hl.1
 .rename_i h
  let h0:row.getD place 0=0:=by simpa using h
  rw[h0];intro j;exact#[0,17]
def DK(hl:Rw p n lead)(hr:Rw p n row)(hj:lead.getD j 0=0)(hp:0<p):(fb p lead place row).getD j 0=row.getD j 0:=by
 unfold fb;split
 .rw[AW _ hr.1 hl.1,hj,Int.mul_zero,sN];by_cases h:j<n
  .rw[af h];exact Int.emod_eq_of_lt (hr.at hp j).1 (hr.at hp j).2
  .rw[ag h,hr.out 7]
 .rfl
def P8(hl:Rw p n lead)(hr:Rw p n row)(h1:lead.getD place 0=1):(fb p lead place row).getD place 0=0:=by
 unfold fb;split
 .rw[AW _ hr.1 hl.1,h1];split
  .rw[Int.mul_one,show row.getD place 0 + -(row.getD place 0)=0 by lia];exact Int.zero_emod p
  .rfl
 .rename_i h
  simpa using h
end
def eW(p:Int)(n:Nat)(h:4)(place:Nat):4:=l6 p [(h,dN p (h.getD place 0))]<|16 n 0
def wJ(p:Int)(n:Nat)(st:LL×LL)(place:Nat):LL×LL:=
 match st.2.filter λr=>14 place≠0 with
 | []=>st
 |h::_=>(st.1.map (fb p (eW p n h place) place)++[eW p n h place],st.2.map (fb p (eW p n h place) place))
noncomputable def jo(p:Int)(n:Nat)(L:LL):Nat->LL×LL
 |0=>([],L)
 |k+1=>wJ p n (jo p n L k) k
def tM(L:LL):Nat:=(L.head?.map List.length).getD 0
def eQ(p:Int)(L:LL):LL:=(jo p (tM L) L<|tM L).1
structure jB(n k:Nat)(D:LL)(ls:1 Nat):Prop where
 len:ls.length=D.length
 up:ls.Pairwise (· < ·)
 lt:∀l∈ls,l<k
 one:∀(i:Nat)(r:4)(l:Nat),D[i]?=0 r->ls[i]?=0 l->14 l=1/\∀j,j<l->14 j=0
 alone:∀(i i':Nat)(r:4)(l:Nat),i≠i'->D[i']?=0 r->ls[i]?=0 l->14 l=0
def AY(hh:Rw p n h)(j:Nat):(eW p n h place).getD j 0=if j<n then h.getD j 0*dN p (h.getD place 0)%p else 0:=by
 unfold eW;rw[P0 _ (λq hq=>by rw[cT.mp hq];exact hh.1)];by_cases hj:j<n
 .rw[af hj];simp[dG,hj,wI]
 .rw[ag hj];simp[dG,hj]
def AZ(hp:0<p)(hh:Rw p n h):Rw p n (eW p n h place):=by
 unfold eW;rw[P0 _ (λq hq=>by rw[cT.mp hq];exact hh.1)];refine#[17,λx hx=>?_];let[j,_,rfl]:=dF.mp hx;exact#[rh _ (show p≠0 by lia),ri _ hp]
def P9(hh:Rw p n h):iZ p (λj=>dN p (h.getD place 0)*fn h j) (fn<|eW p n h place):=(λj=>by
 show p∣dN p (h.getD place 0)*h.getD j 0-(eW p n h place).getD j 0;rw[AY hh,vS];by_cases hj:j<n
 .rw[af hj]
  let:=Int.dvd_neg.mpr<|pH p<|h.getD j 0*dN p (h.getD place 0)
  rwa[show -(h.getD j 0*dN p (h.getD place 0)%p-h.getD j 0*dN p (h.getD place 0))=h.getD j 0*dN p (h.getD place 0)-h.getD j 0*dN p (h.getD place 0)%p by lia]at this
 .rw[ag hj,hh.out 7];exact#[0,17])
structure jZ(p:Int)(n:Nat)(L:LL)(k:Nat)(st:LL×LL):Prop where
 d:cC p n st.1
 r:cC p n st.2
 z:∀r∈st.2,∀j,j<k->14 j=0
 km:∃ls,jB n k st.1 ls
 sub:∀r∈st.1++st.2,Sp p (RS L) (fn r)
 sup:∀r∈L,Sp p (RS<|st.1++st.2) (fn r)
def Qa{k:Nat}{st:LL×LL}(hp:p∈cM)(hk:k+1<=n)(I:jZ p n L k st):jZ p n L (k+1) (wJ p n st k):=by
  let p0:0<p:=by let:=gK p hp;lia
  let[D,T]:=st;unfold wJ;dsimp only;cases hf:T.filter λr=>14 k≠0 with
  |nil=>
   dsimp only;let[ls,E]:=I.km;refine#[I.d,I.r,λr hr j hj=>?_,#[ls,E.len,E.up,λl hl=>Nat.lt_succ_of_lt<|E.lt l hl,E.one,E.alone],I.sub,I.sup];by_cases DM:j<k
   .exact I.z r hr j DM
   .let ej:j=k:=by lia
    subst ej;by_cases h0:14 j=0
    .exact h0
    .let:r∈T.filter λr=>14 j≠0:=qd.mpr #[hr,by simpa using h0]
     rw[hf]at this;cases this
  |cons h cu=>
   dsimp only;let hm:h∈T.filter λr=>14 k≠0:=by rw[hf];exact du
   let[hT,wy]:=qd.mp hm;let aiP:h.getD k 0≠0:=by simpa using wy
   let hh:=I.r h hT;let l8:Rw p n (eW p n h k):=AZ p0 hh;let hb:=hh.at p0 k;let[t1,t2,t3]:=yH hp (show 1<=h.getD k 0 by lia) hb.2;let l1:(eW p n h k).getD k 0=1:=by rw[AY hh,af 7,vS];exact t3
   let l0:∀j,j<k->(eW p n h k).getD j 0=0:=λj hj=>by
    rw[AY hh,I.z h hT j hj,Int.zero_mul];split
    .exact Int.zero_emod p
    .rfl
   let Qb:∀{Q:6 Fn},Sp p Q (fn h)->Sp p Q (fn<|eW p n h k):=λq=>.ir (((Sp.zero).plus (dN p<|h.getD k 0) q).of_eq λj=>by rw[lQ])<|P9 hh;let hhS:∀{Q:6 Fn},Sp p Q (fn<|eW p n h k)->Sp p Q (fn h):=λ{Q} q=>by
    refine .ir ((Sp.zero).plus (h.getD k 0) q) λj=>?_;rw[lQ];show p∣h.getD k 0*(eW p n h k).getD j 0-h.getD j 0;let a:=P9 (place:=k) hh j;let a':p∣h.getD k 0*(dN p (h.getD k 0)*fn h j-fn (eW p n h k) j):=Hv a;rw[rj]at a';let t4:p∣dN p (h.getD k 0)*h.getD k 0-1:=by
     let z:=Int.dvd_neg.mpr<|pH p<|dN p (h.getD k 0)*h.getD k 0;rw[t3]at z;rwa[show -(1-dN p (h.getD k 0)*h.getD k 0)=dN p (h.getD k 0)*h.getD k 0-1 by lia]at z
    let b:p∣h.getD j 0*(dN p (h.getD k 0)*h.getD k 0-1):=Hv t4;let c:=Int.dvd_sub b a';let e:h.getD j 0*(dN p (h.getD k 0)*h.getD k 0-1)-(h.getD k 0*(dN p (h.getD k 0)*fn h j)-h.getD k 0*fn (eW p n h k) j)=h.getD k 0*(eW p n h k).getD j 0-h.getD j 0:=by
     show h.getD j 0*(dN p (h.getD k 0)*h.getD k 0-1)-(h.getD k 0*(dN p (h.getD k 0)*h.getD j 0)-h.getD k 0*(eW p n h k).getD j 0)=_;rw[rj,Int.mul_one,Int.mul_left_comm (h.getD k 0),vS (h.getD j 0) (dN p (h.getD k 0)*h.getD k 0),Int.mul_assoc];lia
    rwa[e]at c
   generalize eW p n h k=lead at l8 l1 l0 Qb hhS |-;let[ls,E]:=I.km;let DN:ls.length=D.length:=E.len;let hD:∀r∈D,Rw p n r:=I.d;let A0:∀r∈T,Rw p n r:=I.r;let spT:Sp p (RS L) (fn h):=I.sub h<|ji _ hT;let Jy:=Qb spT;let ko:∀{Q:6 Fn}{r:4},Rw p n r->Sp p Q (fn r)->Sp p Q (fn lead)->Sp p Q (fn<|fb p lead k r):=λhr a b=>.ir (a.plus _ b)<|P7 l8 hr;let Qc:∀{Q:6 Fn}{r:4},Rw p n r->Sp p Q (fn<|fb p lead k r)->Sp p Q (fn lead)->Sp p Q (fn r):=λ{Q r} hr a b=>by
    refine .ir (a.plus (14 k) b) λj=>?_;let q:=(P7 (place:=k) l8 hr j);let q':=Int.dvd_neg.mpr q;rwa[show -(fn r j + -(14 k)*fn lead j-fn (fb p lead k r) j)=fn (fb p lead k r) j+14 k*fn lead j-fn r j by rw[Int.neg_mul];lia]at q'
   refine#[λr hr=>?_,λr hr=>?_,λr hr j hj=>?_,#[ls++[k],?_,?_,?_,?_,?_],λr hr=>?_,λr hr=>?_]
   .rcases(eB.mp hr)with(hr|hr)
    .let[r0,h0,rfl]:=dF.mp hr;exact P6 p0 l8<|hD r0 h0
    .rw[cT.mp hr];exact l8
   .let[r0,h0,rfl]:=dF.mp hr;exact P6 p0 l8<|A0 r0 h0
   .let[r0,h0,rfl]:=dF.mp hr;by_cases DM:j<k
    .rw[DK l8 (A0 r0 h0) (l0 j DM) p0];exact I.z r0 h0 j DM
    .let ej:j=k:=by lia
     subst ej;exact P8 l8 (A0 r0 h0) l1
   .simp[E.len]
   .refine List.pairwise_append.mpr #[E.up,17,λa ha b hb=>?_];rw[cT.mp hb];exact E.lt a ha
   .intro l hl;rcases(eB.mp hl)with(hl|hl)
    .exact Nat.lt_succ_of_lt<|E.lt l hl
    .rw[cT.mp hl];exact xK k
   .intro i r l hr hl;by_cases hi:i<D.length
    .rw[i9 (by simpa using hi),dR,cD hi]at hr;rw[i9 (by rw[DN];exact hi)]at hl;cases hr;let DO:l<k:=E.lt l<|dS hl;let[o1,o2]:=E.one i _ l (cD hi) hl;let rD:=hD _<|pd hi;refine#[by rw[DK l8 rD (l0 l DO) p0];exact o1,λj hj=>?_];rw[DK l8 rD (l0 j 7) p0];exact o2 j hj
    .rw[jy (by simpa using hi),bH]at hr;rw[jy 7,DN]at hl;let e0:i-D.length=0:=by
      let:=(eA.mp hr).1
      simp at this;lia
     rw[e0]at hr hl;simp at hr hl;subst hr hl;exact#[l1,l0]
   .intro i i' r l c8 hr hl;by_cases hi:i<ls.length
    .rw[i9 hi]at hl;let DO:l<k:=E.lt l<|dS hl;by_cases iu:i'<D.length
     .rw[i9 (by simpa using iu),dR,cD iu]at hr;cases hr;rw[DK l8 (hD _<|pd iu) (l0 l DO) p0];exact E.alone i i' _ l c8 (cD iu) hl
     .rw[jy (by simpa using iu),bH]at hr;let e0:i' - D.length=0:=by
       let:=(eA.mp hr).1
       simp at this;lia
      rw[e0]at hr;simp at hr;subst hr;exact l0 l DO
    .rw[jy 7]at hl;let e0:i-ls.length=0:=by
      let:=(eA.mp hl).1
      simp at this;lia
     rw[e0]at hl;simp at hl;subst hl;by_cases iu:i'<D.length
     .rw[i9 (by simpa using iu),dR,cD iu]at hr;cases hr;exact P8 l8 (hD _<|pd iu) l1
     .rw[jy (by simpa using iu),bH]at hr;let e1:i' - D.length=0:=by
       let:=(eA.mp hr).1
       simp at this;lia
      lia
   .rcases(eB.mp hr)with(hr|hr)
    .rcases(eB.mp hr)with(hr|hr)
     .let[r0,h0,rfl]:=dF.mp hr;exact ko (hD r0 h0) (I.sub r0<|o8 _ h0) Jy
     .rw[cT.mp hr];exact Jy
    .let[r0,h0,rfl]:=dF.mp hr;exact ko (A0 r0 h0) (I.sub r0<|ji _ h0) Jy
   .refine Sp.trans (λf hf=>?_)<|I.sup r hr;let[r0,h0,rfl]:=hf;let yI:Sp p (RS<|D.map (fb p lead k)++[lead]++T.map (fb p lead k)) (fn lead):=.mem #[lead,17,9];rcases(eB.mp h0)with(h0|h0)
    .exact Qc (hD r0 h0) (.mem #[_,by simp;exact .inl #[r0,h0,9],9]) yI
    .exact Qc (A0 r0 h0) (.mem #[_,by simp;exact .inr<|.inr #[r0,h0,9],9]) yI
theorem Jz{p:Int}{n:Nat}{L:LL}(hp:p∈cM)(hL:cC p n L):∀k,k<=n->jZ p n L k (jo p n L k)
 |0,_=>#[λr hr=>absurd hr (by simp[jo]),by simpa[jo]using hL,λr _ j hj=>absurd hj 7,#[[],by simp[jo],.nil,17,by simp[jo],17],λr hr=>.mem #[r,by simpa[jo]using hr,9],λr hr=>.mem #[r,by simpa[jo]using hr,9]]
 |k+1,hk=>Qa hp hk (Jz hp hL k 7)
noncomputable def Sg(f:Nat->Int):Nat->Int
 |0=>0
 |n+1=>Sg f n+f n
def Qd(h:∀i,i<n->f i=0):Sg f n=0:=by
 induction n with
 |zero=>rfl
 |succ n ih=>rw[Sg,ih λi hi=>h i 7,h n 7];rfl
def aaU(f g:Nat->Int)(n:Nat):Sg (λi=>f i+g i) n=Sg f n+Sg g n:=by
 induction n with
 |zero=>rfl
 |succ n ih=>rw[Sg,ih,Sg,Sg];lia
def DP(h:∀i,i<n->p∣f i):p∣Sg f n:=by
 induction n with
 |zero=>exact#[0,by simp[Sg]]
 |succ n ih=>rw[Sg];exact sM (ih λi hi=>h i 7)<|h n 7
def JA{l:Nat}(hl:l<n):Sg f n=f l+Sg (λi=>if i=l then 0 else f i) n:=by
 induction n with
 |zero=>lia
 |succ n ih=>
  by_cases h:l=n
  .subst h;rw[Sg,Sg,af 9];let e:Sg (λi=>if i=l then 0 else f i) l=Sg f l:=by
    let:∀m,m<=l->Sg (λi=>if i=l then 0 else f i) m=Sg f m:=by
     intro m;induction m with
     |zero=>intro _;rfl
     |succ m ih=>intro hm;rw[Sg,Sg,ih 7,ag 7]
    exact this l<|ck l
   rw[e];lia
  .rw[Sg,Sg,ih 7,ag (λz=>h z.symm)];lia
def ES(n:Nat)(e:Nat->7 4):6 Fn:=λf=>∃l r,l<n/\e l=0 r/\f=fn r
def fI(e:Nat->7 4)(l j:Nat):Int:=match e l with|some r=>14 j|none=>0
def ES.coeff{e:Nat->7 4}(h:Sp p (ES n e) v):∃c:Nat->Int,iZ p (λj=>Sg (λl=>c l*fI e l j) n) v:=by
 induction h with
 |zero=>exact#[λ_=>0,λj=>#[0,by simp[Qd]]]
 | @add v r d _ hr ih=>
  let[c,hc]:=ih;let[l,row,hl,he,rfl]:=hr;refine#[λi=>c i+if i=l then d else 0,λj=>?_]
  let e1:Sg (λi=>(c i+if i=l then d else 0)*fI e i j) n=Sg (λi=>c i*fI e i j) n+d*fn row j:=by
   let e2:(λi=>(c i+if i=l then d else 0)*fI e i j)=λi=>c i*fI e i j+(if i=l then d*fn row j else 0):=by
    funext i
    by_cases hi:i=l
    .subst hi;rw[af 9,af 9,Int.add_mul]
     congr 1
     simp[fI,he,fn]
    .rw[ag hi,ag hi,sN,sN]
   rw[e2,aaU]
   congr 1
   rw[JA hl,af 9,Qd λi _=>by by_cases hi:i=l<;>simp[hi]]
   lia
  show p∣Sg (λi=>(c i+if i=l then d else 0)*fI e i j) n-(v j+d*fn row j)
  rw[e1,show Sg (λi=>c i*fI e i j) n+d*fn row j-(v j+d*fn row j)=Sg (λi=>c i*fI e i j) n-v j by lia];exact hc j
 |ir _ q ih=>
  let[c,hc]:=ih;exact#[c,hc.trans q]
structure JB(n:Nat)(e:Nat->7 4):Prop where
 one:∀l r,e l=0 r->l<n->14 l=1/\∀j,j<l->14 j=0
def JB.zero{p:Int}{n:Nat}{e:Nat->7 4}{v:Fn}(E:JB n e)(h:Sp p (ES n e) v)(hz:∀l r,l<n->e l=0 r->p∣v l):∀j,p∣v j:=by
 let[c,hc]:=ES.coeff h;let all:∀m,m<=n->∀l,l<m->∀j,p∣c l*fI e l j:=by
  intro m;induction m with
  |zero=>intro _ l hl;lia
  |succ m ih=>
   intro hm l hl j;by_cases tN:l<m
   .exact ih 7 l tN j
   .let el:l=m:=by lia
    subst el;cases hr:e l with
    |none=>exact#[0,by simp[fI,hr]]
    |some r=>
     let[o1,o2]:=E.one l r hr 7;let s:=hc l;dsimp only at s;rw[JA (show l<n by lia)]at s;let cu:p∣Sg (λi=>if i=l then 0 else c i*fI e i l) n:=DP λi hi=>by
      by_cases h1:i=l
      .rw[af h1];exact#[0,17]
      .rw[ag h1];by_cases h2:i<l
       .exact ih 7 i h2 l
       .cases mQ:e i with
        |none=>exact#[0,by simp[fI,mQ]]
        |some r2=>
         let:=(E.one i r2 mQ hi).2 l 7
         refine#[0,?_];simp only[fI,mQ,this,Int.mul_zero]
     let e1:fI e l l=1:=by simp only[fI,hr];exact o1
     rw[e1,Int.mul_one]at s;let k:=sM (Int.dvd_sub s cu)<|hz l r 7 hr;rw[show c l+Sg (λi=>if i=l then 0 else c i*fI e i l) n-v l-Sg (λi=>if i=l then 0 else c i*fI e i l) n+v l=c l by lia]at k
     exact Int.dvd_mul_of_dvd_left k
 intro j;let s:=hc j;dsimp only at s;let t:p∣Sg (λl=>c l*fI e l j) n:=DP λi hi=>all n (ck n) i hi j;let k:=Int.dvd_sub t s;rwa[show Sg (λl=>c l*fI e l j) n-(Sg (λl=>c l*fI e l j) n-v j)=v j by lia]at k
def Qe{r:4}(h:Rw p n r)(hz:∀j,j<n->14 j=0)(j:Nat):fn r j=0:=by
 by_cases hj:j<n
 .exact hz j hj
 .exact h.out 7
noncomputable def jq:LL->1 Nat->Nat->7 4
 |r::D,l::ls,i=>if i=l then 0 r else jq D ls i
 |_,_,_=>none
theorem yJ:∀{D:LL}{ls:1 Nat}{l:Nat}{r:4},jq D ls l=0 r->∃(i:Nat),D[i]?=0 r/\ls[i]?=0 l
 | [],_,_,_,h=>by simp[jq]at h
 |_::_,[],_,_,h=>by simp[jq]at h
 |q::D,m::ls,l,r,h=>by
  rw[jq]at h;by_cases e:l=m
  .rw[af e]at h;cases h;exact#[0,9,by rw[e];rfl]
  .rw[ag e]at h;let[i,h1,h2]:=yJ h;exact#[i+1,by simpa using h1,by simpa using h2]
theorem Qf:∀{D:LL}{ls:1 Nat}{i l:Nat}{r:4},ls.Pairwise (· < ·)->D[i]?=0 r->ls[i]?=0 l->jq D ls l=0 r
 | [],_,_,_,_,_,h,_=>by simp at h
 |_::_,[],_,_,_,_,_,h=>by simp at h
 |q::D,m::ls,0,l,r,_,h1,h2=>by simp at h1 h2;subst h1 h2;simp[jq]
 |q::D,m::ls,i+1,l,r,hp,h1,h2=>by
  let hl:ls[i]?=0 l:=by simpa using h2
  let:m<l:=(List.pairwise_cons.mp hp).1 l<|dS hl
  rw[jq,ag 7];exact Qf (List.pairwise_cons.mp hp).2 (by simpa using h1) hl
def jB.lead{k:Nat}(E:jB n k D ls):JB k (jq D ls):=(#[λl r h _=>by
 let[i,h1,h2]:=yJ h;exact E.one i r l h1 h2])
def jB.sp{k:Nat}(E:jB n k D ls)(h:Sp p (RS D) v):Sp p (ES k<|jq D ls) v:=(h.trans λf hf=>by
 let[r,hr,rfl]:=hf;let[i,hi,rfl]:=uC.mp hr;let hl:i<ls.length:=by rw[E.len];exact hi
 exact .mem #[ls[i],D[i],E.lt _<|pd hl,Qf E.up (cD hi)<|cD hl,9])
structure aaV(p:Int)(n:Nat)(L D:LL):Prop where
 rws:cC p n D
 km:∃ls,jB n n D ls
 sub:∀r∈D,Sp p (RS L) (fn r)
 sup:∀r∈L,Sp p (RS D) (fn r)
def DQ(h:cC p n L)(c8:L≠[]):tM L=n:=by
 cases L with
 |nil=>exact absurd 9 c8
 |cons r L=>exact(h r du).1
def lD(hp:p∈cM)(hL:cC p n L):aaV p n L (eQ p L):=by
 by_cases c8:L=[]
 .subst c8;exact#[λr hr=>absurd hr (by simp[eQ,tM,jo]),#[[],by simp[eQ,tM,jo],.nil,17,17,17],λr hr=>absurd hr (by simp[eQ,tM,jo]),λr hr=>absurd hr 17]
 .unfold eQ;rw[DQ hL c8];let I:=Jz hp hL n<|ck n;generalize jo p n L n=st at I;refine#[I.d,I.km,λr hr=>I.sub r<|o8 _ hr,λr hr=>(I.sup r hr).trans λf hf=>?_];let[r0,h0,rfl]:=hf;rcases(eB.mp h0)with(h0|h0)
  .exact .mem #[r0,h0,9]
  .exact(Sp.zero).of_eq λj=>(Qe (I.r r0 h0) (I.z r0 h0) j).symm
def jB.same(E:jB n n D ls)(hu:Sp p (RS D) u)(hv:Sp p (RS D) v)(h:∀l∈ls,p∣u l-v l):iZ p u v:=(λj=>by
 let hd:Sp p (RS D) (λj=>u j+(-1)*v j):=hu.plus (-1) hv
 let:=E.lead.zero (E.sp hd) (λl r _ he=>by
  let[i,_,h2]:=yJ he;let q:=h l<|dS h2;show p∣u l + -1*v l;rwa[show u l + -1*v l=u l-v l by lia]) j
 rwa[show u j + -1*v j=u j-v j by lia]at this)
def aaW(hp:p∈cM):¬p∣1:=(λ⟨c,hc⟩=>by
 let:=gK p hp
 rcases Int.lt_trichotomy c 0 with h|h|h
 .let:=NG (show c<=-1 by lia) (show 0<=p by lia)
  lia
 .rw[h]at hc;lia
 .let:=NG (show 1<=c by lia) (show 0<=p by lia)
  lia)
def jB.starts(hp:p∈cM)(E:jB n n D ls){l:Nat}(hv:Sp p (RS D) v)(h1:v l=1)(h0:∀j,j<l->v j=0):l∈ls:=by
 by_cases hm:l∈ls
 .exact hm
 .exfalso;let[c,hc]:=ES.coeff<|E.sp hv;let all:∀m,m<=l->∀i,i<m->∀j,p∣c i*fI (jq D ls) i j:=by
   intro m;induction m with
   |zero=>intro _ i hi;lia
   |succ m ih=>
    intro Qg i hi j;by_cases him:i<m
    .exact ih 7 i him j
    .let ei:i=m:=by lia
     subst ei;cases hr:jq D ls i with
     |none=>exact#[0,by simp[fI,hr]]
     |some r=>
      let[z,z1,z2]:=yJ hr;let Qh:i<n:=E.lt i<|dS z2;let s:=hc i;dsimp only at s;rw[JA Qh,h0 i 7]at s;let cu:p∣Sg (λq=>if q=i then 0 else c q*fI (jq D ls) q i) n:=DP λq hq=>by
       by_cases q1:q=i
       .rw[af q1];exact#[0,17]
       .rw[ag q1];by_cases q2:q<i
        .exact ih 7 q q2 i
        .cases jc:jq D ls q with
         |none=>exact#[0,by simp[fI,jc]]
         |some r2=>
          let:=(E.lead.one q r2 jc hq).2 i 7
          exact#[0,by simp only[fI,jc,this,Int.mul_zero]]
      let e1:fI (jq D ls) i i=1:=by simp only[fI,hr];exact(E.lead.one i r hr Qh).1
      rw[e1,Int.mul_one]at s;let k:=Int.dvd_sub s cu;rw[show c i+Sg (λq=>if q=i then 0 else c q*fI (jq D ls) q i) n-0-Sg (λq=>if q=i then 0 else c q*fI (jq D ls) q i) n=c i by lia]at k
      exact Int.dvd_mul_of_dvd_left k
  let s:=hc l;dsimp only at s;let t:p∣Sg (λq=>c q*fI (jq D ls) q l) n:=DP λq hq=>by
   by_cases q2:q<l
   .exact all l (ck l) q q2 l
   .cases jc:jq D ls q with
    |none=>exact#[0,by simp[fI,jc]]
    |some r2=>
     let[z,z1,z2]:=yJ jc
     let:q≠l:=λe=>hm (e▸dS z2)
     let:=(E.lead.one q r2 jc hq).2 l 7
     exact#[0,by simp only[fI,jc,this,Int.mul_zero]]
  let k:=Int.dvd_sub t s;rw[show Sg (λq=>c q*fI (jq D ls) q l) n-(Sg (λq=>c q*fI (jq D ls) q l) n-v l)=v l by lia,h1]at k;exact aaW hp k
theorem JC:∀{a b:1 Nat},a.Pairwise (· < ·)->b.Pairwise (· < ·)->(∀x,x∈a↔x∈b)->a=b
 | [],[],_,_,_=>rfl
 | [],y::b,_,_,h=>absurd ((h y).mpr du) 17
 |x::a,[],_,_,h=>absurd ((h x).mp du) 17
 |x::a,y::b,ha,hb,h=>by
  let[a1,a2]:=List.pairwise_cons.mp ha;let[b1,b2]:=List.pairwise_cons.mp hb;let exy:x=y:=by
   rcases eK.mp ((h x).mp du)with e|e
   .exact e
   .rcases eK.mp ((h y).mpr du)with e2|e2
    .exact e2.symm
    .let:=b1 x e
     let:=a1 y e2
     lia
  subst exy
  congr 1
  refine JC a2 b2 λz=>#[λhz=>?_,λhz=>?_]
  .rcases eK.mp ((h z).mp<|gq _ hz)with e|e
   .let:=a1 z hz;lia
   .exact e
  .rcases eK.mp ((h z).mpr<|gq _ hz)with e|e
   .let:=b1 z hz;lia
   .exact e
def jB.unique{D':LL}{tO:1 Nat}(hp:p∈cM)(E:jB n n D ls)(E':jB n n D' tO)(hD:cC p n D)(hD':cC p n D')(s1:∀r∈D,Sp p (RS D') (fn r))(s2:∀r∈D',Sp p (RS D) (fn r)):D=D':=by
 let p0:0<p:=by let:=gK p hp;lia
 let Qi:∀{D D':LL}{ls tO:1 Nat},jB n n D ls->jB n n D' tO->(∀r∈D,Sp p (RS D') (fn r))->∀x,x∈ls->x∈tO:=λ{D D' ls tO} E E' s x hx=>by
  let[i,hi,rfl]:=uC.mp hx;let Qj:i<D.length:=by rw[<- E.len];exact hi
  let[o1,o2]:=E.one i D[i] ls[i] (cD Qj)<|cD hi;exact E'.starts hp (s _<|pd Qj) o1 o2
 let el:ls=tO:=JC E.up E'.up λx=>#[Qi E E' s1 x,Qi E' E s2 x];subst el;let DN:D.length=D'.length:=by rw[<- E.len,<- E'.len]
 apply List.ext_getElem DN;intro i h1 h2;let hi:i<ls.length:=by rw[E.len];exact h1
 refine(hD _<|pd h1).ext p0 (hD' _<|pd h2) ?_;refine E'.same (s1 _<|pd h1) (.mem #[_,pd h2,9]) λl hl=>?_;let[k,hk,rfl]:=uC.mp hl;by_cases Ba:k=i
 .subst Ba;let a:=(E.one k D[k] ls[k] (cD h1)<|cD hk).1;let b:=(E'.one k D'[k] ls[k] (cD h2)<|cD hk).1;show p∣(D[k]).getD ls[k] 0-(D'[k]).getD ls[k] 0;rw[a,b];exact#[0,7]
 .let a:=E.alone k i D[i] ls[k] Ba (cD h1)<|cD hk;let b:=E'.alone k i D'[i] ls[k] Ba (cD h2)<|cD hk;show p∣(D[i]).getD ls[k] 0-(D'[i]).getD ls[k] 0;rw[a,b];exact#[0,7]
def aaX{L':LL}(hp:p∈cM)(hL:cC p n L)(JD:cC p n L')(s1:∀r∈L,Sp p (RS L') (fn r))(s2:∀r∈L',Sp p (RS L) (fn r)):eQ p L=eQ p L':=by
 let A:=lD hp hL;let B:=lD hp JD;let[ls,E]:=A.km;let[tO,E']:=B.km;let t:∀{P Q:LL},(∀r∈P,Sp p (RS Q) (fn r))->∀{v:Fn},Sp p (RS P) v->Sp p (RS Q) v:=λh v hv=>hv.trans λf hf=>by
  let[r,hr,rfl]:=hf;exact h r hr
 exact E.unique hp E' A.rws B.rws (λr hr=>t B.sup<|t s1<|A.sub r hr) λr hr=>t A.sup<|t s2<|B.sub r hr
def Qk{f:Int->Int}{r:4}(hr:r.length=n)(h0:j<n):(r.map f).getD j 0=f (14 j):=by
 let:j<r.length:=by lia
 rw[dG,dR,cD this,dG,cD this];rfl
def aaY(r:4):1 Nat:=(List.range r.length).filter λj=>14 j≠0
def JE(f:Fn)(c:Nat):Fn:=λi=>if i=c then -1 else f i
def aaZ(rs:LL)(fs:4)(j:Nat):Int:=(List.zipWith (λr f=>14 j*f) rs fs).sum
def nX(p:Int)(rs:LL)(fs:4)(n:Nat):4:=(List.range n).map λj=>aaZ rs fs j%p
def i0(p:Int):6 (5 Fn Nat)
 | []=>True
 |q::F=>¬p∣q.1 q.2/\(∀x∈F,p∣x.1 q.2)/\i0 p F
def aa0(n:Nat)(ls:1 Nat):1 Nat:=(List.range n).filter λj=>j ∉ ls
def aa1(up:ls.Pairwise (· < ·))(lt:∀l∈ls,l<n):(aa0 n ls).length+ls.length=n:=by
 let hnd:ls.Nodup:=up.imp λh=>7
 let h1:((List.range n).filter λj=>j∈ls).length=ls.length:=by
  let e:((List.range n).filter λj=>j∈ls)=ls:=by
   refine JC (List.Pairwise.filter _ List.pairwise_lt_range) up λx=>?_;simp only[qd,uz,aK];exact#[λh=>h.2,λh=>#[lt x h,h]]
  rw[e]
 let h2:∀L:1 Nat,(L.filter λj=>j ∉ ls).length+(L.filter λj=>j∈ls).length=L.length:=by
  intro L;induction L with
  |nil=>rfl
  |cons a L ih=>
   by_cases h:a∈ls
   .rw[List.filter_cons_of_neg (by simpa using h),List.filter_cons_of_pos (by simpa using h),eX,eX];lia
   .rw[List.filter_cons_of_pos (by simpa using h),List.filter_cons_of_neg (by simpa using h),eX,eX];lia
 let:=h2<|List.range n
 rw[h1,List.length_range]at this;exact this
def aa2(D:LL):1 Nat:=D.map λr=>(aaY r).headD 0
section
variable{p:Int}{n:Nat}{D:LL}{ls:1 Nat}
end
end Bw
namespace L2
open PySem Bw
def LR(N:6 Addr)(H:Hp)(LS:1 V)(L:LL):Prop:=LS.length=L.length/\∀(i:Nat)(v:V)(r:4),LS[i]?=0 v->L[i]?=0 r->∃a,v=3 a/\N a/\H a=13 (r.map V.int)
noncomputable abbrev DR(r:4):Dat:=.list<|r.map .int
section
variable{N:6 Addr}{H H':Hp}{LS:1 V}{L:LL}{l a:Addr}{o:HO}{r:4}
def LR.nil:LR N H [] []:=(#[9,λi v r h=>by simp at h])
def LR.mono(h:LR N H LS L)(e:bc H H'):LR N H' LS L:=(#[h.1,λi v r a b=>by
 let[x,rfl,hN,g]:=h.2 i v r a b;exact#[x,9,hN,e _ _ g]])
def LR.wr(h:LR (·≠l) H LS L):LR (·≠l) (upd H l o) LS L:=(#[h.1,λi v r a b=>by
 let[x,rfl,ne,g]:=h.2 i v r a b;exact#[x,9,ne,by rw[cF ne];exact g]])
def LR.snoc(h:LR N H LS L)(hN:N a)(g:H a=13 (r.map V.int)):LR N H (LS++[3 a]) (L++[r]):=(#[by simp[h.1],λj v q e1 e2=>by
 by_cases hj:j<LS.length
 .rw[i9 hj]at e1;rw[i9 (by rw[<- h.1];exact hj)]at e2;exact h.2 j v q e1 e2
 .rw[jy 7]at e1;rw[jy (by rw[<- h.1];lia),<- h.1]at e2;cases hk:j-LS.length with
  |zero=>rw[hk]at e1 e2;cases e1;cases e2;exact#[a,9,hN,g]
  |succ k=>rw[hk]at e1;cases e1])
theorem LR.has{K:Frag}:∀{LS:1 V}{L:LL},LR N H LS L->cy K H LS (L.map DR)
 | [],[],_=>.nil
 | [],_::_,h=>by let:=h.1;simp at this
 |_::_,[],h=>by let:=h.1;simp at this
 |v::LS,r::L,h=>by
  let[a,rfl,_,g]:=h.2 0 v r 9 9;refine .cons (.list (.of g)<|cy.ints _)<|LR.has #[by let:=h.1;simpa using this,λi v r e1 e2=>h.2 (i+1) v r e1 e2]
end
def aa3(L:LL):kqdOk 08 (.list<|L.map DR)=6:=by
 show(L.map DR).all (kqdOk 07)=6;rw[gF];intro d hd;let[r,_,rfl]:=dF.mp hd;show(r.map Dat.int).all (kqdOk 06)=6;exact aaG 06 r
end L2
namespace L2
open PySem PySem.Spec PyProof.Rows
end L2
namespace L2
open PySem Bw
end L2
namespace L2
open PySem PySem.Spec PyProof.Rows
variable{H H':Hp}{Q:QV}{X:Cx}{ba:5 (1 Key) V}{s:Shared}{u:Value}{xs:5 (1 Key) (Addr×5)}{y:V}
section
variable{κ:Type} [DecidableEq κ]
def dX(ba:5 κ V)(k:κ):7 V:=(ba.find? λkv=>decide<|kv.1=k).map (·.2)
def gM(ba:5 κ V)(k:κ)(v:V):5 κ V:=
 if(ba.any λkv=>decide<|kv.1=k)=6 then ba.map (λkv=>if kv.1=k then(kv.1,v)else kv)else ba++[(k,v)]
def pI{p:κ×V}{r:5 κ V}{k:κ}(e:p.1=k):dX (p::r) k=0 p.2:=by simp[dX,List.find?_cons,e]
def pJ{p:κ×V}{r:5 κ V}{k:κ}(e:¬p.1=k):dX (p::r) k=dX r k:=by simp[dX,List.find?_cons,e]
theorem Bb(k:κ):∀ba:5 κ V,(ba.any λkv=>decide<|kv.1=k)=(dX ba k).isSome
 | []=>rfl
 |p::r=>by
  rw[List.any_cons];by_cases e:p.1=k
  .simp only[pI e,aH e,Bool.true_or,Option.isSome_some]
  .rw[pJ e,ae e,Bool.false_or];exact Bb k r
theorem Ql(k j:κ)(y:V):∀ba:5 κ V,dX (ba.map λkv=>if kv.1=k then(kv.1,y)else kv) j=(dX ba j).map λx=>if j=k then y else x
 | []=>rfl
 |p::r=>by
  let ih:=Ql k j y r;rw[ib];by_cases h:p.1=k
  .rw[af h];by_cases e:p.1=j
   .rw[pI (p:=(p.1,y)) e,pI e,Option.map_some,af (e.symm.trans h)]
   .rw[pJ (p:=(p.1,y)) e,pJ e,ih]
  .rw[ag h];by_cases e:p.1=j
   .rw[pI (p:=p) e,pI e,Option.map_some,ag (λz=>h<|e.trans z)]
   .rw[pJ (p:=p) e,pJ e,ih]
theorem Qm(k j:κ)(y:V):∀ba:5 κ V,dX ba k=8->dX (ba++[(k,y)]) j=if j=k then 0 y else dX ba j
 | [],_=>by
  by_cases e:k=j
  .rw[af e.symm];exact pI (p:=(k,y)) e
  .rw[ag (λz=>e z.symm)];exact pJ (p:=(k,y)) e
 |p::r,hn=>by
  rw[xJ];let hk:¬p.1=k:=λz=>by rw[pI z]at hn;cases hn
  rw[pJ hk]at hn;let ih:=Qm k j y r hn;by_cases e:p.1=j
  .rw[pI e,pI e,ag (λz=>hk<|e.trans z)]
  .rw[pJ e,pJ e,ih]
def JF(ba:5 κ V)(k j:κ)(y:V):dX (gM ba k y) j=if j=k then 0 y else dX ba j:=by
 unfold gM;by_cases a:(ba.any λkv=>decide<|kv.1=k)=6
 .rw[af a,Ql];rw[Bb]at a;by_cases e:j=k
  .let[x,hx]:=Hu.mp a;rw[af e,e,hx,Option.map_some,af 9]
  .rw[ag e];cases dX ba j with
   |none=>rfl
   |some x=>rw[Option.map_some,ag e]
 .rw[ag a];refine Qm k j y ba ?_;rw[Bb]at a;cases q:dX ba k with
  |none=>rfl
  |some x=>rw[q]at a;exact(a 9).elim
def JG(ba:5 κ V)(k:κ)(v:V):(gM ba k v).length<=ba.length+1:=by
 unfold gM;split
 .rw[bH];lia
 .rw[cb,eX,List.length_nil];lia
def JH{ba:5 κ V}{k:κ}(v:V)(h:dX ba k=8):gM ba k v=ba++[(k,v)]:=by
 unfold gM;rw[Bb,h];exact ag 16
def ow.JI{o:7 V}{u:7 5}(r:ow o u):o.isSome=u.isSome:=by
 cases o with
 |none=>cases u with
  |none=>rfl
  |some _=>exact(show False from r).elim
 |some _=>cases u with
  |none=>exact(show False from r).elim
  |some _=>rfl
def ow.getD{o:7 V}{u:7 5}{d:V}{d':Value}(r:ow o u)(rd:RelV d d'):RelV (o.getD d) (u.getD d'):=by
 cases o with
 |none=>cases u with
  |none=>exact rd
  |some _=>exact(show False from r).elim
 |some _=>cases u with
  |none=>exact(show False from r).elim
  |some _=>exact r
def KV.val{ba:5 κ V}{vs:5 κ 5}(r:KV ba vs)(k:κ):ow (dX ba k) (valueAt vs k):=by
 unfold KV at r;induction r with
 |nil=>exact True.intro
 | @cons p q ps qs h t ih=>
  let[h1,h2]:=h;by_cases e:p.1=k
  .let e':q.1=k:=h1.symm.trans e;let b:valueAt (q::qs) k=0 q.2:=by simp[valueAt,List.find?_cons,e']
   rw[pI e,b];exact h2
  .let e':¬q.1=k:=λz=>e<|h1.trans z;let b:valueAt (q::qs) k=valueAt qs k:=by simp[valueAt,List.find?_cons,e']
   rw[pJ e,b];exact ih
def KV.any{ba:5 κ V}{vs:5 κ 5}(r:KV ba vs)(k:κ):(ba.any λkv=>decide<|kv.1=k)=vs.any λkv=>decide (kv.1=k):=by
 unfold KV at r;induction r with
 |nil=>rfl
 |cons h t ih=>rw[List.any_cons,List.any_cons,ih,h.1]
def KV.JJ{ba:5 κ V}{vs:5 κ 5}(r:KV ba vs)(k:κ)(ry:RelV y u) :
  KV (ba.map λkv=>if kv.1=k then(kv.1,y)else kv) (vs.map λkv=>if kv.1=k then(kv.1,u)else kv):=by
 unfold KV at r |-;induction r with
 |nil=>exact .nil
 | @cons p q ps qs h t ih=>
  rw[ib,ib];refine .cons ?_ ih;let[h1,h2]:=h;by_cases e:p.1=k
  .rw[af e,af (h1.symm.trans e)];exact#[h1,ry]
  .rw[ag e,ag (λz=>e<|h1.trans z)];exact#[h1,h2]
def KV.put{ba:5 κ V}{vs:5 κ 5}(r:KV ba vs)(k:κ)(ry:RelV y u):KV (gM ba k y) (stored vs k u):=by
 unfold gM stored;rw[r.any k];by_cases e:(vs.any λkv=>decide<|kv.1=k)=6
 .rw[af e,af e];exact r.JJ k ry
 .rw[ag e,ag e];exact Paired.snoc r #[9,ry]
def KV.keys{ba:5 κ V}{vs:5 κ 5}(r:KV ba vs):ba.map (·.1)=vs.map (·.1):=by
 unfold KV at r;induction r with
 |nil=>rfl
 |cons h t ih=>rw[ib,ib,ih,h.1]
def KV.length{ba:5 κ V}{vs:5 κ 5}(r:KV ba vs):ba.length=vs.length:=(Paired.length r)
end
def yM{P:Program}{w:World}{k:Key}(r:RelV (kV k) u):(jj P w).is k u=6:=by
 cases k with
 |inl i=>let[t,e]:=(show ∃t,u=Value.int i t from r);subst e;exact XG P w i t
 |inr x=>let[t,e]:=(show ∃t,u=Value.str x t from r);subst e;exact XH P w x t
theorem Qn{P:Program}{w:World}:∀{ks:1 Key}{us:1 5},Vals (ks.map kV) us->ItemsAre (jj P w) ks us
 | [],_,r=>by rw[List.map_nil]at r;cases r;exact .nil
 |k::ks,_,r=>by
  rw[ib]at r;cases r with
  |cons h t=>exact .cons (yM h)<|Qn t
abbrev KT(H:Hp):5 (1 Key) V->6 (5 (1 Key)<|Addr×5):=Paired λp q=>p.1=q.1/\H q.2.1=0 (.tup<|p.1.map kV)/\RelV p.2 q.2.2
def KT.val(r:KT H ba xs)(k:1 Key):ow (dX ba k) ((atKey xs k).map (·.2)):=by
 induction r with
 |nil=>exact True.intro
 | @cons p q ps qs h t ih=>
  let[h1,_,h2]:=h;by_cases e:p.1=k
  .let e':q.1=k:=h1.symm.trans e;let b:atKey (q::qs) k=0 q.2:=by simp[atKey,List.find?_cons,e']
   rw[pI e,b];exact h2
  .let e':¬q.1=k:=λz=>e<|h1.trans z;let b:atKey (q::qs) k=atKey qs k:=by simp[atKey,List.find?_cons,e']
   rw[pJ e,b];exact ih
def KT.JJ(r:KT H ba xs)(k:1 Key)(ry:RelV y u) :
  KT H (ba.map λkv=>if kv.1=k then(kv.1,y)else kv) (xs.map<|putAt k u):=by
 induction r with
 |nil=>exact .nil
 | @cons p q ps qs h t ih=>
  rw[ib,ib];refine .cons ?_ ih;let[h1,h2,h3]:=h;unfold putAt;by_cases e:p.1=k
  .rw[af e,af (h1.symm.trans e)];exact#[h1,h2,ry]
  .rw[ag e,ag (λz=>e<|h1.trans z)];exact#[h1,h2,h3]
def KT.put(r:KT H ba xs)(k:1 Key){b:Addr}(hb:H b=0 (.tup<|k.map kV))(ry:RelV y u) :
  KT H (gM ba k y) (storedH xs k b u):=by
 let e:(ba.any λkv=>decide<|kv.1=k)=(atKey xs k).isSome:=by
  rw[Bb,(r.val k).JI,Option.isSome_map]
 unfold gM storedH;rw[e];by_cases q:(atKey xs k).isSome=6
 .rw[af q,af q];exact r.JJ k ry
 .rw[ag q,ag q];exact Paired.snoc r #[9,hb,ry]
def KT.keeps(r:KT H ba xs)(ht:∀b ys,H b=0 (.tup ys)->H' b=0 (.tup ys)):KT H' ba xs:=(Paired.HJ r λ_ _ z=>#[z.1,ht _ _ z.2.1,z.2.2])
section
variable{P:Program}{w:World}{H:Hp}{h:Heap}{a:Addr}
def Qo{u:HO}(ok:gT P w H h)(e:Rd H a u):gS P w H h a u:=(e.ok ok)
def yN{ba:5 Key V}(ok:gT P w H h)(e:Rd H a (.dK ba)):11 ba.length/\(a==sysModules)=false/\∃vs,KV ba vs/\h.DictOf (jj P w) a vs:=(show gS P w H h a (.dK ba) from Qo ok e)
def Qp{ba:5 Key V}(ok:gT P w H h)(e:H a=0 (.dK ba)):11 ba.length/\(a==sysModules)=false/\∃vs,KV ba vs/\h.DictOf (jj P w) a vs:=(yN ok<|.inl e)
def Bc{ks:1 Key}(ok:gT P w H h)(e:H a=0 (.tup<|ks.map kV)):(tupleKind<|jj P w).is h ks a:=by
 let[_,its,r,o,h1,h2,_,n,h3]:=(show gS P w H h a (.tup<|ks.map kV) from ok a _ e)
 exact#[o,its.toArray,n,h1,h2,h3,by simpa using Qn r]
def yO(ok:gT P w H h)(e:Rd H a (.dT ba)):11 ba.length/\(a==sysModules)=false/\
  ∃xs,KT H ba xs/\h.DictOfH (tupleKind<|jj P w) a xs:=by
 let[z,y,xs,r,o,es,ep,h1,h2,h3,h4,h5]:=(show gS P w H h a (.dT ba) from Qo ok e)
 refine#[z,y,xs,r,o,es,ep,h1,h2,h3,h4,λx hx=>?_,h5];let all:∀{l:5 (1 Key) V}{m:5 (1 Key) (Addr×5)},KT H l m->∀x∈m,(tupleKind<|jj P w).is h x.1 x.2.1:=by
  intro l m q;induction q with
  |nil=>intro x hx;exact nomatch hx
  | @cons p q ps qs hq t ih=>
   intro x hx;rcases eK.mp hx with e|hx
   .subst e;exact Bc ok (by rw[<- hq.1];exact hq.2.1)
   .exact ih x hx
 exact all r x hx
def aa4(ok:gT P w H h)(e:H a=0 (.dT ba)):11 ba.length/\(a==sysModules)=false/\
  ∃xs,KT H ba xs/\h.DictOfH (tupleKind<|jj P w) a xs:=(yO ok<|.inl e)
end
def jd(H:Hp)(a:Addr)(y:V)(r:7 V):Prop:=
 (∃ba k,Rd H a (.dK ba)/\y=kV k/\r=dX ba k)\/∃ba k b,Rd H a (.dT ba)/\y=3 b/\H b=0 (.tup<|k.map kV)/\r=dX ba k
def uW(H:Hp)(a:Addr)(y v:V)(H':Hp):Prop:=
 (∃ba k,H a=0 (.dK ba)/\y=kV k/\ba.length<sizeLine/\H'=upd H a (.dK<|gM ba k v)) \/
 ∃ba k b,H a=0 (.dT ba)/\y=3 b/\H b=0 (.tup<|k.map kV)/\ba.length<sizeLine/\H'=upd H a (.dT<|gM ba k v)
def jd.k{H:Hp}{a:Addr}{ba:5 Key V}{k:Key}(e:H a=0 (.dK ba)):jd H a (kV k) (dX ba k):=(.inl #[ba,k,.inl e,9,9])
def uW.k{H:Hp}{a:Addr}{ba:5 Key V}{k:Key}{v:V}(e:H a=0 (.dK ba))(hl:ba.length<sizeLine):uW H a (kV k) v (upd H a<|.dK<|gM ba k v):=(.inl #[ba,k,e,9,hl,9])
section
variable{X:Cx}{aZ:5 Addr Obj}{σ:St}{H:Hp}{s:Shared}{a:Addr}{y v:V}{u r:Value}{o:7 V}{A:Around}{E:QV}
def Inv.big(I:12 X σ H s):sysModules<22:=by
 let h:mainGlobals<22:=(I.mod.glob.keeps I.bk).lt;exact Nat.lt_trans 16 h
def aa5(hu:A.units+1<cLine)(I:12 X σ H s)(g:jd H a y (0 v))(ry:RelV y u)(h:∀w' s',12 X σ H s'->RelV v w'->Q w' s') :
  15 X.prog X.w A (getItem (3 a) u) Q E s:=by
 rcases g with⟨ba,k,e,ey,l⟩|⟨ba,k,b,e,ey,eb,l⟩
 .subst ey;let[z,hd,vs,rel,dd]:=yN I.cf e;let[w',hw,qt]:=ow.some_of (v:=v) (o:=valueAt vs k) (by rw[l];exact rel.val k);exact wpAny_getItem_of (yM ry) dd.mapOf hw<|h w' _ (I.tok _) qt
 .subst ey;cases(show u=Value.ref b from ry)
  let[z,hd,xs,rel,dd]:=yO I.cf e;let[w',hw,qt]:=ow.some_of (v:=v) (o:=(atKey xs k).map (·.2)) (by rw[l];exact rel.val k);let[p,hp,Ji]:=uD.mp hw;refine wpAny_getItem_heap (tupleKind_room_in1 hu) (Bc I.cf eb) dd hp ?_;rw[Ji];exact h w' _ (I.tok _) qt
def aa6(hu:A.units+1<cLine)(I:12 X σ H s)(g:jd H a y o)(ry:RelV y u)(h:∀s',12 X σ H s'->Q (.bool (!o.isSome)) s') :
  15 X.prog X.w A (compareOp .NotIn u<|3 a) Q E s:=by
 rcases g with⟨ba,k,e,ey,l⟩|⟨ba,k,b,e,ey,eb,l⟩
 .subst ey;let[z,hd,vs,rel,dd]:=yN I.cf e;refine wpAny_notIn_of (yM ry) hd dd.mapOf ?_;rw[<- (rel.val k).JI,<- l];exact h _<|I.tok _
 .subst ey;cases(show u=Value.ref b from ry)
  let[z,hd,xs,rel,dd]:=yO I.cf e;refine wpAny_notIn_heap (tupleKind_room_in1 hu) (Bc I.cf eb) hd dd ?_;let q:=(rel.val k).JI;rw[Option.isSome_map]at q;rw[<- q,<- l];exact h _<|I.tok _
def JK{h':Heap}{t':Nat}{ob:HO}(I:12 X σ H s)(mu:Aj (H a))(hs:Heap.SameBut a s.heap h')(he:∃q,h'.get? a=0 q)(new:gS X.prog X.w (upd H a ob) h' a ob) :
  12 X σ (upd H a ob) { s with heap:=h',toks:=t' }:=(I.write (x:=a) (e:=a) mu 18 (λb q hb z=>(hs.2 b hb).trans z) he new)
def Qq{P:Program}{w:World}{h':Heap}{ba:5 Key V}{vs:5 Key 5}(z:11 ba.length)(hd:(a==sysModules)=false)(rel:KV ba vs)(dd:h'.DictOf (jj P w) a vs) :
  gS P w H' h' a (.dK ba):=(#[z,hd,vs,rel,dd])
def aa7{Q:Unit->6 Shared}(hu:A.units+1<cLine)(I:12 X σ H s)(g:uW H a y v H')(ry:RelV y u)(rv:RelV v r)(h:∀s',12 X σ H' s'->Q () s') :
  15 X.prog X.w A (setItem (3 a) u r) Q E s:=by
 rcases g with⟨ba,k,e,ey,l,eH⟩|⟨ba,k,b,e,ey,eb,l,eH⟩
 .subst ey eH;let[z,hd,vs,rel,dd]:=Qp I.cf e;let hz:11 vs.length:=by rw[<- rel.length];exact z
  let hl:11 (gM ba k v).length:=by let:=JG ba k v;lia
  refine wpAny_setItem_pairs (hsz:=hz) (yM ry) dd λh' wK hs=>h _ ?_;let he:∃q,h'.get? a=0 q:=let ⟨q,_,_,hq,_⟩:=wK;#[q,hq];exact JK I (by rw[e];exact True.intro) hs he<|Qq hl hd (rel.put k rv) wK
 .subst ey eH;cases(show u=Value.ref b from ry)
  let[z,hd,xs,rel,dd]:=aa4 I.cf e;let hz:11 21:=by rw[<- Paired.length rel];exact z
  let hl:11 (gM ba k v).length:=by let:=JG ba k v;lia
  refine wpAny_setItem_heap (hsz:=hz) (tupleKind_room_in1 hu) (Bc I.cf eb) dd λh' wK hs=>h _ ?_;let[q,es,ep,hq,h2,h3,h4,_,h5]:=wK;refine JK I (by rw[e];exact True.intro) hs #[q,hq] #[hl,hd,_,(rel.put k eb rv).keeps λc ys ec=>?_,q,es,ep,hq,h2,h3,h4,h5];rw[cF (XJ ec e λz=>nomatch z)];exact ec
end
section
variable{X:Cx}{aZ:5 Addr Obj}{σ:St}{H:Hp}{s:Shared}{a:Addr}{ba:5 Key V}{k:Key}{u:Value}{A:Around}{E:QV}
end
def JL(i:Expr):Prop:=∀ov iv,subscripted i false ov iv=operate [ov,iv] (getItem ov iv)
def Qr{prog:Program}{w:World}{A:Around}{E:QV}{env:Env}{value slice:Expr}{pos:Pos}{T id:String}
  (hl:typeLookup (.type T) "__getitem__"=pure (0<|.builtin id)) (hs:JL slice)
  (h:15 prog w A (eval value env) (λo s₁=>15 prog w A (eval slice env) (λi s₂=>s₂.TypeIs o T/\15 prog w A (getItem o i) Q E s₂) E s₁) E s) :
  15 prog w A (eval (.Subscript value slice pos) env) Q E s:=by
 refine Subscript_<|ah h (λo s₁ h₁=>ah h₁ (λi s₂ h₂=>?_) λ_ _ x=>x) λ_ _ x=>x;let[hT,h₂]:=h₂;unfold subscriptTail;refine aq ?_;rw[getitemInPython_of_ne hT.not_modules];refine aq<|aL hT hl ?_;let fin:15 prog w A (subscripted slice false o i) (λr s₃=>15 prog w A (letTemporaryGo value o r >>= λ_=>pure r) Q E s₃) E s₂:=by
  rw[hs o i];exact wpAny_operating<|ah h₂ (λr s₃ h₃=>aq<|wpAny_letTemporaryGo<|ao h₃) λ_ _ x=>x
 first
  |exact ao<|aq fin
  |exact aq<|ao<|aq fin
  |exact aq fin
def aa8{aZ:5 Addr Obj}{σ:St}{a:Addr}{o:7 V}(I:12 X σ H s)(g:jd H a y o):s.TypeIs (3 a) "dict":=by
 rcases g with⟨ba,k,e,_,_⟩|⟨ba,k,b,e,_,_,_⟩
 .let[_,_,vs,_,dd]:=yN I.cf e;exact dd.typeIs
 .let[_,_,xs,_,dd]:=yO I.cf e;exact dd.typeIs
def aa9(td ty:TE):TE:=λσ H Q=>td σ H λx H1=>ty σ H1 λy H2=>∃a v,x=3 a/\jd H2 a y (0 v)/\Q v H2
def aba(ty td:TE):TE:=λσ H Q=>ty σ H λy H1=>td σ H1 λx H2=>∃a o,x=3 a/\jd H2 a y o/\Q (.bl (!o.isSome)) H2
def Qs(td ty tv:TE):TS:=λD σ H=>tv σ H λv H1=>td σ H1 λx H2=>ty σ H2 λy H3=>∃a H4,x=3 a/\uW H3 a y v H4/\D.nx σ H4
section
variable{X:Cx}{o i e value:Expr}{pos nK YC:Pos}{td ty tv:TE}
def pK(hu:X.A.units+1<cLine)(ho:PE X o td)(hi:PE X i ty)(hs:JL i:=by exact λ_ _=>9):PE X (.Subscript o i pos) (aa9 td ty):=by
 intro aZ s σ H Q I h;refine Qr PySem.F.slot_dict_getitem.lookup hs (bg (ho aZ s σ H _ I h) λu s1 ⟨x,H1,I1,rx,q1⟩=>bg (hi aZ s1 σ H1 _ I1 q1) λiv s2 ⟨y,H2,I2,ry,a,v,ex,g,q2⟩=>?_);subst ex;obtain rfl:u=Value.ref a:=rx;exact#[aa8 I2 g,aa5 hu I2 g ry λw' s3 I3 qt=>#[v,H2,I3,qt,q2]]
def abb(hu:X.A.units+1<cLine)(hi:PE X i ty)(ho:PE X o td):PC X .NotIn i o (aba ty td):=by
 intro aZ s σ H Q I h;refine bg (hi aZ s σ H _ I h) λiv s1 ⟨y,H1,I1,ry,q1⟩=>bg (ho aZ s1 σ H1 _ I1 q1) λu s2 ⟨x,H2,I2,rx,a,ov,ex,g,q2⟩=>?_;subst ex;obtain rfl:u=Value.ref a:=rx;exact aa6 hu I2 g ry λs3 I3=>#[.bl (!ov.isSome),H2,I3,9,q2]
def Bd(hu:X.A.units+1<cLine)(ho:PE X o td)(hi:PE X i ty)(hv:PE X value tv)(hs:swapsWith value (0<|.Subscript o i nK) pos.line X.env=pure false) :
  PS X (.Assign [.Subscript o i nK] value pos) (Qs td ty tv):=by
 intro aZ s σ H D I h;refine wpAny_Assign_Subscript (bg (hv aZ s σ H _ I h) λr s1 ⟨v,H1,I1,rv,q1⟩=>bg (ho aZ s1 σ H1 _ I1 q1) λu s2 ⟨x,H2,I2,rx,q2⟩=>bg (hi aZ s2 σ H2 _ I2 q2) λiv s3 ⟨y,H3,I3,ry,a,H4,ex,g,q3⟩=>?_) hs;subst ex;obtain rfl:u=Value.ref a:=rx;exact aa7 hu I3 g ry rv λs4 I4=>#[σ,H4,I4,q3]
end
def Qt{P:Program}{w:World}(h:Heap)(hb:sysModules<h.objs.size):gS P w H (h.push { cls:=.type "dict",data:=.dict #[] }) h.objs.size (.dK []):=(#[iL _,beq_eq_false_iff_ne.mpr<|iD<|iA hb,[],.nil,Heap.DictOf.new h])
def abc:TE:=λ_ H Q=>∀p,H p=8->Q (3 p) (upd H p<|.dK [])
section
variable{X:Cx}{pos:Pos}
def Qu:PE X (.Dict [] [] pos) abc:=(λaZ s σ H Q I h=>
 wpAny_Dict_empty #[3 22,_,I.laid (a:=s.heap.objs.size) (o:=.dK []) (t':=s.toks) (λ_ _ q=>dD _ q) (ck _) (Qt s.heap I.big),9,h _<|I.cf.fresh<|ck _])
end
def wL:5 TE TE->St->Hp->(5 V V->6 Hp)->Prop
 | [],_,H,Q=>Q [] H
 |(tk,tv)::r,σ,H,Q=>tk σ H λx H1=>tv σ H1 λy H2=>wL r σ H2 λps H3=>Q ((x,y)::ps) H3
abbrev VV:5 V V->6 (5 5 5):=Paired λp q=>RelV p.1 q.1/\RelV p.2 q.2
def Be(X:Cx)(pos:Pos)(keys:1 (7 Expr))(values:1 Expr)(tP:5 TE TE):Prop:=
 ∀(aZ:5 Addr Obj)(s:Shared)(σ:St)(H:Hp)(Q:5 V V->6 Hp),12 X σ H s->wL tP σ H Q->
  15 X.prog X.w X.A (evalPairs<|pairTrees keys values X.env pos) (λvs s'=>∃ps H',12 X σ H' s'/\VV ps vs/\Q ps H') X.xe s
def abd{pos:Pos}:Be X pos [] [] []:=(λaZ s σ H Q I h=>pairTrees_nil_walk #[[],H,I,.nil,h])
def abe{pos:Pos}{k v:Expr}{ks:1 (7 Expr)}{vs:1 Expr}{tk tv:TE}{tP:5 TE TE}(hk:PE X k tk)(hv:PE X v tv)(hr:Be X pos ks vs tP) :
  Be X pos (0 k::ks) (v::vs) ((tk,tv)::tP):=(λaZ s σ H Q I h=>
 pairTrees_cons_walk (bg (hk aZ s σ H _ I h) λu s1 ⟨x,H1,I1,rx,q1⟩=>bg (hv aZ s1 σ H1 _ I1 q1) λw2 s2 ⟨y,H2,I2,ry,q2⟩=>
  bg (hr aZ s2 σ H2 _ I2 q2) λws s3 ⟨ps,H3,I3,rel,q3⟩=>#[(x,y)::ps,H3,I3,.cons #[rx,ry] rel,q3]))
def uX(ba iB:5 Key V):5 Key V:=iB.foldl (λacc kv=>gM acc kv.1 kv.2) ba
def KV.merge:∀{iB:5 Key V}{rs:5 Key 5}{ba:5 Key V}{vs:5 Key 5},KV iB rs->KV ba vs->KV (uX ba iB) (merged vs rs):=by
 intro iB rs ba vs r;unfold KV at r;induction r generalizing ba vs with
 |nil=>intro q;exact q
 | @cons p q ps qs h t ih=>
  intro r0;let e:KV (gM ba p.1 p.2) (stored vs q.1 q.2):=by
   let:=r0.put p.1 h.2
   rw[<- h.1];exact this
  exact ih e
theorem JM:∀(iB ba:5 Key V),(uX ba iB).length<=ba.length+iB.length
 | [],ba=>by show ba.length<=ba.length+0;lia
 |p::r,ba=>by
  let h1:=JM r<|gM ba p.1 p.2;let h2:=JG ba p.1 p.2;show(uX (gM ba p.1 p.2) r).length<=_;rw[eX];lia
theorem Qv{P:Program}{w:World}:∀{ba:5 Key V}{ws:5 5 5},VV (ba.map λkv=>(kV kv.1,kv.2)) ws->∃rs,Carries (jj P w) ws rs/\KV ba rs
 | [],_,r=>by rw[List.map_nil]at r;cases r;exact#[[],True.intro,.nil]
 |p::ba,_,r=>by
  rw[ib]at r;cases r with
  | @cons a b as bs h t=>
   let[rs,c,q]:=Qv (P:=P) (w:=w) t;let[b1,b2]:=b;exact#[(p.1,b2)::rs,#[yM h.1,9,c],.cons #[9,h.2] q]
def DT(tP:5 TE TE):TE:=λσ H Q=>∀p,H p=8->wL tP σ (upd H p<|.dK []) λps H2=>H2 p=0 (.dK [])/\∃ba:5 Key V,ps=ba.map (λkv=>(kV kv.1,kv.2))/\ba.length<=15/\Q (3 p) (upd H2 p<|.dK<|uX [] ba)
def abf{pos:Pos}{keys:1 (7 Expr)}{values:1 Expr}{tP:5 TE TE}(h:Be X pos keys values tP)(IP:keys.all (·.isSome)=6)(hl:keys.length=values.length)(h0:keys≠[])
  (JN:keys.length<=15):PE X (.Dict keys values pos) (DT tP):=by
 intro aZ s σ H Q I q;let hn:=I.cf.fresh<|ck 22;let I1:=I.laid (a:=s.heap.objs.size) (o:=.dK []) (h':=s.heap.push { cls:=.type "dict",data:=.dict #[] }) (t':=s.toks) (λ_ _ q=>dD _ q) (ck _) (Qt s.heap I.big);refine wpAny_Dict_walk (knd:=jj X.prog X.w) IP hl h0 JN (bg (h aZ _ σ _ _ I1<|q _ hn) λws s2 ⟨ps,H2,I2,rel,e,ba,ep,lk,q2⟩=>?_);subst ep;let[rs,c,rk]:=Qv (P:=X.prog) (w:=X.w) rel;let[z,hd,vs0,r0,dd]:=Qp I2.cf e;cases r0;refine#[rs,c,dd,λh' wK hs=>#[3 22,_,?_,9,q2]];let hz:11 (uX [] ba).length:=by
  let h1:=JM ba [];rw[List.length_nil]at h1;rw[ar];lia
 let he:∃q,h'.get? 22=0 q:=let ⟨q,_,_,hq,_⟩:=wK;#[q,hq];exact JK I2 (by rw[e];exact True.intro) hs he<|Qq hz hd (rk.merge .nil) wK
structure M2(X:Cx)(o:Expr)(m:Str)(jV:Pos)(e f:Expr)(iG:Pos):Prop where
 base:attributeBase o m X.env (eval o X.env)=eval o X.env
 jC:((backTo iG<|starEach [e,f] X.env).all (λx=>!x.1)&&(backToKw iG<|keywordEach [] X.env).all (λx=>x.1.isSome)
  && decide (([e,f]:1 Expr).length+([]:1 Keyword).length+(if([]:1 Keyword).isEmpty then 0 else 1)<30))=6
 line:(jV.endLine==iG.line)=6
 trees:backTo iG (starEach [e,f] X.env)=[(false,eval e X.env),(false,eval f X.env)]
def Qw(H:Hp)(a:Addr):Prop:=(∃ba,Rd H a (.dK ba))\/∃ba,Rd H a (.dT ba)
def abg{aZ:5 Addr Obj}{σ:St}{a:Addr}(I:12 X σ H s)(d:Qw H a) :
  s.TypeIs (3 a) "dict"/\(∀b,Value.ref a=3 b->∃ob,s.heap.get? b=0 ob/\ob.dict=8)/\(a==sysModules)=false:=by
 rcases d with⟨ba,e⟩|⟨ba,e⟩
 .let[_,hd,vs,_,dd]:=yN I.cf e;refine#[dd.typeIs,λb q=>?_,hd];cases q;let[ob,_,_,h1,h2,_]:=dd;exact#[ob,h1,h2.2.1]
 .let[_,hd,xs,_,dd]:=yO I.cf e;refine#[dd.typeIs,λb q=>?_,hd];cases q;let[ob,_,_,h1,h2,_]:=dd;exact#[ob,h1,h2.2.1]
section
variable{X:Cx}{aZ:5 Addr Obj}{σ:St}{H:Hp}{s:Shared}{a:Addr}{y d:V}{u r:Value}{o:7 V}{A:Around}{E:QV}
def abh(hu:A.units+1<cLine)(I:12 X σ H s)(g:jd H a y o)(ry:RelV y u)(rd:RelV d r)(h:∀w' s',12 X σ H s'->RelV (o.getD d) w'->Q w' s') :
  15 X.prog X.w A (call (.builtin "dict.get") [3 a,u,r]) Q E s:=by
 rcases g with⟨ba,k,e,ey,l⟩|⟨ba,k,b,e,ey,eb,l⟩
 .subst ey;let[z,hd,vs,rel,dd]:=yN I.cf e;refine call_meetsIn Hw dd.typeIs PySem.F.entry_dict_get (PySem.F.args_dict_get_3 _ _ _) (meets_dict_get_default (jj X.prog X.w) a (yM ry) hd r) #[_,dd.mapOf,h _ _ (I.tok _) ?_];rw[l];exact(rel.val k).getD rd
 .subst ey;cases(show u=Value.ref b from ry)
  let[z,hd,xs,rel,dd]:=yO I.cf e;refine call_meetsIn Hw dd.typeIs PySem.F.entry_dict_get (PySem.F.args_dict_get_3 _ _ _) (meetsH_dict_get_default (tupleKind<|jj X.prog X.w) a b hd r) #[tupleKind_room_in1 hu,k,xs,Bc I.cf eb,dd,h _ _ (I.tok _) ?_];rw[l];exact(rel.val k).getD rd
end
def abi(td ty tx:TE):TE:=λσ H Q=>td σ H λx H1=>∃a,x=3 a/\Qw H1 a/\ty σ H1 λy H2=>tx σ H2 λz H3=>∃o,jd H3 a y o/\Q (o.getD z) H3
section
variable{X:Cx}{o e f:Expr}{jV iG:Pos}{td ty tx:TE}
def Qx(hu:X.A.units+1<cLine)(ho:PE X o td)(he:PE X e ty)(hf:PE X f tx)(m:M2 X o "get" jV e f iG):PE X (.Call (.Attribute o "get" jV) [e,f] [] iG) (abi td ty tx):=by
 intro aZ s σ H Q I h;refine wpAny_Call_method m.base m.jC m.line PySem.F.plainAttrs_dict Hw PySem.F.type_dict_get (bg (ho aZ s σ H _ I h) λu s1 ⟨x,H1,I1,rx,a,ex,d,q1⟩=>?_);subst ex;obtain rfl:u=Value.ref a:=rx;let[t1,t2,_]:=abg I1 d;refine#[t1,t2,?_];rw[m.trees];refine Calls.callWith_builtin 9 (Calls.evalArgs_plain<|Aa<|bg (he aZ s1 σ H1 _ I1 q1) λiv s2 ⟨y,H2,I2,ry,q2⟩=>
  Aa (bg (hf aZ s2 σ H2 _ I2 q2) λfv s3 ⟨z,H3,I3,rz,ov,g,q3⟩=>Calls.spliced_nil ?_))
 exact abh hu I3 g ry rz λw' s4 I4 qt=>#[_,H3,I4,qt,q3]
end
section
variable{X:Cx}{aZ:5 Addr Obj}{σ:St}{H:Hp}{s:Shared}{a:Addr}{ba:5 Key V}{A:Around}{E:QV}
end
section
variable{X:Cx}{aZ:5 Addr Obj}{σ:St}{H:Hp}{s:Shared}{a:Addr}{y:V}{u:Value}{A:Around}{E:QV}
end
end L2
namespace HT
open PySem PySem.Spec PyProof.Rows
variable{prog:Program}{w:World}{A:Around}{E:QV}{s:Shared}
def abj{t sl:Addr}{items:Array 5}{vl vu:Value}{lo hi:7 Int}{Q:QV}(ht:IsTup s.heap t items)(hs:s.heap.IsSliceOf sl vl vu .none)(pl:IsPart vl lo)(pu:IsPart vu hi)
  (h0:cS items.size 0 lo=0) (h1:cS items.size items.size hi=items.size) (h:Q (3 t) s):15 prog w A (getItem (3 t)<|3 sl) Q E s:=by
 let[os,wm,Dg,AA]:=id hs;let Iu:s.TypeIs (3 sl) "slice":=#[os,wm,Dg];unfold getItem
 try with_reducible refine aC ?_
 first|refine aq<|ao ?_|skip
 refine aq<|wpAny_sequenceKey ht.typeIs 16 ?_;refine aq (aE (name:=4 "__getitem__") ht.typeIs CM (aF CM ht.typeIs entry_tuple_getitem ?_<|args_tuple_getitem _ _));show wpAny _ _ (Builtin.Tuple.tupleItemsOf (3 t) >>= _) _ _ s;refine aq<|tupleItemsOf_ ht ?_;refine aq<|wpAny_typeOf Iu ?_;rw[af 16];refine aq<|Oz hs pl pu ?_;let abk:(((cS items.size 0 lo:Nat):Int)==0&&(1:Int)==1&&(cS items.size items.size hi-cS items.size 0 lo)==items.size)=6:=by
  rw[h0,h1];simp
 show wpAny _ _ (if(((cS items.size 0 lo:Nat):Int)==0&&(1:Int)==1&&(cS items.size items.size hi-cS items.size 0 lo)==items.size)=6 then _ else _) _ _ s
 rw[af abk];unfold Builtin.Tuple.tupleIsExact;refine aq<|aq<|wpAny_typeOf ht.typeIs<|ao ?_;rw[af 16];first
  |exact aq<|ao<|ao #[_,9,ao h]
  |exact aq (m:=rule _) (ao #[_,9,ao h])
  |exact ao #[_,9,ao h]
  |exact aq<|wpAny_rule<|ao #[_,9,ao h]
  |exact aq<|wpAny_rule<|aq<|ao<|ao #[_,9,ao h]
end HT
namespace L2
open PySem PySem.Spec PyProof.Rows
variable{H H':Hp}{Q:QV}{X:Cx}{a c f:Addr}{fd:FuncData}{h:Heap}{i:Int}{n:Nat}{ps:1 Str}{qual x:Str}{s:Shared}{st:Stmt}
inductive Qy(K:Frag)(x:V)(lo:7 Int)(hi:7 Int)(H:Hp)(Q:VK):Prop where
 |mk (a xs:_) (pq:x=3 a) (px:bu K H a xs) (qp:iX K H (gJ xs lo hi) Q):Qy K x lo hi H Q
def mX(K:Frag):V->7 Int->7 Int->Hp->6 VK:=λx lo hi H Q=>Qy K x lo hi H Q
def abl:yd X (mX X.K):=by
 intro aZ s σ H x v vl vu lo hi sl Q I rx hs pl pu h;let[a,xs,rfl,hx,q]:=h;by_cases hw:HT.cS 21 0 lo=0/\HT.cS 21 21 hi=21
 .cases rx;let[its,r,ht,hz]:=I.tuple hx;let cW:its.toArray.size=21:=by rw[dP];exact r.length.symm
  refine#["tuple",_,CM.lookup,ht.typeIs,?_];refine HT.abj ht hs pl pu (by rw[cW];exact hw.1) (by rw[cW];exact hw.2) ?_;refine#[3 a,H,I,9,q.old ?_];unfold gJ;rw[hw.1,hw.2,List.drop_zero,Nat.sub_zero,nF];exact hx
 .exact YO aZ s σ H _ v vl vu lo hi sl Q I rx hs pl pu #[a,xs,9,hx,hw,λp hp=>q.new hp]
def jD(K:Frag)(hK:X.K=K):yd X (mX K):=(hK▸abl)
section
variable{X:Cx}
def abm(hc:X.calm=6):gG X (.builtin "any") (λxs H Q=>∃p ns,xs=[3 p]/\bu X.K H p (List.map V.int ns)/\Q (.bl<|ns.any λn=>n != 0) H):=by
 intro aZ s σ H vs us Q I r h;let[p,ns,rfl,hq,q]:=h;let[u,rfl,ru]:=vals1 r;cases ru;let[its,rv,ht,hz]:=I.tuple hq;let cX:p<22:=ht.lt;let cW:its.length=ns.length:=by let:=rv.length;rw[bH]at this;exact this.symm
 apply call_any_walk;apply wpAny_pyIter_tuple ht;refine#[22,[22,p],[22],its.toArray.size,_,_,λi=>((ns.map λn=>n != 0)[i]?).getD false,9,Walks.tuple (A:=X.A.in1) (I.ok.hd hc) _ p (iA cX) its.toArray,#[#[_,gp _ 9,9,9],ht.push _],λi v s1 Q1 E1 hP hQ=>?_,λh1 tk1 hk=>?_]
 .let hP:its[i]?=0 v:=by simpa using hP
  let hi:i<ns.length:=by rw[<- cW];exact(eA.mp hP).1
  let hx:(ns.map V.int)[i]?=0 (2 ns[i]):=by simp[hi]
  let[u,hu,ru]:=rv.get hx;rw[hP]at hu;cases hu;let[t,rfl]:=ru;dsimp only at hQ;rw[show(ns.map λn=>n != 0)[i]?=0 (ns[i] != 0) by simp[hi],Ah]at hQ;exact truthy_int hQ
 .let e:((List.range its.toArray.size).any λi=>((ns.map λn=>n != 0)[i]?).getD false)=ns.any λn=>n != 0:=by
   let e2:=aaO<|ns.map λn=>n != 0;rw[bH]at e2;rw[dP,cW,e2,List.any_map];rfl
  rw[e];refine#[.bl _,H,I.kept λb x e=>hk b x (λhm=>by rw[cT.mp hm]at e;exact xG _<|eE e)<|dD _ e,9,q]
def abn(K:Frag)(hK:X.K=K)(hc:X.calm=6):gG X (.builtin "any") (λxs H Q=>∃p ns,xs=[3 p]/\bu K H p (List.map V.int ns)/\Q (.bl<|ns.any λn=>n != 0) H):=(hK▸abm hc)
end
section
variable{K:Frag}{H1:Hp}{cp:St}{tt:TT}{te:TE}{Q:VK}{xs ys:1 V}{l1 l2:Addr}{b1 b2:Bool}
end
def oI(H:Hp)(Pt:Addr)(pos:Pos)(qual:Str):Prop:=
 H Pt=0 (.ic #[])\/∃c',H Pt=0 (.ic #[rawInt pos.line,rawInt pos.col,3 c',])/\H c'=0 (.ext λh=>h.CodeRec (3 c') qual)
def DU(Pt:Addr)(H H':Hp):Prop:=∀b o,H b=0 o->b≠Pt->H' b=0 o
def Qz(H:Hp)(f:Addr)(qual:Str)(params:Arguments)(body:Expr)(scope:Scope)(cl:5 Str Addr):Prop:=
 ∃c',H f=0 (.ext λh=>∃pm iH,h.get? f=0 (PySem.W.kla_obj "<lambda>" qual params body scope cl pm c' iH))/\H c'=0 (.ext λh=>h.CodeRec (3 c') qual)
def abo{P:Program}{w:World}(x:h.CodeRec (3 c) qual):gS P w H h c (.ext λh=>h.CodeRec (3 c) qual):=by
 refine#[x,?_,λh1 h2 z k=>?_]
 .let[c2,oc,vs,t,e,ho,_]:=x;cases e;exact#[oc,ho]
 .let[c2,oc,vs,t,e,ho,r]:=z;cases e;exact#[c,oc,vs,t,9,k _ ho,r]
def QA{P:Program}{w:World}{params:Arguments}{body:Expr}{scope:Scope}{cl:5 Str Addr}{pm iH:Value}(x:h.get? f=0 (PySem.W.kla_obj "<lambda>" qual params body scope cl pm c iH)) :
  gS P w H h f (.ext λh=>∃pm iH,h.get? f=0 (PySem.W.kla_obj "<lambda>" qual params body scope cl pm c iH)):=(#[#[pm,iH,x],#[_,x],λh1 h2 ⟨pm,iH,z⟩ k=>#[pm,iH,k _ z]])
def uY(mg:Str->7 5)(h:Heap):Prop:=∃bm ob,mg "__builtins__"=8 bm/\bm≠builtinsNs/\h.get? bm=0 ob/\ob.cls=.type "module"/\ob.dict=0 builtinsNs/\ob.data=.plain
section
variable{X:Cx}
def abp(Pt:Addr)(pos:Pos)(qual:Str)(params:Arguments)(body:Expr)(scope:Scope)(cl:5 Str Addr):TE:=λ_ H Q=>oI H Pt pos qual/\
 ∀f H',H f=8->DU Pt H H'->oI H' Pt pos qual->Qz H' f qual params body scope cl->Q (3 f) H'
def abq{params:Arguments}{body:Expr}{scope:Scope}{pos:Pos}{Pt:Addr}{cl:5 Str Addr}(QB:X.env.code=3 c)(C:CodeHd X.base c Pt)(B:uY X.mg X.base)(QC:closureFor scope X.env=pure cl)(abr:defaultsOf params X.env=([],[]):=by rfl) :
  PE X (.Lambda params body scope pos) (abp Pt pos (X.env.qual ++ "<lambda>") params body scope cl):=by
 intro aZ s σ H Q I h;let[hT,h]:=h;generalize hq:X.env.qual ++ "<lambda>"=qual at hT h;refine PySem.W.kla_eval abr ?_;rw[hq];let hg:s.heap.Ns mainGlobals X.mg:=I.mod.glob.keeps I.bk;let Cs:=C.keeps I.bk;let[bm,ob,b1,b2,b3,b4,b5,b6]:=B;let QD:bm≠mainGlobals:=λq=>by
  let[o,es,ep,e,hd,_]:=I.mod.glob;rw[q,e]at b3;cases b3;rw[hd]at b6;cases b6
 let hT0:∃ps,H Pt=0 (.ic ps):=hT.elim (λz=>#[_,z]) λ⟨_,z,_⟩=>#[_,z];let[ps0,Bf]:=hT0;let Bg:s.heap.get? Pt=0 (PySem.W.tabObj ps0):=I.cf Pt _ Bf;let hgP:mainGlobals≠Pt:=λq=>by
  let[o,es,ep,e,hd,_]:=hg;rw[q,Bg]at e;cases e;cases hd
 let QE:bm≠Pt:=λq=>by
  let e:=I.bk _ _ b3;rw[q,Bg]at e;cases e;cases b4
 let QF:Pt<22:=eE Bg;rcases hT with hT|⟨c',hT,hc⟩
 .rw[hT]at Bf;cases Bf;refine PySem.W.kla_makeFunction (mg:=X.mg) QC I.ok.glob hg QB Cs Bg trivial 9 hgP #[bm,ob,b1,b2,QD,QE,I.bk _ _ b3,b4,b5,b6] λc' iH h' tk hx yQ cX abt htb=>?_;let hsz:22<=h'.objs.size:=eh yQ<|vP cX;let hn:∀a,22<=a->H a=8:=λa ha=>I.cf.fresh ha;let nPc:Pt≠c':=iA<|jR QF yQ;let QG:Pt≠h'.objs.size:=iA<|jR QF hsz;let QH:c'≠h'.objs.size:=iA cX;let hk:∀b o,b≠Pt->s.heap.get? b=0 o->(h'.push<|PySem.W.kla_obj "<lambda>" qual params body scope cl ((X.mg "__name__").getD .none) c' iH).get? b=0 o:=λb o hb e=>dD _<|hx b o hb e;let hf:(h'.push<|PySem.W.kla_obj "<lambda>" qual params body scope cl ((X.mg "__name__").getD .none) c' iH).get? h'.objs.size=0 (PySem.W.kla_obj "<lambda>" qual params body scope cl ((X.mg "__name__").getD .none) c' iH):=gp _ 9;let QI:(h'.push<|PySem.W.kla_obj "<lambda>" qual params body scope cl ((X.mg "__name__").getD .none) c' iH).CodeRec (3 c') qual:=by
   let[c2,oc,vs,t,e,ho,r]:=abt;exact#[c2,oc,vs,t,e,dD _ ho,r]
  let JO:(h'.push<|PySem.W.kla_obj "<lambda>" qual params body scope cl ((X.mg "__name__").getD .none) c' iH).get? Pt=0 (PySem.W.tabObj<|#[]++#[rawInt pos.line,rawInt pos.col,3 c',]):=dD _ htb;generalize h'.push (PySem.W.kla_obj "<lambda>" qual params body scope cl ((X.mg "__name__").getD .none) c' iH)=hh at hk hf QI JO |-;generalize h'.objs.size=f at hsz QG QH hf |-;let JP:=hn f hsz;let hnc:=hn c' yQ
  let' H':Hp:=upd (upd (upd H Pt<|.ic<|#[]++#[rawInt pos.line,rawInt pos.col,3 c',]) c'<|.ext λh=>h.CodeRec (3 c') qual) f<|.ext λh=>∃pm iH,h.get? f=0 (PySem.W.kla_obj "<lambda>" qual params body scope cl pm c' iH)
  let e1:∀b,b≠f->b≠c'->b≠Pt->H' b=H b:=λb x1 x2 x3=>by
   show upd (upd (upd H Pt _) c' _) f _ b=_;rw[cF x1,cF x2,cF x3]
  let e2:H' Pt=0 (.ic<|#[]++#[rawInt pos.line,rawInt pos.col,3 c',]):=by
   show upd (upd (upd H Pt _) c' _) f _ Pt=_;rw[cF QG,cF nPc,bq]
  let e3:H' c'=0 (.ext λh=>h.CodeRec (3 c') qual):=by
   show upd (upd (upd H Pt _) c' _) f _ c'=_;rw[cF QH,bq]
  let e4:H' f=0 (.ext λh=>∃pm iH,h.get? f=0 (PySem.W.kla_obj "<lambda>" qual params body scope cl pm c' iH)):=bq;let e5:∀b o,H b=0 o->b≠Pt->H' b=0 o:=λb o q hb=>by
   rw[e1 b (ig q JP) (ig q hnc) hb];exact q
  let DV:∀b o,H b=0 o->(∀ps,o≠.ic ps)->b≠Pt:=λb o q ht z=>by
   rw[z,hT]at q;exact ht _ (dJ q).symm
  refine#[3 f,H',I.un (t':=tk) #[λb o e n _ _=>hk b o (λz=>by rw[z,hT]at n;cases n) e,λb o e n _ _=>#[o.slots,hk b o (λz=>by rw[z,hT]at n;cases n) e],λb o e n _=>?_,λb o e _=>?_,λb xs q=>e5 b _ q (DV b _ q λ_ z=>nomatch z),λb o u q=>e5 b _ q (DV b _ q λ_ z=>nomatch z),λb ps q=>?_] λa o e=>?_,9,h f H' JP e5 (.inr #[c',by rw[e2];rfl,e3]) #[c',e4,e3]]
  .let hb:=eE e;rw[e1 b (iA<|jR hb hsz) (iA<|jR hb yQ) (λz=>by rw[z,hT]at n;cases n)];exact n
  .by_cases hb:b=Pt
   .rw[hb];exact#[_,JO]
   .exact#[o,hk b o hb e]
  .by_cases hb:b=Pt
   .subst hb;rw[hT]at q;cases q;exact#[_,e2]
   .exact#[#[],by rw[e5 b _ q hb];simp]
  .by_cases iq:a=f
   .subst iq;rw[e4]at e;cases e;exact QA hf
   by_cases ja:a=c'
   .subst ja;rw[e3]at e;cases e;exact abo QI
   by_cases qv:a=Pt
   .subst qv;rw[e2]at e;cases e;exact JO
   .rw[e1 a iq ja qv]at e;refine(I.cf a o e).rp (λb u hb q=>hk b u (λz=>?_) q) (λb q=>e5 b _ q<|DV b _ q λ_ z=>nomatch z) λb xs q=>e5 b _ q (DV b _ q λ_ z=>nomatch z);rcases hb with hb|hb
    .exact qv (hb▸z)
    .rw[z,hT]at hb;cases hb
 .rw[hT]at Bf;cases Bf;refine PySem.W.kla_makeFunctionHit (cv:=3 c') (mg:=X.mg) QC I.ok.glob hg QB Cs Bg (by simp[TriplesOk,rawInt]) (by simp[codeAmong,rawInt]) #[bm,ob,b1,b2,QD,QE,I.bk _ _ b3,b4,b5,b6] λiH h' tk hk hsz=>?_;let hn:H h'.objs.size=8:=I.cf.fresh hsz;refine#[3 h'.objs.size,_,I.laid (t':=tk) (o:=.ext λh=>∃pm iH,h.get? h'.objs.size=0 (PySem.W.kla_obj "<lambda>" qual params body scope cl pm c' iH)) (λb u e=>dD _<|hk b u e) hsz (QA<|gp _ 9),9,?_];let e5:∀b o,H b=0 o->(upd H h'.objs.size<|.ext λh=>∃pm iH,h.get? h'.objs.size=0 (PySem.W.kla_obj "<lambda>" qual params body scope cl pm c' iH)) b=0 o:=λb o q=>by rw[cF (ig q hn)];exact q
  exact h _ _ hn (λb o q _=>e5 b o q) (.inr #[c',e5 _ _ hT,e5 _ _ hc]) #[c',bq,e5 _ _ hc]
end
structure uZ(P:Program)(w:World)(K:Frag)(mg:Str->7 5)(base:Heap)(k:Nat)(f:Addr)(fd:FuncData)(ps:1 Str)(sp:Shared->Sp):Prop where
 len:∀s vs H Q E,sp s vs H Q E->vs.length=ps.length
 run:∀(A:Around)(outer:1 Env)(s:Shared)(H:Hp)(args:Args)(us:1 5)(vs:1 V)(Q:VK)(E:XK),eU k A->x9 P w K mg base A outer s H->BindsTo s fd args (ps.zip us)->Vals vs us->sp s vs H Q E->
  codeAny (model P w) A (.call (3 f) args) (CR bX outer P w H s Q E) s
section
variable{P:Program}{w:World}{K:Frag}{mg:Str->7 5}{base:Heap}
def cL.ma{N:1 Str}{k:Nat}{sp:Shared->Sp}(F:cL K x qual st f fd)(S:dz N ps (cj st))(len:∀s vs H Q E,sp s vs H Q E->vs.length=ps.length)
  (qq:∀(cq:Value)(A:Around)(outer:1 Env)(s:Shared)(H:Hp)(vs:1 V)(Q:VK)(E:XK),eU k (A.deeper<|envOfC qual (cj st) 22 f cq)->sp s vs H Q E->
   ∃t,kX (oD bX P w K mg base N qual (cj st) f cq A outer s H E).nI (nQ st) t/\t { nx:=λ_ H'=>Q .cI H',rt:=Q } (start N vs) H):uZ P w K mg base (k+1) f fd ps sp:=by
 let[oc,od,kV,doc,pm,an,cq,ct,pC,rfl,lk,jk]:=F.ex;refine#[len,λA outer s H args us vs Q E hr e0 hb r lj=>?_];let hl:=len _ _ _ _ _ lj;let KX:K.In s.heap:=e0.mod.vV.keeps λb o e=>(e0.bs b o e).1;let wj:s.heap.NoLimit:=e0.mod.nolimit.keeps λb o e=>(e0.bs b o e).1;let Ay:∀y∈ps.zip us,(cj st).names.lookup y.1=0 .local\/((cj st).names.lookup y.1=0 .cell/\((cellsFrom (22+1) (cj st).names []).lookup y.1).isSome=6):=λ⟨n,v⟩ hy=>by
  rcases S.par n (Ac hy).1 with q|q
  .exact .inl q
  .exact .inr #[q,Ht _ _ _<|.inl q]
 refine codeAny_call_function hr.depth (KX _ _ lk) 9 S.co S.gen 9 (PySem.W.codeRec_of KX jk)<|hb _ _ _ _ ?_;refine av S.kind Ay λenv he s1 x=>?_;subst he;refine#[wj.keeps x.toInCall.keep,codeAny_func ?_];let[t,ht,hq]:=qq cq A outer s H vs Q E (hr.deeper _) lj;let I:Inv (oD bX P w K mg base N qual (cj st) f cq A outer s H E) [] (start N vs) H s1:=Ir S hr.hd e0 hl r x;refine ah (ht.nI [] s1 (start N vs) H _ I hq) (λfl s' hs=>?_) λe s' hs=>hs;let fin:∀{σ':St}{H':Hp}{v:V}{u:Value},Inv (oD bX P w K mg base N qual (cj st) f cq A outer s H E) [] σ' H' s'->RelV v u->Q v H'->CE outer P w H s Q u s':=
  λ{σ' H' v u} J rv q=>#[v,H',J.os,J.bare,J.base,J.cf,rv,q]
 cases fl with
 |ret u=>
  let[v,σ',H',J,rv,q]:=hs;exact fin J rv q
 |next=>
  let[σ',H',J,q]:=hs;exact fin (v:=V.cI) (u:=Value.none) J 9 q
 |brk=>
  let[_,_,_,q]:=hs;exact False.elim q
 |cont=>
  let[_,_,_,q]:=hs;exact False.elim q
end
section
variable{X:Cx}{k:Nat}{f:Addr}{fd:FuncData}{ps:1 Str}{x:Str}{p pos:Pos}{e:Expr}{es:1 Expr}{t:TA}{te:TE}
def DW{sp:Shared->Sp}(F:uZ X.prog X.w X.K X.mg X.base k f fd ps sp)(hr:eU k X.A)(hg:Gl X x)(hm:X.mg x=8 f)(hk:Kp X.K f)(hb:Binds X.K fd ps [])
  (ha:PA X (e::es) t) (v9:(x==("__debug__":Str))=false:=by decide) (he:starEach (e::es) X.env=(false,eval e X.env)::starEach es X.env:=by rfl) (mw:(backTo pos<|starEach es X.env).any (·.1)=false:=by rfl) :
  PE X (.Call (.Name x p) (e::es) [] pos) (λσ H Q=>t σ H λvs H1=>∀aZ s,12 X σ H1 s->sp s vs H1 Q E0):=by
 intro aZ s σ H Q I h;refine au<|HQ I hg hm ?_ v9;refine PySem.W.callWith_K (h₀:=X.base) I.ok.mod.vV hk (bg (ha pos aZ s σ H _ I h) λus s1 ⟨vs,H1,I1,r,q⟩=>#[I1.gX,?_]) he mw;let hs:=q aZ s1 I1;let hl:us.length=ps.length:=by rw[<- r.length];exact F.len _ _ _ _ _ hs
 let wM:=hb s1 us I1.gX (by rw[iV];exact hl);rw[iV]at wM;refine wpAny_call<|codeAny_mono (F.run X.A X.stack s1 H1 #[us,[]] us vs Q E0 hr I1.Ip wM r hs) λr s' hq=>?_;cases r with
 |error e=>exact False.elim hq
 |ok fl=>
  cases fl with
  |ret u=>exact I1.after hq
  |next=>exact False.elim hq
  |brk=>exact False.elim hq
  |cont=>exact False.elim hq
end
noncomputable def JQ(P:Program)(w:World)(K:Frag)(mg:Str->7 5)(base:Heap)(N:1 Str)(qual:Str)(scope:Scope)(f c:Addr)(cl:5 Str Addr)(A:Around)(outer:1 Env)(s:Shared)(H:Hp):Cx where
 prog:=P
 w:=w
 K:=K
 mg:=mg
 base:=base
 A:=A.deeper (PySem.W.envX qual scope 22 f (3 c) cl)
 N:=N
 s₀:=s
 H₀:=H
 env:=PySem.W.envX qual scope 22 f (3 c) cl
 outer:=outer
 stack:=PySem.W.envX qual scope 22 f (3 c) cl::outer
 ex:=[]
 calm:=true
 fn:=λ_=>false
 pn:=[]
 xe:=λe s'=>15 P w (A.deeper<|PySem.W.envX qual scope 22 f (3 c) cl) (leaving (PySem.W.envX qual scope 22 f (3 c) cl) e) (λ_ _=>False) (λ_ _=>False) s'
section
variable{P:Program}{w:World}{K:Frag}{mg:Str->7 5}{base:Heap}
end
section
variable{P:Program}{w:World}{K:Frag}{mg:Str->7 5}{base:Heap}
def cL.okC{N:1 Str}{k:Nat}{sp:Sp}(F:cL K x qual st f fd)(S:dz N ps (cj st))(len:∀vs H Q E,sp vs H Q E->vs.length=ps.length)
  (qq:∀(cq:Value)(A:Around)(outer:1 Env)(s:Shared)(H:Hp)(vs:1 V)(Q:VK)(E:XK),fd.code=cq->eU k (A.deeper<|envOfC qual (cj st) 22 f cq)->sp vs H Q E->
   ∃t,kX (oD bX P w K mg base N qual (cj st) f cq A outer s H E).nI (nQ st) t/\t { nx:=λ_ H'=>Q .cI H',rt:=Q } (start N vs) H):bQ P w K mg base bX (k+1) f fd ps sp:=by
 let[oc,od,kV,doc,pm,an,cq,ct,pC,rfl,lk,jk]:=F.ex;refine Ow lk jk S len λA outer s H vs Q E hr lj=>?_;let[t,h,q]:=qq cq A outer s H vs Q E 9 hr lj;exact#[t,h.nI,q]
def abu{Pt:Addr}{oc:Value}{od:7 Addr}{sl:Array (7 5)}(a:nsIn K mainGlobals x=0 (8 f))(l:K.lookup f=0 #[oc,od,.func fd,sl])(t:tabIn K x=0 (c,Pt)):fd.code=3 c:=by
 unfold tabIn at t;rw[a]at t;simp only[l]at t;split at t
 .rename_i c2 hc
  split at t
  .split at t
   .cases t;exact hc
   .cases t
  .cases t
 .cases t
def abv{tabs:5 Addr Addr}{mb:Str->7 5}{k:Nat}{fa:Addr}{sp:Sp}{s₁:Shared}{vs:1 5}{ns:4}
  (KX:K.In s₁.heap) (noT:PySem.W.noTabs K=6) (hT:PySem.W.TabsAt tabs s₁.heap) (DX:s₁.heap.Ns mainGlobals mg) (hb:s₁.heap.Ns builtinsNs mb) (wM:∀x:Str,x ≠ "__name__"->mb x=bootBuiltins x) (hbm:uY mg s₁.heap) (abw:s₁.heap.NoLimit) (hg:s₁.gens=#[])
  (ha:s₁.heap.get? a=0 { cls:=.type "list",data:=.seq vs.toArray }) (hi:IntsAre vs ns) (hl:11 ns.length) (hr:eU k callerA)
  (F:∀base:Heap,K.In base->base.Ns mainGlobals mg->uY mg base->(∀q∈tabs,CodeHd base q.1 q.2)->bQ P w K mg base bX k fa fd [x] sp) (JR:∀(s:Shared)(u:Value),BindsTo s fd #[[u],[]] [(x,u)])
  (lj:∀H:Hp,dv K H a (ns.map V.int)->(∀q∈tabs,H q.2=0 (.ic #[]))->sp [3 a] H (λv _=>v=.bl 6) λ_ _ _=>False) :
  codeAny (model P w) callerA (.call (3 fa) #[[3 a],[]]) (λr s'=>r=.ok (.ret<|.bool 6)/\OldK s₁.heap s'.heap/\s'.os=s₁.os/\AllBare s'.gens) s₁:=by
 let rv:=OR hi;let abx:=hi.length;let aby:∀q∈tabs,K.lookup q.2=8:=λq hq=>by
  cases e:K.lookup q.2 with
  |none=>rfl
  |some o=>
   let e1:=KX _ _ e;rw[(hT q hq).2]at e1;cases e1;let h2:=gF.mp noT (q.2,PySem.W.tabObj #[])<|PySem.W.mem_of_lookupK e;exact(ia<|show false=6 from h2).elim
 let aT:∀q∈tabs,q.2≠a:=λq hq z=>by
  let e:=(hT q hq).2;rw[z,ha]at e;cases e
 let core:∀H:Hp,dv K H a (ns.map V.int)->gT P w H s₁.heap->(∀q∈tabs,H q.2=0 (.ic #[]))->(∀b u,H b=0 u->(b=a/\K.lookup a=8/\∃o xs,u=.e7 o (.lst xs))\/(∃q∈tabs,b=q.2))->
   codeAny (model P w) callerA (.call (3 fa) #[[3 a],[]]) (λr s'=>r=.ok (.ret<|.bool 6)/\OldK s₁.heap s'.heap/\s'.os=s₁.os/\AllBare s'.gens) s₁:=by
  intro H hS cf yR hA;let DY:∀{b:Addr}{o:Obj},s₁.heap.get? b=0 o->H b=8->(ql s₁.heap H).get? b=0 o:=λe n=>XO e n;let JS:∀{b:Addr}{o:Obj},s₁.heap.get? b=0 o->o≠{ cls:=.type "list",data:=.seq vs.toArray }->o≠PySem.W.tabObj #[]->H b=8:=λ{b o} e n1 n2=>by
   cases q:H b with
   |none=>rfl
   |some u=>
    rcases hA b u q with⟨rfl,_⟩|⟨r,hr,rfl⟩
    .rw[ha]at e;cases e;exact absurd 9 n1
    .rw[(hT r hr).2]at e;cases e;exact absurd 9 n2
  let DZ:∀{b:Addr}{m:Str->7 5},s₁.heap.Ns b m->(ql s₁.heap H).Ns b m:=λ{b m} ⟨o,es,ep,e,d,r⟩=>#[o,es,ep,DY e (JS e (λz=>by rw[z]at d;cases d) λz=>by rw[z]at d;cases d),d,r];let QJ:K.In (ql s₁.heap H):=λb o e=>DY (KX b o e) (by
   cases q:H b with
   |none=>rfl
   |some u=>
    rcases hA b u q with⟨rfl,hn,_⟩|⟨r,hr,rfl⟩
    .rw[hn]at e;cases e
    .rw[aby r hr]at e;cases e)
  let hM:Mod K mg (ql s₁.heap H):=#[QJ,DZ DX,#[mb,DZ hb,wM],let ⟨mc,h1,h2⟩:=abw;#[mc,DZ h1,h2]];let hBB:uY mg (ql s₁.heap H):=by
   let[bm,ob,b1,b2,b3,b4,b5,b6]:=hbm;exact#[bm,ob,b1,b2,DY b3 (JS b3 (λz=>by rw[z]at b4;exact absurd (Value.type.inj b4) 16) λz=>by rw[z]at b4;cases b4),b4,b5,b6]
  let hCC:∀q∈tabs,CodeHd (ql s₁.heap H) q.1 q.2:=λq hq=>by
   let[o,cvs,file,tf,abz,tg,inF,text,tt,e1,e2,r]:=(hT q hq).1;exact#[o,cvs,file,tf,abz,tg,inF,text,tt,DY e1 (JS e1 (λz=>by rw[z]at e2;exact absurd (Value.type.inj e2) 16) λz=>by rw[z]at e2;cases e2),e2,r]
  let e0:x9 P w K mg (ql s₁.heap H) callerA [] s₁ H:=#[9,hM,λb o e=>XQ e,Nat.le_of_eq<|XN _ _,trivial,λb hb=>absurd (show b∈([]:1 Addr) from hb) 17,cf,.of_eq hg]
  refine codeAny_mono ((F _ QJ (DZ DX) hBB hCC).run callerA [] s₁ H #[[3 a],[]] [3 a] [3 a] _ _ hr e0 (JR s₁<|3 a) (.cons 9 .nil)<|lj H hS yR) λr s' h=>?_;cases r with
  |error e=>exact False.elim h
  |ok fl=>
   cases fl with
   |next=>exact False.elim h
   |brk=>exact False.elim h
   |cont=>exact False.elim h
   |ret u=>
    let[v,H',os,bare,un,QK,r',q]:=h;let q':v=.bl 6:=q;subst q';obtain rfl:u=Value.bool 6:=r';let keep:∀b o,s₁.heap.get? b=0 o->s'.heap.get? b=0 o\/∃q∈tabs,b=q.2/\o=PySem.W.tabObj #[]/\∃ps,s'.heap.get? b=0 (PySem.W.tabObj ps):=λb o e=>by
     cases q:H b with
     |none=>exact .inl<|un.keep b o e q (by intro z;exact absurd (show b∈([]:1 Addr) from z) 17) 17
     |some u=>
      rcases hA b u q with⟨rfl,_,ob,xs,rfl⟩|⟨r,hr,rfl⟩
      .let z2:=un.pj _ ob _ q;let[e1,_]:=cf _ _ q;let[e2,_]:=QK _ _ z2;rw[e]at e1;cases e1;exact .inl e2
      .let[iB,hm]:=un.qk _ _<|yR r hr;let e2:=(hT r hr).2;rw[e]at e2;exact .inr #[r,hr,9,dJ e2,_,QK _ _ hm]
    refine#[9,#[λb o e=>?_,λb o e=>?_],os,bare]
    .rcases keep b o e with h|⟨q,hq,rfl,rfl,ps,hP⟩
     .exact .inl h
     .exact .inr<|.inl #[((hT q hq).1.tab (hT q hq).2).isCodeTable,9,#[],ps,9,by rw[Array.empty_append];exact hP]
    .rcases keep b o e with h|⟨q,hq,rfl,rfl,ps,hP⟩
     .exact#[_,h]
     .exact#[_,hP]
 cases hk:K.lookup a with
 |some o=>
  let e:=KX a o hk;rw[ha]at e;cases e;refine core (λb=>if b∈tabs.map (·.2)then 0 (.ic #[])else none) (.inr #[_,vs.toArray,_,hk,9,9,9,by rw[dP,abx];exact hl,by simpa using rv]) (λb u z=>?_) (λq hq=>af<|CN hq) λb u z=>?_
  .by_cases oJ:b∈tabs.map (·.2)
   .let z':=(af oJ).symm.trans z;cases z';let[q,hq,rfl]:=dF.mp oJ;exact(hT q hq).2
   .let z':=(ag oJ).symm.trans z;cases z'
  .by_cases oJ:b∈tabs.map (·.2)
   .let[q,hq,rfl]:=dF.mp oJ;exact .inr #[q,hq,9]
   .let z':=(ag oJ).symm.trans z;cases z'
 |none=>
  let hif:∀b,b=a->(if b=a then 0 (HO.e7 { cls:=.type "list",data:=.seq vs.toArray }<|.lst<|ns.map V.int)else if b∈tabs.map (·.2)then 0 (.ic #[])else none)=0 (HO.e7 { cls:=.type "list",data:=.seq vs.toArray }<|.lst<|ns.map V.int):=λb hb=>af hb
  refine core (λb=>if b=a then 0 (.e7 { cls:=.type "list",data:=.seq vs.toArray }<|.lst<|ns.map V.int)else if b∈tabs.map (·.2)then 0 (.ic #[])else none) (.inl<|.inr #[{ cls:=.type "list",data:=.seq vs.toArray },af 9]) (λb u z=>?_) (λq hq=>(ag<|aT q hq).trans<|af<|CN hq) λb u z=>?_
  .by_cases hb:b=a
   .let z':=(af hb).symm.trans z;cases z';subst hb;exact#[ha,by rw[bH];exact hl,vs,_,rv,ha]
   .let z:=(ag hb).symm.trans z;by_cases oJ:b∈tabs.map (·.2)
    .let z':=(af oJ).symm.trans z;cases z';let[q,hq,rfl]:=dF.mp oJ;exact(hT q hq).2
    .let z':=(ag oJ).symm.trans z;cases z'
  .by_cases hb:b=a
   .let z':=(af hb).symm.trans z;cases z';exact .inl #[hb,hk,_,_,9]
   .let z:=(ag hb).symm.trans z;by_cases oJ:b∈tabs.map (·.2)
    .let[q,hq,rfl]:=dF.mp oJ;exact .inr #[q,hq,9]
    .let z':=(ag oJ).symm.trans z;cases z'
end
def abA{l:PySem.W.OpenLaw}{k:Nat}{q:Program}{yi:1 Str}{XP:(Str->7 5)->6 Heap}{YP:World->6 Heap}{d:DefRec}{K:Params->Frag}{sp:World->Sp}{tabs:World->5 Addr Addr}
  (hn:l.most=0 n) (JT:11 n) (AJ:d.params.defaults=[]) (hr:eU k callerA)
  (hY:∀(w:World)(h:Heap),YP w h->(K w.params).In h) (noT:∀w:World,PySem.W.noTabs (K w.params)=6)
  (hT:∀(w:World){Bh:ExcName->7 5}{lo:1 Str}{mg mb:Str->7 5}{h:Heap},Top q lo Bh mg mb h->(K w.params).In h->PySem.W.TabsAt (tabs w) h)
  (F:∀(w:World)(mg:Str->7 5)(fa:Addr)(h:Heap),(K w.params).In h->h.Ns mainGlobals mg->mg d.name=8 fa->
   ∃fd:FuncData,(∀(s:Shared)(u:Value),BindsTo s fd #[[u],[]] [(x,u)])/\
    ∀base:Heap,(K w.params).In base->base.Ns mainGlobals mg->uY mg base->(∀q∈tabs w,CodeHd base q.1 q.2)->bQ l.prog w (K w.params) mg base bX k fa fd [x] (sp w))
  (lj:∀(w:World)(H:Hp)(a:Addr)(ns:4),ns.length<=n->dv (K w.params) H a (ns.map V.int)->(∀q∈tabs w,H q.2=0 (.ic #[]))->sp w [3 a] H (λv _=>v=.bl 6) λ_ _ _=>False) :
  PySem.W.WalkO q yi XP YP l.row.toRowW d [] (λf vs=>PySem.call f vs):=by
 refine Att.Zi hn AJ λw s₀ s₁ mg mb fa o pm cd doc a vs ns G Y ho hd jk hmg IQ hints cW hg=>?_;let KX:=hY w _ Y;let[fd,hb,hF]:=F w mg fa _ KX G.T.g hmg;exact abv KX (noT w) (hT w G.T KX) G.T.g G.T.b G.T.builtins G.T.bmain G.T.nolimit hg IQ hints (eh cW JT) hr hF hb λH hS yR=>lj w H a ns cW hS yR
def pL(K:Frag)(x:Str):Addr×Addr:=(tabIn K x).getD (0,0)
def QL{K:Frag}(h:(tabIn K x).isSome=6):tabIn K x=0 (pL K x):=by
 unfold pL;cases e:tabIn K x with
 |none=>rw[e]at h;cases h
 |some q=>rfl
def tabs_nil:PySem.W.TabsAt [] h:=(λ_ hq=>nomatch hq)
def tabs_cons{q:Program}{lo:1 Str}{Bh:ExcName->7 5}{mg mb:Str->7 5}{K:Frag}{d:DefRec}{l:5 Addr Addr}(T:Top q lo Bh mg mb h)(X:K.In h)(hr:(recsOf q).find? (λe=>e.name==x)=0 d)
  (hs:(tabIn K x).isSome=6) (hl:PySem.W.TabsAt l h):PySem.W.TabsAt (pL K x::l) h:=(List.forall_mem_cons.mpr #[PySem.W.tab_of (c:=(pL K x).1) (P:=(pL K x).2) T X hr (QL hs),hl])
def lE(h:Heap)(a:Addr)(D:5 Str V):Prop:=KTD.TabOf (λ(v:V)(u:Value)=>RelV v u) h a D
noncomputable def QM:V->5->Bool
 | .cI,.none=>true
 | .bl b,.bool c=>b==c
 | .int i,.int j _=>i==j
 | .str x,.str y _=>x==y
 | .ref a,.ref b=>a==b
 |_,_=>false
def QN(v:V)(u:Value)(h:QM v u=6):RelV v u:=by
 cases v<;>cases u<;>first|exact Bool.noConfusion h|rfl|(let e:=beq_iff_eq.mp h;subst e;first|rfl|exact#[_,9])
noncomputable def vOf:5->V
 | .bool b=>.bl b
 | .int i _=>2 i
 | .str x _=>.str x
 | .ref a=>3 a
 |_=>.cI
def gN(K:Frag)(a:Addr):5 Str V:=match K.lookup a with
 |some ⟨_,_,.dict es _,_⟩=>es.toList.map λe=>((match e.key with | .str x _=>x|_ => ""),vOf e.val)
 |_=>[]
def pM(K:Frag)(a:Addr):Bool:=KTD.tabLook QM (λb=>K.lookup b) a<|gN K a
def D0{K:Frag}(X:K.In h)(e:pM K a=6):lE h a (gN K a):=(KTD.tab_of_look QN (λb o q=>X b o q) e)
def lE.typeIs{D:5 Str V}(T:lE s.heap a D):s.TypeIs (3 a) "dict":=by
 let[_,o,_,_,ho,hc,_]:=T;exact#[o,ho,hc.1]
def lE.noDict{D:5 Str V}(T:lE h a D):∀b,Value.ref a=3 b->∃ob,h.get? b=0 ob/\ob.dict=8:=(λb e=>by
 cases e;let[_,o,_,_,ho,hc,_]:=T;exact#[o,ho,hc.2.1])
section
variable{prog:Program}{w:World}{A:Around}{E:QV}{s:Shared}{a:Addr}{D:5 Str V}{x:Str}{tk:Tok}
def JU{Q:7 5->6 Shared}(T:lE s.heap a D)(h1:∀v u,KTD.datumAt x D=0 v->RelV v u->Q (0 u) { s with toks:=s.toks+1 })(h2:KTD.datumAt x D=8->Q 8 { s with toks:=s.toks+1 }) :
  15 prog w A (dictGet a<|.str x tk) Q E s:=by
 let[_,o,es,ep,ho,hc,hd,hr]:=T;let hal:(es.all λe=>isExactStrKey e.key)=6:=by
  let z:=hr.exact;obtain⟨l⟩:=es;simpa using z
 let hf:findBy (λk v=>v.isStr k) es x=(es.toList.find? λe=>e.key.isStr x).map (·.val):=by obtain⟨l⟩:=es;simp[findBy]
 let hq:Q (findBy (λk v=>v.isStr k) es x) { s with toks:=s.toks+1 }:=by
  rw[hf];cases e:KTD.datumAt x D with
  |none=>rw[hr.find_none e];exact h2 e
  |some v=>let[u,z1,z2]:=hr.find_some e;rw[z1];exact h1 v u e z2
 rw[findBy_of_findIdx?]at hq;unfold dictGet;refine aq (wpAny_pyHash_str<|aq<|KTD.kt_dictFind_strs (s:={ s with toks:=s.toks+1 }) ho hd hal ?_);cases e:es.findIdx? λe=>e.key.isStr x with
 |none=>rw[e]at hq;exact ao hq
 |some i=>rw[e]at hq;exact aq (wpAny_dictEntries (s:={ s with toks:=s.toks+1 }) ho hd (ao hq))
def kd_item{v:V}(T:lE s.heap a D)(hv:KTD.datumAt x D=0 v)(h:∀u,RelV v u->Q u { s with toks:=s.toks+1 }):15 prog w A (getItem (3 a)<|.str x tk) Q E s:=by
 unfold getItem
 try (with_reducible refine aC ?_)
 refine aq<|wpAny_sequenceKey T.typeIs 16 ?_;refine aq (aE (name:=4 "__getitem__") T.typeIs PySem.F.slot_dict_getitem (aF PySem.F.slot_dict_getitem T.typeIs PySem.F.entry_dict_getitem ?_<|PySem.F.args_dict_getitem_2 _ _));show wpAny _ _ (dictGet a (.str x tk) >>= _) _ _ s;exact aq (JU T (λv' u e r=>by rw[hv]at e;cases e;exact ao #[u,9,ao<|h u r]) λe=>by rw[hv]at e;cases e)
def abB(T:lE s.heap a D)(h:Q (.bool (KTD.datumAt x D).isSome) { s with toks:=s.toks+1 }):15 prog w A (compareOp .In (.str x tk)<|3 a) Q E s:=by
 show wpAny _ _ (do return .bool (<- contains (3 a) (.str x tk))) Q E s
 refine aq ?_;unfold contains
 try (with_reducible refine aC ?_)
 refine aq<|aL T.typeIs PySem.F.slot_dict_contains.lookup ?_;show wpAny _ _ (if(0 (Value.builtin "dict.__contains__")==0 Value.none)=6 then _ else _) _ _ s
 rw[ag 16];refine aq (wpAny_callSpecialUnlessNone?_slot (name:=4 "__contains__") T.typeIs PySem.F.slot_dict_contains (aF PySem.F.slot_dict_contains T.typeIs PySem.F.entry_dict_contains ?_<|PySem.F.args_dict_contains_2 _ _));show wpAny _ _ (dictGet a (.str x tk) >>= _) _ _ s;refine aq<|JU T (λv u e _=>?_) λe=>?_
 .rw[e]at h;exact(ao #[_,9,ai<|ao h])
 .rw[e]at h;show wpAny _ _ (Builtin.Dict.pendingKey? a (.str x tk) >>= _) _ _ _;exact aq<|wpAny_pendingKey_other T.1<|ao #[_,9,ai<|ao h]
def abC{dflt:Value}:MeetsIn prog w (Builtin.«dict.get» #[[3 a,.str x tk,dflt],[]]) (λ_ R s=>lE s.heap a D/\(∀v u,KTD.datumAt x D=0 v->RelV v u->R (.ok<|.ret u) { s with toks:=s.toks+1 })/\(KTD.datumAt x D=8->R (.ok<|.ret dflt) { s with toks:=s.toks+1 })):=(.of_wp λA₁ R s ⟨T,h1,h2⟩=>by
  show wpAny _ _ (dictGet a (.str x tk) >>= _) _ _ s;refine aq<|JU T (λv u e r=>ao #[u,9,h1 v u e r]) λe=>?_;show wpAny _ _ (Builtin.Dict.missed a (.str x tk) >>= _) _ _ _;exact aq<|wpAny_missed_other T.1<|ao #[dflt,9,h2 e])
def abD{dflt:Value}(T:lE s.heap a D)(h1:∀v u,KTD.datumAt x D=0 v->RelV v u->Q u { s with toks:=s.toks+1 })(h2:KTD.datumAt x D=8->Q dflt { s with toks:=s.toks+1 }) :
  15 prog w A (call (.builtin "dict.get") [3 a,.str x tk,dflt]) Q E s:=(call_meetsIn Hw T.typeIs PySem.F.entry_dict_get (PySem.F.args_dict_get_3 _ _ _) (abC (D:=D)) #[T,h1,h2])
end
section
variable{X:Cx}{o i e f:Expr}{pos jV iG:Pos}{td ty tx:TE}{a:Addr}{D:5 Str V}
def JV(a:Addr)(D:5 Str V)(td ty:TE):TE:=λσ H Q=>td σ H λu H1=>ty σ H1 λy H2=>∃x v,u=3 a/\y=.str x/\KTD.datumAt x D=0 v/\Q v H2
def QO(hT:∀h,X.K.In h->lE h a D)(ho:PE X o td)(hi:PE X i ty)(hs:JL i):PE X (.Subscript o i pos) (JV a D td ty):=by
 intro aZ s σ H Q I h;refine Qr PySem.F.slot_dict_getitem.lookup hs (bg (ho aZ s σ H _ I h) λu s1 ⟨x',H1,I1,rx,q1⟩=>bg (hi aZ s1 σ H1 _ I1 q1) λiv s2 ⟨y,H2,I2,ry,x,v,ex,ey,g,q2⟩=>?_);subst ex ey;obtain rfl:u=Value.ref a:=rx;let[tk,rfl]:=ry;exact#[(hT _ I2.gX).typeIs,kd_item (hT _ I2.gX) g λu r=>#[v,H2,I2.tok _,r,q2]]
def QP(a:Addr)(D:5 Str V)(ty td:TE):TE:=λσ H Q=>ty σ H λy H1=>td σ H1 λu H2=>∃x,u=3 a/\y=.str x/\Q (.bl (KTD.datumAt x D).isSome) H2
def abE(hT:∀h,X.K.In h->lE h a D)(hi:PE X i ty)(ho:PE X o td):PC X .In i o (QP a D ty td):=by
 intro aZ s σ H Q I h;refine bg (hi aZ s σ H _ I h) λiv s1 ⟨y,H1,I1,ry,q1⟩=>bg (ho aZ s1 σ H1 _ I1 q1) λu s2 ⟨x',H2,I2,rx,x,ex,ey,q2⟩=>?_;subst ex ey;obtain rfl:u=Value.ref a:=rx;let[tk,rfl]:=ry;exact abB (hT _ I2.gX) #[.bl _,H2,I2.tok _,9,q2]
def abF(a:Addr)(D:5 Str V)(td ty tx:TE):TE:=λσ H Q=>td σ H λu H1=>u=3 a/\ty σ H1 λy H2=>tx σ H2 λz H3=>∃x,y=.str x/\Q ((KTD.datumAt x D).getD z) H3
def QQ(hT:∀h,X.K.In h->lE h a D)(ho:PE X o td)(he:PE X e ty)(hf:PE X f tx)(m:M2 X o "get" jV e f iG):PE X (.Call (.Attribute o "get" jV) [e,f] [] iG) (abF a D td ty tx):=by
 intro aZ s σ H Q I h;refine wpAny_Call_method m.base m.jC m.line PySem.F.plainAttrs_dict Hw PySem.F.type_dict_get (bg (ho aZ s σ H _ I h) λu s1 ⟨x',H1,I1,rx,ex,q1⟩=>?_);subst ex;obtain rfl:u=Value.ref a:=rx;refine#[(hT _ I1.gX).typeIs,(hT _ I1.gX).noDict,?_];rw[m.trees];refine Calls.callWith_builtin 9 (Calls.evalArgs_plain<|Aa<|bg (he aZ s1 σ H1 _ I1 q1) λiv s2 ⟨y,H2,I2,ry,q2⟩=>Aa (bg (hf aZ s2 σ H2 _ I2 q2) λfv s3 ⟨z,H3,I3,rz,x,ey,q3⟩=>Calls.spliced_nil ?_));subst ey;let[tk,rfl]:=ry;refine abD (hT _ I3.gX) (λv u e r=>#[v,H3,I3.tok _,r,?_]) λe=>#[z,H3,I3.tok _,rz,?_]
 .rw[e]at q3;exact q3
 .rw[e]at q3;exact q3
end
def yS(hi:Int)(n:Nat):It:=#[λi _=>i<n,λi H x H'=>H'=H/\x=2 (hi-i),λi _=>n<=i]
theorem abG{P:Program}{w:World}{K:Frag}{tg:Expr}(it:Addr)(hi:Int)(n:Nat):Turn P w K tg (yS hi n) [it] it (λi h=>IsRangeIter h it (hi+(i:Nat)*(-1)) ((n:Int)-(i:Nat))<|-1) where
 mem:=by simp
 obj:=λi h st b hb=>by
  let e:b=it:=by simpa using hb
  subst e;refine#[_,st,λv z=>?_];cases(show Data.fields _=Data.cell v from z)
 keep:=λi h h' st k=>k it 17 _ st
 item:=by
  intro X hP hw hK hc i aZ s σ H E I hf st hg;subst hP hw hK;let[f0,f1,f2,f3,f4,f5]:=hf it 17;refine(Walks.range (prog:=X.prog) (w:=X.w) (I.ok.hd hc) it hi (-1) n).item i s _ _ hg st λv h' tk hv iN kk=>?_;let[t,rfl]:=hv;let I1:12 X σ H { s with heap:=h',toks:=tk }:=I.turned (λb o hb e=>kk b o (by simpa using hb) e) f0 f1 f3 f4 f5;refine#[_,9,vZ (s:={ s with heap:=h',toks:=tk }) (n := "range_iterator") iN 9 9 16 #[2<|hi-i,H,I1,#[t,?_],#[9,9],iN,λb hb=>(hf b hb).1]];rw[Int.mul_neg,Int.mul_one,Int.sub_eq_add_neg]
 done:=by
  intro X hP hw hK hc i aZ s σ H E I hf st hg;subst hP hw hK;let[f0,f1,f2,f3,f4,f5]:=hf it 17;exact wpAny_pyNext_range_end (I.ok.hd hc) st (by let:n<=i:=hg;lia) λh' eb=>#[9,I.turned (t':=s.toks) (λb o hb e=>eb b o hb e) f0 f1 f3 f4 f5]
 self:=λ_ _ _ _ _ st h=>wpAny_pyIter_rangeiter st h
def QR(h:-1<=i):Builtin.Range.rangeSize i (-1) (-1)=i+1:=by
 (unfold Builtin.Range.rangeSize)
 rw[ag 16];split
 .rw[show(-(-1):Int)=1 from 9,Int.ediv_one];lia
 .lia
def small_down(h:-1<=i)(h2:i<2^61):Builtin.Range.small i (-1) (-1)=6:=by
 unfold Builtin.Range.small;rw[QR h];simp only[Builtin.Range.rangeFitsLong,dM,Bool.or_eq_true,aK,beq_iff_eq];exact#[#[#[#[#[7,7],16,16],16,16],7,7],.inr 16]
section
variable{X:Cx}{tg:Expr}
def abH(ta:TA):TI:=λσ H R=>ta σ H λvs H1=>∃i:Int,vs=[2 i,2<|-1,2<|-1]/\(-1<=i/\i<2^61)/\R (yS i (i+1).toNat) H1
def abI{aZ:5 Addr Obj}{σ:St}{R:It->6 Hp}{E:QV}{t u v:Tok}{tk:Nat}(I:12 X σ H s)(h1:-1<=i)(h2:i<2^61)(q:R (yS i (i+1).toNat) H) :
  15 X.prog X.w X.A (pyIter<|3 22) (HW X aZ σ tg R) E { s with heap:=s.heap.push { cls:=.type "range",data:=.fields #[.int i t,.int (-1) u,.int (-1) v,] },toks:=tk }:=by
 refine wpAny_pyIter_range (IsRange.new ..) (small_down h1 h2) ?_;let I1:12 X σ H { s with heap:=s.heap.push { cls:=.type "range",data:=.fields #[.int i t,.int (-1) u,.int (-1) v,] },toks:=tk }:=I.kept λb o e=>dD _ e;generalize s.heap.push { cls:=.type "range",data:=.fields #[.int i t,.int (-1) u,.int (-1) v,] }=h3 at I1 |-;refine#[h3.objs.size,[h3.objs.size],_,_,H,9,I1.kept (t':=tk) λb o e=>dD _ e,abG _ i (i+1).toNat,?_,λb hb=>?_,q]
 .show IsRangeIter _ _ (i+((0:Nat):Int)*(-1)) ((((i+1).toNat:Nat):Int)-((0:Nat):Int)) (-1);rw[show i+((0:Nat):Int)*(-1)=i by simp,show(((i+1).toNat:Nat):Int)-((0:Nat):Int)=Builtin.Range.rangeSize i (-1) (-1) by rw[QR h1];lia];exact gp _ 9
 .let e:b=h3.objs.size:=by simpa using hb
  subst e;exact I1.nL (ck _)<|I1.cf.fresh<|ck _
def abJ{a b c:Expr}{ta:TA}{p pos:Pos}(hg:Gl X "range")(hm:X.mg "range"=8)(ha:PA X [a,b,c] ta)(hs:starEach [a,b,c] X.env=(false,eval a X.env)::starEach [b,c] X.env:=by rfl)(pG:(backTo pos<|starEach [b,c] X.env).any (·.1)=false:=by rfl) :
  PI X tg (.Call (.Name "range" p) [a,b,c] [] pos) (abH ta):=by
 intro aZ s σ H R I h;refine Call_<|sV I hg hm boot_range<|zZ (bg (ha pos aZ s σ H _ I h) λus s1 ⟨vs,H1,I1,r1,q1⟩=>?_) hs pG;let[i,e,[q1,q2],q]:=q1;subst e;cases r1 with
 |cons r rr=>
  cases rr with
  |cons r' rr=>
   cases rr with
   |cons r2 rr=>
    cases rr;let[t,rfl]:=r;let[t',rfl]:=r';let[t2,rfl]:=r2;exact call_range_3 16 (abI I1 q1 q2 q)<|Or.inl<|PyProof.noPylong_small 7
end
def abK{hi:Int}{g:TG}{tb:TS}{D:Ends}{σ:St}(Pv:Nat->St->6 Hp)(h0:Pv 0 σ H)
  (hs:∀i σ H,i<n->Pv i σ H->g (2<|hi-(i:Nat)) σ H λσ2 H2=>tb { D with nx:=Pv (i+1),ct:=Pv (i+1),bk:=D.nx } σ2 H2) (hd:∀σ H,Pv n σ H->D.nx σ H) :
  ∃W:Nat->Nat->St->6 Hp,(∃m,W 0 m σ H)/\∀i m σ H,W i m σ H->
   ((yS hi n).stop i H/\D.nx σ H)\/((yS hi n).go i H/\∃N:St->6 Hp,(∀σ' H',N σ' H'->∃m',m'<m/\W (i+1) m' σ' H')/\∀x H',(yS hi n).pB i H x H'->g x σ H' λσ2 H2=>tb { D with nx:=N,ct:=N,bk:=D.nx } σ2 H2):=by
 refine#[λi m σ H=>m=n-i/\i<=n/\Pv i σ H,#[n,17,iL _,h0],?_];rintro i m σ H ⟨rfl,iu,p⟩;by_cases cX:i<n
 .exact .inr #[cX,Pv<|i+1,λσ' H' p'=>#[n-(i+1),7,9,cX,p'],λx H' ⟨z1,z2⟩=>by subst z1 z2;exact hs i σ _ cX p]
 .let e:i=n:=by lia
  subst e;exact .inl #[ck _,hd σ H p]
def yT(cp:St)(P:Hp->6 (1 V)):St->Hp->6 (1 V):=λσ H zs=>(∃o:St,o.length=1/\σ=o++cp)/\P H zs
def yT.mk{cp:St}{P:Hp->6 (1 V)}{x:7 V}{zs:1 V}(h:P H zs):yT cp P (x::cp) H zs:=(#[#[[x],9,9],h])
def abL{cp:St}{te:TE}{Q:VK}{H1:Hp}{lo:Int}(Pv:Nat->Hp->6 (1 V))(hz:11 n)(h0:Pv 0 H1 [])(cW:∀i H zs,Pv i H zs->zs.length<=i)
  (step:∀i H zs,i<n->Pv i H zs->te (0 (2<|lo+(i:Nat))::cp) H λv H5=>yT cp (Pv<|i+1) (0 (2<|lo+(i:Nat))::cp) H5 (zs++[v])) (done:∀H zs,Pv n H zs->∀p,H p=8->Q (3 p) (9 H p zs)) :
  ∃W:Nat->Nat->St->Hp->6 (1 V),(∃m,W 0 m (16 1 8++cp) H1 [])/\mz (uF lo n) (cg 0) lV te Q W:=by
 refine#[λi m σ H zs=>m=n-i/\i<=n/\yT cp (Pv i) σ H zs,#[n,17,iL _,#[_,17,9],h0],?_];rintro i m σ H zs ⟨rfl,hi,⟨o,ho,rfl⟩,pv⟩;let hl:=cW _ _ _ pv;by_cases cX:i<n
 .refine .inr #[cX,7,yT cp<|Pv<|i+1,λσ2 H2 lZ q=>#[n-(i+1),7,9,cX,q],λx H2 y=>?_];let[z,rfl]:=AQ ho;let[rfl,rfl]:=y;exact step i _ zs cX pv
 .let e:i=n:=by lia
  subst e;exact .inl #[ck _,7,done H zs pv]
def eI(H H':Hp):Prop:=∀b o,H b=0 o->((∃xs,o=.tup xs)\/∃ob u,o=.e7 ob u)->H' b=0 o
def eI.trans{H1 H2:Hp}(a:eI H H1)(b:eI H1 H2):eI H H2:=(λc o h k=>b c o (a c o h k) k)
def bc.tup(s:bc H H'):eI H H':=(λb o h _=>s b o h)
def eI.upd{H:Hp}{a:Addr}{o:HO}(h:∀u,H a=0 u->(∃xs,u=.lst xs)\/∃ba,u=.dK ba):eI H (upd H a o):=(λb u e k=>by
 let ne:b≠a:=λz=>by
  subst z;rcases h u e with⟨xs,rfl⟩|⟨ba,rfl⟩<;>rcases k with⟨_,z⟩|⟨_,_,z⟩<;>cases z
 rw[cF ne];exact e)
def eI.lst{H:Hp}{a:Addr}{xs:1 V}{o:HO}(h:H a=13 xs):eI H (L2.upd H a o):=(eI.upd λu e=>.inl #[xs,by rw[h]at e;exact(dJ e).symm])
def eI.Bi{ba:5 Key V}{o:HO}(h:H a=0 (.dK ba)):eI H (L2.upd H a o):=(eI.upd λu e=>.inr #[ba,by rw[h]at e;exact(dJ e).symm])
def eI.bK{K:Frag}{xs:1 V}(e:eI H H')(h:bu K H a xs):bu K H' a xs:=by
 rcases h with h|h
 .refine .inl ?_;rcases h with h|⟨o,h⟩
  .exact .inl<|e _ _ h<|.inl #[xs,9]
  .exact .inr #[o,e _ _ h<|.inr #[o,_,9]]
 .exact .inr h
def bc.put{o:HO}(s:bc H H')(h:H a=8):bc H (L2.upd H' a o):=(λb u e=>by
 rw[cF (ig e h)];exact s b u e)
structure pN(P:Program)(w:World)(K:Frag)(mg:Str->7 5)(base:Heap)(k:Nat)(s:Shared)(H:Hp)(f:Addr)(R:1 V->Hp->6 VK):Prop where
 here:(∃φ:6 Heap,H f=0 (.ext φ)/\∀h,φ h->PySem.W.FnAt f h)\/∀h,K.In h->PySem.W.FnAt f h
 run:∀(A:Around)(outer:1 Env)(s':Shared)(H':Hp)(vs:1 V)(us:1 5)(Q:VK),eU k A->x9 P w K mg base A outer s' H'->bc H H'->
  (∀c o,s.heap.get? c=0 o->H c=8->H' c=8/\∃sl,s'.heap.get? c=0 { o with slots:=sl })->Vals vs us->R vs H' Q->codeAny (model P w) A (.call (3 f) #[us,[]]) (CR bX outer P w H' s' Q E0) s'
def pN.QS{P:Program}{w:World}{K:Frag}{mg:Str->7 5}{base:Heap}{k:Nat}{sp:Sp}(F:bQ P w K mg base bX k f fd ps sp)(G:cL K x qual st f fd)(hb:Binds K fd ps []) :
  pN P w K mg base k s H f (λvs H' Q=>sp vs H' Q E0):=by
 refine#[.inr λh X=>?_,λA outer s' H' vs us Q hr e0 _ _ r q=>?_]
 .let[oc,od,kV,doc,pm,an,cq,ct,pC,rfl,lk,_]:=G.ex;exact#[_,_,_,_,X _ _ lk]
 .let KX:K.In s'.heap:=e0.mod.vV.keeps λb o e=>(e0.bs b o e).1;let hl:us.length=ps.length:=by rw[<- r.length];exact F.len _ _ _ _ q
  let wM:=hb s' us KX (by rw[iV];exact hl);rw[iV]at wM;exact F.run A outer s' H' #[us,[]] us vs Q E0 hr e0 wM r q
section
variable{X:Cx}{k:Nat}{f:Addr}{x:Str}{p pos:Pos}{e:Expr}{es:1 Expr}{t:TA}{R:1 V->Hp->6 VK}
def abM{i:Nat}(L:pN X.prog X.w X.K X.mg X.base k X.s₀ X.H₀ f R)(hr:eU k X.A)(hex:X.ex=[])(hN:X.N[i]?=0 x)(hv:xU X.env.scope x)(ha:PA X (e::es) t)
  (hd:(x==("__debug__":Str))=false:=by decide) (jk:(x==("__classdict__":Str))=false:=by decide) (he:starEach (e::es) X.env=(false,eval e X.env)::starEach es X.env:=by rfl) (mw:(backTo pos<|starEach es X.env).any (·.1)=false:=by rfl) :
  PE X (.Call (.Name x p) (e::es) [] pos) (λσ H Q=>σ[i]?=0 (8 f)/\bc X.H₀ H/\t σ H λvs H1=>bc X.H₀ H1/\R vs H1 Q):=by
 intro aZ s σ H Q I #[hσ,sm,h];let QT:∀{σ:St}{H1:Hp}{s1:Shared},12 X σ H1 s1->bc X.H₀ H1->PySem.W.FnAt f s1.heap:=λI1 pO=>by
  rcases L.here with⟨φ,hφ,Aq⟩|z
  .exact Aq _ (I1.cf f _<|pO _ _ hφ).1
  .exact z _ I1.gX
 refine au (bg (NW hN hv hd jk aZ s σ H (λv H1=>v=3 f/\H1=H) I #[_,hσ,9,9]) λu s1 ⟨v,H1,I1,r,e1,e2⟩=>?_);subst e1 e2;cases r;refine PySem.W.callWith_F (QT I1 sm) (bg (ha pos aZ s1 σ H1 _ I1 h) λus s2 ⟨vs,H2,I2,rv,oK,hq⟩=>#[QT I2 oK,?_]) he mw;refine wpAny_call<|codeAny_mono (L.run X.A X.stack s2 H2 vs us Q hr I2.Ip oK (λc o hc hn=>?_) rv hq) λr s' hq=>?_
 .let Bj:c ∉ X.ex:=by rw[hex];simp
  exact#[I2.base.free c o hc hn Bj,I2.base.any hc hn Bj]
 cases r with
 |error e=>exact False.elim hq
 |ok fl=>
  cases fl with
  |ret u=>exact I2.after hq
  |next=>exact False.elim hq
  |brk=>exact False.elim hq
  |cont=>exact False.elim hq
end
def tR(K:Frag)(hK:X.K=K){o:Expr}{to:TE}{jV iG:Pos}(ho:PE X o to)(AE:attributeBase o "pop" X.env (eval o X.env)=eval o X.env:=by rfl)(AF:(jV.endLine==iG.line)=6:=by rfl) :
  PE X (.Call (.Attribute o "pop" jV) [] [] iG) (AD K "list" Di to):=(hK▸OJ lR PySem.F.slot_list_pop PySem.F.type_list_pop Y9 ho AE AF)
end L2
namespace Bw
def abN{p a b:Int}(h:p∣a)(k:p∣a-b):p∣b:=by
 let:=Int.dvd_sub h k
 rwa[show a-(a-b)=b by lia]at this
structure D3(p:Int)(L L':LL):Prop where
 to:∀r∈L,Sp p (RS L') (fn r)
 fro:∀r∈L',Sp p (RS L) (fn r)
section
variable{p:Int}{n:Nat}{L L' L'':LL}
def qy(h:∀r∈L,Sp p (RS L') (fn r)){v:Fn}(hv:Sp p (RS L) v):Sp p (RS L') v:=(hv.trans λf hf=>by
 let[r,hr,rfl]:=hf;exact h r hr)
def u7{r:4}(h:r∈L):Sp p (RS L) (fn r):=(.mem #[r,h,9])
def D3.red(hp:p∈cM)(hL:cC p n L)(JD:cC p n L')(h:D3 p L L'):eQ p L=eQ p L':=(aaX hp hL JD h.to h.fro)
end
end Bw
namespace S21
open PySem L2 Bw
variable{A B:Prop}{H:Hp}{d e:Dat}
def top(i:Nat):Stmt:=PySem.Challenge.pw_bentwires_k53_whole_moves_keep.main.body.getD i<|.Pass #[0,0,0,0]
noncomputable abbrev Bk:Stmt:=top 06
noncomputable abbrev tT:Stmt:=top 07
noncomputable abbrev Bl:Stmt:=top 08
noncomputable abbrev yU:Stmt:=top 09
noncomputable abbrev D4:Stmt:=top 10
noncomputable abbrev D5:Stmt:=top 11
noncomputable abbrev D6:Stmt:=top 017
noncomputable abbrev JW:Stmt:=top 018
noncomputable abbrev D7:Stmt:=top 019
noncomputable abbrev JX:Stmt:=top 20
noncomputable abbrev D8:Stmt:=top 021
noncomputable abbrev JY:Stmt:=top 022
noncomputable abbrev D9:Stmt:=top 023
noncomputable abbrev JZ:Stmt:=top 024
noncomputable abbrev Ea:Stmt:=top 25
noncomputable abbrev J0:Stmt:=top 30
noncomputable abbrev Eb:Stmt:=top 31
noncomputable abbrev J1:Stmt:=top 32
noncomputable abbrev J2:Stmt:=top 33
noncomputable abbrev J3:Stmt:=top 34
noncomputable abbrev J4:Stmt:=top 35
noncomputable abbrev J5:Stmt:=top 36
noncomputable abbrev J6:Stmt:=top 39
noncomputable abbrev md:Stmt:=top 40
noncomputable abbrev J7:Stmt:=top 41
noncomputable abbrev J8:Stmt:=top 42
noncomputable abbrev Ec:Stmt:=top 43
noncomputable abbrev Bm:Stmt:=top 44
noncomputable abbrev Ed:Stmt:=top 45
noncomputable abbrev Bn:Stmt:=top 46
noncomputable abbrev J9:Stmt:=top 48
noncomputable abbrev Ka:Stmt:=top 49
noncomputable abbrev Kb:Stmt:=top 53
noncomputable abbrev tU:Stmt:=top 54
noncomputable abbrev Ee:Stmt:=top 55
noncomputable abbrev Ef:Stmt:=top 56
noncomputable abbrev Kc:Stmt:=top 57
noncomputable abbrev yV:Stmt:=top 58
noncomputable abbrev Kd:Stmt:=top 59
noncomputable abbrev Eg:Stmt:=top 60
noncomputable abbrev Eh:Stmt:=top 61
noncomputable abbrev Ke:Stmt:=top 62
noncomputable abbrev Kf:Stmt:=top 63
noncomputable abbrev Kg:Stmt:=top 64
noncomputable abbrev Kh:Stmt:=top 65
noncomputable abbrev Ki:Stmt:=top 66
noncomputable abbrev tV:Stmt:=top 67
def jE:11 (1000:Nat):=by decide
def zL2:11 (2000:Nat):=by decide
structure Txt(mg:Str->7 5):Prop where
 range:mg "range"=8
 zip:mg "zip"=8
 tuple:mg "tuple"=8
 list:mg "list"=8
 int:mg "int"=8
 bool:mg "bool"=8
 isinstance:mg "isinstance"=8
 len:mg "len"=8
 sum:mg "sum"=8
 max:mg "max"=8
 min:mg "min"=8
 aiQ:mg "enumerate"=8
 any:mg "any"=8
 all:mg "all"=8
 str:mg "str"=8
def Bo{r:4}{j:Nat}(h:j<r.length):r[j]?=0 (14 j):=by
 rw[cD h,dG,cD h];rfl
def tW{r:4}{j:Nat}(h:j<r.length):(r.map V.int)[j]?=0 (2<|14 j):=by
 rw[dR,Bo h];rfl
def tX{c:Prop} [Decidable c] (h1:¬c->A) (h2:c->B):if(! decide c)=6 then A else B:=by
 by_cases h:c
 .exact Zj h<|h2 h
 .rw[ae h];exact fw<|h1 h
section
variable{K:Frag}
def wN{RS:1 V}{rs:LL}{i:Nat}{x:V}(hA:cy K H RS (rs.map dB))(hx:RS[i]?=0 x):∃r a,rs[i]?=0 r/\x=3 a/\bu K H a (r.map V.int):=by
 let[d,hd,e9]:=hA.get hx;rw[dR]at hd;cases e:rs[i]? with
 |none=>rw[e]at hd;cases hd
 |some r=>
  rw[e]at hd;cases hd;let[a,rfl,ha]:=PJ e9;exact#[r,a,9,9,ha]
def jr{RS:1 V}{rs:LL}(hA:cy K H RS (rs.map dB)):RS.length=rs.length:=by rw[hA.length,bH]
end
open Classical in
def abO(h:d≠e)(b:A):if(if 6=6 then ! decide (d=e)else decide (d=e))=6 then A else B:=by
 simp only[if_true,ae h,Bool.not_false];exact b
open Classical in
def abP(h:d≠e)(b:B):if(if false=6 then ! decide (d=e)else decide (d=e))=6 then A else B:=by
 simp only[xI,if_false,ae h];exact b
def abQ{s1 s2:TS}{D:Ends}{σ:St}(J:St->6 Hp)(h:∀N:St->6 Hp,(∀σ H,J σ H->N σ H)->s1 { D with nx:=N } σ H)(hr:∀σ H,J σ H->s2 D σ H):cR s1 s2 D σ H:=(h _ hr)
def fj{H':Hp}{l:Addr}(e:bc H H')(h:H' l=8):H l=8:=by
 cases q:H l with
 |none=>rfl
 |some o=>rw[e _ _ q]at h;cases h
open Classical in
def Kj(h:d=e)(b:A):if(if false=6 then ! decide (d=e)else decide (d=e))=6 then A else B:=by
 rw[aaF h];exact fw b
def yX(rs:LL):kqdOk 08 (.tuple<|rs.map dB)=6:=by
 show(rs.map dB).all (kqdOk 07)=6;exact aaH 06 rs
theorem Kk{p:Int}{n:Nat}{L:LL}:∀k,(jo p n L k).1.length<=k/\(jo p n L k).2.length=L.length
 |0=>#[ck _,9]
 |k+1=>by
  let[h1,h2]:=Kk (p:=p) (n:=n) (L:=L) k;rw[jo];unfold wJ;split
  .exact#[7,h2]
  .constructor
   .show(_++[_]).length<=_;rw[cb,bH,List.length_singleton];lia
   .show(List.map _ _).length=_;rw[bH];exact h2
def Ei{p:Int}{n:Nat}{L:LL}(h:cC p n L):(eQ p L).length<=n:=by
 by_cases c8:L=[]
 .subst c8;exact iL _
 .let:=(Kk (p:=p) (n:=tM L) (L:=L) (tM L)).1
  rw[DQ h c8]at this;unfold eQ;rw[DQ h c8];exact this
end S21
namespace Bw
variable{D L T:LL}{h:4}{n:Nat}{p:Int}
def iI(p:Int)(k:Nat)(h row:4):4:=iC p row (-(row.getD k 0)) h
def abR{k:Nat}{row:4}(p0:0<p)(hh:Rw p n h)(hr:Rw p n row):iI p k h row=fb p h k row:=by
 unfold iI fb;split
 .rfl
 .rename_i h0
  let h0:row.getD k 0=0:=by simpa using h0
  refine(AX _ p0 hr.1 hh.1).ext p0 hr λj=>?_;rw[AW _ hr.1 hh.1,h0];split
  .let:=pH p<|row.getD j 0 + -0*h.getD j 0
   rwa[show row.getD j 0 + -0*h.getD j 0=row.getD j 0 by simp]at this |-
  .rw[hr.out 7];exact#[0,17]
def QU{a b x:Int}(p0:0<p)(ha:a*x%p=1)(hb:b*x%p=1)(a0:0<=a)(a1:a<p)(b0:0<=b)(b1:b<p):a=b:=by
 refine P4 ?_ a0 a1 b0 b1;let[u,hu]:=pH p<|a*x;let[v,hv]:=pH p<|b*x;rw[ha]at hu;rw[hb]at hv;exact#[a*v-b*u,by grind]
def abS{c:Int}{k:Nat}(hp:p∈cM)(hh:Rw p n h)(h0:h.getD k 0≠0)(c0:1<=c)(c1:c<p)(hc:c*h.getD k 0%p=1):(h.map λx=>x*c%p)=eW p n h k:=by
 let p0:0<p:=by let:=gK p hp;lia
 let b:=hh.at p0 k;let[t1,t2,t3]:=yH hp (show 1<=h.getD k 0 by lia) b.2;let e:=QU p0 hc t3 7 c1 7 t2;let r1:Rw p n (h.map λx=>x*c%p):=#[by simp[hh.1],λx hx=>by
  let[y,_,rfl]:=dF.mp hx;exact#[rh _ 7,ri _ p0]]
 refine r1.ext p0 (AZ p0 hh) λj=>?_;rw[AY hh,<- e];by_cases hj:j<n
 .rw[af hj,Qk hh.1 hj];exact#[0,7]
 .rw[ag hj,r1.out 7];exact#[0,17]
def drop_zero{k:Nat}{A B:LL}{z:4}(I:jZ p n L k (D,A++z::B))(hz:∀j,z.getD j 0=0):jZ p n L k (D,A++B):=by
 let sub:∀r,r∈A++B->r∈A++z::B:=λr hr=>by
  rcases eB.mp hr with h|h<;>simp[h]
 refine#[I.d,λr hr=>I.r r<|sub r hr,λr hr=>I.z r<|sub r hr,I.km,λr hr=>I.sub r ?_,λr hr=>(I.sup r hr).trans λf hf=>?_]
 .rcases(eB.mp hr)with(h|h)
  .exact o8 _ h
  .exact ji _<|sub r h
 .let[q,hq,rfl]:=hf;rcases(eB.mp hq)with(h|h)
  .exact .mem #[q,o8 _ h,9]
  .rcases(eB.mp h)with(h|h)
   .exact .mem #[q,ji _<|o8 _ h,9]
   .rcases(eK.mp h)with(rfl|h)
    .exact Sp.zero.of_eq λj=>(hz j).symm
    .exact .mem #[q,ji _<|ji _ h,9]
def jZ.skip{k:Nat}(I:jZ p n L k (D,T))(h:∀r∈T,14 k=0):jZ p n L (k+1) (D,T):=by
 let[ls,E]:=I.km;exact#[I.d,I.r,λr hr j hj=>by
  by_cases e:j=k
  .subst e;exact h r hr
  .exact I.z r hr j 7,#[ls,E.len,E.up,λl hl=>Nat.lt_succ_of_lt<|E.lt l hl,E.one,E.alone],I.sub,I.sup]
def jZ.head{k i:Nat}(hp:p∈cM)(hk:k<n)(I:jZ p n L k (D,T))(hi:T[i]?=0 h)(h0:h.getD k 0≠0)(hf:∀j q,j<i->T[j]?=0 q->q.getD k 0=0) :
  jZ p n L (k+1) (D.map (fb p (eW p n h k) k)++[eW p n h k],(T.eraseIdx i).map (fb p (eW p n h k) k)):=by
 let p0:0<p:=by let:=gK p hp;lia
 let il:=(eA.mp hi).1;let hT:T=T.take i++h::T.drop (i+1):=by
  let hd:T.drop i=h::T.drop (i+1):=by rw[Hy il,(eA.mp hi).2]
  rw[<- hd,List.take_append_drop]
 let Ej:Rw p n h:=I.r h<|dS hi;let Kl:T.filter (λr=>14 k≠0)=h::(T.drop<|i+1).filter λr=>14 k≠0:=by
  rw(occs:=.pos [1]) [hT];rw[List.filter_append,List.filter_cons_of_pos (by simpa using h0),List.filter_eq_nil_iff.mpr]
  .rfl
  .intro q hq;let[j,hj,rfl]:=uC.mp hq;let hj':j<i:=by rw[cV]at hj;lia
   let:=hf j _ hj' (by rw[cD 7])
   rw[List.getElem_take];simpa using this
 let S:=Qa hp (show k+1<=n by lia) I;unfold wJ at S;dsimp only at S;rw[Kl]at S;dsimp only at S;let l8:=AZ (place:=k) p0 Ej;let b:=Ej.at p0 k;let[t1,t2,t3]:=yH hp (show 1<=h.getD k 0 by lia) b.2;let zc:∀j,(fb p (eW p n h k) k h).getD j 0=0:=λj=>by
  unfold fb;rw[af h0,AW _ Ej.1 l8.1];split
  .rename_i hj
   apply Int.emod_eq_zero_of_dvd;rw[AY Ej,af hj];let[u,hu]:=pH p<|h.getD j 0*dN p (h.getD k 0);let[v,hv]:=pH p<|dN p (h.getD k 0)*h.getD k 0;rw[t3]at hv;exact#[h.getD j 0*v-h.getD k 0*u,by grind]
  .rfl
 let e1:(T.eraseIdx i).map (fb p (eW p n h k) k)=(T.take i).map (fb p (eW p n h k) k)++(T.drop<|i+1).map (fb p (eW p n h k) k):=by
  rw[List.eraseIdx_eq_take_drop_succ,eC]
 let e2:T.map (fb p (eW p n h k) k)=(T.take i).map (fb p (eW p n h k) k)++fb p (eW p n h k) k h::(T.drop<|i+1).map (fb p (eW p n h k) k):=by
  rw(occs:=.pos [1]) [hT];rw[eC,ib]
 rw[e2]at S;rw[e1];exact drop_zero S zc
def jZ.start(hL:cC p n L):jZ p n L 0 ([],L):=(#[λr hr=>(nomatch hr),hL,λr _ j hj=>absurd hj 7,#[[],9,.nil,17,17,17],λr hr=>.mem #[r,hr,9],λr hr=>.mem #[r,hr,9]])
def jZ.done(hp:p∈cM)(hL:cC p n L)(I:jZ p n L n (D,T)):D=eQ p L:=by
 let sup:∀r∈L,Sp p (RS D) (fn r):=λr hr=>(I.sup r hr).trans λf hf=>by
  let[r0,h0,rfl]:=hf;rcases(eB.mp h0)with(h0|h0)
  .exact .mem #[r0,h0,9]
  .exact(Sp.zero).of_eq λj=>(Qe (I.r r0 h0) (I.z r0 h0) j).symm
 let R:=lD hp hL;let[ls,E]:=I.km;let[ms,EM]:=R.km;exact E.unique hp EM I.d R.rws (λr hr=>qy R.sup<|I.sub r<|o8 _ hr) λr hr=>qy sup<|R.sub r hr
def jZ.len{p:Int}{n k:Nat}{L D T:LL}(I:jZ p n L k (D,T))(hk:k<=n):D.length<=k:=by
 let[ls,E]:=I.km
 let:=aa1 (n:=k) E.up E.lt
 let e:ls.length=D.length:=E.len;lia
section
variable{p:Int}{n:Nat}
end
end Bw
namespace D1
open Bw
variable{a b p:Int}
inductive Dr where
 |id|swap|copy|fin|add|none|fZ|empty
 |times (n:Int)
 |back (d:Dr)
 |bo (a b:Dr)
 |bg (a b:Dr)
namespace Dr
noncomputable def cE:Dr->Nat×Nat
 |id=>(1,1)|swap=>(2,2)|copy=>(1,2)|fin=>(1,0)|add=>(2,1)|none=>(0,1)|fZ=>(0,2)|empty=>(0,0)
 |times _=>(1,1)
 |back d=>(d.cE.2,d.cE.1)
 |bo a b=>(a.cE.1+b.cE.1,a.cE.2+b.cE.2)
 |bg a b=>(a.cE.1,b.cE.2)
noncomputable abbrev l(d:Dr):Nat:=d.cE.1
noncomputable abbrev r(d:Dr):Nat:=d.cE.2
def wf(p:Int):6 Dr
 |times n=>0<=n/\n<p
 |back d=>d.wf p
 |bo a b=>a.wf p/\b.wf p
 |bg a b=>a.wf p/\b.wf p/\a.r=b.l
 |_=>True
end Dr
def sh(k:Nat)(f:Fn):Fn:=λj=>f<|k+j
def eq(p a b:Int):Prop:=p∣a-b
def eq.refl(p a:Int):eq p a a:=(#[0,7])
def eq.symm(h:eq p a b):eq p b a:=by
 let:=Int.dvd_neg.mpr h
 show p∣b-a;rwa[show -(a-b)=b-a by lia]at this
def eq.trans{c:Int}(h:eq p a b)(k:eq p b c):eq p a c:=by
 let:=sM h k
 show p∣a-c;rwa[show a-b+(b-c)=a-c by lia]at this
def eq.add{c d:Int}(h:eq p a b)(k:eq p c d):eq p (a+c) (b+d):=by
 let:=sM h k
 show p∣_;rwa[show a-b+(c-d)=a+c-(b+d) by lia]at this
def fX(p:Int):Dr->Fn->6 Fn
 | .id,x,y=>eq p (y 0) (x 0)
 | .swap,x,y=>eq p (y 0) (x 1)/\eq p (y 1) (x 0)
 | .copy,x,y=>eq p (y 0) (x 0)/\eq p (y 1) (x 0)
 | .fin,_,_=>True
 | .add,x,y=>eq p (y 0) (x 0+x 1)
 | .none,_,y=>eq p (y 0) 0
 | .fZ,_,y=>eq p (y 1) (y 0)
 | .empty,_,_=>True
 | .times n,x,y=>eq p (y 0) (n*x 0)
 | .back d,x,y=>fX p d y x
 | .bo a b,x,y=>fX p a x y/\fX p b (sh a.l x) (sh a.r y)
 | .bg a b,x,y=>∃z,fX p a x z/\fX p b z y
end D1
namespace D1
open Bw
noncomputable def fK:4->Fn->Int
 | [],_=>0
 |a::r,x=>a*x 0+fK r (sh 1 x)
theorem QW:∀(r s:4)(x:Fn),fK (r++s) x=fK r x+fK s (sh r.length x)
 | [],s,x=>by
  show fK s x=0+fK s (sh 0 x);rw[lQ,show sh 0 x=x from funext λj=>by unfold sh;rw[lP]]
 |a::r,s,x=>by
  show a*x 0+fK (r++s) (sh 1 x)=a*x 0+fK r (sh 1 x)+fK s (sh (r.length+1) x);rw[QW r s,show sh r.length (sh 1 x)=sh (r.length+1) x from funext λj=>by unfold sh;rw[show 1+(r.length+j)=r.length+1+j by lia]]
  lia
theorem Km:∀(r:4)(x:Fn),(∀a∈r,a=0)->fK r x=0
 | [],_,_=>rfl
 |a::r,x,h=>by
  show a*x 0+fK r (sh 1 x)=0;rw[h a du,Km r _ λb hb=>h b (gq _ hb)];simp
def abT{p:Int}{bh:LL}{f:Fn}:Sp p (RS bh) f↔∃z:Fn,∀j,eq p (f j) (fK (bh.map λr=>14 j) z):=by
 constructor
 .intro h;induction h with
  |zero=>exact#[λ_=>0,λj=>by
    let:∀(l:4),fK l (λ_=>0)=0:=λl=>by
     induction l with
     |nil=>rfl
     |cons a l ih=>show a*0+fK l (sh 1 λ_=>0)=0;rw[show sh 1 (λ_=>(0:Int))=λ_=>0 from 9,ih];simp
    rw[this];exact .refl _ _]
  | @add v r c _ hr ih=>
   let[z,hz]:=ih;let[q,hq,rfl]:=hr;let[i,hi,rfl]:=uC.mp hq;refine#[λk=>z k+if k=i then c else 0,λj=>?_]
   let abU:∀(l:4)(i:Nat)(hi:i<l.length)(z:Fn),fK l (λk=>z k+if k=i then c else 0)=fK l z+c*l[i]:=λl=>by
    induction l with
    |nil=>intro i hi;exact absurd hi 17
    |cons a l ih=>
     intro i hi z;cases i with
     |zero=>
      show a*(z 0+if 0=0 then c else 0)+fK l (sh 1 λk=>z k+if k=0 then c else 0)=a*z 0+fK l (sh 1 z)+c*a
      rw[show(sh 1 λk=>z k+if k=0 then c else 0)=sh 1 z from funext λk=>by unfold sh;dsimp only;rw[ag 7];simp]
      simp only[if_true,Int.mul_add];rw[vS a c];lia
     |succ i=>
      let iu:i<l.length:=by simpa using hi
      show a*(z 0+if 0=i+1 then c else 0)+fK l (sh 1 λk=>z k+if k=i+1 then c else 0)=a*z 0+fK l (sh 1 z)+c*l[i]
      rw[show(sh 1 λk=>z k+if k=i+1 then c else 0)=λk=>sh 1 z k+if k=i then c else 0 from funext λk=>by
       unfold sh;dsimp only;by_cases e:k=i
       .rw[af e,af 7]
       .rw[ag e,ag 7],ih i iu]
      simp;lia
   rw[abU _ i (by rw[bH];exact hi),List.getElem_map];show eq p (v j+c*(bh[i]).getD j 0) _;exact(hz j).add<|.refl _ _
  |ir _ e ih=>
   let[z,hz]:=ih;exact#[z,λj=>eq.trans (eq.symm<|e j)<|hz j]
 .rintro⟨z,hz⟩;let key:∀(L:LL)(z:Fn),(∀r∈L,r∈bh)->Sp p (RS bh) (λj=>fK (L.map λr=>14 j) z):=λL=>by
   induction L with
   |nil=>intro z _;exact .zero
   |cons r L ih=>
    intro z hL;let h1:=ih (sh 1 z) λq hq=>hL q<|gq _ hq;refine(h1.add (z 0) #[r,hL r du,9]).of_eq λj=>?_;show fK (L.map λr=>14 j) (sh 1 z)+z 0*14 j=14 j*z 0+fK (L.map λr=>14 j) (sh 1 z);rw[vS,Int.add_comm]
  refine .ir (key bh z λ_ h=>h) λj=>?_;exact(hz j).symm
inductive Wd where
 |w (x:String)
 |n (i:Int)
 deriving DecidableEq
namespace Dr
noncomputable def aY:Dr->1 Wd
 |id=>[.w "id"] | swap=>[.w "swap"] | copy=>[.w "copy"] | fin=>[.w "end"] | add=>[.w "add"] | none=>[.w "none"] | fZ=>[.w "cup"] | empty=>[.w "empty"]
 |times n=>[.w "times",.n n]
 |back d=>.w "back"::d.aY
 |bo a b=>.w "beside"::(a.aY++b.aY)
 |bg a b=>.w "then"::(a.aY++b.aY)
end Dr
def QX(wO:LL)(yY:Nat):Prop:=yY+wO.length<2\/(yY=1/\wO.length=1/\(wO.getD 0 []).getD 0 0≠0)
instance (wO:LL) (yY:Nat):Decidable (QX wO yY):=by unfold QX;infer_instance
def cC(p:Int)(wO:LL)(yY:Nat):Prop:=∀r∈wO,r.length=yY/\∀a∈r,0<=a/\a<p
end D1
namespace D1
open Bw
def parts(c l:Nat):Nat:=if c=0 then l else if l=0 then c else 2*(c*l)
end D1
namespace S21
open PySem L2 Bw
noncomputable def dQ:D1.Wd->V
 | .w x=>.str x
 | .n i=>2 i
def IE(te:TE)(σ:St)(H:Hp)(k:Int):Prop:=∀H',bc H H'->∀R:VK,R (2 k) H'->te σ H' R
section
variable{K:Frag}{σ:St}{H:Hp}
def lF{i:Nat}{k:Int}(h:σ[i]?=0 (0<|2 k)):IE (bt i) σ H k:=(λ_ _ _ q=>#[_,h,q])
theorem Kn{α:Type}(v:α):∀n:Nat,(16 n [v]).flatten=16 n v
 |0=>rfl
 |n+1=>by rw[uA,Ad,Kn v n];rfl
end
end S21
namespace L2
open PySem PySem.Spec PyProof.Rows
end L2
namespace S21
open PySem L2 Bw
end S21
namespace D1
open Bw
end D1
namespace S21
open PySem L2 Bw
def QY{c:TT}{t u:TS}{D:Ends}{σ:St}{H:Hp}(d:Bool)(h:∀R:Bool->6 Hp,R d H->c σ H R)(ht:d=6->t { D with nx:=u D } σ H)(hf:d=false->u D σ H):cR (gU c t jS) u D σ H:=by
 refine h _ ?_;cases d with
 |true=>exact fw<|ht 9
 |false=>exact dh<|hf 9
def nl1:(["k","head","p","place","row"]:1 Str).Nodup:=by decide +kernel
def Ek(_K:Frag):Sp:=λvs H Q _=>∃(p:Int)(a b:Addr)(x h:4)(n j:Nat)(i:Int),vs=[2 p,3 a,3 b,2 i]/\i=j/\2<=p/\p<=97/\n<=900/\j<n/\H a=13 (x.map V.int)/\H b=13 (h.map V.int)/\x.length=n/\h.length=n/\-100000<=x.getD j 0/\x.getD j 0<=100000/\
 ∀l H',bc H H'->H l=8->H' l=13 ((iI p j h x).map V.int)->Q (3 l) H'
def abV:dz ["p","row","head","place"] ["p","row","head","place"] (cj Ee):=(dW 9 9 9 19 9)
def QZ{f:Addr}{fd:FuncData}(F:cL K "_law_less" "_law_less" Ee f fd)(T:Txt mg):bQ P w K mg base bX 1 f fd ["p","row","head","place"] (Ek K):=by
 refine 17 abV 24 ?_
 .let[p,a,b,x,h,n,j,i,rfl,_]:=h;rfl
 .let[p,a,b,x,h,n,j,i,rfl,rfl,p2,cA,hn,hj,ga,gb,hx,hh,aiR,aiS,k]:=h;let nY:=jE;refine#[_,bN (cJ<|qw (N:=["k","head","p","place","row"]) (own:=1) (caps:=[2,0,3,1]) rfl (x5 9 T.range<|bf (iW (nV K 9) 9 T.len nW<|10 1 bj) bj) (show fH ["p","row","head","place"] (cj Ee) ["k","head","p","place","row"] 1 [2,0,3,1] _ from .mk' 19) (λ_ _ _ _ _=>cH (i:=0) nl1 rfl (18)) (λ_ _ _ _ _=>jn) (λ_ _ _ _ _=>bI jb (bI nN (bZ (dC K 9) (pv 04)<|pv 0)<|bI x6 (bZ (dC K 9) (pv 04)<|pv 3)<|bZ (dC K 9) (pv 1)<|pv 0)<|pv 2)),?_]
  let ex:(x.map V.int).length=n:=by rw[bH,hx]
  refine#[_,9,a,_,9,.inl<|.of ga,(((x.map V.int).length:Nat):Int),9,7,by rw[ex];lia,aax (n:=(x.map V.int).length) (lo:=0) (cp:=[8 b,0<|2 p,0<|2 (j:Int),8 a]) (λi H' zs=>zs=((iI p j h x).take i).map V.int) (by rw[ex];lia) rfl (λi H' zs e=>by rw[e,bH];exact sO _ _) ?_ ?_]
  .rintro i H1 zs hi sm rfl;rw[ex]at hi;rw[lQ];let Dt:i<x.length:=by rw[hx];exact hi
   let Q0:i<h.length:=by rw[hh];exact hi
   refine oH #[_,9,_,9,a,_,(i:Int),_,9,9,.of<|sm _ _ ga,cm<|tW Dt,_,9,_,9,a,_,(j:Int),_,9,9,.of<|sm _ _ ga,cm (tW<|by rw[hx];exact hj),_,9,_,9,b,_,(i:Int),_,9,9,.of<|sm _ _ gb,cm<|tW Q0,_,_,9,9,.inl #[7,7],_,_,9,9,_,9,_,_,9,9,(by show(0:Int)<p;lia),#[[_],9,9],sm,?_];let e3:(iI p j h x)[i]?=0 ((x.getD i 0-x.getD j 0*h.getD i 0)%p):=by
    unfold iI iC;rw[List.getElem?_zipWith,Bo Dt,Bo Q0];show 0 ((x.getD i 0 + -(x.getD j 0)*h.getD i 0)%p)=_;rw[Int.neg_mul,<- Int.sub_eq_add_neg]
   rw[iM,e3];simp
  .rintro H1 zs sm rfl lq Q3;rw[ex,lO (by unfold iI iC;rw[List.length_zipWith,hx,hh];lia)];exact k lq _ (sm.trans<|.upd Q3) (fj sm Q3) bq
def Q4(d:Int)(h0:0<=d)(h1:d<25):∃q,q∈cM/\rL (cM.map V.int) d=0 (2 q):=by
 obtain⟨q,hq⟩:∃q,cM[d.toNat]?=0 q:=#[_,cD (show d.toNat<25 by lia)];refine#[q,dS hq,?_];rw[show d=((d.toNat:Nat):Int) by lia];exact cm (by rw[dR,hq];rfl)
def Q5:Sp:=λvs H Q _=>∃c:Int,vs=[2 c]/\∀p H',p∈cM->bc H H'->Q (2 p) H'
def Q6:dz ["cell","primes"] ["cell"] (cj Kb):=(dW 9 9 9 19 9)
def abW{f:Addr}{fd:FuncData}(F:cL K "_law_prime" "_law_prime" Kb f fd):bQ P w K mg base bX 1 f fd ["cell"] Q5:=by
 refine 17 Q6 24 ?_
 .let[c,rfl,_]:=h;rfl
 .let[c,rfl,q]:=h;refine#[cR (dI (Jw cM)<|cg 1)<|iE<|bY (nO K) (dt<|bw (bY (nO K) (bt 1)<|bY (rI (λ_ j=>0<j) λi j=>2<|i%j) (bY (rI v5 λi j=>2<|i/j) (bt 0)<|tC<|2 2)<|tC<|2 04)<|bw (bY (nO K) (bt 1)<|bY (rI (λ_ j=>0<j) λi j=>2<|i%j) (bY (rI v5 λi j=>2<|i/j) (bt 0)<|tC<|2 2)<|tC<|2 25) cB)<|bY (rI (λ_ j=>0<j) λi j=>2<|i%j) (bt 0)<|tC<|2 2,bz ?_ ?_,?_]
  .refine cx ?_ ?_ ?_ ?_ ?_ ?_
   .exact Q6.nd
   .rfl
   .exact Or.inl 9
   .refine PR ?_;exact PQ (by kernel_rfl)
   .rfl
   .exact 18
  .refine bN ?_;refine cJ ?_;refine bZ ?_ ?_ ?_ ?_
   .exact dC K 9
   .refine cK ?_;refine bf ?_ ?_
    .exact bZ (dC K 9) (pv 1)<|bI jb (bI rH (pv 0) br) br
    .refine bf ?_ bj;exact bZ (dC K 9) (pv 1)<|bI jb (bI rH (pv 0) br) br
   .exact bI jb (pv 0) br
   .exact λ_ _=>9
  let[q1,m1,e1]:=Q4 (c/2%04) 7 7;let[q2,m2,e2]:=Q4 (c/2%25) 7 7;refine#[(by show 11 25;decide),λl hl=>?_];dsimp only[cg];refine#[_,9,_,9,_,_,9,9,#[16,16],_,_,9,9,(show(0:Int)<04 by decide),l,_,_,_,9,9,.of bq,e1,?_];refine#[_,9,_,9,_,_,9,9,#[16,16],_,_,9,9,(show(0:Int)<25 by decide),l,_,_,_,9,9,.of bq,e2,?_];refine#[(by show 11 2;decide),λl2 rP=>#[_,9,_,_,9,9,(show(0:Int)<2 by decide),?_]];let hc:c%2=0\/c%2=1:=by lia
  rcases hc with hc|hc
  .exact#[l2,_,_,2 q1,9,9,.of bq,by rw[hc];exact cm (j:=0) rfl,q q1 _ m1<|(bc.upd hl).trans<|.upd rP]
  .exact#[l2,_,_,2 q2,9,9,.of bq,by rw[hc];exact cm (j:=1) rfl,q q2 _ m2<|(bc.upd hl).trans<|.upd rP]
end S21
namespace PySem.SeqAt
open MeetsSeq AutoSeq1 SeqRoads2
def abX(s:Shared)(l:Addr)(its:Array 5)(n:Nat):Prop:=s.heap.get? l=0 { cls:=.type "list",data:=.seq its n }
def Q7(l:Addr)(its:Array 5)(n:Nat)(x:Value)(e:5->Bool)(j:Nat):Spec:=λA R s=>
 abX s l its n/\(∀m (hm:m<its.size),m<=j->EqAt A.in1 s its[m] x (e its[m]))/\R (.ok<|.ret .none) { s with heap:=s.heap.update l (Obj.mapSeq λxs=>xs.eraseIdxIfInBounds j) }
theorem Q8{l:Addr}{its:Array 5}{n:Nat}{x:Value}{e:5->Bool}{j:Nat}(hj:j<its.size)(hit:e its[j]=6)(hs:11 its.size) :
  ∀k i:Nat,i+k=j->(∀m (hm:m<its.size),i<=m->m<j->e its[m]=false)->Meets (Builtin.«list.remove.loop» #[[3 l,x,rawInt i],[]]) (Q7 l its n x e j)
 |0,i,hk,_=>λprog w A R s z=>by
  let[h,gs,dn,tk,st]:=s;let[at_,eq,fin]:=z;obtain rfl:i=j:=by lia
  let at_:Heap.get? h l=0 { cls:=.type "list",data:=.seq its n }:=at_
  (wp_walk using az at_)
  rw[show its[((i:Nat):Int).toNat]?=0 its[i] by simp[hj]];refine aq<|eq i hj (ck _) prog w _ _ ?_;let small:(its.eraseIdxIfInBounds i).size<=sizeLine+1:=eh (size_erased its _)<|Nat.le_succ_of_le hs;rw[hit];wp_walk using(wpAny_updateSeq at_ rfl (hz:=hs) (_hz':=small)),az at_
  simpa using fin
 |k+1,i,hk,ya=>λprog w A R s z=>by
  let[h,gs,dn,tk,st]:=s;let[at_,eq,fin]:=z;let hm:i<its.size:=by lia
  let at':Heap.get? h l=0 { cls:=.type "list",data:=.seq its n }:=at_
  (wp_walk using az at')
  rw[show its[((i:Nat):Int).toNat]?=0 its[i] by simp[hm]];refine aq<|eq i hm 7 prog w _ _ ?_;rw[ya i hm (ck _) 7];wp_walk
  rw[show((i:Int)+1)=((i+1:Nat):Int) by push_cast;rfl];let cu:=Q8 (l:=l) (n:=n) (x:=x) hj hit hs k (i+1) 7 (λm hm a b=>ya m hm 7 b) prog w A R _ #[at_,eq,fin];refine#[plainId_quiet plain_remove_loop _,codeAny_builtin entry_remove_loop ?_];rw[Around.under_plainId plain_remove_loop _];exact cu
def abY(l:Addr)(its:Array 5)(n:Nat)(x:Value)(e:5->Bool){j:Nat}(hj:j<its.size)(hit:e its[j]=6)(ya:∀m (hm:m<its.size),m<j->e its[m]=false)(hs1:11 its.size):Meets (Builtin.«list.remove» #[[3 l,x],[]]) (Q7 l its n x e j):=(λprog w A R s z=>by
 let[h,gs,dn,tk,st]:=s;let[at_,eq,fin]:=z;let at':Heap.get? h l=0 { cls:=.type "list",data:=.seq its n }:=at_;let sU:=Q8 (l:=l) (n:=n) (x:=x) hj hit hs1 j 0 (lP _) (λm hm _ b=>ya m hm b) prog w A R _ #[at_,eq,fin]
 (wp_walk using az at')
 refine#[plainId_quiet plain_remove_loop _,codeAny_builtin entry_remove_loop ?_];rw[Around.under_plainId plain_remove_loop _];exact sU)
end PySem.SeqAt
namespace L2
open PySem PySem.Spec PyProof.Rows Bw PySem.SeqAt
def abZ{A:Around}{s:Shared}{a b:Addr}{xs ys:1 5}{r h:4}(hu:A.units<cLine)(ha:s.heap.IsList a xs.toArray)(hb:s.heap.IsList b ys.toArray)(ra:Vals (r.map V.int) xs)(rb:Vals (h.map V.int) ys)(hl:r.length=h.length)(c8:r≠h) :
  EqAt A s (3 a) (3 b) false:=by
 let l1:=ra.length;let l2:=rb.length;rw[bH]at l1 l2;let nab:a≠b:=λz=>by
  subst z;let e:xs=ys:=by
   let[o,g,_,n,d]:=ha;let[o',g',_,n',d']:=hb;rw[g]at g';cases g';rw[d]at d';injection d' with d1;simpa using d1
  subst e;refine c8<|List.ext_getElem? λi=>?_;by_cases hi:i<r.length
  .let[u,gW,qz]:=ra.get (show(r.map V.int)[i]?=0 (2 r[i]) by rw[dR,cD hi];rfl);let[v,tY,u9]:=rb.get (show(h.map V.int)[i]?=0 (2<|h[i]'(hl▸hi)) by rw[dR,cD (hl▸hi)];rfl);rw[gW]at tY;cases tY;let[t,rfl]:=qz;let[t',e]:=u9;rw[cD hi,cD (hl▸hi)];injection e with e1;exact aj some e1
  .rw[kf 7,kf 7]
 let key:=RcAt.lists (A:=A) (s:=s) (e:=λj=>decide<|14 j=h.getD j 0) ha hb (by simp only[dP];lia) hu (λj h1 h2=>by
  simp only[dP]at h1 h2;let[u,gW,qz]:=ra.get (show(r.map V.int)[j]?=0 (2<|14 j) by rw[dR,dG,cD (show j<r.length by lia)];rfl);let[v,tY,u9]:=rb.get (show(h.map V.int)[j]?=0 (2<|h.getD j 0) by rw[dR,dG,cD (show j<h.length by lia)];rfl);let[t,rfl]:=qz;let[t',rfl]:=u9;let e1:xs.toArray[j]=.int (14 j) t:=by
   let:=(eA.mp gW).2
   simpa using this
  let e2:ys.toArray[j]=.int (h.getD j 0) t':=by
   let:=(eA.mp tY).2
   simpa using this
  rw[e1,e2];exact(MeetsSeq.EqGives.int _ _ _ _).at _ _)
 let z:((List.range xs.toArray.size).all λj=>decide<|14 j=h.getD j 0)=false:=by
  cases hq:(List.range xs.toArray.size).all λj=>decide (14 j=h.getD j 0) with
  |false=>rfl
  |true=>
   refine absurd (List.ext_getElem? λi=>?_) c8;rw[gF]at hq;by_cases hi:i<r.length
   .let:=aM (hq i<|uz.mpr<|by simp only[dP];lia)
    rw[dG,dG,cD hi,cD (hl▸hi)]at this;rw[cD hi,cD (hl▸hi)];exact aj some this
   .rw[kf 7,kf 7]
 rw[z]at key;exact .of_refs nab key
def ab0:V->1 V->Hp->6 VK:=λx vs H Q=>∃l xs L j a h,x=3 l/\vs=[3 a]/\H l=13 xs/\LR (λ_=>True) H xs L/\xs[j]?=8 a/\H a=13 (h.map V.int)/\
 (∀i r,i<j->L[i]?=0 r->r.length=h.length/\r≠h)/\Q .cI (9 H l<|xs.eraseIdx j)
open Classical in
def ab1{X:Cx}(hu:X.A.units+2<cLine):AG X "list.remove" ab0:=by
 intro aZ s σ H x vs v us Q I rx rv h;let[l,xs,L,j,a,hd,rfl,rfl,hH,hL,hj,ga,c8,q]:=h;cases rx;let[u,rfl,ru]:=rv.one;cases ru;let[z,its,n,r,hl,e]:=I.tF hH;let[u',gW,qz]:=r.get hj;cases qz;let hjl:=(eA.mp gW).1;let[ys,rb,pb,_]:=I.list<|.of ga;let at_:∀{m:Nat}(hm:m<its.toArray.size),its.toArray[m]=its[m]'(by simpa using hm):=λhm=>17
 refine call_meets F.slot_list_remove #[_,e,9] F.entry_list_remove (F.args_list_remove_2 _ _) (abY l its.toArray n (3 a) (λw=>decide<|w=3 a) (j:=j) (by simpa using hjl) ?_ ?_ (by rw[dP];lia)) #[e,?_,?_]
 .refine aH ?_;rw[at_];exact(eA.mp gW).2
 .intro m hm Ko;let Bp:m<its.length:=by simpa using hm
  let va:m<21:=by lia
  obtain⟨r',iw⟩:∃r',L[m]?=0 r':=#[_,cD (by rw[<- hL.1];exact va)];let[b,eb,_,gb]:=hL.2 m _ r' (cD va) iw;let[w',vb,El]:=r.get<|(cD va).trans<|aj some eb;cases El;refine ae ?_;rw[at_ hm,(eA.mp vb).2];intro z;injection z with z;subst z;rw[ga]at gb
  let:=(c8 m r' Ko iw).2
  injection gb with gb;injection gb with gb;exact this ((List.map_inj_right λx y e=>V.int.inj e).mp gb).symm
 .intro m hm Ko;let Bp:m<its.length:=by simpa using hm
  let va:m<21:=by lia
  obtain⟨r',iw⟩:∃r',L[m]?=0 r':=#[_,cD (by rw[<- hL.1];exact va)];let[b,eb,_,gb]:=hL.2 m _ r' (cD va) iw;let[w',vb,El]:=r.get<|(cD va).trans<|aj some eb;cases El;rw[at_ hm,(eA.mp vb).2];by_cases Kq:b=a
  .subst Kq;dsimp only;rw[aH 9];exact EqAt.same _
  .dsimp only;rw[ae λz=>Kq (by injection z)];let ab2:m<j:=by
    rcases Nat.lt_or_eq_of_le Ko with h|rfl
    .exact h
    .rw[cD va,eb]at hj;injection hj with hj;injection hj with hj;exact absurd hj Kq
   let[zs,rz,pz,_]:=I.list<|.of gb;let[l1,l2]:=c8 m r' ab2 iw;exact abZ (by show X.A.units+1<cLine;lia) pz.isList pb.isList rz rb l1 l2
 .refine#[.cI,_,I.AH (its':=its.eraseIdx j) hH e ?_ (r.eraseIdx j) ?_,9,q]
  .show its.toArray.eraseIdxIfInBounds j=(its.eraseIdx j).toArray;rw[List.eraseIdxIfInBounds_toArray]
  .let:=OK xs j
   lia
end L2
namespace D1
open Bw
variable{hi lo:Nat}
def jF(p:Int)(k:Nat)(h:4):4:=h.map λx=>x*dN p (h.getD k 0%p)%p
def ko(p:Int)(k:Nat)(s:LL×LL):LL×LL:=
 match s.2.findIdx? (λr=>14 k%p != 0) with
 |none=>s
 |some i=>(s.1.map (iI p k<|jF p k<|s.2.getD i [])++[jF p k<|s.2.getD i []],(s.2.eraseIdx i).map (iI p k<|jF p k<|s.2.getD i []))
noncomputable def gg(p:Int)(lo:Nat)(L:LL):Nat->LL×LL
 |0=>([],L)
 |c+1=>ko p (lo+c) (gg p lo L c)
section
variable{p:Int}{n k:Nat}{h:4}{L T D:LL}
def wQ:(jF p k h).length=h.length:=by simp[jF]
def ab3(p0:0<p)(hl:h.length=n):Rw p n (jF p k h):=(#[by rw[wQ,hl],λx hx=>by
 let[y,_,rfl]:=dF.mp hx;exact#[rh _ 7,ri _ p0]])
def Kr(hp:p∈cM){x:Int}(h0:x%p≠0):1<=dN p (x%p)/\dN p (x%p)<p/\dN p (x%p)*x%p=1:=by
 let p0:0<p:=by let:=gK p hp;lia
 let a:=rh x (show p≠0 by lia);let b:=ri x p0;let[t1,t2,t3]:=yH hp (n:=x%p) 7 b;refine#[t1,t2,?_];rw[<- t3,Int.mul_emod,Int.mul_emod (dN p<|x%p) (x%p),Int.emod_emod]
def ab4(hl:h.length=n)(j:Nat):p∣(jF p k h).getD j 0-h.getD j 0*dN p (h.getD k 0%p):=by
 by_cases hj:j<n
 .rw[show jF p k h=h.map λx=>x*dN p (h.getD k 0%p)%p from 9,Qk hl hj]
  exact pH _ _
 .rw[dG,kf (by rw[wQ];lia),dG,kf 7];exact#[0,17]
def ab5(hp:p∈cM)(hh:Rw p n h)(h0:h.getD k 0≠0):jF p k h=eW p n h k:=by
 let p0:0<p:=by let:=gK p hp;lia
 let b:=hh.at p0 k;let e:h.getD k 0%p=h.getD k 0:=Int.emod_eq_of_lt b.1 b.2;let t:=Kr hp (x:=h.getD k 0) (by rw[e];exact h0);exact abS hp hh h0 t.1 t.2.1 t.2.2
def find_some{α:Type}{f:α->Bool}:∀{T:1 α}{i:Nat},T.findIdx? f=0 i->∃h,T[i]?=0 h/\f h=6/\∀j q,j<i->T[j]?=0 q->f q=false:=by
 intro T i e;rw[List.findIdx?_eq_some_iff_getElem]at e;let[hi,h1,h2]:=e;refine#[T[i],cD hi,h1,λj q hj hq=>?_];let[hl,rfl]:=eA.mp hq
 let:=h2 j hj
 simpa using this
def Em{α:Type}{T:1 α}{i:Nat}{h d:α}(e:T[i]?=0 h):T.getD i d=h:=by rw[dG,e];rfl
theorem Bq(hp:p∈cM)(hL:Bw.cC p n L):∀c,c<=n->jZ p n L c (gg p 0 L c)
 |0,_=>.start hL
 |c+1,hc=>by
  let p0:0<p:=by let:=gK p hp;lia
  let I:=Bq hp hL c 7;show jZ p n L (c+1) (ko p (0+c)<|gg p 0 L c);rw[lP];generalize gg p 0 L c=s at I;let[D,T]:=s;let Ks:∀r∈T,14 c%p=14 c:=λr hr=>Int.emod_eq_of_lt ((I.r r hr).at p0 c).1 ((I.r r hr).at p0 c).2;unfold ko;split
  .rename_i e
   refine I.skip λr hr=>?_;rw[List.findIdx?_eq_none_iff]at e
   let:=e r hr
   rw[Ks r hr]at this;simpa using this
  .rename_i i e
   let[h,hi,h1,h2]:=find_some e;let hm:=dS hi;let oM:h.getD c 0≠0:=by
    rw[Ks h hm]at h1;simpa using h1
   let S:=I.head hp 7 hi oM (λj q hj hq=>by
    let:=h2 j q hj hq
    rw[Ks q (dS hq)]at this;simpa using this)
   dsimp only at hi;dsimp only;rw[Em hi,ab5 hp (I.r h hm) oM];let l8:=AZ (place:=c) p0<|I.r h hm;let Q9:∀{M:LL},Bw.cC p n M->M.map (fb p (eW p n h c) c)=M.map (iI p c<|eW p n h c):=λhM=>xM λr hr=>(abR p0 l8<|hM r hr).symm;rw[Q9 I.d,Q9 (λr hr=>I.r r<|Ai hr)]at S;exact S
def En(hp:p∈cM)(hL:Bw.cC p n L):(gg p 0 L n).1=eQ p L:=by
 let:=Bq hp hL n<|ck _
 generalize gg p 0 L n=s at this;let[D,T]:=s;exact this.done hp hL
def Kt{j:Nat}{f:Fn}(hL:∀r∈L,p∣14 j)(h:Sp p (RS L) f):p∣f j:=by
 induction h with
 |zero=>exact#[0,17]
 | @add v r c _ hr ih=>
  let[q,hq,rfl]:=hr;exact sM ih<|Int.dvd_trans (hL q hq) #[c,by show c*q.getD j 0=_;rw[vS]]
 | @ir u v _ e ih=>exact abN ih<|e j
structure pP(p:Int)(n lo hi c:Nat)(L:LL)(T:LL):Prop where
 len:∀r∈T,r.length=n
 near:∀r∈T,∀x∈r,-p<x/\x<p
 pos:∀r∈T,∀j,(j<lo\/hi<=j)->0<=14 j
 sp:∀f:Fn,Sp p (RS T) f↔Sp p (RS L) f/\∀j,lo<=j->j<lo+c->p∣f j
def pP.start(h1:∀r∈L,r.length=n)(h2:∀r∈L,∀x∈r,-p<x/\x<p)(h3:∀r∈L,∀j,(j<lo\/hi<=j)->0<=14 j):pP p n lo hi 0 L L:=(#[h1,h2,h3,λf=>#[λh=>#[h,λj a b=>absurd b 7],λh=>h.1]])
def Eo(k:Nat){r h:4}(hr:r.length=n)(hh:h.length=n):iZ p (λj=>fn r j + -(14 k)*fn h j) (fn<|iI p k h r):=(P5 _ hr hh)
def pP.step(hp:p∈cM){c:Nat}(I:pP p n lo hi c L T){i:Nat}{h:4}(iu:T[i]?=0 h)(h0:h.getD (lo+c) 0%p≠0) :
  pP p n lo hi (c+1) L ((T.eraseIdx i).map<|iI p (lo+c)<|jF p (lo+c) h):=by
 let p0:0<p:=by let:=gK p hp;lia
 let hm:=dS iu;let hl:=I.len h hm;let t:=Kr hp h0;let ea:=λj=>ab4 (p:=p) (k:=lo+c) hl j;let sl:(jF p (lo+c) h).length=n:=by rw[wQ,hl]
 generalize hk:lo+c=k at h0 t ea sl |-;generalize dN p (h.getD k 0%p)=u at t ea;let one:p∣(jF p k h).getD k 0-1:=by
  let[a,ha]:=ea k;let[b,hb]:=pH p<|u*h.getD k 0;rw[t.2.2]at hb;exact#[a-b,by grind]
 generalize jF p k h=hd at ea sl one;let Ku:∀r∈T.eraseIdx i,Rw p n (iI p k hd r):=λr hr=>AX _ p0 (I.len r<|Ai hr) sl;refine#[λr hr=>?_,λr hr x hx=>?_,λr hr j _=>?_,λf=>?_]
 .let[q,hq,rfl]:=dF.mp hr;exact(Ku q hq).1
 .let[q,hq,rfl]:=dF.mp hr
  let:=(Ku q hq).2 x hx
  lia
 .let[q,hq,rfl]:=dF.mp hr;exact((Ku q hq).at p0 j).1
 .let hdT:Sp p (RS T) (fn hd):=.ir (Sp.add u .zero #[h,hm,9]) λj=>by
   let[a,ha]:=ea j;refine#[-a,?_];show 0+u*h.getD j 0-hd.getD j 0=_
   grind
  constructor
  .intro hf;let hT:Sp p (RS T) f:=hf.trans λg hg=>by
    let[q,hq,rfl]:=hg;let[r,hr,rfl]:=dF.mp hq;let yZ:=Ai hr;exact .ir (Sp.plus _ (.mem #[r,yZ,9]) hdT)<|Eo k (I.len r yZ) sl
   let[z1,z2]:=(I.sp f).mp hT;refine#[z1,λj h1 h2=>?_];by_cases hj:j<lo+c
   .exact z2 j h1 hj
   .let:j=k:=by lia
    subst this;refine Kt (λq hq=>?_) hf;let[r,hr,rfl]:=dF.mp hq;let yZ:=Ai hr;let[a,ha]:=Eo (p:=p) j (I.len r yZ) sl j;let[b,hb]:=one;let tZ:14 j + -(14 j)*hd.getD j 0-(iI p j hd r).getD j 0=p*a:=ha;exact#[-a-b*14 j,by grind]
  .rintro⟨z1,z2⟩;let hT:=(I.sp f).mpr #[z1,λj h1 h2=>z2 j h1 7];let fk:p∣f k:=z2 k 7 7;let key:∀{g:Fn},Sp p (RS T) g->∃(c:Int)(t:Fn),Sp p (RS<|(T.eraseIdx i).map<|iI p k hd) t/\iZ p (λj=>t j+c*hd.getD j 0) g:=by
    intro g hg;induction hg with
    |zero=>exact#[0,_,.zero,λj=>#[0,17]]
    | @add v q c0 _ hq ih=>
     let[c1,t1,ht,e1]:=ih;let[r,hr,rfl]:=hq;by_cases Ra:r=h
     .subst Ra;refine#[c1+c0*14 k,t1,ht,λj=>?_];let[a,ha]:=e1 j;let[b,hb]:=ea j;let[d,CT]:=pH p<|u*14 k;rw[t.2.2]at CT;refine#[a+c0*14 k*b-c0*14 j*d,?_];show t1 j+(c1+c0*14 k)*hd.getD j 0-(v j+c0*14 j)=_;let tZ:t1 j+c1*hd.getD j 0-v j=p*a:=ha
      grind
     .let hre:r∈T.eraseIdx i:=by
       let[m,Bp]:=List.getElem?_of_mem hr;refine List.mem_eraseIdx_iff_getElem?.mpr #[m,?_,Bp];rintro rfl;rw[iu]at Bp;exact Ra (dJ Bp).symm
      refine#[c1+c0*14 k,λj=>t1 j+c0*(iI p k hd r).getD j 0,Sp.add c0 ht #[_,dF.mpr #[r,hre,9],9],λj=>?_];let[a,ha]:=e1 j;let[b,hb]:=Eo (p:=p) k (I.len r hr) sl j;let tZ:t1 j+c1*hd.getD j 0-v j=p*a:=ha;let oE:14 j + -(14 k)*hd.getD j 0-(iI p k hd r).getD j 0=p*b:=hb;refine#[a-c0*b,?_];show t1 j+c0*(iI p k hd r).getD j 0+(c1+c0*14 k)*hd.getD j 0-(v j+c0*14 j)=_
      grind
    | @ir u' v' _ e ih=>
     let[c1,t1,ht,e1]:=ih;exact#[c1,t1,ht,e1.trans e]
   let[c1,t1,ht,e1]:=key hT;let tk:p∣t1 k:=Kt (λq hq=>by
    let[r,hr,rfl]:=dF.mp hq;let yZ:=Ai hr;let[a,ha]:=Eo (p:=p) k (I.len r yZ) sl k;let[b,hb]:=one;let tZ:14 k + -(14 k)*hd.getD k 0-(iI p k hd r).getD k 0=p*a:=ha;exact#[-a-b*14 k,by grind]) ht
   let c1z:p∣c1:=by
    let[a,ha]:=e1 k;let[b,hb]:=tk;let[d,CT]:=one;let[e,he]:=fk;let tZ:t1 k+c1*hd.getD k 0-f k=p*a:=ha;exact#[a+e-b-c1*d,by grind]
   refine .ir ht λj=>?_;let[a,ha]:=e1 j;let[b,hb]:=c1z;let tZ:t1 j+c1*hd.getD j 0-f j=p*a:=ha;exact#[a-b*hd.getD j 0,by grind]
def pP.skip{c:Nat}(I:pP p n lo hi c L T)(h0:∀r∈T,14 (lo+c)%p=0):pP p n lo hi (c+1) L T:=(#[I.len,I.near,I.pos,λf=>#[λhf=>by
  let[z1,z2]:=(I.sp f).mp hf;refine#[z1,λj h1 h2=>?_];by_cases hj:j<lo+c
  .exact z2 j h1 hj
  .obtain rfl:j=lo+c:=by lia
   exact Kt (λr hr=>Int.dvd_of_emod_eq_zero<|h0 r hr) hf,λh=>(I.sp f).mpr #[h.1,λj a b=>h.2 j a 7]]])
theorem Ep(hp:p∈cM){lo hi:Nat}(h:pP p n lo hi 0 L L):∀c,pP p n lo hi c L (gg p lo L c).2
 |0=>h
 |c+1=>by
  let I:=Ep hp h c;show pP p n lo hi (c+1) L (ko p (lo+c)<|gg p lo L c).2;generalize gg p lo L c=s at I;let[D,T]:=s;unfold ko;split
  .rename_i e
   refine I.skip λr hr=>?_;rw[List.findIdx?_eq_none_iff]at e
   let:=e r hr
   simpa using this
  .rename_i i e
   let[h,hi,h1,h2]:=find_some e;dsimp only at hi;dsimp only;rw[Em hi];exact I.step hp hi (by simpa using h1)
end
end D1
namespace S21
open PySem L2 Bw
variable{H:Hp}{L:LL}{LS:1 V}{N:6 Addr}{n:Nat}{p:Int}
def Rb:(["row"]:1 Str).Nodup:=by decide +kernel
def nv1:(["row","p","place"]:1 Str).Nodup:=by decide +kernel
def nv2:(["number","by","p"]:1 Str).Nodup:=by decide +kernel
def Rc:(["row","head","p","place"]:1 Str).Nodup:=by decide +kernel
def Rn(p:Int)(n:Nat)(r:4):Prop:=r.length=n/\∀x∈r,-p<x/\x<p
def Rn.at{r:4}(p0:0<p)(h:Rn p n r)(j:Nat):-p<14 j/\14 j<p:=by
 rw[dG];cases e:r[j]? with
 |none=>exact#[by show -p<0;lia,by show 0<p;lia]
 |some x=>exact h.2 x<|dS e
def Rn.of{r:4}(h:Rw p n r):Rn p n r:=(#[h.1,λx hx=>by let:=h.2 x hx;lia])
def _root_.L2.LR.weak{N':6 Addr}(h:LR N H LS L)(k:∀a,N a->N' a):LR N' H LS L:=(#[h.1,λi v r e1 e2=>by
 let[a,e,n,g]:=h.2 i v r e1 e2;exact#[a,e,k a n,g]])
def _root_.L2.LR.get'{i:Nat}{v:V}(h:LR N H LS L)(e:LS[i]?=0 v):∃a r,v=3 a/\L[i]?=0 r/\N a/\H a=13 (r.map V.int):=by
 let hi:i<L.length:=by rw[<- h.1];exact(eA.mp e).1
 let[a,e2,n,g]:=h.2 i v _ e<|cD hi;exact#[a,_,e2,cD hi,n,g]
def _root_.L2.LR.del(h:LR N H LS L)(i:Nat):LR N H (LS.eraseIdx i) (L.eraseIdx i):=(#[by rw[List.length_eraseIdx,List.length_eraseIdx,h.1],λj v r e1 e2=>by
 rw[List.getElem?_eraseIdx]at e1 e2;split at e1
 .rename_i hj
  rw[af hj]at e2;exact h.2 j v r e1 e2
 .rename_i hj
  rw[ag hj]at e2;exact h.2 (j+1) v r e1 e2])
def Rf{la lh:Addr}{k:Nat}{h:4}{Q:VK}{te:TE}(p2:2<=p)(cA:p<=97)(hn:n<=900)(hk:k<n)(g:H la=13 LS)(hL:LR N H LS L)(hR:∀r∈L,Rn p n r)(gh:H lh=13 (h.map V.int))(hh:h.length=n)(hz:LS.length<=1000)
  (Br:∀(x:Addr)(H1:Hp)(R:VK),Ek K [2 p,3 x,3 lh,2 (k:Int)] H1 R (λ_ _ _=>False)->te [8 x,8 lh,0<|2 p,0<|2 (k:Int)] H1 R)
  (done:∀H' MS,bc H H'->LR (λa=>H a=8) H' MS (L.map<|iI p k h)->∀l,H' l=8->Q (3 l) (9 H' l MS)) :
  ∃W:Nat->Nat->St->Hp->6 (1 V),(∃m,W 0 m (16 1 8++[8 lh,0<|2 p,0<|2 (k:Int)]) H [])/\mz (sZ K la) (cg 0) lV te Q W:=by
 let nY:=jE;refine qx (xs:=LS) (cp:=[8 lh,0<|2 p,0<|2 (k:Int)]) (λi H' zs=>LR (λa=>H a=8) H' zs<|(L.take i).map<|iI p k h) (.of g) (by lia) LR.nil
  (λi H' zs h=>by rw[h.1,bH];exact sO _ _) ?_ ?_
 .rintro i x H' zs e9 sm h';let[a,r,rfl,hr,_,ga]:=hL.get' e9;let Er:=hR r<|dS hr;let hb:=Er.at (show 0<p by lia) k;refine oH<|Br a H' _ #[p,a,lh,r,h,n,k,(k:Int),9,9,p2,cA,hn,hk,sm _ _ ga,sm _ _ gh,Er.1,hh,7,7,λl H2 s2 wR gl=>?_];refine#[#[[_],9,9],sm.trans s2,?_];rw[iM,hr];show LR _ H2 _ ((L.take i++[r]).map<|iI p k h);rw[eC];exact(h'.mono s2).snoc (fj sm wR) gl
 .rintro H' zs sm h' l hl;rw[hL.1,nF]at h';exact done H' zs sm h' l hl
def ab6{lo c k:Nat}{x:V}(h:((List.range c).map λ(i:Nat)=>V.int ((lo+i:Nat):Int))[k]?=0 x):k<c/\x=V.int ((lo+k:Nat):Int):=by
 rw[dR]at h;by_cases hk:k<c
 .rw[List.getElem?_range hk]at h;exact#[hk,(dJ h).symm]
 .rw[kf (by rw[List.length_range];lia)]at h;cases h
def LA(K:Frag)(H:Hp)(XS:1 V)(rs:LL):Prop:=XS.length=rs.length/\∀(i:Nat)(v:V)(r:4),XS[i]?=0 v->rs[i]?=0 r->∃a,v=3 a/\(dv K H a (r.map V.int)\/bu K H a (r.map V.int))
def LA.get{K:Frag}{XS:1 V}{rs:LL}{i:Nat}{v:V}(h:LA K H XS rs)(e:XS[i]?=0 v):∃a r,v=3 a/\rs[i]?=0 r/\(dv K H a (r.map V.int)\/bu K H a (r.map V.int)):=by
 let hi:i<rs.length:=by rw[<- h.1];exact(eA.mp e).1
 let[a,e2,g]:=h.2 i v _ e<|cD hi;exact#[a,_,e2,cD hi,g]
def LA.of{K:Frag}{N:6 Addr}{H:Hp}{XS:1 V}{rs:LL}(h:LR N H XS rs):LA K H XS rs:=(#[h.1,λi v r e1 e2=>by
 let[a,e,_,g]:=h.2 i v r e1 e2;exact#[a,e,.inl<|.of g]])
def ab7(K:Frag):Sp:=λvs H Q _=>∃(p:Int)(a b:Addr)(XS:1 V)(rs:LL)(n lo c:Nat),vs=[2 p,3 a,3 b]/\p∈cM/\H a=13 XS/\LA K H XS rs/\rs.length<=900/\n<=900/\(∀r∈rs,Rn p n r)/\lo+c<=n/\H b=13 ((List.range c).map λ(i:Nat)=>V.int ((lo+i:Nat):Int))/\
 ∀l f g FS GS H',bc H H'->H l=8->H' l=13 [3 f,3 g]->H f=8->H' f=13 FS->LR (λa=>H a=8) H' FS (D1.gg p lo rs c).1->H g=8->H' g=13 GS->LR (λa=>H a=8) H' GS (D1.gg p lo rs c).2->Q (3 l) H'
def Kv(_K:Frag):Sp:=λvs H Q _=>∃(p:Int)(a b:Addr)(XS:1 V)(rs:LL)(n lo c:Nat),vs=[2 p,3 a,3 b]/\p∈cM/\H a=13 XS/\LR (λ_=>True) H XS rs/\rs.length<=900/\n<=900/\(∀r∈rs,Rn p n r)/\lo+c<=n/\H b=13 ((List.range c).map λ(i:Nat)=>V.int ((lo+i:Nat):Int))/\
 ∀l f g FS GS H',bc H H'->H l=8->H' l=13 [3 f,3 g]->H f=8->H' f=13 FS->LR (λa=>H a=8) H' FS (D1.gg p lo rs c).1->H g=8->H' g=13 GS->LR (λa=>H a=8) H' GS (D1.gg p lo rs c).2->Q (3 l) H'
noncomputable abbrev Bs:1 Str:=["p","rows","places","left","found","place","some","head","by"]
def qA:dz ["p","rows","places","left","found","place","some","head","by"] ["p","rows","places"] (cj tU):=(dW 9 9 9 19 9)
theorem Kw{p:Int}(pp:p∈cM){n lo:Nat}{rs:LL}(h:∀r∈rs,Rn p n r):∀c,(∀r∈(D1.gg p lo rs c).1,Rn p n r)/\(∀r∈(D1.gg p lo rs c).2,Rn p n r)/\(D1.gg p lo rs c).1.length<=c/\(D1.gg p lo rs c).2.length<=rs.length
 |0=>#[λr hr=>(nomatch hr),h,ck _,ck _]
 |c+1=>by
  let p0:0<p:=by let:=gK p pp;lia
  let[i1,i2,i3,i4]:=Kw pp (lo:=lo) h c;show(∀r∈(D1.ko p (lo+c)<|D1.gg p lo rs c).1,_)/\(∀r∈(D1.ko p (lo+c)<|D1.gg p lo rs c).2,_)/\(D1.ko p (lo+c)<|D1.gg p lo rs c).1.length<=_/\(D1.ko p (lo+c)<|D1.gg p lo rs c).2.length<=_;generalize D1.gg p lo rs c=s at i1 i2 i3 i4;let[D,T]:=s;unfold D1.ko;split
  .exact#[i1,i2,7,i4]
  .rename_i i e
   let[hd,hi,h1,h2]:=D1.find_some e;dsimp only at hi i1 i2 i3 i4;dsimp only;rw[D1.Em hi];let sl:(D1.jF p (lo+c) hd).length=n:=by rw[D1.wQ];exact(i2 hd<|dS hi).1
   refine#[λr hr=>?_,λr hr=>?_,by simp;lia,?_]
   .rcases(eB.mp hr)with(hr|hr)
    .let[q,hq,rfl]:=dF.mp hr;exact .of<|AX _ p0 (i1 q hq).1 sl
    .rw[cT.mp hr];exact .of<|D1.ab3 p0<|(D1.wQ (p:=p) (k:=lo+c)).symm.trans sl
   .let[q,hq,rfl]:=dF.mp hr;exact .of<|AX _ p0 (i2 q<|Ai hq).1 sl
   .let:=D1.wQ (p:=p) (k:=0) (h:=[])
    rw[bH,List.length_eraseIdx];split<;>lia
def ab8{f fL:Addr}{fd mY:FuncData}(F:cL K "_law_cleared" "_law_cleared" tU f fd)(T:Txt mg)
  (GL:bQ P w K mg base bX 1 fL mY ["p","row","head","place"] (Ek K)) (kL:Kp K fL) (bL:Binds K mY ["p","row","head","place"] []) (mL:Mg mg "_law_less" fL) :
  bQ P w K mg base bX 2 f fd ["p","rows","places"] (ab7 K):=by
 refine 17 qA 24 ?_
 .let[p,a,b,XS,rs,n,lo,c,rfl,_]:=h;rfl
 .let[p,a,b,XS,rs,n,lo,c,rfl,pp,ga,hX,hz,hn,hR,y0,gb,q]:=h;let[p2,cA]:=gK p pp;let p0:0<p:=by lia
  let nY:=jE;let hu:=hr.units;let qz:=Nat.lt_of_le_of_lt (Nat.add_le_add_left (show 2<=64 by decide) _) hu;let hXl:=hX.1;refine#[_,bz (mH (i:=3) (N:=["row"]) (own:=1) (caps:=[]) rfl qA.nd rfl rfl (iY K 9<|pv 1) (show fH Bs (cj tU) ["row"] 1 [] _ from .mk' 19) (λ_ _ _ _ _=>cH (i:=0) Rb rfl (18)) (λ_ _ _ _ _=>jn) (λ_ _ _ _ _=>jl (DH K 9) 9 T.list uU<|10 0 bj))<|bz (cx (i:=04) qA.nd rfl (18) (cK bj))<|bz (kY lS 9 (iY K 9<|pv 2) (cH (i:=05) qA.nd rfl (Or.inr 9))<|bz (mH (i:=06) (N:=["row","p","place"]) (own:=1) (caps:=[0,05]) rfl qA.nd rfl rfl (iY K 9<|pv 3) (show fH Bs (cj tU) ["row","p","place"] 1 [0,05] _ from .mk' 19) (λ_ _ _ _ _=>cH (i:=0) nv1 rfl (18)) (λ_ _ _ _ _=>AM<|cQ uJ (bI jb (bZ (dC K 9) (pv 0)<|pv 2)<|pv 1) br<|cO _) (λ_ _ _ _ _=>pv 0))<|bN<|dq (cQ (yE K 9 hu) (pv 06) (cK bj)<|cO _) (bz (cx (i:=07) qA.nd rfl (Or.inr 9) (bZ (dC K 9) (pv 06) br))<|bz (jT<|jX lR PySem.F.slot_list_remove PySem.F.type_list_remove (ab1 qz) (pv 3)<|10 07 bj)<|bz (cx (i:=08) qA.nd rfl (Or.inr 9) br)<|bz (Yg lS (cQ uJ (bI jb (bI x6 (pv 08)<|bZ (dC K 9) (pv 07)<|pv 05)<|pv 0) br<|cO _)<|bN<|cx (i:=08) qA.nd rfl (Or.inr 9) (bI ij (pv 08) br))<|bz (cx (i:=07) qA.nd rfl (Or.inr 9) (qw (N:=["number","by","p"]) (own:=1) (caps:=[08,0]) rfl (iY K 9<|pv 07) (show fH Bs (cj tU) ["number","by","p"] 1 [08,0] _ from .mk' 19) (λ_ _ _ _ _=>cH (i:=0) nv2 rfl (18)) (λ_ _ _ _ _=>jn) (λ_ _ _ _ _=>bI jb (bI x6 (pv 0)<|pv 1)<|pv 2)))<|bz (mH (i:=3) (N:=["row","head","p","place"]) (own:=1) (caps:=[07,0,05]) rfl qA.nd rfl rfl (iY K 9<|pv 3) (show fH Bs (cj tU) ["row","head","p","place"] 1 [07,0,05] _ from .mk' 19) (λ_ _ _ _ _=>cH (i:=0) Rc rfl (18)) (λ_ _ _ _ _=>jn) (λ_ _ _ _ _=>cY GL hr 9 mL kL bL .nil cZ<|10 2<|10 0<|10 1<|10 3 bj))<|bN<|cx (i:=04) qA.nd rfl (18) (bI eV (qw (N:=["row","head","p","place"]) (own:=1) (caps:=[07,0,05]) rfl (iY K 9<|pv 04) (show fH Bs (cj tU) ["row","head","p","place"] 1 [07,0,05] _ from .mk' 19) (λ_ _ _ _ _=>cH (i:=0) Rc rfl (18)) (λ_ _ _ _ _=>jn) (λ_ _ _ _ _=>cY GL hr 9 mL kL bL .nil cZ<|10 2<|10 0<|10 1<|10 3 bj))<|cK<|10 07 bj)) eP)<|bN<|cJ<|cK<|10 04<|10 3 bj,?_]
  refine#[_,9,a,9,#[_,.of ga],qx (cp:=[]) (λi H' zs=>LR (λa=>H a=8) H' zs<|rs.take i) (.of ga) 7 LR.nil (λi H' zs h=>by rw[h.1];exact sO _ _) ?_ ?_]
  .rintro i x H1 zs hx sm h1;let[ra,r,rfl,j4,gr]:=hX.get hx;refine oH #[_,9,ra,_,9,gr.elim (λz=>.inl<|sm.seq z) λz=>.inr<|sm.bK z,λl hl=>#[#[[_],9,9],sm.trans<|.upd hl,?_]];rw[iM,j4];exact(h1.mono<|.upd hl).snoc (fj sm hl) bq
  rintro H1 LS pO yI ll t8;rw[hXl,nF]at yI;refine#[16,λld vc=>?_];let Bt:ld≠ll:=λz=>by rw[z,bq]at vc;cases vc
  let oK:bc H (9 (9 H1 ll LS) ld []):=(pO.trans<|.upd t8).trans<|.upd vc;let Bu:H ld=8:=fj (pO.trans<|.upd t8) vc;refine#[_,9,b,9,#[_,.of<|oK _ _ gb],uH (xs:=(List.range c).map λ(i:Nat)=>V.int ((lo+i:Nat):Int)) (λk σ H'=>bc H H'/\∃(ll ld:Addr)(LS DS:1 V)(s5 s6 s7 s8:7 V),σ=[0<|2 p,8 a,8 b,8 ll,8 ld,s5,s6,s7,s8]/\H ll=8/\H ld=8/\ld≠ll/\H' ll=13 LS/\LR (λa=>a≠ll/\H a=8) H' LS (D1.gg p lo rs k).2/\H' ld=13 DS/\LR (λa=>a≠ll/\H a=8) H' DS (D1.gg p lo rs k).1) #[oK,ll,ld,LS,[],_,_,_,_,9,fj pO t8,Bu,Bt,bc.upd vc _ _ bq,?_,bq,LR.nil] (λi σ H' _ ⟨sm,_⟩=>.of (sm _ _ gb)) ?_ ?_]
  .refine((?_:LR (λa=>a≠ll/\H a=8) H1 LS rs).mono<|.upd t8).mono<|.upd vc;exact#[yI.1,λi v r e1 e2=>by
    let[x,e,hx,gx]:=yI.2 i v r e1 e2;exact#[x,e,#[λz=>(by rw[z,t8]at gx;cases gx),hx],gx]]
  .rintro k x σ H2 hx ⟨sm,ll,ld,LS,DS,s5,s6,s7,s8,rfl,Es,Bu,Bt,gL,hL,gD,hD⟩;let[hk,rfl]:=ab6 hx;let[n1,n2,n3,n4]:=Kw pp (lo:=lo) hR k;let ecl:D1.gg p lo rs (k+1)=D1.ko p (lo+k) (D1.gg p lo rs k):=9;rw[ecl];generalize D1.gg p lo rs k=st at hL hD n1 n2 n3 n4;let[D,L]:=st;dsimp only at hL hD n1 n2 n3 n4;let hLS:=hL.1;let hDS:=hD.1;let vd:lo+k<n:=by lia
   generalize hkk:lo+k=kk at vd |-;refine#[_,9,ll,9,#[_,.of gL],qx (cp:=[0<|2 p,0<|2 (kk:Int)]) (λj H' zs=>zs.length<=j/\((zs=[]/\∀m q,m<j->L[m]?=0 q->(q.getD kk 0%p != 0)=false)\/∃i h v t M,i<j/\L[i]?=0 h/\(h.getD kk 0%p != 0)=6/\(∀m q,m<i->L[m]?=0 q->(q.getD kk 0%p != 0)=false)/\LS[i]?=0 v/\zs=v::t/\LR (λ_=>True) H' zs M)) (.of gL) (by lia) #[ck _,.inl #[9,λm q hm=>absurd hm 7]] (λj H' zs h=>h.1) ?_ ?_]
   .rintro j x H' zs hx i5 ⟨hzl,hP⟩;let[ra,r,rfl,iw,_,gr]:=hL.get' hx;let hkr:kk<r.length:=by rw[(n2 r<|dS iw).1];exact vd
    refine#[_,9,_,9,ra,_,(kk:Int),_,9,9,.of<|i5 _ _ gr,cm<|tW hkr,_,9,_,_,9,9,p0,9,_,9,tX (λc8=>?_) λheq=>?_]
    .let hf:(14 kk%p != 0)=6:=by
      let:¬14 kk%p=0:=λz=>c8<|aj V.int z
      simpa using this
     refine#[_,9,#[[_],9,9],i5,by rw[cb];show zs.length+1<=_;lia,.inr ?_];rcases hP with⟨rfl,h0⟩|⟨i,h,v,t,M,hi,e1,e2,e3,e4,rfl,e6⟩
     .exact#[j,r,3 ra,[],[r],7,iw,hf,h0,hx,9,LR.nil.snoc trivial<|i5 _ _ gr]
     .exact#[i,h,v,t++[3 ra],M++[r],7,e1,e2,e3,e4,9,e6.snoc trivial<|i5 _ _ gr]
    .let hf:(14 kk%p != 0)=false:=by
      let:14 kk%p=0:=V.int.inj heq
      simpa using this
     refine#[#[[_],9,9],i5,7,?_];rcases hP with⟨rfl,h0⟩|⟨i,h,v,t,M,hi,e1,e2,e3,e4,rfl,e6⟩
     .refine .inl #[9,λm q hm hq=>?_];by_cases e:m=j
      .subst e;rw[iw]at hq;cases hq;exact hf
      .exact h0 m q 7 hq
     .exact .inr #[i,h,v,t,M,7,e1,e2,e3,e4,9,e6]
   rintro H3 zs ua ⟨_,hP⟩ ls iO;let pQ:bc H2 (9 H3 ls zs):=ua.trans<|.upd iO;let g4:(9 H3 ls zs) ls=13 zs:=bq;let Rg:H2 ls=8:=fj ua iO;let aiT:ls≠ll:=λz=>by rw[z,gL]at Rg;cases Rg
   rcases hP with⟨rfl,h0⟩|⟨i,h,v,t,M,hi,e1,e2,e3,e4,rfl,e6⟩
   .
    generalize 9 H3 ls []=H4 at pQ g4 |-;let ef:L.findIdx? (λr=>14 kk%p != 0)=8:=by
     rw[List.findIdx?_eq_none_iff];intro r hr;let[m,hm]:=List.getElem?_of_mem hr;exact h0 m r (by rw[hLS];exact(eA.mp hm).1) hm
    let Bv:D1.ko p kk (D,L)=(D,L):=by
     unfold D1.ko;dsimp only;rw[ef]
    rw[Bv];refine#[_,9,16,λle mZ=>#[.list [],.list [],.list (.of<|bc.upd mZ _ _ g4) .nil,.list (.of bq) .nil,9,9,_,9,DG 9 ?_]];let jG:=pQ.trans (bc.upd mZ (o:=.lst []));exact#[sm.trans jG,ll,ld,LS,DS,_,_,_,_,9,Es,Bu,Bt,jG _ _ gL,hL.mono jG,jG _ _ gD,hD.mono jG]
   .
    let Rh:LR (λ_=>True) (9 H3 ls<|v::t) (v::t) M:=e6.mono<|.upd iO;generalize 9 H3 ls (v::t)=H4 at pQ g4 Rh |-;let ef:L.findIdx? (λr=>14 kk%p != 0)=0 i:=by
     rw[List.findIdx?_eq_some_iff_getElem];let[hiL,rfl]:=eA.mp e1;exact#[hiL,e2,λj hj=>by rw[e3 j _ hj (cD 7)];decide]
    let Bv:D1.ko p kk (D,L)=(D.map (iI p kk<|D1.jF p kk h)++[D1.jF p kk h],(L.eraseIdx i).map (iI p kk<|D1.jF p kk h)):=by
     unfold D1.ko;dsimp only;rw[ef];dsimp only;rw[D1.Em e1]
    rw[Bv];refine#[_,9,16,λle mZ=>#[.list<|M.map DR,.list [],.list (.of<|bc.upd mZ _ _ g4) (Rh.mono<|.upd mZ).has,.list (.of bq) .nil,aa3 M,9,_,9,abO ?_ ?_]]
    .intro z;injection z with z
     let:=e6.1
     rw[List.length_eq_zero_iff.mpr (List.map_eq_nil_iff.mp z)]at this;cases this
    let jG:=pQ.trans (bc.upd mZ (o:=.lst []));let g5:=bc.upd mZ (o:=.lst []) _ _ g4;generalize 9 H4 le []=H5 at jG g5 |-;let[ha,h',rfl,yo,[nha,nhH],Ri]:=hL.get' e4;rw[e1]at yo;cases yo;let qB:=n2 h<|dS e1;let hkh:kk<h.length:=by rw[qB.1];exact vd
    refine#[_,9,ls,_,0,3 ha,9,9,.of g5,cm (j:=0) rfl,?_];refine#[_,9,.inl #[9,_,dv.of<|jG _ _ gL],_,9,ll,LS,L,i,ha,h,9,9,jG _ _ gL,(hL.mono jG).weak λ_ _=>trivial,e4,jG _ _ Ri,λm r hm iw=>#[?_,?_],?_]
    .rw[qB.1,(n2 r<|dS iw).1]
    .rintro rfl
     let:=e3 m _ hm iw
     rw[e2]at this;cases this
    let pR:bc H (9 H5 ll<|LS.eraseIdx i):=(sm.trans jG).write Es;let gA:(9 H5 ll<|LS.eraseIdx i) ll=13 (LS.eraseIdx i):=bq;let Et:(9 H5 ll<|LS.eraseIdx i) ha=13 (h.map V.int):=by rw[cF nha];exact jG _ _ Ri
    let Rj:LR (λa=>a≠ll/\H a=8) (9 H5 ll<|LS.eraseIdx i) (LS.eraseIdx i) (L.eraseIdx i):=#[(hL.del i).1,λj v r z1 z2=>by
     let[x,e,nx,gx]:=(hL.del i).2 j v r z1 z2;exact#[x,e,nx,by rw[cF nx.1];exact jG _ _ gx]]
    let Rk:LR (λa=>a≠ll/\H a=8) (9 H5 ll<|LS.eraseIdx i) DS D:=#[hDS,λj v r z1 z2=>by
     let[x,e,nx,gx]:=hD.2 j v r z1 z2;exact#[x,e,nx,by rw[cF nx.1];exact jG _ _ gx]]
    let Kx:(9 H5 ll<|LS.eraseIdx i) ld=13 DS:=by rw[cF Bt];exact jG _ _ gD
    generalize 9 H5 ll (LS.eraseIdx i)=H6 at pR gA Et Rj Rk Kx |-;let h0:h.getD kk 0%p≠0:=by simpa using e2
    let uK:=D1.Kr pp h0;let Rl:D1.jF p kk h=h.map λx=>x*dN p (h.getD kk 0%p)%p:=9;let hbx:=qB.at p0 kk;let Ky:(D1.jF p kk h).length=n:=by rw[D1.wQ];exact qB.1
    generalize dN p (h.getD kk 0%p)=u at uK Rl;refine#[λm σ H'=>∃bb:Int,H'=H6/\σ=[0<|2 p,8 a,8 b,8 ll,8 ld,0<|2 (kk:Int),8 ls,8 ha,0<|2 bb]/\1<=bb/\bb<=u/\m=(u-bb).toNat,#[_,1,9,9,7,7,9],?_];rintro m σ H' ⟨bb,rfl,rfl,b1,b2,rfl⟩;refine#[_,9,_,9,_,9,ha,_,(kk:Int),_,9,9,.of Et,cm<|tW hkh,_,_,9,9,.inl #[7,7],_,9,_,_,9,9,p0,9,_,9,tX (λc8=>?_) λheq=>?_]
    .let hbu:bb≠u:=λz=>c8 (aj V.int<|by rw[z];exact uK.2.2);refine#[λσ' fY=>fY=H'/\σ'=[0<|2 p,8 a,8 b,8 ll,8 ld,0<|2 (kk:Int),8 ls,8 ha,0<|2<|bb+1],?_,?_]
     .rintro σ' fY ⟨rfl,rfl⟩;exact#[(u-(bb+1)).toNat,7,bb+1,9,9,7,7,9]
     .exact#[_,9,_,_,9,9,9,9]
    obtain rfl:bb=u:=QU p0 (V.int.inj heq) uK.2.2 7 7 7 uK.2.1;refine#[_,9,ha,9,#[_,.of Et],qx (cp:=[0<|2 bb,0<|2 p]) (λj H' zs=>zs=((h.take j).map λy=>y*bb%p).map V.int) (.of Et) (by rw[bH,qB.1];lia) rfl (λj H' zs e=>by rw[e,bH,bH];exact sO _ _) ?_ ?_]
    .rintro j y fY zs hy i5 rfl;rw[dR]at hy;cases f1:h[j]? with
     |none=>rw[f1]at hy;cases hy
     |some y'=>
      rw[f1]at hy;cases hy;refine oH #[_,9,_,9,_,_,9,9,.inr #[7,7],_,9,_,_,9,9,p0,#[[_],9,9],i5,?_];rw[iM,f1];simp
    rintro HA zs Bx rfl lh ve;rw[bH,nF,<- Rl];generalize D1.jF p kk h=hd at Ky |-;let pS:bc H' (9 HA lh<|hd.map V.int):=Bx.trans<|.upd ve;let gC:(9 HA lh<|hd.map V.int) lh=13 (hd.map V.int):=bq;let lhH:H lh=8:=fj (pR.trans Bx) ve;generalize 9 HA lh (hd.map V.int)=HC at pS gC |-;let hRE:∀r∈L.eraseIdx i,Rn p n r:=λr hr=>n2 r<|Ai hr;refine#[_,9,ll,9,#[_,.of<|pS _ _ gA],Rf p2 cA hn vd (pS _ _ gA) (Rj.mono pS) hRE gC Ky (by rw[List.length_eraseIdx];split<;>lia) (λx H1 R z=>#[_,9,_,9,_,9,_,9,z]) ?_]
    rintro HD MS Eu hM lm tN;let wU:bc H' (9 HD lm MS):=(pS.trans Eu).trans<|.upd tN;let gE:(9 HD lm MS) lm=13 MS:=bq;let Kz:(9 HD lm MS) lh=13 (hd.map V.int):=bc.upd tN _ _<|Eu _ _ gC;let Rm:LR (λa=>a≠lm/\H a=8) (9 HD lm MS) MS ((L.eraseIdx i).map<|iI p kk hd):=#[hM.1,λj v r z1 z2=>by
     let[x,e,nx,gx]:=hM.2 j v r z1 z2
     let:x≠lm:=λz=>by rw[z,tN]at gx;cases gx
     exact#[x,e,#[this,fj (pR.trans pS) nx],by rw[cF this];exact gx]]
    let lmH:H lm=8:=fj ((pR.trans pS).trans Eu) tN;let ab9:lh≠lm:=λz=>by
     let:=Eu _ _ gC
     rw[z,tN]at this;cases this
    generalize 9 HD lm MS=HE at wU gE Kz Rm |-;refine#[_,9,ld,9,#[_,.of<|wU _ _ Kx],Rf p2 cA hn vd (wU _ _ Kx) (Rk.mono wU) n1 Kz Ky 7 (λx H1 R z=>#[_,9,_,9,_,9,_,9,z]) ?_];rintro HF NS Ro hN l1 h1;let hNl:=hN.1;rw[bH]at hNl;refine#[_,9,(by show 11 1;lia),λl2 h2=>#[l1,l2,NS,[3 lh],9,9,bc.upd h2 _ _ bq,bq,by show 11 (NS.length+1);lia,λl3 h3=>?_]];let Ew:bc HE (9 (9 (9 HF l1 NS) l2 [3 lh]) l3<|NS++[3 lh]):=(Ro.trans<|.upd h1).trans<|(bc.upd h2).trans<|.upd h3;let smH:=wU.trans Ew;let KA:HE l3=8:=fj (Ro.trans<|(bc.upd h1).trans<|bc.upd h2) h3;let ne3:l3≠lm:=λz=>by rw[z,gE]at KA;cases KA
    let hN2:LR (λa=>a≠lm/\H a=8) HF NS (D.map<|iI p kk hd):=#[hN.1,λi v r e1 e2=>by
     let[x,e,hx,gx]:=hN.2 i v r e1 e2;let nx:x≠lm:=λz=>by rw[z,gE]at hx;cases hx
     exact#[x,e,#[nx,fj (pR.trans wU) hx],gx]]
    refine#[pR.trans smH,lm,l3,MS,NS++[3 lh],_,_,_,_,9,lmH,fj (pR.trans wU) KA,ne3,Ew _ _ gE,Rm.mono Ew,bq,?_];exact(hN2.mono<|(bc.upd h1).trans<|(bc.upd h2).trans<|.upd h3).snoc #[ab9,lhH]<|Ew _ _ Kz
  .rintro σ H2 ⟨sm,ll,ld,LS,DS,s5,s6,s7,s8,rfl,Es,Bu,Bt,gL,hL,gD,hD⟩;rw[bH,List.length_range]at hL hD;refine#[_,9,_,9,by show 11 2;decide,λl hl=>?_];exact q l ld ll DS LS _ (sm.trans<|.upd hl) (fj sm hl) bq Bu (bc.upd hl _ _ gD) ((hD.mono<|.upd hl).weak λ_ z=>z.2) Es (bc.upd hl _ _ gL)<|(hL.mono<|.upd hl).weak λ_ z=>z.2
def Rp{f fL:Addr}{fd mY:FuncData}(F:cL K "_law_cleared" "_law_cleared" tU f fd)(T:Txt mg)
  (GL:bQ P w K mg base bX 1 fL mY ["p","row","head","place"] (Ek K)) (kL:Kp K fL) (bL:Binds K mY ["p","row","head","place"] []) (mL:Mg mg "_law_less" fL) :
  bQ P w K mg base bX 2 f fd ["p","rows","places"] (Kv K):=((ab8 F T GL kL bL mL).imp λvs H Q E h=>by
 let[p,a,b,XS,rs,n,lo,c,e,pp,ga,hX,r]:=h;exact#[p,a,b,XS,rs,n,lo,c,e,pp,ga,.of hX,r])
end S21
namespace D1
open Bw
variable{A B:LL}{a:4}{g:4->4}{j m:Nat}
def cs(A:LL)(j:Nat)(z:Fn):Int:=fK (A.map λr=>14 j) z
def j5(p:Int)(A:LL)(l r:Nat)(x y:Fn):Prop:=∃z:Fn,(∀j,j<l->eq p (x j) (cs A j z))/\∀j,j<r->eq p (y j) (cs A (l+j) z)
def lG(l r:Nat)(x y:Fn):Fn:=λj=>if j<l then x j else if j<l+r then y (j-l)else 0
def aca{n:Nat}(h:∀r∈A,r.length=n)(hj:n<=j)(z:Fn):cs A j z=0:=(Km _ _ λa ha=>by
 let[r,hr,rfl]:=dF.mp ha;rw[dG,kf (by rw[h r hr];exact hj)];rfl)
def qC{j':Nat}(h:∀r∈A,(g r).getD j 0=14 j')(z:Fn):cs (A.map g) j z=cs A j' z:=by
 unfold cs;rw[List.map_map];exact aj (λl=>fK l z)<|xM h
def y1(h:∀r∈A,(g r).getD j 0=0)(z:Fn):cs (A.map g) j z=0:=(Km _ _ λa ha=>by
 let[q,hq,rfl]:=dF.mp ha;let[r,hr,rfl]:=dF.mp hq;exact h r hr)
theorem Rq:∀(l:4)(z:Fn),fK (l.map λa=>-a) z=-fK l z
 | [],_=>rfl
 |a::l,z=>by
  show -a*z 0+fK (l.map λa=>-a) (sh 1 z)=-(a*z 0+fK l (sh 1 z));rw[Rq l,Int.neg_mul];lia
def acb{j':Nat}(h:∀r∈A,(g r).getD j 0=-(14 j'))(z:Fn):cs (A.map g) j z=-cs A j' z:=by
 unfold cs;rw[<- Rq,List.map_map,List.map_map];exact aj (λl=>fK l z)<|xM h
def nZ(A B:LL)(j:Nat)(z:Fn):cs (A++B) j z=cs A j z+cs B j (sh A.length z):=by
 unfold cs;rw[eC,QW,bH]
def acd{p:Int}(h:∀r∈A,p∣14 j)(z:Fn):p∣cs A j z:=by
 let key:∀(l:4)(z:Fn),(∀a∈l,p∣a)->p∣fK l z:=λl=>by
  induction l with
  |nil=>intro z _;exact#[0,by show(0:Int)=_;simp]
  |cons a l ih=>intro z hl;exact sM (Int.dvd_trans (hl a du) #[z 0,9])<|ih _ λb hb=>hl b<|gq _ hb
 exact key _ z λa ha=>by
  let[r,hr,rfl]:=dF.mp ha;exact h r hr
def kq(n:Nat)(u v:Fn):Fn:=λk=>if k<n then u k else v (k-n)
def Ex(u v:Fn):cs A j (kq A.length u v)=cs A j u:=by
 let key:∀(l:4)(z z':Fn),(∀k,k<l.length->z k=z' k)->fK l z=fK l z':=λl=>by
  induction l with
  |nil=>intros;rfl
  |cons a l ih=>
   intro z z' h;show a*z 0+fK l (sh 1 z)=a*z' 0+fK l (sh 1 z');rw[h 0 17,ih (sh 1 z) (sh 1 z') λk hk=>h (1+k) (by simp;lia)]
 exact key _ _ _ λk hk=>by
  rw[bH]at hk;unfold kq;rw[af hk]
def Ey(n:Nat)(u v:Fn):sh n (kq n u v)=v:=(funext λk=>by
 unfold sh kq;rw[ag 7,show n+k-n=k by lia])
def nc{p:Int}{l r:Nat}(h:∀q∈A,q.length=l+r)(x y:Fn):Sp p (RS A) (lG l r x y)↔j5 p A l r x y:=by
 rw[abT];constructor
 .rintro⟨z,hz⟩;refine#[z,λj hj=>?_,λj hj=>?_]
  .let:=hz j
   unfold lG at this;rwa[af hj]at this
  .let:=hz<|l+j
   unfold lG at this;rwa[ag 7,af 7,show l+j-l=j by lia]at this
 .rintro⟨z,h1,h2⟩;refine#[z,λj=>?_];unfold lG;by_cases hj:j<l
  .rw[af hj];exact h1 j hj
  .rw[ag hj];by_cases Rr:j<l+r
   .rw[af Rr]
    let:=h2 (j-l) 7
    rwa[show l+(j-l)=j by lia]at this
   .rw[ag Rr]
    let:=aca h (show l+r<=j by lia) z
    unfold cs at this;rw[this];exact .refl _ _
def pT(l:Nat)(q:4):4:=q.drop l++q.take l
def j6(l l' r':Nat)(q:4):4:=q.take l++16 l' 0++q.drop l++16 r' 0
def lH(l r l':Nat)(q:4):4:=16 l 0++q.take l'++16 r 0++q.drop l'
def oO(r:Nat)(q:4):4:=q++16 r 0
def pU(l m:Nat)(q:4):4:=16 l 0++(q.take m).map (λx=>0-x)++q.drop m
def y2(l m:Nat)(q:4):4:=q.take l++q.drop (l+m)
def kr(l m r:Nat)(A B:LL):LL:=A.map (oO r)++B.map (pU l m)
def oP(p:Int)(l m r:Nat)(A B:LL):LL:=(gg p l (kr l m r A B) m).2.map<|y2 l m
def By(p:Int)(l m r:Nat)(A B:LL):LL:=(gg p 0 (oP p l m r A B)<|l+r).1
namespace Dr
noncomputable def bh(p:Int):Dr->LL
 |id=>[[1,1]] | swap=>[[1,0,0,1],[0,1,1,0]] | copy=>[[1,1,1]] | fin=>[[1]] | add=>[[1,0,1],[0,1,1]] | none=>[] | fZ=>[[1,1]] | empty=>[]
 |times n=>[[1,n]]
 |back d=>(d.bh p).map (pT d.l)
 |bo a b=>(a.bh p).map (j6 a.l b.l b.r)++(b.bh p).map (lH a.l a.r b.l)
 |bg a b=>By p a.l a.r b.r (a.bh p) (b.bh p)
end Dr
section
variable{p:Int}
def jH{b:4}:(a++b).getD j 0=if j<a.length then a.getD j 0 else b.getD (j-a.length) 0:=by
 rw[dG,List.getElem?_append];split<;>rw[dG]
def Bz{k:Nat}:(a.take k).getD j 0=if j<k then a.getD j 0 else 0:=by
 rw[dG,List.getElem?_take];split
 .rw[dG]
 .rfl
def wV{k:Nat}:(a.drop k).getD j 0=a.getD (k+j) 0:=by
 rw[dG,vR,dG]
def pV{k:Nat}:(16 k (0:Int)).getD j 0=0:=by
 rw[dG,List.getElem?_replicate];split<;>rfl
def Rt{l r:Nat}(h:∀q∈A,q.length=l+r)(x y:Fn):j5 p (A.map<|pT l) r l x y↔j5 p A l r y x:=by
 let c1:∀j,j<r->∀z,cs (A.map<|pT l) j z=cs A (l+j) z:=λj hj z=>qC (λq hq=>by
  unfold pT;rw[jH,af (by rw[dU,h q hq];lia),wV]) z
 let c2:∀j,j<l->∀z,cs (A.map<|pT l) (r+j) z=cs A j z:=λj hj z=>qC (λq hq=>by
  unfold pT;rw[jH,ag (by rw[dU,h q hq];lia),Bz,dU,h q hq,show r+j-(l+r-l)=j by lia,af hj]) z
 constructor
 .rintro⟨z,h1,h2⟩;exact#[z,λj hj=>c2 j hj z▸h2 j hj,λj hj=>c1 j hj z▸h1 j hj]
 .rintro⟨z,h1,h2⟩;exact#[z,λj hj=>(c1 j hj z).symm▸h2 j hj,λj hj=>(c2 j hj z).symm▸h1 j hj]
def Ru{l r l' r':Nat}(h:∀q∈A,q.length=l+r)(h':∀q∈B,q.length=l'+r')(x y:Fn) :
  j5 p (A.map (j6 l l' r')++B.map (lH l r l')) (l+l') (r+r') x y↔j5 p A l r x y/\j5 p B l' r' (sh l x) (sh r y):=by
 let a1:∀j,j<l->∀z,cs (A.map<|j6 l l' r') j z=cs A j z:=λj hj z=>qC (λq hq=>by
  let:=h q hq
  unfold j6;simp only[jH,Bz,cb,cV,fg,dU];rw[af 7,af 7,af 7,af hj]) z
 let a2:∀j,j<l'->∀z,cs (A.map<|j6 l l' r') (l+j) z=0:=λj hj z=>y1 (λq hq=>by
  let:=h q hq
  unfold j6;simp only[jH,pV,cb,cV,fg,dU];rw[af 7,af 7,ag 7]) z
 let a3:∀j,j<r->∀z,cs (A.map<|j6 l l' r') (l+l'+j) z=cs A (l+j) z:=λj hj z=>qC (λq hq=>by
  let:=h q hq
  unfold j6;simp only[jH,pV,wV,cb,cV,fg,dU];rw[af 7,ag 7]
  congr 1
  lia) z
 let a4:∀j,j<r'->∀z,cs (A.map<|j6 l l' r') (l+l'+(r+j)) z=0:=λj hj z=>y1 (λq hq=>by
  let:=h q hq
  unfold j6;simp only[jH,pV,wV,cb,cV,fg,dU];rw[ag 7]) z
 let b1:∀j,j<l->∀z,cs (B.map<|lH l r l') j z=0:=λj hj z=>y1 (λq hq=>by
  let:=h' q hq
  unfold lH;simp only[jH,pV,cb,cV,fg,dU];rw[af 7,af 7,af 7]) z
 let b2:∀j,j<l'->∀z,cs (B.map<|lH l r l') (l+j) z=cs B j z:=λj hj z=>qC (λq hq=>by
  let:=h' q hq
  unfold lH;simp only[jH,pV,Bz,cb,cV,fg,dU];rw[af 7,af 7,ag 7,show l+j-l=j by lia,af hj]) z
 let b3:∀j,j<r->∀z,cs (B.map<|lH l r l') (l+l'+j) z=0:=λj hj z=>y1 (λq hq=>by
  let:=h' q hq
  unfold lH;simp only[jH,pV,Bz,cb,cV,fg,dU];rw[af 7,ag 7]) z
 let b4:∀j,j<r'->∀z,cs (B.map<|lH l r l') (l+l'+(r+j)) z=cs B (l'+j) z:=λj hj z=>qC (λq hq=>by
  let:=h' q hq
  unfold lH;simp only[jH,pV,wV,cb,cV,fg,dU];rw[ag 7]
  congr 1
  lia) z
 constructor
 .rintro⟨z,h1,h2⟩;refine#[#[z,λj hj=>?_,λj hj=>?_],#[sh A.length z,λj hj=>?_,λj hj=>?_]]
  .let:=h1 j 7
   rwa[nZ,a1 j hj,b1 j hj,sN]at this
  .let:=h2 j 7
   rwa[nZ,a3 j hj,b3 j hj,sN]at this
  .let:=h1 (l+j) 7
   rwa[nZ,a2 j hj,b2 j hj,lQ,bH]at this
  .let:=h2 (r+j) 7
   rwa[nZ,a4 j hj,b4 j hj,lQ,bH]at this
 .rintro⟨⟨z,h1,h2⟩,⟨z',h3,h4⟩⟩;refine#[kq A.length z z',λj hj=>?_,λj hj=>?_]
  .by_cases wW:j<l
   .rw[nZ,a1 j wW,b1 j wW,sN,Ex];exact h1 j wW
   .let:=h3 (j-l) 7
    rw[show j=l+(j-l) by lia,nZ,a2 _ 7,b2 _ 7,lQ,bH,Ey];exact this
  .by_cases wW:j<r
   .rw[nZ,a3 j wW,b3 j wW,sN,Ex];exact h2 j wW
   .let:=h4 (j-r) 7
    rw[show j=r+(j-r) by lia,nZ,a4 _ 7,b4 _ 7,lQ,bH,Ey];exact this
def Ez{l r:Nat}(p0:0<p)(h:Bw.cC p (l+m) A)(h':Bw.cC p (m+r) B):pP p (l+m+r) l (l+m) 0 (kr l m r A B) (kr l m r A B):=by
 refine .start (λq hq=>?_) (λq hq x hx=>?_) λq hq j hj=>?_;all_goals rcases(eB.mp hq)with(rS|rS)
 all_goals clear hq
 all_goals let[q,hq,rfl]:=dF.mp rS
 all_goals clear rS
 .let:=(h q hq).1
  simp only[oO,cb,fg];lia
 .let:=(h' q hq).1
  simp only[pU,cb,fg,bH,cV,dU];lia
 .unfold oO at hx;rcases(eB.mp hx)with(hx|hx)
  .let:=(h q hq).2 x hx
   lia
  .let:=(xN.mp hx).2
   lia
 .unfold pU at hx;rcases(eB.mp hx)with(hx|hx)
  .rcases(eB.mp hx)with(hx|hx)
   .let:=(xN.mp hx).2
    lia
   .let[u,hu,rfl]:=dF.mp hx
    let:=(h' q hq).2 u<|qg hu
    lia
  .let:=(h' q hq).2 x<|qh hx
   lia
 .unfold oO;rw[jH,pV];split
  .exact((h q hq).at p0 j).1
  .lia
 .let hl:=(h' q hq).1;unfold pU;simp only[jH,pV,wV,cb,bH,cV,fg];rcases hj with hj|hj
  .rw[af 7,af 7];lia
  .rw[ag 7];exact((h' q hq).at p0 _).1
def y3{l r:Nat}(pp:p∈cM)(h:Bw.cC p (l+m) A)(h':Bw.cC p (m+r) B):Bw.cC p (l+r) (oP p l m r A B):=by
 let p0:0<p:=by let:=gK p pp;lia
 let S:=Ep pp (Ez p0 h h') m;intro q0 rS;let[q,hq,rfl]:=dF.mp rS;clear rS;let hl:=S.len q hq;refine#[by simp only[y2,cb,cV,dU];lia,λx hx=>?_];unfold y2 at hx;rcases(eB.mp hx)with(hx|hx)
 .let[i,hi,rfl]:=uC.mp hx;rw[cV]at hi;rw[List.getElem_take];let h1:=S.near q hq _ (pd<|show i<q.length by lia);let h2:=S.pos q hq i<|.inl 7;rw[dG,cD (show i<q.length by lia)]at h2;exact#[h2,h1.2]
 .let[i,hi,rfl]:=uC.mp hx;rw[dU]at hi;rw[List.getElem_drop];let h1:=S.near q hq _ (pd<|show l+m+i<q.length by lia);let h2:=S.pos q hq (l+m+i)<|.inr 7;rw[dG,cD (show l+m+i<q.length by lia)]at h2;exact#[h2,h1.2]
def Rx{l r:Nat}(pp:p∈cM)(h:Bw.cC p (l+m) A)(h':Bw.cC p (m+r) B):By p l m r A B=eQ p (oP p l m r A B):=(En pp<|y3 pp h h')
def ace{l r:Nat}(pp:p∈cM)(h:Bw.cC p (l+m) A)(h':Bw.cC p (m+r) B)(x y:Fn) :
  j5 p (By p l m r A B) l r x y↔∃z,j5 p A l m x z/\j5 p B m r z y:=by
 let p0:0<p:=by let:=gK p pp;lia
 let hT:=y3 pp h h';let R:=lD pp hT;let S:=Ep pp (Ez p0 h h') m;rw[Rx pp h h',<- nc (λq hq=>(R.rws q hq).1),(#[qy R.sub,qy R.sup]:Sp p (RS<|eQ p<|oP p l m r A B) (lG l r x y)↔Sp p (RS<|oP p l m r A B) (lG l r x y)),nc (λq hq=>(hT q hq).1)];let t1:∀j,j<l->∀z,cs (oP p l m r A B) j z=cs (gg p l (kr l m r A B) m).2 j z:=λj hj z=>qC (λq hq=>by
  let:=S.len q hq
  unfold y2;rw[jH,Bz,af (by rw[cV];lia),af hj]) z
 let t2:∀j,j<r->∀z,cs (oP p l m r A B) (l+j) z=cs (gg p l (kr l m r A B) m).2 (l+m+j) z:=λj hj z=>qC (λq hq=>by
  let:=S.len q hq
  unfold y2;rw[jH,wV,ag (by rw[cV];lia),cV]
  congr 1
  lia) z
 let t3:∀j,j<m->∀z,p∣cs (gg p l (kr l m r A B) m).2 (l+j) z:=λj hj z=>acd (λq hq=>((S.sp<|fn q).mp<|.mem #[q,hq,9]).2 (l+j) 7 7) z;let a1:∀j,j<l->∀z,cs (A.map<|oO r) j z=cs A j z:=λj hj z=>qC (λq hq=>by
  let:=(h q hq).1
  unfold oO;rw[jH,af 7]) z
 let a2:∀j,j<m->∀z,cs (A.map<|oO r) (l+j) z=cs A (l+j) z:=λj hj z=>qC (λq hq=>by
  let:=(h q hq).1
  unfold oO;rw[jH,af 7]) z
 let a3:∀j,j<r->∀z,cs (A.map<|oO r) (l+m+j) z=0:=λj hj z=>y1 (λq hq=>by
  let:=(h q hq).1
  unfold oO;rw[jH,ag 7,pV]) z
 let b1:∀j,j<l->∀z,cs (B.map<|pU l m) j z=0:=λj hj z=>y1 (λq hq=>by
  unfold pU;simp only[jH,pV,cb,bH,cV,fg];rw[af 7,af 7]) z
 let b2:∀j,j<m->∀z,cs (B.map<|pU l m) (l+j) z=-cs B j z:=λj hj z=>acb (λq hq=>by
  let hl:=(h' q hq).1;unfold pU;simp only[jH,pV,cb,bH,cV,fg];rw[af 7,ag 7,show l+j-l=j by lia,dG,dR,List.getElem?_take,af hj,cD 7,dG,cD 7];exact Int.zero_sub _) z
 let b3:∀j,j<r->∀z,cs (B.map<|pU l m) (l+m+j) z=cs B (m+j) z:=λj hj z=>qC (λq hq=>by
  let hl:=(h' q hq).1;unfold pU;simp only[jH,wV,cb,bH,cV,fg];rw[ag 7]
  congr 1
  lia) z
 let EA:∀q∈kr l m r A B,q.length=l+m+r:=(Ez p0 h h').len
 let' f:Fn:=lG l (m+r) x<|kq m (λ_=>0) y
 let fz:∀j,l<=j->j<l+m->p∣f j:=λj h1 h2=>#[0,by
  show lG l (m+r) x (kq m (λ_=>0) y) j=_;unfold lG kq;rw[ag 7,af 7,af 7];simp]
 let e1:j5 p (oP p l m r A B) l r x y↔Sp p (RS (gg p l (kr l m r A B) m).2) f:=by
  rw[nc (λq hq=>by rw[S.len q hq];lia)];constructor
  .rintro⟨z,h1,h2⟩;refine#[z,λj hj=>t1 j hj z▸h1 j hj,λj hj=>?_];unfold kq;by_cases hm:j<m
   .rw[af hm];exact eq.symm (show p∣_-0 by rw[Int.sub_zero];exact t3 j hm z)
   .rw[ag hm]
    let:=h2 (j-m) 7
    rwa[t2 _ 7,show l+m+(j-m)=l+j by lia]at this
  .rintro⟨z,h1,h2⟩;refine#[z,λj hj=>(t1 j hj z).symm▸h1 j hj,λj hj=>?_]
   let:=h2 (m+j) 7
   unfold kq at this;rw[ag 7,show m+j-m=j by lia,show l+(m+j)=l+m+j by lia]at this;rw[t2 j hj];exact this
 rw[e1,S.sp f,nc (λq hq=>by rw[EA q hq];lia)];constructor
 .rintro⟨⟨z,h1,h2⟩,_⟩;let two:∀j,j<m->eq p (cs A (l+j) z) (cs B j<|sh A.length z):=λj hj=>by
   let:=h2 j 7
   unfold kq at this;rw[af hj,show cs (kr l m r A B) (l+j) z=_ from nZ _ _ _ _,a2 j hj,b2 j hj,bH]at this
   let[c,hc]:=this;let ja:(0:Int)-(cs A (l+j) z + -cs B j (sh A.length z))=p*c:=hc;exact#[-c,by rw[Int.mul_neg,<- ja];lia]
  refine#[λj=>cs A (l+j) z,#[z,λj hj=>?_,λj hj=>.refl _ _],#[sh A.length z,λj hj=>two j hj,λj hj=>?_]]
  .let:=h1 j hj
   rwa[show cs (kr l m r A B) j z=_ from nZ _ _ _ _,a1 j hj,b1 j hj,sN]at this
  .let:=h2 (m+j) 7
   unfold kq at this;rwa[ag 7,show m+j-m=j by lia,show l+(m+j)=l+m+j by lia,show cs (kr l m r A B) (l+m+j) z=_ from nZ _ _ _ _,a3 j hj,b3 j hj,lQ,bH]at this
 .rintro⟨w,⟨z,h1,h2⟩,⟨z',h3,h4⟩⟩;refine#[#[kq A.length z z',λj hj=>?_,λj hj=>?_],fz]
  .rw[show cs (kr l m r A B) j (kq A.length z z')=_ from nZ _ _ _ _,a1 j hj,b1 j hj,sN,Ex]
   exact h1 j hj
  .by_cases hm:j<m
   .rw[show cs (kr l m r A B) (l+j) (kq A.length z z')=_ from nZ _ _ _ _,a2 j hm,b2 j hm,Ex,bH,Ey]
    unfold kq;rw[af hm];let[c,hc]:=(h2 j hm).symm.trans<|h3 j hm;refine#[-c,?_];show(0:Int)-(cs A (l+j) z + -cs B j z')=_;rw[Int.mul_neg,<- hc];lia
   .let:=h4 (j-m) 7
    rw[show l+j=l+m+(j-m) by lia,show cs (kr l m r A B) (l+m+(j-m)) (kq A.length z z')=_ from nZ _ _ _ _,a3 _ 7,b3 _ 7,lQ,bH,Ey]
    unfold kq;rw[ag hm];exact this
def Ry{n:Int}{x y:Fn}:j5 p [[1,n]] 1 1 x y↔eq p (y 0) (n*x 0):=by
 constructor
 .rintro⟨z,h1,h2⟩;let[a,ha]:=h1 0 7;let[b,hb]:=h2 0 7;let tZ:x 0-(1*z 0+0)=p*a:=ha;let oE:y 0-(n*z 0+0)=p*b:=hb;exact#[b-n*a,by grind]
 .rintro⟨a,ha⟩;refine#[x,λj hj=>?_,λj hj=>?_]
  .obtain rfl:j=0:=by lia
   exact#[0,by show x 0-(1*x 0+0)=_;lia]
  .obtain rfl:j=0:=by lia
   exact#[a,by show y 0-(n*x 0+0)=_;lia]
def BA(h:j<2):j=0\/j=1:=by lia
def BC(pp:p∈cM):∀{d:Dr},d.wf p->Bw.cC p (d.l+d.r) (d.bh p)/\(d.bh p).length<=d.l+d.r/\∀x y:Fn,fX p d x y↔j5 p (d.bh p) d.l d.r x y:=by
 let p2:2<=p:=(gK p pp).1;let box:∀{q:4},(∀x∈q,x=0\/x=1)->∀x∈q,0<=x/\x<p:=λh x hx=>by rcases h x hx with h|h<;>lia
 intro d;induction d with
 |id=>
  intro _;refine#[λq hq=>?_,(by show 1<=2;decide),λx y=>Iff.trans ?_ Ry.symm]
  .obtain rfl:=cT.mp hq;exact#[9,box 17]
  .show eq p (y 0) (x 0)↔_;rw[sP]
 |times n=>
  intro h;refine#[λq hq=>?_,(by show 1<=2;decide),λx y=>Ry.symm];obtain rfl:=cT.mp hq;refine#[9,λx hx=>?_];let h0:0<=n/\n<p:=h;rcases(eK.mp hx)with(rfl|hx)
  .lia
  .obtain rfl:=cT.mp hx;exact h0
 |swap=>
  intro _;refine#[λq hq=>?_,by show 2<=04;decide,λx y=>#[?_,?_]]
  .rcases(eK.mp hq)with(rfl|hq)
   .exact#[9,box 17]
   .obtain rfl:=cT.mp hq;exact#[9,box 17]
  .rintro⟨⟨a,ha⟩,⟨b,hb⟩⟩;refine#[x,λj hj=>?_,λj hj=>?_]
   .rcases BA hj with rfl|rfl
    .exact#[0,by show x 0-(1*x 0+(0*x (1+0)+0))=_;simp]
    .exact#[0,by show x 1-(0*x 0+(1*x (1+0)+0))=_;simp]
   .rcases BA hj with rfl|rfl
    .exact#[a,by show y 0-(0*x 0+(1*x (1+0)+0))=_;rw[show(1+0)=1 from 9];lia]
    .exact#[b,by show y 1-(1*x 0+(0*x (1+0)+0))=_;lia]
  .rintro⟨z,h1,h2⟩;let[a,ha]:=h1 0 16;let[b,hb]:=h1 1 16;let[c,hc]:=h2 0 16;let[e,he]:=h2 1 16;let tZ:x 0-(1*z 0+(0*z (1+0)+0))=p*a:=ha;let oE:x 1-(0*z 0+(1*z (1+0)+0))=p*b:=hb;let ja:y 0-(0*z 0+(1*z (1+0)+0))=p*c:=hc;let EB:y 1-(1*z 0+(0*z (1+0)+0))=p*e:=he;exact#[#[c-b,by rw[rj];lia],#[e-a,by rw[rj];lia]]
 |copy=>
  intro _;refine#[λq hq=>?_,by show 1<=3;decide,λx y=>#[?_,?_]]
  .obtain rfl:=cT.mp hq;exact#[9,box 17]
  .rintro⟨⟨a,ha⟩,⟨b,hb⟩⟩;refine#[x,λj hj=>?_,λj hj=>?_]
   .obtain rfl:j=0:=by let:j<1:=hj;lia
    exact#[0,by show x 0-(1*x 0+0)=_;lia]
   .rcases BA hj with rfl|rfl
    .exact#[a,by show y 0-(1*x 0+0)=_;lia]
    .exact#[b,by show y 1-(1*x 0+0)=_;lia]
  .rintro⟨z,h1,h2⟩;let[a,ha]:=h1 0 16;let[c,hc]:=h2 0 16;let[e,he]:=h2 1 16;let tZ:x 0-(1*z 0+0)=p*a:=ha;let ja:y 0-(1*z 0+0)=p*c:=hc;let EB:y 1-(1*z 0+0)=p*e:=he;exact#[#[c-a,by rw[rj];lia],#[e-a,by rw[rj];lia]]
 |fin=>
  intro _;refine#[λq hq=>?_,by show 1<=1;decide,λx y=>#[λ_=>#[x,λj hj=>?_,λj hj=>absurd hj (by show ¬j<0;lia)],λ_=>trivial]]
  .obtain rfl:=cT.mp hq;exact#[9,box 17]
  .obtain rfl:j=0:=by let:j<1:=hj;lia
   exact#[0,by show x 0-(1*x 0+0)=_;lia]
 |add=>
  intro _;refine#[λq hq=>?_,by show 2<=3;decide,λx y=>#[?_,?_]]
  .rcases(eK.mp hq)with(rfl|hq)
   .exact#[9,box 17]
   .obtain rfl:=cT.mp hq;exact#[9,box 17]
  .rintro⟨a,ha⟩;refine#[x,λj hj=>?_,λj hj=>?_]
   .rcases BA hj with rfl|rfl
    .exact#[0,by show x 0-(1*x 0+(0*x (1+0)+0))=_;simp]
    .exact#[0,by show x 1-(0*x 0+(1*x (1+0)+0))=_;simp]
   .obtain rfl:j=0:=by let:j<1:=hj;lia
    exact#[a,by show y 0-(1*x 0+(1*x (1+0)+0))=_;rw[show(1+0)=1 from 9];lia]
  .rintro⟨z,h1,h2⟩;let[a,ha]:=h1 0 16;let[b,hb]:=h1 1 16;let[c,hc]:=h2 0 16;let tZ:x 0-(1*z 0+(0*z (1+0)+0))=p*a:=ha;let oE:x 1-(0*z 0+(1*z (1+0)+0))=p*b:=hb;let ja:y 0-(1*z 0+(1*z (1+0)+0))=p*c:=hc;exact#[c-a-b,by rw[rj,rj];lia]
 |none=>
  intro _;refine#[λq hq=>(nomatch hq),by show 0<=1;decide,λx y=>#[λh=>#[x,λj hj=>absurd hj (by show ¬j<0;lia),λj hj=>?_],λ⟨z,_,h2⟩=>h2 0 16]];obtain rfl:j=0:=by let:j<1:=hj;lia
  exact h
 |fZ=>
  intro _;refine#[λq hq=>?_,by show 1<=2;decide,λx y=>#[?_,?_]]
  .obtain rfl:=cT.mp hq;exact#[9,box 17]
  .rintro⟨a,ha⟩;refine#[y,λj hj=>absurd hj (by show ¬j<0;lia),λj hj=>?_];rcases BA hj with rfl|rfl
   .exact#[0,by show y 0-(1*y 0+0)=_;lia]
   .exact#[a,by show y 1-(1*y 0+0)=_;lia]
  .rintro⟨z,_,h2⟩;let[c,hc]:=h2 0 16;let[e,he]:=h2 1 16;let ja:y 0-(1*z 0+0)=p*c:=hc;let EB:y 1-(1*z 0+0)=p*e:=he;exact#[e-c,by rw[rj];lia]
 |empty=>
  intro _;exact#[λq hq=>(nomatch hq),by show 0<=0;decide,λx y=>#[λh=>#[x,λj hj=>absurd hj (by show ¬j<0;lia),λj hj=>absurd hj (by show ¬j<0;lia)],λ_=>trivial]]
 |back d ih=>
  intro h;let[i1,i2,i3]:=ih h;refine#[λq0 rS=>?_,?_,λx y=>?_]
  .let[q,hq,rfl]:=dF.mp rS;let[j1,j2]:=i1 q hq;refine#[?_,λx hx=>?_]
   .show(pT d.l q).length=d.r+d.l;simp only[pT,cb,dU,cV];lia
   .rcases(eB.mp hx)with(hx|hx)
    .exact j2 x<|qh hx
    .exact j2 x<|qg hx
  .show((d.bh p).map _).length<=d.r+d.l;rw[bH];lia
  .exact(i3 y x).trans (Rt (λq hq=>(i1 q hq).1) x y).symm
 |bo a b c9 de=>
  intro h;let[i1,i2,i3]:=c9 h.1;let[j1,j2,j3]:=de h.2;refine#[λq0 rS=>?_,?_,λx y=>?_]
  .rcases(eB.mp rS)with(lC|lC)
   .let[q,hq,rfl]:=dF.mp lC;let[k1,k2]:=i1 q hq;refine#[?_,λx hx=>?_]
    .show(j6 a.l b.l b.r q).length=a.l+b.l+(a.r+b.r);simp only[j6,cb,dU,cV,fg];lia
    .unfold j6 at hx;simp only[eB,xN]at hx;rcases hx with((hx|hx)|hx)|hx
     .exact k2 x<|qg hx
     .lia
     .exact k2 x<|qh hx
     .lia
   .let[q,hq,rfl]:=dF.mp lC;let[k1,k2]:=j1 q hq;refine#[?_,λx hx=>?_]
    .show(lH a.l a.r b.l q).length=a.l+b.l+(a.r+b.r);simp only[lH,cb,dU,cV,fg];lia
    .unfold lH at hx;simp only[eB,xN]at hx;rcases hx with((hx|hx)|hx)|hx
     .lia
     .exact k2 x<|qg hx
     .lia
     .exact k2 x<|qh hx
  .show(((a.bh p).map _)++((b.bh p).map _)).length<=a.l+b.l+(a.r+b.r);rw[cb,bH,bH];lia
  .show fX p a x y/\fX p b (sh a.l x) (sh a.r y)↔_;rw[i3,j3];exact(Ru (λq hq=>(i1 q hq).1) (λq hq=>(j1 q hq).1) x y).symm
 |bg a b c9 de=>
  intro h;let[i1,i2,i3]:=c9 h.1;let[j1,j2,j3]:=de h.2.1;let e:b.l=a.r:=h.2.2.symm;rw[e]at j1 j3;let R:=lD pp<|y3 pp i1 j1;let er:Dr.bh p (.bg a b)=eQ p (oP p a.l a.r b.r (a.bh p)<|b.bh p):=Rx pp i1 j1;refine#[?_,?_,λx y=>?_]
  .rw[er];exact R.rws
  .rw[er,<- En pp (y3 pp i1 j1)];exact(Bq pp (y3 pp i1 j1) (a.l+b.r)<|ck _).len<|ck _
  .show(∃z,fX p a x z/\fX p b z y)↔_;simp only[i3,j3];exact(ace pp i1 j1 x y).symm
end
end D1
namespace D1
open Bw
namespace Dr
def eO(B:Nat):6 Dr
 |back d=>d.eO B
 |bo a b=>a.eO B/\b.eO B/\a.l+b.l+(a.r+b.r)<=B
 |bg a b=>a.eO B/\b.eO B/\a.l+b.r<=B
 |_=>True
end Dr
theorem Rz{B:Nat}(h4:04<=B):∀{d:Dr},d.eO B->d.l+d.r<=B
 | .id,_=>by show 1+1<=B;lia
 | .swap,_=>by show 2+2<=B;lia
 | .copy,_=>by show 1+2<=B;lia
 | .fin,_=>by show 1+0<=B;lia
 | .add,_=>by show 2+1<=B;lia
 | .none,_=>by show 0+1<=B;lia
 | .fZ,_=>by show 0+2<=B;lia
 | .empty,_=>by show 0+0<=B;lia
 | .times _,_=>by show 1+1<=B;lia
 | .back d,h=>by let:d.l+d.r<=B:=Rz h4 (d:=d) h;show d.r+d.l<=B;lia
 | .bo _ _,h=>h.2.2
 | .bg _ _,h=>h.2.2
section
variable{B:Nat}
end
abbrev oQ:=7 Int×1 Dr
noncomputable def EC:7 Int->1 Wd
 |some m=>[.n m]
 |none=>[]
def ng(s:oQ):1 Wd:=EC s.1++s.2.flatMap Dr.aY
noncomputable def ub:oQ->oQ
 |(some _,ds)=>(none,ds)
 |(none,[])=>(none,[])
 |(none,.times n::ds)=>(0 n,ds)
 |(none,.back d::ds)=>(none,d::ds)
 |(none,.bo a b::ds)=>(none,a::b::ds)
 |(none,.bg a b::ds)=>(none,a::b::ds)
 |(none,_::ds)=>(none,ds)
noncomputable def gO(s:oQ):Nat->oQ
 |0=>s
 |i+1=>ub (gO s i)
theorem acf:∀s:oQ,ng (ub s)=(ng s).drop 1
 |(some m,ds)=>rfl
 |(none,[])=>rfl
 |(none,.times n::ds)=>rfl
 |(none,.back d::ds)=>rfl
 |(none,.bo a b::ds)=>by simp[ub,ng,EC,Dr.aY]
 |(none,.bg a b::ds)=>by simp[ub,ng,EC,Dr.aY]
 |(none,.id::ds)=>rfl
 |(none,.swap::ds)=>rfl
 |(none,.copy::ds)=>rfl
 |(none,.fin::ds)=>rfl
 |(none,.add::ds)=>rfl
 |(none,.none::ds)=>rfl
 |(none,.fZ::ds)=>rfl
 |(none,.empty::ds)=>rfl
theorem ED(s:oQ):∀i,ng (gO s i)=(ng s).drop i
 |0=>by rw[List.drop_zero];rfl
 |i+1=>by
  show ng (ub<|gO s i)=_;rw[acf,ED s i,List.drop_drop]
def acg:∀d:Dr,1<=23:=(λd=>by cases d<;>simp[Dr.aY])
theorem y4:∀ds:1 Dr,ds.length<=(ds.flatMap Dr.aY).length
 | []=>ck 0
 |d::ds=>by
  let:=y4 ds
  let:=acg d
  rw[pe,cb,eX];lia
def ach{s:oQ}(h:ng s=[]):s=(none,[]):=by
 let[m,ds]:=s;unfold ng at h;let[h1,h2]:=List.append_eq_nil_iff.mp h;cases m with
 |some m=>cases h1
 |none=>
  let:=y4 ds
  dsimp only at h2;rw[h2]at this;rw[List.length_eq_zero_iff.mp (Nat.le_zero.mp this)]
def ma(p:Int)(B:Nat)(s:oQ):Prop:=(∀m,s.1=0 m->0<=m/\m<p)/\∀d∈s.2,d.wf p/\d.eO B
def aci{p:Int}{B:Nat}:∀s:oQ,ma p B s->ma p B (ub s):=by
 intro s h;let[m,ds]:=s;let tl:∀{d:Dr}{ds:1 Dr},ma p B (none,d::ds)->ma p B (none,ds):=λh=>#[λm e=>(nomatch e),λd hd=>h.2 d<|gq _ hd];let hd:∀{d:Dr}{ds:1 Dr},ma p B (none,d::ds)->d.wf p/\d.eO B:=λh=>h.2 _ du;let cn:∀{d:Dr}{ds:1 Dr},d.wf p/\d.eO B->ma p B (none,ds)->ma p B (none,d::ds):=λa h=>#[λm e=>(nomatch e),λd hd=>by
  rcases(eK.mp hd)with(rfl|hd)
  .exact a
  .exact h.2 d hd]
 cases m with
 |some m=>exact#[λm e=>(nomatch e),h.2]
 |none=>
  cases ds with
  |nil=>exact h
  |cons d ds=>
   cases d with
   |times n=>exact#[λm e=>by cases e;exact(hd h).1,(tl h).2]
   |back d=>exact cn (d:=d) #[(hd h).1,(hd h).2]<|tl h
   |bo a b=>exact cn #[(hd h).1.1,(hd h).2.1]<|cn #[(hd h).1.2,(hd h).2.2.1]<|tl h
   |bg a b=>exact cn #[(hd h).1.1,(hd h).2.1]<|cn #[(hd h).1.2.1,(hd h).2.2.1]<|tl h
   |_=>exact tl h
theorem KC{p:Int}{B:Nat}{s:oQ}(h:ma p B s):∀i,ma p B (gO s i)
 |0=>h
 |i+1=>aci _ (KC h i)
def KD(d:Dr):ng (none,[d])=d.aY:=by simp[ng,EC]
def RC{d:Dr}{i:Nat}:d.aY[i]?=(ng<|gO (none,[d]) i)[0]?:=by
 rw[ED,KD,vR,Nat.add_zero]
def EE(d:Dr):gO (none,[d]) 23=(none,[]):=(ach<|by rw[ED,KD,List.drop_length])
def RD(d:Dr)(i:Nat):(gO (none,[d]) i).2.length<=23:=by
 let h:=ED (none,[d]) i;rw[KD]at h;let e:=aj List.length h;let f:=y4 (gO (none,[d]) i).2;unfold ng at e;rw[cb,dU]at e;lia
end D1
namespace L2
open PySem PySem.Spec PyProof.Rows
variable{I a t:Addr}{Q:QV}{xs:Array 5}
namespace Rv
def owner:Manifest.owners.lookup (String.ofList ['d','e','s','r','e','v','e','r'].reverse)=0 Manifest.sig_reversed:=by kernel_rfl
def acj:Slot "reversed" "__init__" "object.__init__" :=(.of (owner := "object") (n := "__init__") (by rw[aO,aQ];kernel_rfl) 19 19 19 (by first|exact .inl 19|exact .inr 19)<|by rw[aU];kernel_rfl)
def BD:Slot "reversed" "__next__" "reversed.__next__" :=(.of (owner := "reversed") (n := "__next__") (by rw[aO,aQ];kernel_rfl) 19 19 19 (by first|exact .inl 19|exact .inr 19)<|by rw[aU];kernel_rfl)
def RE:Slot "reversed" "__iter__" "reversed.__iter__" :=(.of (owner := "reversed") (n := "__iter__") (by rw[aO,aQ];kernel_rfl) 19 19 19 (by first|exact .inl 19|exact .inr 19)<|by rw[aU];kernel_rfl)
def KG:Slot "reversed" "__length_hint__" "reversed.__length_hint__" :=(.of (owner := "reversed") (n := "__length_hint__") (by rw[aO,aQ];kernel_rfl) 19 19 19 (by first|exact .inl 19|exact .inr 19)<|by rw[aU];kernel_rfl)
def ack:typeLookup (.type "reversed") "__len__"=pure 8:=by rw[aO,aQ];kernel_rfl
def acm:typeLookup (.type "tuple") "__reversed__"=pure 8:=by rw[aO,aQ];kernel_rfl
def RF:typeLookup (.type "tuple") "__getitem__"=pure (0<|.builtin "tuple.__getitem__"):=by rw[aO,aQ];kernel_rfl
def RG:entryFor table "reversed.__next__"=0 Builtin.«reversed.__next__»:=(entryFor_of_tree<|by kernel_rfl)
def acn:entryFor table "reversed.__length_hint__"=0 Builtin.«reversed.__length_hint__»:=(entryFor_of_tree<|by kernel_rfl)
def aco:entryFor table "reversed.__iter__"=0 Builtin.«dict_keyiterator.__iter__» :=(entryFor_alias (id' := "dict_keyiterator.__iter__") (by kernel_rfl) (by first|decide +kernel|rfl|(unfold String.splitOn;simp +decide [String.splitOnAux])) 19<|by kernel_rfl)
def RH(a:Value):argsOk "reversed.__next__" #[[a],[]]:=by
 unfold argsOk;rw[signature?_of (id := "reversed.__next__") (n:=['_','_','t','x','e','n','_','_']) (o:=['d','e','s','r','e','v','e','r']) (by kernel_rfl) owner];kernel_rfl
def acp(a:Value):argsOk "reversed.__iter__" #[[a],[]]:=by
 unfold argsOk;rw[signature?_of (id := "reversed.__iter__") (n:=['_','_','r','e','t','i','_','_']) (o:=['d','e','s','r','e','v','e','r']) (by kernel_rfl) owner];kernel_rfl
def acq(a:Value):argsOk "reversed.__length_hint__" #[[a],[]]:=by
 unfold argsOk;rw[signature?_of (id := "reversed.__length_hint__") (n:=['_','_','t','n','i','h','_','h','t','g','n','e','l','_','_']) (o:=['d','e','s','r','e','v','e','r']) (by kernel_rfl) owner];kernel_rfl
def called:TypeCalled "reversed" "reversed.__new__" "object.__init__" :=(#[19,19,#[_,_,F.mro_reversed],F.made_reversed,19,by rw[aU];kernel_rfl,acj])
end Rv
def Rv.acr:isSubtype (.type "tuple") (.type "dict")=pure false:=by rw[aU];kernel_rfl
def vf(t:Addr)(i:Int):Obj:={ cls:=.type "reversed",data:=.fields #[3 t,rawInt i,] }
def acs(t:Addr)(xs:Array 5)(hz:(xs.size:Int)<2^63) :
  Meets (Builtin.«reversed.__new__» #[[.type "reversed",3 t],[]]) (λ_ R s=>IsTup s.heap t xs/\∀tk,R (.ok<|.ret<|3 22) { s with heap:=s.heap.push (vf t<|(xs.size:Int)-1),toks:=tk }):=(.of_wp λprog w A R s hyp=>by
  let[h,g,dr,tk,os]:=s;let[ht,fin]:=hyp;let ty:Shared.TypeIs #[h,g,dr,tk,os] (3 t) "tuple":=by
   let[o,ho,hc,_]:=ht;exact#[o,ho,hc]
  let aiU:=F.sub_reversed_self;let n0:=Rv.acr;let n1:=Rv.acm;let n2:=Rv.RF;wp_walk using len_tuple ht hz
  exact#[_,9,fin _])
section
variable{prog:Program}{w:World}{A:Around}{E:QV}{s:Shared}
def acu(ht:IsTup s.heap t xs)(hz:(xs.size:Int)<2^63)
  (q:∀tk,Q (3 22) { s with heap:=s.heap.push (vf t<|(xs.size:Int)-1),toks:=tk }):15 prog w A (call (.type "reversed") [3 t]) Q E s:=(callType_new Rv.called 16 (F.typeCall_reversed_1 _) (F.newCall_reversed_1 _) (λv=>F.args_object_init_2 v _) F.entry_reversed_new (acs t xs hz) #[ht,λtk=>#[#[_,gp _ 9,9],q tk]])
def qD(h:Heap)(a t:Addr)(i:Int):Prop:=h.get? a=0 (vf t i)
def acv{i:Nat}{x:Value}{Q:7 5->6 Shared}(hr:qD s.heap a t (i:Int))(ht:IsTup s.heap t xs)(hx:xs[i]?=0 x)(hz:(xs.size:Int)<2^63)
  (hQ:∀h' tk,qD h' a t ((i:Int)-1)->(∀b o,b≠a->s.heap.get? b=0 o->h'.get? b=0 o)->Q (0 x) { s with heap:=h',toks:=tk }):15 prog w A (pyNext<|3 a) Q E s:=by
 let ty:s.TypeIs (3 a) "reversed":=#[_,hr,9];let tt:s.TypeIs (3 t) "tuple":=by
  let[o,ho,hc,_]:=ht;exact#[o,ho,hc]
 refine Dz ty Rv.BD<|aF Rv.BD ty Rv.RG ?_<|Rv.RH _;let hi:i<xs.size:=(Array.getElem?_eq_some_iff.mp hx).1;unfold Builtin.«reversed.__next__»;refine aq (wpAny_of_eq (a:=(Value.ref a,[])) rfl ?_);dsimp only;refine aq (aA hr rfl (x:=3 t) rfl ?_);refine aq (aA hr rfl (x:=rawInt (i:Int)) rfl ?_);let pos:¬(i:Int)<0:=by lia
 show wpAny _ _ (ite ((i:Int)<0) _ _) _ _ s;rw[ag pos];refine aq<|aL tt Rv.RF ?_;show wpAny _ _ (if(false=6)then _ else _) _ _ s
 rw[ag 16];refine aq<|wpAny_mkInt<|aq<|wpAny_attempt<|getItem_tuple (j:=i) ht 7 7 (by unfold seqIndex?;simp;lia) hx ?_;refine aq (aA hr rfl (x:=rawInt (i:Int)) rfl ?_);show wpAny _ _ (setField (3 a) 1 (rawInt<|(i:Int)-1) >>= _) _ _ _;refine aq<|wpAny_setField hr 9 17 ?_;refine ao #[x,9,hQ _ _ ?_ λb o hb e=>(vQ _ _<|iD hb).trans e];exact(rg _ hr 9).trans 9
def acw{Q:7 5->6 Shared}(hh:A.handled=8)(hr:qD s.heap a t (-1))
  (hQ:∀h',(∀b o,b≠a->s.heap.get? b=0 o->h'.get? b=0 o)->Q 8 { s with heap:=h' }):15 prog w A (pyNext<|3 a) Q E s:=by
 let[hp,g,d,tk,os]:=s;let ty:Shared.TypeIs #[hp,g,d,tk,os] (3 a) "reversed":=#[_,hr,9];let yo:A.in1.handled=8:=hh;refine Dz ty Rv.BD<|aF Rv.BD ty Rv.RG ?_<|Rv.RH _;wp_walk using qf hr
 unfold raiseNew;refine aq<|wpAny_handled (yo.symm▸?_);refine aq<|ao<|wpAny_throw #[_,_,9,gp _ 9,9,hQ _ λb o hb e=>?_];exact dD _<|dD _<|(vQ _ _<|iD hb).trans<|(vQ _ _<|iD hb).trans e
def RI{i:Int}(hr:qD s.heap a t i)(h:Q (3 a) s):15 prog w A (pyIter<|3 a) Q E s:=by
 let ty:s.TypeIs (3 a) "reversed":=#[_,hr,9];refine wpAny_pyIter_slot ty Rv.RE<|aF Rv.RE ty Rv.aco ?_<|Rv.acp _;show wpAny _ _ (ret<|Value.ref a) _ _ _;exact ao #[_,9,"reversed",_,ty,Rv.BD.lookup,h]
def Rv.asI(n:Int)(tk:Tok):asInt? (Value.int n tk)=pure (0 n):=(rfl)
def acx{Q:Bool->6 Shared}(hr:qD s.heap a t ((xs.size:Int)-1))(ht:IsTup s.heap t xs)(hz:11 xs.size)
  (h:∀tk,Q ((xs.size:Int) != 0) { s with toks:=tk }):15 prog w A (Builtin.List.listLengthHint<|3 a) Q E s:=by
 let ty:s.TypeIs (3 a) "reversed":=#[_,hr,9];refine aq<|aL ty Rv.ack ?_;show wpAny _ _ (specialOf (Value.ref a) (4 "__length_hint__") >>= _) _ _ _;refine aq<|aL ty Rv.KG.lookup ?_;let hs:splitId "reversed.__length_hint__"=0 ("reversed","__length_hint__"):=by kernel_rfl
 dsimp only;rw[hs];refine aq<|wpAny_isInstance (T := "reversed") (b:=true) ty F.sub_reversed_self ?_;rw[ag 16,ag 19];refine aq<|wpAny_rule ?_;refine aq<|wpAny_of_eq (Rv.KG.bind _) ?_;dsimp only;refine aq<|wpAny_attempt<|aF Rv.KG ty Rv.acn ?_<|Rv.acq _;unfold Builtin.«reversed.__length_hint__»;refine aq (wpAny_of_eq (a:=Value.ref a) rfl ?_);refine aq (aA hr rfl (x:=3 t) rfl ?_);let acy:¬(Value.ref t==Value.none)=6:=ia;rw[ag acy];let RJ:(sizeLine:Int)<2^63:=by decide
 refine aq<|len_tuple ht 7 ?_;refine aq (wpAny_of_eq (a:=0 (xs.size:Int)) rfl ?_);dsimp only;refine aq (aA hr rfl (x:=rawInt<|(xs.size:Int)-1) rfl ?_);show wpAny _ _ (if(xs.size:Int)<(xs.size:Int)-1+1 then _ else _) _ _ _
 rw[ag 7];refine aq<|wpAny_mkInt ?_;refine ao #[_,9,?_];let e1:(xs.size:Int)-1+1=(xs.size:Int):=by lia
 rw[e1];show wpAny _ _ (asInt? (Value.int (xs.size:Int) _) >>= _) _ _ _;rw[Rv.asI,pure_bind];dsimp only;rw[ag (by
  let:Builtin.List.listFitsIndex (xs.size:Int)=6:=fitsIndex_both 7 7
  rw[this];decide),ag 7,ag (by
  rw[Int.toNat_natCast,IF hz];decide)]
 exact ao<|h _
end
def BE{h:Heap}{b:Addr}{o o':Obj}(e1:h.get? a=0 o)(e2:h.get? b=0 o')(hc:o.cls≠o'.cls):a≠b:=(λe=>by
 subst e;rw[e1]at e2;exact hc<|aj Obj.cls<|dJ e2)
theorem acz{prog:Program}{w:World}{A:Around}(hh:A.handled=8)(I t:Addr)(c8:t≠I)(xs:Array 5)(hz:11 xs.size) :
  Walks prog w A I [I,t] [I] xs.size (λi v=>xs[xs.size-1-i]?=0 v) (λi h=>i<=xs.size/\qD h I t ((xs.size:Int)-1-(i:Int))/\IsTup h t xs) where
 sub:=λb hb=>eK.mpr (.inl<|cT.mp hb)
 frame:=λ_ _ _ x hk=>#[x.1,hk I 17 _ x.2.1,by
  let[o,ho,r]:=x.2.2;exact#[o,hk t 17 o ho,r]]
 item:=λi s Q E hi (x:_/\_/\_) hQ=>by
  let RJ:(sizeLine:Int)<2^63:=by decide
  let e:(xs.size:Int)-1-(i:Int)=((xs.size-1-i:Nat):Int):=by lia
  let hit:=x.2.1;rw[e]at hit;let hx:xs[xs.size-1-i]?=0 (xs[xs.size-1-i]'7):=vT 7;refine acv hit x.2.2 hx 7 λh' tk RK RL=>?_;let e2:((xs.size-1-i:Nat):Int)-1=(xs.size:Int)-1-((i+1:Nat):Int):=by lia
  rw[e2]at RK;refine hQ _ h' tk hx #[hi,RK,?_] λb o hb eo=>RL b o (λh=>hb<|by simp[h]) eo;let[o,ho,r]:=x.2.2;exact#[o,RL t o c8 ho,r]
 done:=λs Q E x hQ=>by
  let e:(xs.size:Int)-1-(xs.size:Int)=-1:=by lia
  let hit:=x.2.1;rw[e]at hit;exact acw hh hit λh' EB=>hQ h' s.toks λb o hb eo=>EB b o (λh=>hb<|by simp[h]) eo
 self:=λ_ _ _ _ x hQ=>RI x.2.1 hQ
section
variable{prog:Program}{w:World}{A:Around}{E:QV}{s:Shared}{R:Result->6 Shared}
def RN(hh:A.handled=8){S:Addr}(hz:11 xs.size){c tk:Nat}{h:Heap}(hr:qD h I t ((xs.size:Int)-1))(ht:IsTup h t xs)(hS:h.get? S=0 { cls:=.type "list",data:=.seq #[] c })
  (hR:∀h' tk acc c',(∀b o,b≠S->b≠I->h.get? b=0 o->h'.get? b=0 o)->h'.get? S=0 { cls:=.type "list",data:=.seq acc c' }->ItemsOf (λi v=>xs[xs.size-1-i]?=0 v) acc xs.size->R (.ok<|.ret .none) { s with heap:=h',toks:=tk }) :
  codeAny (model prog w) A (.builtin "list.extend.loop" #[[3 S,3 I,.none],[]]) R { s with heap:=h,toks:=tk }:=by
 let[o,ho,hc,hd]:=id ht;let far:S ∉ [I,t]:=by
  let n1:S≠I:=BE hS hr (show Value.type "list" ≠ Value.type "reversed" by decide);let n2:S≠t:=BE hS ho (by rw[hc];exact(show Value.type "list" ≠ Value.type "tuple" by decide));simp[n1,n2]
 let W:=(acz (prog:=prog) (w:=w) (A:=A.in1) hh I t (BE ho hr<|by rw[hc];exact(show Value.type "tuple" ≠ Value.type "reversed" by decide)) xs hz).toS;let nS:qD h I t ((xs.size:Int)-1-((0:Nat):Int)):=by simpa using hr
 refine codeAny_extend_loopS W hz S far .none xs.size 0 _ #[] c 9 (iL _) #[iL _,nS,ht] hS (ItemsOf.nil _) λs' acc c' mv eS items=>?_;rw[Moved.eq_with mv];refine hR s'.heap s'.toks acc c' (λb o hb hi e=>mv.heap b o (λz=>?_) e) eS items;simp only[eK,Ag,or_false]at z;exact z.elim hb hi
def acA(hh:A.handled=8){S:Addr}(hz:11 xs.size)(hr:qD s.heap I t ((xs.size:Int)-1))(ht:IsTup s.heap t xs)(hS:s.heap.get? S=0 { cls:=.type "list",data:=.seq #[] })
  (hR:∀h' tk acc c',(∀b o,b≠S->b≠I->s.heap.get? b=0 o->h'.get? b=0 o)->h'.get? S=0 { cls:=.type "list",data:=.seq acc c' }->ItemsOf (λi v=>xs[xs.size-1-i]?=0 v) acc xs.size->R (.ok<|.ret .none) { s with heap:=h',toks:=tk }) :
  15 prog w A.in1 (Builtin.«list.__init__» #[[3 S,3 I],[]]) (λe s'=>match e with
    | .done v=>R (.ok v) s'
    | .again c=>c.quiet=6/\codeAny (model prog w) A c R s') (λe s'=>R (.error e) s') s:=by
 let[hp,g,d,tk,os]:=s;let[o,ho,hc,hd]:=id ht;let n1:S≠I:=BE hS hr (show Value.type "list" ≠ Value.type "reversed" by decide);let n2:S≠t:=BE hS ho (by rw[hc];exact(show Value.type "list" ≠ Value.type "tuple" by decide));let keep:∀{h:Heap}{f:Obj->Obj}{b:Addr}{o:Obj},b≠S->h.get? b=0 o->(h.update S f).get? b=0 o:=λhb e=>(vQ _ _<|iD hb).trans e;wp_walk using qf hS
 let EF:=rg (Obj.mapSeq λ_:Array 5=>(#[]:Array 5)) hS 9;let i6:qD (hp.update S<|Obj.mapSeq λ_=>#[]) I t ((xs.size:Int)-1):=keep (iD n1) hr;let vg:IsTup (hp.update S<|Obj.mapSeq λ_=>#[]) t xs:=#[o,keep (iD n2) ho,hc,hd];let k1:∀b o,b≠S->hp.get? b=0 o->(hp.update S<|Obj.mapSeq λ_=>#[]).get? b=0 o:=λb o hb e=>keep hb e;generalize hp.update S (Obj.mapSeq λ_=>#[])=h1 at EF i6 vg k1 |-;let same:Builtin.List.listSameRef (3 S) (3 I)=false:=by simp[Builtin.List.listSameRef,n1]
 wp_walk using qf i6
 rw[same,ag (by show ¬(false||Value.type "reversed"==Value.type "list"||Value.type "reversed"==Value.type "tuple")=6;decide)];refine aq<|RI i6<|aq<|aC<|acx i6 vg hz λRP=>wpAny_ite_split (λ_=>?_) λ_=>?_
 .wp_walk using qf EF
  let hS2:=rg (Obj.mapSeq λx=>x.pop) (rg (Obj.mapSeq λx=>x.push Value.none) EF 9) 9;exact#[plainId_quiet F.plain_extend_loop _,RN hh hz (keep (iD n1)<|keep (iD n1) i6) (let ⟨o,ho,r⟩:=vg;#[o,keep (iD n2)<|keep (iD n2) ho,r]) hS2 λh' tk acc c' k' e' i'=>hR h' tk acc c' (λb o hb hi e=>k' b o hb hi<|keep hb<|keep hb<|k1 b o hb e) e' i']
 .exact ao #[plainId_quiet F.plain_extend_loop _,RN hh hz i6 vg EF λh' tk acc c' k' e' i'=>hR h' tk acc c' (λb o hb hi e=>k' b o hb hi<|k1 b o hb e) e' i']
def acB(hh:A.handled=8)(hz:11 xs.size)(hr:qD s.heap I t ((xs.size:Int)-1))(ht:IsTup s.heap t xs)
  (hQ:∀h' tk acc c',(∀b o,b≠I->s.heap.get? b=0 o->h'.get? b=0 o)->h'.get? 22=0 { cls:=.type "list",data:=.seq acc c' }->ItemsOf (λi v=>xs[xs.size-1-i]?=0 v) acc xs.size->Q (3 22) { s with heap:=h',toks:=tk }) :
  15 prog w A (call (.type "list") [3 I]) Q E s:=by
 let new:(s.heap.push { cls:=.type "list",data:=.seq #[] }).get? 22=0 { cls:=.type "list",data:=.seq #[] }:=gp _ 9;let up:∀{b o},s.heap.get? b=0 o->(s.heap.push { cls:=.type "list",data:=.seq #[] }).get? b=0 o:=λe=>dD _ e;refine callType_codes F.called_list (F.typeCall_list_1 _) F.entry_list_init (code_list_new (Q₁:=λv s₁=>v=3 22/\s₁={ s with heap:=s.heap.push { cls:=.type "list",data:=.seq #[] } }) _ #[9,9]) ?_;rintro _ _ ⟨rfl,rfl⟩;refine#[#[_,new,9],F.args_list_init_2 _ _,acA (A:=A.in1) hh hz (up hr) (let ⟨o,ho,r⟩:=ht;#[o,up ho,r]) new λh' tk acc c' k e i=>#[9,hQ h' tk acc c' (λb o hb e'=>k b o (iA<|eE e') hb<|up e') e i]]
end
def tLR(K:Frag)(ta:TE):TE:=λσ H Q=>ta σ H λx H1=>∃t xs,x=3 t/\bu K H1 t xs/\∀l,H1 l=8->Q (3 l) (9 H1 l xs.reverse)
def acC{its:1 5}{acc:Array 5}(h:ItemsOf (λi v=>its.toArray[its.toArray.size-1-i]?=0 v) acc its.toArray.size):acc.toList=its.reverse:=by
 let hsz:acc.size=its.length:=by let:=h.1;simpa using this
 refine List.ext_getElem? λi=>?_;by_cases hi:i<its.length
 .let e:=h.2 i acc[i] (by simp[hsz,hi]);let e2:acc.toList[i]?=0 acc[i]:=by simp[hsz,hi]
  rw[e2,List.getElem?_reverse hi];simpa using e.symm
 .rw[kf (by simp;lia),kf (by simp;lia)]
def acD{X:Cx}(K:Frag)(hK:X.K=K)(hc:X.calm=6){e:Expr}{te:TE}{p1 p2 q1 q2:Pos}(hl:Gl X "list")(Qg:X.mg "list"=8)(hr:Gl X "reversed")(hmr:X.mg "reversed"=8)(he:PE X e te)
  (hs1:starEach [Expr.Call (.Name "reversed" p2) [e] [] q2] X.env=[(false,eval (.Call (.Name "reversed" p2) [e] [] q2) X.env)]:=by rfl) (pG:starEach [e] X.env=[(false,eval e X.env)]:=by rfl) :
  PE X (.Call (.Name "list" p1) [.Call (.Name "reversed" p2) [e] [] q2] [] q1) (tLR K te):=by
 subst hK;intro aZ s σ H Q I h;refine au<|sV I hl Qg uU ?_;refine zZ ?_ (by rw[hs1];rfl) 9;rw[hs1];show wpAny _ _ (spliced<|(false,eval (.Call (.Name "reversed" p2) [e] [] q2) X.env)::[]) _ _ s;refine Aa<|au<|sV I hr hmr (show bootBuiltins "reversed"=0 (.type "reversed") by decide +kernel) ?_;refine zZ ?_ (by rw[pG];rfl) 9;rw[pG];show wpAny _ _ (spliced<|(false,eval e X.env)::[]) _ _ s;refine Aa (bg (he aZ s σ H _ I h) λu s1 ⟨x,H1,I1,r1,t,xs,hx,hq,q⟩=>?_);subst hx;cases r1;refine Calls.spliced_nil ?_;let[its,rv,ht,hz]:=I1.tuple hq;let cW:=rv.length;let RJ:(sizeLine:Int)<2^63:=by decide
 refine acu ht (by simp only[dP];lia) λtk=>?_;refine Calls.spliced_nil ?_;let up:∀b o,s1.heap.get? b=0 o->(s1.heap.push<|vf t<|(its.toArray.size:Int)-1).get? b=0 o:=λb o e=>dD _ e;let yu:(s1.heap.push<|vf t<|(its.toArray.size:Int)-1).objs.size=s1.heap.objs.size+1:=uB ..;let JE:(s1.heap.push<|vf t<|(its.toArray.size:Int)-1).get? s1.heap.objs.size=0 (vf t<|(its.toArray.size:Int)-1):=gp _ 9;generalize s1.heap.push (vf t<|(its.toArray.size:Int)-1)=hp at up yu JE;refine acB (s:={ s1 with heap:=hp,toks:=tk }) (I1.ok.hd hc) (xs:=its.toArray) (by rw[dP];lia) JE (ht.keeps up) λh' RP acc c' hk hS acE=>?_;let k2:∀b o,s1.heap.get? b=0 o->h'.get? b=0 o:=λb o e=>hk b o (iA<|eE e)<|up b o e;let I2:12 X σ H1 { s1 with heap:=h',toks:=RP }:=I1.kept k2;let fr:H1 hp.objs.size=8:=I1.cf.fresh (by rw[yu];exact Nat.le_succ _);let f:jU X aZ H1 hp.objs.size:=I1.nL (by rw[yu];exact Nat.le_succ _) fr;let I3:=I2.Dy (o:=.lst xs.reverse) f #[by rw[Ae];exact hz,acc.toList,c',by rw[acC acE];exact rv.reverse,hS];exact#[3 _,_,I3,9,q _ fr]
end L2
namespace L2
open PySem PySem.Spec PyProof.Rows
end L2
namespace S21
open PySem L2 Bw
variable{H:Hp}{Q:VK}{a b f:Addr}{fd:FuncData}{i:Nat}{ns:4}{tb tk:TE}
def RQ{X:Cx}:gG X (.type "range") (λxs H Q=>∃j:Int,xs=[2 j]/\∀p,H p=8->Q (3 p) (upd H p<|.qi 0 j)):=by
 intro aZ s σ H vs us Q I r h;let[j,rfl,q]:=h;let[u,rfl,ru]:=vals1 r;let[t,rfl]:=ru;refine call_range_1 ?_;exact#[3 _,_,I.laid (t':=_) (o:=.qi 0 j) (λb o e=>dD _ e) (ck _) #[_,_,_,gp _ 9],9,q _ I.fresh]
def KH(lo c:Nat):((List.range (((lo+c:Nat):Int)-(lo:Int)).toNat).map λ(k:Nat)=>V.int ((lo:Int)+k))=(List.range c).map λ(i:Nat)=>V.int ((lo+i:Nat):Int):=by
 rw[show(((lo+c:Nat):Int)-(lo:Int)).toNat=c by lia];exact xM λk _=>by rw[sQ]
def RR(K:Frag):Sp:=λvs H Q _=>∃(p:Int)(a:Addr)(XS:1 V)(rs:LL)(n:Nat),vs=[2 p,3 a,2 (n:Int)]/\p∈cM/\H a=13 XS/\LR (λ_=>True) H XS rs/\rs.length<=900/\n<=900/\Bw.cC p n rs/\
 ∀t H' DS,bc H H'->bu K H' t DS->cy K H' DS ((eQ p rs).map dB)->Q (3 t) H'
def acF:dz ["p","rows","size"] ["p","rows","size"] (cj Ef):=(dW 9 9 9 19 9)
def acG{fC:Addr}{nh:FuncData}(F:cL K "_law_reduced" "_law_reduced" Ef f fd)(T:Txt mg)
  (GC:bQ P w K mg base bX 2 fC nh ["p","rows","places"] (Kv K)) (kC:Kp K fC) (bC:Binds K nh ["p","rows","places"] []) (mC:Mg mg "_law_cleared" fC) :
  bQ P w K mg base bX 3 f fd ["p","rows","size"] (RR K):=by
 refine 17 acF 24 ?_
 .let[p,a,XS,rs,n,rfl,_]:=h;rfl
 .let[p,a,XS,rs,n,rfl,pp,ga,hX,hz,hn,hR,q]:=h;let nY:=jE;refine#[_,bN<|cJ<|jl (wD K 9) 9 T.tuple uT<|bf (qw (N:=["row"]) (own:=1) (caps:=[]) rfl (iY K 9<|bZ (dC K 9) (cY GC hr 9 mC kC bC .nil cZ<|10 0<|10 1<|bf (jl (Jo 9) 9 T.list uU<|bf (jl RQ 9 T.range Jv<|10 2 bj) bj) bj) br) (show fH ["p","rows","size"] (cj Ef) ["row"] 1 [] _ from .mk' 19) (λ_ _ _ _ _=>cH (i:=0) Rb rfl (18)) (λ_ _ _ _ _=>jn) (λ_ _ _ _ _=>jl (wD K 9) 9 T.tuple uT<|10 0 bj)) bj,?_]
  refine#[_,9,_,9,_,9,(n:Int),9,λpr BF=>#[pr,0,(n:Int),9,bq,#[16,16,7,7],7,λll t8=>?_]];let sm:=(bc.upd BF (o:=.qi 0 (n:Int))).trans (bc.upd t8 (o:=.lst<|(List.range ((n:Int)-0).toNat).map λ(k:Nat)=>V.int (0+k)));refine#[p,a,ll,XS,rs,n,0,n,9,pp,sm _ _ ga,hX.mono sm,hz,hn,λr hr=>.of<|hR r hr,7,?_,?_]
  .rw[bq]
   let:=KH 0 n
   rw[lP]at this;exact aj (λz=>0<|HO.lst z) this
  intro l fa ga' FS GS H1 s1 hl gl hf gf hF _ _ _;rw[D1.En pp hR]at hF;let hFl:=hF.1;let aiV:(eQ p rs).length<=n:=by
   rw[<- D1.En pp hR];exact(D1.Bq pp hR n<|ck _).len<|ck _
  refine#[l,_,0,3 fa,9,9,.of gl,cm (j:=0) rfl,fa,9,#[_,.of gf],qx (cp:=[]) (λi H' zs=>cy K H' zs<|((eQ p rs).take i).map dB) (.of gf) 7 .nil (λi H' zs h=>by rw[jr h];exact sO _ _) ?_ ?_]
  .rintro i x H3 zs hx ua h3;let[ra,r,rfl,iw,_,gr]:=hF.get' hx;refine oH #[_,9,ra,_,9,.inl #[.of<|ua _ _ gr,λt ht=>#[#[[_],9,9],ua.trans<|.upd ht,?_]]];rw[iM,iw];show cy K _ _ (((eQ p rs).take i++[r]).map dB);rw[eC];exact(h3.mono<|.upd ht).append<|.cons (oG<|.of bq) .nil
  .rintro H3 TS ua h3 lt cX;rw[hFl,nF]at h3;refine#[lt,_,9,.inl #[.of bq,λt ht=>q t _ TS (((sm.trans s1).trans ua).trans<|(bc.upd cX).trans<|.upd ht) (.of bq)<|h3.mono<|(bc.upd cX).trans<|.upd ht]]
def iy(N:6 Addr)(H:Hp)(a:Addr)(l r:Nat)(bh:LL):Prop:=N a/\∃(b:Addr)(XS:1 V),H a=13 [2 (l:Int),2 (r:Int),3 b]/\N b/\H b=13 XS/\LR N H XS bh
def iy.mono{N:6 Addr}{H H':Hp}{a:Addr}{l r:Nat}{bh:LL}(h:iy N H a l r bh)(e:bc H H'):iy N H' a l r bh:=by
 let[n,b,XS,g,nb,gb,hL]:=h;exact#[n,b,XS,e _ _ g,nb,e _ _ gb,hL.mono e]
def iy.weak{N N':6 Addr}{H:Hp}{a:Addr}{l r:Nat}{bh:LL}(h:iy N H a l r bh)(k:∀x,N x->N' x):iy N' H a l r bh:=by
 let[n,b,XS,g,nb,gb,hL]:=h;exact#[k _ n,b,XS,g,k _ nb,gb,hL.weak k]
def iy.wr{H:Hp}{a x:Addr}{l r:Nat}{bh:LL}{o:HO}(h:iy (·≠x) H a l r bh):iy (·≠x) (upd H x o) a l r bh:=by
 let[n,b,XS,g,nb,gb,hL]:=h;exact#[n,b,XS,by rw[cF n];exact g,nb,by rw[cF nb];exact gb,hL.wr]
def iy.new{H1:Hp}{XS:1 V}{l r:Nat}{bh:LL}(s:bc H H1)(hL:LR (λx=>H x=8) H1 XS bh)(hb:H1 b=8)(ha:(9 H1 b XS) a=8) :
  bc H (9 (9 H1 b XS) a [2 (l:Int),2 (r:Int),3 b])/\iy (λx=>H x=8) (9 (9 H1 b XS) a [2 (l:Int),2 (r:Int),3 b]) a l r bh:=(#[s.trans<|(bc.upd hb).trans<|.upd ha,fj (s.trans<|.upd hb) ha,b,XS,bq,fj s hb,bc.upd ha _ _ bq,hL.mono<|(bc.upd hb).trans<|.upd ha])
def y6(H:Hp)(l r:Nat)(bh:LL)(Q:VK):Prop:=∀a H',bc H H'->iy (λx=>H x=8) H' a l r bh->Q (3 a) H'
def BG(w:Str)(n:Int):Nat×Nat×LL:=
 if w="id"\/w="times" then(1,1,[[1,n]])else if w="swap" then(2,2,[[1,0,0,1],[0,1,1,0]])else if w="copy" then(1,2,[[1,1,1]])else if w="end" then(1,0,[[1]])
 else if w="add" then(2,1,[[1,0,1],[0,1,1]])else if w="none" then(0,1,[])else if w="cup" then(0,2,[[1,1]])else(0,0,[])
def EG:Sp:=λvs H Q _=>∃(p:Int)(w:Str)(n:Int),vs=[2 p,.str w,2 n]/\y6 H (BG w n).1 (BG w n).2.1 (BG w n).2.2 Q
def acH:dz ["p","word","number"] ["p","word","number"] (cj Kc):=(dW 9 9 9 19 9)
def RU{l r:Nat}(q:y6 H l r [] Q)(hb:H b=8)(ha:(9 H b []) a=8):Q (3 a) (9 (9 H b []) a [2 (l:Int),2 (r:Int),3 b]):=by
 let[s,t]:=iy.new (l:=l) (r:=r) (.refl H) LR.nil hb ha;exact q a _ s t
def EH{l r:Nat}{r1:4}(q:y6 H l r [r1] Q){x:Addr}(hx:H x=8)(hb:(9 H x<|r1.map V.int) b=8)(ha:(9 (9 H x<|r1.map V.int) b [3 x]) a=8) :
  Q (3 a) (9 (9 (9 H x<|r1.map V.int) b [3 x]) a [2 (l:Int),2 (r:Int),3 b]):=by
 let[s,t]:=iy.new (l:=l) (r:=r) (bc.upd hx) (LR.nil.snoc (r:=r1) hx bq) hb ha;exact q a _ s t
def RV{l r:Nat}{r1 r2:4}(q:y6 H l r [r1,r2] Q){x:Addr}(hx:H x=8){y:Addr}(hy:(9 H x<|r1.map V.int) y=8)(hb:(9 (9 H x<|r1.map V.int) y<|r2.map V.int) b=8)
  {a:Addr} (ha:(9 (9 (9 H x<|r1.map V.int) y<|r2.map V.int) b [3 x,3 y]) a=8) :
  Q (3 a) (9 (9 (9 (9 H x<|r1.map V.int) y<|r2.map V.int) b [3 x,3 y]) a [2 (l:Int),2 (r:Int),3 b]):=by
 let[s,t]:=iy.new (l:=l) (r:=r) ((bc.upd hx).trans<|bc.upd hy) (((LR.nil.snoc (r:=r1) hx bq).mono<|.upd hy).snoc (r:=r2) (fj (.upd hx) hy) bq) hb ha;exact q a _ s t
noncomputable def EI:1 Expr->7 LL
 | []=>0 []
 | .List es _::cu=>match yD es,EI cu with
  |some ns,some R=>0 (ns::R)
  |_,_=>none
 |_=>none
noncomputable def RW:Expr->7 (Int×Int×LL)
 | .List [b,c,.List bh _] _=>match tK b,tK c,EI bh with
  |some l,some r,some R=>0 (l,r,R)
  |_,_,_=>none
 |_=>none
def rT:LL->TA
 | []=>cB
 |ns::R=>bw (Jw ns) (rT R)
def vh(l r:Int)(t:TE):TE:=dt<|bw (tC<|2 l)<|bw (tC<|2 r)<|bw t cB
theorem RX{X:Cx}:∀(es:1 Expr)(R:LL),EI es=0 R->PA X es (rT R)
 | [],R,h=>by cases h;exact bj
 |e::cu,R,h=>by
  unfold EI at h;split at h
  case h_1=>exact absurd h (by rename_i h1;cases h1)
  case h_3=>exact nomatch h
  case h_2 es pos rest' heq=>
   cases heq;split at h
   case h_2=>exact nomatch h
   case h_1 ns R' h1 h2=>
    cases h;exact bf (PR<|PQ h1)<|RX cu R' h2
def wX{X:Cx}{e:Expr}{l r:Int}{R:LL}(h:RW e=0 (l,r,R)):PE X e (vh l r<|dt<|rT R):=by
 unfold RW at h;split at h
 case h_2=>exact nomatch h
 case h_1 b c bh p3 pos=>
  split at h
  case h_2=>exact nomatch h
  case h_1 l' r' R' h1 h2 h3=>
   cases h;let[_,_,rfl]:=wC h1;let[_,_,rfl]:=wC h2;exact cK<|bf br<|bf br<|bf (cK<|RX bh _ h3) bj
def uc(x:String):TT:=kZ<|bY rJ (bt 1)<|tC<|.str x
def acI:TS:=iE<|vh 0 0<|dt<|rT []
def acJ:TS:=cR (gU (uc "cup") (iE<|vh 0 2<|dt<|rT [[1,1]]) jS) acI
def acK:TS:=cR (gU (uc "none") (iE<|vh 0 1<|dt<|rT []) jS) acJ
def acL:TS:=cR (gU (uc "add") (iE<|vh 2 1<|dt<|rT [[1,0,1],[0,1,1]]) jS) acK
def acM:TS:=cR (gU (uc "end") (iE<|vh 1 0<|dt<|rT [[1]]) jS) acL
def acN:TS:=cR (gU (uc "copy") (iE<|vh 1 2<|dt<|rT [[1,1,1]]) jS) acM
def RY:TS:=cR (gU (uc "swap") (iE<|vh 2 2<|dt<|rT [[1,0,0,1],[0,1,1,0]]) jS) acN
def RZ:TS:=iE<|dt<|bw (tC<|2 1)<|bw (tC<|2 1)<|bw (dt<|bw (dt<|bw (tC<|2 1)<|bw (bt 2) cB) cB) cB
def R0:TS:=cR (gU (C2 (uc "id")<|uc "times") RZ jS) RY
def acO(F:cL K "_law_box" "_law_box" Kc f fd):bQ P w K mg base bX 1 f fd ["p","word","number"] EG:=by
 refine 17 acH 24 ?_
 .let[p,x,n,rfl,_]:=h;rfl
 .let[p,x,n,rfl,q]:=h;refine#[R0,?_,?_]
  .unfold R0;refine bz ?_ ?_
   .refine dq ?_ ?_ eP
    .refine PW.pt<|xW ?_<|Ar ?_
     .exact cQ e8 (pv 1) c7<|cO _
     .exact cQ e8 (pv 1) c7<|cO _
    .exact bN<|cJ<|cK<|bf br<|bf br<|bf (cK<|bf (cK<|bf br<|10 2 bj) bj) bj
   refine bz ?_ ?_
   .refine dq ?_ ?_ eP
    .exact cQ e8 (pv 1) c7<|cO _
    .refine bN ?_;refine cJ ?_;refine wX ?_
     kernel_rfl
   refine bz ?_ ?_
   .refine dq ?_ ?_ eP
    .exact cQ e8 (pv 1) c7<|cO _
    .refine bN ?_;refine cJ ?_;refine wX ?_
     kernel_rfl
   refine bz ?_ ?_
   .refine dq ?_ ?_ eP
    .exact cQ e8 (pv 1) c7<|cO _
    .refine bN ?_;refine cJ ?_;refine wX ?_
     kernel_rfl
   refine bz ?_ ?_
   .refine dq ?_ ?_ eP
    .exact cQ e8 (pv 1) c7<|cO _
    .refine bN ?_;refine cJ ?_;refine wX ?_
     kernel_rfl
   refine bz ?_ ?_
   .refine dq ?_ ?_ eP
    .exact cQ e8 (pv 1) c7<|cO _
    .refine bN ?_;refine cJ ?_;refine wX ?_
     kernel_rfl
   refine bz ?_ ?_
   .refine dq ?_ ?_ eP
    .exact cQ e8 (pv 1) c7<|cO _
    .refine bN ?_;refine cJ ?_;refine wX ?_
     kernel_rfl
   refine bN ?_;refine cJ ?_;refine wX ?_
   kernel_rfl
  let KI:∀{y:String},decide (V.str x=V.str (4 y))=decide (x=4 y):=λ{y}=>by
   by_cases h:x=4 y
   .rw[aH h,aH (aj V.str h)]
   .rw[ae h,ae λz=>h (V.str.inj z)]
  let step:∀{y:String}{t u:TS}{D:Ends},(x=4 y->t { D with nx:=u D } [0<|2 p,0<|.str x,0<|2 n] H)->(x≠4 y->u D [0<|2 p,0<|.str x,0<|2 n] H)->cR (gU (uc y) t jS) u D [0<|2 p,0<|.str x,0<|2 n] H:=λ{y t u D} h1 h2=>by
   refine#[_,9,9,_,9,?_];rw[KI];exact wu (λc=>h1<|aM c) λc=>h2 λz=>c<|aH z
  let z:∀n:Nat,n<=10->11 n:=λn h=>eh h 16;unfold BG at q;refine#[_,9,9,_,9,?_];rw[KI];let R1:x=4 "id"\/x=4 "times"->RZ { nx:=λ_ H'=>Q .cI H',rt:=Q } [0<|2 p,0<|.str x,0<|2 n] H:=λc=>by
   rw[af c]at q;refine#[_,9,z _ 17,λr1 h1=>#[z _ 17,λb hb=>#[z _ 17,λa ha=>?_]]];exact EH (r1:=[1,n]) q h1 hb ha
  let cu:¬(x=4 "id"\/x=4 "times")->RY { nx:=λ_ H'=>Q .cI H',rt:=Q } [0<|2 p,0<|.str x,0<|2 n] H:=λc0=>by
   rw[ag c0]at q;refine step (λc=>?_) λc=>?_
   .rw[af c]at q;exact#[z _ 17,λx hx=>#[z _ 17,λy hy=>#[z _ 17,λb hb=>#[z _ 17,λa ha=>RV (r1:=[1,0,0,1]) (r2:=[0,1,1,0]) q hx hy hb ha]]]]
   rw[ag c]at q;refine step (λc=>?_) λc=>?_
   .rw[af c]at q;exact#[z _ 17,λx hx=>#[z _ 17,λb hb=>#[z _ 17,λa ha=>EH (r1:=[1,1,1]) q hx hb ha]]]
   rw[ag c]at q;refine step (λc=>?_) λc=>?_
   .rw[af c]at q;exact#[z _ 17,λx hx=>#[z _ 17,λb hb=>#[z _ 17,λa ha=>EH (r1:=[1]) q hx hb ha]]]
   rw[ag c]at q;refine step (λc=>?_) λc=>?_
   .rw[af c]at q;exact#[z _ 17,λx hx=>#[z _ 17,λy hy=>#[z _ 17,λb hb=>#[z _ 17,λa ha=>RV (r1:=[1,0,1]) (r2:=[0,1,1]) q hx hy hb ha]]]]
   rw[ag c]at q;refine step (λc=>?_) λc=>?_
   .rw[af c]at q;exact#[z _ 17,λb hb=>#[z _ 17,λa ha=>RU q hb ha]]
   rw[ag c]at q;refine step (λc=>?_) λc=>?_
   .rw[af c]at q;exact#[z _ 17,λx hx=>#[z _ 17,λb hb=>#[z _ 17,λa ha=>EH (r1:=[1,1]) q hx hb ha]]]
   rw[ag c]at q;exact#[z _ 17,λb hb=>#[z _ 17,λa ha=>RU q hb ha]]
  refine wu (λc=>fw<|R1<|.inl<|aM c) λc=>?_;refine#[_,9,9,_,9,?_];rw[KI];exact wu (λc2=>R1<|.inr<|aM c2) λc2=>cu λz=>z.elim (λy=>c<|aH y) λy=>c2<|aH y
def pW(te:TE)(σ:St)(H:Hp)(ns:4):Prop:=∀H',bc H H'->∀R:VK,(∀a fY,bc H' fY->H' a=8->fY a=13 (ns.map V.int)->R (3 a) fY)->te σ H' R
def ud{K:Frag}{j k:Nat}{v:Addr}{x y z:V}{σ:St}{R:St->6 Hp}(h:dv K H v [x,y,z])(q:R (((σ.set i<|0 x).set j<|0 y).set k<|0 z) H):yG K 3 (iF (cg i)<|iF (cg j)<|iF (cg k) rG) (3 v) σ H R:=(#[v,_,9,h,9,_,_,9,_,_,9,_,_,9,9,q])
def acP{xs:1 V}{k:Nat}(h:k<=21):gJ xs 8 (0 (k:Int))=xs.take k:=by
 unfold gJ;rw[HT.rK,HT.wk,List.drop_zero,Nat.sub_zero,xO h]
def acQ{xs:1 V}{k:Nat}(h:k<=21):gJ xs (0 (k:Int)) 8=xs.drop k:=by
 unfold gJ;rw[HT.rK,HT.wk,xO h,lO 17]
section
variable{K:Frag}{σ:St}{H:Hp}
def acR{ta:TE}{i j:Int}(h1:IE ta σ H i)(h2:IE tb σ H j):IE (bY (gH λi j=>2<|i+j) ta tb) σ H (i+j):=(λH' s _ q=>h1 H' s _<|h2 H' s _ #[i,j,9,9,q])
def rV{ta:TE}{ms:4}(h1:pW ta σ H ns)(h2:pW tb σ H ms)(hl:ns.length+ms.length<=10000):pW (bY fh ta tb) σ H (ns++ms):=(λH' s R q=>by
 let z:11 (10000:Nat):=by decide
 refine h1 H' s _ λa H1 s1 ha ga=>h2 H1 (s.trans s1) _ λb H2 s2 hb gb=>?_;refine#[a,b,_,_,9,9,s2 _ _ ga,gb,by simp only[bH];lia,λc hc=>?_];refine q c _ (s1.trans<|s2.trans<|.upd hc) (fj (s1.trans s2) hc) ?_;rw[bq,eC])
def y8{k:Nat}(h:IE tk σ H (k:Int))(hk:k<=10000):pW (bY IJ (dt<|bw (tC<|2 0) cB) tk) σ H (16 k 0):=(λH' s R q=>by
 let z:11 (10000:Nat):=by decide
 refine#[by show 11 1;decide,λa ha=>?_];let sa:=bc.upd (o:=.lst [2 0]) ha;refine h _ (s.trans sa) _ #[a,(k:Int),[2 0],9,9,bq,7,7,by show 11 (1*(k:Int).toNat);lia,λc hc=>q c _ (sa.trans<|.upd hc) (fj sa hc) ?_];rw[bq,show(k:Int).toNat=k by lia,Kn,List.map_replicate])
def BH{k:Nat}(h:σ[i]?=0 (8 a))(g:H a=13 (ns.map V.int))(hk:IE tk σ H (k:Int))(hl:k<=ns.length):pW (kh (yf K) (bt i) lU<|jA tk) σ H (ns.take k):=(λH' s R q=>by
 refine#[_,h,hk _ s _ #[(k:Int),9,a,_,9,.of<|s _ _ g,λp hp=>q p _ (.upd hp) hp ?_]];rw[bq,acP (by rw[bH];exact hl),List.map_take])
def BI{k:Nat}(h:σ[i]?=0 (8 a))(g:H a=13 (ns.map V.int))(hk:IE tk σ H (k:Int))(hl:k<=ns.length):pW (kh (yf K) (bt i) (jA tk) lU) σ H (ns.drop k):=(λH' s R q=>by
 refine#[_,h,hk _ s _ #[(k:Int),9,a,_,9,.of<|s _ _ g,λp hp=>q p _ (.upd hp) hp ?_]];rw[bq,acQ (by rw[bH];exact hl),List.map_drop])
end
def KJ{te:TE}{D:Ends}{σ:St}{H0:Hp}{ll:Addr}{ZS:1 V}{R:LL}(hi:σ[i]?=0 (8 ll))(gl:H ll=13 ZS)(t8:H0 ll=8)(s:bc H0 H)(hR:LR (λx=>x≠ll/\H0 x=8) H ZS R)(hz:R.length<=10000)(h:pW te σ H ns)
  (k:∀H' qE,bc H0 H'->H' ll=13 qE->LR (λx=>x≠ll/\H0 x=8) H' qE (R++[ns])->D.nx σ H'):xY (yh K "list" AI (bt i)<|bw te cB) D σ H:=by
 let z:(10000:Nat)<sizeLine:=by decide
 refine#[_,hi,.inl #[9,_,dv.of gl],h H (.refl _) _ λa H1 s1 ha ga=>#[ll,ZS,3 a,9,9,s1 _ _ gl,by rw[hR.1];lia,?_]];let ne:a≠ll:=λe=>by rw[e,gl]at ha;cases ha
 refine k _ _ ((s.trans s1).write t8) bq ?_;refine#[by simp[hR.1],λj v r e1 e2=>?_];let[x,e,nx,gx]:=((hR.mono s1).snoc (a:=a) (r:=ns) #[ne,fj s ha] ga).2 j v r e1 e2;exact#[x,e,nx,by rw[cF nx.1];exact gx]
def KL:Sp:=λvs H Q _=>∃(a b:Addr)(l r l' r':Nat)(A B:LL),vs=[3 a,3 b]/\iy (λ_=>True) H a l r A/\iy (λ_=>True) H b l' r' B/\(∀q∈A,q.length=l+r)/\(∀q∈B,q.length=l'+r')/\A.length<=400/\B.length<=400/\l+r<=400/\l'+r'<=400/\
 y6 H (l+l') (r+r') (A.map (D1.j6 l l' r')++B.map (D1.lH l r l')) Q
def rW:dz ["one","other","rows","left","right","some","into","out","more","row"] ["one","other"] (cj Kd):=(dW 9 9 9 19 9)
def acS(F:cL K "_law_beside" "_law_beside" Kd f fd):bQ P w K mg base bX 1 f fd ["one","other"] KL:=by
 refine 17 rW 24 ?_
 .let[a,b,l,r,l',r',A,B,rfl,_]:=h;rfl
 .let[a,b,l,r,l',r',RA,RB,rfl,[_,a1,AS,ga,_,BJ,hA],[_,b1,BS,gb,_,qF,hB],lA,lB,nA,nB,wA,wB,q]:=h;let nY:=jE;refine#[_,bz (cx (i:=2) rW.nd rfl (18) (cK bj))<|bz (pA (pv 0)<|tL 9<|eR (cH (i:=3) rW.nd rfl (18))<|eR (cH (i:=04) rW.nd rfl (18))<|eR (cH (i:=05) rW.nd rfl (18)) nJ)<|bz (pA (pv 1)<|tL 9<|eR (cH (i:=06) rW.nd rfl (18))<|eR (cH (i:=07) rW.nd rfl (18))<|eR (cH (i:=08) rW.nd rfl (18)) nJ)<|bz (kY lS 9 (iY K 9<|pv 05) (cH (i:=09) rW.nd rfl (18))<|bN<|jT<|jX lR pf ph nP (pv 2)<|bf (bI eV (bI eV (bI eV (fQ (nU K 9) (pv 09) ik<|eM<|pv 3)<|bI rQ (cK<|bf br bj)<|pv 06)<|fQ (nU K 9) (pv 09) (eM<|pv 3) ik)<|bI rQ (cK<|bf br bj)<|pv 07) bj)<|bz (kY lS 9 (iY K 9<|pv 08) (cH (i:=09) rW.nd rfl (18))<|bN<|jT<|jX lR pf ph nP (pv 2)<|bf (bI eV (bI eV (bI eV (bI rQ (cK<|bf br bj)<|pv 3)<|fQ (nU K 9) (pv 09) ik<|eM<|pv 06)<|bI rQ (cK<|bf br bj)<|pv 04)<|fQ (nU K 9) (pv 09) (eM<|pv 06) ik) bj)<|bN<|cJ<|cK<|bf (bI ij (pv 3)<|pv 06)<|bf (bI ij (pv 04)<|pv 07)<|10 2 bj,?_];refine#[16,λlr ue=>?_];let s0:bc H (9 H lr []):=.upd ue;let g0:(9 H lr []) lr=13 []:=bq;generalize 9 H lr []=H0 at s0 g0 |-;refine#[_,9,ud (.of<|s0 _ _ ga) #[_,9,ud (.of<|s0 _ _ gb) ?_]];refine#[_,9,a1,9,#[_,.of<|s0 _ _ BJ],uH (xs:=AS) (λi σ H'=>bc H H'/\∃ZS s9,σ=[8 a,8 b,8 lr,0<|2 (l:Int),0<|2 (r:Int),8 a1,0<|2 (l':Int),0<|2 (r':Int),8 b1,s9]/\H' lr=13 ZS/\LR (λx=>x≠lr/\H x=8) H' ZS ((RA.take i).map<|D1.j6 l l' r')) #[s0,[],8,9,g0,LR.nil] (λi σ H' _ ⟨sm,_⟩=>.of (sm _ _ BJ)) ?_ ?_]
  .rintro i x σ H1 hx ⟨sm,ZS,s9,rfl,g,hZ⟩;let[ra,row,rfl,j4,_,gr]:=hA.get' hx;let hw:=lA row<|dS j4;let vi:=sm _ _ gr;dsimp only[cg];refine KJ (i:=2) (ns:=D1.j6 l l' r' row) rfl g ue sm hZ (by rw[bH,cV];lia) ?_ ?_
   .refine rV (rV (rV (BH (a:=ra) (ns:=row) 9 vi (lF 9) 7) (y8 (lF 9) 7) ?_) (BI (a:=ra) (ns:=row) 9 vi (lF 9) 7) ?_) (y8 (lF 9) 7) ?_;all_goals simp only[cb,cV,dU,fg]
    all_goals lia
   .intro H' qE i5 g' oS;refine#[i5,qE,_,9,g',?_];rw[iM,j4];show LR _ H' qE ((RA.take i++[row]).map _);rw[eC];exact oS
  rintro σ H1 ⟨sm,ZS,s9,rfl,g,hZ⟩;rw[hA.1,nF]at hZ;refine#[_,9,b1,9,#[_,.of<|sm _ _ qF],uH (xs:=BS) (λi σ H'=>bc H H'/\∃ZS s9,σ=[8 a,8 b,8 lr,0<|2 (l:Int),0<|2 (r:Int),8 a1,0<|2 (l':Int),0<|2 (r':Int),8 b1,s9]/\H' lr=13 ZS/\LR (λx=>x≠lr/\H x=8) H' ZS (RA.map (D1.j6 l l' r')++(RB.take i).map (D1.lH l r l'))) #[sm,ZS,s9,9,g,by rw[List.take_zero,List.map_nil,iV];exact hZ] (λi σ H' _ ⟨sm,_⟩=>.of (sm _ _ qF)) ?_ ?_]
  .clear hZ g ZS s9 sm H1;rintro i x σ H1 hx ⟨sm,ZS,s9,rfl,g,hZ⟩;let[ra,row,rfl,j4,_,gr]:=hB.get' hx;let hw:=lB row<|dS j4;let vi:=sm _ _ gr;dsimp only[cg];refine KJ (i:=2) (ns:=D1.lH l r l' row) rfl g ue sm hZ (by rw[cb,bH,bH,cV];lia) ?_ ?_
   .refine rV (rV (rV (y8 (lF 9) 7) (BH (a:=ra) (ns:=row) 9 vi (lF 9) 7) ?_) (y8 (lF 9) 7) ?_) (BI (a:=ra) (ns:=row) 9 vi (lF 9) 7) ?_;all_goals simp only[cb,cV,dU,fg]
    all_goals lia
   .intro H' qE i5 g' oS;refine#[i5,qE,_,9,g',?_];rw[iM,j4];show LR _ H' qE (_++(RB.take i++[row]).map _);rw[eC,<- gR];exact oS
  clear hZ g ZS s9 sm H1;rintro σ H1 ⟨sm,ZS,s9,rfl,g,hZ⟩;rw[hB.1,nF]at hZ;refine#[_,9,_,9,_,_,9,9,_,9,_,9,_,_,9,9,_,9,by show 11 3;decide,λt ht=>?_];refine q t _ (sm.trans<|.upd ht) #[fj sm ht,lr,ZS,?_,ue,bc.upd ht _ _ g,(hZ.mono<|.upd ht).weak λ_ z=>z.2];rw[bq,sQ,sQ]
def nw1:(["row","right"]:1 Str).Nodup:=by decide +kernel
def nw2:(["number"]:1 Str).Nodup:=by decide +kernel
def nw3:(["row","amid","left"]:1 Str).Nodup:=by decide +kernel
section
variable{K:Frag}{σ:St}{H:Hp}
def acT{ms:4}(h:σ[i]?=0 (8 a))(g:H a=13 (ns.map V.int))(h2:pW tb σ H ms)(hl:ns.length+ms.length<=10000):pW (bY fh (bt i) tb) σ H (ns++ms):=(λH' s R q=>by
 let z:11 (10000:Nat):=by decide
 refine#[_,h,h2 H' s _ λb H2 s2 hb gb=>?_];refine#[a,b,_,_,9,9,s2 _ _<|s _ _ g,gb,by simp only[bH];lia,λc hc=>?_];refine q c _ (s2.trans<|.upd hc) (fj s2 hc) ?_;rw[bq,eC])
def acU{tl:TE}(h:pW tl σ H ns)(hl:ns.length<=10000):pW (qu (Au K tl) 1 [] (cg 0) lV<|bY (gH λi j=>2<|i-j) (tC<|2 0)<|bt 0) σ H (ns.map λx=>0-x):=(λH' s R q=>by
 let z:11 (10000:Nat):=by decide
 refine h H' s _ λa H1 s1 ha ga=>#[a,9,#[_,.of ga],qx (cp:=[]) (λj H' zs=>zs=((ns.take j).map λx=>0-x).map V.int) (.of ga) (by rw[bH];lia) 9 (λj H' zs e=>by rw[e,bH,bH];exact sO _ _) ?_ ?_]
 .rintro j y fY zs hy i5 rfl;rw[dR]at hy;cases f1:ns[j]? with
  |none=>rw[f1]at hy;cases hy
  |some y'=>
   rw[f1]at hy;cases hy;refine oH #[_,9,_,_,9,9,#[[_],9,9],i5,?_];rw[iM,f1];simp
 .rintro H2 zs sm rfl lh ve;rw[bH,nF];exact q lh _ (s1.trans<|sm.trans<|.upd ve) (fj (s1.trans sm) ve) bq)
end
def KN{la:Addr}{LS:1 V}{L:LL}{g:4->4}{N:6 Addr}{te:TE}{cp:St}(gl:H la=13 LS)(hL:LR N H LS L)(hz:L.length<=1000)
  (Br:∀(x:Addr)(r:4)(H1:Hp),r∈L->bc H H1->H1 x=13 (r.map V.int)->pW te (8 x::cp) H1 (g r))
  (done:∀H' MS,bc H H'->LR (λa=>H a=8) H' MS (L.map g)->∀l,H' l=8->Q (3 l) (9 H' l MS)) :
  ∃W:Nat->Nat->St->Hp->6 (1 V),(∃m,W 0 m (16 1 8++cp) H [])/\mz (sZ K la) (cg 0) lV te Q W:=by
 let nY:=jE;let eL:=hL.1;refine qx (xs:=LS) (cp:=cp) (λi H' zs=>LR (λa=>H a=8) H' zs<|(L.take i).map g) (.of gl) 7 LR.nil (λi H' zs h=>by rw[h.1,bH];exact sO _ _) ?_ ?_
 .rintro i x H' zs e9 sm h';let[a,r,rfl,hr,_,ga]:=hL.get' e9;refine oH<|Br a r H' (dS hr) sm (sm _ _ ga) H' (.refl _) _ λl H2 s2 wR EJ=>#[#[[_],9,9],sm.trans s2,?_];rw[iM,hr];show LR _ H2 _ ((L.take i++[r]).map g);rw[eC];exact(h'.mono s2).snoc (fj sm wR) EJ
 .rintro H' zs sm h' l hl;rw[hL.1,nF]at h';exact done H' zs sm h' l hl
def KO:Sp:=λvs H Q _=>∃(p:Int)(a b:Addr)(l m r:Nat)(A B:LL),vs=[2 p,3 a,3 b]/\p∈cM/\iy (λ_=>True) H a l m A/\iy (λ_=>True) H b m r B/\Bw.cC p (l+m) A/\Bw.cC p (m+r) B/\A.length<=400/\B.length<=400/\l+m<=400/\m+r<=400/\
 y6 H l r (D1.By p l m r A B) Q
noncomputable abbrev KQ:1 Str:=["p","one","other","left","amid","rows","right","row","some","spare","thin"]
def uf:dz ["p","one","other","left","amid","rows","right","row","some","spare","thin"] ["p","one","other"] (cj yV):=(dW 9 9 9 19 9)
def acV{fC:Addr}{nh:FuncData}(F:cL K "_law_then" "_law_then" yV f fd)(T:Txt mg)
  (GC:bQ P w K mg base bX 2 fC nh ["p","rows","places"] (Kv K)) (kC:Kp K fC) (bC:Binds K nh ["p","rows","places"] []) (mC:Mg mg "_law_cleared" fC) :
  bQ P w K mg base bX 3 f fd ["p","one","other"] KO:=by
 refine 17 uf 24 ?_
 .let[p,a,b,l,m,r,A,B,rfl,_]:=h;rfl
 .let[p,a,b,l,m,r,RA,RB,rfl,pp,[_,a1,AS,ga,_,BJ,hA],[_,b1,BS,gb,_,qF,hB],lA,lB,nA,nB,wA,wB,q]:=h;let nY:=jE;let p0:0<p:=by let:=gK p pp;lia
  refine#[_,bz (pA (pv 1)<|tL 9<|eR (cH (i:=3) uf.nd rfl (Or.inr 9))<|eR (cH (i:=04) uf.nd rfl (Or.inr 9))<|eR (cH (i:=05) uf.nd rfl (18)) nJ)<|bz (cx (i:=06) uf.nd rfl (Or.inr 9) (bZ (dC K 9) (pv 2) br))<|bz (mH (i:=08) (N:=["row","right"]) (own:=1) (caps:=[06]) rfl uf.nd rfl rfl (iY K 9<|pv 05) (show fH KQ (cj yV) ["row","right"] 1 [06] _ from .mk' 19) (λ_ _ _ _ _=>cH (i:=0) nw1 rfl (18)) (λ_ _ _ _ _=>jn) (λ_ _ _ _ _=>bI eV (pv 0)<|bI rQ (cK<|bf br bj)<|pv 1))<|bz (kY lS 9 (iY K 9<|bZ (dC K 9) (pv 2) br) (cH (i:=07) uf.nd rfl (18))<|bN<|jT<|jX lR pf ph nP (pv 08)<|bf (bI eV (bI eV (bI rQ (cK<|bf br bj)<|pv 3)<|qw (N:=["number"]) (own:=1) (caps:=[]) rfl (iY K 9<|fQ (nU K 9) (pv 07) ik<|eM<|pv 04) (show fH KQ (cj yV) ["number"] 1 [] _ from .mk' 19) (λ_ _ _ _ _=>cH (i:=0) nw2 rfl (18)) (λ_ _ _ _ _=>jn) (λ_ _ _ _ _=>bI nN br<|pv 0))<|fQ (nU K 9) (pv 07) (eM<|pv 04) ik) bj)<|bz (cx (i:=09) uf.nd rfl (18) (bZ (dC K 9) (cY GC hr 9 mC kC bC .nil cZ<|10 0<|10 08<|bf (jl (Jo 9) 9 T.list uU<|bf (jl aam 9 T.range Jv<|10 3<|bf (bI ij (pv 3)<|pv 04) bj) bj) bj) br))<|bz (mH (i:=10) (N:=["row","amid","left"]) (own:=1) (caps:=[04,3]) rfl uf.nd rfl rfl (iY K 9<|pv 09) (show fH KQ (cj yV) ["row","amid","left"] 1 [04,3] _ from .mk' 19) (λ_ _ _ _ _=>cH (i:=0) nw3 rfl (18)) (λ_ _ _ _ _=>jn) (λ_ _ _ _ _=>bI eV (fQ (nU K 9) (pv 0) ik<|eM<|pv 2)<|fQ (nU K 9) (pv 0) (eM<|bI ij (pv 2)<|pv 1) ik))<|bN<|cJ<|cK<|10 3<|10 06<|bf (bZ (dC K 9) (cY GC hr 9 mC kC bC .nil cZ<|10 0<|10 10<|bf (jl (Jo 9) 9 T.list uU<|bf (jl RQ 9 T.range Jv<|bf (bI ij (pv 3)<|pv 06) bj) bj) bj) br) bj,?_]
  refine#[_,9,ud (.of ga) #[_,9,b,_,1,2 (r:Int),9,9,.of gb,cm (j:=1) rfl,?_]];refine#[_,9,a1,9,#[_,.of BJ],KN (g:=D1.oO r) (cp:=[0<|2 (r:Int)]) BJ hA (by lia) (λx row H1 lI s1 gx=>?_) ?_]
  .let:=(lA row lI).1
   refine acT (a:=x) (ns:=row) (ms:=16 r 0) rfl gx (y8 (lF 9) 7) ?_;rw[fg];lia
  rintro H1 MS s1 hM ls iO;let s2:bc H (9 H1 ls MS):=s1.trans<|.upd iO;let g2:(9 H1 ls MS) ls=13 MS:=bq;let lsH:H ls=8:=fj s1 iO;let EK:LR (λx=>x≠ls/\H x=8) (9 H1 ls MS) MS (RA.map<|D1.oO r):=#[hM.1,λi v q e1 e2=>by
   let[x,e,hx,gx]:=hM.2 i v q e1 e2;let ne:x≠ls:=λz=>by rw[z,iO]at gx;cases gx
   exact#[x,e,#[ne,hx],by rw[cF ne];exact gx]]
  generalize 9 H1 ls MS=H2 at s2 g2 EK |-;refine#[_,9,b,_,2,3 b1,9,9,.of<|s2 _ _ gb,cm (j:=2) rfl,b1,9,#[_,.of<|s2 _ _ qF],uH (xs:=BS) (λi σ H'=>bc H H'/\∃ZS s7,σ=[0<|2 p,8 a,8 b,0<|2 (l:Int),0<|2 (m:Int),8 a1,0<|2 (r:Int),s7,8 ls,8,8]/\H' ls=13 ZS/\LR (λx=>x≠ls/\H x=8) H' ZS (RA.map (D1.oO r)++(RB.take i).map (D1.pU l m))) #[s2,MS,8,9,g2,by rw[List.take_zero,List.map_nil,iV];exact EK] (λi σ H' _ ⟨sm,_⟩=>.of (sm _ _ qF)) ?_ ?_]
  .clear hM EK g2 s2 s1 iO;rintro i x σ H1 hx ⟨sm,ZS,s9,rfl,g,hZ⟩;let[ra,row,rfl,j4,_,gr]:=hB.get' hx;let hw:=(lB row<|dS j4).1;let vi:=sm _ _ gr;dsimp only[cg];refine KJ (i:=08) (ns:=D1.pU l m row) rfl g lsH sm hZ (by rw[cb,bH,bH,cV];lia) ?_ ?_
   .refine rV (rV (y8 (lF 9) 7) (acU (BH (a:=ra) (ns:=row) 9 vi (lF 9) 7) ?_) ?_) (BI (a:=ra) (ns:=row) 9 vi (lF 9) 7) ?_;all_goals simp only[cb,cV,dU,fg,bH]
    all_goals lia
   .intro H' qE i5 g' oS;refine#[i5,qE,_,9,g',?_];rw[iM,j4];show LR _ H' qE (_++(RB.take i++[row]).map _);rw[eC,<- gR];exact oS
  clear hM EK g2 s2 s1 iO;rintro σ H3 ⟨sm,ZS,s7,rfl,g,hZ⟩;rw[hB.1,nF]at hZ;let hZ:LR (λx=>x≠ls/\H x=8) H3 ZS (D1.kr l m r RA RB):=hZ;let S0:=D1.Ez p0 lA lB;let S1:=D1.Ep pp S0 m;let sl:(D1.kr l m r RA RB).length<=800:=by
   unfold D1.kr;rw[cb,bH,bH];lia
  let nr:=(Kw pp (lo:=l) (λq hq=>(#[S0.len q hq,S0.near q hq]:Rn p (l+m+r) q)) m).2.2.2;let R3:=D1.y3 pp lA lB;let aiW:(D1.By p l m r RA RB).length<=l+r:=(D1.Bq pp R3 (l+r)<|ck _).len<|ck _;refine#[_,9,_,9,_,9,_,9,_,9,_,_,9,9,_,_,9,λpr BF=>#[pr,_,_,9,bq,#[7,7,7,7],7,λlp KR=>?_]];let s4:=(bc.upd BF (o:=.qi (l:Int)<|(l:Int)+(m:Int))).trans (bc.upd KR (o:=.lst<|(List.range ((l:Int)+(m:Int)-(l:Int)).toNat).map λ(k:Nat)=>V.int ((l:Int)+k)));refine#[p,ls,lp,ZS,D1.kr l m r RA RB,l+m+r,l,m,9,pp,s4 _ _ g,(hZ.mono s4).weak λ_ _=>trivial,7,7,λq hq=>#[S0.len q hq,S0.near q hq],7,?_,?_]
  .rw[bq]
   let:=KH l m
   rw[sQ]at this;exact aj (λz=>0<|HO.lst z) this
  intro t1 f1 sp FS GS H4 s5 vg gt1 _ _ _ lj R4 hG;refine#[t1,_,1,3 sp,9,9,.of gt1,cm (j:=1) rfl,?_];let s6:=(sm.trans s4).trans s5;refine#[_,9,sp,9,#[_,.of R4],KN (g:=D1.y2 l m) (cp:=[0<|2 (m:Int),0<|2 (l:Int)]) R4 hG (by lia) (λx row H1 lI s1 gx=>?_) ?_]
  .let hw:=S1.len row lI;refine rV (BH (a:=x) (ns:=row) 9 gx (lF 9) 7) (BI (a:=x) (ns:=row) (k:=l+m) 9 gx ?_ 7) ?_
   .rw[sQ];exact acR (lF 9)<|lF 9
   .simp only[cV,dU];lia
  rintro H5 TS s7 hT lt cX;let s8:bc H (9 H5 lt TS):=(s6.trans s7).trans<|.upd cX;let g8:(9 H5 lt TS) lt=13 TS:=bq;let EL:=hT.mono (bc.upd cX (o:=.lst TS));generalize 9 H5 lt TS=H6 at s8 g8 EL |-;let EL:LR (λa=>H4 a=8) H6 TS (D1.oP p l m r RA RB):=EL;let thl:(D1.oP p l m r RA RB).length<=800:=by
   unfold D1.oP;rw[bH];lia
  refine#[_,9,_,9,_,9,_,9,_,9,_,9,_,_,9,9,_,9,λpr BF=>#[pr,_,_,9,bq,#[16,16,7,7],7,λlp KR=>?_]];let s9:=(bc.upd BF (o:=.qi 0<|(l:Int)+(r:Int))).trans (bc.upd KR (o:=.lst<|(List.range ((l:Int)+(r:Int)-0).toNat).map λ(k:Nat)=>V.int (0+k)));refine#[p,lt,lp,TS,D1.oP p l m r RA RB,l+r,0,l+r,9,pp,s9 _ _ g8,(EL.mono s9).weak λ_ _=>trivial,7,7,λq hq=>.of<|R3 q hq,7,?_,?_]
  .rw[bq]
   let:=KH 0<|l+r
   rw[lP,sQ]at this;exact aj (λz=>0<|HO.lst z) this
  intro t2 f2 sp2 FS2 GS2 H7 nR lJ KS ni gf2 KU _ _ _;let qG:=s8.trans s9;refine#[t2,_,0,3 f2,9,9,.of KS,cm (j:=0) rfl,by show 11 3;decide,λt ht=>?_];let s12:=qG.trans nR;exact q t _ (s12.trans<|.upd ht) #[fj s12 ht,f2,FS2,bq,fj qG ni,bc.upd ht _ _ gf2,(KU.mono<|.upd ht).weak λx z=>fj qG z]
end S21
namespace L2
open PySem PySem.Spec PyProof.Rows
section
variable{P:Program}{w:World}{fs NI:1 Addr}{H H1:Hp}{h h1 h2 B:Heap}
end
section
variable{P:Program}{w:World}{K:Frag}{mg:Str->7 5}{base:Heap}{N:1 Str}{qual:Str}{scope:Scope}{f C:Addr}{cd:Value}{A:Around}{outer:1 Env}{s:Shared}{H:Hp}{E:XK}
end
section
variable{P:Program}{w:World}{K:Frag}{mg:Str->7 5}{base:Heap}
end
section
variable{X:Cx}{x:Str}{np iG pos:Pos}{C:Addr}{bmB:1 5}{B aiX aiY:String}{e₀:Expr}{cu:1 Expr}{t:TA}{E:XK}
end
open PySem.W (Looks)
open PySem.Builtin PySem.Builtin.ObjectAttr PySem.Builtin.Getset_descriptor
section
variable{X:Cx}{C W ea:Addr}{aZ:5 Addr Obj}{σ:St}{H1 H':Hp}{s1 s':Shared}{B:Heap}{a0:Value}
end
section
variable{X:Cx}{C W f:Addr}{k:Nat}{fd:FuncData}{ps:1 Str}{sp:Sp}{x wn n y:Str}{p cp ep wp np yp ap hp pos:Pos}{e:Expr}{es:1 Expr}{t:TA}{ix ie:Nat}
end
section
variable{prog:Program}{w:World}{A:Around}{E:QV}{K:Frag}{C a:Addr}
end
section
variable{X:Cx}(K:Frag)(hK:X.K=K)
include hK
def acW{T:String}:gG X (.builtin "isinstance") (λxs H Q=>∃x b,xs=[.str x,.ty T]/\kitOne K (.type "str") (.type T)=0 b/\Q (.bl b) H):=by
 subst hK;intro aZ s σ H vs us Q I r #[x,b,e,k,q];exact Jp aZ s σ H vs us Q I r #[_,_,b,e,.str x,k,q]
end
end L2
namespace S21
open PySem L2 Bw
variable{D:Ends}{H H' H0:Hp}{HS ys:1 V}{N i:Nat}{X:Cx}{a ed hl wl:Addr}{d d0:D1.Dr}{ds:1 D1.Dr}{f:Str->7 4}{p:Int}{s4 s6 s7 s8 s9:7 V}{t u:TS}{x:Str}{σ:St}
def KW(K:Frag)(hK:X.K=K){T:String}:gG X (.builtin "isinstance") (λxs H Q=>∃(x:V)(b:Bool),xs=[x,.ty T]/\((∃i,x=2 i/\kitOne K (.type "int") (.type T)=0 b)\/∃s,x=.str s/\kitOne K (.type "str") (.type T)=0 b)/\Q (.bl b) H):=by
 rintro aZ s σ H vs us Q I r ⟨x,b,e,h|h,q⟩
 .let[i,rfl,k]:=h;exact aaJ K hK aZ s σ H vs us Q I r #[i,b,e,k,q]
 .let[y,rfl,k]:=h;exact acW K hK aZ s σ H vs us Q I r #[y,b,e,k,q]
inductive iJ(p:Int)(hl:Addr)(H:Hp):1 D1.Dr->6 (1 V) where
 |nil:iJ p hl H [] []
 |cons {a:Addr} {d:D1.Dr} {ds:1 D1.Dr} {HS:1 V} (h:iy (·≠hl) H a d.l d.r (d.bh p)) (r:iJ p hl H ds HS):iJ p hl H (d::ds) (HS++[3 a])
section
variable{p:Int}{hl:Addr}{H H':Hp}{ds:1 D1.Dr}{HS:1 V}
def iJ.mono(h:iJ p hl H ds HS)(s:bc H H'):iJ p hl H' ds HS:=by
 induction h with
 |nil=>exact .nil
 |cons h _ ih=>exact .cons (h.mono s) ih
def iJ.wr{o:HO}(h:iJ p hl H ds HS):iJ p hl (upd H hl o) ds HS:=by
 induction h with
 |nil=>exact .nil
 |cons h _ ih=>exact .cons h.wr ih
def iJ.len(h:iJ p hl H ds HS):HS.length=ds.length:=by
 induction h with
 |nil=>rfl
 |cons _ _ ih=>rw[cb,ih];rfl
def iJ.pop(h:iJ p hl H (d::ds) HS):∃a dj,HS=dj++[3 a]/\iy (·≠hl) H a d.l d.r (d.bh p)/\iJ p hl H ds dj:=by
 cases h with
 |cons h r=>exact#[_,_,9,h,r]
def R5:(HS++[V.ref a])[(HS++[V.ref a]).length-1]?=8 a:=by simp
def R6:(HS++[V.ref a]).dropLast=HS:=by simp
end
def R7(K:Frag):Sp:=λvs H Q _=>∃(p:Int)(a:Addr)(d:D1.Dr),vs=[2 p,3 a]/\p∈cM/\H a=13 (d.aY.map dQ)/\d.wf p/\d.eO 400/\23<=9000000/\
 ∀t H' b TS,bc H H'->H' t=13 [2 (d.l:Int),2 (d.r:Int),3 b]->bu K H' b TS->cy K H' TS ((eQ p<|d.bh p).map dB)->Q (3 t) H'
noncomputable abbrev nMn:1 Str:=["p","words","held","number","back","word","left","right","rows","one"]
def n5:dz ["p","words","held","number","back","word","left","right","rows","one"] ["p","words"] (cj Eg):=(dW 9 9 9 19 9)
def ny1:(["row","left"]:1 Str).Nodup:=by decide +kernel
def BK(K:Frag)(te:TE):TS:=xY<|yh K "list" AI (bt 2)<|bw te cB
def y9(K:Frag):TE:=AD K "list" Di<|bt 2
def KY(K:Frag):TT:=kZ<|qr (λxs H Q=>∃(x:V)(b:Bool),xs=[x,.ty "int"]/\((∃i,x=2 i/\kitOne K (.type "int") (.type "int")=0 b)\/∃s,x=.str s/\kitOne K (.type "str") (.type "int")=0 b)/\Q (.bl b) H)<|bw (bt 05)<|bw (tC<|.ty "int") cB
def BL(x:String):TT:=kZ<|bY rJ (bt 05)<|tC<|.str x
def acX(K:Frag):TS:=cR (dI (y9 K)<|yG K 3<|iF (cg 06)<|iF (cg 07)<|iF (cg 08) rG)<|BK K<|dt<|bw (bt 07)<|bw (bt 06)<|bw (qu (Au K<|bt 08) 1 [06] (cg 0) lV<|bY fh (kh (yf K) (bt 0) (jA<|bt 1) lU)<|kh (yf K) (bt 0) lU<|jA<|bt 1) cB
def acY(K:Frag):TS:=cR (dI (y9 K)<|cg 09)<|BK K<|kg KO [] E0<|bw (bt 0)<|bw (bt 09)<|bw (y9 K) cB
def acZ(K:Frag):TS:=cR (dI (y9 K)<|cg 09)<|BK K<|kg KL [] E0<|bw (bt 09)<|bw (y9 K) cB
def ac0(K:Frag):TS:=BK K<|kg EG [] E0<|bw (bt 0)<|bw (bt 05)<|bw (bY (nO K) (dt<|bw (tC<|2 1)<|bw (bt 3) cB)<|qr (λxs H Q=>(∃i,xs=[2 i]/\Q (2 i) H)\/∃k,xs=[.bl k]/\Q (2<|if k then 1 else 0) H)<|bw (bY rJ (bt 05)<|tC<|.str "times") cB) cB
def EN{te:TE}(hi:σ[2]?=0 (8 hl))
  (gl:H hl=13 HS)
  (h:∀R:VK,(∀a H1 nj,bc H0 H1->H1 hl=13 nj->nj.length<=9000000->iJ p hl H1 ds nj->iy (·≠hl) H1 a d.l d.r (d.bh p)->R (3 a) H1)->te σ H R) (nk:H0 hl=8)
  (k:∀H' dj,bc H0 H'->H' hl=13 dj->iJ p hl H' (d::ds) dj->D.nx σ H'):BK K te D σ H:=by
 let z:(9000000:Nat)<sizeLine:=by decide
 refine#[_,hi,.inl #[9,_,dv.of gl],h _ λa H1 nj s1 g1 z1 h1 t1=>#[hl,nj,3 a,9,9,g1,7,?_]];exact k _ _ (s1.write nk) bq<|.cons t1.wr h1.wr
def EO{H1:Hp}{o:HO}{l r:Nat}{bh:LL}(g:H hl=0 o)(t:iy (λx=>H x=8) H1 a l r bh):iy (·≠hl) H1 a l r bh:=(t.weak λx hx e=>by
 rw[e,g]at hx;cases hx)
def BM(K:Frag):TS:=gU (KY K) (dI (bt 05)<|cg 3)<|gU (BL "back") (acX K)<|gU (BL "then") (acY K)<|gU (BL "beside") (acZ K)<|ac0 K
def R8{y:Str}:decide (V.str x=V.str y)=decide (x=y):=by
 by_cases h:x=y
 .rw[aH h,aH (aj V.str h)]
 .rw[ae h,ae λz=>h (V.str.inj z)]
def za{y:String}(h5:σ[05]?=0 (0<|.str x))(c8:x≠4 y)(h:u D σ H):gU (BL y) t u D σ H:=by
 refine#[_,h5,9,_,9,?_];rw[R8,ae c8];exact dh h
def KZ{y:String}(h5:σ[05]?=0 (0<|.str<|4 y))(h:t D σ H):gU (BL y) t u D σ H:=by
 refine#[_,h5,9,_,9,?_];rw[aH 9];exact fw h
def ER(h5:σ[05]?=0 (0<|.str x))(h:u D σ H):gU (KY K) t u D σ H:=(#[_,h5,_,false,9,.inr #[x,9,wz K],_,9,dh h])
def ac1{i:Int}(h5:σ[05]?=0 (0<|2 i))(h:t D σ H):gU (KY K) t u D σ H:=(#[_,h5,_,6,9,.inl #[i,9,Jt K],_,9,fw h])
structure zb(p:Int)(d0:D1.Dr)(wl hl:Addr)(H0:Hp)(D:Ends)(i:Nat):Prop where
 nk:H0 hl=8
 nx:∀num s4 s5 s6 s7 s8 s9 dj H',bc H0 H'->H' hl=13 dj->iJ p hl H' (D1.gO (none,[d0]) i).2 dj->(∀m,(D1.gO (none,[d0]) i).1=0 m->num=m)->D.nx [0<|2 p,8 wl,8 hl,0<|2 num,s4,s5,s6,s7,s8,s9] H'
def ug{x:String}{num n':Int}(C:zb p d0 wl hl H0 D i)(e:D1.gO (none,[d0]) i=(none,d::ds))
  (sm:bc H0 H) (g:H hl=13 HS) (hz:HS.length<=9000000) (h:iJ p hl H ds HS) (hn:n'=if x="times" then num else 1) (hb:BG (4 x) n'=(d.l,d.r,d.bh p)) (hx:decide (4 x=4 "times")=decide (x="times"))
  (n1:4 x≠4 "back") (n2:4 x≠4 "then") (n3:4 x≠4 "beside") :
  BM K D [0<|2 p,8 wl,8 hl,0<|2 num,s4,0<|.str<|4 x,s6,s7,s8,s9] H:=by
 refine ER 9<|za 9 n1<|za 9 n2<|za 9 n3 ?_;refine EN (d:=d) (ds:=ds) 9 g (λR k=>?_) C.nk λH' dj s' g' h'=>C.nx _ _ _ _ _ _ _ dj H' s' g' (by rw[e];exact h') (λm hm=>by rw[e]at hm;cases hm);refine#[_,9,_,9,_,9,by show 11 2;decide,λl nT=>#[_,9,9,.inr #[_,9,?_]]];let s1:bc H (9 H l [2 1,2 num]):=.upd nT;let fin:∀idx v,idx=(if decide (x="times")=6 then(1:Int)else 0)->rL [V.int 1,V.int num] idx=0 v->v=2 n'->(nO K) (3 l) (2 idx) (9 H l [2 1,2 num]) λv H'=>EG [2 p,.str<|4 x,v] H' R E0:=λidx v e1 e2 e3=>by
  subst e3;refine#[l,_,idx,_,9,9,.of bq,e2,p,4 x,n',9,?_];rw[hb];intro a H2 s2 t2;exact k a H2 HS ((sm.trans s1).trans s2) ((s1.trans s2) _ _ g) hz (h.mono<|s1.trans s2)<|EO (s1 _ _ g) t2
 rw[R8,hx];refine fin _ (2 n') 9 ?_ 9;rw[hn];by_cases ht:x="times"
 .rw[af ht,aH ht,af 9];exact cm (j:=1) rfl
 .rw[ag ht,ae ht,ag ia];exact cm (j:=0) rfl
def BN{Q:VK}(hi:σ[2]?=0 (8 hl))(g:H hl=13 HS)(h:iJ p hl H (d::ds) HS)(hz:HS.length<=9000000)(sm:bc H0 H)(nk:H0 hl=8)
  (k:∀a H1 nj,bc H0 H1->H1 hl=13 nj->nj.length<=9000000->iJ p hl H1 ds nj->(∀{b:Addr}{l r:Nat}{bh:LL},iy (·≠hl) H b l r bh->iy (·≠hl) H1 b l r bh)->iy (·≠hl) H1 a d.l d.r (d.bh p)->Q (3 a) H1):y9 K σ H Q:=by
 let[a,dj,rfl,t,h']:=h.pop;refine#[_,hi,.inl #[9,_,dv.of g],hl,_,3 a,9,9,g,R5,?_];rw[R6];rw[cb]at hz;exact k a _ dj (sm.write nk) bq 7 h'.wr (λt=>t.wr) t.wr
def ac2{num:Int}(C:zb p d0 wl hl H0 D i)(e:D1.gO (none,[d0]) i=(none,.back d::ds))
  (sm:bc H0 H) (g:H hl=13 HS) (hz:HS.length<=9000000) (h:iJ p hl H (d::ds) HS) (hR:∀q∈d.bh p,q.length=d.l+d.r) (hn:(d.bh p).length<=400) (hw:d.l+d.r<=400) :
  BM K D [0<|2 p,8 wl,8 hl,0<|2 num,s4,0<|.str<|4 "back",s6,s7,s8,s9] H:=by
 refine ER 9<|KZ 9 ?_;refine BN (p:=p) (d:=d) (ds:=ds) 9 g h hz sm C.nk λa H1 nj s1 g1 z1 h1 _ t1=>?_;let[na,b,XS,ga,nb,gb,hL]:=t1;refine ud (.of ga) ?_;refine EN (d:=.back d) (ds:=ds) rfl g1 (λR k=>?_) C.nk λH' dj s' g' h'=>C.nx _ _ _ _ _ _ _ dj H' s' g' (by rw[e];exact h') (λm hm=>by rw[e]at hm;cases hm);refine#[_,9,_,9,_,9,b,9,#[_,.of gb],KN (g:=D1.pT d.l) (cp:=[0<|2 (d.l:Int)]) gb hL (by lia) (λx row H2 lI s2 gx=>?_) ?_]
 .let El:=hR row lI;refine rV (BI (a:=x) (ns:=row) 9 gx (lF 9) 7) (BH (a:=x) (ns:=row) 9 gx (lF 9) 7) ?_;simp only[cV,dU];lia
 .rintro H2 MS s2 hM lm tN;refine#[by show 11 3;decide,λt ht=>?_];let[s3,t3]:=iy.new (l:=d.r) (r:=d.l) s2 hM tN ht;exact k t _ nj (s1.trans s3) (s3 _ _ g1) z1 (h1.mono s3)<|EO g1 t3
def ac3{a b:D1.Dr}{num:Int}(pp:p∈cM)(C:zb p d0 wl hl H0 D i)(e:D1.gO (none,[d0]) i=(none,.bg a b::ds))
  (sm:bc H0 H) (g:H hl=13 HS) (hz:HS.length<=9000000) (h:iJ p hl H (a::b::ds) HS) (vj:b.l=a.r) (ra:Bw.cC p (a.l+a.r) (a.bh p)) (rb:Bw.cC p (b.l+b.r) (b.bh p)) (na:(a.bh p).length<=400) (nb:(b.bh p).length<=400) (wa:a.l+a.r<=400) (wb:b.l+b.r<=400) :
  BM K D [0<|2 p,8 wl,8 hl,0<|2 num,s4,0<|.str<|4 "then",s6,s7,s8,s9] H:=by
 refine ER 9<|za 9 16<|KZ 9 ?_;refine BN (p:=p) (d:=a) (ds:=b::ds) 9 g h hz sm C.nk λaa H1 nj s1 g1 z1 h1 _ t1=>?_;refine EN (d:=.bg a b) (ds:=ds) rfl g1 (λR k=>?_) C.nk λH' dj s' g' h'=>C.nx _ _ _ _ _ _ _ dj H' s' g' (by rw[e];exact h') (λm hm=>by rw[e]at hm;cases hm);refine#[_,9,_,9,?_];refine BN (p:=p) (d:=b) (ds:=ds) 9 g1 h1 z1 s1 C.nk λbb H2 K0 s2 g2 z2 h2 up t2=>?_;rw[vj]at t2 rb wb;refine#[p,aa,bb,a.l,a.r,b.r,_,_,9,pp,(up t1).weak λ_ _=>trivial,t2.weak λ_ _=>trivial,ra,rb,na,nb,wa,wb,λt H3 s3 t3=>?_];exact k t H3 K0 (s2.trans s3) (s3 _ _ g2) z2 (h2.mono s3)<|EO g2 t3
def ac4{a b:D1.Dr}{num:Int}(C:zb p d0 wl hl H0 D i)(e:D1.gO (none,[d0]) i=(none,.bo a b::ds))
  (sm:bc H0 H) (g:H hl=13 HS) (hz:HS.length<=9000000) (h:iJ p hl H (a::b::ds) HS) (ra:Bw.cC p (a.l+a.r) (a.bh p)) (rb:Bw.cC p (b.l+b.r) (b.bh p)) (na:(a.bh p).length<=400) (nb:(b.bh p).length<=400) (wa:a.l+a.r<=400) (wb:b.l+b.r<=400) :
  BM K D [0<|2 p,8 wl,8 hl,0<|2 num,s4,0<|.str<|4 "beside",s6,s7,s8,s9] H:=by
 refine ER 9<|za 9 16<|za 9 16<|KZ 9 ?_;refine BN (p:=p) (d:=a) (ds:=b::ds) 9 g h hz sm C.nk λaa H1 nj s1 g1 z1 h1 _ t1=>?_;refine EN (d:=.bo a b) (ds:=ds) rfl g1 (λR k=>?_) C.nk λH' dj s' g' h'=>C.nx _ _ _ _ _ _ _ dj H' s' g' (by rw[e];exact h') (λm hm=>by rw[e]at hm;cases hm);refine#[_,9,?_];refine BN (p:=p) (d:=b) (ds:=ds) 9 g1 h1 z1 s1 C.nk λbb H2 K0 s2 g2 z2 h2 up t2=>?_;refine#[aa,bb,a.l,a.r,b.l,b.r,_,_,9,(up t1).weak λ_ _=>trivial,t2.weak λ_ _=>trivial,λq hq=>(ra q hq).1,λq hq=>(rb q hq).1,na,nb,wa,wb,λt H3 s3 t3=>?_];exact k t H3 K0 (s2.trans s3) (s3 _ _ g2) z2 (h2.mono s3)<|EO g2 t3
def zd(pp:p∈cM)(h:d.wf p/\d.eO 400):Bw.cC p (d.l+d.r) (d.bh p)/\(d.bh p).length<=400/\d.l+d.r<=400:=by
 let[h1,h2,_]:=D1.BC pp h.1
 let:=D1.Rz (B:=400) (by decide) h.2
 exact#[h1,7,7]
def ac5{num:Int}{wd:D1.Wd}(pp:p∈cM)(C:zb p d0 wl hl H0 D i)(ok:D1.ma p 400 (D1.gO (none,[d0]) i))
  (hw:(D1.ng<|D1.gO (none,[d0]) i)[0]?=0 wd) (sm:bc H0 H) (g:H hl=13 HS) (hz:HS.length<=9000000) (h:iJ p hl H (D1.gO (none,[d0])<|i+1).2 HS) (hn:∀m,(D1.gO (none,[d0])<|i+1).1=0 m->num=m) :
  BM K D [0<|2 p,8 wl,8 hl,0<|2 num,s4,0<|dQ wd,s6,s7,s8,s9] H:=by
 let e1:D1.gO (none,[d0]) (i+1)=D1.ub (D1.gO (none,[d0]) i):=9;rw[e1]at h hn;generalize hs:D1.gO (none,[d0]) i=st at h hn ok hw;let[ν,ds]:=st;cases ν with
 |some m=>
  cases hw;exact ac1 9 #[_,9,C.nx _ _ _ _ _ _ _ HS H sm g (by rw[hs];exact h) (λm' hm=>by rw[hs]at hm;cases hm;rfl)]
 |none=>
  cases ds with
  |nil=>cases hw
  |cons d ds=>
   let hd:=ok.2 d du;cases d with
   |times n=>
    cases hw
    let:num=n:=hn n 9
    subst this;exact ug (x := "times") (n':=num) C hs sm g hz h 9 9 16 16 16 16
   |id=>cases hw;exact ug (x := "id") (n':=1) C hs sm g hz h rfl rfl (by decide) (by decide) (by decide) (by decide)
   |swap=>cases hw;exact ug (x := "swap") (n':=1) C hs sm g hz h rfl rfl (by decide) (by decide) (by decide) (by decide)
   |copy=>cases hw;exact ug (x := "copy") (n':=1) C hs sm g hz h rfl rfl (by decide) (by decide) (by decide) (by decide)
   |fin=>cases hw;exact ug (x := "end") (n':=1) C hs sm g hz h rfl rfl (by decide) (by decide) (by decide) (by decide)
   |add=>cases hw;exact ug (x := "add") (n':=1) C hs sm g hz h rfl rfl (by decide) (by decide) (by decide) (by decide)
   |none=>cases hw;exact ug (x := "none") (n':=1) C hs sm g hz h rfl rfl (by decide) (by decide) (by decide) (by decide)
   |fZ=>cases hw;exact ug (x := "cup") (n':=1) C hs sm g hz h rfl rfl (by decide) (by decide) (by decide) (by decide)
   |empty=>cases hw;exact ug (x := "empty") (n':=1) C hs sm g hz h rfl rfl (by decide) (by decide) (by decide) (by decide)
   |back d=>
    cases hw;let[r1,r2,r3]:=zd pp (d:=d) hd;exact ac2 C hs sm g hz h (λq hq=>(r1 q hq).1) r2 r3
   |bg a b=>
    cases hw;let[a1,a2,a3]:=zd pp (d:=a) #[hd.1.1,hd.2.1];let[b1,b2,b3]:=zd pp (d:=b) #[hd.1.2.1,hd.2.2.1];exact ac3 pp C hs sm g hz h hd.1.2.2.symm a1 b1 a2 b2 a3 b3
   |bo a b=>
    cases hw;let[a1,a2,a3]:=zd pp (d:=a) #[hd.1.1,hd.2.1];let[b1,b2,b3]:=zd pp (d:=b) #[hd.1.2,hd.2.2.1];exact ac4 C hs sm g hz h a1 b1 a2 b2 a3 b3
def ac6{f fB fT fS fR:Addr}{fd vk ku jt BO:FuncData}(F:cL K "_law_meaning" "_law_meaning" Eg f fd)(T:Txt mg)
  (GT:bQ P w K mg base bX 3 fT ku ["p","one","other"] KO) (kT:Kp K fT) (bT:Binds K ku ["p","one","other"] []) (mT:Mg mg "_law_then" fT)
  (GS:bQ P w K mg base bX 1 fS jt ["one","other"] KL) (kS:Kp K fS) (bS:Binds K jt ["one","other"] []) (mS:Mg mg "_law_beside" fS)
  (GB:bQ P w K mg base bX 1 fB vk ["p","word","number"] EG) (kB:Kp K fB) (bB:Binds K vk ["p","word","number"] []) (mB:Mg mg "_law_box" fB)
  (GR:bQ P w K mg base bX 3 fR BO ["p","rows","size"] (RR K)) (kR:Kp K fR) (bR:Binds K BO ["p","rows","size"] []) (mR:Mg mg "_law_reduced" fR) :
  bQ P w K mg base bX 04 f fd ["p","words"] (R7 K):=by
 refine 17 n5 24 ?_
 .let[p,a,d,rfl,_]:=h;rfl
 .let[p,a,d,rfl,pp,ga,wf,nr,cW,q]:=h;let i6:eU 1 _:=hr.mono 7;refine#[_,bz (cx (i:=2) n5.nd rfl (18) (cK bj))<|bz (cx (i:=3) n5.nd rfl (18) br)<|bz (kY lS 9 (x5 9 T.range<|bf (iW (nV K 9) 9 T.len nW<|10 1 bj) bj) (cH (i:=04) n5.nd rfl (18))<|bz (cx (i:=05) n5.nd rfl (18) (bZ (dC K 9) (pv 1)<|bI nN (bI nN (iW (nV K 9) 9 T.len nW<|10 1 bj) br)<|pv 04))<|bN<|dq (vY<|iW (KW K rfl (T := "int")) 9 T.isinstance AV<|10 05<|bf (AR 9 T.int yF) bj) (bN<|cx (i:=3) n5.nd rfl (18) (pv 05))<|bN<|dq (cQ e8 (pv 05) c7<|cO _) (bz (pA (tR K 9<|pv 2)<|tL 9<|eR (cH (i:=06) n5.nd rfl (Or.inr 9))<|eR (cH (i:=07) n5.nd rfl (18))<|eR (cH (i:=08) n5.nd rfl (18)) nJ)<|bN<|jT<|jX lR pf ph nP (pv 2)<|bf (cK<|10 07<|10 06<|bf (qw (N:=["row","left"]) (own:=1) (caps:=[06]) rfl (iY K 9<|pv 08) (show fH nMn (cj Eg) ["row","left"] 1 [06] _ from .mk' 19) (λ_ _ _ _ _=>cH (i:=0) ny1 rfl (18)) (λ_ _ _ _ _=>jn) (λ_ _ _ _ _=>bI eV (fQ (nU K 9) (pv 0) (eM<|pv 1) ik)<|fQ (nU K 9) (pv 0) ik<|eM<|pv 1)) bj) bj)<|bN<|dq (cQ e8 (pv 05) c7<|cO _) (bz (cx (i:=09) n5.nd rfl (18) (tR K 9<|pv 2))<|bN<|jT<|jX lR pf ph nP (pv 2)<|bf (cY GT hr 9 mT kT bT .nil cZ<|10 0<|10 09<|bf (tR K 9<|pv 2) bj) bj)<|bN<|dq (cQ e8 (pv 05) c7<|cO _) (bz (cx (i:=09) n5.nd rfl (18) (tR K 9<|pv 2))<|bN<|jT<|jX lR pf ph nP (pv 2)<|bf (cY GS i6 9 mS kS bS .nil cZ<|10 09<|bf (tR K 9<|pv 2) bj) bj)<|bN<|jT<|jX lR pf ph nP (pv 2)<|bf (cY GB i6 9 mB kB bB .nil cZ<|10 0<|10 05<|bf (bZ (dC K 9) (cK<|bf br<|10 3 bj)<|jl Il 9 T.int yF<|bf (v8 e8 (pv 05) c7<|cO _) bj) bj) bj)<|bz (pA (bZ (dC K 9) (pv 2) br)<|tL 9<|eR (cH (i:=06) n5.nd rfl (Or.inr 9))<|eR (cH (i:=07) n5.nd rfl (18))<|eR (cH (i:=08) n5.nd rfl (18)) nJ)<|bN<|cJ<|cK<|10 06<|10 07<|bf (cY GR hr 9 mR kR bR .nil cZ<|10 0<|10 08<|bf (bI ij (pv 06)<|pv 07) bj) bj,?_]
  let z9:(9000000:Nat)<sizeLine:=by decide
  refine#[16,λhl ze=>?_];let s0:bc H (9 H hl []):=.upd ze;let g0:(9 H hl []) hl=13 []:=bq;generalize 9 H hl []=H0 at s0 g0 |-;let eN:(d.aY.map dQ).length=23:=bH _;let K1:D1.ma p 400 (none,[d]):=#[λm e=>(nomatch e),λd' h'=>by rw[cT.mp h'];exact#[wf,nr]];refine#[_,9,a,_,9,.inl<|.of<|s0 _ _ ga,_,9,7,7,Aw (n:=(d.aY.map dQ).length) (λk σ H'=>bc H H'/\∃num s4 s5 s6 s7 s8 s9 HS,σ=[0<|2 p,8 a,8 hl,0<|2 num,s4,s5,s6,s7,s8,s9]/\H' hl=13 HS/\iJ p hl H' (D1.gO (none,[d])<|23-k).2 HS/\∀m,(D1.gO (none,[d])<|23-k).1=0 m->num=m) #[s0,1,8,8,8,8,8,8,[],9,g0,?_,λm e=>?_] ?_ ?_]
  .rw[Nat.sub_zero,D1.EE];exact .nil
  .rw[Nat.sub_zero,D1.EE]at e;cases e
  .rintro k σ H1 hk ⟨sm,num,s4,s5,s6,s7,s8,s9,HS,rfl,g,hH,hn⟩;rw[eN]at hk;rw[lQ];obtain⟨i,hi⟩:∃i,23-k=i+1:=#[23-k-1,7];rw[hi]at hH hn;let mQ:23-(k+1)=i:=by lia
   let uh:i<23:=by lia
   let hw:=D1.RC (d:=d) (i:=i);rw[cD uh]at hw;let jC:=D1.RD d<|i+1;let hz:=hH.len;refine#[_,9,_,9,a,_,9,.inl<|.of<|sm _ _ ga,_,_,9,9,_,9,_,_,9,9,a,_,(i:Int),dQ d.aY[i],9,?_,.of<|sm _ _ ga,cm (by rw[dR,cD uh];rfl),?_]
   .refine aj V.int ?_;rw[eN];lia
   refine ac5 pp (#[ze,λac7 K2 K3 BP K4 K5 rX dj H' s' g' h' HN=>?_]:zb p d a hl H _ i) (D1.KC K1 i) hw.symm sm g 7 hH hn;refine#[s',ac7,K2,K3,BP,K4,K5,rX,dj,9,g',?_,?_]
   .rw[mQ];exact h'
   .rw[mQ];exact HN
  .rintro σ H1 ⟨sm,num,s4,s5,s6,s7,s8,s9,HS,rfl,g,hH,hn⟩;rw[eN,Nat.sub_self]at hH;let[t,dj,rfl,[nt,b,XS,gt,nb,gb,hL],iw]:=iJ.pop (d:=d) (ds:=[]) hH;cases iw;let[r1,r2,r3]:=zd pp #[wf,nr];refine#[_,9,hl,_,0,3 t,9,9,.of g,cm (j:=0) rfl,ud (.of gt) ?_];refine#[_,9,_,9,_,9,_,9,_,9,_,9,_,_,9,9,p,b,XS,d.bh p,d.l+d.r,?_,pp,gb,hL.weak λ_ _=>trivial,7,7,r1,λu H2 DS s2 h2 h3=>#[by show 11 3;lia,λv hv=>?_]]
   .rw[sQ];rfl
   .exact q v _ u DS ((sm.trans s2).trans<|.upd hv) bq ((bc.upd hv).bK h2)<|h3.mono<|.upd hv
def eJ(l:Addr)(H H':Hp):Prop:=∀b o,b≠l->H b=0 o->H' b=0 o
def eJ.of{l:Addr}(s:bc H H'):eJ l H H':=(λb o _ e=>s b o e)
def eJ.trans{l:Addr}{fY:Hp}(s:eJ l H H')(t:eJ l H' fY):eJ l H fY:=(λb o n e=>t b o n<|s b o n e)
def eJ.wr{l:Addr}{o:HO}:eJ l H (upd H l o):=(λb u n e=>by rw[cF n];exact e)
def eJ.bK{K:Frag}{l:Addr}{xs:1 V}(s:eJ l H H')(g:H l=13 ys)(h:bu K H a xs):bu K H' a xs:=by
 let ne:∀{u:HO},H a=0 u->(∀zs,u≠.lst zs)->a≠l:=λe hu z=>by
  rw[z,g]at e;exact hu ys (dJ e).symm
 rcases h with(h|⟨o',h⟩)|h
 .exact .inl<|.inl<|s _ _ (ne h λ_ z=>nomatch z) h
 .exact .inl<|.inr #[o',s _ _ (ne h λ_ z=>nomatch z) h]
 .exact .inr h
def eJ.same{l:Addr}(s0:bc H0 H)(h:H0 l=8)(s:eJ l H H'):bc H0 H':=(λb o e=>s b o (λz=>by rw[z,h]at e;cases e)<|s0 b o e)
def R9{K:Frag}{j:Nat}{v:Addr}{x y:V}{R:St->6 Hp}(h:bu K H v [x,y])(q:R ((σ.set i<|0 x).set j<|0 y) H):x4 K 2 (iF (cg i)<|iF (cg j) rG) (3 v) σ H R:=(#[v,_,9,h,9,_,_,9,_,_,9,9,q])
noncomputable def K6:7 Expr->7 Str
 |some (.Constant (.str x) _ _)=>0 x
 |_=>none
noncomputable def K7:Expr->7 4
 | .Tuple es _ _=>yD es
 |_=>none
noncomputable def ET:1 (7 Expr)->1 Expr->7 (5 Str 4)
 | [],[]=>0 []
 |k::ks,v::vs=>match K6 k,K7 v,ET ks vs with
  |some x,some r,some ps=>0 ((x,r)::ps)
  |_,_,_=>none
 |_,_=>none
noncomputable def Sa:Expr->7 (5 Str 4)
 | .Dict ks vs _=>ET ks vs
 |_=>none
def K8(ns:4):TE:=jz λ_ H Q=>Q (ns.map V.int) H
noncomputable def ui:5 Str 4->5 TE TE
 | []=>[]
 |p::ps=>(tC (.str p.1),K8 p.2)::ui ps
def ac8{k:7 Expr}(h:K6 k=0 x):∃e,k=0 e/\PE X e (tC<|.str x):=by
 unfold K6 at h;split at h
 case h_2=>exact nomatch h
 case h_1 y i pos=>cases h;exact#[_,9,c7]
def ac9{v:Expr}{r:4}(h:K7 v=0 r):PE X v (K8 r):=by
 unfold K7 at h;split at h
 case h_2=>exact nomatch h
 case h_1 es i pos=>exact eF<|Ju es r h
theorem Sb{X:Cx}{pos:Pos}:∀(ks:1 (7 Expr))(vs:1 Expr)(L:5 Str 4),ET ks vs=0 L->
  Be X pos ks vs (ui L)/\ks.all (·.isSome)=6/\ks.length=L.length/\vs.length=L.length
 | [],[],L,h=>by cases h;exact#[abd,9,9,9]
 | [],_::_,_,h=>nomatch h
 |_::_,[],_,h=>nomatch h
 |k::ks,v::vs,L,h=>by
  unfold ET at h;split at h
  case h_2=>exact nomatch h
  case h_1 x r ps h1 h2 h3=>
   cases h;let[e,rfl,he]:=ac8 (X:=X) h1;let[g1,g2,g3,g4]:=Sb (X:=X) (pos:=pos) ks vs ps h3;exact#[abe he (ac9 h2) g1,by rw[List.all_cons,g2];rfl,aj (· + 1) g3,aj (· + 1) g4]
def ada{e:Expr}{L:5 Str 4}(h:Sa e=0 L)(h0:L≠[])(JN:L.length<=15):PE X e (DT<|ui L):=by
 unfold Sa at h;split at h
 case h_2=>exact nomatch h
 case h_1 ks vs pos=>
  let[g1,g2,g3,g4]:=Sb (X:=X) (pos:=pos) ks vs L h;exact abf g1 g2 (g3.trans g4.symm) (λz=>by rw[z]at g3;exact h0<|List.eq_nil_of_length_eq_zero g3.symm) (by rw[g3];exact JN)
inductive pX(K:Frag)(H:Hp):5 Str 4->6 (5 Key V) where
 |nil:pX K H [] []
 |cons {x:Str} {r:4} {v:Addr} {L:5 Str 4} {ba:5 Key V} (h:bu K H v (r.map V.int)) (t:pX K H L ba):pX K H ((x,r)::L) ((.inr x,3 v)::ba)
section
variable{K:Frag}{H H':Hp}{L:5 Str 4}{ba:5 Key V}
def pX.tup(h:pX K H L ba)(s:eI H H'):pX K H' L ba:=by
 induction h with
 |nil=>exact .nil
 |cons h t ih=>exact .cons (s.bK h) ih
def pX.keys(h:pX K H L ba):ba.map (·.1)=L.map λp=>(Sum.inr p.1:Key):=by
 induction h with
 |nil=>rfl
 |cons h t ih=>rw[ib,ib,ih]
def pX.get(h:pX K H L ba)(x:Str):(∃r v,L.lookup x=0 r/\dX (κ:=Key) ba (.inr x)=8 v/\bu K H v (r.map V.int))\/(L.lookup x=8/\dX (κ:=Key) ba (.inr x)=8):=by
 induction h with
 |nil=>exact .inr #[9,9]
 | @cons y r v L ba h t ih=>
  by_cases e:y=x
  .subst e;exact .inl #[r,v,17,pI 9,h]
  .let n:(x==y)=false:=beq_eq_false_iff_ne.mpr λz=>e z.symm;rw[qe,n,pJ (p:=(Sum.inr y,V.ref v)) (λz=>e<|Sum.inr.inj z)];exact ih
end
theorem Sd:∀(iB ba:5 Key V),((ba++iB).map (·.1)).Nodup->uX ba iB=ba++iB
 | [],ba,_=>by rw[iV];rfl
 |p::iB,ba,h=>by
  let hv:dX ba p.1=8:=by
   unfold dX;rw[Option.map_eq_none_iff,List.find?_eq_none];intro q hq z;rw[aK]at z;rw[eC,ib,vU]at h;exact h.2.2 q.1 (CN hq) p.1 du z
  show uX (gM ba p.1 p.2) iB=_;rw[JH _ hv,Sd iB (ba++[(p.1,p.2)]) (by rw[gR];exact h),gR];rfl
theorem Se{K:Frag}{σ:St}:∀(L:5 Str 4){H:Hp}{Q:5 V V->6 Hp},(∀p∈L,p.2.length<=1000)->(∀ba H',bc H H'->pX K H' L ba->Q (ba.map λkv=>(kV kv.1,kv.2)) H')->wL (ui L) σ H Q
 | [],H,Q,_,q=>by
  unfold ui wL;exact q [] H (.refl _) .nil
 |p::L,H,Q,hl,q=>by
  let h0:=hl p du;let h:K8 p.2 σ H (λy H2=>wL (ui L) σ H2 λps H3=>Q ((.str p.1,y)::ps) H3):=by
   refine#[by rw[bH];exact eh h0 16,λt ht=>?_];exact Se (K:=K) L (λx hx=>hl x<|gq _ hx) λba H' s h=>q ((.inr p.1,3 t)::ba) H' ((bc.upd ht).trans s)<|.cons (s.bK<|.of bq) h
  unfold ui wL;exact h
def adb{K:Frag}{L:5 Str 4}{Q:VK}(nd:(L.map (·.1)).Nodup)(hL:L.length<=15)(hl:∀p∈L,p.2.length<=1000)(q:∀p ba H',H p=8->bc H H'->H' p=0 (.dK ba)->pX K H' L ba->Q (3 p) H'):DT (ui L) σ H Q:=by
 intro p hp;let hs:bc H (upd H p<|.dK []):=.upd hp;let Sf:(upd H p<|.dK []) p=0 (.dK []):=bq;generalize upd H p (.dK [])=H0 at hs Sf;refine Se (K:=K) L hl λba H1 s1 r=>?_;let Sh:=s1 _ _ Sf;let ek:=r.keys;refine#[Sh,ba,9,?_,?_]
 .let:=aj List.length ek
  rw[bH,bH]at this;lia
 .rw[Sd ba [] (by
   rw[Af,ek];rw[show(L.map λp=>(Sum.inr p.1:Key))=(L.map (·.1)).map Sum.inr by rw[List.map_map];rfl];exact List.Pairwise.map _ (λa b (h:a≠b) (z:Sum.inr a=Sum.inr b)=>h (Sum.inr.inj z)) nd),Af]
  exact q p ba _ hp (bc.put (hs.trans s1) hp) bq<|r.tup<|eI.Bi Sh
noncomputable abbrev EU:5 Str 4:=[("id",[1,1]),("swap",[2,2]),("copy",[1,2]),("end",[1,0]),("add",[2,1])]
def rY(K:Frag)(H:Hp)(ed:Addr)(f:Str->7 4)(N:Nat):Prop:=∃ba,H ed=0 (.dK ba)/\ba.length<=N/\∀x:Str,(∃r v,f x=0 r/\dX (κ:=Key) ba (.inr x)=8 v/\bu K H v (r.map V.int))\/(f x=8/\dX (κ:=Key) ba (.inr x)=8)
def rY.up{K:Frag}(h:rY K H ed f N)(s:eJ hl H H')(g:H hl=13 ys):rY K H' ed f N:=by
 let[ba,e,hn,hx]:=h;refine#[ba,s _ _ (λz=>by rw[z,g]at e;cases e) e,hn,λx=>?_];rcases hx x with⟨r,v,h1,h2,h3⟩|h
 .exact .inl #[r,v,h1,h2,s.bK g h3]
 .exact .inr h
def rY.mono{K:Frag}(h:rY K H ed f N)(s:bc H H'):rY K H' ed f N:=by
 let[ba,e,hn,hx]:=h;refine#[ba,s _ _ e,hn,λx=>?_];rcases hx x with⟨r,v,h1,h2,h3⟩|h
 .exact .inl #[r,v,h1,h2,s.bK h3]
 .exact .inr h
def Si{K:Frag}{y:Str}{a b:Int}(h2:σ[2]?=0 (8 ed))(hE:rY K H ed f N)(hN:N<=1000)(s:bc H0 H)(EV:H0 ed=8)
  (k:∀H',bc H0 H'->rY K H' ed (λx=>if x=y then 0 [a,b]else f x) (N+1)->D.nx σ H'):Qs (bt 2) (tC<|.str y) (jz<|bw (tC<|2 a)<|bw (tC<|2 b) cB) D σ H:=by
 let nY:(1000:Nat)<sizeLine:=by decide
 let[ba,e,hn,hx]:=hE;refine#[by show 11 2;decide,λt ht=>#[_,h2,ed,_,9,uW.k (k:=.inr y) (bc.upd ht _ _ e) (by lia),?_]];let st:=bc.upd ht (o:=.tup [2 a,2 b]);let e':=st _ _ e;let gt:bu K (upd H t<|.tup [2 a,2 b]) t ([a,b].map V.int):=.of bq;generalize upd H t (.tup [2 a,2 b])=H1 at st e' gt |-;let tp:eI H1 (upd H1 ed<|.dK<|gM ba (.inr y)<|3 t):=eI.Bi e';refine k _ ((s.trans st).write EV) #[_,bq,?_,λx=>?_]
 .let:=JM [(.inr y,V.ref t)] ba
  let e0:uX ba [(.inr y,V.ref t)]=gM ba (.inr y) (3 t):=9;rw[e0]at this;exact eh this (by simp;lia)
 .dsimp only;rw[JF];by_cases c:x=y
  .subst c;rw[af 9,af 9];exact .inl #[[a,b],t,9,9,tp.bK gt]
  .rw[ag c,ag λz=>c (Sum.inr.inj z)];rcases hx x with⟨r,v,h1,h2,h3⟩|h
   .exact .inl #[r,v,h1,h2,tp.bK<|st.bK h3]
   .exact .inr h
inductive ky(K:Frag)(H:Hp):1 D1.Dr->6 (1 V) where
 |nil:ky K H [] []
 |cons {a:Addr} {d:D1.Dr} {ds:1 D1.Dr} {HS:1 V} (h:bu K H a [2 (d.l:Int),2 (d.r:Int)]) (r:ky K H ds HS):ky K H (d::ds) (HS++[3 a])
section
variable{K:Frag}{H H':Hp}{ds:1 D1.Dr}{HS:1 V}
def ky.up(h:ky K H ds HS)(s:eJ hl H H')(g:H hl=13 ys):ky K H' ds HS:=by
 induction h with
 |nil=>exact .nil
 |cons h _ ih=>exact .cons (s.bK g h) ih
def ky.len(h:ky K H ds HS):HS.length=ds.length:=by
 induction h with
 |nil=>rfl
 |cons _ _ ih=>rw[cb,ih];rfl
def ky.pop(h:ky K H (d::ds) HS):∃a dj,HS=dj++[3 a]/\bu K H a [2 (d.l:Int),2 (d.r:Int)]/\ky K H ds dj:=by
 cases h with
 |cons h r=>exact#[_,_,9,h,r]
end
def ade{te:TE}(h:te σ H λx H1=>u D (σ.set i<|0 x) H1):cR (dI te<|cg i) u D σ H:=(h)
def Sj(h:t { D with nx:=u D } σ H):cR t u D σ H:=(h)
noncomputable def K9:7 Int->V
 |some m=>2 m
 |none=>.cI
end S21
namespace L2
open PySem PySem.Spec PyProof.Rows
section
variable{P:Program}{w:World}{K:Frag}{mg:Str->7 5}{base:Heap}
def adf{x qual:Str}{st:Stmt}{f:Addr}{fd:FuncData}{N ps:1 Str}{sp:Sp}(F:cL K x qual st f fd)(S:dz N ps (cj st))(len:∀vs H Q E,sp vs H Q E->vs.length=ps.length)
  (qq:∀(cq:Value)(A:Around)(outer:1 Env)(s:Shared)(H:Hp)(vs:1 V)(Q:VK)(E:XK),sp vs H Q E->
   ∃t,kX (oD bX P w K mg base N qual (cj st) f cq A outer s H E).nI (nQ st) t/\t { nx:=λ_ H'=>Q .cI H',rt:=Q } (start N vs) H):bQ P w K mg base bX 0 f fd ps sp:=by
 let[oc,od,kV,doc,pm,an,cq,ct,pC,rfl,lk,jk]:=F.ex;refine#[len,λA outer s H args us vs Q E hr e0 hb r lj=>?_];let hl:=len _ _ _ _ lj;let KX:K.In s.heap:=e0.mod.vV.keeps λb o e=>(e0.bs b o e).1;let wj:s.heap.NoLimit:=e0.mod.nolimit.keeps λb o e=>(e0.bs b o e).1;let Ay:∀y∈ps.zip us,(cj st).names.lookup y.1=0 .local\/((cj st).names.lookup y.1=0 .cell/\((cellsFrom (22+1) (cj st).names []).lookup y.1).isSome=6):=λ⟨n,v⟩ hy=>by
  rcases S.par n (Ac hy).1 with q|q
  .exact .inl q
  .exact .inr #[q,Ht _ _ _<|.inl q]
 refine codeAny_call_function hr.depth (KX _ _ lk) 9 S.co S.gen 9 (PySem.W.codeRec_of KX jk)<|hb _ _ _ _ ?_;refine av S.kind Ay λenv he s1 x=>?_;subst he;refine#[wj.keeps x.toInCall.keep,codeAny_func ?_];let[t,ht,hq]:=qq cq A outer s H vs Q E lj;let I:Inv (oD bX P w K mg base N qual (cj st) f cq A outer s H E) [] (start N vs) H s1:=Ir S hr.hd e0 hl r x;refine ah (ht.nI [] s1 (start N vs) H _ I hq) (λfl s' hs=>?_) λe s' hs=>hs;let fin:∀{σ':St}{H':Hp}{v:V}{u:Value},Inv (oD bX P w K mg base N qual (cj st) f cq A outer s H E) [] σ' H' s'->RelV v u->Q v H'->CE outer P w H s Q u s':=
  λ{σ' H' v u} J rv q=>#[v,H',J.os,J.bare,J.base,J.cf,rv,q]
 cases fl with
 |ret u=>
  let[v,σ',H',J,rv,q]:=hs;exact fin J rv q
 |next=>
  let[σ',H',J,q]:=hs;exact fin (v:=V.cI) (u:=Value.none) J 9 q
 |brk=>
  let[_,_,_,q]:=hs;exact False.elim q
 |cont=>
  let[_,_,_,q]:=hs;exact False.elim q
end
end L2
namespace S21
open PySem L2 Bw
variable{f fA:Addr}{fd je:FuncData}
def Sk:(["number","more","factor","p"]:1 Str).Nodup:=by decide +kernel
def La:Sp:=λvs H Q _=>∃p n:Int,vs=[2 p,2 n]/\2<=p/\p<=97/\Q (2<|dN p n) H
def EW(K:Frag):Sp:=λvs H Q _=>∃(p f:Int)(a b:Addr)(r o:4),vs=[2 p,3 a,2 f,3 b]/\2<=p/\p<=97/\-1000<=f/\f<=1000/\bu K H a (r.map V.int)/\bu K H b (o.map V.int)/\r.length=o.length/\r.length<=1000/\
 iX K H ((iC p r f o).map V.int) Q
def Sl(K:Frag):Sp:=λvs H Q _=>∃(p n:Int)(a b:Addr)(b1 b2:Bool)(RS:1 V)(rs:LL)(fs:4),vs=[2 p,3 a,3 b,2 n]/\2<=p/\p<=97/\0<=n/\n<=1000/\
 Sq b1 K H a RS/\cy K H RS (rs.map dB)/\Sq b2 K H b (fs.map V.int)/\rs.length=fs.length/\rs.length<=1000/\(∀r∈rs,r.length=n.toNat)/\(∀f∈fs,0<=f/\f<p)/\
 iX K H ((l6 p (rs.zip fs)<|16 n.toNat 0).map V.int) Q
def EX:dz ["p","number","power","step"] ["p","number"] (cj Bk):=(dW 9 9 9 19 9)
def Sn(F:cL K "turned" "turned" Bk f fd)(T:Txt mg):bQ P w K mg base bX 1 f fd ["p","number"] La:=by
 refine 17 EX 24 ?_
 .let[p,n,rfl,_]:=h;rfl
 .let[p,n,rfl,p2,cA,k]:=h;refine#[_,bz (cx (i:=2) EX.nd rfl (18) br)<|bz (kY lS 9 (x5 9 T.range<|bf (bI nN (pv 0) br) bj) (cH (i:=3) EX.nd rfl (18))<|bN<|cx (i:=2) EX.nd rfl (18) (bI jb (bI x6 (pv 2)<|pv 1)<|pv 0))<|bN<|cJ<|pv 2,?_];refine#[_,9,_,_,9,9,p-2,9,7,7,Aw (n:=(p-2).toNat) (λi σ H'=>H'=H/\∃st,σ=[0<|2 p,0<|2 n,0<|2<|wH p n i,st]) #[9,8,9] ?_ ?_]
  .rintro i σ H' hi ⟨rfl,st,rfl⟩;let hb:=aaR (n:=n) p2 i;exact#[_,9,_,9,_,_,9,9,.inl #[7,7],_,9,_,_,9,9,7,9,_,9]
  .rintro σ H' ⟨rfl,st,rfl⟩;exact#[_,9,k]
def scA:dz ["p","row","factor","other"] ["p","row","factor","other"] (cj tT):=(dW 9 9 9 19 9)
def So(F:cL K "added" "added" tT f fd)(T:Txt mg):bQ P w K mg base bX 0 f fd ["p","row","factor","other"] (EW K):=by
 refine adf F scA 24 λcq A outer s H vs Q E h=>?_
 .let[p,f,a,b,r,o,rfl,_]:=h;rfl
 .let[p,fc,a,b,r,o,rfl,p2,cA,f0,f1,ha,hb,hl,hz,k]:=h;refine#[_,bN<|cJ<|jl (wD K 9) 9 T.tuple uT<|bf (qw (N:=["number","more","factor","p"]) (own:=2) (caps:=[2,0]) rfl (PL K 9 false false 9 T.zip<|10 1<|10 3 bj) (show fH ["p","row","factor","other"] (cj tT) ["number","more","factor","p"] 2 [2,0] _ from .mk' 19) (λ_ _ _ _ _=>AU (n:=2) K rfl rfl (eR (cH (i:=0) Sk rfl (18))<|eR (cH (i:=1) Sk rfl (18)) nJ)) (λ_ _ _ _ _=>jn) (λ_ _ _ _ _=>bI jb (bI ij (pv 0)<|bI x6 (pv 2)<|pv 1)<|pv 3)) bj,?_]
  let ext:(iC p r fc o).length=r.length:=by simp[iC,hl]
  refine#[_,9,_,9,a,b,9,#[_,ha],#[_,hb],aay (b1:=false) (b2:=false) (cp:=[0<|2 fc,0<|2 p]) (λi H' zs=>zs=((iC p r fc o).take i).map V.int) ha hb (by simp[hl]) (by rw[bH];exact vP<|IT hz) rfl (λi H' zs e=>by subst e;rw[bH,cV];lia) (λi H1 H2 zs _ e=>e) ?_ ?_]
  .rintro i x y H' zs hx hy sm rfl;rw[dR]at hx hy;cases e1:r[i]? with
   |none=>rw[e1]at hx;cases hx
   |some u=>
    cases e2:o[i]? with
    |none=>rw[e2]at hy;cases hy
    |some v=>
     rw[e1]at hx;rw[e2]at hy;cases hx;cases hy;refine oH ?_;refine#[_,9,_,9,_,9,_,_,9,9,.inl #[7,7],_,_,9,9,_,9,_,_,9,9,7,#[[_,_],9,9],sm,?_];let e3:(iC p r fc o)[i]?=0 ((u+fc*v)%p):=by
      unfold iC;rw[List.getElem?_zipWith,e1,e2]
     rw[iM,e3];simp
  .rintro H' zs sm rfl q hq;rw[bH,lO 7];refine#[q,_,9,.inl #[.of bq,λl hl=>?_]];exact k _ _ ((sm.trans<|.upd hq).trans<|.upd hl)<|.of bq
def adg(F:cL K "added" "added" tT f fd)(T:Txt mg):bQ P w K mg base bX 1 f fd ["p","row","factor","other"] (EW K):=((So F T).mono 16)
theorem Sr(p:Int)(r:4)(f:Int):∀(L:5 4 Int)(t:4),l6 p (L++[(r,f)]) t=iC p (l6 p L t) f r
 | [],t=>rfl
 |(r',f')::L,t=>by
  rw[xJ,l6,l6];exact Sr p r f L _
theorem Ss{p:Int}{n:Nat}:∀(L:5 4 Int)(t:4),(∀q∈L,q.1.length=n)->t.length=n->(l6 p L t).length=n
 | [],t,_,h=>h
 |(r,f)::L,t,h,ht=>by
  rw[l6];refine Ss L _ (λq hq=>h q<|gq _ hq) ?_
  let:=h (r,f) du
  simp only at this;simp[iC,ht,this]
def BQ:dz ["p","rows","factors","length","total","row","factor"] ["p","rows","factors","length"] (cj Bl):=(dW 9 9 9 19 9)
def adh(F:cL K "summed" "summed" Bl f fd)(T:Txt mg)(FA:cL K "added" "added" tT fA je)(bA:Binds K je ["p","row","factor","other"] [])(mA:Mg mg "added" fA) :
  bQ P w K mg base bX 1 f fd ["p","rows","factors","length"] (Sl K):=by
 let GA:bQ P w K mg base bX 0 fA je ["p","row","factor","other"] (EW K):=So FA T;refine 17 BQ 24 ?_
 .let[p,n,a,b,b1,b2,RS,rs,fs,rfl,_]:=h;rfl
 .let[p,n,a,b,b1,b2,RS,rs,fs,rfl,p2,cA,n0,n1,lC,hA,jc,hl,hz,Lb,Kl,k]:=h;refine#[_,bz (cx (i:=04) BQ.nd rfl (18) (bI (wF K 9) (eF<|bf br bj)<|pv 3))<|bz (kY lS 9 (PL K 9 b1 b2 9 T.zip<|10 1<|10 2 bj) (AU (n:=2) K rfl rfl (eR (cH (i:=05) BQ.nd rfl (18))<|eR (cH (i:=06) BQ.nd rfl (18)) nJ))<|bN<|cx (i:=04) BQ.nd rfl (18) (cY GA hr 9 mA FA.kp bA .nil cZ<|10 0<|10 04<|10 06<|10 05 bj))<|bN<|cJ<|pv 04,?_];refine#[16,λq hq=>#[_,9,q,n,_,9,9,.of bq,17,7,7,?_,λt H1 pO ht=>?_]]
  .let:11 (1000:Nat):=by decide
   show 11 (1*n.toNat);lia
  let Lc:bc H H1:=(bc.upd hq).trans pO;let EY:RS.length=(fs.map V.int).length:=by rw[hA.length,bH,bH];exact hl
  let e0:(16 n.toNat [V.int 0]).flatten=(16 n.toNat (0:Int)).map V.int:=by
   rw[List.map_replicate];induction n.toNat with
   |zero=>rfl
   |succ m ih=>rw[uA,Ad,ih,uA];rfl
  refine#[_,9,_,9,a,b,9,#[_,Lc.sq lC],#[_,Lc.sq jc],aaz (b1:=b1) (b2:=b2) (λi σ H'=>bc H H'/\∃t BR nM,σ=[0<|2 p,8 a,8 b,0<|2 n,8 t,BR,nM]/\bu K H' t ((l6 p ((rs.zip fs).take i)<|16 n.toNat 0).map V.int)) EY #[Lc,t,8,8,9,by rw[e0]at ht;exact ht] (λi σ H' ⟨sm,_⟩=>#[sm.sq lC,sm.sq jc]) (λi σ H1 H2 s12 ⟨sm,t,BR,nM,e,ht⟩=>#[sm.trans s12,t,BR,nM,e,s12.bK ht]) ?_ ?_]
  .rintro i x y σ H' hx hy ⟨sm,t,BR,nM,rfl,ht⟩;let[d,hd,e9]:=hA.get hx;rw[dR]at hd hy;cases e1:rs[i]? with
   |none=>rw[e1]at hd;cases hd
   |some r=>
    cases e2:fs[i]? with
    |none=>rw[e2]at hy;cases hy
    |some fc=>
     rw[e1]at hd;rw[e2]at hy;cases hd;cases hy;let[ra,rfl,iP]:=PJ e9;let i6:=Lb r<|dS e1;let BU:=Kl fc<|dS e2;let EA:(l6 p ((rs.zip fs).take i)<|16 n.toNat 0).length=n.toNat:=Ss _ _ (λq hq=>Lb q.1 (Ac<|qg hq).1) 17;refine#[_,9,_,9,_,9,_,9,p,fc,t,ra,_,r,9,p2,cA,7,7,ht,sm.bK iP,by rw[EA,i6],by rw[EA];lia,λt' H2 oK BV=>?_];refine#[sm.trans oK,t',_,_,9,?_];let e3:(rs.zip fs)[i]?=0 (r,fc):=by rw[List.getElem?_zip_eq_some];exact#[e1,e2]
     rw[iM,e3];show bu K H2 t' ((l6 p ((rs.zip fs).take i++[(r,fc)]) _).map V.int);rw[Sr];exact BV
  .rintro σ H' ⟨sm,t,BR,nM,rfl,ht⟩;let e4:(rs.zip fs).length<=RS.length:=by rw[List.length_zip,hA.length,bH];lia
   rw[lO e4]at ht;exact#[_,9,k _ _ sm ht]
def nd1:(["row","place"]:1 Str).Nodup:=by decide +kernel
def Su:(["row","lead","p","place"]:1 Str).Nodup:=by decide +kernel
def Ld(K:Frag):Sp:=λvs H Q _=>∃(p:Int)(a b:Addr)(r o:4)(i:Int)(j:Nat),vs=[2 p,3 a,3 b,2 i]/\i=j/\2<=p/\p<=97/\bu K H a (r.map V.int)/\bu K H b (o.map V.int)/\r.length=o.length/\j<r.length/\r.length<=1000/\
 (∀x∈r,0<=x/\x<p)/\iX K H ((fb p o j r).map V.int) Q
def wY(K:Frag):Sp:=λvs H Q _=>∃(p:Int)(a:Addr)(b:Bool)(RS:1 V)(rs:LL)(n:Nat),vs=[2 p,3 a]/\p∈cM/\Sq b K H a RS/\cy K H RS (rs.map dB)/\rs.length<=1000/\n<=1000/\cC p n rs/\
 ∀t H' DS,bc H H'->bu K H' t DS->cy K H' DS ((eQ p rs).map dB)->Q (3 t) H'
def scC:dz ["p","row","lead","place"] ["p","row","lead","place"] (cj D5):=(dW 9 9 9 19 9)
def adi(F:cL K "cleared" "cleared" D5 f fd)(T:Txt mg)(FA:cL K "added" "added" tT fA je)(bA:Binds K je ["p","row","factor","other"] [])(mA:Mg mg "added" fA) :
  bQ P w K mg base bX 2 f fd ["p","row","lead","place"] (Ld K):=by
 let GA:bQ P w K mg base bX 1 fA je ["p","row","factor","other"] (EW K):=adg FA T;refine 17 scC 24 ?_
 .let[p,a,b,r,o,i,j,rfl,_]:=h;rfl
 .let[p,a,b,r,o,i,j,rfl,rfl,p2,cA,ha,hb,hl,hj,hz,Le,k]:=h;refine#[_,bN<|cJ<|C3 (cQ uJ (bZ (cU K 9) (pv 1)<|pv 3) br<|cO _) (cY GA hr 9 mA FA.kp bA .nil cZ<|10 0<|10 1<|bf (v3 v7<|bZ (cU K 9) (pv 1)<|pv 3)<|10 2 bj)<|pv 1,?_];let hx:=Le _<|dS<|Bo hj;refine#[_,9,_,9,a,_,(j:Int),_,9,9,ha,cm<|tW hj,9,_,9,tX (λc8=>?_) λheq=>?_]
  .let Lf:14 j≠0:=λz=>c8<|aj V.int z;refine#[_,9,_,9,_,9,_,9,a,_,(j:Int),_,9,9,ha,cm<|tW hj,_,9,_,9,p,-(14 j),a,b,r,o,9,p2,cA,7,7,ha,hb,hl,hz,?_];unfold fb at k;rw[af Lf]at k;exact k
  .let adj:14 j=0:=V.int.inj heq;unfold fb at k;rw[ag (λz=>z adj)]at k;exact#[_,9,k.old ha]
noncomputable abbrev nD:1 Str:=["p","rows","done","rest","length","place","heads","lead"]
def uj:dz ["p","rows","done","rest","length","place","heads","lead"] ["p","rows"] (cj yU):=(dW 9 9 9 19 9)
def Sv{H:Hp}{l la:Addr}{XS:1 V}{xs:LL}{p:Int}{n place:Nat}{lead:4}{Q:VK}{te:TE}(p2:2<=p)(cA:p<=97)(hl:dv K H l XS)(hA:cy K H XS (xs.map dB))(hx:cC p n xs)(hz:21<=1000)(hn:n<=1000)(hp:place<n)(vc:lead.length=n)(qH:bu K H la (lead.map V.int))
  (Br:∀(x:Addr)(H1:Hp)(R:VK),Ld K [2 p,3 x,3 la,2<|0+(place:Int)] H1 R (λ_ _ _=>False)->te [8 x,8 la,0<|2 p,0<|2<|0+(place:Int)] H1 R)
  (done:∀H' zs,bc H H'->cy K H' zs ((xs.map<|fb p lead place).map dB)->∀q,H' q=8->Q (3 q) (9 H' q zs)) :
  ∃W:Nat->Nat->St->Hp->6 (1 V),(∃m,W 0 m (16 1 8++[8 la,0<|2 p,0<|2<|0+(place:Int)]) H [])/\mz (sZ K l) (cg 0) lV te Q W:=by
 refine qx (cp:=[8 la,0<|2 p,0<|2<|0+(place:Int)]) (λi H' zs=>cy K H' zs<|((xs.take i).map<|fb p lead place).map dB) hl (by rw[jr hA];exact vP<|IT hz) .nil
  (λi H' zs h=>by rw[jr h,bH,cV];lia) ?_ ?_
 .rintro i x H' zs e9 sm h;let[r,a,hr,rfl,ha]:=wN hA e9;let hR:=hx r<|dS hr;refine oH<|Br a H' _ #[p,a,la,r,lead,0+(place:Int),place,9,7,p2,cA,sm.bK ha,sm.bK qH,by rw[hR.1,vc],by rw[hR.1];exact hp,by rw[hR.1];exact hn,hR.2,λt H2 s2 ht=>?_];refine#[#[[_],9,9],sm.trans s2,?_];rw[iM,hr];show cy K H2 _ (((xs.take i++[r]).map<|fb p lead place).map dB);rw[eC,eC];exact(h.mono s2).append<|.cons (oG ht) .nil
 .rintro H' zs sm h q hq;rw[jr hA,nF]at h;exact done H' zs sm h q hq
def Sw(K:Frag):Sp:=λvs H Q _=>∃(p:Int)(a:Addr)(r:4)(i:Int)(j:Nat),vs=[2 p,3 a,2 i]/\i=j/\p∈cM/\bu K H a (r.map V.int)/\j<r.length/\r.length<=1000/\(∀x∈r,0<=x/\x<p)/\14 j≠0/\
 iX K H ((eW p r.length r j).map V.int) Q
def adk:dz ["p","row","place"] ["p","row","place"] (cj D4):=(dW 9 9 9 19 9)
def adl{fT fS:Addr}{ku jt:FuncData}(F:cL K "led" "led" D4 f fd)(T:Txt mg)(FA:cL K "added" "added" tT fA je)(bA:Binds K je ["p","row","factor","other"] [])(mA:Mg mg "added" fA)
  (FT:cL K "turned" "turned" Bk fT ku) (bT:Binds K ku ["p","number"] []) (mT:Mg mg "turned" fT) (FS:cL K "summed" "summed" Bl fS jt) (bS:Binds K jt ["p","rows","factors","length"] []) (mS:Mg mg "summed" fS) :
  bQ P w K mg base bX 2 f fd ["p","row","place"] (Sw K):=by
 let GT:bQ P w K mg base bX 1 fT ku ["p","number"] La:=Sn FT T;let GS:bQ P w K mg base bX 1 fS jt ["p","rows","factors","length"] (Sl K):=adh FS T FA bA mA;refine 17 adk 24 ?_
 .let[p,a,r,i,j,rfl,_]:=h;rfl
 .let[p,a,r,i,j,rfl,rfl,pp,ha,hj,hz,Le,c8,k]:=h;let[p2,cA]:=gK p pp;refine#[_,bN<|cJ<|cY GS hr 9 mS FS.kp bS .nil cZ<|10 0<|bf (cK<|10 1 bj)<|bf (cK<|bf (cY GT hr 9 mT FT.kp bT .nil cZ<|10 0<|bf (bZ (cU K 9) (pv 1)<|pv 2) bj) bj)<|bf (iW (nV K 9) 9 T.len nW<|10 1 bj) bj,?_];let hx:=Le _<|dS<|Bo hj;let uK:=yH (n:=14 j) pp (by lia) hx.2;refine#[_,9,_,9,(by show 11 1;decide),λl1 h1=>?_];refine#[_,9,_,9,_,9,a,_,(j:Int),_,9,9,(bc.upd h1).bK ha,cm<|tW hj,p,14 j,9,p2,cA,(by show 11 1;decide),λl2 h2=>?_];let jG:bc H (9 (9 H l1 [3 a]) l2 [2<|dN p<|14 j]):=(bc.upd h1).trans<|.upd h2;refine#[_,9,a,_,9,.inr<|jG.bK ha,?_];rw[bH];refine#[p,(r.length:Int),l1,l2,6,6,[3 a],[r],[dN p<|14 j],9,p2,cA,7,7,.of (by rw[cF (ig bq h2)];exact bq),.cons (oG<|jG.bK ha) .nil,.of bq,9,(by show 1<=1000;decide),λq hq=>by rw[cT.mp hq];rfl,λf hf=>by rw[cT.mp hf];lia,λt H6 Lg ht=>?_];exact k t H6 (jG.trans Lg) ht
def Lh{fT fS fC fL:Addr}{ku jt nh mY:FuncData}(F:cL K "reduced" "reduced" yU f fd)(T:Txt mg)(FA:cL K "added" "added" tT fA je)(bA:Binds K je ["p","row","factor","other"] [])(mA:Mg mg "added" fA)
  (FT:cL K "turned" "turned" Bk fT ku) (bT:Binds K ku ["p","number"] []) (mT:Mg mg "turned" fT) (FS:cL K "summed" "summed" Bl fS jt) (bS:Binds K jt ["p","rows","factors","length"] []) (mS:Mg mg "summed" fS)
  (FC:cL K "cleared" "cleared" D5 fC nh) (bC:Binds K nh ["p","row","lead","place"] []) (mC:Mg mg "cleared" fC)
  (FL:cL K "led" "led" D4 fL mY) (bL:Binds K mY ["p","row","place"] []) (mL:Mg mg "led" fL) :
  bQ P w K mg base bX 3 f fd ["p","rows"] (wY K):=by
 let GL:bQ P w K mg base bX 2 fL mY ["p","row","place"] (Sw K):=adl FL T FA bA mA FT bT mT FS bS mS;let GC:bQ P w K mg base bX 2 fC nh ["p","row","lead","place"] (Ld K):=adi FC T FA bA mA;refine 17 uj 24 ?_
 .let[p,a,b,RS,rs,n,rfl,_]:=h;rfl
 .let[p,a,b,RS,rs,n,rfl,pp,hq,hA,hz,hn,hR,k]:=h;let[p2,cA]:=gK p pp;refine#[_,bz (cx (i:=2) uj.nd rfl (18) (cK bj))<|bz (cx (i:=3) uj.nd rfl (18) (jl (DH K 9) 9 T.list uU<|10 1 bj))<|bz (cx (i:=04) uj.nd rfl (18) (C3 (Dc (pv 3) λ_=>9) (iW (nV K 9) 9 T.len nW<|bf (bZ (dC K 9) (pv 3) br) bj) br))<|bz (kY lS 9 (x5 9 T.range<|10 04 bj) (cH (i:=05) uj.nd rfl (Or.inr 9))<|bz (mH (i:=06) (N:=["row","place"]) (own:=1) (caps:=[05]) rfl uj.nd rfl rfl (iY K 9<|pv 3) (show fH nD (cj yU) ["row","place"] 1 [05] _ from .mk' 19) (λ_ _ _ _ _=>cH (i:=0) nd1 rfl (18)) (λ_ _ _ _ _=>AM<|cQ uJ (bZ (cU K 9) (pv 0)<|pv 1) br<|cO _) (λ_ _ _ _ _=>pv 0))<|bN<|dq (Dc (pv 06) λ_=>9) (bz (cx (i:=07) uj.nd rfl (Or.inr 9) (cY GL hr 9 mL FL.kp bL .nil cZ<|10 0<|bf (bZ (dC K 9) (pv 06) br)<|10 05 bj))<|bz (cx (i:=2) uj.nd rfl (18) (bI eV (qw (N:=["row","lead","p","place"]) (own:=1) (caps:=[07,0,05]) rfl (iY K 9<|pv 2) (show fH nD (cj yU) ["row","lead","p","place"] 1 [07,0,05] _ from .mk' 19) (λ_ _ _ _ _=>cH (i:=0) Su rfl (18)) (λ_ _ _ _ _=>jn) (λ_ _ _ _ _=>cY GC hr 9 mC FC.kp bC .nil cZ<|10 2<|10 0<|10 1<|10 3 bj))<|cK<|10 07 bj))<|bN<|mH (i:=3) (N:=["row","lead","p","place"]) (own:=1) (caps:=[07,0,05]) rfl uj.nd rfl rfl (iY K 9<|pv 3) (show fH nD (cj yU) ["row","lead","p","place"] 1 [07,0,05] _ from .mk' 19) (λ_ _ _ _ _=>cH (i:=0) Su rfl (18)) (λ_ _ _ _ _=>jn) (λ_ _ _ _ _=>cY GC hr 9 mC FC.kp bC .nil cZ<|10 2<|10 0<|10 1<|10 3 bj)) eP)<|bN<|cJ<|jl (wD K 9) 9 T.tuple uT<|10 2 bj,?_]
  refine#[16,λld hd=>#[_,9,a,RS,9,?_,λlr ue=>?_]]
  .cases b with
   |true=>exact .inl ((bc.upd hd).sq (b:=true) hq)
   |false=>exact .inr ((bc.upd hd).sq (b:=false) hq)
  let pO:bc H (9 (9 H ld []) lr RS):=(bc.upd hd).trans<|.upd ue;let g1:(9 (9 H ld []) lr RS) ld=13 []:=by rw[cF (ig bq ue)];exact bq
  let g2:(9 (9 H ld []) lr RS) lr=13 RS:=bq;generalize 9 (9 H ld []) lr RS=H1 at pO g1 g2 |-;let Sx:=hA.mono pO;let cW:RS.length=rs.length:=jr hA;refine#[_,9,!RS.isEmpty,.inl #[RS,.of g2,9],?_];by_cases c8:rs=[]
  .subst c8;let e0:RS=[]:=List.length_eq_zero_iff.mp cW;subst e0;refine dh ?_;refine#[_,9,0,9,16,16,Aw (n:=0) (λi σ H'=>H'=H1/\σ=[0<|2 p,8 a,8 ld,8 lr,0<|2 0,8,8,8]) #[9,9] (λi σ H' hi=>absurd hi 7) ?_];rintro σ H' ⟨rfl,rfl⟩;exact#[_,9,ld,_,9,.inl #[.of g1,λt ht=>k t _ [] (pO.trans<|.upd ht) (.of bq) .nil]]
  .let e1:tM rs=n:=DQ hR c8;let aiZ:0<rs.length:=List.length_pos_iff.mpr c8;let hb:(!RS.isEmpty)=6:=by
    cases RS with
    |nil=>rw[List.length_nil]at cW;lia
    |cons _ _=>rfl
   rw[hb];refine fw ?_;let Sy:RS[0]?=0 (RS[0]'7):=cD _;let[r0,a0,zf,ea0,ha0]:=wN Sx Sy;let EZ:(r0.map V.int).length=n:=by rw[bH];exact(hR r0<|dS zf).1
   refine#[_,9,lr,RS,0,_,9,9,.of g2,cm (j:=0) (Sy.trans<|aj some ea0),a0,_,9,.inr ha0,?_];rw[EZ];refine#[_,9,(n:Int),9,7,7,Aw (n:=n) (λi σ H'=>bc H H'/\∃dn wZ DS XS s5 s6 s7,σ=[0<|2 p,8 a,8 dn,8 wZ,0<|2 (n:Int),s5,s6,s7]/\H' dn=13 DS/\cy K H' DS ((jo p n rs i).1.map dB)/\H' wZ=13 XS/\cy K H' XS ((jo p n rs i).2.map dB)) #[pO,ld,lr,[],RS,8,8,8,9,g1,.nil,g2,Sx] ?_ ?_]
   .rintro i σ H2 hi ⟨sm,dn,wZ,DS,XS,s5,s6,s7,rfl,gd,hD,gr,hX⟩;let IO:=Jz pp hR i<|vP hi;let IL:=Kk (p:=p) (n:=n) (L:=rs) i;let adm:jo p n rs (i+1)=wJ p n (jo p n rs i) i:=9;rw[adm];generalize jo p n rs i=st at hD hX IO IL |-;refine#[_,9,wZ,9,#[_,.of gr],qx (cp:=[0<|2<|0+(i:Int)]) (λj H' zs=>cy K H' zs<|((st.2.take j).filter λr=>14 i≠0).map dB) (.of gr) (by rw[jr hX,IL.2];exact vP<|IT hz) .nil (λj H' zs h=>by rw[jr h];exact eh (Hz _ _) (by rw[cV];lia)) ?_ ?_]
    .rintro j x H' zs e9 i5 h;let[r,ra,Li,rfl,iP]:=wN hX e9;let Er:=IO.r r<|dS Li;let uh:i<r.length:=by rw[Er.1];exact hi
     refine#[_,9,_,9,ra,_,(i:Int),_,9,aj V.int<|lQ _,i5.bK iP,cm<|tW uh,9,_,9,tX (λLf=>?_) λheq=>?_]
     .let adn:14 i≠0:=λz=>Lf<|aj V.int z;refine#[_,9,#[[_],9,9],i5,?_];rw[iM,Li];show cy K H' _ (((st.2.take j++[r]).filter _).map dB);rw[List.filter_append,List.filter_cons_of_pos (by simpa using adn),List.filter_nil,eC];exact h.append<|.cons (oG<|i5.bK iP) .nil
     .let ado:14 i=0:=V.int.inj heq;refine#[#[[_],9,9],i5,?_];rw[iM,Li];show cy K H' _ (((st.2.take j++[r]).filter _).map dB);rw[List.filter_append,List.filter_cons_of_neg (by simpa using ado),List.filter_nil,iV];exact h
    rintro H3 zs ua h3 lh ve;rw[jr hX,nF]at h3;let pQ:bc H2 (9 H3 lh zs):=ua.trans<|.upd ve;let g4:(9 H3 lh zs) lh=13 zs:=bq;let h4:=h3.mono (bc.upd ve (o:=.lst zs));generalize 9 H3 lh zs=H4 at pQ g4 h4 |-;refine#[_,9,!zs.isEmpty,.inl #[zs,.of g4,9],?_];unfold wJ;generalize hf:(st.2.filter λr=>14 i≠0)=hs at h4 |-;cases hs with
    |nil=>
     let:zs=[]:=List.length_eq_zero_iff.mp<|jr h4
     subst this;refine dh ?_;exact#[sm.trans pQ,dn,wZ,DS,XS,_,_,_,9,pQ _ _ gd,hD.mono pQ,pQ _ _ gr,hX.mono pQ]
    |cons hd tl=>
     cases zs with
     |nil=>exact absurd (jr h4) 17
     |cons z rZ=>
      let[r',ha,iw,rfl,hha]:=wN (i:=0) (x:=z) h4 rfl;let er:hd=r':=dJ iw;subst er;refine fw ?_;let Sz:hd∈st.2/\hd.getD i 0≠0:=by
       let:hd∈st.2.filter λr=>14 i≠0:=by rw[hf];exact du
       simpa using qd.mp this
      let qB:=IO.r hd Sz.1;let uh:i<hd.length:=by rw[qB.1];exact hi
      refine#[_,9,_,9,lh,_,0,3 ha,9,9,.of g4,cm (j:=0) rfl,_,9,p,ha,hd,0+(i:Int),i,9,lQ _,pp,hha,uh,by rw[qB.1];exact hn,qB.2,Sz.2,λt H6 Lg ht=>?_];let E3:bc H2 H6:=pQ.trans Lg;rw[qB.1]at ht;let BV:bu K H6 t ((eW p n hd i).map V.int):=ht;let Lj:=AZ (place:=i) (show 0<p by lia) qB;dsimp only;generalize eW p n hd i=SA at BV Lj |-;refine#[_,9,dn,9,#[_,.of<|E3 _ _ gd],Sv p2 cA (.of<|E3 _ _ gd) (hD.mono E3) IO.d 7 hn hi Lj.1 BV (λx H1 R h=>#[_,9,_,9,_,9,_,9,h]) λH8 vm SD h8 q8 hq8=>?_];refine#[_,9,(by show 11 1;decide),λl9 h9=>#[q8,l9,_,_,9,9,by rw[cF (ig bq h9)];exact bq,bq,?_,λq9 hq9=>?_]]
      .show 11 (vm.length+1);rw[jr h8,bH]
       let:(1000:Nat)<sizeLine:=by decide
       lia
      let E5:bc H8 (9 (9 (9 H8 q8 vm) l9 [3 t]) q9<|vm++[3 t]):=((bc.upd hq8).trans<|.upd h9).trans<|.upd hq9;let g9:(9 (9 (9 H8 q8 vm) l9 [3 t]) q9<|vm++[3 t]) q9=13 (vm++[3 t]):=bq;generalize 9 (9 (9 H8 q8 vm) l9 [3 t]) q9 (vm++[3 t])=H9 at E5 g9 |-;let pR:bc H2 H9:=(E3.trans SD).trans E5;let SE:=(SD.trans E5).bK BV;refine#[_,9,wZ,9,#[_,.of<|pR _ _ gr],Sv p2 cA (.of<|pR _ _ gr) (hX.mono pR) IO.r 7 hn hi Lj.1 SE (λx H1 R h=>#[_,9,_,9,_,9,_,9,h]) λHb SF smb hb qb SG=>?_];let pS:=smb.trans (bc.upd SG (o:=.lst SF));refine#[(sm.trans pR).trans pS,q9,qb,_,SF,_,_,_,9,pS _ _ g9,?_,bq,hb.mono<|.upd SG];show cy K _ _ ((st.1.map (fb p SA i)++[SA]).map dB);rw[eC];exact(h8.mono<|E5.trans pS).append<|.cons (oG<|pS.bK SE) .nil
   .rintro σ H' ⟨sm,dn,wZ,DS,XS,s5,s6,s7,rfl,gd,hD,gr,hX⟩;refine#[_,9,dn,_,9,.inl #[.of gd,λt ht=>k t _ DS (sm.trans<|.upd ht) (.of bq) ?_]];unfold eQ;rw[e1];exact hD.mono<|.upd ht
def E8:5 Str V:=[("times",2 1),("back",2 1),("beside",2 2),("then",2 2)]
def jI(x:Str):Nat:=if x="times"\/x="back" then 1 else if x="beside"\/x="then" then 2 else 0
def adp(x:Str):(PyProof.Rows.KTD.datumAt x E8).getD (2 0)=2 (jI x):=by
 unfold E8 jI;simp only[PyProof.Rows.KTD.datumAt,aK];by_cases h1:x="times"
 .simp[h1]
 .by_cases h2:x="back"
  .simp[h2]
  .by_cases h3:x="beside"
   .subst h3;rfl
   .by_cases h4:x="then"
    .subst h4;rfl
    .simp[h1,h2,h3,h4]
def NY(x:Str):jI x<=2:=by
 unfold jI;split
 .lia
 .split<;>lia
structure Parts(K:Frag)(mg:Str->7 5)(aP:Addr):Prop where
 nm:mg "PARTS"=8 aP
 tab:∀h,K.In h->lE h aP E8
def npt:(["part","values"]:1 Str).Nodup:=by decide +kernel
structure uk(k:Nat)(P:Program)(w:World)(K:Frag)(mg:Str->7 5)(base:Heap)(s:Shared)(H:Hp)(Q:VK)(aw f:Addr)(ws:1 V)(R:1 V->Hp->6 VK)(G:Nat->1 V->6 Hp):Prop where
 zg:bu K H aw ws
 len:ws.length<=200
 fn:pN P w K mg base k s H f R
 g0:G ws.length [] H
 mono:∀i vs H1 H2,G i vs H1->eI H1 H2->G i vs H2
 jC:∀i vs H1,G i vs H1->vs.length<=200
 kind:∀i,i<ws.length->(∃x,ws[i]?=0 (.str x))\/∃n,ws[i]?=0 (2 n)
 num:∀i n vs H1,ws[i]?=0 (2 n)->G (i+1) vs H1->G i (vs++[2 n]) H1
 word:∀i x vs H1,ws[i]?=0 (.str x)->G (i+1) vs H1->∃cu ps,vs=cu++ps.reverse/\ps.length=jI x/\
  ∀pa H2 Q',eI H1 H2->H2 pa=13 ps->(∀v H3,bc H2 H3->G i (cu++[v]) H3->Q' v H3)->R [2 i,.str x,3 pa] H2 Q'
 first:∃x,ws[0]?=0 (.str x)
 fin:∀td ba vs v H',bc H H'->H' td=0 (.dK ba)->dX ba (Sum.inl 0)=0 v->G 0 (vs++[v]) H'->Q (3 td) H'
noncomputable abbrev nAf:1 Str:=["words","made","told","values","place","word","parts"]
def zh:dz ["words","made","told","values","place","word","parts"] ["words","made"] (cj D7):=(dW 9 9 9 19 9)
noncomputable def w6:7 V->Bool
 |some (.str _)=>true
 |_=>false
noncomputable def ju(ws:1 V):Nat->1 Nat
 |0=>[]
 |j+1=>if w6 ws[ws.length-(j+1)]? then ju ws j++[ws.length-(j+1)]else ju ws j
def E9(ws:1 V)(j:Nat):ju ws (j+1)=if w6 ws[ws.length-(j+1)]? then ju ws j++[ws.length-(j+1)]else ju ws j:=(rfl)
theorem Lk(ws:1 V):∀j,(ju ws j).length<=j
 |0=>ck _
 |j+1=>by
  let:=Lk ws j
  unfold ju;split
  .rw[cb];exact Nat.add_le_add_right this 1
  .lia
theorem Ll(ws:1 V):∀j,j<=ws.length->∀i∈ju ws j,ws.length-j<=i
 |0,_,i,h=>by cases h
 |j+1,hj,i,h=>by
  unfold ju at h;split at h
  .rcases(eB.mp h)with(z|z)
   .let:=Ll ws j 7 i z;lia
   .rw[cT.mp z];exact ck _
  .let:=Ll ws j 7 i h;lia
structure SH(k:Nat)(P:Program)(w:World)(K:Frag)(mg:Str->7 5)(base:Heap)(s:Shared)(H:Hp)(Q:VK)(aw f:Addr)(ws:1 V)(R:1 V->Hp->6 VK)(G:Nat->1 V->6 Hp)(U:Nat->V->6 Hp):Prop where
 zg:bu K H aw ws
 len:ws.length<=200
 fn:pN P w K mg base k s H f R
 g0:G ws.length [] H
 mono:∀i vs H1 H2,G i vs H1->eI H1 H2->G i vs H2
 Lm:∀i v H1 H2,U i v H1->eI H1 H2->U i v H2
 jC:∀i vs H1,G i vs H1->vs.length<=200
 kind:∀i,i<ws.length->(∃x,ws[i]?=0 (.str x))\/∃n,ws[i]?=0 (2 n)
 num:∀i n vs H1,ws[i]?=0 (2 n)->G (i+1) vs H1->G i (vs++[2 n]) H1
 word:∀i x vs H1,ws[i]?=0 (.str x)->G (i+1) vs H1->∃cu ps,vs=cu++ps.reverse/\ps.length=jI x/\
  ∀pa H2 Q',eI H1 H2->H2 pa=13 ps->(∀v H3,bc H2 H3->G i (cu++[v]) H3->U i v H3->Q' v H3)->R [2 i,.str x,3 pa] H2 Q'
 fin:∀td ba vs H',bc H H'->H' td=0 (.dK ba)->ba.map Prod.fst=(ju ws ws.length).map (λ(n:Nat)=>(Sum.inl (n:Int):Key))->(∀(i:Nat)(x:Str),ws[i]?=0 (.str x)->∃v,dX ba (Sum.inl (i:Int))=0 v/\U i v H')->G 0 vs H'->Q (3 td) H'
def uk.all{k:Nat}{s:Shared}{H:Hp}{Q:VK}{aw:Addr}{ws:1 V}{R:1 V->Hp->6 VK}{G:Nat->1 V->6 Hp}(D:uk k P w K mg base s H Q aw f ws R G):SH k P w K mg base s H Q aw f ws R G (λi v H=>∃vs,G i (vs++[v]) H):=by
 refine#[D.zg,D.len,D.fn,D.g0,D.mono,λi v H1 H2 ⟨vs,h⟩ tp=>#[vs,D.mono _ _ _ _ h tp],D.jC,D.kind,D.num,λi x vs H1 h g=>?_,λtd ba vs H' s' h1 h2 h3 _=>?_]
 .let[cu,ps,e1,e2,hm]:=D.word i x vs H1 h g;exact#[cu,ps,e1,e2,λpa H2 Q' tp hp hq=>hm pa H2 Q' tp hp λv H3 s3 g3=>hq v H3 s3 g3 #[cu,g3]]
 .let[x,hx]:=D.first;let[v,hv,vs',hg]:=h3 0 x hx;exact D.fin td ba vs' v H' s' h1 hv hg
def Fb(k:Nat)(P:Program)(w:World)(K:Frag)(mg:Str->7 5)(base:Heap)(s:Shared):Sp:=λvs H Q _=>∃(aw f:Addr)(ws:1 V)(R:1 V->Hp->6 VK)(G:Nat->1 V->6 Hp)(U:Nat->V->6 Hp),vs=[3 aw,3 f]/\SH k P w K mg base s H Q aw f ws R G U
def adq(K:Frag)(aw f td vl:Addr)(ws:1 V)(G:Nat->1 V->6 Hp)(U:Nat->V->6 Hp)(H:Hp)(j:Nat)(σ:St)(H':Hp):Prop:=bc H H'/\∃(s4 s5 s6:7 V)(ba:5 Key V)(vs:1 V),
 σ=[8 aw,8 f,8 td,8 vl,s4,s5,s6]/\H' td=0 (.dK ba)/\H' vl=13 vs/\ba.map Prod.fst=(ju ws j).map (λ(n:Nat)=>(Sum.inl (n:Int):Key))/\G (ws.length-j) vs H'/\
 (∀(i:Nat)(x:Str),ws.length-j<=i->ws[i]?=0 (.str x)->∃v,dX ba (Sum.inl (i:Int))=0 v/\U i v H')
def ads{A:5 Key V}{k:Key}{v:V}(h:dX A k=0 v):k∈A.map Prod.fst:=by
 unfold dX at h;cases e:A.find? λkv=>decide (kv.1=k) with
 |none=>rw[e]at h;cases h
 |some kv=>
  let:=List.find?_some e
  let e2:kv.1=k:=by simpa using this
  rw[<- e2];exact CN<|List.mem_of_find?_eq_some e
def w8{k:Nat}{aP:Addr}(F:cL K "all_folded" "all_folded" D7 f fd)(T:Txt mg)(PT:Parts K mg aP):uZ P w K mg base (k+1) f fd ["words","made"] (Fb k P w K mg base):=by
 refine F.ma zh (λs vs H Q E h=>?_) λcq A outer s H vs Q E hr h=>?_
 .let[aw,f,ws,R,G,U,rfl,_]:=h;rfl
 .let[aw,fm,ws,R,G,U,rfl,D]:=h;let hu:=hr.units;let gW:=uN hr;refine#[_,bz (cx (i:=2) zh.nd rfl (18) Qu)<|bz (cx (i:=3) zh.nd rfl (Or.inr 9) (cK bj))<|bz (kY lS 9 (abJ 9 T.range<|bf (bI nN (iW (nV K 9) 9 T.len nW<|10 0 bj) br)<|bf (v3 v7 br)<|bf (v3 v7 br) bj) (cH (i:=04) zh.nd rfl (18))<|bz (cx (i:=05) zh.nd rfl (18) (bZ (cU K 9) (pv 0)<|pv 04))<|bN<|dq (vY<|iW (Jp (T := "int")) 9 T.isinstance AV<|10 05<|bf (AR 9 T.int yF) bj) (bN<|jT<|jX lR pf ph nP (pv 3)<|10 05 bj)<|bz (mH (N:=["part","values"]) (own:=1) (caps:=[3]) (i:=06) rfl zh.nd rfl rfl (x5 9 T.range<|bf (QQ PT.tab (rC (v:=3 _) rfl PT.nm rfl) (pv 05) br #[9,9,9,9]) bj) (show fH nAf (cj D7) ["part","values"] 1 [3] _ from .mk' 19) (λ_ _ _ _ _=>cH (i:=0) npt rfl (18)) (λ_ _ _ _ _=>jn) (λ_ _ _ _ _=>tR K 9<|pv 1))<|bz (Bd gW (pv 2) (pv 04) (by exact abM (i:=1) D.fn hr rfl rfl (18) (10 04<|10 05<|10 06 bj)) 9)<|bN<|jT<|jX lR pf ph nP (pv 3)<|bf (pK gW (pv 2)<|pv 04) bj)<|bN<|cJ<|pv 2,?_]
  let hz:11 (1000000:Nat):=by decide
  let hl:=D.len;intro td vn;refine#[(by show 11 0;lia),λvl BW=>?_];let BX:vl≠td:=λz=>by rw[z,bq]at BW;cases BW
  let Ln:H vl=8:=by rw[cF BX]at BW;exact BW
  let s2:bc H (9 (upd H td<|.dK []) vl []):=(bc.upd vn).trans<|.upd BW;refine#[_,9,aw,ws,9,.inr<|s2.bK D.zg,_,_,9,9,_,9,_,9,_,9,#[7,7],?_];let en:((ws.length:Int)-1+1).toNat=ws.length:=by lia
  rw[en];refine abK (adq K aw fm td vl ws G U H) #[s2,8,8,8,[],[],9,?_,bq,9,D.mono _ _ _ _ D.g0 s2.tup,λi x hi hx=>?_] ?_ ?_
  .rw[cF (iD BX)];exact bq
  .rw[kf 7]at hx;cases hx
  .rintro j σ H' hj ⟨sm,s4,s5,s6,ba,vs,rfl,Fc,xa,zi,hG,hU⟩;let hk:ba.length<=j:=by let:=aj List.length zi;rw[bH,bH]at this;let:=Lk ws j;lia
   obtain⟨i,hi⟩:∃i,ws.length=i+1+j:=#[ws.length-1-j,7];let e1:(ws.length:Int)-1-(j:Nat)=((i:Nat):Int):=by lia
   let e2:ws.length-j=i+1:=by lia
   let e3:ws.length-(j+1)=i:=by lia
   rw[e1];rw[e2]at hG;let IC:=D.jC _ _ _ hG;rcases D.kind i 7 with⟨x,hx⟩|⟨n,hx⟩
   .let[cu,ps,rfl,oT,adt]:=D.word i x vs H' hx hG;refine#[_,9,_,9,aw,_,((i:Nat):Int),_,9,9,sm.bK D.zg,cm (j:=i) hx,?_];refine#[_,9,.str x,.type "str",false,9,.str x,wz K,false,9,dh ?_];let hpc:=NY x;refine#[9,_,9,x,9,((jI x:Nat):Int),by rw[adp],7,7,?_];refine abL (cp:=[8 vl]) (n:=jI x) (lo:=0) (λk Hx zs=>zs=ps.take k/\Hx vl=13 (cu++(ps.drop k).reverse)/\∀b,b≠vl->Hx b=H' b) (by lia) #[9,xa,λ_ _=>9] (λk Hx zs h=>by rw[h.1];exact sO _ _) ?_ ?_
    .rintro k Hx zs jm ⟨rfl,h1,h2⟩;let cX:k<ps.length:=by lia
     let ex:cu++(ps.drop k).reverse=(cu++(ps.drop<|k+1).reverse)++[ps[k]]:=by rw[Hy cX,List.reverse_cons,gR]
     rw[ex]at h1;refine#[_,9,.inl #[9,_,.of h1],vl,_,ps[k],9,9,h1,17,yT.mk #[?_,?_,λb hb=>?_]]
     .rw[iM,cD cX];rfl
     .rw[bq,List.dropLast_concat]
     .rw[cF hb];exact h2 b hb
    .rintro Hx zs ⟨rfl,h1,h2⟩ pa oU;rw[lO 7];rw[HG 7,List.reverse_nil,iV]at h1;let Fd:td≠vl:=iD BX;let keep:∀b o,b≠vl->H' b=0 o->(9 Hx pa ps) b=0 o:=λb o nb e=>by
      let h3:Hx b=0 o:=by rw[h2 b nb];exact e
      rw[cF (ig h3 oU)];exact h3
     let Fe:bc H (9 Hx pa ps):=λb o e=>keep b o (ig e Ln)<|sm b o e;let tp:eI H' (9 Hx pa ps):=λb o e k=>keep b o (λz=>by
      subst z;rw[xa]at e;cases e;rcases k with⟨_,z⟩|⟨_,_,z⟩<;>cases z) e
     let g1:(9 Hx pa ps) pa=13 ps:=bq;let g2:(9 Hx pa ps) vl=13 cu:=by rw[cF (ig h1 oU)];exact h1
     let g3:(9 Hx pa ps) td=0 (.dK ba):=keep _ _ Fd Fc;generalize 9 Hx pa ps=H2 at Fe tp g1 g2 g3;refine#[9,Fe,_,9,_,9,_,9,Fe,adt pa H2 _ tp g1 λv H3 s3 hG3 hU3=>?_];let Lb:cu.length<=200:=by rw[cb]at IC;lia
     refine#[_,9,_,9,td,_,9,uW.k (k:=Sum.inl ((i:Nat):Int)) (s3 _ _ g3) (by lia),?_];let Lo:(upd H3 td<|.dK<|gM ba (Sum.inl ((i:Nat):Int)) v) vl=13 cu:=by rw[cF BX];exact s3 _ _ g2
     let SI:(upd H3 td<|.dK<|gM ba (Sum.inl ((i:Nat):Int)) v) td=0 (.dK<|gM ba (Sum.inl ((i:Nat):Int)) v):=bq;let adu:dX (gM ba (Sum.inl ((i:Nat):Int)) v) (Sum.inl ((i:Nat):Int))=0 v:=by rw[JF,af 9]
     refine#[_,9,.inl #[9,_,.of Lo],_,9,_,9,td,v,9,adu▸jd.k (k:=Sum.inl ((i:Nat):Int)) SI,vl,cu,_,9,9,Lo,7,?_];let Lp:=(eI.Bi (o:=.dK<|gM ba (Sum.inl ((i:Nat):Int)) v) (s3 _ _ g3)).trans (eI.lst (o:=.lst<|cu++[v]) Lo);let IK:dX ba (Sum.inl ((i:Nat):Int))=8:=by
      cases ev:dX ba (Sum.inl ((i:Nat):Int)) with
      |none=>rfl
      |some u=>
       let hm:=ads ev;rw[zi]at hm;let[i',iu,e']:=dF.mp hm
       let:=Ll ws j 7 i' iu
       let:=Sum.inl.inj e'
       lia
     refine#[((Fe.trans s3).put vn).put Ln,_,_,_,_,_,9,by rw[cF Fd];exact SI,bq,?_,?_,λi' x' iu e9=>?_]
     .rw[JH _ IK,eC,zi];rw[E9,e3,hx,af (show w6 (0<|V.str x)=6 from 9),eC];rfl
     .rw[e3];exact D.mono _ _ _ _ hG3 Lp
     .rw[JF];by_cases ei:i'=i
      .rw[af (by rw[ei]),ei];exact#[v,9,D.Lm _ _ _ _ hU3 Lp]
      .rw[ag λz=>ei (by let:=Sum.inl.inj z;lia)];let[u,Lq,qz]:=hU i' x' 7 e9;exact#[u,Lq,D.Lm _ _ _ _ qz<|tp.trans<|s3.tup.trans Lp]
   .refine#[_,9,_,9,aw,_,((i:Nat):Int),_,9,9,sm.bK D.zg,cm (j:=i) hx,?_];refine#[_,9,2 n,.type "int",6,9,2 n,Jt K,6,9,fw ?_];refine#[_,9,.inl #[9,_,.of xa],_,9,vl,vs,_,9,9,xa,7,?_];let Fd:td≠vl:=iD BX;refine#[sm.put Ln,_,_,_,ba,_,9,by rw[cF Fd];exact Fc,bq,?_,?_,λi' x' iu e9=>?_]
    .rw[zi];rw[E9,e3,hx,ag (show ¬w6 (0<|V.int n)=6 from λz=>nomatch z)]
    .rw[e3];exact D.mono _ _ _ _ (D.num i n vs H' hx hG)<|eI.lst xa
    .by_cases ei:i'=i
     .rw[ei,hx]at e9;cases e9
     .let[u,Lq,qz]:=hU i' x' 7 e9;exact#[u,Lq,D.Lm _ _ _ _ qz<|eI.lst xa]
  .rintro σ H' ⟨sm,s4,s5,s6,ba,vs,rfl,Fc,xa,zi,hG,hU⟩;rw[Nat.sub_self]at hG hU;exact#[_,9,D.fin td ba vs H' sm Fc zi (λi x hx=>hU i x (iL _) hx) hG]
end S21
namespace L2
open PySem PySem.Spec PyProof.Rows
theorem SJ:∀{l:5 Str 5}{y:Str}{u:Value},(l.map (·.1)).Nodup->(y,u)∈l->l.lookup y=0 u
 | [],_,_,_,h=>(by cases h)
 |(k,v)::r,y,u,nd,h=>by
  let n6:=Ab.mp nd;rcases(eK.mp h)with(e|h)
  .cases e;simp[List.lookup]
  .let ne:y≠k:=λz=>n6.1<|dF.mpr #[(y,u),h,z];let e0:(y==k)=false:=beq_eq_false_iff_ne.mpr ne;rw[qe,e0];exact SJ n6.2 h
def adv{xs:1 Str}{us:1 5}{i:Nat}{y:Str}{u:Value}(nd:xs.Nodup)(hl:us.length=21)(h1:xs[i]?=0 y)(h2:us[i]?=0 u):(xs.zip us).reverse.lookup y=0 u:=by
 let em:(xs.zip us).map (·.1)=xs:=by rw[List.map_fst_zip 7]
 refine SJ ?_<|List.mem_reverse.mpr ?_
 .rw[List.map_reverse,em];exact List.pairwise_reverse.mpr<|nd.imp λh=>iD h
 .exact dS (i:=i) (by rw[List.getElem?_zip_eq_some];exact#[h1,h2])
structure SK(xs names:1 Str)(scope:Scope)(params:Arguments)(cl:5 Str Addr):Prop where
 kind:scope.kind=.function
 co:scope.isCoroutine=false
 gen:scope.isGenerator=false
 nd:xs.Nodup
 cell:∀y∈scope.names,y.2≠.cell
 loc:∀x∈xs,scope.names.lookup x=0 .local
 fr:∀y∈names,scope.names.lookup y=0 .free
 has:∀y,scope.names.lookup y=0 .free->∃c,cl.lookup y=0 c
 inj:∀y z c,cl.lookup y=0 c->cl.lookup z=0 c->y=z
 only:∀y c,cl.lookup y=0 c->y∈names
section
variable{P:Program}{w:World}{K:Frag}{mg:Str->7 5}{base:Heap}
def adw{xs names:1 Str}{caps:1 V}{qual:Str}{params:Arguments}{body:Expr}{scope:Scope}{cl:5 Str Addr}{k:Nat}{s:Shared}{H:Hp}{f:Addr}{R:1 V->Hp->6 VK}(S:SK xs names scope params cl)
  (F:Qz H f qual params body scope cl) (JR:∀(pm cq ct:Value)(us:1 5),us.length=21->bindArgs (PySem.W.kla_fn "<lambda>" qual params body scope cl pm cq ct) #[us,[]]=pure (xs.zip us))
  (adx:∀(j:Nat)(y:Str),names[j]?=0 y->∃c v u,cl.lookup y=0 c/\caps[j]?=0 v/\RelV v u/\s.heap.IsCell c (0 u)/\H c=8) (cW:caps.length=names.length) (len:∀vs H' Q,R vs H' Q->vs.length=21)
  (qq:∀(c:Addr)(A:Around)(outer:1 Env)(s':Shared)(H':Hp)(vs:1 V)(Q:VK),eU k (A.deeper<|PySem.W.envX qual scope s'.heap.objs.size f (3 c) cl)->bc H H'->R vs H' Q->
   ∃t,PE (JQ P w K mg base (xs++names) qual scope f c cl A outer s' H').nI body t/\t (vs.map some++caps.map some) H' Q):pN P w K mg base (k+1) s H f R:=by
 let[c,hf,hc]:=F;refine#[.inl #[_,hf,λh ⟨pm,iH,e⟩=>#[_,_,_,_,e]],λA outer s' H' vs us Q hr e0 sm hk rv hQ=>?_];let[[pm,iH,ho],_]:=e0.cf f _<|sm _ _ hf;let hcr:s'.heap.CodeRec (3 c) qual:=(e0.cf c _<|sm _ _ hc).1;let wj:s'.heap.NoLimit:=e0.mod.nolimit.keeps λb o e=>(e0.bs b o e).1;let hl:=len _ _ _ hQ;let Lr:us.length=21:=by rw[<- rv.length];exact hl
 refine PySem.W.kla_callFunE hr.depth ho 9 S.co S.gen 9 hcr ?_;rw[JR _ _ _ us Lr];refine ao<|wpAny_newFunctionEnv S.cell (λz hz=>S.loc _ (Ac hz).1) (λh₁ DX SM=>#[wj.fresh _ SM,?_]) S.kind;show codeAny _ _ (.expr body<|PySem.W.envX qual scope s'.heap.objs.size f (3 c) cl) _ _;let up:∀b o,s'.heap.get? b=0 o->h₁.get? b=0 o:=λb o e=>SM.extBut b o (iA<|eE e)<|dD _ e;let[t,ht,hq]:=qq c A outer s' H' vs Q (hr.deeper _) sm hQ;let cells:∀(j:Nat)(y:Str),names[j]?=0 y->∃c v u,cl.lookup y=0 c/\caps[j]?=0 v/\RelV v u/\h₁.IsCell c (0 u)/\H' c=8:=λj y hj=>by
  let[c0,v,u,h1,h2,h3,[o,ho,hd],h5]:=adx j y hj;let[h6,sl,h7]:=hk c0 o ho h5;exact#[c0,v,u,h1,h2,h3,#[_,up _ _ h7,hd],h6]
 let SN:∀y c,cl.lookup y=0 c->∃v,h₁.IsCell c (0 v)/\H' c=8:=λy c0 h=>by
  let[j,hj]:=List.getElem?_of_mem<|S.only y c0 h;let[c1,v,u,h1,_,_,h4,h5]:=cells j y hj;rw[h]at h1;cases h1;exact#[u,h4,h5]
 let I:Inv (JQ P w K mg base (xs++names) qual scope f c cl A outer s' H') [] (vs.map some++caps.map some) H' { s' with heap:=h₁,toks:=s'.toks+(xs.zip us).length }:=by
  let wg:∀b:Addr,b ∉ (JQ P w K mg base (xs++names) qual scope f c cl A outer s' H').ex:=λb z=>absurd (show b∈([]:1 Addr) from z) 17
  refine#[#[e0.mod,S.kind,9,9,ck _,λy z c h1 h2=>S.inj y z c h1 h2,λy hy=>?_,λy c h=>(nomatch h),λ_=>hr.hd,Around.frames_deeper e0.frames,.inr #[9,9],λb z=>absurd z<|wg b,e0.bs,e0.sS,λb _ _=>wg b,λb z=>absurd z<|wg b,e0.pk,e0.vW],9,e0.bare,Un.kept up,#[_,DX,λi y v h1 h2 h3=>?_],λy c h=>?_,e0.cf.fresh<|ck _,λy c h=>?_,λp hp=>absurd (show p∈([]:5 Addr Obj) from hp) 17,e0.cf.kept up,by show(vs.map some++caps.map some).length=(xs++names).length;simp[cW,hl]]
  .rcases hy with hy|hy
   .exact absurd 9<|S.cell _<|qZ hy
   .exact S.has y hy
  .let h1:(xs++names)[i]?=0 y:=h1;by_cases hi:i<21
   .rw[i9 hi]at h1;rw[i9 (by simp only[bH];lia),dR]at h2;cases ev:vs[i]? with
    |none=>rw[ev]at h2;cases h2
    |some v'=>
     rw[ev]at h2;cases h2;let[u,hu,ru]:=rv.get ev;exact#[u,ru,.inl #[S.loc y<|dS h1,adv S.nd Lr h1 hu]]
   .rw[jy 7]at h1;rw[jy (by simp only[bH];lia),bH,hl,dR]at h2;let[c1,v',u,g1,g2,g3,g4,_]:=cells _ y h1;rw[g2]at h2;cases h2;exact#[u,g3,.inr #[.inr<|S.fr y<|dS h1,c1,g1,g4]]
  .let[v,h4,_]:=SN y c h;exact#[_,h4]
  .let[v,_,h5]:=SN y c h;exact h5
 refine PySem.W.kla_codeExpr<|ah (ht.nI [] _ _ H' Q I hq) (λu jW hs=>?_) λe jW z=>ah z (λ_ _ z=>False.elim z) λ_ _ z=>False.elim z;let[v,fY,J,rv,q]:=hs;exact#[v,fY,J.os,J.bare,J.base,J.cf,rv,q]
end
end L2
namespace S21
open PySem L2 Bw
variable{A B:Prop}{f:Addr}{fd:FuncData}
noncomputable def BY:1 5->4->Bool
 | [],[]=>true
 | .int i _::vs,n::ns=>i==n&&BY vs ns
 |_,_=>false
theorem Ls:∀(vs:1 5)(ns:4),BY vs ns=6->Vals (ns.map V.int) vs
 | [],[],_=>.nil
 | .int i t::vs,n::ns,h=>by
  let h':(i==n&&BY vs ns)=6:=h;rw[dM]at h';let e:i=n:=beq_iff_eq.mp h'.1;exact .cons #[t,by rw[e]]<|Ls vs ns h'.2
 | [],_::_,h=>nomatch h
 | .none::_,[],h=>nomatch h
 |v::vs,[],h=>by cases v<;>exact nomatch h
 |v::vs,n::ns,h=>by
  cases v with
  |int i t=>
   let h':(i==n&&BY vs ns)=6:=h;rw[dM]at h';let e:i=n:=beq_iff_eq.mp h'.1;exact .cons #[t,by rw[e]]<|Ls vs ns h'.2
  |_=>exact nomatch h
def zj(K:Frag)(t:Addr)(ns:4):Bool:=match K.lookup t with
 |some ⟨.type "tuple",_,.seq its _,_⟩=>decide (its.size<=1000)&&BY its.toList ns
 |_=>false
def Lu{K:Frag}{t:Addr}{ns:4}(h:zj K t ns=6)(H:Hp):bu K H t (ns.map V.int):=by
 unfold zj at h;split at h
 case h_2=>exact nomatch h
 case h_1 d its n sl ho=>
  rw[dM]at h;exact .inr #[_,its,n,ho,9,9,eh (aM h.1) 16,Ls _ _ h.2]
noncomputable def Ff(K:Frag):1 5->LL->Bool
 | [],[]=>true
 | .ref t::vs,r::rs=>zj K t r&&Ff K vs rs
 |_,_=>false
theorem SO{K:Frag}(H:Hp):∀(vs:1 5)(rs:LL),Ff K vs rs=6->∃RS,Vals RS vs/\cy K H RS (rs.map dB)
 | [],[],_=>#[[],.nil,.nil]
 | [],_::_,h=>nomatch h
 |v::vs,[],h=>by cases v<;>exact nomatch h
 |v::vs,r::rs,h=>by
  cases v with
  |ref t=>
   let h':(zj K t r&&Ff K vs rs)=6:=h;rw[dM]at h';let[RS,h1,h2]:=SO H vs rs h'.2;exact#[3 t::RS,.cons 9 h1,.cons (oG<|Lu h'.1 H) h2]
  |_=>exact nomatch h
def Lv(K:Frag)(t:Addr)(rs:LL):Bool:=match K.lookup t with
 |some ⟨.type "tuple",_,.seq its _,_⟩=>decide (its.size<=1000)&&Ff K its.toList rs
 |_=>false
def ady{K:Frag}{t:Addr}{rs:LL}(h:Lv K t rs=6)(H:Hp):∃RS,bu K H t RS/\cy K H RS (rs.map dB):=by
 unfold Lv at h;split at h
 case h_2=>exact nomatch h
 case h_1 d its n sl ho=>
  rw[dM]at h;let[RS,h1,h2]:=SO H _ _ h.2;exact#[RS,.inr #[_,its,n,ho,9,9,eh (aM h.1) 16,h1],h2]
def jJ:5 Str (Nat×Nat×LL):=[("id",1,1,[[1,1]]),("swap",2,2,[[1,0,0,1],[0,1,1,0]]),("copy",1,2,[[1,1,1]]),("end",1,0,[[1]]),("add",2,1,[[1,0,1],[0,1,1]]),("none",0,1,[]),("cup",0,2,[[1,1]]),("empty",0,0,[])]
def Fg(K:Frag)(aS aB:Addr):Bool:=pM K aS&&pM K aB&&jJ.all λe=>
 (match PyProof.Rows.KTD.datumAt e.1 (gN K aS)with|some (.ref t)=>zj K t [(e.2.1:Int),(e.2.2.1:Int)] | _=>false) &&
 (match PyProof.Rows.KTD.datumAt e.1 (gN K aB)with|some (.ref t)=>Lv K t e.2.2.2|_=>false)
structure xb(K:Frag)(mg:Str->7 5)(aS aB:Addr):Prop where
 nmS:mg "SIDES"=8 aS
 nmB:mg "BOX_ROWS"=8 aB
 ok:Fg K aS aB=6
def xb.adz{K:Frag}{mg:Str->7 5}{aS aB:Addr}(B:xb K mg aS aB):∀h,K.In h->lE h aB (gN K aB):=(λh X=>by
 let z:=B.ok;unfold Fg at z;rw[dM,dM]at z;exact D0 X z.1.2)
def xb.at_{K:Frag}{mg:Str->7 5}{aS aB:Addr}(B:xb K mg aS aB){x:Str}{l r:Nat}{bh:LL}(h:(x,l,r,bh)∈jJ) :
  (∃t,PyProof.Rows.KTD.datumAt x (gN K aS)=8 t/\∀H,bu K H t [2 (l:Int),2 (r:Int)])/\∃t,PyProof.Rows.KTD.datumAt x (gN K aB)=8 t/\∀H,∃RS,bu K H t RS/\cy K H RS (bh.map dB):=by
 let z:=B.ok;unfold Fg at z;rw[dM]at z;let z2:=gF.mp z.2 _ h;rw[dM]at z2;let[z3,z4]:=z2;constructor
 .split at z3
  .rename_i t e
   exact#[t,e,λH=>Lu z3 H]
  .exact nomatch z3
 .split at z4
  .rename_i t e
   exact#[t,e,λH=>ady z4 H]
  .exact nomatch z4
def Lw:dz ["place","word","parts","unmet"] ["place","word","parts"] (cj D9):=(dW 9 9 9 19 9)
def pN.on{X:Cx}{aZ:5 Addr Obj}{σ:St}{H1:Hp}{s1:Shared}{k:Nat}{R:1 V->Hp->6 VK}(I:12 X σ H1 s1)(hex:X.ex=[])(sm:bc X.H₀ H1)(L:pN P w K mg base k X.s₀ X.H₀ f R):pN P w K mg base k s1 H1 f R:=by
 refine#[?_,λA outer s' H' vs us Q hr e0 i5 hk rv hQ=>L.run A outer s' H' vs us Q hr e0 (sm.trans i5) (λc o hc hn=>?_) rv hQ]
 .rcases L.here with⟨φ,h1,h2⟩|h
  .exact .inl #[φ,sm _ _ h1,h2]
  .exact .inr h
 .let Bj:c ∉ X.ex:=by rw[hex];simp
  let[sl,h3]:=I.base.any hc hn Bj;let[h4,HM,h5]:=hk c _ h3<|I.base.free c o hc hn Bj;exact#[h4,HM,h5]
def uk.on{k:Nat}{X:Cx}{aZ:5 Addr Obj}{σ:St}{H1:Hp}{s1:Shared}{Q Q1:VK}{aw f:Addr}{ws:1 V}{R:1 V->Hp->6 VK}{G:Nat->1 V->6 Hp}(I:12 X σ H1 s1)(hex:X.ex=[])(sm:bc X.H₀ H1)
  (D:uk k P w K mg base X.s₀ X.H₀ Q aw f ws R G) (q:∀u H',bc H1 H'->Q u H'->Q1 u H'):uk k P w K mg base s1 H1 Q1 aw f ws R G:=(#[sm.bK D.zg,D.len,pN.on I hex sm D.fn,D.mono _ _ _ _ D.g0 sm.tup,D.mono,D.jC,D.kind,D.num,D.word,D.first,λtd ba vs v H' s' h1 h2 h3=>q _ _ s'<|D.fin td ba vs v H' (sm.trans s') h1 h2 h3])
def adA(Q:VK):VK:=λu H'=>∃td ba v,u=3 td/\H' td=0 (.dK ba)/\dX ba (Sum.inl 0)=0 v/\Q v H'
def SQ(k:Nat)(P:Program)(w:World)(K:Frag)(mg:Str->7 5)(base:Heap)(s:Shared):Sp:=λvs H Q _=>∃(aw f:Addr)(ws:1 V)(R:1 V->Hp->6 VK)(G:Nat->1 V->6 Hp),vs=[3 aw,3 f]/\uk k P w K mg base s H (adA Q) aw f ws R G
def adB:dz ["words","made"] ["words","made"] (cj JW):=(dW 9 9 9 19 9)
def Fh{k:Nat}{fA:Addr}{je:FuncData}(F:cL K "folded" "folded" JW f fd)
  (GA:uZ P w K mg base (k+1) fA je ["words","made"] (Fb k P w K mg base)) (kA:Kp K fA) (bA:Binds K je ["words","made"] []) (mA:Mg mg "all_folded" fA):uZ P w K mg base (k+2) f fd ["words","made"] (SQ k P w K mg base):=by
 refine F.ma adB (λs vs H Q E h=>?_) λcq A outer s H vs Q E hr h=>?_
 .let[aw,f,ws,R,G,rfl,_]:=h;rfl
 .let[aw,fm,ws,R,G,rfl,D]:=h;refine#[_,bN<|cJ<|pK (uN hr) (DW GA hr 9 mA kA bA<|10 0<|10 1 bj) br,?_];refine#[_,9,_,9,λaZ s1 I=>#[aw,fm,ws,R,G,_,9,uk.all (uk.on I 9 (.refl _) D λu H' _ ⟨td,ba,v,e,h1,h2,h3⟩=>?_)]];exact#[td,v,e,h2▸jd.k (k:=Sum.inl 0) h1,h3]
def Fi(K:Frag):Sp:=λvs H Q _=>∃(aw:Addr)(x:Str)(l r:Nat)(bh:LL),vs=[3 aw]/\bu K H aw [.str x]/\(x,l,r,bh)∈jJ/\∀v H',bc H H'->bu K H' v [2 (l:Int),2 (r:Int)]->Q (3 v) H'
def gk(K:Frag)(H:Hp)(a:Addr)(l r:Nat)(bh:LL):Prop:=∃(t:Addr)(RS:1 V),bu K H a [2 (l:Int),2 (r:Int),3 t]/\bu K H t RS/\cy K H RS (bh.map dB)
theorem cy.SR{K:Frag}{H H':Hp}(s:eI H H'):∀{RS:1 V}{bh:LL},cy K H RS (bh.map dB)->cy K H' RS (bh.map dB)
 | [],[],_=>.nil
 |_::_,[],h=>nomatch h
 | [],_::_,h=>nomatch h
 |v::RS,r::bh,.cons h q=>by
  refine .cons ?_<|cy.SR s q;let h:iR K H v (.tuple<|r.map .int):=h;cases h with
  |tuple h1 h2=>
   let e:=cy.Jq h2;subst e;exact oG<|s.bK h1
def gk.tup{K:Frag}{H H':Hp}{a:Addr}{l r:Nat}{bh:LL}(h:gk K H a l r bh)(s:eI H H'):gk K H' a l r bh:=by
 let[t,RS,h1,h2,h3]:=h;exact#[t,RS,s.bK h1,s.bK h2,cy.SR s h3]
def lK(l r:Nat)(row:4):4:=(row.drop l).take r++(row.take l++row.drop (l+r))
def zk{r:4}{k:Nat}(h:k<=r.length):gJ (r.map V.int) 8 (0 (k:Int))=(r.take k).map V.int:=by
 unfold gJ;rw[HT.rK,HT.wk,List.drop_zero,Nat.sub_zero,bH,xO h,List.map_take]
def zo{r:4}{k:Nat}(h:k<=r.length):gJ (r.map V.int) (0 (k:Int)) 8=(r.drop k).map V.int:=by
 unfold gJ;rw[HT.rK,HT.wk,bH,xO h,lO 17,List.map_drop]
def Lx{r:4}{j k:Nat}(h:j+k<=r.length):gJ (r.map V.int) (0 (j:Int)) (0 ((j+k:Nat):Int))=((r.drop j).take k).map V.int:=by
 unfold gJ;rw[HT.rK,HT.rK,bH,xO h,xO 7,List.map_take,List.map_drop,Nat.add_sub_cancel_left]
def adC{l r x:Nat}{row:4}(h:row.length=l+r+x):(lK l r row).length=r+l+x:=by
 unfold lK;simp only[cb,cV,dU];lia
def Fj{p:Int}{l r x:Nat}{row:4}(h:Rw p (l+r+x) row):Rw p (r+l+x) (lK l r row):=by
 refine#[adC h.1,λx hx=>h.2 x ?_];unfold lK at hx;rcases(eB.mp hx)with z|z
 .exact qh<|qg z
 .rcases(eB.mp z)with z|z
  .exact qg z
  .exact qh z
def nbk:(["row","behind","left"]:1 Str).Nodup:=by decide +kernel
def Ly(K:Frag):Sp:=λvs H Q _=>∃(p:Int)(a:Addr)(l r x:Nat)(bh:LL),vs=[2 p,3 a]/\p∈cM/\gk K H a l r bh/\l<=100/\r<=100/\x<=200/\bh.length<=500/\cC p (l+r+x) bh/\∀v H',bc H H'->gk K H' v r l (eQ p<|bh.map<|lK l r)->Q (3 v) H'
noncomputable abbrev nBk:1 Str:=["p","one","left","behind"]
def Lz:dz ["p","one","left","behind"] ["p","one"] (cj Ec):=(dW 9 9 9 19 9)
def adD{fD:Addr}{vo:FuncData}(F:cL K "form_of_back" "form_of_back" Ec f fd)
  (GD:bQ P w K mg base bX 3 fD vo ["p","rows"] (wY K)) (kD:Kp K fD) (bD:Binds K vo ["p","rows"] []) (mD:Mg mg "reduced" fD):bQ P w K mg base bX 04 f fd ["p","one"] (Ly K):=by
 refine 17 Lz 24 ?_
 .let[p,a,l,r,x,bh,rfl,_]:=h;rfl
 .let[p,a,l,r,x,bh,rfl,pp,[t,RS,h1,h2,h3],hl,iw,ai0,hz,hR,q]:=h;let nY:=jE;refine#[_,bz (cx (i:=2) Lz.nd rfl (Or.inr 9) (bZ (cU K 9) (pv 1) br))<|bz (cx (i:=3) Lz.nd rfl (Or.inr 9) (bI ij (pv 2)<|bZ (cU K 9) (pv 1) br))<|bN<|cJ<|eF<|bf (bZ (cU K 9) (pv 1) br)<|10 2<|bf (cY GD hr 9 mD kD bD .nil cZ<|10 0<|bf (qw (N:=["row","behind","left"]) (own:=1) (caps:=[3,2]) rfl (uS K 9<|bZ (cU K 9) (pv 1) br) (show fH nBk (cj Ec) ["row","behind","left"] 1 [3,2] _ from .mk' 19) (λ_ _ _ _ _=>cH (i:=0) nbk rfl (18)) (λ_ _ _ _ _=>jn) (λ_ _ _ _ _=>bI (jY K 9) (bI (jY K 9) (fQ (jD K 9) (pv 0) (eM<|pv 2)<|eM<|pv 1)<|fQ (jD K 9) (pv 0) ik<|eM<|pv 2)<|fQ (jD K 9) (pv 0) (eM<|pv 1) ik)) bj) bj,?_]
  let EY:=jr h3;refine#[_,9,a,_,0,_,9,9,h1,cm (j:=0) rfl,?_];refine#[_,9,_,9,a,_,1,_,9,9,h1,cm (j:=1) rfl,_,_,9,9,?_];refine#[_,9,a,_,1,_,9,9,h1,cm (j:=1) rfl,_,9,_,9,_,9,a,_,2,_,9,9,h1,cm (j:=2) rfl,t,9,#[_,h2],?_];refine DF (xs:=RS) (cp:=[0<|2<|(l:Int)+(r:Int),0<|2 (l:Int)]) (λi H' zs=>cy K H' zs<|((bh.map<|lK l r).take i).map dB) h2 (by lia) .nil (λi H' zs h=>by rw[jr h,cV];exact Nat.min_le_left _ _) ?_ ?_
  .rintro i v H2 zs hv sm h;let[SS,ra,j4,rfl,iP]:=wN h3 hv;let cW:=(hR SS<|dS j4).1;let elr:(l:Int)+(r:Int)=((l+r:Nat):Int):=by lia
   rw[elr];refine oH #[_,9,_,9,_,9,_,9,_,9,ra,_,9,sm.bK iP,λt1 H3 s3 vg=>?_];rw[Lx 7]at vg;refine#[_,9,_,9,_,9,ra,_,9,(sm.trans s3).bK iP,λt2 H4 s4 lJ=>?_];rw[zk 7]at lJ;refine#[t1,t2,_,_,9,9,s4.bK vg,lJ,by simp only[bH,cV,dU];lia,λt3 H5 s5 LB=>?_];let vp:=s3.trans<|s4.trans s5;refine#[_,9,_,9,_,9,ra,_,9,(sm.trans vp).bK iP,λt4 H6 s6 SU=>?_];rw[zo 7]at SU;refine#[t3,t4,_,_,9,9,s6.bK LB,SU,by simp only[bH,cb,cV,dU];lia,λt5 H7 s7 SV=>?_];let SW:=vp.trans<|s6.trans s7;refine#[#[[_],9,9],sm.trans SW,?_];rw[<- eC,<- eC,gR]at SV;let e:(bh.map<|lK l r)[i]?=0 (lK l r SS):=by rw[dR,j4];rfl
   rw[iM,e];show cy K H7 _ (((bh.map<|lK l r).take i++[_]).map dB);rw[eC];exact(h.mono SW).append<|.cons (oG SV) .nil
  rintro H1 ZS sm hZ lz qI;rw[lO (by rw[bH];lia)]at hZ;let s1:bc H (9 H1 lz ZS):=sm.trans<|.upd qI;refine#[p,lz,6,ZS,bh.map<|lK l r,r+l+x,9,pp,.of bq,hZ.mono<|.upd qI,by rw[bH];lia,7,λx hx=>?_,λt2 H2 DS s2 lJ BZ=>?_]
  .let[y,hy,rfl]:=dF.mp hx;exact Fj<|hR y hy
  .refine#[(by show 11 3;lia),λv hv=>q v _ (s1.trans<|s2.trans<|.upd hv) #[t2,DS,.of bq,(bc.upd hv).bK lJ,BZ.mono<|.upd hv]]
def adE:∀e∈jJ,e.1 ≠ "back"/\e.1 ≠ "beside"/\e.1 ≠ "then"/\e.1 ≠ "times":=by decide +kernel
def r8{x y:Str}(h:x≠y)(b:B):if decide (V.str x=V.str y)=6 then A else B:=by
 rw[ae (λz=>h<|V.str.inj z)];exact dh b
def Fl{x:V}(a:A):if decide (x=x)=6 then A else B:=by
 rw[aH 9];exact fw a
def SX{b:Bool}(h:b=false)(q:B):if(if false=6 then !b else b)=6 then A else B:=by
 subst h;simpa using q
def SY{ts es:1 Expr}{k:Nat}{pos:Pos}{env:Env}:starEach (.Tuple ts k pos::es) env=(false,eval (.Tuple ts k pos) env)::starEach es env:=by rfl
def LC{c:Const}{k:Nat}{es:1 Expr}{pos:Pos}{env:Env}:starEach (.Constant c k pos::es) env=(false,eval (.Constant c k pos) env)::starEach es env:=by rfl
def ts1:("times":Str) ≠ "back":=by decide +kernel
def ts2:("times":Str) ≠ "beside":=by decide +kernel
def ts3:("times":Str) ≠ "then":=by decide +kernel
inductive Fm(K:Frag)(p:Int)(x:Str)(ps:1 V)(H:Hp)(Q:VK):Prop where
 |back (a:Addr) (l r e:Nat) (bh:LL) (hx:x="back") (hp:ps=[3 a]) (hf:gk K H a l r bh) (hl:l<=100) (hr:r<=100) (he:e<=200) (hz:bh.length<=500) (hR:cC p (l+r+e) bh) (q:∀v H',bc H H'->gk K H' v r l (eQ p<|bh.map<|lK l r)->Q (3 v) H'):Fm K p x ps H Q
 |times (n:Int) (hx:x="times") (hp:ps=[2 n]) (q:∀v H',bc H H'->gk K H' v 1 1 [[1,n]]->Q (3 v) H'):Fm K p x ps H Q
 |box (l r:Nat) (bh:LL) (hx:(x,l,r,bh)∈jJ) (q:∀v H',bc H H'->gk K H' v l r bh->Q (3 v) H'):Fm K p x ps H Q
def adF:dz ["p","word","parts"] ["p","word","parts"] (cj J8):=(dW 9 9 9 19 9)
def S3(K:Frag):Sp:=λvs H Q _=>∃(aw:Addr)(ws:1 V),vs=[3 aw]/\bu K H aw ws/\ws.all rN=6/\rO (.str "late") ws=false/\Q .cI H
def adG:dz ["words"] ["words"] (cj J7):=(dW 9 9 9 19 9)
def adH(F:cL K "refuse_late" "refuse_late" J7 f fd):bQ P w K mg base bX 1 f fd ["words"] (S3 K):=by
 refine 17 adG 24 ?_
 .let[aw,ws,rfl,_]:=h;rfl
 .let[aw,ws,rfl,hw,hf,hn,q]:=h;refine#[_,bN<|dq (cQ (DJ K 9) c7 (pv 0) 9) (bN N4) eP,?_];exact#[_,9,aw,ws,9,.inr hw,9,hf,_,9,SX hn q]
def del(Pt:Addr)(H:Hp):Hp:=λb=>if b=Pt then none else H b
section
variable{K:Frag}{H H':Hp}{Pt a b:Addr}{ps:Array 5}{xs:1 V}{o:HO}
def S4(h:b≠Pt):del Pt H b=H b:=(ag h)
def S5(e:del Pt H b=0 o):b≠Pt/\H b=0 o:=by
 by_cases hb:b=Pt
 .rw[del,af hb]at e;cases e
 .exact#[hb,(S4 hb).symm.trans e]
def DU.same(h:DU Pt H H'):bc (del Pt H) H':=(λb o e=>h b o (S5 e).2 (S5 e).1)
def adI(hP:H Pt=0 (.ic ps))(e:H b=0 o)(hn:∀ps,o≠.ic ps):b≠Pt:=(λz=>by
 rw[z,hP]at e;exact hn _ (dJ e).symm)
def Fo(hP:H Pt=0 (.ic ps))(e:H b=0 o)(hn:∀ps,o≠.ic ps):del Pt H b=0 o:=by rw[S4 (adI hP e hn)];exact e
def bu.del(hP:H Pt=0 (.ic ps))(h:bu K H a xs):bu K (del Pt H) a xs:=by
 rcases h with(h|⟨o,h⟩)|h
 .exact .inl (.inl<|Fo hP h λ_ z=>nomatch z)
 .exact .inl<|.inr #[o,Fo hP h λ_ z=>nomatch z]
 .exact .inr h
def dv.del(hP:H Pt=0 (.ic ps))(h:dv K H a xs):dv K (del Pt H) a xs:=by
 rcases h with(h|⟨o,h⟩)|h
 .exact .inl (.inl<|Fo hP h λ_ z=>nomatch z)
 .exact .inl<|.inr #[o,Fo hP h λ_ z=>nomatch z]
 .exact .inr h
mutual
theorem iR.del(hP:H Pt=0 (.ic ps)):∀{v:V}{d:Dat},iR K H v d->iR K (S21.del Pt H) v d
 |_,_,.none=>.none
 |_,_,.bool b=>.bool b
 |_,_,.int i=>2 i
 |_,_,.str x=>.str x
 |_,_,.tuple h r=>.tuple (bu.del hP h) (cy.del hP r)
 |_,_,.list h r=>.list (dv.del hP h) (cy.del hP r)
theorem cy.del(hP:H Pt=0 (.ic ps)):∀{vs:1 V}{ds:1 Dat},cy K H vs ds->cy K (S21.del Pt H) vs ds
 |_,_,.nil=>.nil
 |_,_,.cons h r=>.cons (iR.del hP h) (cy.del hP r)
end
end
def _root_.L2.oI.tab{H:Hp}{Pt:Addr}{pos:Pos}{qual:Str}(h:oI H Pt pos qual):∃ps,H Pt=0 (.ic ps):=by
 rcases h with h|⟨c,h,_⟩
 .exact#[_,h]
 .exact#[_,h]
def _root_.L2.oI.mono{H H':Hp}{Pt:Addr}{pos:Pos}{qual:Str}(h:oI H Pt pos qual)(e:bc H H'):oI H' Pt pos qual:=by
 rcases h with h|⟨c,h,h2⟩
 .exact .inl<|e _ _ h
 .exact .inr #[c,e _ _ h,e _ _ h2]
def zq(e:Expr):Pos:=match e with
 | .Lambda _ _ _ q=>q
 |_=>#[0,0,0,0]
def adJ(e:Expr):Arguments:=match e with
 | .Lambda a _ _ _=>a
 |_=>{ posonlyargs:=[],args:=[],vararg:=none,kwonlyargs:=[],kw_defaults:=[],kwarg:=none,defaults:=[] }
def Fp(e:Expr):Scope:=match e with
 | .Lambda _ _ s _=>s
 |_=>{ kind:=.function,names:=[],isGenerator:=false,isCoroutine:=false }
def adK(st:Stmt)(i:Nat):Expr:=match(nQ st).getD i (.Pass #[0,0,0,0]) with
 | .Return (some (.Call _ [_,e] _ _)) _=>e
 |_=>.Constant .none 0 #[0,0,0,0]
noncomputable abbrev qJ:Expr:=adK md 1
noncomputable abbrev zr:Str := "forms"++".<locals>."++"<lambda>"
def B0(L:Nat):Addr:=((cellsFrom (L+1) (cj md).names []).lookup ("p":Str)).getD 0
noncomputable abbrev B1(L:Nat):5 Str Addr:=[("p",B0 L)]
def adL{L f:Addr}{cq:Value}:closureFor (Fp qJ) (PyProof.Rows.envOfC "forms" (cj md) L f cq)=pure (B1 L):=(rfl)
def S6{L:Nat}:(cellsFrom (L+1) (cj md).names []).lookup ("p":Str)=0 (B0 L):=by
 let[c,hc]:=Iq (n:=L+1) (sc:=cj md) (x := "p") rfl;unfold B0;rw[hc];rfl
def S7{L:Nat}{y:Str}{c:Addr}(h:(B1 L).lookup y=0 c):y="p":=by
 rcases(eK.mp<|qZ h)with e|e
 .cases e;rfl
 .cases e
def S8{L:Nat}{y:Str}{c:Addr}(h:(B1 L).lookup y=0 c):(cellsFrom (L+1) (cj md).names []).lookup y=0 c:=by
 let e:=S7 h;subst e;rw[S6];exact h
def adM{L:Nat}(adN:∀y z c,(cellsFrom (L+1) (cj md).names []).lookup y=0 c->(cellsFrom (L+1) (cj md).names []).lookup z=0 c->y=z):SK ["place","word","parts"] ["p"] (Fp qJ) (adJ qJ) (B1 L):=by
 let fr:∀y∈(["p"]:1 Str),(Fp qJ).names.lookup y=0 .free:=by decide +kernel
 let only:∀z∈(Fp qJ).names,z.2=.free->z.1∈(["p"]:1 Str):=by decide +kernel
 refine#[9,9,9,19,19,19,fr,λy hy=>?_,λy z c h1 h2=>adN y z c (S8 h1)<|S8 h2,λy c h=>by rw[S7 h];exact du];let e:y="p":=cT.mp<|only _ (qZ hy) 9;exact#[_,by rw[e];rfl]
def adO:∀e∈jJ,jI e.1=0:=by decide +kernel
def adP:jI "back"=1:=by decide +kernel
def adQ:jI "times"=1:=by decide +kernel
def adR:dz ["p","words"] ["p","words"] (cj md):=(dW 9 9 9 19 9)
def adS:dz ["p","words"] ["p","words"] (cj J6):=(dW 9 9 9 19 9)
def vq(te:TE)(σ:St)(H:Hp)(k:Int):Prop:=∀H',bc H H'->∀R:VK,R (2 k) H'->te σ H' R
def n8(K:Frag)(te:TE)(σ:St)(H:Hp)(ns:4):Prop:=∀H',bc H H'->∀R:VK,(∀v fY,bc H' fY->bu K fY v (ns.map V.int)->R (3 v) fY)->te σ H' R
def Fq(to:TO)(σ:St)(H:Hp)(k:7 Int):Prop:=∀H',bc H H'->∀R:7 Int->6 Hp,R k H'->to σ H' R
section
variable{K:Frag}{σ:St}{H:Hp}
def oV{i:Nat}{k:Int}(h:σ[i]?=0 (0<|2 k)):vq (bt i) σ H k:=(λ_ _ _ q=>#[_,h,q])
def jK{i:Nat}{a:Addr}{xs:1 V}{j:Nat}{k:Int}(h:σ[i]?=0 (8 a))(ha:bu K H a xs)(hj:xs[j]?=0 (2 k)):vq (bY (rM K) (bt i)<|tC<|2 (j:Int)) σ H k:=(λ_ s _ q=>#[_,h,a,xs,(j:Int),_,9,9,s.bK ha,cm hj,q])
def Fs{ta tb:TE}{i j:Int}(h1:vq ta σ H i)(h2:vq tb σ H j):vq (bY (gH λi j=>2<|i+j) ta tb) σ H (i+j):=(λH' s _ q=>h1 H' s _<|h2 H' s _ #[i,j,9,9,q])
def pY{i:Nat}{a:Addr}{ns:4}(h:σ[i]?=0 (8 a))(ha:bu K H a (ns.map V.int)):n8 K (bt i) σ H ns:=(λ_ s _ q=>#[_,h,q a _ (.refl _)<|s.bK ha])
def sf:Fq lU σ H 8:=(λ_ _ _ q=>q)
def n9{te:TE}{k:Int}(h:vq te σ H k):Fq (jA te) σ H (0 k):=(λH' s _ q=>h H' s _ #[k,9,q])
def pZ{ta tb:TE}{ns ms:4}(h1:n8 K ta σ H ns)(h2:n8 K tb σ H ms)(hl:ns.length+ms.length<=10000):n8 K (bY (wG K) ta tb) σ H (ns++ms):=(λH' s R q=>by
 let z:11 (10000:Nat):=by decide
 refine h1 H' s _ λa H1 s1 ha=>h2 H1 (s.trans s1) _ λb H2 s2 hb=>?_;refine#[a,b,_,_,9,9,s2.bK ha,hb,by simp only[bH];lia,λc H3 s3 hc=>q c H3 (s1.trans<|s2.trans s3) ?_];rw[eC];exact hc)
theorem S9{α:Type}(v:α):∀n:Nat,(16 n [v]).flatten=16 n v
 |0=>rfl
 |n+1=>by rw[uA,Ad,S9 v n];rfl
def zt{tk:TE}{k:Nat}(h:vq tk σ H (k:Int))(hk:k<=10000):n8 K (bY (DE K) (jz<|bw (tC<|2 0) cB) tk) σ H (16 k 0):=(λH' s R q=>by
 let z:11 (10000:Nat):=by decide
 refine#[by show 11 1;decide,λa ha=>?_];let sa:=bc.upd (o:=.tup [2 0]) ha;refine h _ (s.trans sa) _ #[a,(k:Int),[2 0],9,9,.of bq,17,7,7,by show 11 (1*(k:Int).toNat);lia,λc H3 s3 hc=>q c H3 (sa.trans s3) ?_];rw[show(k:Int).toNat=k by lia,S9]at hc;rw[List.map_replicate];exact hc)
def p6{te:TE}{tl th:TO}{ns:4}{lo hi:7 Int}{ms:4}(h:n8 K te σ H ns)(h1:Fq tl σ H lo)(h2:Fq th σ H hi)(e:gJ (ns.map V.int) lo hi=ms.map V.int):n8 K (kh (mX K) te tl th) σ H ms:=(λH' s R q=>
 h H' s _ λa H1 s1 ha=>h1 H1 (s.trans s1) _ (h2 H1 (s.trans s1) _ #[a,_,9,ha,λc H3 s3 hc=>q c H3 (s1.trans s3) (by rw[e]at hc;exact hc)]))
end
def Ft{K:Frag}{H1:Hp}{t:Addr}{RS:1 V}{bh:LL}{f:4->4}{cp:St}{te:TE}{Q:VK}(h2:bu K H1 t RS)(h3:cy K H1 RS (bh.map dB))(hz:bh.length<=1000)
  (step:∀row ra H,row∈bh->bc H1 H->bu K H ra (row.map V.int)->n8 K te (8 ra::cp) H (f row))
  (done:∀H ZS,bc H1 H->cy K H ZS ((bh.map f).map dB)->∀p,H p=8->Q (3 p) (9 H p ZS)) :
  ∃W:Nat->Nat->St->Hp->6 (1 V),(∃m,W 0 m (16 1 8++cp) H1 [])/\mz (tm K t) (cg 0) lV te Q W:=by
 let nY:=jE;let EY:=jr h3;refine DF (xs:=RS) (cp:=cp) (λi H' zs=>cy K H' zs<|((bh.map f).take i).map dB) h2 7 .nil (λi H' zs h=>by rw[jr h,cV];exact Nat.min_le_left _ _) ?_ ?_
 .rintro i v H2 zs hv sm h;let[row,ra,j4,rfl,iP]:=wN h3 hv;refine oH<|step row ra H2 (dS j4) sm (sm.bK iP) H2 (.refl _) _ λu H3 s3 hu=>#[#[[_],9,9],sm.trans s3,?_];let e:(bh.map f)[i]?=0 (f row):=by rw[dR,j4];rfl
  rw[iM,e];show cy K H3 _ (((bh.map f).take i++[_]).map dB);rw[eC];exact(h.mono s3).append<|.cons (oG hu) .nil
 .rintro H2 ZS sm hZ lz qI;rw[lO (by rw[bH];lia)]at hZ;exact done H2 ZS sm hZ lz qI
def xf(l r l' r':Nat)(row:4):4:=row.take l++16 l' 0++(row.drop l).take r++16 r' 0++row.drop (l+r)
def zu(l r l':Nat)(row:4):4:=16 l 0++row.take l'++16 r 0++row.drop l'
def qK(l r l' r':Nat)(bh cG:LL):LL:=bh.map (xf l r l' r')++cG.map (zu l r l')
def adT{p:Int}{l r l' r' x:Nat}{row:4}(p0:0<p)(h:Rw p (l+r+x) row):Rw p (l+l'+(r+r')+x) (xf l r l' r' row):=by
 refine#[?_,λy hx=>?_]
 .unfold xf
  let:=h.1
  simp only[cb,cV,dU,fg];lia
 .unfold xf at hx;simp only[eB,xN]at hx;rcases hx with(((z|⟨_,rfl⟩)|z)|⟨_,rfl⟩)|z
  .exact h.2 y<|qg z
  .lia
  .exact h.2 y<|qh<|qg z
  .lia
  .exact h.2 y<|qh z
def adU{p:Int}{l r l' r' x:Nat}{row:4}(p0:0<p)(h:Rw p (l'+r'+x) row):Rw p (l+l'+(r+r')+x) (zu l r l' row):=by
 refine#[?_,λy hx=>?_]
 .unfold zu
  let:=h.1
  simp only[cb,cV,dU,fg];lia
 .unfold zu at hx;simp only[eB,xN]at hx;rcases hx with((⟨_,rfl⟩|z)|⟨_,rfl⟩)|z
  .lia
  .exact h.2 y<|qg z
  .lia
  .exact h.2 y<|qh z
def Fu{p:Int}{l r l' r' x:Nat}{bh cG:LL}(p0:0<p)(h:cC p (l+r+x) bh)(h':cC p (l'+r'+x) cG):cC p (l+l'+(r+r')+x) (qK l r l' r' bh cG):=(λw hx=>by
 rcases(eB.mp hx)with z|z
 .let[y,hy,e]:=dF.mp z;rw[<- e];exact adT p0<|h y hy
 .let[y,hy,e]:=dF.mp z;rw[<- e];exact adU p0<|h' y hy)
def adV:(["row","behind","one","other"]:1 Str).Nodup:=by decide +kernel
def adW:(["row","one","other"]:1 Str).Nodup:=by decide +kernel
section
variable{P:Program}{w:World}{K:Frag}{mg:Str->7 5}{base:Heap}
def LD(K:Frag):Sp:=λvs H Q _=>∃(p:Int)(a b:Addr)(l r:Nat)(bh:LL)(l' r':Nat)(cG:LL)(x:Nat),vs=[2 p,3 a,3 b]/\p∈cM/\gk K H a l r bh/\gk K H b l' r' cG/\l<=100/\r<=100/\l'<=100/\r'<=100/\x<=200/\bh.length<=400/\cG.length<=400/\cC p (l+r+x) bh/\cC p (l'+r'+x) cG/\
 ∀v H',bc H H'->gk K H' v (l+l') (r+r') (eQ p<|qK l r l' r' bh cG)->Q (3 v) H'
noncomputable abbrev Ta:1 Str:=["p","one","other","behind","above","below"]
def Fv:dz ["p","one","other","behind","above","below"] ["p","one","other"] (cj Bm):=(dW 9 9 9 19 9)
abbrev gP(K:Frag)(i:Nat)(j:Int):TE:=bY (rM K) (bt i)<|tC<|2 j
abbrev zw(K:Frag)(tk:TE):TE:=bY (DE K) (jz<|bw (tC<|2 0) cB) tk
abbrev oW(K:Frag)(ta tb:TE):TE:=bY (wG K) ta tb
abbrev xg(ta tb:TE):TE:=bY (gH λi j=>2<|i+j) ta tb
def Fw(K:Frag):TE:=oW K (oW K (oW K (oW K (kh (mX K) (bt 0) lU<|jA<|gP K 2 0)<|zw K<|gP K 3 0)<|kh (mX K) (bt 0) (jA<|gP K 2 0)<|jA<|bt 1)<|zw K<|gP K 3 1)<|kh (mX K) (bt 0) (jA<|bt 1) lU
def Fx(K:Frag):TE:=oW K (oW K (oW K (zw K<|gP K 1 0)<|kh (mX K) (bt 0) lU<|jA<|gP K 2 0)<|zw K<|gP K 1 1)<|kh (mX K) (bt 0) (jA<|gP K 2 0) lU
def adX{σ:St}{H:Hp}{ra a b:Addr}{row:4}{l r l' r' x:Nat}{t t':V}(h0:σ[0]?=0 (8 ra))(h1:σ[1]?=0 (0<|2 ((l+r:Nat):Int)))(h2:σ[2]?=0 (8 a))(h3:σ[3]?=0 (8 b))
  (hr:bu K H ra (row.map V.int)) (ha:bu K H a [2 (l:Int),2 (r:Int),t]) (hb:bu K H b [2 (l':Int),2 (r':Int),t']) (hl:row.length=l+r+x) (hx:x<=200) (b1:l<=100) (b2:r<=100) (b3:l'<=100) (b4:r'<=100):n8 K (Fw K) σ H (xf l r l' r' row):=by
 let e1:(row.take l).length<=100:=by rw[cV];lia
 let e2:((row.drop l).take r).length<=100:=by rw[cV];lia
 let e3:(row.drop<|l+r).length<=200:=by rw[dU];lia
 refine pZ (pZ (pZ (pZ (p6 (pY h0 hr) sf (n9<|jK (j:=0) h2 ha rfl)<|zk 7) (zt (jK (j:=0) h3 hb rfl) 7) ?_) (p6 (pY h0 hr) (n9<|jK (j:=0) h2 ha rfl) (n9<|oV h1)<|Lx 7) ?_) (zt (jK (j:=1) h3 hb rfl) 7) ?_) (p6 (pY h0 hr) (n9<|oV h1) sf<|zo 7) ?_ <;>
  simp only[cb,fg]<;>lia
def adY{σ:St}{H:Hp}{ra a b:Addr}{row:4}{l r l' r' x:Nat}{t t':V}(h0:σ[0]?=0 (8 ra))(h2:σ[1]?=0 (8 a))(h3:σ[2]?=0 (8 b))
  (hr:bu K H ra (row.map V.int)) (ha:bu K H a [2 (l:Int),2 (r:Int),t]) (hb:bu K H b [2 (l':Int),2 (r':Int),t']) (hl:row.length=l'+r'+x) (hx:x<=200) (b1:l<=100) (b2:r<=100) (b3:l'<=100) (b4:r'<=100):n8 K (Fx K) σ H (zu l r l' row):=by
 let e1:(row.take l').length<=100:=by rw[cV];lia
 let e3:(row.drop l').length<=300:=by rw[dU];lia
 refine pZ (pZ (pZ (zt (jK (j:=0) h2 ha rfl) 7) (p6 (pY h0 hr) sf (n9<|jK (j:=0) h3 hb rfl)<|zk 7) ?_) (zt (jK (j:=1) h2 ha rfl) 7) ?_) (p6 (pY h0 hr) (n9<|jK (j:=0) h3 hb rfl) sf<|zo 7) ?_ <;>
  simp only[cb,fg]<;>lia
def Fy(K:Frag):TS:=cR (dI (xg (gP K 1 0)<|gP K 1 1)<|cg 3)<|cR (dI (qu (uG K<|gP K 1 2) 1 [3,1,2] (cg 0) lV<|Fw K)<|cg 04)<|cR (dI (qu (uG K<|gP K 2 2) 1 [1,2] (cg 0) lV<|Fx K)<|cg 05)<|iE<|jz<|bw (xg (gP K 1 0)<|gP K 2 0)<|bw (xg (gP K 1 1)<|gP K 2 1)<|bw (kg (wY K) [] E0<|bw (bt 0)<|bw (bY fh (bt 04)<|bt 05) cB) cB
def adZ{D:Ends}{p:Int}{a b:Addr}{l r:Nat}{bh:LL}{l' r':Nat}{cG:LL}{x:Nat}{H:Hp}(pp:p∈cM)(hf:gk K H a l r bh)(iq:gk K H b l' r' cG)(b1:l<=100)(b2:r<=100)(b3:l'<=100)(b4:r'<=100)(hx:x<=200)(z1:bh.length<=400)(z2:cG.length<=400)(hR:cC p (l+r+x) bh)(j7:cC p (l'+r'+x) cG)
  (q:∀v H',bc H H'->gk K H' v (l+l') (r+r') (eQ p<|qK l r l' r' bh cG)->D.rt (3 v) H'):Fy K D [0<|2 p,8 a,8 b,8,8,8] H:=by
 let[t,RS,h1,h2,h3]:=hf;let[t',Tb,oM,zx,Fz]:=iq;let nY:=jE;let p0:0<p:=(gK p pp).1 |> λh=>7
 unfold Fy;refine Fs (jK (j:=0) rfl h1 rfl) (jK (j:=1) rfl h1 rfl) H (.refl _) _ ?_;refine#[_,9,a,_,2,_,9,9,h1,cm (j:=2) rfl,t,9,#[_,h2],?_];refine Ft (f:=xf l r l' r') (cp:=[0<|2<|(l:Int)+(r:Int),8 a,8 b]) h2 h3 (by lia) (λrow ra H1 lI s1 iP=>adX 9 (by rw[show((l+r:Nat):Int)=(l:Int)+(r:Int) by lia];rfl) 9 9 iP (s1.bK h1) (s1.bK oM) (hR row lI).1 hx b1 b2 b3 b4) ?_;intro H1 ZS s1 hZ la qH;refine#[_,9,b,_,2,_,9,9,(s1.trans<|.upd qH).bK oM,cm (j:=2) rfl,t',9,#[_,(s1.trans<|.upd qH).bK zx],?_];let B2:(9 H1 la ZS) la=13 ZS:=bq;let oS:=hZ.mono (bc.upd qH (o:=.lst ZS));let sA:bc H (9 H1 la ZS):=s1.trans<|.upd qH;generalize 9 H1 la ZS=H2 at B2 oS sA |-;refine Ft (f:=zu l r l') (cp:=[8 a,8 b]) (sA.bK zx) (Fz.mono sA) (by lia) (λrow ra H3 lI s3 iP=>adY 9 9 9 iP ((sA.trans s3).bK h1) ((sA.trans s3).bK oM) (j7 row lI).1 hx b1 b2 b3 b4) ?_;intro H3 YS s3 hY lb vt;let sB:bc H2 (9 H3 lb YS):=s3.trans<|.upd vt;let vw:(9 H3 lb YS) lb=13 YS:=bq;let si:=hY.mono (bc.upd vt (o:=.lst YS));generalize 9 H3 lb YS=H4 at sB vw si |-;let sC:=sA.trans sB;refine Fs (jK (j:=0) rfl (sC.bK h1) rfl) (jK (j:=0) rfl (sC.bK oM) rfl) H4 (.refl _) _ ?_;refine Fs (jK (j:=1) rfl (sC.bK h1) rfl) (jK (j:=1) rfl (sC.bK oM) rfl) H4 (.refl _) _ ?_;let eZ:=jr oS;let eY:=jr si;rw[bH]at eZ eY;refine#[_,9,_,9,_,9,la,lb,ZS,YS,9,9,sB _ _ B2,vw,7,λlc y0=>?_];let sD:=bc.upd (o:=.lst<|ZS++YS) y0;refine#[p,lc,6,ZS++YS,qK l r l' r' bh cG,l+l'+(r+r')+x,9,pp,.of bq,?_,by unfold qK;rw[cb,bH,bH];lia,7,Fu p0 hR j7,λt2 H5 DS s5 lJ BZ=>?_]
 .unfold qK;rw[eC];exact((oS.mono sB).mono sD).append<|si.mono sD
 .refine#[(by show 11 3;lia),λv hv=>q v _ (sC.trans<|sD.trans<|s5.trans<|.upd hv) #[t2,DS,?_,(bc.upd hv).bK lJ,BZ.mono<|.upd hv]];refine .of ?_;rw[bq,show((l+l':Nat):Int)=(l:Int)+(l':Int) by lia,show((r+r':Nat):Int)=(r:Int)+(r':Int) by lia]
end
section
variable{P:Program}{w:World}{K:Frag}{mg:Str->7 5}{base:Heap}
def ad0{f fD:Addr}{fd vo:FuncData}(F:cL K "form_of_beside" "form_of_beside" Bm f fd)
  (GD:bQ P w K mg base bX 3 fD vo ["p","rows"] (wY K)) (kD:Kp K fD) (bD:Binds K vo ["p","rows"] []) (mD:Mg mg "reduced" fD):bQ P w K mg base bX 04 f fd ["p","one","other"] (LD K):=by
 refine 17 Fv 24 ?_
 .let[p,a,b,l,r,bh,l',r',cG,x,rfl,_]:=h;rfl
 .let[p,a,b,l,r,bh,l',r',cG,x,rfl,pp,hf,iq,b1,b2,b3,b4,hx,z1,z2,hR,j7,q]:=h;refine#[Fy K,?_,?_]
  .unfold Fy;refine bz ?_ ?_
   .refine cx (i:=3) (te:=xg (gP K 1 0)<|gP K 1 1) ?_ ?_ ?_ ?_ ?_ ?_
    .exact Fv.nd
    .rfl
    .exact Or.inr 9
    .exact bI ij (bZ (cU K 9) (pv 1) br)<|bZ (cU K 9) (pv 1) br
    .rfl
    .exact 18
   refine bz ?_ ?_
   .refine mH (N:=["row","behind","one","other"]) (own:=1) (caps:=[3,1,2]) (i:=04) (te:=Fw K) rfl Fv.nd rfl rfl ?_ ?_ ?_ ?_ ?_
    .exact uS K 9<|bZ (cU K 9) (pv 1) br
    .exact(show fH Ta (cj Bm) ["row","behind","one","other"] 1 [3,1,2] _ from .mk' 19)
    .exact λ_ _ _ _ _=>cH (i:=0) adV rfl (18)
    .exact λ_ _ _ _ _=>jn
    .intro _ _ _ _ _;unfold Fw;refine bI (jY K 9) ?_ ?_
     .refine bI (jY K 9) ?_ ?_
      .refine bI (jY K 9) ?_ ?_
       .refine bI (jY K 9) ?_ ?_
        .exact fQ (jD K 9) (pv 0) ik<|eM<|bZ (cU K 9) (pv 2) br
        .exact bI (wF K 9) (eF<|bf br bj)<|bZ (cU K 9) (pv 3) br
       .exact fQ (jD K 9) (pv 0) (eM<|bZ (cU K 9) (pv 2) br)<|eM<|pv 1
      .exact bI (wF K 9) (eF<|bf br bj)<|bZ (cU K 9) (pv 3) br
     .exact fQ (jD K 9) (pv 0) (eM<|pv 1) ik
   refine bz ?_ ?_
   .refine mH (N:=["row","one","other"]) (own:=1) (caps:=[1,2]) (i:=05) (te:=Fx K) rfl Fv.nd rfl rfl ?_ ?_ ?_ ?_ ?_
    .exact uS K 9<|bZ (cU K 9) (pv 2) br
    .exact(show fH Ta (cj Bm) ["row","one","other"] 1 [1,2] _ from .mk' 19)
    .exact λ_ _ _ _ _=>cH (i:=0) adW rfl (18)
    .exact λ_ _ _ _ _=>jn
    .intro _ _ _ _ _;unfold Fx;refine bI (jY K 9) ?_ ?_
     .refine bI (jY K 9) ?_ ?_
      .refine bI (jY K 9) ?_ ?_
       .exact bI (wF K 9) (eF<|bf br bj)<|bZ (cU K 9) (pv 1) br
       .exact fQ (jD K 9) (pv 0) ik<|eM<|bZ (cU K 9) (pv 2) br
      .exact bI (wF K 9) (eF<|bf br bj)<|bZ (cU K 9) (pv 1) br
     .exact fQ (jD K 9) (pv 0) (eM<|bZ (cU K 9) (pv 2) br) ik
   refine bN ?_;refine cJ (te:=jz<|bw (xg (gP K 1 0)<|gP K 2 0)<|bw (xg (gP K 1 1)<|gP K 2 1)<|bw (kg (wY K) [] E0<|bw (bt 0)<|bw (bY fh (bt 04)<|bt 05) cB) cB) ?_;refine eF ?_;refine bf ?_ ?_ ?_
   .exact bI ij (bZ (cU K 9) (pv 1) br)<|bZ (cU K 9) (pv 2) br
   .refine bf ?_ ?_ ?_
    .exact bI ij (bZ (cU K 9) (pv 1) br)<|bZ (cU K 9) (pv 2) br
    .refine bf ?_ bj ?_
     .exact cY GD hr 9 mD kD bD .nil cZ<|10 0<|bf (bI eV (pv 04)<|pv 05) bj
     .rfl
    .rfl
   .rfl
  .exact adZ pp hf iq b1 b2 b3 b4 hx z1 z2 hR j7 q
end
def vx(l m r':Nat)(row:4):4:=(row.drop l).take m++row.take l++16 r' 0++row.drop (l+m)
def vy(p:Int)(l m:Nat)(row:4):4:=(row.take m).map (λn=>(-n)%p)++16 l 0++row.drop m
def qL(p:Int)(l m r':Nat)(bh cG:LL):LL:=bh.map (vx l m r')++cG.map (vy p l m)
def p7(m:Nat)(row:4):Bool:=!((row.take m).any λn=>n != 0)
def p8(p:Int)(l m r':Nat)(bh cG:LL):LL:=((eQ p<|qL p l m r' bh cG).filter<|p7 m).map λrow=>row.drop m
def ad1{p:Int}{l m r' x:Nat}{row:4}(p0:0<p)(h:Rw p (l+m+x) row):Rw p (m+(l+r')+x) (vx l m r' row):=by
 refine#[?_,λy hx=>?_]
 .unfold vx
  let:=h.1
  simp only[cb,cV,dU,fg];lia
 .unfold vx at hx;simp only[eB,xN]at hx;rcases hx with((z|z)|⟨_,rfl⟩)|z
  .exact h.2 y<|qh<|qg z
  .exact h.2 y<|qg z
  .lia
  .exact h.2 y<|qh z
def ad2{p:Int}{l m r' x:Nat}{row:4}(p0:0<p)(h:Rw p (m+r'+x) row):Rw p (m+(l+r')+x) (vy p l m row):=by
 refine#[?_,λy hx=>?_]
 .unfold vy
  let:=h.1
  simp only[cb,bH,cV,dU,fg];lia
 .unfold vy at hx;simp only[eB,xN,dF]at hx;rcases hx with(⟨w,_,rfl⟩|⟨_,rfl⟩)|z
  .exact#[rh _ 7,ri _ p0]
  .lia
  .exact h.2 y<|qh z
def B3{p:Int}{l m r' x:Nat}{bh cG:LL}(p0:0<p)(h:cC p (l+m+x) bh)(h':cC p (m+r'+x) cG):cC p (m+(l+r')+x) (qL p l m r' bh cG):=(λw hx=>by
 rcases(eB.mp hx)with z|z
 .let[y,hy,e]:=dF.mp z;rw[<- e];exact ad1 p0<|h y hy
 .let[y,hy,e]:=dF.mp z;rw[<- e];exact ad2 p0<|h' y hy)
def Tc{p:Int}(pp:p∈cM){l m r' x:Nat}{bh cG:LL}(h:cC p (l+m+x) bh)(h':cC p (m+r'+x) cG):cC p (l+r'+x) (p8 p l m r' bh cG):=(λw hx=>by
 let p0:0<p:=by let:=gK p pp;lia
 let[y,hy,e]:=dF.mp hx;let Dj:=(lD pp<|B3 p0 h h').rws y (qd.mp hy).1;rw[<- e];refine#[by rw[dU,Dj.1];lia,λz hz=>Dj.2 z<|qh hz])
def ad3{p:Int}(pp:p∈cM){l m r' x:Nat}{bh cG:LL}(h:cC p (l+m+x) bh)(h':cC p (m+r'+x) cG):(p8 p l m r' bh cG).length<=m+(l+r')+x:=by
 let p0:0<p:=by let:=gK p pp;lia
 let:=Ei<|B3 p0 h h'
 unfold p8;rw[bH];exact eh (Hz _ _) this
def ad4:(["row","behind","left","other"]:1 Str).Nodup:=by decide +kernel
def ad5:(["row","between","left","p"]:1 Str).Nodup:=by decide +kernel
def ad6:(["number","p"]:1 Str).Nodup:=by decide +kernel
def ad7:(["row","between"]:1 Str).Nodup:=by decide +kernel
section
variable{P:Program}{w:World}{K:Frag}{mg:Str->7 5}{base:Heap}
def LF(K:Frag):1 V->Hp->6 VK:=λxs H Q=>∃p ys,xs=[3 p]/\((dv K H p ys/\∀l,H l=8->Q (3 l) (upd H l<|.tup ys))\/(bu K H p ys/\Q (3 p) H))
def FD(K:Frag):TE:=qr (LF K)<|bw (qu (uG K<|kh (mX K) (bt 0) lU<|jA<|bt 1) 1 [3] (cg 0) lV<|bY (rI (λ_ j=>0<j) λi j=>2<|i%j) (N9 (rU λi=>2<|-i)<|bt 0)<|bt 1) cB
def FE(K:Frag):TE:=oW K (oW K (oW K (kh (mX K) (bt 0) (jA<|bt 2)<|jA<|bt 1)<|kh (mX K) (bt 0) lU<|jA<|bt 2)<|zw K<|gP K 3 1)<|kh (mX K) (bt 0) (jA<|bt 1) lU
def FF(K:Frag):TE:=oW K (oW K (FD K)<|zw K<|bt 2)<|kh (mX K) (bt 0) (jA<|bt 1) lU
def ad8{H1:Hp}{t:Addr}{ns:4}{g:Int->Int}{cp:St}{te:TE}{Q:VK}(h2:bu K H1 t (ns.map V.int))(hz:ns.length<=1000)(step:∀n H,bc H1 H->vq te (0 (2 n)::cp) H (g n))
  (done:∀H,bc H1 H->∀p,H p=8->Q (3 p) (9 H p<|(ns.map g).map V.int)) :
  ∃W:Nat->Nat->St->Hp->6 (1 V),(∃m,W 0 m (16 1 8++cp) H1 [])/\mz (tm K t) (cg 0) lV te Q W:=by
 let nY:=jE;refine DF (xs:=ns.map V.int) (cp:=cp) (λi H' zs=>zs=((ns.take i).map g).map V.int) h2 (by rw[bH];lia) (by simp) (λi H' zs h=>by rw[h,bH,bH,cV];exact Nat.min_le_left _ _) ?_ ?_
 .rintro i v H2 zs hv sm rfl;rw[dR]at hv;cases e:ns[i]? with
  |none=>rw[e]at hv;cases hv
  |some n=>
   rw[e]at hv;cases hv;refine oH<|step n H2 sm H2 (.refl _) _ #[#[[_],9,9],sm,?_];rw[iM,e];simp
 .rintro H2 zs sm rfl lz qI;rw[bH,lO (ck _)];exact done H2 sm lz qI
def ad9{σ:St}{H:Hp}{ra:Addr}{row:4}{m:Nat}{p:Int}(h0:σ[0]?=0 (8 ra))(h1:σ[1]?=0 (0<|2 (m:Int)))(h3:σ[3]?=0 (0<|2 p))(hr:bu K H ra (row.map V.int))(hm:m<=row.length)(hl:row.length<=1000)(p0:0<p) :
  n8 K (FD K) σ H ((row.take m).map λn=>(-n)%p):=(λH' s R q=>by
 unfold FD qr;refine p6 (K:=K) (ms:=row.take m) (pY h0 hr) sf (n9<|oV h1) (zk hm) H' s _ λt H1 s1 ht=>#[t,9,#[_,ht],?_];let eb:rR 1 [3] σ=16 1 8++[0<|2 p]:=by simp[rR,h3]
 rw[eb];refine ad8 (g:=λn=>(-n)%p) (cp:=[0<|2 p]) ht (by rw[cV];lia) (λn H2 s2 H3 s3 R' q'=>#[_,9,n,9,_,9,-n,p,9,9,p0,q']) ?_;intro H2 s2 l nT;refine#[l,_,9,.inl #[.of bq,λv hv=>q v _ (s1.trans<|s2.trans<|(bc.upd nT).trans<|.upd hv)<|.of bq]])
def aea{σ:St}{H:Hp}{ra b:Addr}{row:4}{l m r' e:Nat}{x t':V}(h0:σ[0]?=0 (8 ra))(h1:σ[1]?=0 (0<|2 ((l+m:Nat):Int)))(h2:σ[2]?=0 (0<|2 (l:Int)))(h3:σ[3]?=0 (8 b))
  (hr:bu K H ra (row.map V.int)) (hb:bu K H b [x,2 (r':Int),t']) (hl:row.length=l+m+e) (he:e<=200) (b1:l<=100) (b2:m<=100) (b4:r'<=100):n8 K (FE K) σ H (vx l m r' row):=by
 let e1:(row.take l).length<=100:=by rw[cV];lia
 let e2:((row.drop l).take m).length<=100:=by rw[cV];lia
 let e3:(row.drop<|l+m).length<=200:=by rw[dU];lia
 refine pZ (pZ (pZ (p6 (pY h0 hr) (n9<|oV h2) (n9<|oV h1)<|Lx 7) (p6 (pY h0 hr) sf (n9<|oV h2)<|zk 7) ?_) (zt (jK (j:=1) h3 hb rfl) 7) ?_) (p6 (pY h0 hr) (n9<|oV h1) sf<|zo 7) ?_ <;>
  (try simp only[cb,fg])<;>lia
def aeb{σ:St}{H:Hp}{ra:Addr}{row:4}{l m r' e:Nat}{p:Int}(h0:σ[0]?=0 (8 ra))(h1:σ[1]?=0 (0<|2 (m:Int)))(h2:σ[2]?=0 (0<|2 (l:Int)))(h3:σ[3]?=0 (0<|2 p))
  (hr:bu K H ra (row.map V.int)) (hl:row.length=m+r'+e) (he:e<=200) (b1:l<=100) (b2:m<=100) (b4:r'<=100) (p0:0<p):n8 K (FF K) σ H (vy p l m row):=by
 let e1:((row.take m).map λn=>(-n)%p).length<=100:=by rw[bH,cV];lia
 let e3:(row.drop m).length<=300:=by rw[dU];lia
 refine pZ (pZ (ad9 h0 h1 h3 hr 7 7 p0) (zt (oV h2) 7) ?_) (p6 (pY h0 hr) (n9<|oV h1) sf<|zo 7) ?_ <;>
  (try simp only[cb,fg])<;>lia
def LG(K:Frag):Sp:=λvs H Q _=>∃(p:Int)(a b:Addr)(l m:Nat)(bh:LL)(r':Nat)(cG:LL)(e:Nat),vs=[2 p,3 a,3 b]/\p∈cM/\gk K H a l m bh/\gk K H b m r' cG/\l<=100/\m<=100/\r'<=100/\e<=200/\bh.length<=400/\cG.length<=400/\cC p (l+m+e) bh/\cC p (m+r'+e) cG/\
 ∀v H' ZS,bc H H'->H' v=13 ZS->cy K H' ZS ((qL p l m r' bh cG).map dB)->Q (3 v) H'
noncomputable abbrev Td:1 Str:=["p","one","other","left","between","behind","ahead","follow"]
def zy:dz ["p","one","other","left","between","behind","ahead","follow"] ["p","one","other"] (cj Bn):=(dW 9 9 9 19 9)
def FG(K:Frag):TS:=cR (dI (gP K 1 0)<|cg 3)<|cR (dI (gP K 1 1)<|cg 04)<|cR (dI (xg (bt 3)<|bt 04)<|cg 05)<|cR (dI (qu (uG K<|gP K 1 2) 1 [05,3,2] (cg 0) lV<|FE K)<|cg 06)<|cR (dI (qu (uG K<|gP K 2 2) 1 [04,3,0] (cg 0) lV<|FF K)<|cg 07)<|iE<|bY fh (bt 06)<|bt 07
def aec{D:Ends}{p:Int}{a b:Addr}{l m:Nat}{bh:LL}{r':Nat}{cG:LL}{e:Nat}{H:Hp}(pp:p∈cM)(hf:gk K H a l m bh)(iq:gk K H b m r' cG)(b1:l<=100)(b2:m<=100)(b4:r'<=100)(he:e<=200)(z1:bh.length<=400)(z2:cG.length<=400)(hR:cC p (l+m+e) bh)(j7:cC p (m+r'+e) cG)
  (q:∀v H' ZS,bc H H'->H' v=13 ZS->cy K H' ZS ((qL p l m r' bh cG).map dB)->D.rt (3 v) H'):FG K D [0<|2 p,8 a,8 b,8,8,8,8,8] H:=by
 let[t,RS,h1,h2,h3]:=hf;let[t',Tb,oM,zx,Fz]:=iq;let nY:=jE;let p0:0<p:=by let:=gK p pp;lia
 unfold FG;refine jK (j:=0) rfl h1 rfl H (.refl _) _ ?_;refine jK (j:=1) rfl h1 rfl H (.refl _) _ ?_;refine Fs (i:=(l:Int)) (j:=(m:Int)) (oV 9) (oV 9) H (.refl _) _ ?_;refine#[_,9,a,_,2,_,9,9,h1,cm (j:=2) rfl,t,9,#[_,h2],?_];refine Ft (f:=vx l m r') (cp:=[0<|2<|(l:Int)+(m:Int),0<|2 (l:Int),8 b]) h2 h3 (by lia) (λrow ra H1 lI s1 iP=>aea 9 (by rw[show((l+m:Nat):Int)=(l:Int)+(m:Int) by lia];rfl) 9 9 iP (s1.bK oM) (hR row lI).1 he b1 b2 b4) ?_;intro H1 ZS s1 hZ la qH;refine#[_,9,b,_,2,_,9,9,(s1.trans<|.upd qH).bK oM,cm (j:=2) rfl,t',9,#[_,(s1.trans<|.upd qH).bK zx],?_];let B2:(9 H1 la ZS) la=13 ZS:=bq;let oS:=hZ.mono (bc.upd qH (o:=.lst ZS));let sA:bc H (9 H1 la ZS):=s1.trans<|.upd qH;generalize 9 H1 la ZS=H2 at B2 oS sA |-;refine Ft (f:=vy p l m) (cp:=[0<|2 (m:Int),0<|2 (l:Int),0<|2 p]) (sA.bK zx) (Fz.mono sA) (by lia) (λrow ra H3 lI s3 iP=>aeb (r':=r') 9 9 9 9 iP (j7 row lI).1 he b1 b2 b4 p0) ?_;intro H3 YS s3 hY lb vt;let sB:bc H2 (9 H3 lb YS):=s3.trans<|.upd vt;let vw:(9 H3 lb YS) lb=13 YS:=bq;let si:=hY.mono (bc.upd vt (o:=.lst YS));generalize 9 H3 lb YS=H4 at sB vw si |-;let eZ:=jr oS;let eY:=jr si;rw[bH]at eZ eY;refine#[_,9,_,9,la,lb,ZS,YS,9,9,sB _ _ B2,vw,7,λlc y0=>?_];let sD:=bc.upd (o:=.lst<|ZS++YS) y0;refine q lc _ (ZS++YS) (sA.trans<|sB.trans sD) bq ?_;unfold qL;rw[eC];exact((oS.mono sB).mono sD).append<|si.mono sD
end
section
variable{P:Program}{w:World}{K:Frag}{mg:Str->7 5}{base:Heap}
def aed{f:Addr}{fd:FuncData}(F:cL K "facing" "facing" Bn f fd)(T:Txt mg):bQ P w K mg base bX 1 f fd ["p","one","other"] (LG K):=by
 refine 17 zy 24 ?_
 .let[p,a,b,l,r,bh,r',cG,e,rfl,_]:=h;rfl
 .let[p,a,b,l,m,bh,r',cG,e,rfl,pp,hf,iq,b1,b2,b4,he,z1,z2,hR,j7,q]:=h;refine#[FG K,?_,?_]
  .unfold FG;refine bz ?_ ?_
   .exact cx (i:=3) zy.nd rfl (Or.inr 9) (bZ (cU K 9) (pv 1) br)
   refine bz ?_ ?_
   .exact cx (i:=04) zy.nd rfl (Or.inr 9) (bZ (cU K 9) (pv 1) br)
   refine bz ?_ ?_
   .exact cx (i:=05) zy.nd rfl (Or.inr 9) (bI ij (pv 3)<|pv 04)
   refine bz ?_ ?_
   .refine mH (N:=["row","behind","left","other"]) (own:=1) (caps:=[05,3,2]) (i:=06) (te:=FE K) rfl zy.nd rfl rfl ?_ ?_ ?_ ?_ ?_
    .exact uS K 9<|bZ (cU K 9) (pv 1) br
    .exact(show fH Td (cj Bn) ["row","behind","left","other"] 1 [05,3,2] _ from .mk' 19)
    .exact λ_ _ _ _ _=>cH (i:=0) ad4 rfl (18)
    .exact λ_ _ _ _ _=>jn
    .intro _ _ _ _ _;unfold FE;refine bI (jY K 9) ?_ ?_
     .refine bI (jY K 9) ?_ ?_
      .refine bI (jY K 9) ?_ ?_
       .exact fQ (jD K 9) (pv 0) (eM<|pv 2)<|eM<|pv 1
       .exact fQ (jD K 9) (pv 0) ik<|eM<|pv 2
      .exact bI (wF K 9) (eF<|bf br bj)<|bZ (cU K 9) (pv 3) br
     .exact fQ (jD K 9) (pv 0) (eM<|pv 1) ik
   refine bz ?_ ?_
   .refine mH (N:=["row","between","left","p"]) (own:=1) (caps:=[04,3,0]) (i:=07) (te:=FF K) rfl zy.nd rfl rfl ?_ ?_ ?_ ?_ ?_
    .exact uS K 9<|bZ (cU K 9) (pv 2) br
    .exact(show fH Td (cj Bn) ["row","between","left","p"] 1 [04,3,0] _ from .mk' 19)
    .exact λ_ _ _ _ _=>cH (i:=0) ad5 rfl (18)
    .exact λ_ _ _ _ _=>jn
    .intro _ _ _ _ _;unfold FF;refine bI (jY K 9) ?_ ?_
     .refine bI (jY K 9) ?_ ?_
      .unfold FD;refine jl (wD K 9) 9 T.tuple uT ?_;refine bf ?_ bj ?_
       .refine qw (N:=["number","p"]) (own:=1) (caps:=[3]) rfl ?_ ?_ ?_ ?_ ?_
        .exact uS K 9<|fQ (jD K 9) (pv 0) ik<|eM<|pv 1
        .exact(fH.mk'<|by kernel_rfl)
        .exact λ_ _ _ _ _=>cH (i:=0) ad6 rfl (18)
        .exact λ_ _ _ _ _=>jn
        .exact λ_ _ _ _ _=>bI jb (v3 v7<|pv 0)<|pv 1
       .rfl
      .exact bI (wF K 9) (eF<|bf br bj)<|pv 2
     .exact fQ (jD K 9) (pv 0) (eM<|pv 1) ik
   refine bN ?_;exact cJ (te:=bY fh (bt 06)<|bt 07) (bI eV (pv 06)<|pv 07)
  .exact aec pp hf iq b1 b2 b4 he z1 z2 hR j7 q
end
section
variable{P:Program}{w:World}{K:Frag}{mg:Str->7 5}{base:Heap}
def LH(K:Frag):Sp:=λvs H Q _=>∃(p:Int)(a b:Addr)(l m:Nat)(bh:LL)(r':Nat)(cG:LL)(e:Nat),vs=[2 p,3 a,3 b]/\p∈cM/\gk K H a l m bh/\gk K H b m r' cG/\l<=100/\m<=100/\r'<=100/\e<=200/\bh.length<=400/\cG.length<=400/\cC p (l+m+e) bh/\cC p (m+r'+e) cG/\
 ∀v H',bc H H'->gk K H' v l r' (p8 p l m r' bh cG)->Q (3 v) H'
noncomputable abbrev nTh:1 Str:=["p","one","other","between","met"]
def LI:dz ["p","one","other","between","met"] ["p","one","other"] (cj Ed):=(dW 9 9 9 19 9)
def aee(K:Frag):1 V->Hp->6 VK:=λxs H Q=>∃p ns,xs=[3 p]/\bu K H p (List.map V.int ns)/\Q (.bl<|ns.any λn=>n != 0) H
def LJ(K:Frag):TT:=N0<|tB<|qr (aee K)<|bw (kh (mX K) (bt 0) lU<|jA<|bt 1) cB
def LK(K:Frag):TE:=kh (mX K) (bt 0) (jA<|bt 1) lU
def FH(K:Frag):TS:=cR (dI (gP K 1 1)<|cg 3)<|cR (dI (qu (uG K<|kg (wY K) [] E0<|bw (bt 0)<|bw (kg (LG K) [] E0<|bw (bt 0)<|bw (bt 1)<|bw (bt 2) cB) cB) 1 [3] (cg 0) (LJ K)<|LK K)<|cg 04)<|iE<|jz<|bw (gP K 1 0)<|bw (gP K 2 1)<|bw (qr (LF K)<|bw (bt 04) cB) cB
def aef{H1:Hp}{t:Addr}{RS:1 V}{bh:LL}{g:4->Bool}{f:4->4}{cp:St}{tt:TT}{te:TE}{Q:VK}(h2:bu K H1 t RS)(h3:cy K H1 RS (bh.map dB))(hz:bh.length<=1000)
  (test:∀row ra H,row∈bh->bc H1 H->bu K H ra (row.map V.int)->∀R:Bool->6 Hp,(∀H',bc H H'->R (g row) H')->tt (8 ra::cp) H R)
  (step:∀row ra H,row∈bh->bc H1 H->bu K H ra (row.map V.int)->n8 K te (8 ra::cp) H (f row))
  (done:∀H ZS,bc H1 H->cy K H ZS (((bh.filter g).map f).map dB)->∀p,H p=8->Q (3 p) (9 H p ZS)) :
  ∃W:Nat->Nat->St->Hp->6 (1 V),(∃m,W 0 m (16 1 8++cp) H1 [])/\mz (tm K t) (cg 0) tt te Q W:=by
 let nY:=jE;let EY:=jr h3;refine DF (xs:=RS) (cp:=cp) (λi H' zs=>cy K H' zs<|(((bh.take i).filter g).map f).map dB) h2 7 .nil (λi H' zs h=>by rw[jr h,bH];exact eh (Hz _ _) (by rw[cV];exact Nat.min_le_left _ _)) ?_ ?_
 .rintro i v H2 zs hv sm h;let[row,ra,j4,rfl,iP]:=wN h3 hv;let hm:=dS j4;refine test row ra H2 hm sm (sm.bK iP) _ λH3 s3=>?_;let et:(bh.take<|i+1).filter g=(bh.take i).filter g++[row].filter g:=by
   rw[iM,j4];exact List.filter_append ..
  cases hg:g row with
  |true=>
   refine fw<|step row ra H3 hm (sm.trans s3) ((sm.trans s3).bK iP) H3 (.refl _) _ λu H4 s4 hu=>#[#[[_],9,9],sm.trans<|s3.trans s4,?_];show cy K H4 _ ((((bh.take<|i+1).filter g).map f).map dB);rw[et,List.filter_cons,hg,af 9,List.filter_nil,eC,eC];exact(h.mono<|s3.trans s4).append<|.cons (oG hu) .nil
  |false=>
   refine dh #[#[[_],9,9],sm.trans s3,?_];show cy K H3 _ ((((bh.take<|i+1).filter g).map f).map dB);rw[et,List.filter_cons,hg,ag 16,List.filter_nil,iV];exact h.mono s3
 .rintro H2 ZS sm hZ lz qI;rw[lO 7]at hZ;exact done H2 ZS sm hZ lz qI
def aeg{D:Ends}{p:Int}{a b:Addr}{l m:Nat}{bh:LL}{r':Nat}{cG:LL}{e:Nat}{H:Hp}(pp:p∈cM)(hf:gk K H a l m bh)(iq:gk K H b m r' cG)(b1:l<=100)(b2:m<=100)(b4:r'<=100)(he:e<=200)(z1:bh.length<=400)(z2:cG.length<=400)(hR:cC p (l+m+e) bh)(j7:cC p (m+r'+e) cG)
  (q:∀v H',bc H H'->gk K H' v l r' (p8 p l m r' bh cG)->D.rt (3 v) H'):FH K D [0<|2 p,8 a,8 b,8,8] H:=by
 let nY:=jE;let p0:0<p:=by let:=gK p pp;lia
 let hF:=B3 p0 hR j7;let RO:=lD pp hF;let cW:=Ei hF;let[t,RS,h1,h2,h3]:=id hf;let[t',Tb,oM,zx,Fz]:=id iq;unfold FH;refine jK (j:=1) rfl h1 rfl H (.refl _) _ ?_;refine#[_,9,_,9,_,9,_,9,p,a,b,l,m,bh,r',cG,e,9,pp,hf,iq,b1,b2,b4,he,z1,z2,hR,j7,λlf H1 ZS s1 hlf hZ=>?_];refine#[p,lf,6,ZS,qL p l m r' bh cG,m+(l+r')+e,9,pp,.of hlf,hZ,by unfold qL;rw[cb,bH,bH];lia,7,hF,λt2 H2 DS s2 lJ BZ=>?_];refine#[t2,9,#[_,lJ],?_];let sA:=s1.trans s2;refine aef (g:=p7 m) (f:=λrow=>row.drop m) (cp:=[0<|2 (m:Int)]) lJ BZ (by lia) (λrow ra H3 lI s3 iP R hR3=>?_) (λrow ra H3 lI s3 iP=>?_) ?_
 .let hl:=(RO.rws row lI).1;refine p6 (K:=K) (ms:=row.take m) (pY 9 iP) sf (n9<|oV 9) (zk 7) H3 (.refl _) _ λu H4 s4 hu=>?_;exact#[u,row.take m,9,hu,_,9,hR3 H4 s4]
 .let hl:=(RO.rws row lI).1;exact p6 (K:=K) (pY 9 iP) (n9<|oV 9) sf<|zo 7
 intro H3 YS s3 hY lb vt;let sB:bc H2 (9 H3 lb YS):=s3.trans<|.upd vt;let vw:(9 H3 lb YS) lb=13 YS:=bq;let si:=hY.mono (bc.upd vt (o:=.lst YS));generalize 9 H3 lb YS=H4 at sB vw si |-;let sC:=sA.trans sB;refine jK (j:=0) rfl (sC.bK h1) rfl H4 (.refl _) _ ?_;refine jK (j:=1) rfl (sC.bK oM) rfl H4 (.refl _) _ ?_;refine#[_,9,lb,YS,9,.inl #[.of vw,λtt htt=>#[(by show 11 3;lia),λv hv=>?_]]];let sv:=(bc.upd (o:=.tup YS) htt).trans (bc.upd hv (o:=.tup [2 (l:Int),2 (r':Int),3 tt]));exact q v _ (sC.trans sv) #[tt,YS,.of bq,(bc.upd hv).bK<|.of bq,si.mono sv]
def aeh{f fD fC:Addr}{fd vo nh:FuncData}(F:cL K "form_of_then" "form_of_then" Ed f fd)(T:Txt mg)
  (GD:bQ P w K mg base bX 3 fD vo ["p","rows"] (wY K)) (kD:Kp K fD) (bD:Binds K vo ["p","rows"] []) (mD:Mg mg "reduced" fD)
  (GC:bQ P w K mg base bX 1 fC nh ["p","one","other"] (LG K)) (kC:Kp K fC) (bC:Binds K nh ["p","one","other"] []) (mC:Mg mg "facing" fC):bQ P w K mg base bX 04 f fd ["p","one","other"] (LH K):=by
 refine 17 LI 24 ?_
 .let[p,a,b,l,r,bh,r',cG,e,rfl,_]:=h;rfl
 .let[p,a,b,l,m,bh,r',cG,e,rfl,pp,hf,iq,b1,b2,b4,he,z1,z2,hR,j7,q]:=h;let i6:eU 1 _:=hr.mono 16;refine#[FH K,?_,?_]
  .unfold FH;refine bz ?_ ?_
   .exact cx (i:=3) LI.nd rfl (Or.inr 9) (bZ (cU K 9) (pv 1) br)
   refine bz ?_ ?_
   .refine mH (N:=["row","between"]) (own:=1) (caps:=[3]) (i:=04) (te:=LK K) (tt:=LJ K) rfl LI.nd rfl rfl ?_ ?_ ?_ ?_ ?_
    .exact uS K 9<|cY GD hr 9 mD kD bD .nil cZ<|10 0<|bf (cY GC i6 9 mC kC bC .nil cZ<|10 0<|10 1<|10 2 bj) bj
    .exact(show fH nTh (cj Ed) ["row","between"] 1 [3] _ from .mk' 19)
    .exact λ_ _ _ _ _=>cH (i:=0) ad7 rfl (18)
    .intro _ _ _ _ _;unfold LJ;exact AM<|HR<|vY<|iW (abn K 9 9) 9 T.any aaP<|bf (fQ (jD K 9) (pv 0) ik<|eM<|pv 1) bj
    .intro _ _ _ _ _;unfold LK;exact fQ (jD K 9) (pv 0) (eM<|pv 1) ik
   refine bN ?_;refine cJ (te:=jz<|bw (gP K 1 0)<|bw (gP K 2 1)<|bw (qr (LF K)<|bw (bt 04) cB) cB) ?_;refine eF ?_;refine bf ?_ ?_ ?_
   .exact bZ (cU K 9) (pv 1) br
   .refine bf ?_ ?_ ?_
    .exact bZ (cU K 9) (pv 2) br
    .refine bf ?_ bj ?_
     .exact jl (wD K 9) 9 T.tuple uT<|10 04 bj
     .rfl
    .rfl
   .rfl
  .exact aeg pp hf iq b1 b2 b4 he z1 z2 hR j7 q
end
section
variable{P:Program}{w:World}{K:Frag}{mg:Str->7 5}{base:Heap}
inductive zA(K:Frag)(p:Int)(x:Str)(ps:1 V)(H:Hp)(Q:VK):Prop where
 |old (h:Fm K p x ps H Q):zA K p x ps H Q
 |bo (a b:Addr) (l r:Nat) (bh:LL) (l' r':Nat) (cG:LL) (e:Nat) (hx:x="beside") (hp:ps=[3 a,3 b]) (hf:gk K H a l r bh) (iq:gk K H b l' r' cG) (b1:l<=100) (b2:r<=100) (b3:l'<=100) (b4:r'<=100) (he:e<=200) (z1:bh.length<=400) (z2:cG.length<=400) (hR:cC p (l+r+e) bh) (j7:cC p (l'+r'+e) cG)
   (q:∀v H',bc H H'->gk K H' v (l+l') (r+r') (eQ p<|qK l r l' r' bh cG)->Q (3 v) H'):zA K p x ps H Q
 |bg (a b:Addr) (l m:Nat) (bh:LL) (r':Nat) (cG:LL) (e:Nat) (hx:x="then") (hp:ps=[3 a,3 b]) (hf:gk K H a l m bh) (iq:gk K H b m r' cG) (b1:l<=100) (b2:m<=100) (b4:r'<=100) (he:e<=200) (z1:bh.length<=400) (z2:cG.length<=400) (hR:cC p (l+m+e) bh) (j7:cC p (m+r'+e) cG)
   (q:∀v H',bc H H'->gk K H' v l r' (p8 p l m r' bh cG)->Q (3 v) H'):zA K p x ps H Q
def Te(K:Frag):Sp:=λvs H Q _=>∃(p:Int)(x:Str)(pa:Addr)(ps:1 V),vs=[2 p,.str x,3 pa]/\p∈cM/\H pa=13 ps/\zA K p x ps H Q
abbrev zB(K:Frag)(i:Nat)(j:Int):TE:=bY (nO K) (bt i)<|tC<|2 j
abbrev FI(x:Str):TT:=kZ<|bY rJ (bt 1)<|tC<|.str x
def Tf(K:Frag):TE:=kg (Ly K) [] E0<|bw (bt 0)<|bw (zB K 2 0) cB
def Tg(K:Frag):TE:=kg (LD K) [] E0<|bw (bt 0)<|bw (zB K 2 0)<|bw (zB K 2 1) cB
def Th(K:Frag):TE:=kg (LH K) [] E0<|bw (bt 0)<|bw (zB K 2 0)<|bw (zB K 2 1) cB
def LM(K:Frag):TE:=jz<|bw (tC<|2 1)<|bw (tC<|2 1)<|bw (jz<|bw (jz<|bw (tC<|2 1)<|bw (zB K 2 0) cB) cB) cB
def LN(K:Frag)(aB:Addr):TE:=oW K (kg (Fi K) [] E0<|bw (jz<|bw (bt 1) cB) cB)<|jz<|bw (JV aB (gN K aB) (tC<|3 aB)<|bt 1) cB
def FJ(K:Frag)(aB:Addr):TS:=cR (gU (FI "back") (iE<|Tf K) jS)<|cR (gU (FI "beside") (iE<|Tg K) jS)<|cR (gU (FI "then") (iE<|Th K) jS)<|cR (gU (FI "times") (iE<|LM K) jS)<|iE<|LN K aB
def tw1:("beside":Str) ≠ "back":=by decide +kernel
def tw2:("then":Str) ≠ "back":=by decide +kernel
def tw3:("then":Str) ≠ "beside":=by decide +kernel
def aei{D:Ends}{aS aB:Addr}{p:Int}{x:Str}{pa:Addr}{ps:1 V}{H:Hp}(B:xb K mg aS aB)(pp:p∈cM)(oU:H pa=13 ps)(A:zA K p x ps H D.rt):FJ K aB D [0<|2 p,0<|.str x,8 pa] H:=by
 unfold FJ;cases A with
 |bo a b l r bh l' r' cG e hx hp hf iq b1 b2 b3 b4 he z1 z2 hR j7 q=>
  subst hx hp;refine#[_,9,9,_,9,r8 tw1 #[_,9,9,_,9,Fl ?_]];exact#[_,9,_,9,pa,_,0,_,9,9,.of oU,cm (j:=0) rfl,_,9,pa,_,1,_,9,9,.of oU,cm (j:=1) rfl,p,a,b,l,r,bh,l',r',cG,e,9,pp,hf,iq,b1,b2,b3,b4,he,z1,z2,hR,j7,q]
 |bg a b l m bh r' cG e hx hp hf iq b1 b2 b4 he z1 z2 hR j7 q=>
  subst hx hp;refine#[_,9,9,_,9,r8 tw2 #[_,9,9,_,9,r8 tw3 #[_,9,9,_,9,Fl ?_]]];exact#[_,9,_,9,pa,_,0,_,9,9,.of oU,cm (j:=0) rfl,_,9,pa,_,1,_,9,9,.of oU,cm (j:=1) rfl,p,a,b,l,m,bh,r',cG,e,9,pp,hf,iq,b1,b2,b4,he,z1,z2,hR,j7,q]
 |old A=>
  cases A with
  |back a l r e bh hx hp hf hl iw he hz hR q=>
   subst hx hp;refine#[_,9,9,_,9,Fl ?_];exact#[_,9,_,9,pa,_,0,_,9,9,.of oU,cm (j:=0) rfl,p,a,l,r,e,bh,9,pp,hf,hl,iw,he,hz,hR,q]
  |times n hx hp q=>
   subst hx hp;refine#[_,9,9,_,9,r8 ts1 #[_,9,9,_,9,r8 ts2 #[_,9,9,_,9,r8 ts3 #[_,9,9,_,9,Fl ?_]]]];refine#[_,9,pa,_,0,_,9,9,.of oU,cm (j:=0) rfl,(by show 11 2;decide),λt1 g1=>#[(by show 11 1;decide),λt2 g2=>#[(by show 11 3;decide),λt3 g3=>?_]]];exact q t3 _ ((bc.upd g1).trans<|(bc.upd g2).trans<|.upd g3) #[t2,[3 t1],.of bq,(bc.upd g3).bK<|.of bq,.cons (oG (r:=[1,n]) ((bc.upd g3).bK<|(bc.upd g2).bK<|.of bq)) .nil]
  |box l r bh hx q=>
   let[n1,n2,n3,n4]:=adE _ hx;refine#[_,9,9,_,9,r8 n1 #[_,9,9,_,9,r8 n2 #[_,9,9,_,9,r8 n3 #[_,9,9,_,9,r8 n4 ?_]]]];let[_,t,e,ht]:=B.at_ hx;refine#[_,9,(by show 11 1;decide),λt1 g1=>#[t1,x,l,r,bh,9,.of bq,hx,λv H1 s1 hv=>?_]];refine#[_,9,x,_,9,9,e,(by show 11 1;decide),λt2 g2=>#[v,t2,_,_,9,9,(bc.upd g2).bK hv,.of bq,(by show 11 (2+1);decide),λt3 H3 s3 LB=>?_]];let[RS,k1,k2]:=ht H3;exact q t3 H3 ((bc.upd g1).trans<|s1.trans<|(bc.upd g2).trans s3) #[t,RS,LB,k1,k2]
def aej{aS aB f fB fS fT fW:Addr}{fd vk jt ku vz:FuncData}(F:cL K "form" "form" J8 f fd)(B:xb K mg aS aB)
  (GB:bQ P w K mg base bX 04 fB vk ["p","one"] (Ly K)) (kB:Kp K fB) (bB:Binds K vk ["p","one"] []) (mB:Mg mg "form_of_back" fB)
  (GS:bQ P w K mg base bX 04 fS jt ["p","one","other"] (LD K)) (kS:Kp K fS) (bS:Binds K jt ["p","one","other"] []) (mS:Mg mg "form_of_beside" fS)
  (GT:bQ P w K mg base bX 04 fT ku ["p","one","other"] (LH K)) (kT:Kp K fT) (bT:Binds K ku ["p","one","other"] []) (mT:Mg mg "form_of_then" fT)
  (GW:bQ P w K mg base bX 06 fW vz ["words"] (Fi K)) (kW:Kp K fW) (bW:Binds K vz ["words"] []) (mW:Mg mg "wires" fW):bQ P w K mg base bX 07 f fd ["p","word","parts"] (Te K):=by
 refine 17 adF 24 ?_
 .let[p,x,pa,ps,rfl,_]:=h;rfl
 .let[p,x,pa,ps,rfl,pp,oU,D]:=h;let LO:eU 04 _:=hr.mono 16;refine#[FJ K aB,?_,?_]
  .unfold FJ;refine bz ?_ ?_
   .refine dq ?_ ?_ eP
    .exact cQ e8 (pv 1) c7<|cO _
    .refine bN ?_;refine cJ (te:=Tf K) ?_;exact cY GB LO 9 mB kB bB .nil cZ<|10 0<|bf (bZ (dC K 9) (pv 2) br) bj
   refine bz ?_ ?_
   .refine dq ?_ ?_ eP
    .exact cQ e8 (pv 1) c7<|cO _
    .refine bN ?_;refine cJ (te:=Tg K) ?_;exact cY GS LO 9 mS kS bS .nil cZ<|10 0<|bf (bZ (dC K 9) (pv 2) br)<|bf (bZ (dC K 9) (pv 2) br) bj
   refine bz ?_ ?_
   .refine dq ?_ ?_ eP
    .exact cQ e8 (pv 1) c7<|cO _
    .refine bN ?_;refine cJ (te:=Th K) ?_;exact cY GT LO 9 mT kT bT .nil cZ<|10 0<|bf (bZ (dC K 9) (pv 2) br)<|bf (bZ (dC K 9) (pv 2) br) bj
   refine bz ?_ ?_
   .refine dq ?_ ?_ eP
    .exact cQ e8 (pv 1) c7<|cO _
    .refine bN ?_;refine cJ (te:=LM K) ?_;unfold LM;refine eF ?_;refine bf br ?_ ?_
     .refine bf br ?_ ?_
      .refine bf ?_ bj ?_
       .refine eF ?_;refine bf ?_ bj ?_
        .refine eF ?_;refine bf br ?_ ?_
         .refine bf ?_ bj ?_
          .exact bZ (dC K 9) (pv 2) br
          .rfl
         .exact LC
        .exact SY
       .exact SY
      .exact LC
     .exact LC
   refine bN ?_;refine cJ (te:=LN K aB) ?_;unfold LN;refine bI (jY K 9) ?_ ?_
   .exact cY GW hr 9 mW kW bW .nil cZ<|bf (eF<|10 1 bj) bj
   .refine eF ?_;refine bf ?_ bj ?_
    .exact QO B.adz (rC (v:=3 _) rfl B.nmB rfl) (pv 1) λ_ _=>9
    .rfl
  .exact aei B pp oU D
end
inductive Drw where
 |box (x:Str) (l r:Nat) (bh:LL)
 |times (n:Int)
 |back (d:Drw)
 |bo (a b:Drw)
 |bg (a b:Drw)
namespace Drw
noncomputable def aY:Drw->1 V
 |box x _ _ _=>[.str x]
 |times n=>[.str "times",2 n]
 |back d=>.str "back"::d.aY
 |bo a b=>.str "beside"::(a.aY++b.aY)
 |bg a b=>.str "then"::(a.aY++b.aY)
noncomputable def cE:Drw->Nat×Nat
 |box _ l r _=>(l,r)
 |times _=>(1,1)
 |back d=>(d.cE.2,d.cE.1)
 |bo a b=>(a.cE.1+b.cE.1,a.cE.2+b.cE.2)
 |bg a b=>(a.cE.1,b.cE.2)
noncomputable abbrev dZ(d:Drw):Nat:=d.cE.1
noncomputable abbrev dE(d:Drw):Nat:=d.cE.2
def wf(p:Int):6 Drw
 |box x l r bh=>(x,l,r,bh)∈jJ
 |times n=>0<=n/\n<p
 |back d=>d.wf p
 |bo a b=>a.wf p/\b.wf p
 |bg a b=>a.wf p/\b.wf p/\a.dE=b.dZ
noncomputable def bh(p:Int):Drw->LL
 |box _ _ _ bh=>bh
 |times n=>[[1,n]]
 |back d=>eQ p ((d.bh p).map<|lK d.dZ d.dE)
 |bo a b=>eQ p (qK a.dZ a.dE b.dZ b.dE (a.bh p)<|b.bh p)
 |bg a b=>p8 p a.dZ a.dE b.dE (a.bh p) (b.bh p)
def pos(d:Drw):1<=23:=by cases d<;>simp[aY]
end Drw
def Ti:∀e∈jJ,e.2.1<=2/\e.2.2.1<=2/\e.2.2.2.length<=2/\∀r∈e.2.2.2,r.length=e.2.1+e.2.2.1/\∀x∈r,0<=x/\x<2:=by decide +kernel
namespace Drw
theorem jC{p:Int}:∀{d:Drw},d.wf p->d.dZ<=23+1/\d.dE<=23+1
 |box x l r bh,h=>by
  let[h1,h2,_]:=Ti _ h;exact#[h1,h2]
 |times n,_=>by simp[dZ,dE,cE,aY]
 |back d,h=>by
  let:=jC (d:=d) h
  simp only[dZ,dE,cE,aY,eX]at this |-;lia
 |bo a b,h=>by
  let h1:=jC (d:=a) h.1;let h2:=jC (d:=b) h.2;simp only[dZ,dE,cE,aY,eX,cb]at h1 h2 |-;lia
 |bg a b,h=>by
  let h1:=jC (d:=a) h.1;let h2:=jC (d:=b) h.2.1;simp only[dZ,dE,cE,aY,eX,cb]at h1 h2 |-;lia
def sm:6 Drw
 |back d=>d.sm
 |bo a b=>a.sm/\b.sm/\a.dZ+b.dZ<=100/\a.dE+b.dE<=100
 |bg a b=>a.sm/\b.sm
 |_=>True
theorem zC{p:Int}:∀{d:Drw},d.wf p->23<=99->d.sm
 |box ..,_,_=>trivial
 |times _,_,_=>trivial
 |back d,h,hl=>zC (d:=d) h (by simp only[aY,eX]at hl;lia)
 |bo a b,h,hl=>by
  let hf:=jC (d:=bo a b) h;simp only[dZ,dE,cE]at hf;let nT:=hl;simp only[aY,eX,cb]at nT;exact#[zC h.1 7,zC h.2 7,by simp only[dZ];lia,by simp only[dE];lia]
 |bg a b,h,hl=>by
  simp only[aY,eX,cb]at hl;exact#[zC h.1 7,zC h.2.1 7]
theorem good{p:Int}(pp:p∈cM):∀{d:Drw},d.wf p->d.sm->d.dZ<=100/\d.dE<=100/\(d.bh p).length<=400/\cC p (d.dZ+d.dE) (d.bh p)
 |box x l r bh,h,_=>by
  let[p2,_]:=gK p pp;let[h1,h2,h3,h4]:=Ti _ h;refine#[eh h1 16,eh h2 16,eh h3 16,λr hr=>#[(h4 r hr).1,λx hx=>?_]]
  let:=(h4 r hr).2 x hx
  lia
 |times n,h,_=>by
  let[p2,_]:=gK p pp;refine#[by show 1<=100;decide,by show 1<=100;decide,by show 1<=400;decide,λr hr=>?_];rw[cT.mp hr];refine#[9,λx hx=>?_];rcases(eK.mp hx)with z|z
  .subst z;lia
  .rw[cT.mp z];exact h
 |back d,h,hl=>by
  let[a1,a2,a3,a4]:=good pp (d:=d) h hl;let hS:cC p (d.dE+d.dZ) ((d.bh p).map<|lK d.dZ d.dE):=λx hx=>by
   let[y,hy,e]:=dF.mp hx;rw[<- e];exact Fj (x:=0) (a4 y hy)
  let:=Ei hS
  exact#[a2,a1,eh this 7,(lD pp hS).rws]
 |bo a b,h,hl=>by
  let[p2,_]:=gK p pp;let[a1,a2,a3,a4]:=good pp (d:=a) h.1 hl.1;let[b1,b2,b3,b4]:=good pp (d:=b) h.2 hl.2.1;let hS:=Fu (x:=0) (by lia) a4 b4;let hz:=Ei hS;let h3:=hl.2.2.1;let h4:=hl.2.2.2;exact#[h3,h4,eh hz 7,(lD pp hS).rws]
 |bg a b,h,hl=>by
  let[a1,a2,a3,a4]:=good pp (d:=a) h.1 hl.1;let[b1,b2,b3,b4]:=good pp (d:=b) h.2.1 hl.2;let b4:cC p (a.dE+b.dE) (b.bh p):=by rw[h.2.2];exact b4
  let hz:=ad3 (x:=0) pp a4 b4;exact#[a1,b2,eh hz 7,Tc (x:=0) pp a4 b4]
end Drw
inductive Itm where
 |num (n:Int)
 |bp (d:Drw)
namespace Itm
noncomputable def aY:Itm->1 V
 |num n=>[2 n]
 |bp d=>d.aY
noncomputable def head:Itm->V
 |num n=>2 n
 |bp (.box x _ _ _)=>.str x
 |bp (.times _)=>.str "times"
 |bp (.back _)=>.str "back"
 |bp (.bo _ _)=>.str "beside"
 |bp (.bg _ _)=>.str "then"
noncomputable def kids:Itm->1 Itm
 |num _=>[]
 |bp (.box _ _ _ _)=>[]
 |bp (.times n)=>[num n]
 |bp (.back d)=>[bp d]
 |bp (.bo a b)=>[bp a,bp b]
 |bp (.bg a b)=>[bp a,bp b]
def sj(t:Itm):t.aY=t.head::t.kids.flatMap aY:=by
 cases t with
 |num n=>rfl
 |bp d=>cases d<;>simp[aY,head,kids,Drw.aY]
def pos(t:Itm):1<=t.aY.length:=by rw[sj];simp
def wf(p:Int):6 Itm
 |num _=>True
 |bp d=>d.wf p/\d.sm
def aek{p:Int}{t:Itm}(h:t.wf p):∀u∈t.kids,u.wf p:=by
 cases t with
 |num n=>intro u hu;cases hu
 |bp d=>
  let[h1,h2]:=h;cases d with
  |box=>intro u hu;cases hu
  |times n=>intro u hu;rw[cT.mp hu];exact True.intro
  |back d=>
   intro u hu;rw[cT.mp hu];exact#[h1,h2]
  |bo a b=>
   intro u hu;rcases(eK.mp hu)with z|z
   .rw[z];exact#[h1.1,h2.1]
   .rw[cT.mp z];exact#[h1.2,h2.2.1]
  |bg a b=>
   intro u hu;rcases(eK.mp hu)with z|z
   .rw[z];exact#[h1.1,h2.1]
   .rw[cT.mp z];exact#[h1.2.1,h2.2]
end Itm
noncomputable def iS:1 Itm->Nat->1 Itm
 |ts,0=>ts
 | [],_+1=>[]
 |t::ts,i+1=>iS (t.kids++ts) i
def LP(i:Nat):iS [] i=[]:=by cases i<;>rfl
theorem FK:∀(i:Nat)(ts:1 Itm),(iS ts i).flatMap Itm.aY=(ts.flatMap Itm.aY).drop i
 |0,ts=>rfl
 |i+1,[]=>rfl
 |i+1,t::ts=>by
  show(iS (t.kids++ts) i).flatMap Itm.aY=_;rw[FK i,xP,pe,Itm.sj,xJ,List.drop_succ_cons]
theorem Tj:∀(i:Nat)(ts:1 Itm),iS ts (i+1)=iS (iS ts i) 1
 |0,ts=>rfl
 |i+1,[]=>by rw[LP,LP];rfl
 |i+1,t::ts=>by
  show iS (t.kids++ts) (i+1)=iS (iS (t.kids++ts) i) 1;exact Tj i _
theorem Tn{p:Int}:∀(i:Nat){ts:1 Itm},(∀t∈ts,t.wf p)->∀t∈iS ts i,t.wf p
 |0,ts,h=>h
 |i+1,[],h=>by intro t ht;rw[LP]at ht;cases ht
 |i+1,t::ts,h=>Tn i (ts:=t.kids++ts) λu hu=>by
  rcases(eB.mp hu)with z|z
  .exact Itm.aek (h t du) u z
  .exact h u<|gq _ z
def LQ{ts:1 Itm}{i:Nat}(h:i<(ts.flatMap Itm.aY).length):∃t r,iS ts i=t::r/\(ts.flatMap Itm.aY)[i]?=0 t.head/\iS ts (i+1)=t.kids++r:=by
 let e:=FK i ts;cases hs:iS ts i with
 |nil=>
  rw[hs]at e
  let:=aj List.length e
  simp only[List.flatMap_nil,List.length_nil,dU]at this;lia
 |cons t r=>
  refine#[t,r,9,?_,by rw[Tj,hs];rfl];rw[hs,pe,Itm.sj,xJ]at e;let z:((ts.flatMap Itm.aY).drop i)[0]?=0 t.head:=by rw[<- e];rfl
  rwa[vR,Nat.add_zero]at z
theorem LU:∀ts:1 Itm,ts.length<=(ts.flatMap Itm.aY).length
 | []=>iL _
 |t::ts=>by
  let:=LU ts
  let:=t.pos
  rw[pe,cb,eX];lia
def ael{ts:1 Itm}:iS ts (ts.flatMap Itm.aY).length=[]:=by
 let e:=LU<|iS ts (ts.flatMap Itm.aY).length;rw[FK,List.drop_length]at e;exact List.eq_nil_of_length_eq_zero<|Nat.le_zero.mp e
def aem{ts:1 Itm}{i:Nat}:(iS ts i).length<=(ts.flatMap Itm.aY).length:=by
 let e:=LU<|iS ts i;rw[FK,dU]at e;lia
end S21
namespace S21
open PySem L2 Bw
variable{D L:LL}{a b:Drw}{f u v y:Fn}{j m n r' x:Nat}{ls:1 Nat}{p:Int}{row:4}{s:Nat->7 (Int×Nat)}
def aen:∀e∈jJ,jI e.1=0:=(adO)
def aeo:jI "beside"=2:=by decide +kernel
def aep:jI "then"=2:=by decide +kernel
def aeq:∀e∈jJ,mx (.str e.1) (.str "late")=false:=by decide +kernel
def FN:mx (.str "back") (.str "late")=false/\mx (.str "beside") (.str "late")=false/\mx (.str "then") (.str "late")=false/\mx (.str "times") (.str "late")=false:=by decide +kernel
def aer(n:Int):mx (2 n) (.str "late")=false:=(rfl)
theorem Drw.zD{p:Int}:∀{d:Drw},d.wf p->∀v∈d.aY,rN v=6/\mx v (.str "late")=false
 | .box x l r bh,h=>λv hv=>by
  rw[cT.mp hv];exact#[9,aeq _ h]
 | .times n,_=>λv hv=>by
  rcases(eK.mp hv)with z|z
  .rw[z];exact#[9,FN.2.2.2]
  .rw[cT.mp z];exact#[9,aer n]
 | .back d,h=>λv hv=>by
  rcases(eK.mp hv)with z|z
  .rw[z];exact#[9,FN.1]
  .exact Drw.zD (d:=d) h v z
 | .bo a b,h=>λv hv=>by
  rcases(eK.mp hv)with z|z
  .rw[z];exact#[9,FN.2.1]
  .rcases(eB.mp z)with z|z
   .exact Drw.zD (d:=a) h.1 v z
   .exact Drw.zD (d:=b) h.2 v z
 | .bg a b,h=>λv hv=>by
  rcases(eK.mp hv)with z|z
  .rw[z];exact#[9,FN.2.2.1]
  .rcases(eB.mp z)with z|z
   .exact Drw.zD (d:=a) h.1 v z
   .exact Drw.zD (d:=b) h.2.1 v z
def B4(K:Frag)(p:Int)(H:Hp):Itm->6 V
 | .num n,v=>v=2 n
 | .bp d,v=>∃a,v=3 a/\gk K H a d.dZ d.dE (d.bh p)
inductive jL(K:Frag)(p:Int)(H:Hp):1 Itm->6 (1 V) where
 |nil:jL K p H [] []
 |cons {t:Itm} {ts:1 Itm} {v:V} {vs:1 V} (h:B4 K p H t v) (r:jL K p H ts vs):jL K p H (t::ts) (v::vs)
section
variable{K:Frag}{p:Int}{H H':Hp}
def B4.tup{t:Itm}{v:V}(h:B4 K p H t v)(s:eI H H'):B4 K p H' t v:=by
 cases t with
 |num n=>exact h
 |bp d=>
  let[a,e,hf]:=h;exact#[a,e,hf.tup s]
def jL.tup{ts:1 Itm}{vs:1 V}(h:jL K p H ts vs)(s:eI H H'):jL K p H' ts vs:=by
 induction h with
 |nil=>exact .nil
 |cons h r ih=>exact .cons (h.tup s) ih
def jL.len{ts:1 Itm}{vs:1 V}(h:jL K p H ts vs):vs.length=ts.length:=by
 induction h with
 |nil=>rfl
 |cons h r ih=>rw[eX,eX,ih]
theorem jL.split:∀{ts us:1 Itm}{vs:1 V},jL K p H (ts++us) vs->∃xs ys,vs=xs++ys/\jL K p H ts xs/\jL K p H us ys
 | [],us,vs,h=>#[[],vs,9,.nil,h]
 |t::ts,us,_,.cons h r=>by
  let[xs,ys,e,h1,h2]:=jL.split (ts:=ts) r;exact#[_::xs,ys,by rw[e];rfl,.cons h h1,h2]
end
def To(K:Frag)(Pt:Addr):Sp:=λvs H Q _=>∃(p:Int)(aw:Addr)(d:Drw),vs=[2 p,3 aw]/\p∈cM/\d.wf p/\d.sm/\23<=200/\bu K H aw d.aY/\oI H Pt (zq qJ) zr/\
 ∀td ba v H',bc (del Pt H) H'->oI H' Pt (zq qJ) zr->H' td=0 (.dK ba)->dX ba (Sum.inl 0)=8 v->gk K H' v d.dZ d.dE (d.bh p)->Q (3 td) H'
def aes{c Pt f fL fA fM:Addr}{fd mY je i7:FuncData}(F:cL K "forms" "forms" md f fd)(jk:fd.code=3 c)(C:CodeHd base c Pt)(BB:uY mg base)
  (GL:bQ P w K mg base bX 1 fL mY ["words"] (S3 K)) (kL:Kp K fL) (bL:Binds K mY ["words"] []) (mL:Mg mg "refuse_late" fL)
  (GA:uZ P w K mg base 09 fA je ["words","made"] (Fb 08 P w K mg base)) (kA:Kp K fA) (bA:Binds K je ["words","made"] []) (mA:Mg mg "all_folded" fA)
  (GM:bQ P w K mg base bX 07 fM i7 ["p","word","parts"] (Te K)) (kM:Kp K fM) (bM:Binds K i7 ["p","word","parts"] []) (mM:Mg mg "form" fM) :
  bQ P w K mg base bX 10 f fd ["p","words"] (To K Pt):=by
 refine F.okC adR 24 λcq A outer s H vs Q E hcv hr h=>?_
 .let[p,aw,d,rfl,_]:=h;rfl
 .let[p,aw,d,rfl,pp,hd,LV,j8,hw,vA,q]:=h;let CY:cq=3 c:=hcv.symm.trans jk;subst CY;let i6:eU 1 _:=hr.mono 16;refine#[_,bz (jT<|cY GL i6 9 mL kL bL .nil cZ<|10 1 bj)<|bN<|cJ<|DW GA hr 9 mA kA bA<|10 1<|bf (abq (c:=c) (Pt:=Pt) (cl:=B1 22) rfl C BB adL) bj,?_];let[pst,hP]:=vA.tab;let wR:=Drw.zD hd;refine#[_,9,aw,_,9,hw,gF.mpr λv hv=>(wR v hv).1,List.any_eq_false.mpr λv hv=>by rw[(wR v hv).2];decide,?_];refine#[_,9,vA,λfl HL JP smt aet hLF aZ sI I=>?_];let sL:=DU.same smt;let uE:∃u,RelV (2 p) u/\sI.heap.IsCell (B0 22) (0 u)/\HL (B0 22)=8:=by
   let[mm,hn,hl]:=I.loc;let[u,r,l]:=hl 0 "p" (2 p) 9 9<|.inr 18;rcases l with⟨jm,_⟩|⟨_,c',ja,uE⟩
   .exact absurd (show(cj md).names.lookup ("p":Str)=0 .local from jm) 19
   .let tq:(cellsFrom (22+1) (cj md).names []).lookup ("p":Str)=0 c':=ja;rw[S6]at tq;cases tq;exact#[u,r,uE,I.oz _ _ ja]
  let ew:([Itm.bp d]).flatMap Itm.aY=d.aY:=by simp[Itm.aY]
  let B5:∀t∈[Itm.bp d],t.wf p:=λt ht=>by rw[cT.mp ht];exact#[hd,LV]
  refine#[aw,fl,d.aY,λvs H' Q=>∃(i:Int)(x:Str)(pa:Addr)(ps:1 V),vs=[2 i,.str x,3 pa]/\H' pa=13 ps/\zA K p x ps H' Q,λi vs H=>jL K p H (iS [.bp d] i) vs.reverse,_,9,uk.all ?_];refine#[sL.bK<|bu.del hP hw,j8,?_,?_,λi vs H1 H2 h tp=>h.tup tp,λi vs H1 h=>?_,λi hi=>?_,λi n vs H1 h g=>?_,λi x vs H1 h g=>?_,?_,λtd ba vs v H' s' h1 h2 h3=>?_]
  .refine adw (k:=07) (names:=["p"]) (caps:=[2 p]) (adM I.ok.inj) hLF (λ_ _ _ us hu=>match us,hu with | [_,_,_],_=>rfl) (λj y hj=>?_) rfl (λvs H' Q ⟨i,x,pa,ps,e,_⟩=>by rw[e];rfl) (λc' A' ai1 s' H' vs Q' iw i5 hQ'=>?_)
   .match j,hj with
    |0,hj=>
     let e : "p"=y:=dJ hj;subst e;let[u,r,h4,h5]:=uE;exact#[_,_,u,9,9,r,h4,h5]
    |j+1,hj=>simp at hj
   .let[i,x,pa,ps,rfl,oU,hF]:=hQ';refine#[_,cY GM iw 9 mM kM bM .nil cZ<|10 3<|10 1<|10 2 bj,?_];exact#[_,9,_,9,_,9,p,x,pa,ps,9,pp,oU,hF]
  .show jL K p HL (iS [.bp d] 23) _;let e:=ael (ts:=[.bp d]);rw[ew]at e;rw[e];exact .nil
  .let e:=h.len;let z:=aem (ts:=[.bp d]) (i:=i);rw[Ae]at e;rw[ew]at z;lia
  .let[t,r,e1,e2,e3]:=LQ (ts:=[.bp d]) (i:=i) (by rw[ew];exact hi);rw[ew]at e2;rw[e2];cases t with
   |num n=>exact .inr #[n,9]
   |bp d'=>cases d'<;>exact .inl #[_,9]
  .let[t,r,e1,e2,e3]:=LQ (ts:=[.bp d]) (i:=i) (by rw[ew];exact(eA.mp h).1);rw[ew,h]at e2;cases t with
   |num m=>
    let e2:n=m:=V.int.inj<|dJ e2;subst e2;let g:jL K p H1 (iS [.bp d]<|i+1) vs.reverse:=g;rw[e3]at g;show jL K p H1 (iS [.bp d] i) (vs++[V.int n]).reverse;rw[e1,sR];exact .cons 9 g
   |bp d'=>cases d'<;>cases e2
  .let[t,r,e1,e2,e3]:=LQ (ts:=[.bp d]) (i:=i) (by rw[ew];exact(eA.mp h).1);rw[ew,h]at e2;let vB:t.wf p:=Tn i B5 t (by rw[e1];exact du);let g:jL K p H1 (iS [.bp d]<|i+1) vs.reverse:=g;rw[e3]at g;let[xs,ys,ev,g1,g2]:=g.split;let zE:vs=ys.reverse++xs.reverse:=by rw[<- sR,<- ev,CO]
   refine#[ys.reverse,xs,zE,?_,?_]
   .let el:=g1.len;rw[el];cases t with
    |num m=>cases e2
    |bp d'=>
     cases d' with
     |box x' l' r' cG=>
      let e2:x=x':=V.str.inj<|dJ e2;subst e2;exact(aen _ vB.1).symm
     |times n=>let e2:x=_:=V.str.inj<|dJ e2;subst e2;exact adQ.symm
     |back d'=>let e2:x=_:=V.str.inj<|dJ e2;subst e2;exact adP.symm
     |bo a b=>let e2:x=_:=V.str.inj<|dJ e2;subst e2;exact aeo.symm
     |bg a b=>let e2:x=_:=V.str.inj<|dJ e2;subst e2;exact aep.symm
   .intro pa H2 Q' tp hp hq;refine#[_,_,pa,_,9,hp,?_];let g1:=g1.tup tp;let g2:=g2.tup tp;let fin:∀v H3,bc H2 H3->B4 K p H3 t v->Q' v H3:=λv H3 s3 hv=>hq v H3 s3 (by
     show jL K p H3 (iS [.bp d] i) _;rw[e1,sR,CO];exact .cons hv<|g2.tup s3.tup)
    cases t with
    |num m=>cases e2
    |bp d'=>
     let[xh,cX]:=vB;cases d' with
     |box x' l' r' cG=>
      let e2:x=x':=V.str.inj<|dJ e2;subst e2;exact .old<|.box _ _ _ xh λv H3 s3 hv=>fin _ H3 s3 #[v,9,hv]
     |times n=>
      let e2:x=_:=V.str.inj<|dJ e2;subst e2;cases g1 with
      |cons h1 r1=>
       cases r1;let h1:_=V.int n:=h1;subst h1;exact .old<|.times n 9 9 λv H3 s3 hv=>fin _ H3 s3 #[v,9,hv]
     |back d'=>
      let e2:x=_:=V.str.inj<|dJ e2;subst e2;cases g1 with
      |cons h1 r1=>
       cases r1;let[a,rfl,hf]:=h1;let[b1,b2,b3,b4]:=Drw.good pp (d:=d') xh cX;exact .old<|.back a _ _ 0 _ 9 9 hf b1 b2 7 7 b4 λv H3 s3 hv=>fin _ H3 s3 #[v,9,hv]
     |bo a b=>
      let e2:x=_:=V.str.inj<|dJ e2;subst e2;cases g1 with
      |cons h1 r1=>
       cases r1 with
       |cons h2 r2=>
        cases r2;let[a1,rfl,hf]:=h1;let[a2,rfl,ni]:=h2;let[b1,b2,b3,b4]:=Drw.good pp (d:=a) xh.1 cX.1;let[c1,c2,c3,c4]:=Drw.good pp (d:=b) xh.2 cX.2.1;exact .bo a1 a2 _ _ _ _ _ _ 0 9 9 hf ni b1 b2 c1 c2 7 b3 c3 b4 c4 λv H3 s3 hv=>fin _ H3 s3 #[v,9,hv]
     |bg a b=>
      let e2:x=_:=V.str.inj<|dJ e2;subst e2;cases g1 with
      |cons h1 r1=>
       cases r1 with
       |cons h2 r2=>
        cases r2;let[a1,rfl,hf]:=h1;let[a2,rfl,ni]:=h2;let[b1,b2,b3,b4]:=Drw.good pp (d:=a) xh.1 cX.1;let[c1,c2,c3,c4]:=Drw.good pp (d:=b) xh.2.1 cX.2;rw[<- xh.2.2]at ni c4;exact .bg a1 a2 _ _ _ _ _ 0 9 9 hf ni b1 b2 c2 7 b3 c3 b4 c4 λv H3 s3 hv=>fin _ H3 s3 #[v,9,hv]
  .cases d<;>exact#[_,9]
  .let h3:jL K p H' [.bp d] (vs++[v]).reverse:=h3;rw[sR]at h3;cases h3 with
   |cons hv r=>
    let[a,rfl,hf]:=hv;exact q td ba a H' (sL.trans s') (aet.mono s') h1 h2 hf
def Tp(K:Frag)(Pt:Addr):Sp:=λvs H Q _=>∃(p:Int)(aw:Addr)(d:Drw),vs=[2 p,3 aw]/\p∈cM/\d.wf p/\d.sm/\23<=200/\bu K H aw d.aY/\oI H Pt (zq qJ) zr/\
 ∀v RS H',bc (del Pt H) H'->oI H' Pt (zq qJ) zr->bu K H' v RS->cy K H' RS ((d.bh p).map dB)->Q (3 v) H'
def aeu{Pt f fF:Addr}{fd qM:FuncData}(F:cL K "plain" "plain" J6 f fd)
  (GF:bQ P w K mg base bX 10 fF qM ["p","words"] (To K Pt)) (kF:Kp K fF) (bF:Binds K qM ["p","words"] []) (mF:Mg mg "forms" fF):bQ P w K mg base bX 11 f fd ["p","words"] (Tp K Pt):=by
 refine 17 adS 24 ?_
 .let[p,aw,d,rfl,_]:=h;rfl
 .let[p,aw,d,rfl,pp,hd,LV,j8,hw,vA,q]:=h;refine#[_,bN<|cJ<|bZ (cU K 9) (pK (uN hr) (cY GF hr 9 mF kF bF .nil cZ<|10 0<|10 1 bj) br) br,?_];refine#[_,9,_,9,p,aw,d,9,pp,hd,LV,j8,hw,vA,λtd ba v H' s' hL vn hv hF=>?_];let[tt,RS,h1,h2,h3]:=hF;exact#[td,_,9,hv▸jd.k (k:=Sum.inl 0) vn,v,_,2,_,9,9,h1,cm (j:=2) rfl,q tt RS H' s' hL h2 h3]
def df(s:Nat->7 (Int×Nat))(f:Fn):Fn:=λj=>match s j with
 |some (a,i)=>a*f i
 |none=>0
def aev(h:iZ p u v):iZ p (df s u) (df s v):=(λj=>by
 unfold df;cases s j with
 |none=>exact#[0,17]
 |some a=>
  let:p∣a.1*(u a.2-v a.2):=Hv<|h a.2
  show p∣a.1*u a.2-a.1*v a.2;rwa[rj]at this)
def aew{R R':6 Fn}(h:∀r,R r->Sp p R' (df s r))(hv:Sp p R v):Sp p R' (df s v):=by
 induction hv with
 |zero=>exact Sp.zero.of_eq λj=>by unfold df;cases s j<;>simp
 | @add v r c _ hr ih=>
  refine(ih.plus c<|h r hr).of_eq λj=>?_;unfold df;cases s j with
  |none=>simp
  |some a=>
   show a.1*v a.2+c*(a.1*r a.2)=a.1*(v a.2+c*r a.2);rw[Int.mul_add,<- Int.mul_assoc,<- Int.mul_assoc,vS c]
 |ir _ e ih=>exact .ir ih<|aev e
noncomputable def nq(w:Fn)(m:Nat):LL->1 Nat->Fn
 |r::D,l::ls=>λj=>nq w m D ls j+(if m<=l then w l else 0)*fn r j
 |_,_=>λ_=>0
def Tq{l:Nat}{r:4}(h:∀j,j<l->14 j=0)(hm:m<=l):p7 m r=6:=by
 unfold p7;rw[Bool.not_eq_true',List.any_eq_false];intro x hx;let[i,hi,rfl]:=uC.mp hx;rw[cV]at hi
 let:=h i 7
 rw[List.getElem_take];rw[dG,cD 7]at this;let e:r[i]=0:=this;simp[e]
theorem Tr{p:Int}{w:Fn}{m:Nat}:∀(D:LL)(ls:1 Nat),(∀(i:Nat)(r:4)(l:Nat),D[i]?=0 r->ls[i]?=0 l->∀j,j<l->14 j=0)->Sp p (RS<|D.filter<|p7 m) (nq w m D ls)
 | [],_,_=>.zero
 |_::_,[],_=>.zero
 |r::D,l::ls,h=>by
  let ih:=Tr (p:=p) (w:=w) (m:=m) D ls λi r' l' h1 h2=>h (i+1) r' l' (by simpa using h1) (by simpa using h2);let sub:Sp p (RS<|(r::D).filter<|p7 m) (nq w m D ls):=ih.trans λf ⟨q,hq,e⟩=>.mem #[q,by
   rw[List.filter_cons];split
   .exact gq _ hq
   .exact hq,e]
  unfold nq;by_cases hm:m<=l
  .simp only[hm,if_true];refine Sp.add (w l) sub #[r,?_,9];rw[List.filter_cons,Tq (h 0 r l 9 9) hm,af 9];exact du
  .simp only[hm,if_false,Int.zero_mul,sN];exact sub
theorem Ts{w:Fn}{m j:Nat}:∀(D:LL)(ls:1 Nat),(∀(i:Nat)(r:4),D[i]?=0 r->14 j=0)->nq w m D ls j=0
 | [],_,_=>rfl
 |_::_,[],_=>rfl
 |r::D,l::ls,h=>by
  show nq w m D ls j+_*14 j=0;rw[Ts D ls λi r' hr=>h (i+1) r' (by simpa using hr),h 0 r 9];simp
def aex{w:Fn}{k:Nat}:∀(D:LL)(ls:1 Nat),D.length=ls.length->ls[k]?=0 j->(∀(i:Nat)(r:4),D[i]?=0 r->14 j=if i=k then 1 else 0)->nq w m D ls j=if m<=j then w j else 0:=by
 induction k with
 |zero=>
  intro D ls hl hk h
  match D,ls,hl,hk with
  | [],[],_,hk=>simp at hk
  |r::D,l::ls,_,hk=>
   cases hk;show nq w m D ls j+(if m<=j then w j else 0)*14 j=_
   rw[Ts D ls λi r' hr=>by simpa using h (i+1) r' (by simpa using hr),h 0 r 9];simp
 |succ k ih=>
  intro D ls hl hk h
  match D,ls,hl,hk with
  | [],[],_,hk=>simp at hk
  |r::D,l::ls,hl,hk=>
   show nq w m D ls j+_*14 j=_;rw[ih D ls (by simpa using hl) (by simpa using hk) λi r' hr=>by simpa using h (i+1) r' (by simpa using hr),h 0 r 9];simp
def aey{w:Fn}(E:jB n n D ls)(h:Sp p (RS D) w)(hz:∀j,j<m->p∣w j):Sp p (RS<|D.filter<|p7 m) w:=by
 let s1:Sp p (RS<|D.filter<|p7 m) (nq w m D ls):=Tr D ls λi r l h1 h2=>(E.one i r l h1 h2).2;let s2:Sp p (RS D) (nq w m D ls):=s1.trans λf ⟨q,hq,e⟩=>.mem #[q,(qd.mp hq).1,e];let s3:Sp p (RS D) (λj=>w j + -1*nq w m D ls j):=h.plus (-1) s2;let z:=E.lead.zero (E.sp s3) λl r hl hr=>by
  let[i,h1,h2]:=yJ hr;let e:=aex (w:=w) (m:=m) (k:=i) D ls E.len.symm h2 λi' r' iw=>by
   by_cases ei:i'=i
   .subst ei;rw[af 9];exact(E.one i' r' l iw h2).1
   .rw[ag ei];exact E.alone i i' r' l (λz=>ei z.symm) iw h2
  show p∣w l + -1*nq w m D ls l;rw[e];by_cases hm:m<=l
  .rw[af hm];exact#[0,7]
  .rw[ag hm]
   let:=hz l 7
   simpa using this
 refine .ir s1 λj=>?_
 let:=Int.dvd_neg.mpr<|z j
 rwa[show -(w j + -1*nq w m D ls j)=nq w m D ls j-w j by lia]at this
def Tt{a b:4}:(a++b).getD j 0=if j<a.length then a.getD j 0 else b.getD (j-a.length) 0:=by
 by_cases h:j<a.length
 .rw[af h,dG,i9 h,dG]
 .rw[ag h,dG,jy 7,dG]
def aez{a:4}{k:Nat}:(a.take k).getD j 0=if j<k then a.getD j 0 else 0:=by
 rw[dG,List.getElem?_take];by_cases h:j<k
 .rw[af h,af h,dG]
 .rw[ag h,ag h];rfl
def zF{a:4}{k:Nat}:(a.drop k).getD j 0=a.getD (k+j) 0:=by
 rw[dG,vR,dG]
def Tu{k:Nat}:(16 k (0:Int)).getD j 0=0:=by
 rw[dG,List.getElem?_replicate];split<;>rfl
def jM(l m r':Nat)(j:Nat):7 (Int×Nat):=if j<m then 0 (1,l+j)else if j<m+l then 0 (1,j-m)else if j<m+l+r' then none else 0 (1,j-r')
def kz(l m:Nat)(j:Nat):7 (Int×Nat):=if j<m then 0 (-1,j)else if j<m+l then none else 0 (1,j-l)
def zG(m:Nat)(j:Nat):7 (Int×Nat):=0 (1,m+j)
def Tv{l:Nat}(h:row.length=l+m+x)(j:Nat):fn (vx l m r' row) j=df (jM l m r') (fn row) j:=by
 unfold fn vx df jM;let e1:(row.take l).length=l:=by rw[cV];lia
 let e2:((row.drop l).take m).length=m:=by rw[cV,dU];lia
 simp only[Tt,cb,fg,e1,e2,aez,zF,Tu];by_cases h1:j<m
 .simp only[h1,if_true,show j<m+l by lia,show j<m+l+r' by lia,sP]
 .by_cases h2:j<m+l
  .simp only[h1,h2,if_true,if_false,show j<m+l+r' by lia,show j-m<l by lia,sP]
  .by_cases h3:j<m+l+r'
   .simp only[h1,h2,h3,if_true,if_false]
   .simp only[h1,h2,h3,if_false,sP,show l+m+(j-(m+l+r'))=j-r' by lia]
def aeA(j:Nat):fn (row.drop m) j=df (zG m) (fn row) j:=by
 unfold fn df zG;rw[zF];simp
def Tw{l:Nat}(h:row.length=m+x):iZ p (fn<|vy p l m row) (df (kz l m)<|fn row):=(λj=>by
 unfold fn vy df kz;let e1:((row.take m).map λn=>(-n)%p).length=m:=by rw[bH,cV];lia
 simp only[Tt,cb,fg,e1,zF,Tu];by_cases h1:j<m
 .let e2:((row.take m).map λn=>(-n)%p).getD j 0=(-(row.getD j 0))%p:=by
   let hj:j<(row.take m).length:=by rw[cV];lia
   rw[dG,dR,cD hj,dG,cD (by lia:j<row.length),List.getElem_take];rfl
  simp only[h1,if_true,show j<m+l by lia,e2]
  let:=pH p<|-(row.getD j 0)
  rwa[show -(row.getD j 0)=-1*row.getD j 0 by lia]at this |-
 .by_cases h2:j<m+l
  .simp only[h1,h2,if_true,if_false];exact#[0,7]
  .simp only[h1,h2,if_false,sP,show m+(j-(m+l))=j-l by lia];exact#[0,7])
def aeB{c:Int}(j:Nat):df s (λi=>u i+c*v i) j=df s u j+c*df s v j:=by
 unfold df;cases s j with
 |none=>simp
 |some a=>
  show a.1*(u a.2+c*v a.2)=a.1*u a.2+c*(a.1*v a.2);rw[Int.mul_add,<- Int.mul_assoc,<- Int.mul_assoc,vS c]
def B6{g:4->4}(hg:∀r∈L,iZ p (fn<|g r) (df s<|fn r)):Sp p (RS<|L.map g) f↔∃u,Sp p (RS L) u/\iZ p (df s u) f:=by
 constructor
 .intro h;induction h with
  |zero=>exact#[_,.zero,λj=>#[0,by unfold df;cases s j<;>simp]]
  | @add v r c _ hr ih=>
   let[u,hu,e]:=ih;let[q,hq,rfl]:=hr;let[r0,zf,rfl]:=dF.mp hq;refine#[_,hu.add c #[r0,zf,9],λj=>?_];rw[aeB];let h1:=e j;let h2:p∣c*(fn (g r0) j-df s (fn r0) j):=Hv<|hg r0 zf j;let h3:=Int.dvd_sub h1 h2;rwa[show df s u j-v j-c*(fn (g r0) j-df s (fn r0) j)=df s u j+c*df s (fn r0) j-(v j+c*fn (g r0) j) by rw[rj];lia]at h3
  |ir _ e ih=>
   let[u,hu,e']:=ih;exact#[u,hu,e'.trans e]
 .rintro⟨u,hu,e⟩;refine .ir (aew (s:=s) (R':=RS<|L.map g) (λr ⟨q,hq,er⟩=>?_) hu) e;rw[er];exact .ir (u7<|CN hq)<|hg q hq
def aeC{L':LL}:Sp p (RS<|L++L') f↔∃u v,Sp p (RS L) u/\Sp p (RS L') v/\iZ p (λj=>u j+v j) f:=by
 constructor
 .intro h;induction h with
  |zero=>exact#[_,_,.zero,.zero,λj=>#[0,17]]
  | @add v r c _ hr ih=>
   let[u,v',hu,hv,e]:=ih;let[q,hq,rfl]:=hr;rcases(eB.mp hq)with z|z
   .refine#[_,v',hu.add c #[q,z,9],hv,λj=>?_]
    let:=e j
    dsimp only at this |-;rwa[show u j+c*fn q j+v' j-(v j+c*fn q j)=u j+v' j-v j by lia]
   .refine#[u,_,hu,hv.add c #[q,z,9],λj=>?_]
    let:=e j
    dsimp only at this |-;rwa[show u j+(v' j+c*fn q j)-(v j+c*fn q j)=u j+v' j-v j by lia]
  |ir _ e ih=>
   let[u,v',hu,hv,e']:=ih;exact#[u,v',hu,hv,e'.trans e]
 .rintro⟨u,v,hu,hv,e⟩;let h1:Sp p (RS<|L++L') u:=qy (λr hr=>u7<|o8 _ hr) hu;let h2:Sp p (RS<|L++L') v:=qy (λr hr=>u7<|ji _ hr) hv;exact .ir ((h1.plus 1 h2).of_eq λj=>by rw[sP]) e
def Tx(pp:p∈cM)(h:cC p n L):Sp p (RS<|eQ p L) f↔Sp p (RS L) f:=(#[qy (lD pp h).sub,qy (lD pp h).sup])
section
variable{p:Int}{f:Fn}
def FO(h:∀j,u j=v j):iZ p u v:=(λj=>#[0,by rw[h j];lia])
def Tz{l x':Nat}{bh cG:LL}(h:cC p (l+m+x) bh)(h':cC p (m+r'+x') cG) :
  Sp p (RS<|qL p l m r' bh cG) f↔∃u v,Sp p (RS bh) u/\Sp p (RS cG) v/\iZ p (λj=>df (jM l m r') u j+df (kz l m) v j) f:=by
 unfold qL;rw[aeC];constructor
 .rintro⟨u,v,hu,hv,e⟩;let[u0,hu0,eu]:=(B6 (s:=jM l m r') (λq hq=>FO<|Tv (x:=x) (h q hq).1)).mp hu;let[v0,hv0,ev]:=(B6 (s:=kz l m) (λq hq=>Tw (x:=r'+x')<|by rw[(h' q hq).1];lia)).mp hv;refine#[u0,v0,hu0,hv0,λj=>?_]
  let:=sM (sM (eu j)<|ev j)<|e j
  dsimp only at this |-;rwa[show df (jM l m r') u0 j-u j+(df (kz l m) v0 j-v j)+(u j+v j-f j)=df (jM l m r') u0 j+df (kz l m) v0 j-f j by lia]at this
 .rintro⟨u,v,hu,hv,e⟩;exact#[_,_,(B6 (s:=jM l m r') (λq hq=>FO<|Tv (x:=x) (h q hq).1)).mpr #[u,hu,.refl _ _],(B6 (s:=kz l m) (λq hq=>Tw (x:=r'+x')<|by rw[(h' q hq).1];lia)).mpr #[v,hv,.refl _ _],e]
def TB{r:4}(h:p7 m r=6)(hj:j<m):14 j=0:=by
 unfold p7 at h;rw[Bool.not_eq_true',List.any_eq_false]at h;by_cases hl:j<r.length
 .let hm:r[j]∈r.take m:=uC.mpr #[j,by rw[cV];lia,List.getElem_take ..]
  let:=h _ hm
  rw[dG,cD hl];simpa using this
 .rw[dG,kf 7];rfl
def LW{w:Fn}(hL:∀r∈L,14 j=0)(h:Sp p (RS L) w):p∣w j:=by
 induction h with
 |zero=>exact#[0,17]
 | @add v r c _ hr ih=>
  let[q,hq,rfl]:=hr;show p∣v j+c*q.getD j 0;rw[hL q hq];simpa using ih
 |ir _ e ih=>
  let:=Int.dvd_sub ih<|e j
  rename_i u v _
  rwa[show v j-(v j-u j)=u j by lia]at this
def TC{l:Nat}(v:Fn)(h:j<m):df (kz l m) v j=-v j:=by
 unfold df kz;simp only[h,if_true];lia
def TF{l:Nat}(u:Fn)(h:j<m):df (jM l m r') u j=u (l+j):=by
 unfold df jM;simp only[h,if_true,sP]
def aeD{l x' N:Nat}{bh cG:LL}(pp:p∈cM)(h:cC p (l+m+x) bh)(h':cC p (m+r'+x') cG)(hN:cC p N (qL p l m r' bh cG)) :
  Sp p (RS<|p8 p l m r' bh cG) f↔∃u v,Sp p (RS bh) u/\Sp p (RS cG) v/\(∀j,j<m->p∣u (l+j)-v j)/\iZ p (λj=>df (jM l m r') u (m+j)+df (kz l m) v (m+j)) f:=by
 let RO:=lD pp hN;let[ls,E]:=RO.km;unfold p8;rw[B6 (s:=zG m) (λq hq=>FO λj=>aeA j)];constructor
 .rintro⟨w,hw,e⟩;let hz:∀j,j<m->p∣w j:=λj hj=>LW (λr hr=>TB (qd.mp hr).2 hj) hw;let hw':Sp p (RS<|qL p l m r' bh cG) w:=(Tx pp hN).mp<|qy (λr hr=>u7 (qd.mp hr).1) hw;let[u,v,hu,hv,ew]:=(Tz h h').mp hw';refine#[u,v,hu,hv,λj hj=>?_,λj=>?_]
  .let h1:=ew j;dsimp only at h1;rw[TC v hj,TF u hj]at h1
   let:=sM h1<|hz j hj
   rwa[show u (l+j) + -v j-w j+w j=u (l+j)-v j by lia]at this
  .let h1:=ew<|m+j;let h2:=e j;let h3:df (zG m) w j=w (m+j):=by unfold df zG;simp
   rw[h3]at h2
   let:=sM h1 h2
   dsimp only at this |-;rwa[show df (jM l m r') u (m+j)+df (kz l m) v (m+j)-w (m+j)+(w (m+j)-f j)=df (jM l m r') u (m+j)+df (kz l m) v (m+j)-f j by lia]at this
 .rintro⟨u,v,hu,hv,hm,e⟩;refine#[λj=>df (jM l m r') u j+df (kz l m) v j,?_,?_]
  .refine aey E ((Tx pp hN).mpr<|(Tz h h').mpr #[u,v,hu,hv,.refl _ _]) λj hj=>?_;show p∣df (jM l m r') u j+df (kz l m) v j;rw[TC v hj,TF u hj]
   let:=hm j hj
   rwa[show u (l+j) + -v j=u (l+j)-v j by lia]
  .refine(FO λj=>?_).trans e;unfold df zG;simp
end
def Ok(p:Int)(d:Drw):Prop:=d.wf p/\d.sm
def Ok.back{p:Int}{d:Drw}(o:Ok p (.back d)):Ok p d:=(#[o.1,o.2])
def Ok.TH(o:Ok p (.bo a b)):Ok p a:=(#[o.1.1,o.2.1])
def Ok.TJ(o:Ok p (.bo a b)):Ok p b:=(#[o.1.2,o.2.2.1])
def Ok.TK(o:Ok p (.bg a b)):Ok p a:=(#[o.1.1,o.2.1])
def Ok.TL(o:Ok p (.bg a b)):Ok p b:=(#[o.1.2.1,o.2.2])
theorem LX{α:Type}{f:α->Bool}:∀{D:1 α}{k:Nat},(∀(i:Nat)(r:α),D[i]?=0 r->(f r=6↔k<=i))->D.filter f=D.drop k
 | [],_,_=>by simp
 |r::D,0,h=>by
  let h0:=(h 0 r 9).mpr<|iL _;rw[List.filter_cons,af h0,LX (D:=D) (k:=0) λi q hq=>?_,List.drop_zero,List.drop_zero]
  let:=h (i+1) q hq
  exact#[λ_=>iL _,λ_=>this.mpr<|iL _]
 |r::D,k+1,h=>by
  let h0:¬f r=6:=λz=>absurd ((h 0 r 9).mp z) 7;rw[List.filter_cons,ag h0,LX (D:=D) (k:=k) λi q hq=>?_,List.drop_succ_cons];rw[h (i+1) q hq];lia
theorem TM{m:Nat}:∀{ls:1 Nat},ls.Pairwise (· < ·)->∃k,∀(i l:Nat),ls[i]?=0 l->(m<=l↔k<=i)
 | [],_=>#[0,λi l h=>by simp at h]
 |a::ls,h=>by
  rw[List.pairwise_cons]at h;let[k,hk]:=TM (m:=m) h.2;by_cases c:m<=a
  .refine#[0,λi l hl=>#[λ_=>iL _,λ_=>?_]];cases i with
   |zero=>cases hl;exact c
   |succ i=>let:=h.1 l (dS<|show ls[i]?=0 l from hl);lia
  .refine#[k+1,λi l hl=>?_];cases i with
   |zero=>cases hl;lia
   |succ i=>rw[hk i l hl];lia
def aeE(E:jB n n D ls)(N:Nat)(hN:N+m=n):∃tO,jB N N ((D.filter<|p7 m).map λr=>r.drop m) tO:=by
 let[k,hk]:=TM (m:=m) E.up;let at_:∀(i:Nat)(r:4),D[i]?=0 r->∃l,ls[i]?=0 l:=λi r hr=>by
  let:=(eA.mp hr).1
  exact#[ls[i]'(by rw[E.len];exact this),cD _]
 let ef:D.filter (p7 m)=D.drop k:=LX λi r hr=>by
  let[l,hl]:=at_ i r hr;let[h1,h0]:=E.one i r l hr hl;rw[<- hk i l hl];constructor
  .intro z;by_cases c:m<=l
   .exact c
   .let:=TB z (j:=l) 7
    lia
  .intro c;exact Tq h0 c
 rw[ef];let eD:∀(i:Nat)(q:4),((D.drop k).map λr=>r.drop m)[i]?=0 q->∃r,D[k+i]?=0 r/\q=r.drop m:=λi q hq=>by
  rw[dR,vR]at hq;cases e:D[k+i]? with
  |none=>rw[e]at hq;cases hq
  |some r=>rw[e]at hq;cases hq;exact#[r,9,9]
 let eL:∀(i l:Nat),((ls.drop k).map λl=>l-m)[i]?=0 l->ls[k+i]?=0 (l+m):=λi l hl=>by
  rw[dR,vR]at hl;cases e:ls[k+i]? with
  |none=>rw[e]at hl;cases hl
  |some l'=>
   rw[e]at hl
   let:=(hk _ _ e).mpr 7
   let hl:l' - m=l:=dJ hl;rw[show l+m=l' by lia]
 refine#[(ls.drop k).map λl=>l-m,by simp[E.len],?_,λl hl=>?_,λi q l hq hl=>?_,λi i' q l c8 hq hl=>?_]
 .rw[List.pairwise_map];refine List.Pairwise.imp_of_mem ?_<|E.up.drop (i:=k);intro a b ha hb vj;let[i,hi]:=List.getElem?_of_mem ha;rw[vR]at hi
  let:=(hk _ _ hi).mpr 7
  lia
 .let[i,hi]:=List.getElem?_of_mem hl
  let:=E.lt _<|dS<|eL i l hi
  lia
 .let[r,hr,rfl]:=eD i q hq;let[h1,h0]:=E.one _ r _ hr<|eL i l hl;refine#[by rw[zF,Nat.add_comm];exact h1,λj hj=>?_];rw[zF];exact h0 _ 7
 .let[r,hr,rfl]:=eD i' q hq;rw[zF,Nat.add_comm];exact E.alone _ _ r _ 7 hr<|eL i l hl
def LY(n:Nat)(D:LL)(ls:1 Nat):Bool:=ls.length==D.length&&decide (ls.Pairwise (· < ·))&&ls.all (λl=>decide<|l<n) &&
 (List.range D.length).all λi=>(List.range D.length).all λj=>if i=j then(D.getD j []).getD (ls.getD i 0) 0==1&&(List.range<|ls.getD i 0).all (λt=>(D.getD j []).getD t 0==0)else(D.getD j []).getD (ls.getD i 0) 0==0
def getD_some{α:Type}{L:1 α}{i:Nat}{x d:α}(h:L[i]?=0 x):L.getD i d=x:=by rw[dG,h];rfl
def aeF(h:LY n D ls=6):jB n n D ls:=by
 unfold LY at h;simp only[dM,beq_iff_eq,aK,gF,uz]at h;let[[[g1,g2],g3],h4]:=h;refine#[g1,g2,g3,λi r l hr hl=>?_,λi i' r l c8 hr hl=>?_]
 .let hi:=(eA.mp hr).1
  let:=h4 i hi i hi
  rw[af 9,getD_some hr,getD_some hl]at this;simp only[dM,beq_iff_eq,gF,uz]at this;exact this
 .let hi:=(eA.mp hl).1;let iu:=(eA.mp hr).1
  let:=h4 i 7 i' iu
  rw[ag c8,getD_some hr,getD_some hl]at this;simpa using this
def aeG:∀e∈jJ,LY (e.2.1+e.2.2.1) e.2.2.2 (aa2 e.2.2.2)=6:=by decide +kernel
theorem Drw.km{p:Int}(pp:p∈cM):∀{d:Drw},Ok p d->∃ls,jB (d.dZ+d.dE) (d.dZ+d.dE) (d.bh p) ls
 | .box x l r bh,o=>#[_,aeF<|aeG _ o.1]
 | .times n,_=>#[[0],by
  refine#[9,17,λl hl=>by rw[cT.mp hl];show 0<1+1;decide,λi r l hr hl=>?_,λi i' r l c8 hr hl=>?_]
  .cases i with
   |zero=>cases hr;cases hl;exact#[9,λj hj=>absurd hj 7]
   |succ i=>cases hl
  .cases i with
   |zero=>
    cases i' with
    |zero=>exact absurd 9 c8
    |succ i'=>cases hr
   |succ i=>cases hl]
 | .back d,o=>by
  let[_,_,_,hR]:=Drw.good pp o.back.1 o.back.2;let hS:cC p (d.dE+d.dZ) ((d.bh p).map<|lK d.dZ d.dE):=λx hx=>by
   let[y,hy,e]:=dF.mp hx;rw[<- e];exact Fj (x:=0) (hR y hy)
  exact(lD pp hS).km
 | .bo a b,o=>by
  let[p2,_]:=gK p pp;let[_,_,_,hA]:=Drw.good pp o.TH.1 o.TH.2;let[_,_,_,hB]:=Drw.good pp o.TJ.1 o.TJ.2;let hS:=Fu (x:=0) (by lia) hA hB;let[ls,E]:=(lD pp hS).km;let e:(Drw.bo a b).dZ+(Drw.bo a b).dE=a.dZ+b.dZ+(a.dE+b.dE):=9;refine#[ls,?_];rw[e];exact E
 | .bg a b,o=>by
  let[p2,_]:=gK p pp;let[_,_,_,hA]:=Drw.good pp o.TK.1 o.TK.2;let[_,_,_,hB]:=Drw.good pp o.TL.1 o.TL.2;let hB':cC p (a.dE+b.dE) (b.bh p):=by rw[show a.dE=b.dZ from o.1.2.2];exact hB
  let[ls,E]:=(lD pp<|B3 (x:=0) (by lia) hA hB').km;exact aeE E _ (by show a.dZ+b.dE+a.dE=_;lia)
def Drw.one(pp:p∈cM){d:Drw}(o:Ok p d):eQ p (d.bh p)=d.bh p:=by
 let[_,_,_,hR]:=Drw.good pp o.1 o.2;let[ls,E]:=Drw.km pp o;let R:=lD pp hR;let[ms,EM]:=R.km;exact(E.unique pp EM hR R.rws (λr hr=>R.sup r hr) λr hr=>R.sub r hr).symm
noncomputable def conv:D1.Dr->Drw
 | .id=>.box "id" 1 1 [[1,1]] | .swap=>.box "swap" 2 2 [[1,0,0,1],[0,1,1,0]] | .copy=>.box "copy" 1 2 [[1,1,1]] | .fin=>.box "end" 1 0 [[1]] | .add=>.box "add" 2 1 [[1,0,1],[0,1,1]]
 | .none=>.box "none" 0 1 [] | .fZ=>.box "cup" 0 2 [[1,1]] | .empty=>.box "empty" 0 0 []
 | .times n=>.times n
 | .back d=>.back (conv d)
 | .bo a b=>.bo (conv a) (conv b)
 | .bg a b=>.bg (conv a) (conv b)
theorem xi:∀d,(conv d).cE=d.cE
 | .id=>rfl | .swap=>rfl | .copy=>rfl | .fin=>rfl | .add=>rfl | .none=>rfl | .fZ=>rfl | .empty=>rfl | .times _=>rfl
 | .back d=>by show((conv d).cE.2,(conv d).cE.1)=_;rw[xi d];rfl
 | .bo a b=>by show((conv a).cE.1+(conv b).cE.1,(conv a).cE.2+(conv b).cE.2)=_;rw[xi a,xi b];rfl
 | .bg a b=>by show((conv a).cE.1,(conv b).cE.2)=_;rw[xi a,xi b];rfl
def xj(d:D1.Dr):(conv d).dZ=d.l:=(aj Prod.fst<|xi d)
def vC(d:D1.Dr):(conv d).dE=d.r:=(aj Prod.snd<|xi d)
theorem zH:∀d,(conv d).aY=d.aY.map dQ
 | .id=>rfl | .swap=>rfl | .copy=>rfl | .fin=>rfl | .add=>rfl | .none=>rfl | .fZ=>rfl | .empty=>rfl | .times _=>rfl
 | .back d=>by show V.str "back"::(conv d).aY=_;rw[zH d];rfl
 | .bo a b=>by show V.str "beside"::((conv a).aY++(conv b).aY)=_;rw[zH a,zH b,<- eC];rfl
 | .bg a b=>by show V.str "then"::((conv a).aY++(conv b).aY)=_;rw[zH a,zH b,<- eC];rfl
theorem sk{p:Int}:∀{d:D1.Dr},d.wf p->(conv d).wf p
 | .id,_=>by show _∈jJ;decide
 | .swap,_=>by show _∈jJ;decide
 | .copy,_=>by show _∈jJ;decide
 | .fin,_=>by show _∈jJ;decide
 | .add,_=>by show _∈jJ;decide
 | .none,_=>by show _∈jJ;decide
 | .fZ,_=>by show _∈jJ;decide
 | .empty,_=>by show _∈jJ;decide
 | .times _,h=>h
 | .back d,h=>sk (d:=d) h
 | .bo _ _,h=>#[sk h.1,sk h.2]
 | .bg a b,h=>#[sk h.1,sk h.2.1,by rw[vC,xj];exact h.2.2]
def aeH{d:D1.Dr}(h:d.wf p)(n:(conv d).sm):Ok p (conv d):=(#[sk h,n])
def TN{q:4}{l r:Nat}(h:q.length=l+r):fn q=D1.lG l r (fn q) (D1.sh l<|fn q):=(funext λj=>by
 unfold D1.lG D1.sh;by_cases h1:j<l
 .rw[af h1]
 .rw[ag h1];by_cases h2:j<l+r
  .rw[af h2];show fn q j=fn q (l+(j-l));rw[show l+(j-l)=j by lia]
  .rw[ag h2];show q.getD j 0=0;rw[dG,kf 7];rfl)
section
variable{p:Int}
def TQ{l r:Nat}(pp:p∈cM)(hn:n=l+r)(h:Bw.cC p n L)(x y:Fn):D1.j5 p (eQ p L) l r x y↔D1.j5 p L l r x y:=by
 let R:=lD pp h;rw[<- D1.nc (λq hq=>by rw[(R.rws q hq).1,hn]),<- D1.nc (λq hq=>by rw[(h q hq).1,hn])];exact#[qy R.sub,qy R.sup]
def TR{l r:Nat}(h:Bw.cC p (l+r) L):L.map (lK l r)=L.map (D1.pT l):=(xM λq hq=>by
 let hl:=(h q hq).1;unfold lK D1.pT;rw[lO (by rw[dU];lia),HG (as:=q) (i:=l+r) 7,iV])
def aeI{l r l':Nat}{A B:LL}(h:Bw.cC p (l+r) A):qK l r l' r' A B=A.map (D1.j6 l l' r')++B.map (D1.lH l r l'):=by
 unfold qK
 congr 1
 refine xM λq hq=>?_;let hl:=(h q hq).1;unfold xf D1.j6;rw[lO (l:=q.drop l) (by rw[dU];lia),HG (as:=q) (i:=l+r) 7,iV]
def B7{l r:Nat}{x:Fn}(h:l+r<=j):D1.lG l r x y j=0:=by
 unfold D1.lG;rw[ag 7,ag 7]
def B8{l r:Nat}{x:Fn}(h:j<l):D1.lG l r x y j=x j:=by
 unfold D1.lG;rw[af h]
def B9{l r:Nat}{x:Fn}(h:j<r):D1.lG l r x y (l+j)=y j:=by
 unfold D1.lG;rw[ag 7,af 7,show l+j-l=j by lia]
def TU{l r:Nat}(h:j<l):df (jM l m r) u (m+j)=u j:=by
 unfold df jM;rw[ag 7,af 7];show 1*u (m+j-m)=_;rw[show m+j-m=j by lia,sP]
def TV{l r:Nat}(h:j<r):df (jM l m r) u (m+(l+j))=0:=by
 unfold df jM;rw[ag 7,ag 7,af 7]
def aeJ{l r:Nat}(h:l+r<=j):df (jM l m r) u (m+j)=u (m+j-r):=by
 unfold df jM;rw[ag 7,ag 7,ag 7];exact sP _
def TX{l:Nat}(h:j<l):df (kz l m) v (m+j)=0:=by
 unfold df kz;rw[ag 7,af 7]
def LZ{l:Nat}(h:l<=j):df (kz l m) v (m+j)=v (m+j-l):=by
 unfold df kz;rw[ag 7,ag 7];exact sP _
def aeK{A B:LL}{l r:Nat}(pp:p∈cM)(h:Bw.cC p (l+m) A)(h':Bw.cC p (m+r) B)(x y:Fn):D1.j5 p (p8 p l m r A B) l r x y↔∃z,D1.j5 p A l m x z/\D1.j5 p B m r z y:=by
 let p0:0<p:=by let:=gK p pp;lia
 let tl:∀q∈p8 p l m r A B,q.length=l+r:=λq hq=>(Tc (x:=0) pp h h' q hq).1;rw[<- D1.nc tl,aeD (x:=0) (x':=0) pp h h' (B3 (x:=0) p0 h h')];let oA:∀{u:Fn}{j:Nat},Bw.Sp p (RS A) u->l+m<=j->p∣u j:=λhu hj=>LW (λq hq=>(h q hq).out hj) hu;let oB:∀{v:Fn}{j:Nat},Bw.Sp p (RS B) v->m+r<=j->p∣v j:=λhv hj=>LW (λq hq=>(h' q hq).out hj) hv;constructor
 .rintro⟨u,v,hu,hv,hm,e⟩;refine#[λj=>u<|l+j,?_,?_]
  .rw[<- D1.nc (λq hq=>(h q hq).1)];refine .ir hu λj=>?_;by_cases h1:j<l
   .let:=e j
    rw[B8 h1]at this |-;simpa only[TU h1,TX h1,sN]using this
   .by_cases h2:j<l+m
    .obtain⟨i,rfl⟩:∃i,j=l+i:=#[j-l,7];rw[B9 7];exact#[0,17]
    .rw[B7 7,Int.sub_zero];exact oA hu 7
  .rw[<- D1.nc (λq hq=>(h' q hq).1)];refine .ir hv λj=>?_;by_cases h1:j<m
   .rw[B8 h1];let[c,hc]:=hm j h1;exact#[-c,by rw[Int.mul_neg,<- hc];lia]
   .by_cases h2:j<m+r
    .obtain⟨i,rfl⟩:∃i,j=m+i:=#[j-m,7]
     let:=e<|l+i
     rw[B9 7]at this |-;dsimp only at this;rwa[TV 7,LZ 7,lQ,show m+(l+i)-l=m+i by lia]at this
    .rw[B7 7,Int.sub_zero];exact oB hv 7
 .rintro⟨z,h1,h2⟩;rw[<- D1.nc (λq hq=>(h q hq).1)]at h1;rw[<- D1.nc (λq hq=>(h' q hq).1)]at h2;refine#[_,_,h1,h2,λj hj=>?_,λj=>?_]
  .rw[B9 hj,B8 hj];exact#[0,17]
  .dsimp only;by_cases c1:j<l
   .rw[TU c1,TX c1,B8 c1,B8 c1];exact#[0,17]
   .by_cases c2:j<l+r
    .obtain⟨i,rfl⟩:∃i,j=l+i:=#[j-l,7];rw[TV 7,LZ 7,show m+(l+i)-l=m+i by lia,B9 7,B9 7];exact#[0,17]
    .rw[aeJ 7,LZ 7,B7 7,B7 7,B7 7];exact#[0,17]
def aeL(pp:p∈cM):∀{d:D1.Dr},d.wf p->(conv d).sm->∀x y:Fn,D1.j5 p ((conv d).bh p) d.l d.r x y↔D1.fX p d x y:=by
 let p0:0<p:=by let:=gK p pp;lia
 let gd:∀{d:D1.Dr},d.wf p->(conv d).sm->Bw.cC p (d.l+d.r) ((conv d).bh p):=λ{d} h n=>by
  let:=(Drw.good pp (sk h) n).2.2.2
  rwa[xj,vC]at this
 let same:∀{d:D1.Dr},d.wf p->(conv d).bh p=d.bh p->∀x y:Fn,D1.j5 p ((conv d).bh p) d.l d.r x y↔D1.fX p d x y:=λ{d} h e x y=>by
  rw[e];exact((D1.BC pp h).2.2 x y).symm
 intro d;induction d with
 |back d ih=>
  intro h n x y;let hR:=gd (d:=d) h n;let e:(conv<|.back d).bh p=eQ p (((conv d).bh p).map<|lK (conv d).dZ (conv d).dE):=9;rw[e,xj,vC,TR hR];let hS:Bw.cC p (d.r+d.l) (((conv d).bh p).map<|D1.pT d.l):=by
   rw[<- TR hR];intro q hq;let[q',hq',rfl]:=dF.mp hq;exact Fj (x:=0) (hR q' hq')
  refine(TQ (l:=d.r) (r:=d.l) pp 9 hS x y).trans<|(D1.Rt (λq hq=>(hR q hq).1) x y).trans<|ih h n y x
 |bo a b c9 de=>
  intro h n x y;let hA:=gd h.1 n.1;let hB:=gd h.2 n.2.1;let e:(conv<|.bo a b).bh p=eQ p (qK (conv a).dZ (conv a).dE (conv b).dZ (conv b).dE ((conv a).bh p)<|(conv b).bh p):=9;let hS:=Fu (x:=0) p0 hA hB;rw[e,xj,vC,xj,vC];refine(TQ (l:=a.l+b.l) (r:=a.r+b.r) pp 9 hS x y).trans ?_;rw[aeI hA];refine(D1.Ru (λq hq=>(hA q hq).1) (λq hq=>(hB q hq).1) x y).trans ?_;rw[c9 h.1 n.1,de h.2 n.2.1];exact Iff.rfl
 |bg a b c9 de=>
  intro h n x y;let hA:=gd h.1 n.1;let hB:=gd h.2.1 n.2;let vj:b.l=a.r:=h.2.2.symm;let TY:=de h.2.1 n.2;rw[vj]at hB TY;let e:(conv<|.bg a b).bh p=p8 p (conv a).dZ (conv a).dE (conv b).dE ((conv a).bh p) ((conv b).bh p):=9;rw[e,xj,vC,vC];refine(aeK pp hA hB x y).trans ?_;simp only[c9 h.1 n.1,TY];exact Iff.rfl
 |times n=>intro h _;exact same h 9
 |_=>intro h _;exact same h 9
def FP(pp:p∈cM){d:D1.Dr}(h:d.wf p)(n:(conv d).sm):(conv d).bh p=eQ p (d.bh p):=by
 let o:=aeH h n;let[r1,_,r3]:=D1.BC pp h;let hR:=(Drw.good pp o.1 o.2).2.2.2;rw[xj,vC]at hR;rw[<- Drw.one pp o];let key:∀{q:4},q.length=d.l+d.r->(Bw.Sp p (RS<|(conv d).bh p) (fn q)↔Bw.Sp p (RS<|d.bh p) (fn q)):=λ{q} hq=>by
  rw[TN hq,D1.nc (λq hq=>(hR q hq).1),D1.nc (λq hq=>(r1 q hq).1),aeL pp h n,r3]
 exact D3.red pp hR r1 #[λq hq=>(key (hR q hq).1).mp<|u7 hq,λq hq=>(key (r1 q hq).1).mpr<|u7 hq]
end
end S21
namespace L2
open PySem PySem.Spec PyProof.Rows PySem.Builtin PySem.Builtin.Str
section
variable{X:Cx}
theorem TZ:∀l:5 Str Tok,Vals ((l.map (·.1)).map V.str) (strValues l)
 | []=>.nil
 |(_,t)::l=>.cons #[t,9] (TZ l)
def aeM{prog:Program}{w:World}{A:Around}{E:QV}{s:Shared}{x y:Str}{t u:Tok}{Q:QV}(c0:(y.length==0)=false)(cz:11 (x.length+2))
  (q:∀l k,l.map (·.1)=Txt.split x y->Q (3 22) { s with heap:=s.heap.push { cls:=.type "list",data:=.seq (strValues l).toArray },toks:=k }) :
  15 prog w A (call (.builtin "str.split") [Value.str x t,Value.str y u]) Q E s:=by
 let cl:=StrLaws.occ_length_le x y 0 x.length<|x.length+1;let cn:11 (Builtin.Str.partsBetween x (Builtin.Str.occurrences x y 0 x.length<|x.length+1) y.length).length:=by
  rw[length_partsBetween];lia
 cases c1:(decide (x.length<y.length)||decide (Builtin.Str.strKind x<Builtin.Str.strKind y)) with
 |true=>exact call_meets F.slot_str_split (typeIs_str _ _ _) F.entry_str_split (F.args_str_split_2 _ _) (meets_str_split_cannot_occur x y t u c1)<|q [(x,t)] s.toks (af c1).symm
 |false=>
  let e1:Txt.split x y=_:=ag<|ne_true_of_eq_false c1;cases c2:(Builtin.Str.occurrences x y 0 x.length<|x.length+1).isEmpty with
  |true=>exact call_meets F.slot_str_split (typeIs_str _ _ _) F.entry_str_split (F.args_str_split_2 _ _) (meets_str_split_not_found x y t u c1 c0 c2)<|q [(x,t)] s.toks (e1.trans<|af c2).symm
  |false=>
   refine call_meets F.slot_str_split (typeIs_str _ _ _) F.entry_str_split (F.args_str_split_2 _ _) (meets_str_split_sep x y t u c1 c0 c2 7 cn) ?_;let e2:=numbered_texts s.toks<|Builtin.Str.partsBetween x (Builtin.Str.occurrences x y 0 x.length<|x.length+1) y.length;show wants Q E _ { s with toks:=_,heap:=s.heap.push { cls:=.type "list",data:=.seq (strsFrom s.toks<|Builtin.Str.partsBetween x (Builtin.Str.occurrences x y 0 x.length<|x.length+1) y.length).toArray } };rw[strsFrom_eq];exact q (numbered s.toks _) _<|e2.trans (e1.trans<|ag<|ne_true_of_eq_false c2).symm
def L0:Iv X "str.split" (λx xs H Q=>∃z sep,x=.str z/\xs=[.str sep]/\(sep.length==0)=false/\11 (z.length+2)/\11 (Txt.split z sep).length/\∀l,H l=8->Q (3 l) (9 H l<|(Txt.split z sep).map V.str)):=by
 intro aZ s σ H x xs v us Q I rx rs h;let[z,sep,rfl,rfl,hs,hz,hl,q]:=h;let[t,rfl]:=rx;let[u,rfl,tu,rfl]:=Vals.one rs;refine aeM hs hz λl k e=>?_;let I1:12 X σ (9 H 22<|(Txt.split z sep).map V.str) { s with heap:=s.heap.push { cls:=.type "list",data:=.seq (strValues l).toArray },toks:=k }:=by
  refine I.laid (λb o e=>dD _ e) (ck _) ?_;rw[<- e]at hl |-;exact#[by rw[bH];exact hl,strValues l,0,TZ l,gp _ 9]
 exact#[3 22,_,I1,9,q _<|I.cf.fresh<|ck _]
def aeN:gG X (.type "str") (λxs H Q=>∃x,xs=[.str x]/\Q (.str x) H):=by
 intro aZ s σ H xs us Q I r h;let[x,rfl,q]:=h;let[u,rfl,t,rfl]:=vals1 r;exact PySem.P.str_of_str #[.str x,H,I,#[t,9],q]
def aeO:gG X (.type "str") (λxs H Q=>(∃x,xs=[.str x]/\Q (.str x) H)\/(∃i,xs=[2 i]/\i.natAbs.log2<1920/\Q (.str<|toString i) H)):=(aeN.or Yy)
end
section
variable{prog:Program}{w:World}{A:Around}{E:QV}{s:Shared}{a:Addr}{D:5 Str V}{n:Int}{tk:Tok}
end
section
variable{X:Cx}{o i e f:Expr}{pos jV iG:Pos}{td ty tx:TE}{a:Addr}{D:5 Str V}
end
end L2
namespace S21
open PySem L2 Bw
variable{ts:1 It2}
inductive Dw where
 |box (x:Str) (l r:Nat)
 |times (n:Int)
 |back (d:Dw)
 |bo (a b:Dw)
 |bg (a b:Dw)
def og:5 Str (Nat×Nat):=[("id",1,1),("swap",2,2),("copy",1,2),("end",1,0),("add",2,1),("none",0,1),("cup",0,2),("empty",0,0),("late",1,1)]
def zI:1 Str:=["id","swap","copy","end","add","none","times","cup","empty","late"]
noncomputable def xk:7 Nat->7 Nat->7 Nat
 |some i,_=>0 i
 |none,x=>x
namespace Dw
noncomputable def aY:Dw->1 V
 |box x _ _=>[.str x]
 |times n=>[.str "times",2 n]
 |back d=>.str "back"::d.aY
 |bo a b=>.str "beside"::(a.aY++b.aY)
 |bg a b=>.str "then"::(a.aY++b.aY)
noncomputable def cE:Dw->Nat×Nat
 |box _ l r=>(l,r)
 |times _=>(1,1)
 |back d=>(d.cE.2,d.cE.1)
 |bo a b=>(a.cE.1+b.cE.1,a.cE.2+b.cE.2)
 |bg a b=>(a.cE.1,b.cE.2)
noncomputable abbrev dZ(d:Dw):Nat:=d.cE.1
noncomputable abbrev dE(d:Dw):Nat:=d.cE.2
def ok(p:Int):6 Dw
 |box x l r=>(x,l,r)∈og
 |times n=>0<=n/\n<p
 |back d=>d.ok p
 |bo a b=>a.ok p/\b.ok p
 |bg a b=>a.ok p/\b.ok p
noncomputable def xl:Nat->Dw->7 Nat
 |i,back d=>xl (i+1) d
 |i,bo a b=>xk (xl (i+1) a) (xl (i+1+a.aY.length) b)
 |i,bg a b=>match xk (xl (i+1) a) (xl (i+1+a.aY.length) b) with
  |some j=>0 j
  |none=>if a.dE=b.dZ then none else 0 i
 |_,_=>none
def pos(d:Dw):1<=23:=by cases d<;>simp[aY]
end Dw
inductive It2 where
 |num (n:Int)
 |bp (d:Dw)
namespace It2
noncomputable def aY:It2->1 V
 |num n=>[2 n]
 |bp d=>d.aY
noncomputable def head:It2->V
 |num n=>2 n
 |bp (.box x _ _)=>.str x
 |bp (.times _)=>.str "times"
 |bp (.back _)=>.str "back"
 |bp (.bo _ _)=>.str "beside"
 |bp (.bg _ _)=>.str "then"
noncomputable def kids:It2->1 It2
 |num _=>[]
 |bp (.box _ _ _)=>[]
 |bp (.times n)=>[num n]
 |bp (.back d)=>[bp d]
 |bp (.bo a b)=>[bp a,bp b]
 |bp (.bg a b)=>[bp a,bp b]
def ok(p:Int):6 It2
 |num _=>True
 |bp d=>d.ok p
def sj(t:It2):t.aY=t.head::t.kids.flatMap aY:=by
 cases t with
 |num n=>rfl
 |bp d=>cases d<;>simp[aY,head,kids,Dw.aY]
def aeP{p:Int}{t:It2}(h:t.ok p):∀u∈t.kids,u.ok p:=by
 cases t with
 |num n=>intro u hu;cases hu
 |bp d=>
  cases d with
  |box=>intro u hu;cases hu
  |times n=>intro u hu;rw[cT.mp hu];exact True.intro
  |back d=>intro u hu;rw[cT.mp hu];exact h
  |bo a b=>
   intro u hu;rcases(eK.mp hu)with z|z
   .rw[z];exact h.1
   .rw[cT.mp z];exact h.2
  |bg a b=>
   intro u hu;rcases(eK.mp hu)with z|z
   .rw[z];exact h.1
   .rw[cT.mp z];exact h.2
end It2
noncomputable def cP:1 It2->Nat->1 It2
 |ts,0=>ts
 | [],_+1=>[]
 |t::ts,i+1=>cP (t.kids++ts) i
theorem Ca:∀i,cP [] i=[]
 |0=>rfl
 |_+1=>rfl
theorem zJ:∀(i:Nat)(ts:1 It2),(cP ts i).flatMap It2.aY=(ts.flatMap It2.aY).drop i
 |0,ts=>by simp[cP]
 |i+1,[]=>by simp[cP]
 |i+1,t::ts=>by
  show(cP (t.kids++ts) i).flatMap It2.aY=_;rw[zJ i,xP,pe,It2.sj t];simp
def It2.pos(t:It2):1<=t.aY.length:=by
 rw[It2.sj];simp
theorem y4:∀{ts:1 It2},ts≠[]->0<(ts.flatMap It2.aY).length
 | [],h=>absurd 9 h
 |t::ts,_=>by
  rw[pe,cb]
  let:=t.pos
  lia
theorem T1:∀ts:1 It2,ts.length<=(ts.flatMap It2.aY).length
 | []=>ck _
 |t::ts=>by
  rw[pe,cb,eX]
  let:=t.pos
  let:=T1 ts
  lia
def T2:cP ts (ts.flatMap It2.aY).length=[]:=by
 cases h:cP ts (ts.flatMap It2.aY).length with
 |nil=>rfl
 |cons t r=>
  let z:=zJ (ts.flatMap It2.aY).length ts;rw[h,List.drop_length]at z
  let:=y4 (ts:=t::r) 17
  rw[z]at this;exact absurd this 17
def T3{i:Nat}:(cP ts i).length<=(ts.flatMap It2.aY).length:=by
 let:=T1<|cP ts i
 rw[zJ,dU]at this;lia
theorem T4:∀(i:Nat)(ts:1 It2){t:It2}{r:1 It2},cP ts i=t::r->cP ts (i+1)=t.kids++r
 |0,ts,t,r,h=>by
  let h:ts=t::r:=h;subst h;rfl
 |i+1,[],t,r,h=>by simp[cP]at h
 |i+1,u::ts,t,r,h=>T4 i (u.kids++ts) h
def so{i:Nat}(h:i<(ts.flatMap It2.aY).length):∃t r,cP ts i=t::r/\(ts.flatMap It2.aY)[i]?=0 t.head/\cP ts (i+1)=t.kids++r:=by
 let z:=zJ i ts;cases e:cP ts i with
 |nil=>
  rw[e]at z;let z:[]=(ts.flatMap It2.aY).drop i:=z
  let:=aj List.length z
  rw[dU]at this;simp only[List.length_nil]at this;lia
 |cons t r=>
  refine#[t,r,9,?_,T4 i ts e];rw[e,pe,It2.sj]at z
  let:=aj (λl=>l[0]?) z
  simp only[xJ,List.getElem?_cons_zero,vR,Nat.add_zero]at this;exact this.symm
theorem L1{p:Int}:∀(i:Nat){ts:1 It2},(∀t∈ts,t.ok p)->∀t∈cP ts i,t.ok p
 |0,ts,h=>h
 |i+1,[],h=>by intro t ht;rw[Ca]at ht;cases ht
 |i+1,t::ts,h=>L1 i (ts:=t.kids++ts) λu hu=>by
  rcases(eB.mp hu)with z|z
  .exact It2.aeP (h t du) u z
  .exact h u<|gq _ z
end S21
namespace S21
open PySem L2 Bw
variable{f fM:Addr}{fd i7:FuncData}{i:Nat}{t:It2}{ts:1 It2}
def L3:5 Str (Nat×Nat):=("times",1,1)::og
def Cb(K:Frag)(aS:Addr):Bool:=pM K aS&&decide ((gN K aS).map (·.1)=zI)&&L3.all λe=>
 (match PyProof.Rows.KTD.datumAt e.1 (gN K aS)with|some (.ref t)=>zj K t [(e.2.1:Int),(e.2.2:Int)] | _=>false)
structure sr(K:Frag)(mg:Str->7 5)(aS:Addr):Prop where
 nm:mg "SIDES"=8 aS
 ok:Cb K aS=6
theorem T5{x:Str}:∀{D:5 Str V},x ∉ D.map (·.1)->PyProof.Rows.KTD.datumAt x D=8
 | [],_=>rfl
 |(k,v)::D,h=>by
  let h1:x≠k:=λz=>h (by rw[z];exact du);unfold PyProof.Rows.KTD.datumAt;rw[ae h1,ag ia];exact T5 λz=>h<|gq _ z
section
variable{K:Frag}{mg:Str->7 5}{aS:Addr}
def sr.tab(B:sr K mg aS):∀h,K.In h->lE h aS (gN K aS):=(λh X=>by
 let z:=B.ok;unfold Cb at z;rw[dM,dM]at z;exact D0 X z.1.1)
def sr.keys(B:sr K mg aS):(gN K aS).map (·.1)=zI:=by
 let z:=B.ok;unfold Cb at z;rw[dM,dM]at z;exact aM z.1.2
def sr.at_(B:sr K mg aS){x:Str}{l r:Nat}(h:(x,l,r)∈L3):∃t,PyProof.Rows.KTD.datumAt x (gN K aS)=8 t/\∀H,bu K H t [2 (l:Int),2 (r:Int)]:=by
 let z:=B.ok;unfold Cb at z;rw[dM]at z;let z2:=gF.mp z.2 _ h;split at z2
 .rename_i t e
  exact#[t,e,λH=>Lu z2 H]
 .exact nomatch z2
def sr.none(B:sr K mg aS){x:Str}(h:x ∉ zI):PyProof.Rows.KTD.datumAt x (gN K aS)=8:=(T5<|by rw[B.keys];exact h)
end
noncomputable def uV:7 Nat->V
 |none=>.cI
 |some i=>2 (i:Int)
def me(K:Frag)(H:Hp)(a:Addr)(m:Nat×Nat×7 Nat):Prop:=bu K H a [2 (m.1:Int),2 (m.2.1:Int),uV m.2.2]
def Cc(K:Frag)(H:Hp)(ps:1 V)(ms:5 Nat (Nat×7 Nat)):Prop:=ps.length=ms.length/\∀(i:Nat)(v:V)(m:Nat×Nat×7 Nat),ps[i]?=0 v->ms[i]?=0 m->∃a,v=3 a/\me K H a m
def Cc.one{K:Frag}{H:Hp}{a:Addr}{m:Nat×Nat×7 Nat}(h:me K H a m):Cc K H [3 a] [m]:=(#[9,λi v m' e1 e2=>by
 match i,e1,e2 with
 |0,e1,e2=>cases e1;cases e2;exact#[a,9,h]
 |i+1,e1,_=>simp at e1])
def Cc.two{K:Frag}{H:Hp}{a b:Addr}{m n:Nat×Nat×7 Nat}(h:me K H a m)(h':me K H b n):Cc K H [3 a,3 b] [m,n]:=(#[9,λi v m' e1 e2=>by
 match i,e1,e2 with
 |0,e1,e2=>cases e1;cases e2;exact#[a,9,h]
 |1,e1,e2=>cases e1;cases e2;exact#[b,9,h']
 |i+2,e1,_=>simp at e1])
def zK(ms:5 Nat (Nat×7 Nat)):7 Nat:=(ms.filterMap (·.2.2)).head?
def aeQ(m:Nat×Nat×7 Nat):zK [m]=m.2.2:=by
 unfold zK;cases h:m.2.2<;>simp[h]
def T6(m n:Nat×Nat×7 Nat):zK [m,n]=xk m.2.2 n.2.2:=by
 unfold zK;cases h:m.2.2<;>cases h':n.2.2<;>simp[h,h',xk]
def aeR:(["part"]:1 Str).Nodup:=by decide +kernel
def T7(K:Frag):Sp:=λvs H Q _=>∃(pa:Addr)(ps:1 V)(ms:5 Nat (Nat×7 Nat)),vs=[3 pa]/\H pa=13 ps/\ps.length<=10/\Cc K H ps ms/\∀H',bc H H'->Q (uV<|zK ms) H'
def T8:dz ["parts","unmet"] ["parts"] (cj Ea):=(dW 9 9 9 19 9)
def FQ(F:cL K "first_unmet" "first_unmet" Ea f fd):bQ P w K mg base bX 1 f fd ["parts"] (T7 K):=by
 refine 17 T8 24 ?_
 .let[pa,ps,ms,rfl,_]:=h;rfl
 .let[pa,ps,ms,rfl,hp,hl,hm,q]:=h;let z:11 (10:Nat):=by decide
  refine#[_,bz (mH (i:=1) (N:=["part"]) (own:=1) (caps:=[]) rfl T8.nd rfl rfl (iY K 9<|pv 0) (show fH ["parts","unmet"] (cj Ea) ["part"] 1 [] _ from .mk' 19) (λ_ _ _ _ _=>cH (i:=0) aeR rfl (18)) (λ_ _ _ _ _=>AM<|cQ C8 (bZ (cU K 9) (pv 0) br) lT<|cO _) (λ_ _ _ _ _=>bZ (cU K 9) (pv 0) br))<|bN<|cJ<|C3 (Dc (pv 1) λ_=>9) (bZ (dC K 9) (pv 1) br) lT,?_]
  refine#[_,9,pa,9,#[_,.of hp],qx (cp:=[]) (λi H' zs=>zs=((ms.take i).filterMap (·.2.2)).map (λj:Nat=>V.int (j:Int))) (.of hp) 7 9 (λi H' zs e=>?_) ?_ ?_]
  .rw[e,bH];exact eh (List.length_filterMap_le _ _)<|sO _ _
  .rintro i x H1 zs hx sm rfl;let hi:i<ms.length:=by rw[<- hm.1];exact(eA.mp hx).1
   let[a,rfl,ha]:=hm.2 i x ms[i] hx<|cD hi;let et:ms.take (i+1)=ms.take i++[ms[i]]:=by rw[iM,cD hi];rfl
   refine#[_,9,a,_,2,uV ms[i].2.2,9,9,sm.bK ha,cm (j:=2) rfl,9,_,9,?_];cases hu:ms[i].2.2 with
   |none=>
    refine tX (λh=>absurd 9 h) λ_=>#[#[[_],9,9],sm,?_];rw[et,List.filterMap_append];simp[hu]
   |some j=>
    rw[ae (show ¬uV (0 j)=V.cI from λz=>nomatch z)]
    refine fw #[_,9,a,_,2,uV ms[i].2.2,9,9,sm.bK ha,cm (j:=2) rfl,#[#[[_],9,9],sm,?_]];rw[et,List.filterMap_append,hu];simp[hu,uV]
  .rintro H1 zs sm rfl lu T9;rw[lO (by rw[<- hm.1];exact ck _)];unfold zK at q;cases hz:ms.filterMap (·.2.2) with
   |nil=>
    rw[hz]at q;refine#[_,9,_,.inl #[[],.of bq,9],dh ?_];exact q _<|sm.trans<|.upd T9
   |cons j js=>
    rw[hz]at q;refine#[_,9,_,.inl #[_,.of bq,9],fw ?_];exact#[_,9,lu,_,0,_,9,9,.of bq,cm (j:=0) rfl,q _<|sm.trans<|.upd T9]
def L4(K:Frag):Sp:=λvs H Q _=>∃(x:Str)(pa:Addr)(ps:1 V),vs=[.str x,3 pa]/\H pa=13 ps/\
 ((∃(a:Addr)(m:Nat×Nat×7 Nat),x="back"/\ps=[3 a]/\me K H a m/\iX K H [2 (m.2.1:Int),2 (m.1:Int)] Q)\/(∃(a b:Addr)(m n:Nat×Nat×7 Nat),x="beside"/\ps=[3 a,3 b]/\me K H a m/\me K H b n/\iX K H [2 ((m.1+n.1:Nat):Int),2 ((m.2.1+n.2.1:Nat):Int)] Q)\/(∃(a b:Addr)(m n:Nat×Nat×7 Nat),x="then"/\ps=[3 a,3 b]/\me K H a m/\me K H b n/\iX K H [2 (m.1:Int),2 (n.2.1:Int)] Q))
def aeS:dz ["word","parts"] ["word","parts"] (cj JZ):=(dW 9 9 9 19 9)
def FR(F:cL K "joined_sides" "joined_sides" JZ f fd):bQ P w K mg base bX 1 f fd ["word","parts"] (L4 K):=by
 refine 17 aeS 24 ?_
 .let[x,pa,ps,rfl,_]:=h;rfl
 .let[x,pa,ps,rfl,hp,h]:=h;refine#[_,bz (dq (cQ e8 (pv 0) c7<|cO _) (bN<|cJ<|eF<|bf (bZ (cU K 9) (bZ (dC K 9) (pv 1) br) br)<|bf (bZ (cU K 9) (bZ (dC K 9) (pv 1) br) br) bj) eP)<|bz (dq (cQ e8 (pv 0) c7<|cO _) (bN<|cJ<|eF<|bf (bI ij (bZ (cU K 9) (bZ (dC K 9) (pv 1) br) br)<|bZ (cU K 9) (bZ (dC K 9) (pv 1) br) br)<|bf (bI ij (bZ (cU K 9) (bZ (dC K 9) (pv 1) br) br)<|bZ (cU K 9) (bZ (dC K 9) (pv 1) br) br) bj) eP)<|bN<|cJ<|eF<|bf (bZ (cU K 9) (bZ (dC K 9) (pv 1) br) br)<|bf (bZ (cU K 9) (bZ (dC K 9) (pv 1) br) br) bj,?_];let z2:11 2:=by decide
  rcases h with⟨a,m,rfl,rfl,ha,q⟩|⟨a,b,m,n,rfl,rfl,ha,hb,q⟩|⟨a,b,m,n,rfl,rfl,ha,hb,q⟩
  .refine#[_,9,9,_,9,?_];rw[aH 9];exact fw #[_,9,pa,_,0,3 a,9,9,.of hp,cm (j:=0) rfl,a,_,1,_,9,9,ha,cm (j:=1) rfl,_,9,pa,_,0,3 a,9,9,.of hp,cm (j:=0) rfl,a,_,0,_,9,9,ha,cm (j:=0) rfl,z2,λt ht=>q.new ht]
  .refine#[_,9,9,_,9,?_];rw[ae 16];refine dh #[_,9,9,_,9,?_];rw[aH 9];rw[sQ,sQ]at q;exact fw #[_,9,pa,_,0,3 a,9,9,.of hp,cm (j:=0) rfl,a,_,0,2 (m.1:Int),9,9,ha,cm (j:=0) rfl,_,9,pa,_,1,3 b,9,9,.of hp,cm (j:=1) rfl,b,_,0,2 (n.1:Int),9,9,hb,cm (j:=0) rfl,_,_,9,9,_,9,pa,_,0,3 a,9,9,.of hp,cm (j:=0) rfl,a,_,1,2 (m.2.1:Int),9,9,ha,cm (j:=1) rfl,_,9,pa,_,1,3 b,9,9,.of hp,cm (j:=1) rfl,b,_,1,2 (n.2.1:Int),9,9,hb,cm (j:=1) rfl,_,_,9,9,z2,λt ht=>q.new ht]
  .refine#[_,9,9,_,9,?_];rw[ae 16];refine dh #[_,9,9,_,9,?_];rw[ae 16];exact dh #[_,9,pa,_,0,3 a,9,9,.of hp,cm (j:=0) rfl,a,_,0,2 (m.1:Int),9,9,ha,cm (j:=0) rfl,_,9,pa,_,1,3 b,9,9,.of hp,cm (j:=1) rfl,b,_,1,2 (n.2.1:Int),9,9,hb,cm (j:=1) rfl,z2,λt ht=>q.new ht]
inductive aeT(K:Frag)(i:Nat)(x:Str)(ps:1 V)(H:Hp)(Q:VK):Prop where
 |box (l r:Nat) (h:(x,l,r)∈L3) (q:iX K H [2 (l:Int),2 (r:Int),.cI] Q)
 |back (a:Addr) (m:Nat×Nat×7 Nat) (h:x="back") (hp:ps=[3 a]) (ha:me K H a m) (q:iX K H [2 (m.2.1:Int),2 (m.1:Int),uV m.2.2] Q)
 |bo (a b:Addr) (m n:Nat×Nat×7 Nat) (h:x="beside") (hp:ps=[3 a,3 b]) (ha:me K H a m) (hb:me K H b n) (q:iX K H [2 ((m.1+n.1:Nat):Int),2 ((m.2.1+n.2.1:Nat):Int),uV<|xk m.2.2 n.2.2] Q)
 |bg (a b:Addr) (m n:Nat×Nat×7 Nat) (h:x="then") (hp:ps=[3 a,3 b]) (ha:me K H a m) (hb:me K H b n)
  (q:iX K H [2 (m.1:Int),2 (n.2.1:Int),uV (match xk m.2.2 n.2.2 with|some j=>0 j|none=>if m.2.1=n.1 then none else 0 i)] Q)
def aeU:4 "back" ∉ zI/\4 "beside" ∉ zI/\4 "then" ∉ zI:=by decide +kernel
def aeV{j:Nat}:¬uV (0 j)=V.cI:=(λz=>nomatch z)
def L5(K:Frag):Sp:=λvs H Q _=>∃(i:Nat)(x:Str)(pa:Addr)(ps:1 V),vs=[2 (i:Int),.str x,3 pa]/\H pa=13 ps/\aeT K i x ps H Q
def FU{aS fU fJ:Addr}{Ua Ub:FuncData}(F:cL K "measure" "measure" D9 f fd)(B:sr K mg aS)
  (GU:bQ P w K mg base bX 1 fU Ua ["parts"] (T7 K)) (kU:Kp K fU) (bU:Binds K Ua ["parts"] []) (mU:Mg mg "first_unmet" fU)
  (GJ:bQ P w K mg base bX 1 fJ Ub ["word","parts"] (L4 K)) (kJ:Kp K fJ) (bJ:Binds K Ub ["word","parts"] []) (mJ:Mg mg "joined_sides" fJ) :
  bQ P w K mg base bX 2 f fd ["place","word","parts"] (L5 K):=by
 refine 17 Lw 24 ?_
 .let[i,x,pa,ps,rfl,_]:=h;rfl
 .let[i,x,pa,ps,rfl,hp,h]:=h;let[nb,ns,nt]:=aeU;refine#[_,bz (dq (NZ (abE B.tab (pv 1)<|rC (v:=3 _) rfl B.nm rfl) 9) (bN<|cJ<|bI (jY K 9) (QO B.tab (rC (v:=3 _) rfl B.nm rfl) (pv 1) λ_ _=>9)<|eF<|bf lT bj) eP)<|bz (cx (i:=3) Lw.nd rfl (18) (cY GU hr 9 mU kU bU .nil cZ<|10 2 bj))<|bz (dq (PW.pt<|rE (cQ e8 (pv 1) c7<|cO _)<|rE (cQ Oj (pv 3) lT<|cO _)<|sX<|cQ uJ (bZ (cU K 9) (bZ (dC K 9) (pv 2) br) br) (bZ (cU K 9) (bZ (dC K 9) (pv 2) br) br)<|cO _) (bN<|cx (i:=3) Lw.nd rfl (18) (pv 0)) eP)<|bN<|cJ<|bI (jY K 9) (cY GJ hr 9 mJ kJ bJ .nil cZ<|10 1<|10 2 bj)<|eF<|10 3 bj,?_];let z1:11 1:=by decide
  let vD:PyProof.Rows.KTD.datumAt x (gN K aS)=8->∀{u:TS}{D:Ends},u D [0<|2 (i:Int),0<|.str x,8 pa,8] H->cR (gU (tB<|QP aS (gN K aS) (bt 1)<|tC<|3 aS) (iE<|bY (wG K) (JV aS (gN K aS) (tC<|3 aS)<|bt 1)<|jz<|bw (tC .cI) cB) jS) u D [0<|2 (i:Int),0<|.str x,8 pa,8] H:=λe {u D} h=>by
   refine#[_,9,x,9,9,_,9,?_];rw[e];exact dh h
  cases h with
  |box l r hx q=>
   let[t,e,ht]:=B.at_ hx;refine#[_,9,x,9,9,_,9,?_];rw[e];refine fw #[_,9,x,_,9,9,e,z1,λt1 g1=>?_];exact#[t,t1,_,_,9,9,ht _,.of bq,(by show 11 (2+1);decide),λa' H' s' h'=>q a' H' ((bc.upd g1).trans s') h']
  |back a m hx oT ha q=>
   subst hx;subst oT;refine vD (B.none nb) #[_,9,pa,_,[m],9,hp,17,.one ha,λH1 s1=>?_];rw[aeQ];refine#[_,9,9,_,9,?_];rw[ae 16];refine dh<|dh ?_;refine#[_,9,_,9,_,pa,_,9,s1 _ _ hp,.inl #[a,m,9,9,s1.bK ha,λt H2 s2 ht=>#[_,9,z1,λt1 g1=>?_]]];exact#[t,t1,_,_,9,9,(bc.upd g1).bK ht,.of bq,(by show 11 (2+1);decide),λa' H' s' h'=>q a' H' ((s1.trans s2).trans<|(bc.upd g1).trans s') h']
  |bo a b m n hx oT ha hb q=>
   subst hx;subst oT;refine vD (B.none ns) #[_,9,pa,_,[m,n],9,hp,17,.two ha hb,λH1 s1=>?_];rw[T6];refine#[_,9,9,_,9,?_];rw[ae 16];refine dh<|dh ?_;refine#[_,9,_,9,_,pa,_,9,s1 _ _ hp,.inr<|.inl #[a,b,m,n,9,9,s1.bK ha,s1.bK hb,λt H2 s2 ht=>#[_,9,z1,λt1 g1=>?_]]];exact#[t,t1,_,_,9,9,(bc.upd g1).bK ht,.of bq,(by show 11 (2+1);decide),λa' H' s' h'=>q a' H' ((s1.trans s2).trans<|(bc.upd g1).trans s') h']
  |bg a b m n hx oT ha hb q=>
   subst hx;subst oT;refine vD (B.none nt) #[_,9,pa,_,[m,n],9,hp,17,.two ha hb,λH1 s1=>?_];rw[T6];let cu:∀{u:7 Nat}{D:Ends},D.rt=Q->iX K H [2 (m.1:Int),2 (n.2.1:Int),uV u] Q->iE (bY (wG K) (kg (L4 K) [] E0<|bw (bt 1)<|bw (bt 2) cB)<|jz<|bw (bt 3) cB) D [0<|2 (i:Int),0<|.str<|4 "then",8 pa,0<|uV u] H1:=λ{u D} hD q=>by
    refine#[_,9,_,9,_,pa,_,9,s1 _ _ hp,.inr<|.inr #[a,b,m,n,9,9,s1.bK ha,s1.bK hb,λt H2 s2 ht=>#[_,9,z1,λt1 g1=>?_]]];refine#[t,t1,_,_,9,9,(bc.upd g1).bK ht,.of bq,(by show 11 (2+1);decide),λa' H' s' h'=>?_];show D.rt _ _;rw[hD];exact q a' H' ((s1.trans s2).trans<|(bc.upd g1).trans s') h'
   refine#[_,9,9,_,9,?_];rw[aH 9];refine fw #[_,9,9,_,9,?_];cases hu:xk m.2.2 n.2.2 with
   |some j=>
    rw[hu]at q;rw[ae aeV];exact dh (dh<|cu (u:=0 j) rfl q)
   |none=>
    rw[hu]at q;rw[aH (show uV 8=V.cI from 9)]
    refine fw #[_,9,pa,_,0,3 a,9,9,.of<|s1 _ _ hp,cm (j:=0) rfl,a,_,1,2 (m.2.1:Int),9,9,s1.bK ha,cm (j:=1) rfl,_,9,pa,_,1,3 b,9,9,.of<|s1 _ _ hp,cm (j:=1) rfl,b,_,0,2 (n.1:Int),9,9,s1.bK hb,cm (j:=0) rfl,9,_,9,tX (λz=>?_) λz=>?_]
    .let z':¬m.2.1=n.1:=λe=>z (by rw[e]);rw[show(match(none:7 Nat)with|some j=>0 j|none=>if m.2.1=n.1 then none else 0 i)=0 i from ag z']at q
     exact#[_,9,cu (u:=0 i) rfl q]
    .let z':m.2.1=n.1:=by injection z with z;exact Int.ofNat.inj z
     rw[show(match(none:7 Nat)with|some j=>0 j|none=>if m.2.1=n.1 then none else 0 i)=8 from af z']at q
     exact cu (u:=none) 9 q
def Cd(K:Frag)(H:Hp)(i:Nat):It2->6 V
 | .num n,v=>v=2 n
 | .bp d,v=>∃a,v=3 a/\me K H a (d.dZ,d.dE,d.xl i)
inductive jN(K:Frag)(H:Hp):Nat->1 It2->6 (1 V) where
 |nil {i:Nat}:jN K H i [] []
 |cons {i:Nat} {t:It2} {ts:1 It2} {v:V} {vs:1 V} (h:Cd K H i t v) (r:jN K H (i+t.aY.length) ts vs):jN K H i (t::ts) (v::vs)
section
variable{K:Frag}{H H':Hp}
def Cd.tup{v:V}(h:Cd K H i t v)(s:eI H H'):Cd K H' i t v:=by
 cases t with
 |num n=>exact h
 |bp d=>
  let[a,e,hf]:=h;exact#[a,e,s.bK hf]
def jN.tup{i:Nat}{ts:1 It2}{vs:1 V}(h:jN K H i ts vs)(s:eI H H'):jN K H' i ts vs:=by
 induction h with
 |nil=>exact .nil
 |cons h r ih=>exact .cons (h.tup s) ih
def jN.len{vs:1 V}(h:jN K H i ts vs):vs.length=ts.length:=by
 induction h with
 |nil=>rfl
 |cons h r ih=>rw[eX,eX,ih]
theorem jN.split:∀{i:Nat}{ts us:1 It2}{vs:1 V},jN K H i (ts++us) vs->∃xs ys,vs=xs++ys/\jN K H i ts xs/\jN K H (i+(ts.flatMap It2.aY).length) us ys
 |i,[],us,vs,h=>#[[],vs,9,.nil,h]
 |i,t::ts,us,_,.cons h r=>by
  let[xs,ys,e,h1,h2]:=jN.split (ts:=ts) r;refine#[_::xs,ys,by rw[e];rfl,.cons h h1,?_];rw[pe,cb,<- xQ];exact h2
end
def L6:∀e∈og,jI e.1=0:=by decide +kernel
def Uc:jI (4 "times")=1/\jI (4 "back")=1/\jI (4 "beside")=2/\jI (4 "then")=2:=by decide +kernel
def aeW:dz ["words"] ["words"] (cj JY):=(dW 9 9 9 19 9)
def aeX:dz ["words"] ["words"] (cj D6):=(dW 9 9 9 19 9)
def L7(K:Frag):Sp:=λvs H Q _=>∃(p:Int)(aw:Addr)(d:Dw),vs=[3 aw]/\d.ok p/\23<=200/\bu K H aw d.aY/\∀v H',bc H H'->me K H' v (d.dZ,d.dE,d.xl 0)->Q (3 v) H'
def FV{fF:Addr}{qM:FuncData}(F:cL K "measured" "measured" JY f fd)
  (GF:uZ P w K mg base 04 fF qM ["words","made"] (SQ 2 P w K mg base)) (kF:Kp K fF) (bF:Binds K qM ["words","made"] []) (mF:Mg mg "folded" fF)
  (GM:bQ P w K mg base bX 2 fM i7 ["place","word","parts"] (L5 K)) (FM:cL K "measure" "measure" D9 fM i7) (bM:Binds K i7 ["place","word","parts"] []) (mM:Mg mg "measure" fM):bQ P w K mg base bX 05 f fd ["words"] (L7 K):=by
 refine 17 aeW 24 ?_
 .let[p,aw,d,rfl,_]:=h;rfl
 .let[p,aw,d,rfl,hd,j8,hw,q]:=h;let[FW,L8,L9,Ma]:=Uc;let ew:([It2.bp d]).flatMap It2.aY=d.aY:=by simp[It2.aY]
  let B5:∀t∈[It2.bp d],t.ok p:=λt ht=>by rw[cT.mp ht];exact hd
  refine#[_,bN<|cJ<|DW GF hr 9 mF kF bF<|10 0<|bf (rC (v:=3 _) rfl mM rfl) bj,?_];refine#[_,9,λaZ s1 I=>#[aw,fM,d.aY,λvs H' Q=>L5 K vs H' Q E0,λi vs H'=>jN K H' i (cP [.bp d] i) vs.reverse,9,?_]];refine#[hw,j8,pN.QS GM FM bM,?_,λi vs H1 H2 h tp=>h.tup tp,λi vs H1 h=>?_,λi hi=>?_,λi n vs H1 h g=>?_,λi x vs H1 h g=>?_,?_,λtd ba vs v H' s' h1 h2 h3=>?_]
  .show jN K H 23 (cP [.bp d] 23) _;let e:=T2 (ts:=[.bp d]);rw[ew]at e;rw[e];exact .nil
  .let e:=h.len;let z:=T3 (ts:=[.bp d]) (i:=i);rw[Ae]at e;rw[ew]at z;lia
  .let[t,r,e1,e2,e3]:=so (ts:=[.bp d]) (i:=i) (by rw[ew];exact hi);rw[ew]at e2;rw[e2];cases t with
   |num n=>exact .inr #[n,9]
   |bp d'=>cases d'<;>exact .inl #[_,9]
  .let[t,r,e1,e2,e3]:=so (ts:=[.bp d]) (i:=i) (by rw[ew];exact(eA.mp h).1);rw[ew,h]at e2;cases t with
   |num m=>
    let e2:n=m:=V.int.inj<|dJ e2;subst e2;let g:jN K H1 (i+1) (cP [.bp d]<|i+1) vs.reverse:=g;rw[e3]at g;show jN K H1 i (cP [.bp d] i) (vs++[V.int n]).reverse;rw[e1,sR];exact .cons 9 g
   |bp d'=>cases d'<;>cases e2
  .let[t,r,e1,e2,e3]:=so (ts:=[.bp d]) (i:=i) (by rw[ew];exact(eA.mp h).1);rw[ew,h]at e2;let vB:t.ok p:=L1 i B5 t (by rw[e1];exact du);let g:jN K H1 (i+1) (cP [.bp d]<|i+1) vs.reverse:=g;rw[e3]at g;let[xs,ys,ev,g1,g2]:=g.split;let Mb:i+1+(t.kids.flatMap It2.aY).length=i+t.aY.length:=by rw[It2.sj t,eX];lia
   rw[Mb]at g2;let zE:vs=ys.reverse++xs.reverse:=by rw[<- sR,<- ev,CO]
   refine#[ys.reverse,xs,zE,?_,?_]
   .let el:=g1.len;rw[el];cases t with
    |num m=>cases e2
    |bp d'=>
     cases d' with
     |box x' l' r'=>
      let e2:x=x':=V.str.inj<|dJ e2;subst e2;exact(L6 _ vB).symm
     |times n=>let e2:x=_:=V.str.inj<|dJ e2;subst e2;exact FW.symm
     |back d'=>let e2:x=_:=V.str.inj<|dJ e2;subst e2;exact L8.symm
     |bo a b=>let e2:x=_:=V.str.inj<|dJ e2;subst e2;exact L9.symm
     |bg a b=>let e2:x=_:=V.str.inj<|dJ e2;subst e2;exact Ma.symm
   .intro pa H2 Q' tp hp hq;refine#[i,_,pa,_,9,hp,?_];let g1:=g1.tup tp;let g2:=g2.tup tp;let fin:∀v H3,bc H2 H3->Cd K H3 i t (3 v)->Q' (3 v) H3:=λv H3 s3 hv=>hq (3 v) H3 s3 (by
     show jN K H3 i (cP [.bp d] i) _;rw[e1,sR,CO];exact .cons hv<|g2.tup s3.tup)
    cases t with
    |num m=>cases e2
    |bp d'=>
     cases d' with
     |box x' l' r'=>
      let e2:x=x':=V.str.inj<|dJ e2;subst e2;exact .box _ _ (gq _ vB) λv H3 s3 hv=>fin v H3 s3 #[v,9,hv]
     |times n=>
      let e2:x=_:=V.str.inj<|dJ e2;subst e2;exact .box 1 1 du λv H3 s3 hv=>fin v H3 s3 #[v,9,hv]
     |back d'=>
      let e2:x=_:=V.str.inj<|dJ e2;cases g1 with
      |cons h1 r1=>
       cases r1;let[a,rfl,hf]:=h1;exact .back a _ e2 9 hf λv H3 s3 hv=>fin v H3 s3 #[v,9,hv]
     |bo a b=>
      let e2:x=_:=V.str.inj<|dJ e2;cases g1 with
      |cons h1 r1=>
       cases r1 with
       |cons h2 r2=>
        cases r2;let[a1,rfl,hf]:=h1;let[a2,rfl,ni]:=h2;exact .bo a1 a2 _ _ e2 9 hf ni λv H3 s3 hv=>fin v H3 s3 #[v,9,hv]
     |bg a b=>
      let e2:x=_:=V.str.inj<|dJ e2;cases g1 with
      |cons h1 r1=>
       cases r1 with
       |cons h2 r2=>
        cases r2;let[a1,rfl,hf]:=h1;let[a2,rfl,ni]:=h2;exact .bg a1 a2 _ _ e2 9 hf ni λv H3 s3 hv=>fin v H3 s3 #[v,9,hv]
  .cases d<;>exact#[_,9]
  .let h3:jN K H' 0 [.bp d] (vs++[v]).reverse:=h3;rw[sR]at h3;cases h3 with
   |cons hv r=>
    let[a,rfl,hf]:=hv;exact#[td,ba,_,9,h1,h2,q a H' s' hf]
def FX(K:Frag):Sp:=λvs H Q _=>∃(p:Int)(aw:Addr)(d:Dw),vs=[3 aw]/\d.ok p/\23<=200/\bu K H aw d.aY/\∀v H',bc H H'->bu K H' v [2 (d.dZ:Int),2 (d.dE:Int)]->Q (3 v) H'
def FY(F:cL K "wires" "wires" D6 f fd)
  (GM:bQ P w K mg base bX 05 fM i7 ["words"] (L7 K)) (kM:Kp K fM) (bM:Binds K i7 ["words"] []) (mM:Mg mg "measured" fM):bQ P w K mg base bX 06 f fd ["words"] (FX K):=by
 refine 17 aeX 24 ?_
 .let[p,aw,d,rfl,_]:=h;rfl
 .let[p,aw,d,rfl,hd,j8,hw,q]:=h;refine#[_,bN<|cJ<|fQ (jD K 9) (cY GM hr 9 mM kM bM .nil cZ<|10 0 bj) ik<|eM br,?_];refine#[_,9,p,aw,d,9,hd,j8,hw,λv H1 s1 hv=>?_];exact#[_,9,v,_,9,hv,λt H2 s2 ht=>q t H2 (s1.trans s2) ht]
inductive aeY(i:Nat)(x:Str)(ps:1 V)(H:Hp)(Q:VK):Prop where
 |times (h:x="times") (q:∀H',bc H H'->Q (2 ((i+2:Nat):Int)) H')
 |box (h:x ≠ "times") (hp:ps=[]) (q:∀H',bc H H'->Q (2 ((i+1:Nat):Int)) H')
 |vD (qs:1 V) (e:Nat) (h:x ≠ "times") (hp:ps=qs++[2 (e:Int)]) (q:∀H',bc H H'->Q (2 (e:Int)) H')
def Mc:Sp:=λvs H Q _=>∃(i:Nat)(x:Str)(pa:Addr)(ps:1 V),vs=[2 (i:Int),.str x,3 pa]/\H pa=13 ps/\aeY i x ps H Q
def aeZ:dz ["place","word","parts"] ["place","word","parts"] (cj D8):=(dW 9 9 9 19 9)
def Ud(F:cL K "end_of" "end_of" D8 f fd):bQ P w K mg base bX 1 f fd ["place","word","parts"] Mc:=by
 refine 17 aeZ 24 ?_
 .let[i,x,pa,ps,rfl,_]:=h;rfl
 .let[i,x,pa,ps,rfl,hp,h]:=h;refine#[_,bz (dq (cQ e8 (pv 1) c7<|cO _) (bN<|cJ<|bI ij (pv 0) br) eP)<|bN<|cJ<|C3 (Dc (pv 2) λ_=>9) (bZ (dC K 9) (pv 2)<|v3 v7 br)<|bI ij (pv 0) br,?_];cases h with
  |times hx q=>
   subst hx;refine#[_,9,9,_,9,?_];rw[aH 9];exact fw #[_,9,_,_,9,9,q _<|.refl _]
  |box hx oT q=>
   subst oT;refine#[_,9,9,_,9,?_];rw[ae (λz=>hx<|V.str.inj z)];refine dh #[_,9,_,.inl #[[],.of hp,9],dh #[_,9,_,_,9,9,q _<|.refl _]]
  |vD qs e hx oT q=>
   subst oT;refine#[_,9,9,_,9,?_];rw[ae (λz=>hx<|V.str.inj z)];refine dh #[_,9,_,.inl #[_,.of hp,9],?_];let ht:(qs++[V.int (e:Int)]).isEmpty=false:=by cases qs<;>rfl
   rw[ht];exact fw #[_,9,_,9,pa,_,-1,_,9,9,.of hp,OC _ _,q _<|.refl _]
noncomputable def kH:Nat->1 It2->1 V
 |_,[]=>[]
 |i,.num n::ts=>2 n::kH (i+1) ts
 |i,.bp d::ts=>2 ((i+d.aY.length:Nat):Int)::kH (i+23) ts
theorem FZ:∀(i:Nat)(ts:1 It2),(kH i ts).length=ts.length
 |_,[]=>rfl
 |i,.num n::ts=>by rw[eX,<- FZ (i+1) ts];rfl
 |i,.bp d::ts=>by rw[eX,<- FZ (i+23) ts];rfl
theorem Md:∀(i:Nat)(ts us:1 It2),kH i (ts++us)=kH i ts++kH (i+(ts.flatMap It2.aY).length) us
 |_,[],_=>rfl
 |i,.num n::ts,us=>by
  show V.int n::kH (i+1) (ts++us)=V.int n::(kH (i+1) ts++_);rw[Md (i+1) ts us,pe,cb,show It2.aY (.num n)=[V.int n] from 9,List.length_singleton,xQ]
 |i,.bp d::ts,us=>by
  show V.int _::kH (i+23) (ts++us)=V.int _::(kH (i+23) ts++_);rw[Md (i+23) ts us,pe,cb,show It2.aY (.bp d)=d.aY from 9,xQ]
def Ue(d:Dw)(i:Nat)(v:V):Prop:=∀d' r,cP [.bp d] i=.bp d'::r->v=2 ((i+d'.aY.length:Nat):Int)
structure Ce(ba:5 Key V)(d:Dw):Prop where
 keys:ba.map Prod.fst=(ju d.aY 23).map (λ(n:Nat)=>(Sum.inl (n:Int):Key))
 at':∀(i:Nat)(x:Str),d.aY[i]?=0 (.str x)->∃v,dX ba (Sum.inl (i:Int))=0 v/\Ue d i v
def Me(K:Frag):Sp:=λvs H Q _=>∃(p:Int)(aw:Addr)(d:Dw),vs=[3 aw]/\d.ok p/\23<=200/\bu K H aw d.aY/\∀td ba H',bc H H'->H' td=0 (.dK ba)->Ce ba d->Q (3 td) H'
def ae0:dz ["words"] ["words"] (cj JX):=(dW 9 9 9 19 9)
def Ug{fA:Addr}{je:FuncData}(F:cL K "ends" "ends" JX f fd)
  (GA:uZ P w K mg base 2 fA je ["words","made"] (Fb 1 P w K mg base)) (kA:Kp K fA) (bA:Binds K je ["words","made"] []) (mA:Mg mg "all_folded" fA)
  (GM:bQ P w K mg base bX 1 fM i7 ["place","word","parts"] Mc) (FM:cL K "end_of" "end_of" D8 fM i7) (bM:Binds K i7 ["place","word","parts"] []) (mM:Mg mg "end_of" fM):bQ P w K mg base bX 3 f fd ["words"] (Me K):=by
 refine 17 ae0 24 ?_
 .let[p,aw,d,rfl,_]:=h;rfl
 .let[p,aw,d,rfl,hd,j8,hw,q]:=h;let[FW,L8,L9,Ma]:=Uc;let ew:([It2.bp d]).flatMap It2.aY=d.aY:=by simp[It2.aY]
  let B5:∀t∈[It2.bp d],t.ok p:=λt ht=>by rw[cT.mp ht];exact hd
  refine#[_,bN<|cJ<|DW GA hr 9 mA kA bA<|10 0<|bf (rC (v:=3 _) rfl mM rfl) bj,?_];refine#[_,9,λaZ s1 I=>#[aw,fM,d.aY,λvs H' Q=>Mc vs H' Q E0,λi vs _=>vs.reverse=kH i (cP [.bp d] i),λi v _=>Ue d i v,9,?_]];refine#[hw,j8,pN.QS GM FM bM,?_,λi vs H1 H2 h tp=>h,λi v H1 H2 h tp=>h,λi vs H1 h=>?_,λi hi=>?_,λi n vs H1 h g=>?_,λi x vs H1 h g=>?_,λtd ba vs H' s' h1 h2 h3 _=>q td ba H' s' h1 #[h2,h3]]
  .let e:=T2 (ts:=[.bp d]);rw[ew]at e;show[]=kH _ (cP [.bp d] 23);rw[e];rfl
  .let e:=aj List.length h;let z:=T3 (ts:=[.bp d]) (i:=i);rw[Ae,FZ]at e;rw[ew]at z;lia
  .let[t,r,e1,e2,e3]:=so (ts:=[.bp d]) (i:=i) (by rw[ew];exact hi);rw[ew]at e2;rw[e2];cases t with
   |num n=>exact .inr #[n,9]
   |bp d'=>cases d'<;>exact .inl #[_,9]
  .let[t,r,e1,e2,e3]:=so (ts:=[.bp d]) (i:=i) (by rw[ew];exact(eA.mp h).1);rw[ew,h]at e2;cases t with
   |num m=>
    let e2:n=m:=V.int.inj<|dJ e2;subst e2;let g:vs.reverse=kH (i+1) (cP [.bp d]<|i+1):=g;rw[e3]at g;show(vs++[V.int n]).reverse=kH i (cP [.bp d] i);rw[e1,sR,g];rfl
   |bp d'=>cases d'<;>cases e2
  .let[t,r,e1,e2,e3]:=so (ts:=[.bp d]) (i:=i) (by rw[ew];exact(eA.mp h).1);rw[ew,h]at e2;let vB:t.ok p:=L1 i B5 t (by rw[e1];exact du);let g:vs.reverse=kH (i+1) (cP [.bp d]<|i+1):=g;rw[e3,Md]at g;let zE:vs=(kH (i+1+(t.kids.flatMap It2.aY).length) r).reverse++(kH (i+1) t.kids).reverse:=by rw[<- sR,<- g,CO]
   cases t with
   |num m=>cases e2
   |bp d'=>
    let Mb:i+1+((It2.bp d').kids.flatMap It2.aY).length=i+d'.aY.length:=by
     let:=aj List.length<|It2.sj<|.bp d'
     rw[eX,show It2.aY (.bp d')=d'.aY from 9]at this
     lia
    rw[Mb]at zE;refine#[_,_,zE,?_,?_]
    .rw[FZ];let e2:V.str x=(It2.bp d').head:=dJ e2;cases d' with
     |box x' l' r'=>cases e2;exact(L6 _ vB).symm
     |times n=>cases e2;exact FW.symm
     |back d'=>cases e2;exact L8.symm
     |bo a b=>cases e2;exact L9.symm
     |bg a b=>cases e2;exact Ma.symm
    .intro pa H2 Q' tp hp hq;let fin:∀(e:Nat) H3,bc H2 H3->e=i+d'.aY.length->Q' (2 (e:Int)) H3:=λe H3 s3 he=>hq _ H3 s3 (by
      show(_++[V.int (e:Int)]).reverse=kH i (cP [.bp d] i);rw[e1,sR,CO,he];rfl) (by
      intro d2 r2 z;rw[e1]at z;cases z;rw[he])
     refine#[i,x,pa,_,9,hp,?_];let e2:V.str x=(It2.bp d').head:=dJ e2;cases d' with
     |box y l r=>cases e2;exact .box (λz=>absurd (L6 _ vB)<|by rw[z];show ¬jI "times"=0;rw[FW];decide) 9 λH3 s3=>fin _ H3 s3 (by simp[Dw.aY])
     |times n=>cases e2;exact .times 9 λH3 s3=>fin _ H3 s3 (by simp[Dw.aY])
     |back a=>cases e2;exact .vD [] _ 16 9 λH3 s3=>fin _ H3 s3 (by simp[Dw.aY];lia)
     |bo a b=>cases e2;exact .vD [_] _ 16 9 λH3 s3=>fin _ H3 s3 (by simp[Dw.aY];lia)
     |bg a b=>cases e2;exact .vD [_] _ 16 9 λH3 s3=>fin _ H3 s3 (by simp[Dw.aY];lia)
theorem Uh:∀(i j:Nat)(ts:1 It2),cP ts (i+j)=cP (cP ts i) j
 |0,j,ts=>by rw[lP];cases ts<;>rfl
 |i+1,j,[]=>by rw[Ca,Ca,Ca]
 |i+1,j,t::ts=>by
  rw[Nat.succ_add];show cP (t.kids++ts) (i+j)=cP (cP (t.kids++ts) i) j;exact Uh i j _
theorem Ui:∀(n:Nat)(ts r:1 It2),(ts.flatMap It2.aY).length=n->cP (ts++r) n=r
 |0,[],r,_=>by cases r<;>rfl
 |0,t::ts,r,h=>absurd (y4 (ts:=t::ts) 17) 7
 |n+1,[],r,h=>by cases h
 |n+1,t::ts,r,h=>by
  show cP (t.kids++(ts++r)) n=r;rw[<- gR];refine Ui n (t.kids++ts) r ?_;rw[pe,It2.sj t,xJ,eX,cb]at h;rw[xP,cb];lia
def ae1{r:1 It2}:cP (t::r) t.aY.length=r:=(Ui _ [t] r 17)
def ae2{r:1 It2}(h:cP ts i=t::r):cP ts (i+t.aY.length)=r:=by rw[Uh,h,ae1]
def ae3{r:1 It2}(h:cP ts i=t::r):((ts.flatMap It2.aY).drop i).take t.aY.length=t.aY:=by
 rw[<- zJ,h,pe,List.take_left' 9]
def F0{r:1 It2}(h:cP ts i=t::r):i+t.aY.length<=(ts.flatMap It2.aY).length:=by
 let e:=aj List.length<|zJ i ts;rw[h,pe,cb,dU]at e
 let:=t.pos
 lia
def It2.okN(p:Int):6 It2
 | .num n=>0<=n/\n<p
 | .bp d=>d.ok p
def ae4{p:Int}(h:t.okN p):∀u∈t.kids,u.okN p:=by
 cases t with
 |num n=>intro u hu;cases hu
 |bp d=>
  cases d with
  |box=>intro u hu;cases hu
  |times n=>intro u hu;rw[cT.mp hu];exact h
  |back d=>intro u hu;rw[cT.mp hu];exact h
  |bo a b=>
   intro u hu;rcases(eK.mp hu)with z|z
   .rw[z];exact h.1
   .rw[cT.mp z];exact h.2
  |bg a b=>
   intro u hu;rcases(eK.mp hu)with z|z
   .rw[z];exact h.1
   .rw[cT.mp z];exact h.2
theorem Uj{p:Int}:∀(i:Nat){ts:1 It2},(∀t∈ts,t.okN p)->∀t∈cP ts i,t.okN p
 |0,ts,h=>by intro t ht;cases ts<;>exact h t ht
 |i+1,[],h=>by intro t ht;rw[Ca]at ht;cases ht
 |i+1,t::ts,h=>Uj i (ts:=t.kids++ts) λu hu=>by
  rcases(eB.mp hu)with z|z
  .exact ae4 (h t du) u z
  .exact h u<|gq _ z
def Ce.get{ba:5 Key V}{d d':Dw}{r:1 It2}(E:Ce ba d)(h:cP [.bp d] i=.bp d'::r):dX ba (Sum.inl (i:Int))=0 (2 ((i+d'.aY.length:Nat):Int)):=by
 let ew:([It2.bp d]).flatMap It2.aY=d.aY:=by simp[It2.aY]
 let hl:=F0 h;let hp:=(It2.bp d').pos;let[t,r',e1,e2,_]:=so (ts:=[.bp d]) (i:=i) (by lia);rw[h]at e1;cases e1;rw[ew]at e2;obtain⟨x,hx⟩:∃x,(It2.bp d').head=.str x:=by cases d'<;>exact#[_,9]
 rw[hx]at e2;let[v,h1,h2]:=E.at' i x e2;rw[h1,h2 d' r h]
def iK:1 Str:=["A","B","C","D"]
def jf:1 Str:=["k","l"]
noncomputable def mf:V->Str
 | .str x=>x
 | .int n=>toString n
 |_=>Str.empty
noncomputable def dY:1 Str->1 It2->5 Str (1 V)->7 (7<|5 Str<|1 V)
 | [],_,acc=>0 (0 acc)
 |_::_,[],_=>none
 |x::xs,t::ts,acc=>
  if x∈iK then match t with
   | .bp d=>if x∈acc.map Prod.fst then none else dY xs ts (acc++[(x,d.aY)])
   | .num _=>none
  else if x∈jf then match t with
   | .num n=>if x∈acc.map Prod.fst then none else dY xs ts (acc++[(x,[2 n])])
   | .bp _=>none
  else if mf t.head=x then dY xs (t.kids++ts) acc else 0 8
end S21
namespace L2
open PySem PySem.Spec PyProof.Rows
section
variable{prog:Program}{w:World}{κ:Type} [DecidableEq κ] {kd:KeyKind prog w κ}
variable{s:Shared}{A:Around}{E:QV}
end
end L2
namespace L2
open PySem PySem.Spec PyProof.Rows PySem.W
section
variable{w:World}{prog:Program}
def vE(h:Heap)(d:Addr)(es:Array DictEntry)(ep:Nat):Prop:=∃ob,h.get? d=0 ob/\ob.ExactDict/\ob.data=.dict es ep
def vE.typeIs{s:Shared}{d:Addr}{es:Array DictEntry}{ep:Nat}(x:vE s.heap d es ep):s.TypeIs (3 d) "dict":=(let ⟨ob,e,c,_⟩:=x;#[ob,e,c.1])
variable{A:Around}{E:QV}{s:Shared}{it d:Addr}{es:Array DictEntry}{i ep:Nat}
def Uk{Q:QV}(lo:(d==sysModules)=false)(hm:vE s.heap d es ep)
  (q:Q (3 22) { s with heap:=s.heap.push { cls:=.type "dict_keyiterator",data:=.fields #[3 d,.int 0 0,.int es.size 0,.int ep 0,] } }):15 prog w A (pyIter<|3 d) Q E s:=by
 let ty:=hm.typeIs;let[ob,e,c,ed]:=hm;refine wpAny_pyIter_slot ty PySem.F.slot_dict_iter<|aF PySem.F.slot_dict_iter ty PySem.F.entry_dict_iter ?_<|PySem.F.args_dict_iter_1 _;unfold Builtin.«dict.__iter__» Builtin.Dict.dictSlotNone;refine aq ?_;refine aq<|wpAny_notOrdered_dict ty ?_;refine(ao (a:=Value.ref d) ?_);show wpAny _ _ ((Builtin.Dict.showsAll d) >>= _) _ _ s;unfold Builtin.Dict.showsAll;rw[ag (by rw[lo];decide)];refine aq<|ao ?_;refine aq<|wpAny_dictEntries e ed ?_;refine aq<|wpAny_dictEpoch e ed ?_;refine aq<|aG<|ao #[_,9,"dict_keyiterator",_,#[_,gp _ 9,9],(HH).lookup,?_];simpa[rawInt]using q
def Ul{Q:7 5->6 Shared}(hit:s.heap.IsKeyIter it d i es.size ep)(hm:vE s.heap d es ep)(cX:i<es.size)
  (q:∀h',h'.IsKeyIter it d (i+1) es.size ep->Heap.SameBut it s.heap h'->Q (0 es[i].key) { s with heap:=h' }):15 prog w A (pyNext<|3 it) Q E s:=by
 let ty:=hit.typeIs;let[oi,ei,ci,di]:=id hit;let[ob,e,c,ed]:=id hm;unfold pyNext;refine aq (wpAny_attempt<|aE (name:=4 "__next__") ty HH (aF HH ty PySem.F.entry_dict_keyiterator_next ?_<|PySem.F.args_dict_keyiterator_next_1 _));refine aq<|ao ?_;refine aq ?_;refine aq ?_;first
  |refine aq<|aV ty<|ao ?_
  |refine aq<|aW ty<|ao ?_
 refine aq<|wpAny_fieldsOf ei di ?_;let own:Builtin.Dict_items.ownsTuple "dict_keyiterator"=false:=by decide
 simp only[own,if_false,xI];show wpAny _ _ (if(Value.ref d == .none)=6 then _ else _) _ _ s
 rw[ag (show ¬(Value.ref d == .none)=6 from ia)]
 refine aq<|ao ?_;refine aq<|wpAny_dictEntries e ed ?_;rw[ag 17];refine aq<|ao ?_;refine aq<|wpAny_dictEpoch e ed ?_;rw[ag 17];refine ao ?_;simp only[show ¬((i:Int)<0) from(by lia),if_false,Int.toNat_natCast,vT cX]
 refine aq ?_;first
  |refine aq<|aV ty<|ao ?_
  |refine aq<|aW ty<|ao ?_
 refine aq<|wpAny_isOneOf_keyiter ty ?_;show wpAny _ _ ((setField (3 it) 1<|rawInt<|(i:Int)+1) >>= _) _ _ s;refine aq<|wpAny_setField ei di 17 ?_;let Um:(s.heap.update it<|Obj.mapFields (·.setIfInBounds 1<|rawInt<|(i:Int)+1)).IsKeyIter it d (i+1) es.size ep:=
  #[_,rg _ ei<|Obj.isFreed_of_fields<|Obj.data_mapFields di _,(Obj.cls_mapFields ..).trans ci,(by rw[Obj.data_mapFields di];simp[rawInt])]
 refine aq<|aC<|aq ?_;refine(wpAny_isOneOf_keyiter (s:=({ s with heap:=s.heap.update it (Obj.mapFields (·.setIfInBounds 1<|rawInt<|(i:Int)+1)) }:Shared)) Um.typeIs ?_);show wpAny _ _ (pure es[i].key) _ _ (_:Shared);exact ao<|ao #[_,9,ao<|q _ Um<|o9 ..]
def Uo{Q:7 5->6 Shared}(hh:A.handled=8)(hit:s.heap.IsKeyIter it d i es.size ep)(hm:vE s.heap d es ep)(yQ:es.size<=i)
  (q:∀h',Heap.ExtBut it s.heap h'->Q 8 { s with heap:=h' }):15 prog w A (pyNext<|3 it) Q E s:=by
 let ty:=hit.typeIs;let[oi,ei,ci,di]:=id hit;let[ob,e,c,ed]:=id hm;unfold pyNext;refine aq (wpAny_attempt<|aE (name:=4 "__next__") ty HH (aF HH ty PySem.F.entry_dict_keyiterator_next ?_<|PySem.F.args_dict_keyiterator_next_1 _));refine aq<|ao ?_;refine aq ?_;refine aq ?_;first
  |refine aq<|aV ty<|ao ?_
  |refine aq<|aW ty<|ao ?_
 refine aq<|wpAny_fieldsOf ei di ?_;let own:Builtin.Dict_items.ownsTuple "dict_keyiterator"=false:=by decide
 simp only[own,if_false,xI];show wpAny _ _ (if(Value.ref d == .none)=6 then _ else _) _ _ s
 rw[ag (show ¬(Value.ref d == .none)=6 from ia)]
 refine aq<|ao ?_;refine aq<|wpAny_dictEntries e ed ?_;rw[ag 17];refine aq<|ao ?_;refine aq<|wpAny_dictEpoch e ed ?_;rw[ag 17];refine ao ?_;simp only[show ¬((i:Int)<0) from(by lia),if_false,Int.toNat_natCast,Array.getElem?_eq_none yQ]
 refine aq ?_;first
  |refine aq<|aV ty<|ao ?_
  |refine aq<|aW ty<|ao ?_
 show wpAny _ _ ((setField (3 it) 0 .none) >>= _) _ _ s;refine aq<|wpAny_setField ei di 17 ?_;show wpAny _ _ ((newExc (.type "StopIteration") []) >>= _) _ _ (_:Shared);refine aq ?_;simp only[newExc,newTuple];refine aq (aG (hd:=by size_fits) ?_);refine aq (m:=firstArgMember _ _) (wpAny_of_eq (a:=Value.none) (by first|rfl|(simp only[firstArgMember]<;>rfl)) ?_)
 refine aG (hd:=by size_fits) ?_;simp only[raiseNew];refine aq<|wpAny_handled (?_:_);rw[show(A.in1).handled=8 from hh]
 refine aq<|ao<|wpAny_throw<|aq ?_;refine(wpAny_isInstance (T := "StopIteration") (b:=true) #[_,gp _ 9,9] isSubtype_stop ?_);exact ao<|q _ ((o9 ..).extBut.push _ |>.push _)
end
abbrev Up(κ:Type):=κ×Addr×V
section
variable{P:Program}{w:World}{κ:Type} [DecidableEq κ] {kn:HeapKind P w κ} {H:Hp} {h:Heap} {a:Addr} {xs:1 (Up κ)}
end
section
variable{X:Cx}{κ:Type} [DecidableEq κ] {kn:HeapKind X.prog X.w κ} {R:Hp->κ->6 Addr} {aZ:5 Addr Obj} {σ:St} {H:Hp} {s:Shared} {a b:Addr} {xs:1 (Up κ)} {k:κ} {v d:V} {u r:Value} {A:Around} {E:QV}
end
section
variable{X:Cx}{κ:Type} [DecidableEq κ] {kn:HeapKind X.prog X.w κ} {R:Hp->κ->6 Addr} {o i e f value:Expr} {pos nK jV iG:Pos} {td ty tv tx:TE}
end
abbrev Pr:=4×4
theorem items_int{P:Program}{w:World}:∀{ks:4}{us:1 5},Vals (ks.map V.int) us->ItemsAre (intKind P w) ks us
 | [],_,.nil=>.nil
 |k::ks,_,.cons r t=>by
  let[tk,rfl]:=r;exact .cons (by show Value.isInt k (.int k tk)=6;simp[Value.isInt])<|items_int t
section
variable{X:Cx}{K:Frag}{P:Program}{w:World}{aZ:5 Addr Obj}{σ:St}{H:Hp}{s:Shared}
end
section
variable{K:Frag}{H H':Hp}{VS:1 V}{ps:1 Pr}
end
end L2
namespace S21
open PySem L2 Bw
variable{H:Hp}{a:Addr}{ba:5 Key V}
def Ga(x:Str)(L:1 Str):rO (.str x) (L.map V.str)=decide (x∈L):=by
 unfold rO;rw[List.any_map];induction L with
 |nil=>rfl
 |cons a L ih=>
  rw[List.any_cons,ih];show(a==x||decide (x∈L))=decide (x∈a::L);by_cases e:a=x
  .rw[e,aX,Bool.true_or,aH du]
  .rw[beq_eq_false_iff_ne.mpr e,Bool.false_or];exact decide_eq_decide.mpr #[gq _,λh=>(eK.mp h).resolve_left λz=>e z.symm]
def fq(K:Frag)(H:Hp):5 Key V->6 (5 Str<|1 V)
 | [],[]=>True
 |kv::ba,e::env=>kv.1=Sum.inr e.1/\(∃a,kv.2=3 a/\bu K H a e.2)/\fq K H ba env
 |_,_=>False
theorem fq.tup{K:Frag}{H H':Hp}(s:eI H H'):∀{ba:5 Key V}{env:5 Str (1 V)},fq K H ba env->fq K H' ba env
 | [],[],_=>trivial
 |_::_,_::_,⟨h1,⟨a,h2,h3⟩,h4⟩=>#[h1,#[a,h2,s.bK h3],fq.tup s h4]
 | [],_::_,h=>h.elim
 |_::_,[],h=>h.elim
theorem fq.keys{K:Frag}{H:Hp}:∀{ba:5 Key V}{env:5 Str (1 V)},fq K H ba env->ba.map Prod.fst=env.map λe=>Sum.inr e.1
 | [],[],_=>rfl
 |_::_,_::_,⟨h1,_,h4⟩=>by rw[ib,ib,h1,fq.keys h4]
 | [],_::_,h=>h.elim
 |_::_,[],h=>h.elim
def fq.len{K:Frag}{env:5 Str (1 V)}(h:fq K H ba env):ba.length=env.length:=by
 let:=aj List.length h.keys
 rwa[bH,bH]at this
def ae5{k:Key}{v:V}:dX ((k,v)::ba) k=0 v:=by
 unfold dX;rw[List.find?_cons_of_pos 17];rfl
def Uq{k k':Key}{v:V}(h:k'≠k):dX ((k',v)::ba) k=dX ba k:=by
 unfold dX;rw[List.find?_cons_of_neg (by simpa using h)]
theorem fq.miss{K:Frag}{H:Hp}{x:Str}:∀{ba:5 Key V}{env:5 Str (1 V)},fq K H ba env->x ∉ env.map Prod.fst->dX ba (Sum.inr x)=8
 | [],[],_,_=>rfl
 |(k,v)::ba,e::env,⟨h1,_,h4⟩,hx=>by
  rw[ib,eK,not_or]at hx
  let:=fq.miss h4 hx.2
  cases h1;exact(Uq λz=>hx.1 (Sum.inr.inj z).symm).trans this
 | [],_::_,h,_=>h.elim
 |_::_,[],h,_=>h.elim
theorem fq.hit{K:Frag}{H:Hp}{x:Str}{ws:1 V}:∀{ba:5 Key V}{env:5 Str (1 V)},fq K H ba env->env.lookup x=0 ws->∃a,dX ba (Sum.inr x)=8 a/\bu K H a ws
 | [],[],_,h=>by cases h
 |(k,v)::ba,(y,us)::env,⟨h1,⟨a,h2,h3⟩,h4⟩,h=>by
  cases h1;cases h2;rw[qe]at h;by_cases e:x=y
  .subst e;rw[aX]at h;cases h;exact#[a,ae5,h3]
  .rw[beq_eq_false_iff_ne.mpr e]at h;let[b,e1,e2]:=fq.hit h4 h;exact#[b,(Uq λz=>e (Sum.inr.inj z).symm).trans e1,e2]
 | [],_::_,h,_=>h.elim
 |_::_,[],h,_=>h.elim
theorem fq.snoc{K:Frag}{H:Hp}{x:Str}{ws:1 V}{a:Addr}(g:bu K H a ws):∀{ba:5 Key V}{env:5 Str (1 V)},fq K H ba env->fq K H (ba++[(Sum.inr x,3 a)]) (env++[(x,ws)])
 | [],[],_=>#[9,#[a,9,g],trivial]
 |_::_,_::_,⟨h1,h2,h4⟩=>#[h1,h2,fq.snoc g h4]
 | [],_::_,h=>h.elim
 |_::_,[],h=>h.elim
def qN{b:Bool}{A B:Prop}(h:b=6)(q:A):if b=6 then A else B:=by rw[af h];exact q
def oX{b:Bool}{A B:Prop}(h:b=false)(q:B):if b=6 then A else B:=by rw[ag (by rw[h];decide)];exact q
def ae6:1 V->Hp->6 VK:=λxs H Q=>(∃x,xs=[.str x]/\Q (.str x) H)\/(∃i:Int,xs=[2 i]/\i.natAbs.log2<1920/\Q (.str<|toString i) H)
def ae7{X:Cx}:gG X (.type "str") ae6:=(aeO)
def Ur{n:Int}(h0:0<=n)(h:n<200):n.natAbs.log2<1920:=by
 obtain⟨m,rfl⟩:∃m:Nat,n=m:=#[n.toNat,7]
 let:((m:Int).natAbs).log2<=m:=by
  rw[Int.natAbs_natCast];exact Nat.log2_le_self m
 lia
def ae8{ws us:1 V}{i n:Nat}(h:i+n<=ws.length)(e:(ws.drop i).take n=us):gJ ws (0 (i:Int)) (0 ((i+n:Nat):Int))=us:=by
 let e1:HT.cS ws.length 0 (0 (i:Int))=i:=by rw[HT.rK];lia
 let e2:HT.cS ws.length ws.length (0 ((i+n:Nat):Int))=i+n:=by rw[HT.rK];lia
 unfold gJ;rw[e1,e2,Nat.add_sub_cancel_left];exact e
structure Lets(K:Frag)(mg:Str->7 5)(aD aN:Addr):Prop where
 mD:mg "ANY_DRAWING"=8 aD
 mN:mg "ANY_NUMBER"=8 aN
 hD:∀H,bu K H aD (iK.map V.str)
 hN:∀H,bu K H aN (jf.map V.str)
def Mf{H':Hp}{u:HO}(h:Rd H a u)(s:bc H H'):Rd H' a u:=(h.elim (λz=>.inl<|s _ _ z) λ⟨o,z⟩=>.inr #[o,s _ _ z])
def ae9{b:Addr}{u o:HO}(n:a≠b)(h:Rd H a u):Rd (upd H b o) a u:=by unfold Rd;rw[cF n];exact h
def Us{k:Key}(e:Rd H a (.dK ba)):jd H a (kV k) (dX ba k):=(.inl #[ba,k,e,9,9])
def Found(K:Frag)(H:Hp)(Q:VK):6 (7<|5 Str<|1 V)
 |none=>∀H',bc H H'->Q .cI H'
 |some env=>∀td ba H',bc H H'->H' td=0 (.dK ba)->fq K H' ba env->Q (3 td) H'
def Mh(K:Frag):Sp:=λvs H Q _=>∃(p:Int)(aw be:Addr)(i:Nat)(x:Str)(ps:1 Str)(d:Dw)(kb:5 Key V)(res:7 (5 Str<|1 V)),vs=[3 aw,3 be,2 (i:Int),.str x]/\d.ok p/\p<=97/\23<=200/\bu K H aw d.aY/\Rd H be (.dK kb)/\Ce kb d/\
 Txt.split x (4 " ")=ps/\ps.length<=100/\11 (x.length+2)/\dY ps (cP [.bp d] i) []=0 res/\Found K H Q res
def xm:dz ["words","behind","at","text","found","place","piece"] ["words","behind","at","text"] (cj J2):=(dW 9 9 9 19 9)
set_option maxRecDepth 100000 in
def Ut{aD aN f:Addr}{fd:FuncData}(F:cL K "matched" "matched" J2 f fd)(T:Txt mg)(L:Lets K mg aD aN):bQ P w K mg base bX 1 f fd ["words","behind","at","text"] (Mh K):=by
 refine 17 xm 24 ?_
 .let[p,aw,be,i,x,ps,d,kb,res,rfl,_]:=h;rfl
 .let[p,aw,be,i,x,ps,d,kb,res,rfl,hd,hp,j8,hw,hb,hE,es,mw,hx,hm,q]:=h;let z:=jE;let gW:=uN hr;refine#[_,bz (cx (i:=04) xm.nd rfl (18) Qu)<|bz (cx (i:=05) xm.nd rfl (18) (pv 2))<|bz (kY lS 9 (iY K 9<|jX PySem.F.plainAttrs_str PySem.F.slot_str_split PySem.F.type_str_split L0 (pv 3)<|bf c7 bj) (cH (i:=06) xm.nd rfl (18))<|bN<|dq (cQ (DJ K 9) (pv 06) (rC (v:=3 _) rfl L.mD rfl) 9) (bz (Bd gW (pv 04) (pv 06) (fQ (jD K 9) (pv 0) (eM<|pv 05)<|eM<|pK gW (pv 1)<|pv 05) 9)<|bN<|cx (i:=05) xm.nd rfl (18) (pK gW (pv 1)<|pv 05))<|bN<|dq (cQ (DJ K 9) (pv 06) (rC (v:=3 _) rfl L.mN rfl) 9) (bz (Bd gW (pv 04) (pv 06) (fQ (jD K 9) (pv 0) (eM<|pv 05)<|eM<|bI ij (pv 05) br) 9)<|bN<|HV (i:=05) xm.nd rfl (18) br N6)<|bN<|dq (cQ e8 (jl ae7 9 T.str aaK<|bf (bZ (cU K 9) (pv 0)<|pv 05) bj) (pv 06)<|cO _) (bN<|HV (i:=05) xm.nd rfl (18) br N6)<|bN<|cJ lT)<|bN<|cJ<|pv 04,?_];intro td vn;let s0:=bc.upd vn (o:=.dK []);let g0:(upd H td<|.dK []) td=0 (.dK []):=bq;generalize upd H td (.dK [])=HA at s0 g0 |-;dsimp only[cg];refine#[_,9,?_];dsimp only[cg];refine#[_,9,9,_,_,9,9,16,hx,by rw[es];lia,λls iO=>?_];rw[es];let s1:=bc.upd iO (o:=.lst<|ps.map V.str);let gs:(9 HA ls<|ps.map V.str) ls=13 (ps.map V.str):=bq;let ne0:td≠ls:=ig g0 iO;let g1:=s1 _ _ g0;let Cf:=s0.trans s1;generalize 9 HA ls (ps.map V.str)=HB at s1 gs g1 Cf |-;let ew:([It2.bp d]).flatMap It2.aY=d.aY:=by simp[It2.aY]
  let cf:∀j,∀t∈cP [.bp d] j,t.okN p:=λj=>Uj j λt ht=>by rw[cT.mp ht];exact hd
  refine#[ls,9,#[_,.of gs],uH (xs:=ps.map V.str) (λk σ H'=>bc H H'/\H' ls=13 (ps.map V.str)/\∃(pl:Nat)(acc:5 Str (1 V))(ba:5 Key V)(s6:7 V),σ=[8 aw,8 be,0<|2 (i:Int),0<|.str x,8 td,0<|2 (pl:Int),s6]/\H' td=0 (.dK ba)/\fq K H' ba acc/\acc.length<=k/\dY (ps.drop k) (cP [.bp d] pl) acc=0 res) #[Cf,gs,i,[],[],8,9,g1,trivial,ck _,hm] (λk σ H' _ ⟨_,e,_⟩=>.of e) ?_ ?_]
  .rintro k x' σ H1 e9 ⟨sm,um,pl,acc,ba,s6,rfl,iT,hv,hk,em⟩;rw[dR]at e9;cases hi:ps[k]? with
   |none=>rw[hi]at e9;cases e9
   |some y=>
    rw[hi]at e9;cases e9;let xn:=(eA.mp hi).1;let ed:ps.drop k=y::ps.drop (k+1):=by rw[Hy xn,(eA.mp hi).2]
    rw[ed]at em;cases eT:cP [.bp d] pl with
    |nil=>rw[eT]at em;cases em
    |cons t r=>
     rw[eT]at em;let Gb:=Mf hb sm;let vb:=sm.bK hw;let cX:=F0 eT;let htp:=t.pos;rw[ew]at cX;let[t',r',e1,e2,e3]:=so (ts:=[.bp d]) (i:=pl) (by rw[ew];lia);rw[eT]at e1;cases e1;rw[ew]at e2;let rq:cP [.bp d] (pl+t.aY.length)=r:=ae2 eT;let Uu:=ae3 eT;rw[ew]at Uu;let Uv:∀e:Nat,e=pl+t.aY.length->gJ d.aY (0 (pl:Int)) (0 (e:Int))=t.aY:=λe he=>by
      subst he;exact ae8 cX Uu
     dsimp only[cg];let Cg:be≠td:=λe=>by rcases hb with hb|⟨_,hb⟩<;>(rw[e,vn]at hb;cases hb)
     let nlt:ls≠td:=iD ne0;let Gd:ba.length<sizeLine:=by rw[hv.len];lia
     refine#[_,9,aD,_,9,.inr<|L.hD _,9,19,_,9,?_];let put:∀(c:Addr)(H2:Hp)(ws:1 V),bc H1 H2->bu K H2 c ws->y ∉ acc.map Prod.fst->H2 td=0 (.dK ba)/\Rd (upd H2 td<|.dK<|gM ba (Sum.inr y)<|3 c) be (.dK kb)/\bc H (upd H2 td<|.dK<|gM ba (Sum.inr y)<|3 c)/\(upd H2 td<|.dK<|gM ba (Sum.inr y)<|3 c) ls=13 (ps.map V.str)/\fq K (upd H2 td<|.dK<|gM ba (Sum.inr y)<|3 c) (gM ba (Sum.inr y)<|3 c) (acc++[(y,ws)]):=λc H2 ws s2 hc hn=>by
      let g2:=s2 _ _ iT;refine#[g2,ae9 Cg<|Mf Gb s2,(sm.trans s2).put vn,by rw[cF nlt];exact s2 _ _ um,?_];let e:=JH (3 c)<|fq.miss (hv.tup s2.tup) hn;rw[e];exact(fq.snoc hc<|hv.tup s2.tup).tup<|eI.Bi g2
     by_cases h1:y∈iK
     .refine qN (by show rO (.str y) (iK.map V.str)=6;rw[Ga,aH h1]) ?_;unfold dY at em;rw[af h1]at em;cases t with
      |num n=>cases em
      |bp d'=>
       let em:(if y∈acc.map Prod.fst then none else dY (ps.drop<|k+1) r (acc++[(y,d'.aY)]))=0 res:=em
       by_cases hn:y∈acc.map Prod.fst
       .rw[af hn]at em;cases em
       rw[ag hn]at em;let eG:=hE.get eT;let dg:∀{H'},Rd H' be (.dK kb)->jd H' be (2 (pl:Int)) (0<|2 ((pl+d'.aY.length:Nat):Int)):=λ{H'} h=>by
        let:=Us (k:=Sum.inl (pl:Int)) h
        rw[eG]at this;exact this
       refine#[_,9,_,9,_,9,_,9,_,9,be,_,9,dg Gb,_,9,aw,_,9,vb,λc H2 s2 hc=>?_];rw[show gJ d.aY (0 (pl:Int)) (0 ((pl+d'.aY.length:Nat):Int))=d'.aY from Uv _ 9]at hc
       let[p1,p2,p3,p4,p5]:=put c H2 d'.aY s2 hc hn;refine#[_,9,_,9,td,_,9,uW.k (k:=Sum.inr y) p1 Gd,?_];refine#[_,9,_,9,be,_,9,dg p2,?_];exact#[p3,p4,pl+d'.aY.length,acc++[(y,d'.aY)],_,_,9,bq,p5,by rw[cb];show _+1<=_;lia,by rw[show cP [.bp d] (pl+d'.aY.length)=r from rq];exact em]
     refine oX (by show rO (.str y) (iK.map V.str)=false;rw[Ga,ae h1]) ?_;refine#[_,9,aN,_,9,.inr<|L.hN _,9,19,_,9,?_];by_cases h2:y∈jf
     .refine qN (by show rO (.str y) (jf.map V.str)=6;rw[Ga,aH h2]) ?_;unfold dY at em;rw[ag h1,af h2]at em;cases t with
      |bp d'=>cases em
      |num n=>
       let em:(if y∈acc.map Prod.fst then none else dY (ps.drop<|k+1) r (acc++[(y,[2 n])]))=0 res:=em
       by_cases hn:y∈acc.map Prod.fst
       .rw[af hn]at em;cases em
       rw[ag hn]at em;refine#[_,9,_,9,_,9,_,9,_,_,9,9,_,9,aw,_,9,vb,λc H2 s2 hc=>?_];let ec:gJ d.aY (0 (pl:Int)) (0 ((pl+1:Nat):Int))=[2 n]:=Uv (pl+1) 9;rw[show((pl+1:Nat):Int)=(pl:Int)+1 by lia]at ec;rw[ec]at hc;let[p1,p2,p3,p4,p5]:=put c H2 [2 n] s2 hc hn;refine#[_,9,_,9,td,_,9,uW.k (k:=Sum.inr y) p1 Gd,?_];refine#[_,9,_,_,9,9,?_];exact#[p3,p4,pl+1,acc++[(y,[2 n])],_,_,9,bq,p5,by rw[cb];show _+1<=_;lia,by rw[show cP [.bp d] (pl+1)=r from rq];exact em]
     refine oX (by show rO (.str y) (jf.map V.str)=false;rw[Ga,ae h2]) ?_;unfold dY at em;rw[ag h1,ag h2]at em;refine#[_,9,_,9,aw,_,(pl:Int),_,9,9,vb,cm (j:=pl) e2,?_];let Ge:=cf pl t (by rw[eT];exact du);by_cases h3:mf t.head=y
     .rw[af h3]at em;let fin:∀s6,bc H H1/\H1 ls=13 (ps.map V.str)/\∃(Uw:Nat)(acc:5 Str (1 V))(ba:5 Key V)(BP:7 V),[8 aw,8 be,0<|2 (i:Int),0<|.str x,8 td,0<|2<|(pl:Int)+1,s6]=[8 aw,8 be,0<|2 (i:Int),0<|.str x,8 td,0<|V.int (Uw:Int),BP]/\H1 td=0 (.dK ba)/\fq K H1 ba acc/\acc.length<=k+1/\dY (ps.drop<|k+1) (cP [.bp d] Uw) acc=0 res:=λs6=>
       #[sm,um,pl+1,acc,ba,s6,9,iT,hv,7,by rw[e3];exact em]
      cases t with
      |num n=>
       refine .inr #[n,9,Ur Ge.1 (by let:=Ge.2;lia),_,9,9,_,9,qN (aH<|aj V.str h3) #[_,9,_,_,9,9,fin _]]
      |bp d'=>
       cases d' with
       |_=>exact .inl #[_,9,_,9,9,_,9,qN (aH<|aj V.str h3) #[_,9,_,_,9,9,fin _]]
     .rw[ag h3]at em;cases em;cases t with
      |num n=>exact .inr #[n,9,Ur Ge.1 (by let:=Ge.2;lia),_,9,9,_,9,oX (ae λz=>h3<|V.str.inj z)<|q _ sm]
      |bp d'=>
       cases d' with
       |_=>exact .inl #[_,9,_,9,9,_,9,oX (ae λz=>h3<|V.str.inj z)<|q _ sm]
  .rintro σ H1 ⟨sm,um,pl,acc,ba,s6,rfl,iT,hv,hk,em⟩;rw[HG (by rw[bH];exact ck _)]at em;cases em;exact#[_,9,q td ba H1 sm iT hv]
end S21
namespace L2
open PySem PySem.Spec PyProof.Rows
def afa:typeLookup (.type "tuple") (dunderI "add")=pure 8:=by rw[aO,aQ];kernel_rfl
def Mi{prog:Program}{w:World}{A:Around}{E:QV}{s:Shared}{a b:Value}{S:PySem.Spec}{Q:QV}(ha:s.TypeIs a "tuple")(hb:s.TypeIs b "tuple")(g:Meets (Builtin.«tuple.__add__» #[[a,b],[]]) S)(h:S A (wants Q E) s):15 prog w A (inplaceOp .Add a b) Q E s:=(wpAny_inplaceOp_concat ha hb afa noFill_tuple_add seq_tuple_add<|call_meets PySem.F.slot_tuple_add ha PySem.F.entry_tuple_add (PySem.F.args_tuple_add_2 _ _) g h)
def afb{X:Cx}(K:Frag)(hK:X.K=K):HU X .Add (wG K):=by
 subst hK;rintro aZ s σ H x y v u Q I rx ry ⟨a,b,xs,ys,rfl,rfl,ha,hb,hz,q⟩;cases rx;cases ry;let[its,r1,[[c1,d1,t1,s1],o1,e1,n1,f1],_]:=I.tuple ha;let[ki,r2,[[c2,d2,t2,s2],o2,e2,n2,f2],_]:=I.tuple hb;simp only at e1 f1 e2 f2;subst e1 f1 e2 f2;by_cases hx:xs=[]
 .subst hx;cases r1;refine Mi #[_,o1,9] #[_,o2,9] (PV a b _ _ _ _ d1 d2 s1 s2 9) #[o1,o2,?_];exact#[3 b,H,I,9,q.old hb]
 .let hi:its≠[]:=λz=>hx<|r1.wo.mp z;by_cases hy:ys=[]
  .subst hy;let mQ:ki=[]:=r2.wo.mpr 9;refine Mi #[_,o1,9] #[_,o2,9] (tuple_addW1 a b its.toArray ki.toArray n1 n2 d1 d2 s1 s2 (by simpa using hi)<|by simp[mQ]) #[o1,o2,?_];exact#[3 a,H,I,9,q.old (by rw[iV];exact ha)]
  .let mQ:ki≠[]:=λz=>hy<|r2.wo.mp z;refine Mi #[_,o1,9] #[_,o2,9] (tuple_addW2 a b its.toArray ki.toArray n1 n2 d1 d2 s1 s2 (by simpa using hi) (by simpa using mQ)<|by rw[dP,dP,<- r1.length,<- r2.length];exact hz) #[o1,o2,?_];rw[show its.toArray++ki.toArray=(its++ki).toArray by simp];refine#[3 22,_,I.laid (t':=s.toks) (o:=.tup<|xs++ys) (λb ob q=>dD _ q) (ck _) ?_,9,q.new<|I.cf.fresh<|ck _];exact#[by rw[cb];exact hz,_,r1.append r2,qj.new _ _]
end L2
namespace S21
open PySem L2 Bw
variable{d:Dw}{env:5 Str (1 V)}{f:Addr}{fd:FuncData}{p:Int}{ws:1 V}{x:Str}
def oh(p:Int)(env:5 Str (1 V))(x:Str):7 (1 V):=
 if x=4 "k*l" then match env.lookup (4 "k"),env.lookup (4 "l") with
  |some [.int a],some [.int b]=>0 [2<|a*b%p]
  |_,_=>none
 else if x=4 "1/k" then match env.lookup (4 "k") with
  |some [.int a]=>0 [2<|dN p a]
  |_=>none
 else 0 ((env.lookup x).getD [.str x])
noncomputable def mh(p:Int)(env:5 Str (1 V)):1 Str->1 V->7 (1 V)
 | [],acc=>0 acc
 |x::xs,acc=>match oh p env x with
  |some ws=>mh p env xs (acc++ws)
  |none=>none
def dO(p:Int)(env:5 Str (1 V)):Prop:=∀x ws,env.lookup x=0 ws->ws.length<=200/\∀n,V.int n∈ws->0<=n/\n<p
def fq.xo{H:Hp}{td:Addr}{ba:5 Key V}(g:H td=0 (.dK ba))(h:fq K H ba env)(e:env.lookup x=0 ws):∃a,jd H td (.str x) (8 a)/\bu K H a ws:=by
 let[a,e1,e2]:=fq.hit h e
 let:=jd.k (k:=Sum.inr x) g
 rw[e1]at this;exact#[a,this,e2]
def fq.afc{H:Hp}{td:Addr}{ba:5 Key V}(g:H td=0 (.dK ba))(h:fq K H ba env)(e:env.lookup x=8):jd H td (.str x) 8:=by
 let e1:=fq.miss (x:=x) h (λm=>by
  let[[y,us],hm,rfl]:=dF.mp m;rw[List.lookup_eq_none_iff]at e
  let:=e _ hm
  simp at this)
 let:=jd.k (k:=Sum.inr x) g
 rw[e1]at this;exact this
def Ux(K:Frag):Sp:=λvs H Q _=>∃(p:Int)(td:Addr)(x:Str)(ba:5 Key V)(env:5 Str (1 V))(ws:1 V),vs=[2 p,3 td,.str x]/\2<=p/\p<=97/\H td=0 (.dK ba)/\fq K H ba env/\dO p env/\oh p env x=0 ws/\iX K H ws Q
def afd:dz ["p","found","piece"] ["p","found","piece"] (cj J5):=(dW 9 9 9 19 9)
set_option maxRecDepth 100000 in
def afe{fT:Addr}{ku:FuncData}(F:cL K "filled_piece" "filled_piece" J5 f fd)
  (GT:bQ P w K mg base bX 1 fT ku ["p","number"] La) (kT:Kp K fT) (bT:Binds K ku ["p","number"] []) (mT:Mg mg "turned" fT):bQ P w K mg base bX 2 f fd ["p","found","piece"] (Ux K):=by
 refine 17 afd 24 ?_
 .let[p,td,x,ba,env,ws,rfl,_]:=h;rfl
 .let[p,td,x,ba,env,ws,rfl,p2,cA,iT,hv,hn,hf,q]:=h;let z:=jE;let gW:=uN hr;refine#[_,bz (dq (cQ e8 (pv 2) c7<|cO _) (bN<|cJ<|eF<|bf (bI jb (bI x6 (bZ (cU K 9) (pK gW (pv 1) c7) br)<|bZ (cU K 9) (pK gW (pv 1) c7) br)<|pv 0) bj) eP)<|bz (dq (cQ e8 (pv 2) c7<|cO _) (bN<|cJ<|eF<|bf (cY GT hr 9 mT kT bT .nil cZ<|10 0<|bf (bZ (cU K 9) (pK gW (pv 1) c7) br) bj) bj) eP)<|bN<|cJ<|Qx gW (pv 1) (pv 2) (eF<|10 2 bj) #[9,9,9,9],?_];unfold oh at hf;refine#[_,9,9,_,9,?_];by_cases h1:x=4 "k*l"
  .rw[af h1]at hf;refine qN (aH<|aj V.str h1) ?_;split at hf
   case h_2=>cases hf
   case h_1 a b ea eb=>
    cases hf;let[ra,da,ta]:=hv.xo iT ea;let[rb,db,tb]:=hv.xo iT eb;let na:=(hn _ _ ea).2 a 17;let nb:=(hn _ _ eb).2 b 17;refine#[_,9,td,_,9,da,ra,_,0,_,9,9,ta,cm (j:=0) rfl,?_];refine#[_,9,td,_,9,db,rb,_,0,_,9,9,tb,cm (j:=0) rfl,a,b,9,9,.inl #[7,7],_,9,_,_,9,9,7,?_];exact#[by show 11 1;lia,λt ht=>q.new ht]
  rw[ag h1]at hf;refine oX (ae λe=>h1<|V.str.inj e) ?_;refine#[_,9,9,_,9,?_];by_cases h2:x=4 "1/k"
  .rw[af h2]at hf;refine qN (aH<|aj V.str h2) ?_;split at hf
   case h_2=>cases hf
   case h_1 a ea=>
    cases hf;let[ra,da,ta]:=hv.xo iT ea;refine#[_,9,_,9,td,_,9,da,ra,_,0,_,9,9,ta,cm (j:=0) rfl,p,a,9,p2,cA,?_];exact#[by show 11 1;lia,λt ht=>q.new ht]
  rw[ag h2]at hf;refine oX (ae λe=>h2<|V.str.inj e) ?_;refine#[_,9,td,9,.inl #[_,.inl iT],_,9,_,9,by show 11 1;lia,λt ht=>?_];cases hf;let st:=bc.upd ht (o:=.tup [.str x]);cases el:env.lookup x with
  |none=>exact#[8,(hv.tup st.tup).afc (st _ _ iT) el,q t _ st (by rw[el];exact .of bq)]
  |some us=>
   let[ra,da,ta]:=(hv.tup st.tup).xo (st _ _ iT) el;exact#[_,da,q ra _ st (by rw[el];exact ta)]
def aff(hn:dO p env)(h:oh p env x=0 ws):ws.length<=200:=by
 unfold oh at h;split at h
 .split at h
  .cases h;show 1<=200;decide
  .cases h
 .split at h
  .split at h
   .cases h;show 1<=200;decide
   .cases h
  .cases h;cases e:env.lookup x with
   |none=>show 1<=200;decide
   |some us=>exact(hn _ _ e).1
def Uy(K:Frag):Sp:=λvs H Q _=>∃(p:Int)(td:Addr)(x:Str)(ps:1 Str)(ba:5 Key V)(env:5 Str (1 V))(ws:1 V),vs=[2 p,3 td,.str x]/\2<=p/\p<=97/\H td=0 (.dK ba)/\fq K H ba env/\dO p env/\
 Txt.split x (4 " ")=ps/\ps.length<=100/\11 (x.length+2)/\mh p env ps []=0 ws/\iX K H ws Q
def Gf:dz ["p","found","text","words","piece"] ["p","found","text"] (cj J4):=(dW 9 9 9 19 9)
set_option maxRecDepth 100000 in
def afg{fP:Addr}{vF:FuncData}(F:cL K "filled" "filled" J4 f fd)
  (GP:bQ P w K mg base bX 2 fP vF ["p","found","piece"] (Ux K)) (kP:Kp K fP) (bP:Binds K vF ["p","found","piece"] []) (mP:Mg mg "filled_piece" fP):bQ P w K mg base bX 3 f fd ["p","found","text"] (Uy K):=by
 refine 17 Gf 24 ?_
 .let[p,td,x,ps,ba,env,ws,rfl,_]:=h;rfl
 .let[p,td,x,ps,ba,env,ws,rfl,p2,cA,iT,hv,hn,es,mw,hx,hf,q]:=h;let z:11 (100000:Nat):=by decide
  refine#[_,bz (cx (i:=3) Gf.nd rfl (18) (eF bj))<|bz (kY lS 9 (iY K 9<|jX PySem.F.plainAttrs_str PySem.F.slot_str_split PySem.F.type_str_split L0 (pv 2)<|bf c7 bj) (cH (i:=04) Gf.nd rfl (18))<|bN<|HV (i:=3) Gf.nd rfl (18) (cY GP hr 9 mP kP bP .nil cZ<|10 0<|10 1<|10 04 bj) (afb K 9))<|bN<|cJ<|pv 3,?_];refine#[by show 11 0;lia,λt0 Mj=>?_];let s0:=bc.upd Mj (o:=.tup []);let g0:bu K (upd H t0<|.tup []) t0 []:=.of bq;generalize upd H t0 (.tup [])=HA at s0 g0 |-;dsimp only[cg];refine#[_,9,9,_,_,9,9,16,hx,by rw[es];lia,λls iO=>?_];rw[es];let s1:=bc.upd iO (o:=.lst<|ps.map V.str);let gs:(9 HA ls<|ps.map V.str) ls=13 (ps.map V.str):=bq;let Cf:=s0.trans s1;let g1:=s1.bK g0;generalize 9 HA ls (ps.map V.str)=HB at s1 gs g1 Cf |-;refine#[ls,9,#[_,.of gs],uH (xs:=ps.map V.str) (λk σ H'=>bc H H'/\H' ls=13 (ps.map V.str)/\∃(t:Addr)(acc:1 V)(s4:7 V),σ=[0<|2 p,8 td,0<|.str x,8 t,s4]/\bu K H' t acc/\acc.length<=200*k/\mh p env (ps.drop k) acc=0 ws) #[Cf,gs,t0,[],8,9,g1,ck _,hf] (λk σ H' _ ⟨_,e,_⟩=>.of e) ?_ ?_]
  .rintro k x' σ H1 e9 ⟨sm,um,t,acc,s4,rfl,ht,hk,em⟩;rw[dR]at e9;cases hi:ps[k]? with
   |none=>rw[hi]at e9;cases e9
   |some y=>
    rw[hi]at e9;cases e9;let xn:=(eA.mp hi).1;let ed:ps.drop k=y::ps.drop (k+1):=by rw[Hy xn,(eA.mp hi).2]
    rw[ed]at em;unfold mh at em;cases ef:oh p env y with
    |none=>rw[ef]at em;cases em
    |some us=>
     rw[ef]at em;let Lr:=aff hn ef;dsimp only[cg];refine#[_,9,_,9,_,9,_,9,p,td,y,ba,env,us,9,p2,cA,sm _ _ iT,hv.tup sm.tup,hn,ef,λc H2 s2 hc=>?_];refine#[t,c,acc,us,9,9,s2.bK ht,hc,7,λt2 H3 s3 lJ=>?_];exact#[sm.trans<|s2.trans s3,(s2.trans s3) _ _ um,t2,acc++us,_,9,lJ,by rw[cb];lia,em]
  .rintro σ H1 ⟨sm,um,t,acc,s4,rfl,ht,hk,em⟩;rw[HG (by rw[bH];exact ck _)]at em;cases em;exact#[_,9,q t H1 sm ht]
open Classical in
def afh(n:Int):(if 6=6 then ! decide (dB [n]=dB [0])else decide (dB [n]=dB [0]))=decide (n≠0):=by
 rw[af 9];by_cases h:n=0
 .subst h;rw[aH 9,ae (λz=>z 9)];rfl
 .rw[aH h,ae λz=>h (by unfold dB at z;simpa using z)];rfl
inductive oY(p:Int)(env:5 Str (1 V)):Str->6 Bool where
 |xp (a c:Dw) (ha:env.lookup (4 "A")=0 a.aY) (hc:env.lookup (4 "C")=0 c.aY) (oa:a.ok p) (oc:c.ok p):oY p env (4 "cross") (decide<|a.dE=c.dZ)
 |scale (n:Int) (hk:env.lookup (4 "k")=0 [2 n]):oY p env (4 "turnscale") (decide<|n≠0)
 |any {x:Str} (h1:x≠4 "cross") (h2:x≠4 "turnscale"):oY p env x 6
def Uz(K:Frag):Sp:=λvs H Q _=>∃(p:Int)(x:Str)(td:Addr)(ba:5 Key V)(env:5 Str (1 V))(b:Bool),vs=[.str x,3 td]/\H td=0 (.dK ba)/\fq K H ba env/\dO p env/\oY p env x b/\∀H',bc H H'->Q (.bl b) H'
def afi:dz ["rule","found"] ["rule","found"] (cj J3):=(dW 9 9 9 19 9)
set_option maxRecDepth 100000 in
def UA{fW:Addr}{vz:FuncData}(F:cL K "allowed" "allowed" J3 f fd)
  (GW:bQ P w K mg base bX 06 fW vz ["words"] (FX K)) (kW:Kp K fW) (bW:Binds K vz ["words"] []) (mW:Mg mg "wires" fW):bQ P w K mg base bX 07 f fd ["rule","found"] (Uz K):=by
 refine 17 afi 24 ?_
 .let[p,x,td,ba,env,b,rfl,_]:=h;rfl
 .let[p,x,td,ba,env,b,rfl,iT,hv,hn,ha,q]:=h;let z:=jE;let hu:=hr.units;let gW:=uN hr;refine#[_,bz (dq (cQ e8 (pv 0) c7<|cO _) (bN<|cJ<|v8 e8 (bZ (cU K 9) (cY GW hr 9 mW kW bW .nil cZ<|bf (pK gW (pv 1) c7) bj) br) (bZ (cU K 9) (cY GW hr 9 mW kW bW .nil cZ<|bf (pK gW (pv 1) c7) bj) br)<|cO _) eP)<|bz (dq (cQ e8 (pv 0) c7<|cO _) (bN<|cJ<|v8 (yE K 9 hu) (pK gW (pv 1) c7) (eF<|bf br bj)<|cO _) eP)<|bN<|cJ CZ,?_];refine#[_,9,9,_,9,?_];cases ha with
  |xp a c ea ec oa oc=>
   refine qN (aH 9) ?_;let[ra,da,ta]:=hv.xo iT ea;refine#[_,9,td,_,9,da,p,ra,a,9,oa,(hn _ _ ea).1,ta,λv H1 s1 tY=>?_];let[rc,dc,tc]:=(hv.tup s1.tup).xo (s1 _ _ iT) ec;refine#[v,_,1,_,9,9,tY,cm (j:=1) rfl,_,9,td,_,9,dc,p,rc,c,9,oc,(hn _ _ ec).1,tc,λv2 H2 s2 u9=>?_];refine#[v2,_,0,_,9,9,u9,cm (j:=0) rfl,9,?_];let e:decide (V.int (a.dE:Int)=V.int (c.dZ:Int))=decide (a.dE=c.dZ):=decide_eq_decide.mpr #[λh=>by let:=V.int.inj h;lia,λh=>by rw[h]];rw[e];exact q _<|s1.trans s2
  |scale n ek=>
   refine oX (ae 16) ?_;refine#[_,9,9,_,9,qN (aH 9) ?_];let[rk,dk,tk]:=hv.xo iT ek;refine#[_,9,td,_,9,dk,by show 11 1;lia,λt ht=>?_];let st:=bc.upd ht (o:=.tup [2 0]);refine#[dB [n],dB [0],oG (r:=[n])<|st.bK tk,oG (r:=[0]) (.of bq),Jr 07 _,Jr 07 _,?_];rw[afh n];exact q _ st
  |any h1 h2=>
   refine oX (ae λe=>h1<|V.str.inj e) ?_;refine#[_,9,9,_,9,oX (ae λe=>h2<|V.str.inj e) ?_];exact q _<|.refl _
def afj(K:Frag)(rs:1 V)(cN:5 Str Str):Prop:=rs.length=cN.length/\∀(i:Nat)(v:V)(ab:Str×Str),rs[i]?=0 v->cN[i]?=0 ab->∃c,v=3 c/\∀H,bu K H c [.str ab.1,.str ab.2]
structure Gg(K:Frag)(mg:Str->7 5)(aR:Addr)(D:5 Str V)(R:Str->7 (5 Str Str)):Prop where
 nm:mg "RULES"=8 aR
 tab:∀h,K.In h->lE h aR D
 row:∀x cN,R x=0 cN->∃t rs,PyProof.Rows.KTD.datumAt x D=8 t/\(∀H,bu K H t rs)/\afj K rs cN
 jC:∀x cN,R x=0 cN->∀ab∈cN,(Txt.split ab.1<|4 " ").length<=100/\11 (ab.1.length+2)
inductive oj(p:Int)(x:Str)(ts:1 It2):5 Str Str->6 (7<|5 Str (1 V)×Str) where
 |nil:oj p x ts [] 8
 |miss {a b:Str} {cN:5 Str Str} {r:7 (5 Str (1 V)×Str)} (h:dY (Txt.split a<|4 " ") ts []=0 8) (g:oj p x ts cN r):oj p x ts ((a,b)::cN) r
 |Mk {a b:Str} {cN:5 Str Str} {env:5 Str (1 V)} {r:7 (5 Str (1 V)×Str)} (h:dY (Txt.split a<|4 " ") ts []=0 (0 env)) (hn:dO p env) (ha:oY p env x false) (g:oj p x ts cN r):oj p x ts ((a,b)::cN) r
 |hit {a b:Str} {cN:5 Str Str} {env:5 Str (1 V)} (h:dY (Txt.split a<|4 " ") ts []=0 (0 env)) (hn:dO p env) (ha:oY p env x 6):oj p x ts ((a,b)::cN) (0 (env,b))
def Fits(K:Frag)(H:Hp)(Q:VK):6 (7<|5 Str (1 V)×Str)
 |none=>∀H',bc H H'->Q .cI H'
 |some (env,b)=>∀t td ba H',bc H H'->H' td=0 (.dK ba)->fq K H' ba env->bu K H' t [3 td,.str b]->Q (3 t) H'
def Gh(K:Frag)(R:Str->7 (5 Str Str)):Sp:=λvs H Q _=>∃(p:Int)(aw be:Addr)(i:Nat)(x:Str)(d d':Dw)(r:1 It2)(kb:5 Key V)(cN:5 Str Str)(res:7 (5 Str (1 V)×Str)),vs=[3 aw,3 be,2 (i:Int),.str x]/\d.ok p/\p<=97/\23<=200/\bu K H aw d.aY/\Rd H be (.dK kb)/\Ce kb d/\
 cP [.bp d] i=.bp d'::r/\R x=0 cN/\oj p x (cP [.bp d] i) cN res/\Fits K H Q res
def Ml:dz ["words","behind","at","rule","pair","found"] ["words","behind","at","rule"] (cj J1):=(dW 9 9 9 19 9)
set_option maxRecDepth 100000 in
def UB{aR fM fA:Addr}{i7 je:FuncData}{D:5 Str V}{R:Str->7 (5 Str Str)}(F:cL K "fitting" "fitting" J1 f fd)(RT:Gg K mg aR D R)
  (GM:bQ P w K mg base bX 1 fM i7 ["words","behind","at","text"] (Mh K)) (kM:Kp K fM) (bM:Binds K i7 ["words","behind","at","text"] []) (mM:Mg mg "matched" fM)
  (GA:bQ P w K mg base bX 07 fA je ["rule","found"] (Uz K)) (kA:Kp K fA) (bA:Binds K je ["rule","found"] []) (mA:Mg mg "allowed" fA):bQ P w K mg base bX 08 f fd ["words","behind","at","rule"] (Gh K R):=by
 refine 17 Ml 24 ?_
 .let[p,aw,be,i,x,d,d',r,kb,cN,res,rfl,_]:=h;rfl
 .let[p,aw,be,i,x,d,d',r,kb,cN,res,rfl,hd,hp,j8,hw,hb,hE,eT,hR,hF,q]:=h;let z:=jE;let r1:eU 1 _:=hr.mono 7;let gW:=uN hr;refine#[_,bz (dq (NZ (abb gW (pv 2)<|pv 1) 9) (bN<|cJ lT) eP)<|bz (kY lS 9 (uS K 9<|QQ RT.tab (rC (v:=3 _) rfl RT.nm rfl) (pv 3) (eF bj) #[9,9,9,9]) (cH (i:=04) Ml.nd rfl (18))<|bz (cx (i:=05) Ml.nd rfl (18) (cY GM r1 9 mM kM bM .nil cZ<|10 0<|10 1<|10 2<|bf (bZ (cU K 9) (pv 04) br) bj))<|bN<|dq (PW.pt<|rE (cQ C8 (pv 05) lT<|cO _)<|sX<|vY<|cY GA hr 9 mA kA bA .nil cZ<|10 3<|10 05 bj) (bN<|cJ<|eF<|10 05<|bf (bZ (cU K 9) (pv 04) br) bj) eP)<|bN<|cJ lT,?_];let eG:=hE.get eT;let dg:jd H be (2 (i:Int)) (0<|2 ((i+d'.aY.length:Nat):Int)):=by
   let:=Us (k:=Sum.inl (i:Int)) hb
   rw[eG]at this;exact this
  refine#[_,9,_,9,be,_,9,dg,_,9,oX 9 ?_];let[t,rs,e1,hs,hP]:=RT.row x cN hR;refine#[9,_,9,by show 11 0;lia,λt0 Mj=>#[x,9,?_]];rw[e1];let s0:=bc.upd Mj (o:=.tup []);generalize upd H t0 (.tup [])=HA at s0 |-;refine#[t,9,#[_,hs _],Yr (xs:=rs) (λk σ H'=>bc H H'/\∃s4 s5,σ=[8 aw,8 be,0<|2 (i:Int),0<|.str x,s4,s5]/\oj p x (cP [.bp d] i) (cN.drop k) res) #[s0,8,8,9,hF] (λ_ _ _ _ _=>hs _) ?_ ?_]
  .rintro k v σ H1 hk ⟨sm,s4,s5,rfl,zL⟩;let xn:k<cN.length:=by rw[<- hP.1];exact(eA.mp hk).1
   let ed:cN.drop k=cN[k]::cN.drop (k+1):=Hy xn;let em:cN[k]∈cN:=pd xn;let[c,rfl,hc]:=hP.2 k v cN[k] hk<|cD xn;let[BU,ni]:=RT.jC x cN hR _ em;rw[ed]at zL;generalize cN[k]=ab at hc BU ni zL;let[a,b]:=ab;dsimp only[cg];let ask:∀(rm:7 (5 Str<|1 V))(Q':VK),dY (Txt.split a<|4 " ") (cP [.bp d] i) []=0 rm->Found K H1 Q' rm->Mh K [3 aw,3 be,2 (i:Int),.str a] H1 Q' E0:=λrm Q' h hq=>
    #[p,aw,be,i,a,_,d,kb,rm,9,hd,hp,j8,sm.bK hw,Mf hb sm,hE,9,BU,ni,h,hq]
   refine#[_,9,_,9,_,9,_,9,c,_,0,_,9,9,hc _,cm (j:=0) rfl,?_];cases zL with
   |miss h g=>
    refine ask 8 _ h λH2 s2=>?_;dsimp only[cg];exact#[_,9,9,_,9,oX 17<|dh #[sm.trans s2,_,_,9,g]]
   | @Mk _ _ _ env _ h hn ha g=>
    refine ask (0 env) _ h λtd ba H2 s2 iT hv=>?_;dsimp only[cg];refine#[_,9,9,_,9,qN 17 #[_,9,_,9,p,x,td,ba,env,false,9,iT,hv,hn,ha,λH3 s3=>?_]];exact#[false,9,dh #[sm.trans<|s2.trans s3,_,_,9,g]]
   | @hit _ _ _ env h hn ha=>
    refine ask (0 env) _ h λtd ba H2 s2 iT hv=>?_;dsimp only[cg];refine#[_,9,9,_,9,qN 17 #[_,9,_,9,p,x,td,ba,env,6,9,iT,hv,hn,ha,λH3 s3=>?_]];refine#[6,9,fw #[_,9,_,9,c,_,1,_,9,9,hc _,cm (j:=1) rfl,by show 11 2;lia,λt2 lJ=>?_]];let K2:=bc.upd lJ (o:=.tup [3 td,.str b]);let Mm:=s3.trans K2;exact q t2 td ba _ (sm.trans<|s2.trans Mm) (Mm _ _ iT) (hv.tup Mm.tup)<|.of bq
  .rintro σ H1 ⟨sm,s4,s5,rfl,zL⟩;rw[hP.1,List.drop_length]at zL;cases zL;exact q _ sm
def afk{i:Nat}(h:i<=ws.length):gJ ws 8 (0 (i:Int))=ws.take i:=by
 unfold gJ;rw[HT.wk,HT.rK,xO h];simp
def afl{i:Nat}(h:i<=ws.length):gJ ws (0 (i:Int)) 8=ws.drop i:=by
 unfold gJ;rw[HT.wk,HT.rK,xO h,lO (by rw[dU];exact ck _)]
def Mn(K:Frag)(R:Str->7 (5 Str Str)):Sp:=λvs H Q _=>∃(p:Int)(aw:Addr)(i:Nat)(x b:Str)(d d':Dw)(r:1 It2)(cN:5 Str Str)(env:5 Str (1 V))(ws:1 V),vs=[2 p,3 aw,2 (i:Int),.str x]/\d.ok p/\2<=p/\p<=97/\23<=200/\bu K H aw d.aY/\
 cP [.bp d] i=.bp d'::r/\R x=0 cN/\oj p x (cP [.bp d] i) cN (0 (env,b))/\dO p env/\(Txt.split b<|4 " ").length<=100/\11 (b.length+2)/\mh p env (Txt.split b<|4 " ") []=0 ws/\ws.length<=1000/\iX K H (d.aY.take i++ws++d.aY.drop (i+d'.aY.length)) Q
def Mo:dz ["p","words","at","rule","behind","fit"] ["p","words","at","rule"] (cj J0):=(dW 9 9 9 19 9)
set_option maxRecDepth 100000 in
def afm{fE fF fL:Addr}{Ci qM mY:FuncData}{R:Str->7 (5 Str Str)}(F:cL K "moved" "moved" J0 f fd)
  (GE:bQ P w K mg base bX 3 fE Ci ["words"] (Me K)) (kE:Kp K fE) (bE:Binds K Ci ["words"] []) (mE:Mg mg "ends" fE)
  (GF:bQ P w K mg base bX 08 fF qM ["words","behind","at","rule"] (Gh K R)) (kF:Kp K fF) (bF:Binds K qM ["words","behind","at","rule"] []) (mF:Mg mg "fitting" fF)
  (GL:bQ P w K mg base bX 3 fL mY ["p","found","text"] (Uy K)) (kL:Kp K fL) (bL:Binds K mY ["p","found","text"] []) (mL:Mg mg "filled" fL):bQ P w K mg base bX 09 f fd ["p","words","at","rule"] (Mn K R):=by
 refine 17 Mo 24 ?_
 .let[p,aw,i,x,b,d,d',r,cN,env,ws,rfl,_]:=h;rfl
 .let[p,aw,i,x,b,d,d',r,cN,env,ws,rfl,hd,p2,cA,j8,hw,eT,hR,hF,hn,Gb,qO,hf,Dl,q]:=h;let z:11 (10000:Nat):=by decide
  let r3:eU 3 _:=hr.mono 7;let gW:=uN hr;refine#[_,bz (cx (i:=04) Mo.nd rfl (18) (cY GE r3 9 mE kE bE .nil cZ<|10 1 bj))<|bz (cx (i:=05) Mo.nd rfl (18) (cY GF hr 9 mF kF bF .nil cZ<|10 1<|10 04<|10 2<|10 3 bj))<|bz (dq (cQ Oj (pv 05) lT<|cO _) (bN N4) eP)<|bN<|cJ<|bI (jY K 9) (bI (jY K 9) (fQ (jD K 9) (pv 1) ik<|eM<|pv 2)<|cY GL r3 9 mL kL bL .nil cZ<|10 0<|bf (bZ (cU K 9) (pv 05) br)<|bf (bZ (cU K 9) (pv 05) br) bj)<|fQ (jD K 9) (pv 1) (eM<|pK gW (pv 04)<|pv 2) ik,?_];let ew:([It2.bp d]).flatMap It2.aY=d.aY:=by simp[It2.aY]
  let cX:=F0 eT;rw[ew,show It2.aY (.bp d')=d'.aY from 9]at cX
  refine#[_,9,p,aw,d,9,hd,j8,hw,λbe kb H1 s1 gb hE=>?_];dsimp only[cg];refine#[_,9,_,9,_,9,_,9,p,aw,be,i,x,d,d',r,kb,cN,_,9,hd,cA,j8,s1.bK hw,.inl gb,hE,eT,hR,hF,λt td ba H2 s2 iT hv ht=>?_];dsimp only[cg];refine#[_,9,9,_,9,oX 17 ?_];let s12:=s1.trans s2;refine#[_,9,_,9,_,9,aw,_,9,s12.bK hw,λc1 H3 s3 Dp=>?_];rw[afk 7]at Dp;refine#[_,9,_,9,t,_,0,_,9,9,s3.bK ht,cm (j:=0) rfl,_,9,t,_,1,_,9,9,s3.bK ht,cm (j:=1) rfl,?_];refine#[p,td,b,_,ba,env,ws,9,p2,cA,s3 _ _ iT,hv.tup s3.tup,hn,9,Gb,qO,hf,λc2 H4 s4 tq=>?_];refine#[c1,c2,_,_,9,9,s4.bK Dp,tq,by rw[cV];lia,λc3 H5 s5 hc3=>?_];let eG:=hE.get eT;let vp:=s2.trans<|s3.trans<|s4.trans s5;let dg:jd H5 be (2 (i:Int)) (0<|2 ((i+d'.aY.length:Nat):Int)):=by
   let:=jd.k (k:=Sum.inl (i:Int)) (vp _ _ gb)
   rw[eG]at this;exact this
  refine#[_,9,_,9,_,9,be,_,9,dg,_,9,aw,_,9,(s1.trans vp).bK hw,λc4 H6 s6 UC=>?_];rw[afl 7]at UC;refine#[c3,c4,_,_,9,9,s6.bK hc3,UC,by rw[cb,cV,dU];lia,λc5 H7 s7 hc5=>?_];exact q c5 H7 (s1.trans<|vp.trans<|s6.trans s7) hc5
def afn{v:Value}{x:V}(h:xX v=0 x):RelV x v:=by
 cases v<;>cases h<;>first|rfl|exact#[_,9]
theorem UD:∀{its:1 5}{xs:1 V},its.mapM xX=0 xs->Vals xs its
 | [],xs,h=>by cases h;exact .nil
 |v::its,xs,h=>by
  rw[List.mapM_cons]at h;cases e:xX v with
  |none=>rw[e]at h;cases h
  |some x=>
   rw[e]at h;cases e2:its.mapM xX with
   |none=>rw[e2]at h;cases h
   |some ys=>rw[e2]at h;cases h;exact .cons (afn e)<|UD e2
def vG(K:Frag)(t:Addr):7 (1 V):=match K.lookup t with
 |some ⟨.type "tuple",_,.seq its _,_⟩=>if its.size<=1000 then its.toList.mapM xX else none
 |_=>none
def Gi{K:Frag}{t:Addr}{xs:1 V}(h:vG K t=0 xs)(H:Hp):bu K H t xs:=by
 unfold vG at h;split at h
 case h_2=>exact nomatch h
 case h_1 d its n sl ho=>
  split at h
  case isFalse=>cases h
  case isTrue hz=>exact .inr #[_,its,n,ho,9,9,eh hz 16,UD h]
def Gj:5 Str (5 Str Str):=[("twice",[("back back A","A")]),("turnthen",[("back then A B","then back B back A")]),("turnbeside",[("back beside A B","beside back A back B")]),("thread",[("then then A B C","then A then B C")]),("stack",[("beside beside A B C","beside A beside B C")]),("cross",[("then beside A B beside C D","beside then A C then B D")]),("lone",[("then id A","A"),("then A id","A")]),("bare",[("beside empty A","A"),("beside A empty","A")]),("undo",[("then swap swap","beside id id")]),("copyend",[("then copy beside end id","id")]),("copyturn",[("then copy swap","copy")]),("copycopy",[("then copy beside copy id","then copy beside id copy")]),("addnone",[("then beside none id add","id")]),("addturn",[("then swap add","add")]),("addadd",[("then beside add id add","then beside id add add")]),("scale",[("then times k times l","times k*l")]),("one",[("times 1","id")]),("nought",[("times 0","then end none")]),("sumcopy",[("then add copy","then beside copy copy then beside id beside swap id beside add add")]),("sumend",[("then add end","beside end end")]),("nonecopy",[("then none copy","beside none none")]),("noneend",[("then none end","empty")]),("scalecopy",[("then times k copy","then copy beside times k times k")]),("scaleadd",[("then add times k","then beside times k times k add")]),("bend",[("then beside cup id beside id back cup","id")]),("turnscale",[("back times k","times 1/k")]),("meet",[("then copy back copy","id")]),("turnid",[("back id","id"),("back swap","swap"),("back empty","empty")])]
def kI(x:Str):7 (5 Str Str):=Gj.lookup x
def UE:(Gj.all λe=>e.2.all λab=>decide ((Txt.split ab.1<|4 " ").length<=100)&&decide (ab.1.length<=100)&&decide ((Txt.split ab.2<|4 " ").length<=100)&&decide (ab.2.length<=100))=6:=by decide +kernel
theorem Gk{x:Str}{cN:5 Str Str}:∀{L:5 Str (5 Str Str)},L.lookup x=0 cN->(x,cN)∈L
 | [],h=>by cases h
 |(y,us)::L,h=>by
  rw[qe]at h;by_cases e:x=y
  .subst e;rw[aX]at h;cases h;exact du
  .rw[beq_eq_false_iff_ne.mpr e]at h;exact gq _<|Gk h
def UG(K:Frag)(v:V)(ab:Str×Str):Bool:=match v with
 | .ref c=>decide (vG K c=0 [.str ab.1,.str ab.2])
 |_=>false
def Mp(K:Frag)(a:Addr):Bool:=pM K a&&Gj.all λe=>(match PyProof.Rows.KTD.datumAt e.1 (gN K a) with
 |some (.ref t)=>(match vG K t with
  |some rs=>decide (rs.length=e.2.length)&&(rs.zip e.2).all λq=>UG K q.1 q.2
  |none=>false)
 |_=>false)
def afo{K:Frag}{mg:Str->7 5}{a:Addr}(nm:Mg mg "RULES" a)(h:Mp K a=6):Gg K mg a (gN K a) kI:=by
 unfold Mp at h;rw[dM]at h;refine#[nm,λ_ X=>D0 X h.1,λx cN hx=>?_,λx cN hx ab vj=>?_]
 .let:=gF.mp h.2 _<|Gk hx
  split at this
  case h_2=>cases this
  case h_1 t e=>
   split at this
   case h_2=>cases this
   case h_1 rs er=>
    rw[dM]at this;refine#[t,rs,e,Gi er,aM this.1,λi v ab hv vj=>?_];let z:=gF.mp this.2 (v,ab) (dS (i:=i)<|by rw[List.getElem?_zip_eq_some];exact#[hv,vj]);unfold UG at z;split at z
    case h_2=>cases z
    case h_1 c ec=>exact#[c,ec,Gi<|aM z]
 .let:=gF.mp (gF.mp UE _<|Gk hx) ab vj
  simp only[dM,aK]at this;exact#[this.1.1.1,eh (Nat.add_le_add_right this.1.1.2 2) 16]
def afp{K:Frag}{mg:Str->7 5}{aD aN:Addr}(mD:Mg mg "ANY_DRAWING" aD)(mN:Mg mg "ANY_NUMBER" aN)(hD:vG K aD=0 (iK.map V.str))(hN:vG K aN=0 (jf.map V.str)):Lets K mg aD aN:=(#[mD,mN,Gi hD,Gi hN])
section
variable{p:Int}{x:Str}{xs:1 Str}{t:It2}{ts:1 It2}{acc:5 Str (1 V)}
def jv(h:(iK++jf).contains x=false)(e:mf t.head=x):dY (x::xs) (t::ts) acc=dY xs (t.kids++ts) acc:=by
 let h1:x ∉ iK:=λm=>by rw[kQ.mpr (o8 _ m)]at h;cases h
 let h2:x ∉ jf:=λm=>by rw[kQ.mpr (ji _ m)]at h;cases h
 cases t<;>(rw[dY,ag h1,ag h2];exact af e)
def zM(h:(iK++jf).contains x=false)(e:mf t.head≠x):dY (x::xs) (t::ts) acc=0 8:=by
 let h1:x ∉ iK:=λm=>by rw[kQ.mpr (o8 _ m)]at h;cases h
 let h2:x ∉ jf:=λm=>by rw[kQ.mpr (ji _ m)]at h;cases h
 cases t<;>(rw[dY,ag h1,ag h2];exact ag e)
def zN(h:iK.contains x=6)(n:(acc.map Prod.fst).contains x=false):dY (x::xs) (.bp d::ts) acc=dY xs ts (acc++[(x,d.aY)]):=by
 let h2:x ∉ acc.map Prod.fst:=λm=>by rw[kQ.mpr m]at n;cases n
 rw[dY,af (kQ.mp h)];exact ag h2
def UH{m:Int}(h0:iK.contains x=false)(h:jf.contains x=6)(n:(acc.map Prod.fst).contains x=false):dY (x::xs) (.num m::ts) acc=dY xs ts (acc++[(x,[2 m])]):=by
 let h1:x ∉ iK:=λm=>by rw[kQ.mpr m]at h0;cases h0
 let h2:x ∉ acc.map Prod.fst:=λm=>by rw[kQ.mpr m]at n;cases n
 rw[dY,ag h1,af (kQ.mp h)];exact ag h2
end
def afq{a b c e:Dw}{r:1 It2}:dY (Txt.split (4 "then beside A B beside C D")<|4 " ") (.bp (.bg (.bo a b)<|.bo c e)::r) []=0 (0 [(4 "A",a.aY),(4 "B",b.aY),(4 "C",c.aY),(4 "D",e.aY)]):=by
 rw[show Txt.split (4 "then beside A B beside C D") (4 " ")=[4 "then",4 "beside",4 "A",4 "B",4 "beside",4 "C",4 "D"] by decide +kernel];refine Eq.trans (jv 19<|by rfl) ?_;refine Eq.trans (jv 19<|by rfl) ?_;refine(zN 19 9).trans ?_;refine(zN 19<|by show[4 "A"].contains _=false;decide +kernel).trans ?_;refine Eq.trans (jv 19<|by rfl) ?_;refine(zN 19<|by show[4 "A",4 "B"].contains _=false;decide +kernel).trans ?_;exact(zN 19<|by show[4 "A",4 "B",4 "C"].contains _=false;decide +kernel).trans 9
section
variable{p:Int}{x:Str}{xs:1 Str}{env:5 Str (1 V)}{acc ws:1 V}
end
inductive Pt where
 |any (x:Str)
 |box (x:Str)
 |tk (x:Str)
 |tn (x:Str) (n:Int)
 |back (a:Pt)
 |ft (a b:Pt)
 |bg (a b:Pt)
namespace Pt
noncomputable def text:Pt->1 Str
 |any x=>[x]
 |box x=>[x]
 |tk x=>[4 "times",x]
 |tn x _=>[4 "times",x]
 |back a=>4 "back"::a.text
 |ft a b=>4 "beside"::(a.text++b.text)
 |bg a b=>4 "then"::(a.text++b.text)
noncomputable def mt:Pt->Dw->5 Str (1 V)->7 (5 Str<|1 V)
 |any x,d,e=>0 (e++[(x,d.aY)])
 |box x,.box y _ _,e=>if y=x then 0 e else none
 |tk x,.times n,e=>0 (e++[(x,[2 n])])
 |tn _ n,.times m,e=>if m=n then 0 e else none
 |back a,.back d,e=>a.mt d e
 |ft a b,.bo c d,e=>(a.mt c e).bind (b.mt d)
 |bg a b,.bg c d,e=>(a.mt c e).bind (b.mt d)
 |_,_,_=>none
noncomputable def lets:Pt->1 Str
 |any x=>[x]
 |tk x=>[x]
 |back a=>a.lets
 |ft a b=>a.lets++b.lets
 |bg a b=>a.lets++b.lets
 |_=>[]
def mi:1 Str:=[4 "times",4 "back",4 "beside",4 "then"]
noncomputable def j9:Pt->Bool
 |any x=>decide (x∈iK)
 |box x=>decide (x ∉ iK)&&decide (x ∉ jf)&&decide (x ∉ mi)
 |tk x=>decide (x ∉ iK)&&decide (x∈jf)
 |tn x n=>decide (x ∉ iK)&&decide (x ∉ jf)&&decide (0<=n)&&decide (n<97)&&decide (mf (2 n)=x)
 |back a=>a.j9
 |ft a b=>a.j9&&b.j9
 |bg a b=>a.j9&&b.j9
end Pt
def afr:og.all (λq=>decide<|q.1 ∉ Pt.mi)=6:=by decide +kernel
def afs{l r:Nat}(h:(x,l,r)∈og):x ∉ Pt.mi:=(aM<|gF.mp afr _ h)
def aft:((List.range 97).all λm=>(List.range 97).all λn=>decide<|4 (toString (m:Int))=4 (toString (n:Int))->m=n)=6:=by decide +kernel
def afu{m n:Int}(m0:0<=m)(m1:m<97)(n0:0<=n)(n1:n<97)(h:m≠n):mf (2 m)≠mf (2 n):=(λe=>by
 let z:=gF.mp (gF.mp aft m.toNat<|uz.mpr 7) n.toNat<|uz.mpr 7;rw[aK,show((m.toNat:Nat):Int)=m by lia,show((n.toNat:Nat):Int)=n by lia]at z;let e':4 (toString m)=4 (toString n):=e;exact h (by let:=z e';lia))
def afv:Pt.mi.all (λx=>decide (x ∉ iK)&&decide (x ∉ jf))=6:=by decide +kernel
def UI(h:x∈Pt.mi):x ∉ iK/\x ∉ jf:=by
 let:=gF.mp afv x h
 simpa using this
def Cj{P:Pt}{e e':5 Str (1 V)}(h:P.mt d e=0 e'):e'.map Prod.fst=e.map Prod.fst++P.lets:=by
 induction P generalizing d e e' with
 |any x=>cases h;simp[Pt.lets]
 |box x=>
  cases d with
  |box y l r=>
   simp only[Pt.mt]at h;split at h
   .cases h;simp[Pt.lets]
   .cases h
  |_=>cases h
 |tk x=>
  cases d with
  |times n=>cases h;simp[Pt.lets]
  |_=>cases h
 |tn x n=>
  cases d with
  |times m=>
   simp only[Pt.mt]at h;split at h
   .cases h;simp[Pt.lets]
   .cases h
  |_=>cases h
 |back a ih=>
  cases d with
  |back d=>exact ih h
  |_=>cases h
 |ft a b c9 de=>
  cases d with
  |bo c d=>
   let[e1,h1,h2]:=CP.mp h;rw[de h2,c9 h1,gR];rfl
  |_=>cases h
 |bg a b c9 de=>
  cases d with
  |bg c d=>
   let[e1,h1,h2]:=CP.mp h;rw[de h2,c9 h1,gR];rfl
  |_=>cases h
def qP(h1:x ∉ iK)(h2:x ∉ jf):(iK++jf).contains x=false:=by
 cases h:(iK++jf).contains x with
 |false=>rfl
 |true=>
  rcases eB.mp (kQ.mp h)with z|z
  .exact absurd z h1
  .exact absurd z h2
def zO{l:1 Str}(h:x ∉ l):l.contains x=false:=by
 cases e:l.contains x with
 |false=>rfl
 |true=>exact absurd (kQ.mp e) h
def kT:4 "times"∈Pt.mi:=by decide +kernel
def kB:4 "back"∈Pt.mi:=by decide +kernel
def kE:4 "beside"∈Pt.mi:=by decide +kernel
def kN:4 "then"∈Pt.mi:=by decide +kernel
def gY(h:x∈Pt.mi):(iK++jf).contains x=false:=(qP (UI h).1 (UI h).2)
noncomputable def Mq:Dw->Str
 | .box y _ _=>y
 | .times _=>4 "times"
 | .back _=>4 "back"
 | .bo _ _=>4 "beside"
 | .bg _ _=>4 "then"
def afw(d:Dw):mf (It2.bp d).head=Mq d:=by cases d<;>rfl
def iQ{xs:1 Str}{r:1 It2}{e:5 Str (1 V)}(hx:(iK++jf).contains x=false)(h:Mq d≠x):dY (x::xs) (.bp d::r) e=0 8:=(zM hx<|by rw[afw];exact h)
def Ck{y:Str}{l r:Nat}(hd:(Dw.box y l r).ok p)(hx:x∈Pt.mi):Mq (.box y l r)≠x:=(λz=>afs hd<|by rw[show y=x from z];exact hx)
def UJ(cA:p<=97):∀{P:Pt},P.j9=6->∀{d:Dw},d.ok p->∀(cu:1 Str)(r:1 It2)(e:5 Str (1 V)),(e.map Prod.fst++P.lets).Nodup->
  dY (P.text++cu) (.bp d::r) e=match P.mt d e with|none=>0 8|some e'=>dY cu r e':=by
 intro P;induction P with
 |any x=>
  intro hP d hd cu r e nd;let hx:x∈iK:=aM hP;refine zN (kQ.mpr hx)<|zO λz=>?_;exact(vU.mp nd).2.2 x z x du 9
 |box x=>
  intro hP d hd cu r e nd;simp only[Pt.j9,dM,aK]at hP;let[[h1,h2],h3]:=hP;let kw:∀{y:Str},y∈Pt.mi->y≠x:=λhy z=>h3 (z▸hy);cases d with
  |box y l r'=>
   by_cases ey:y=x
   .refine(jv (t:=.bp<|.box y l r') (qP h1 h2) ey).trans ?_;simp only[Pt.mt,af ey];rfl
   .refine(iQ (d:=.box y l r') (qP h1 h2) ey).trans ?_;simp only[Pt.mt,ag ey]
  |times n=>exact iQ (qP h1 h2)<|kw kT
  |back d=>exact iQ (qP h1 h2)<|kw kB
  |bo a b=>exact iQ (qP h1 h2)<|kw kE
  |bg a b=>exact iQ (qP h1 h2)<|kw kN
 |tk x=>
  intro hP d hd cu r e nd;simp only[Pt.j9,dM,aK]at hP;cases d with
  |times n=>
   refine(jv (t:=.bp<|.times n) (gY kT) rfl).trans ?_;refine UH (zO hP.1) (kQ.mpr hP.2)<|zO λz=>?_;exact(vU.mp nd).2.2 x z x du 9
  |box y l r'=>exact iQ (gY kT)<|Ck hd kT
  |back d=>exact iQ (gY kT) (show 4 "back" ≠ 4 "times" by decide +kernel)
  |bo a b=>exact iQ (gY kT) (show 4 "beside" ≠ 4 "times" by decide +kernel)
  |bg a b=>exact iQ (gY kT) (show 4 "then" ≠ 4 "times" by decide +kernel)
 |tn x n=>
  intro hP d hd cu r e nd;simp only[Pt.j9,dM,aK]at hP;let[[[[h1,h2],h0],hn],hw]:=hP;cases d with
  |times m=>
   refine(jv (t:=.bp<|.times m) (gY kT) rfl).trans ?_;by_cases em:m=n
   .refine(jv (t:=.num m) (qP h1 h2) (by rw[em];exact hw)).trans ?_;simp only[Pt.mt,af em];rfl
   .refine(zM (t:=.num m) (qP h1 h2) (by rw[<- hw];exact afu hd.1 (by let:=hd.2;lia) h0 hn em)).trans ?_;simp only[Pt.mt,ag em]
  |box y l r'=>exact iQ (gY kT)<|Ck hd kT
  |back d=>exact iQ (gY kT) (show 4 "back" ≠ 4 "times" by decide +kernel)
  |bo a b=>exact iQ (gY kT) (show 4 "beside" ≠ 4 "times" by decide +kernel)
  |bg a b=>exact iQ (gY kT) (show 4 "then" ≠ 4 "times" by decide +kernel)
 |back a ih=>
  intro hP d hd cu r e nd;cases d with
  |back d=>exact(jv (t:=.bp<|.back d) (gY kB) rfl).trans<|ih hP (d:=d) hd cu r e nd
  |box y l r'=>exact iQ (gY kB)<|Ck hd kB
  |times n=>exact iQ (gY kB) (show 4 "times" ≠ 4 "back" by decide +kernel)
  |bo a b=>exact iQ (gY kB) (show 4 "beside" ≠ 4 "back" by decide +kernel)
  |bg a b=>exact iQ (gY kB) (show 4 "then" ≠ 4 "back" by decide +kernel)
 |ft a b c9 de=>
  intro hP d hd cu r e nd;simp only[Pt.j9,dM]at hP;cases d with
  |bo c d=>
   refine(jv (t:=.bp<|.bo c d) (gY kE) rfl).trans ?_;show dY ((a.text++b.text)++cu) (.bp c::.bp d::r) e=_;rw[gR];let n6:((e.map Prod.fst++a.lets)++b.lets).Nodup:=by rw[gR];exact nd
   refine(c9 hP.1 hd.1 (b.text++cu) (.bp d::r) e (vU.mp n6).1).trans ?_;show _=match(a.mt c e).bind (b.mt d)with|none=>0 8|some e'=>dY cu r e'
   cases h1:a.mt c e with
   |none=>rfl
   |some e1=>exact de hP.2 hd.2 cu r e1 (by rw[Cj h1];exact n6)
  |box y l r'=>exact iQ (gY kE)<|Ck hd kE
  |times n=>exact iQ (gY kE) (show 4 "times" ≠ 4 "beside" by decide +kernel)
  |back d=>exact iQ (gY kE) (show 4 "back" ≠ 4 "beside" by decide +kernel)
  |bg a b=>exact iQ (gY kE) (show 4 "then" ≠ 4 "beside" by decide +kernel)
 |bg a b c9 de=>
  intro hP d hd cu r e nd;simp only[Pt.j9,dM]at hP;cases d with
  |bg c d=>
   refine(jv (t:=.bp<|.bg c d) (gY kN) rfl).trans ?_;show dY ((a.text++b.text)++cu) (.bp c::.bp d::r) e=_;rw[gR];let n6:((e.map Prod.fst++a.lets)++b.lets).Nodup:=by rw[gR];exact nd
   refine(c9 hP.1 hd.1 (b.text++cu) (.bp d::r) e (vU.mp n6).1).trans ?_;show _=match(a.mt c e).bind (b.mt d)with|none=>0 8|some e'=>dY cu r e'
   cases h1:a.mt c e with
   |none=>rfl
   |some e1=>exact de hP.2 hd.2 cu r e1 (by rw[Cj h1];exact n6)
  |box y l r'=>exact iQ (gY kN)<|Ck hd kN
  |times n=>exact iQ (gY kN) (show 4 "times" ≠ 4 "then" by decide +kernel)
  |back d=>exact iQ (gY kN) (show 4 "back" ≠ 4 "then" by decide +kernel)
  |bo a b=>exact iQ (gY kN) (show 4 "beside" ≠ 4 "then" by decide +kernel)
def afx:∀{P:Pt},P.j9=6->∀{d:Dw}(cu:1 Str)(r:1 It2){e e':5 Str (1 V)},(e.map Prod.fst++P.lets).Nodup->P.mt d e=0 e'->dY (P.text++cu) (.bp d::r) e=dY cu r e':=by
 intro P;induction P with
 |any x=>
  intro hP d cu r e e' nd h;cases h;exact zN (kQ.mpr<|aM hP)<|zO λz=>(vU.mp nd).2.2 x z x du 9
 |box x=>
  intro hP d cu r e e' nd h;simp only[Pt.j9,dM,aK]at hP;cases d with
  |box y l r'=>
   let h:(if y=x then 0 e else none)=0 e':=h
   split at h
   .rename_i c
    cases h;exact jv (t:=.bp<|.box y l r') (qP hP.1.1 hP.1.2) c
   .cases h
  |_=>cases h
 |tk x=>
  intro hP d cu r e e' nd h;simp only[Pt.j9,dM,aK]at hP;cases d with
  |times n=>
   cases h;exact(jv (t:=.bp<|.times n) (gY kT) rfl).trans<|UH (zO hP.1) (kQ.mpr hP.2)<|zO λz=>(vU.mp nd).2.2 x z x du 9
  |_=>cases h
 |tn x n=>
  intro hP d cu r e e' nd h;simp only[Pt.j9,dM,aK]at hP;cases d with
  |times m=>
   let h:(if m=n then 0 e else none)=0 e':=h
   split at h
   .rename_i c
    cases h;exact(jv (t:=.bp<|.times m) (gY kT) rfl).trans (jv (t:=.num m) (qP hP.1.1.1.1 hP.1.1.1.2) (by rw[c];exact hP.2))
   .cases h
  |_=>cases h
 |back a ih=>
  intro hP d cu r e e' nd h;cases d with
  |back d=>exact(jv (t:=.bp<|.back d) (gY kB) rfl).trans<|ih hP cu r nd h
  |_=>cases h
 |ft a b c9 de=>
  intro hP d cu r e e' nd h;simp only[Pt.j9,dM]at hP;cases d with
  |bo c d=>
   let[e1,h1,h2]:=CP.mp h;let n6:((e.map Prod.fst++a.lets)++b.lets).Nodup:=by rw[gR];exact nd
   refine(jv (t:=.bp<|.bo c d) (gY kE) rfl).trans ?_;show dY ((a.text++b.text)++cu) (.bp c::.bp d::r) e=_;rw[gR];exact(c9 hP.1 _ _ (vU.mp n6).1 h1).trans<|de hP.2 cu r (by rw[Cj h1];exact n6) h2
  |_=>cases h
 |bg a b c9 de=>
  intro hP d cu r e e' nd h;simp only[Pt.j9,dM]at hP;cases d with
  |bg c d=>
   let[e1,h1,h2]:=CP.mp h;let n6:((e.map Prod.fst++a.lets)++b.lets).Nodup:=by rw[gR];exact nd
   refine(jv (t:=.bp<|.bg c d) (gY kN) rfl).trans ?_;show dY ((a.text++b.text)++cu) (.bp c::.bp d::r) e=_;rw[gR];exact(c9 hP.1 _ _ (vU.mp n6).1 h1).trans<|de hP.2 cu r (by rw[Cj h1];exact n6) h2
  |_=>cases h
noncomputable def Pt.nu(p:Int)(env:5 Str (1 V)):Pt->7 (1 V)
 |any x=>oh p env x
 |box x=>oh p env x
 |tk x=>(oh p env x).map (.str "times"::·)
 |tn x _=>(oh p env x).map (.str "times"::·)
 |back a=>(a.nu p env).map (.str "back"::·)
 |ft a b=>(a.nu p env).bind λu=>(b.nu p env).map λv=>.str "beside"::(u++v)
 |bg a b=>(a.nu p env).bind λu=>(b.nu p env).map λv=>.str "then"::(u++v)
section
variable{p:Int}{env:5 Str (1 V)}
def uo{xs:1 Str}{acc:1 V}(h:oh p env x=0 ws):mh p env (x::xs) acc=mh p env xs (acc++ws):=by rw[mh,h]
def afy(hk:∀x∈Pt.mi,oh p env x=0 [.str x]):∀{R:Pt}(cu:1 Str){acc ws:1 V},R.nu p env=0 ws->mh p env (R.text++cu) acc=mh p env cu (acc++ws):=by
 intro R;induction R with
 |any x=>exact λcu acc ws h=>uo h
 |box x=>exact λcu acc ws h=>uo h
 |tk x=>
  intro cu acc ws h;let[u,hu,rfl]:=uD.mp h;refine(uo<|hk _ kT).trans<|(uo hu).trans ?_;rw[gR];rfl
 |tn x n=>
  intro cu acc ws h;let[u,hu,rfl]:=uD.mp h;refine(uo<|hk _ kT).trans<|(uo hu).trans ?_;rw[gR];rfl
 |back a ih=>
  intro cu acc ws h;let[u,hu,rfl]:=uD.mp h;refine(uo<|hk _ kB).trans<|(ih cu hu).trans ?_;rw[gR];rfl
 |ft a b c9 de=>
  intro cu acc ws h;let[u,hu,h]:=CP.mp h;let[v,hv,rfl]:=uD.mp h;refine(uo<|hk _ kE).trans ?_;show mh p env ((a.text++b.text)++cu) _=_;rw[gR];refine(c9 _ hu).trans<|(de cu hv).trans ?_;rw[gR,gR];rfl
 |bg a b c9 de=>
  intro cu acc ws h;let[u,hu,h]:=CP.mp h;let[v,hv,rfl]:=uD.mp h;refine(uo<|hk _ kN).trans ?_;show mh p env ((a.text++b.text)++cu) _=_;rw[gR];refine(c9 _ hu).trans<|(de cu hv).trans ?_;rw[gR,gR];rfl
def afz{L:1 Str}(e:env.map Prod.fst=L)(h:L.all (λx=>! Pt.mi.contains x)=6):∀x∈Pt.mi,oh p env x=0 [.str x]:=(λx hx=>by
 let e2:env.lookup x=8:=by
  rw[List.lookup_eq_none_iff];intro q hq
  let:=gF.mp h q.1 (by rw[<- e];exact CN hq)
  cases z:(x==q.1) with
  |false=>simpa using z
  |true=>
   rw[<- eq_of_beq z,kQ.mpr hx]at this;cases this
 unfold oh;rw[ag (λz=>by rw[z]at hx;revert hx;decide +kernel),ag (λz=>by rw[z]at hx;revert hx;decide +kernel),e2];rfl)
end
end S21
namespace S21
open PySem L2 Bw
variable{H:Hp}{R:VK}{X Y:Dw}{a b x:Str}{d:D1.Dr}{ds:1 D1.Dr}{env:5 Str (1 V)}{i l1 r1 s1 t1:Nat}{p:Int}{cN:5 Str Str}{vs ws:1 V}{σ:St}
section
variable{a b:Dw}{r:1 It2}
def afA(h:mf (It2.bp a).head≠4 "id"):dY (Txt.split (4 "then id A")<|4 " ") (.bp (.bg a b)::r) []=0 8:=by
 rw[show Txt.split (4 "then id A") (4 " ")=[4 "then",4 "id",4 "A"] by decide +kernel];refine Eq.trans (jv 19<|by rfl) ?_;exact zM 19 h
def afB(h:mf (It2.bp a).head≠4 "empty"):dY (Txt.split (4 "beside empty A")<|4 " ") (.bp (.bo a b)::r) []=0 8:=by
 rw[show Txt.split (4 "beside empty A") (4 " ")=[4 "beside",4 "empty",4 "A"] by decide +kernel];refine Eq.trans (jv 19<|by rfl) ?_;exact zM 19 h
def UK(h:mf (It2.bp a).head≠4 "id"):dY (Txt.split (4 "back id")<|4 " ") (.bp (.back a)::r) []=0 8:=by
 rw[show Txt.split (4 "back id") (4 " ")=[4 "back",4 "id"] by decide +kernel];refine Eq.trans (jv 19<|by rfl) ?_;exact zM 19 h
def afC(h:mf (It2.bp a).head≠4 "swap"):dY (Txt.split (4 "back swap")<|4 " ") (.bp (.back a)::r) []=0 8:=by
 rw[show Txt.split (4 "back swap") (4 " ")=[4 "back",4 "swap"] by decide +kernel];refine Eq.trans (jv 19<|by rfl) ?_;exact zM 19 h
end
abbrev At(d:Dw)(i:Nat)(d':Dw):Prop:=∃r,cP [.bp d] i=.bp d'::r
theorem zP{p:Int}:∀{d:Dw},d.ok p->∀n,V.int n∈d.aY->0<=n/\n<p
 | .box ..,_,n,h=>by simp[Dw.aY]at h
 | .times m,h,n,hn=>by
  simp[Dw.aY]at hn;rw[hn];exact h
 | .back d,h,n,hn=>zP (d:=d) h n (by simpa[Dw.aY]using hn)
 | .bo a b,h,n,hn=>by
  simp[Dw.aY]at hn;rcases hn with z|z
  .exact zP (d:=a) h.1 n z
  .exact zP (d:=b) h.2 n z
 | .bg a b,h,n,hn=>by
  simp[Dw.aY]at hn;rcases hn with z|z
  .exact zP (d:=a) h.1 n z
  .exact zP (d:=b) h.2 n z
def dO.nil:dO p []:=(λx ws h=>by cases h)
def dO.cons(h1:ws.length<=200)(h2:∀n,V.int n∈ws->0<=n/\n<p)(h:dO p env):dO p ((x,ws)::env):=(λy us e=>by
 rw[qe]at e;by_cases z:y=x
 .rw[z,aX]at e;cases e;exact#[h1,h2]
 .rw[beq_eq_false_iff_ne.mpr z]at e;exact h y us e)
def dO.bp{a:Dw}(h:dO p env)(ho:a.ok p)(hl:a.aY.length<=200):dO p ((x,a.aY)::env):=(.cons hl (zP ho) h)
def dO.num{n:Int}(h:dO p env)(h0:0<=n)(h1:n<p):dO p ((x,[2 n])::env):=(.cons (by show 1<=200;decide) (λm hm=>by cases cT.mp hm;exact#[h0,h1]) h)
def Mv(p:Int)(x:Str)(X Y:Dw):Prop:=∀r,∃cN env b,kI x=0 cN/\oj p x (.bp X::r) cN (0 (env,b))/\dO p env/\(Txt.split b<|4 " ").length<=100/\11 (b.length+2)/\mh p env (Txt.split b<|4 " ") []=0 Y.aY
def UL(h:kI x=0 cN)(hm:(a,b)∈cN):(Txt.split b<|4 " ").length<=100/\11 (b.length+2):=by
 let:=gF.mp (gF.mp UE _<|Gk h) _ hm
 simp only[dM,aK]at this;exact#[this.1.2,eh (Nat.add_le_add_right this.2 2) 16]
def Mv.fst(hR:kI x=0 ((a,b)::cN))(hm:∀r,dY (Txt.split a<|4 " ") (.bp X::r) []=0 (0 env))(hn:dO p env)(ha:oY p env x 6)(hf:mh p env (Txt.split b<|4 " ") []=0 Y.aY):Mv p x X Y:=(λr=>let z:=UL hR du;#[_,env,b,hR,.hit (hm r) hn ha,hn,z.1,z.2,hf])
def Mv.snd{a' b':Str}(hR:kI x=0 ((a',b')::(a,b)::cN))(h0:∀r,dY (Txt.split a'<|4 " ") (.bp X::r) []=0 8)(hm:∀r,dY (Txt.split a<|4 " ") (.bp X::r) []=0 (0 env))(hn:dO p env)(ha:oY p env x 6)(hf:mh p env (Txt.split b<|4 " ") []=0 Y.aY):Mv p x X Y:=(λr=>let z:=UL hR<|gq _ du;#[_,env,b,hR,.miss (h0 r)<|.hit (hm r) hn ha,hn,z.1,z.2,hf])
def su(a b:Str)(P R:Pt):Bool:=decide (Txt.split a (4 " ")=P.text)&&(P.j9&&(decide P.lets.Nodup&&(decide (Txt.split b (4 " ")=R.text)&&P.lets.all (λx=>! Pt.mi.contains x))))
section
variable{p:Int}{x a b a' b':Str}{P R:Pt}{cN:5 Str Str}{X Y:Dw}{env:5 Str (1 V)}
def mG(hc:su a b P R=6)(hm:P.mt X []=0 env)(r:1 It2):dY (Txt.split a<|4 " ") (.bp X::r) []=0 (0 env):=by
 simp only[su,dM,aK]at hc
 let:=afx hc.2.1 [] r (e:=[]) hc.2.2.1 hm
 rw[iV]at this;rw[hc.1,this];rfl
def fG(hc:su a b P R=6)(hm:P.mt X []=0 env)(hf:R.nu p env=0 Y.aY):mh p env (Txt.split b<|4 " ") []=0 Y.aY:=by
 simp only[su,dM,aK]at hc
 let:=afy (afz (Cj hm) hc.2.2.2.2) [] (acc:=[]) hf
 rw[iV]at this;rw[hc.2.2.2.1,this];rfl
def om(P R:Pt)(hR:kI x=0 ((a,b)::cN))(hc:su a b P R=6)(hm:P.mt X []=0 env)(hf:R.nu p env=0 Y.aY)(hn:dO p env)(ha:oY p env x 6):Mv p x X Y:=(.fst hR (mG hc hm) hn ha<|fG hc hm hf)
def Mr(P R:Pt)(hR:kI x=0 ((a',b')::(a,b)::cN))(h0:∀r,dY (Txt.split a'<|4 " ") (.bp X::r) []=0 8)(hc:su a b P R=6)(hm:P.mt X []=0 env)(hf:R.nu p env=0 Y.aY)(hn:dO p env)(ha:oY p env x 6):Mv p x X Y:=(.snd hR h0 (mG hc hm) hn ha<|fG hc hm hf)
end
section
variable{p:Int}{a b c e:Dw}{n m:Int}
def afD(oa:a.ok p)(wa:a.aY.length<=200):Mv p (4 "twice") (.back<|.back a) a:=(om (.back<|.back<|.any "A") (.any "A") (by rfl) 19 9 9 (dO.bp .nil oa wa)<|.any 16 16)
def afE(oa:a.ok p)(wa:a.aY.length<=200)(ob:b.ok p)(wb:b.aY.length<=200):Mv p (4 "turnthen") (.back<|.bg a b) (.bg (.back b)<|.back a):=(om (.back<|.bg (.any "A")<|.any "B") (.bg (.back<|.any "B")<|.back<|.any "A") (by rfl) 19 9 9 (dO.bp (dO.bp .nil ob wb) oa wa)<|.any 16 16)
def afF(oa:a.ok p)(wa:a.aY.length<=200)(ob:b.ok p)(wb:b.aY.length<=200):Mv p (4 "turnbeside") (.back<|.bo a b) (.bo (.back a)<|.back b):=(om (.back<|.ft (.any "A")<|.any "B") (.ft (.back<|.any "A")<|.back<|.any "B") (by rfl) 19 9 9 (dO.bp (dO.bp .nil ob wb) oa wa)<|.any 16 16)
def afG(oa:a.ok p)(wa:a.aY.length<=200)(ob:b.ok p)(wb:b.aY.length<=200)(oc:c.ok p)(wc:c.aY.length<=200):Mv p (4 "thread") (.bg (.bg a b) c) (.bg a<|.bg b c):=(om (.bg (.bg (.any "A")<|.any "B")<|.any "C") (.bg (.any "A")<|.bg (.any "B")<|.any "C") (by rfl) 19 9 9 (dO.bp (dO.bp (dO.bp .nil oc wc) ob wb) oa wa)<|.any 16 16)
def afH(oa:a.ok p)(wa:a.aY.length<=200)(ob:b.ok p)(wb:b.aY.length<=200)(oc:c.ok p)(wc:c.aY.length<=200):Mv p (4 "stack") (.bo (.bo a b) c) (.bo a<|.bo b c):=(om (.ft (.ft (.any "A")<|.any "B")<|.any "C") (.ft (.any "A")<|.ft (.any "B")<|.any "C") (by rfl) 19 9 9 (dO.bp (dO.bp (dO.bp .nil oc wc) ob wb) oa wa)<|.any 16 16)
def afI(oa:a.ok p)(wa:a.aY.length<=200)(ob:b.ok p)(wb:b.aY.length<=200)(oc:c.ok p)(wc:c.aY.length<=200)(oe:e.ok p)(we:e.aY.length<=200)(h:a.dE=c.dZ):Mv p (4 "cross") (.bg (.bo a b)<|.bo c e) (.bo (.bg a c)<|.bg b e):=(om (.bg (.ft (.any "A")<|.any "B")<|.ft (.any "C")<|.any "D") (.ft (.bg (.any "A")<|.any "C")<|.bg (.any "B")<|.any "D") (by rfl) 19 9 9 (dO.bp (dO.bp (dO.bp (dO.bp .nil oe we) oc wc) ob wb) oa wa) (aH h▸oY.xp a c (by rfl) (by rfl) oa oc))
def afJ(oa:a.ok p)(wa:a.aY.length<=200):Mv p (4 "lone") (.bg (.box (4 "id") l1 r1) a) a:=(om (.bg (.box "id")<|.any "A") (.any "A") (by rfl) 19 9 9 (dO.bp .nil oa wa)<|.any 16 16)
def afK(oa:a.ok p)(wa:a.aY.length<=200)(h:mf (It2.bp a).head≠4 "id"):Mv p (4 "lone") (.bg a<|.box (4 "id") l1 r1) a:=(Mr (.bg (.any "A")<|.box "id") (.any "A") (by rfl) (λ_=>afA h) 19 9 9 (dO.bp .nil oa wa)<|.any 16 16)
def afL(oa:a.ok p)(wa:a.aY.length<=200):Mv p (4 "bare") (.bo (.box (4 "empty") l1 r1) a) a:=(om (.ft (.box "empty")<|.any "A") (.any "A") (by rfl) 19 9 9 (dO.bp .nil oa wa)<|.any 16 16)
def afM(oa:a.ok p)(wa:a.aY.length<=200)(h:mf (It2.bp a).head≠4 "empty"):Mv p (4 "bare") (.bo a<|.box (4 "empty") l1 r1) a:=(Mr (.ft (.any "A")<|.box "empty") (.any "A") (by rfl) (λ_=>afB h) 19 9 9 (dO.bp .nil oa wa)<|.any 16 16)
def afN(zn:0<=n)(gn:n<p)(zm:0<=m)(gm:m<p):Mv p (4 "scale") (.bg (.times n)<|.times m) (.times<|n*m%p):=(om (.bg (.tk "k")<|.tk "l") (.tk "k*l") (by rfl) 19 9 9 (dO.num (dO.num .nil zm gm) zn gn)<|.any 16 16)
def afO(zn:0<=n)(gn:n<p):Mv p (4 "scalecopy") (.bg (.times n)<|.box (4 "copy") l1 r1) (.bg (.box (4 "copy") s1 t1)<|.bo (.times n)<|.times n):=(om (.bg (.tk "k")<|.box "copy") (.bg (.box "copy")<|.ft (.tk "k")<|.tk "k") (by rfl) 19 9 9 (dO.num .nil zn gn)<|.any 16 16)
def afP(zn:0<=n)(gn:n<p):Mv p (4 "scaleadd") (.bg (.box (4 "add") l1 r1)<|.times n) (.bg (.bo (.times n)<|.times n)<|.box (4 "add") s1 t1):=(om (.bg (.box "add")<|.tk "k") (.bg (.ft (.tk "k")<|.tk "k")<|.box "add") (by rfl) 19 9 9 (dO.num .nil zn gn)<|.any 16 16)
def afQ(zn:0<=n)(gn:n<p)(h:n≠0):Mv p (4 "turnscale") (.back<|.times n) (.times<|dN p n):=(om (.back<|.tk "k") (.tk "1/k") (by rfl) 19 9 9 (dO.num .nil zn gn) (aH h▸oY.scale n (by rfl)))
def afR:Mv p (4 "turnid") (.back<|.box (4 "id") l1 r1) (.box (4 "id") s1 t1):=(om (.back<|.box "id") (.box "id") (by rfl) 19 9 9 .nil<|.any 16 16)
def afS:Mv p (4 "turnid") (.back<|.box (4 "swap") l1 r1) (.box (4 "swap") s1 t1):=(Mr (.back<|.box "swap") (.box "swap") (by rfl) (λ_=>UK<|by show 4 "swap" ≠ 4 "id";decide) 19 9 9 .nil<|.any 16 16)
def afT:Mv p (4 "turnid") (.back<|.box (4 "empty") l1 r1) (.box (4 "empty") s1 t1):=(λ_=>have c:su "back empty" "empty" (.back<|.box "empty") (.box "empty")=6:=(by decide +kernel);#[_,[],_,(by rfl),.miss (UK<|by show 4 "empty" ≠ 4 "id";decide)<|.miss (afC<|by show 4 "empty" ≠ 4 "swap";decide)<|.hit (mG c 9 _) dO.nil<|.any 16 16,dO.nil,19,19,fG c (X:=.back<|.box "empty" 0 0) rfl rfl])
end
def UM{K:Frag}{Q:VK}{E:XK}{aw:Addr}{d:Dw}(hd:d.ok p)(p2:2<=p)(cA:p<=97)(hl:23<=200)(hw:bu K H aw d.aY)(hA:At d i X)(hM:Mv p x X Y)(hy:Y.aY.length<=1000)
  (q:iX K H (d.aY.take i++Y.aY++d.aY.drop (i+X.aY.length)) Q):Mn K kI [2 p,3 aw,2 (i:Int),.str x] H Q E:=by
 let[r,hA]:=hA;let[cN,env,b,h1,h2,h3,h4,h5,h6]:=hM r;exact#[p,aw,i,x,b,d,X,r,cN,env,Y.aY,9,hd,p2,cA,hl,hw,hA,h1,by rw[hA];exact h2,h3,h4,h5,h6,hy,q]
noncomputable def cw:D1.Dr->Dw
 | .id=>.box (4 "id") 1 1
 | .swap=>.box (4 "swap") 2 2
 | .copy=>.box (4 "copy") 1 2
 | .fin=>.box (4 "end") 1 0
 | .add=>.box (4 "add") 2 1
 | .none=>.box (4 "none") 0 1
 | .fZ=>.box (4 "cup") 0 2
 | .empty=>.box (4 "empty") 0 0
 | .times n=>.times n
 | .back d=>.back (cw d)
 | .bo a b=>.bo (cw a) (cw b)
 | .bg a b=>.bg (cw a) (cw b)
theorem nv:∀d:D1.Dr,(cw d).aY=d.aY.map dQ
 | .id | .swap | .copy | .fin | .add | .none | .fZ | .empty | .times _=>rfl
 | .back d=>by
  show V.str "back"::(cw d).aY=V.str "back"::d.aY.map dQ;rw[nv d]
 | .bo a b=>by
  show V.str "beside"::((cw a).aY++(cw b).aY)=V.str "beside"::(a.aY++b.aY).map dQ;rw[nv a,nv b,eC]
 | .bg a b=>by
  show V.str "then"::((cw a).aY++(cw b).aY)=V.str "then"::(a.aY++b.aY).map dQ;rw[nv a,nv b,eC]
def fu(d:D1.Dr):(cw d).aY.length=23:=by rw[nv,bH]
theorem oZ:∀d:D1.Dr,(cw d).cE=d.cE
 | .id | .swap | .copy | .fin | .add | .none | .fZ | .empty | .times _=>rfl
 | .back d=>by show((cw d).cE.2,(cw d).cE.1)=(d.cE.2,d.cE.1);rw[oZ d]
 | .bo a b=>by show((cw a).cE.1+(cw b).cE.1,(cw a).cE.2+(cw b).cE.2)=(a.cE.1+b.cE.1,a.cE.2+b.cE.2);rw[oZ a,oZ b]
 | .bg a b=>by show((cw a).cE.1,(cw b).cE.2)=(a.cE.1,b.cE.2);rw[oZ a,oZ b]
theorem fe{p:Int}:∀{d:D1.Dr},d.wf p->(cw d).ok p
 | .id,_=>by show(_,_,_)∈og;decide +kernel
 | .swap,_=>by show(_,_,_)∈og;decide +kernel
 | .copy,_=>by show(_,_,_)∈og;decide +kernel
 | .fin,_=>by show(_,_,_)∈og;decide +kernel
 | .add,_=>by show(_,_,_)∈og;decide +kernel
 | .none,_=>by show(_,_,_)∈og;decide +kernel
 | .fZ,_=>by show(_,_,_)∈og;decide +kernel
 | .empty,_=>by show(_,_,_)∈og;decide +kernel
 | .times _,h=>h
 | .back d,h=>fe (d:=d) h
 | .bo _ _,h=>#[fe h.1,fe h.2]
 | .bg _ _,h=>#[fe h.1,fe h.2.1]
noncomputable def vH:D1.Wd->Dat
 | .w x=>.str x
 | .n i=>2 i
theorem Gm{K:Frag}{H:Hp}:∀ws:1 D1.Wd,cy K H (ws.map dQ) (ws.map vH)
 | []=>.nil
 | .w _::ws=>.cons (.str _) (Gm ws)
 | .n i::ws=>.cons (2 i) (Gm ws)
def Gn:1 String:=["id","swap","copy","end","add","none","cup","empty","times","back","beside","then"]
def afU:Gn.all (λx=>kqdOk 06 (.str<|4 x)&&kqdOk 07 (.str<|4 x))=6:=by decide +kernel
def UN:∀(d:D1.Dr)(x:String),D1.Wd.w x∈d.aY->x∈Gn:=by
 intro d;induction d with
 |times n=>intro x h;simp[D1.Dr.aY]at h;subst h;decide
 |back d ih=>
  intro x h;simp[D1.Dr.aY]at h;rcases h with rfl|h
  .decide
  .exact ih x h
 |bo a b c9 de=>
  intro x h;simp[D1.Dr.aY]at h;rcases h with rfl|h|h
  .decide
  .exact c9 x h
  .exact de x h
 |bg a b c9 de=>
  intro x h;simp[D1.Dr.aY]at h;rcases h with rfl|h|h
  .decide
  .exact c9 x h
  .exact de x h
 |_=>intro x h;simp[D1.Dr.aY]at h;subst h;decide
def kqd_all{ws:1 D1.Wd}(h:∀x,D1.Wd.w x∈ws->x∈Gn):(ws.map vH).all (kqdOk 07)=6/\(ws.map vH).all (kqdOk 06)=6:=by
 let key:∀u∈ws,kqdOk 07 (vH u)=6/\kqdOk 06 (vH u)=6:=λu hu=>by
  cases u with
  |n i=>exact#[9,9]
  |w x=>
   let:=gF.mp afU x<|h x hu
   rw[dM]at this;exact#[this.2,this.1]
 exact#[gF.mpr λy hy=>by let[u,hu,rfl]:=dF.mp hy;exact(key u hu).1,gF.mpr λy hy=>by let[u,hu,rfl]:=dF.mp hy;exact(key u hu).2]
def UO{ws:1 D1.Wd}(h:∀x,D1.Wd.w x∈ws->x∈Gn):kqdOk 08 (.tuple<|ws.map vH)=6:=((kqd_all h).1)
def WL(H:Hp)(b:Addr)(d:D1.Dr):Prop:=H b=13 (d.aY.map dQ)
def WT(H:Hp)(a:Addr)(d:D1.Dr):Prop:=∃b,H a=13 [3 b,2 (d.l:Int),2 (d.r:Int)]/\WL H b d
def jw(H:Hp)(vs:1 V)(ds:1 D1.Dr):Prop:=vs.length=ds.length/\∀(i:Nat)(v:V)(d:D1.Dr),vs[i]?=0 v->ds[i]?=0 d->∃a,v=3 a/\WT H a d
def WT.mono{H':Hp}{a:Addr}(h:WT H a d)(s:bc H H'):WT H' a d:=(let ⟨b,g1,g2⟩:=h;#[b,s _ _ g1,s _ _ g2])
def jw.mono{H H':Hp}{vs:1 V}{ds:1 D1.Dr}(h:jw H vs ds)(s:bc H H'):jw H' vs ds:=(#[h.1,λi v d e1 e2=>let ⟨a,e,w⟩:=h.2 i v d e1 e2;#[a,e,w.mono s]])
def jw.nil:jw H [] []:=(#[9,λi v d e=>by simp at e])
def jw.cons{a:Addr}(h:WT H a d)(r:jw H vs ds):jw H (3 a::vs) (d::ds):=(#[by rw[eX,eX,r.1],λi v d' e1 e2=>by
 cases i with
 |zero=>cases e1;cases e2;exact#[a,9,h]
 |succ i=>exact r.2 i v d' e1 e2])
def jw.append{es:1 D1.Dr}(h:jw H vs ds)(k:jw H ws es):jw H (vs++ws) (ds++es):=(#[by rw[cb,cb,h.1,k.1],λi v d e1 e2=>by
 by_cases hi:i<vs.length
 .rw[i9 hi]at e1;rw[i9 (by rw[<- h.1];exact hi)]at e2;exact h.2 i v d e1 e2
 .rw[jy 7]at e1;rw[jy (by rw[<- h.1];lia),<- h.1]at e2;exact k.2 _ v d e1 e2])
noncomputable def Cm:1 Expr->7 (1 Str)
 | []=>0 []
 | .Constant (.str x) _ _::es=>(Cm es).map (x::·)
 |_=>none
theorem UP{X:Cx}:∀(es:1 Expr)(xs:1 Str),Cm es=0 xs->PA X es (λ_ H Q=>Q (xs.map V.str) H)
 | [],xs,h=>by cases h;exact bj
 |e::es,xs,h=>by
  unfold Cm at h;split at h
  case h_1=>rename_i z;cases z
  case h_2 x _ _ es' z=>
   cases z;cases e:Cm es with
   |none=>rw[e]at h;cases h
   |some ys=>
    rw[e]at h;cases h;exact bf c7<|UP es ys e
  case h_3=>cases h
noncomputable def Ms:Expr->7 (1 Str×Int×Int)
 | .List [.List ws _,b,c] _=>match Cm ws,tK b,tK c with
  |some xs,some l,some r=>0 (xs,l,r)
  |_,_,_=>none
 |_=>none
def o3(ws:1 Str)(l r:Int):TE:=dt<|bw (dt λ_ H Q=>Q (ws.map V.str) H)<|bw (tC<|2 l)<|bw (tC<|2 r) cB
def afV{X:Cx}{e:Expr}{ws:1 Str}{l r:Int}(h:Ms e=0 (ws,l,r)):PE X e (o3 ws l r):=by
 unfold Ms at h;split at h
 case h_2=>exact nomatch h
 case h_1 w p1 b c pos=>
  split at h
  case h_2=>exact nomatch h
  case h_1 xs l' r' h1 h2 h3=>
   cases h;let[_,_,rfl]:=wC h2;let[_,_,rfl]:=wC h3;exact cK<|bf (cK<|UP w _ h1)<|bf br<|bf br bj
section
variable{K:Frag}{σ:St}{H:Hp}
def Mt(te:TE)(σ:St)(H:Hp)(d:D1.Dr):Prop:=∀H',bc H H'->∀R:VK,(∀a fY,bc H' fY->WT fY a d->R (3 a) fY)->te σ H' R
def Gp(ta:TA)(σ:St)(H:Hp)(ds:1 D1.Dr):Prop:=∀H',bc H H'->∀Q:1 V->6 Hp,(∀vs fY,bc H' fY->jw fY vs ds->Q vs fY)->ta σ H' Q
def Mu:Gp cB σ H []:=(λH' _ _ q=>q [] H' (.refl _) .nil)
def qQ{te:TE}{ta:TA}(h:Mt te σ H d)(k:Gp ta σ H ds):Gp (bw te ta) σ H (d::ds):=(λH' s _ q=>
 h H' s _ λ_ H1 s1 w=>k H1 (s.trans s1) _ λ_ H2 s2 r=>q _ H2 (s1.trans s2) (.cons (w.mono s2) r))
def sy{ws:1 Str}{l r:Int}(hw:ws.map V.str=d.aY.map dQ)(hl:l=d.l)(hr:r=d.r)(hn:ws.length<=10):Mt (o3 ws l r) σ H d:=(λH' s R q=>by
 let z:11 (10:Nat):=by decide
 refine#[by rw[bH];lia,λb hb=>#[by show 11 3;lia,λa ha=>q a _ ((bc.upd hb).trans<|.upd ha) #[b,?_,?_]]]
 .rw[bq,hl,hr]
 .show _=_;rw[<- hw];exact bc.upd ha _ _ bq)
def afW{k:Int}(h:σ[i]?=0 (0<|2 k)):Mt (dt<|bw (dt<|bw (tC<|.str<|4 "times")<|bw (bt i) cB)<|bw (tC<|2 1)<|bw (tC<|2 1) cB) σ H (.times k):=(λH' s R q=>
 #[_,h,by show 11 2;decide,λb hb=>#[by show 11 3;decide,λa ha=>q a _ ((bc.upd hb).trans<|.upd ha) #[b,bq,bc.upd ha _ _ bq]]])
end
def Gq(_K:Frag):Sp:=λvs H Q _=>∃(p c:Int),vs=[2 p,2 c]/\p∈cM/\∀a d H',bc H H'->WT H' a d->d.wf p->d.eO 64->23<=09->d.l+d.r<=04->Q (3 a) H'
def Gr:TE:=dt<|bw (o3 ["id"] 1 1)<|bw (o3 ["swap"] 2 2)<|bw (o3 ["copy"] 1 2)<|bw (o3 ["end"] 1 0)<|bw (o3 ["add"] 2 1) cB
def Gs:TE:=dt<|bw (o3 ["none"] 0 1)<|bw (dt<|bw (dt<|bw (tC<|.str<|4 "times")<|bw (bt 2) cB)<|bw (tC<|2 1)<|bw (tC<|2 1) cB)<|bw (o3 ["cup"] 0 2)<|bw (o3 ["empty"] 0 0) cB
def Gu:TE:=dt<|bw (o3 ["copy"] 1 2)<|bw (o3 ["add"] 2 1) cB
def Mw{ta:TA}(h:Gp ta σ H ds)(hl:ds.length<=100)(q:∀a vs H',bc H H'->H' a=13 vs->jw H' vs ds->R (3 a) H'):dt ta σ H R:=by
 let z:11 (100:Nat):=by decide
 refine h H (.refl _) _ λvs H1 s1 hd=>#[by rw[hd.1];lia,λa ha=>?_];exact q a vs _ (s1.trans<|.upd ha) bq<|hd.mono<|.upd ha
def Gv(k:Int):1 D1.Dr:=([.id,.swap,.copy,.fin,.add]++[.none,.times k,.fZ,.empty])++[.copy,.add]
def afX{k:Int}(h0:0<=k)(h1:k<p)(h:(Gv k)[i]?=0 d):d.wf p/\d.eO 64/\23<=2/\d.l+d.r<=04:=by
 let:=dS h
 simp only[Gv,eB,eK,Ag,or_false]at this;rcases this with((rfl|rfl|rfl|rfl|rfl)|(rfl|rfl|rfl|rfl))|(rfl|rfl);all_goals first
  |exact#[True.intro,True.intro,16,16]
  |exact#[#[h0,h1],True.intro,Nat.le.refl,by show 1+1<=04;decide]
def nC{te:TE}{u:TS}{D:Ends}(h:te σ H λx H1=>u D (σ.set i<|0 x) H1):cR (dI te<|cg i) u D σ H:=(h)
def afY(q:∀a vs H',bc H H'->H' a=13 vs->jw H' vs [.id,.swap,.copy,.fin,.add]->R (3 a) H'):Gr σ H R:=by
 unfold Gr;refine Mw (qQ ?_<|qQ ?_<|qQ ?_<|qQ ?_<|qQ ?_ Mu) ?_ q
 .exact sy 9 9 9 16
 .exact sy 9 9 9 16
 .exact sy 9 9 9 16
 .exact sy 9 9 9 16
 .exact sy 9 9 9 16
 .exact HI 9
def afZ{k:Int}(h:σ[2]?=0 (0<|2 k))(q:∀a vs H',bc H H'->H' a=13 vs->jw H' vs [.none,.times k,.fZ,.empty]->R (3 a) H'):Gs σ H R:=by
 unfold Gs;refine Mw (qQ ?_<|qQ ?_<|qQ ?_<|qQ ?_ Mu) ?_ q
 .exact sy 9 9 9 16
 .exact afW h
 .exact sy 9 9 9 16
 .exact sy 9 9 9 16
 .exact HI 9
def af0(q:∀a vs H',bc H H'->H' a=13 vs->jw H' vs [.copy,.add]->R (3 a) H'):Gu σ H R:=by
 unfold Gu;refine Mw (qQ ?_<|qQ ?_ Mu) ?_ q
 .exact sy 9 9 9 16
 .exact sy 9 9 9 16
 .exact HI 9
def UQ{a b:Addr}{es:1 D1.Dr}(g:H a=13 vs)(g':H b=13 ws)(hd:jw H vs ds)(he:jw H ws es)(hl:ds.length+es.length<=100)(q:∀c H',bc H H'->H' c=13 (vs++ws)->jw H' (vs++ws) (ds++es)->R (3 c) H'):fh (3 a) (3 b) H R:=by
 let z:11 (100:Nat):=by decide
 refine#[a,b,vs,ws,9,9,g,g',by rw[hd.1,he.1];lia,λc hc=>q c _ (.upd hc) bq<|(hd.append he).mono<|.upd hc]
end S21
namespace D1
noncomputable def qR:1 Dr->Dr
 | []=>.empty
 | [d]=>d
 |d::e::ds=>.bo d (qR<|e::ds)
def qS(ds:1 Dr):1 Wd:=ds.flatMap λd=>.w "beside"::d.aY
theorem Mx:∀(es:1 Dr)(d:Dr),(qR<|es++[d]).aY=qS es++d.aY
 | [],d=>rfl
 | [e],d=>by
  show Wd.w "beside"::(e.aY++d.aY)=((Wd.w "beside"::e.aY)++[])++d.aY;rw[iV];rfl
 |e::f::es,d=>by
  show Wd.w "beside"::(e.aY++(qR<|(f::es)++[d]).aY)=_;rw[Mx (f::es) d];show _=(Wd.w "beside"::e.aY)++qS (f::es)++d.aY;rw[gR,xJ]
theorem Gw{B:Nat}:∀(es:1 Dr),(∀e∈es,e.aY.length<=B)->(qS es).length<=es.length*(B+1)
 | [],_=>iL _
 |e::es,h=>by
  let h1:=h e<|.head _;let h2:=Gw es λx hx=>h x<|.tail _ hx;show((Wd.w "beside"::e.aY)++qS es).length<=(es.length+1)*(B+1);rw[cb,eX,Nat.add_mul];lia
def af1(es:1 Dr)(e:Dr):qS (es++[e])=qS es++([.w "beside"]++e.aY):=by
 unfold qS;rw[xP];show _++((Wd.w "beside"::e.aY)++[])=_;rw[iV];rfl
def nX(ds:1 Dr):Nat:=ds.foldr (λd n=>d.l+n) 0
def o4(ds:1 Dr):Nat:=ds.foldr (λd n=>d.r+n) 0
theorem Gx:∀ds:1 Dr,(qR ds).l=nX ds
 | []=>rfl
 | [_]=>rfl
 |d::e::ds=>by
  show d.l+(qR<|e::ds).l=d.l+nX (e::ds);rw[Gx (e::ds)]
theorem Gy:∀ds:1 Dr,(qR ds).r=o4 ds
 | []=>rfl
 | [_]=>rfl
 |d::e::ds=>by
  show d.r+(qR<|e::ds).r=d.r+o4 (e::ds);rw[Gy (e::ds)]
theorem UR{p:Int}:∀ds:1 Dr,(∀d∈ds,d.wf p)->(qR ds).wf p
 | [],_=>True.intro
 | [_],h=>h _ (.head _)
 |d::e::ds,h=>#[h d<|.head _,UR (e::ds) λx hx=>h x<|.tail _ hx]
theorem US{B:Nat}:∀ds:1 Dr,(∀d∈ds,d.eO B)->nX ds+o4 ds<=B->(qR ds).eO B
 | [],_,_=>True.intro
 | [_],h,_=>h _ (.head _)
 |d::e::ds,h,hb=>by
  let el:=Gx<|e::ds;let er:=Gy<|e::ds;let hl:nX (d::e::ds)=d.l+nX (e::ds):=9;let hr:o4 (d::e::ds)=d.r+o4 (e::ds):=9;refine#[h d<|.head _,US (e::ds) (λx hx=>h x<|.tail _ hx) 7,?_];lia
theorem My:∀a b:1 Dr,nX (a++b)=nX a+nX b
 | [],b=>(lP _).symm
 |d::a,b=>by
  show d.l+nX (a++b)=d.l+nX a+nX b;rw[My a b,xQ]
theorem Mz:∀a b:1 Dr,o4 (a++b)=o4 a+o4 b
 | [],b=>(lP _).symm
 |d::a,b=>by
  show d.r+o4 (a++b)=d.r+o4 a+o4 b;rw[Mz a b,xQ]
theorem MA:∀n,nX (16 n .id)=n
 |0=>rfl
 |n+1=>by
  show 1+nX (16 n .id)=n+1;rw[MA n,Nat.add_comm]
theorem MB:∀n,o4 (16 n .id)=n
 |0=>rfl
 |n+1=>by
  show 1+o4 (16 n .id)=n+1;rw[MB n,Nat.add_comm]
end D1
namespace S21
open PySem L2 Bw
abbrev i0:=Str×Int×Int
variable{D:Ends}{H H':Hp}{N:St->6 Hp}{R:VK}{b f v:Addr}{d e:D1.Dr}{ds:1 D1.Dr}{fd:FuncData}{i j m:Nat}{p:Int}{ta:TA}{ts:1 i0}{u:TS}{vs:1 V}{x:String}{σ:St}
def mj(H:Hp)(vs:1 V)(ds:1 D1.Dr):Prop:=vs.length=ds.length/\∀(i:Nat)(v:V)(d:D1.Dr),vs[i]?=0 v->ds[i]?=0 d->∃a,v=3 a/\WL H a d
def mj.mono(h:mj H vs ds)(s:bc H H'):mj H' vs ds:=(#[h.1,λi v d e1 e2=>let ⟨a,e,w⟩:=h.2 i v d e1 e2;#[a,e,s _ _ w]])
def mj.append{ws:1 V}{es:1 D1.Dr}(h:mj H vs ds)(k:mj H ws es):mj H (vs++ws) (ds++es):=(#[by rw[cb,cb,h.1,k.1],λi v d e1 e2=>by
 by_cases hi:i<vs.length
 .rw[i9 hi]at e1;rw[i9 (by rw[<- h.1];exact hi)]at e2;exact h.2 i v d e1 e2
 .rw[jy 7]at e1;rw[jy (by rw[<- h.1];lia),<- h.1]at e2;exact k.2 _ v d e1 e2])
def mj.one(h:WL H b d):mj H [3 b] [d]:=(#[9,λi v d' e1 e2=>by
 cases i with
 |zero=>cases e1;cases e2;exact#[b,9,h]
 |succ i=>cases e1])
def mj.rep(h:WL H b d)(n:Nat):mj H (16 n<|3 b) (16 n d):=(#[by rw[fg,fg],λi v d' e1 e2=>by
 let m1:=List.eq_of_mem_replicate<|dS e1;let m2:=List.eq_of_mem_replicate<|dS e2;subst m1 m2;exact#[b,9,h]])
def af2(xs:1 V)(v:V):gJ (xs++[v]) 8 (0<|-1)=xs:=by
 let es:HT.cS (xs++[v]).length (xs++[v]).length (0<|-1)=21:=by
  show(if(-1:Int)<0 then(-1+((xs++[v]).length:Int)).toNat else min (-1:Int).toNat (xs++[v]).length)=21
  rw[af 16,cb];show(-1+((xs.length+1:Nat):Int)).toNat=21;lia
 unfold gJ;rw[es,HT.wk,List.drop_zero,Nat.sub_zero,List.take_left]
def Cn(_K:Frag):Sp:=λvs H Q _=>∃(a b:Addr)(VS:1 V)(es:1 D1.Dr)(d:D1.Dr),vs=[3 a]/\H a=13 (VS++[3 b])/\mj H VS es/\WL H b d/\es.length<=50/\(∀e∈es,e.aY.length<=50)/\23<=50/\∀c H',bc H H'->WL H' c (D1.qR<|es++[d])->Q (3 c) H'
def Gz:dz ["parts","words","part"] ["parts"] (cj Kf):=(dW 9 9 9 19 9)
def af3(F:cL K "_law_beside_all" "_law_beside_all" Kf f fd):bQ P w K mg base bX 1 f fd ["parts"] (Cn K):=by
 refine 17 Gz 24 ?_
 .let[a,b,VS,es,d,rfl,_]:=h;rfl
 .let[a,b,VS,es,d,rfl,ga,hV,hb,le,lw,lw',q]:=h;let z:11 (10000:Nat):=by decide
  refine#[_,bz (cx (i:=1) Gz.nd rfl (18) (cK bj))<|bz (kY lS 9 (iY K 9<|fQ (nU K 9) (pv 0) ik<|eM<|v3 v7 br) (cH (i:=2) Gz.nd rfl (18))<|bN<|cx (i:=1) Gz.nd rfl (18) (bI eV (bI eV (pv 1)<|cK<|bf c7 bj)<|pv 2))<|bN<|cJ<|bI eV (pv 1)<|bZ (dC K 9) (pv 0)<|v3 v7 br,?_];refine#[16,λl0 h0=>?_];let s0:bc H (9 H l0 []):=.upd h0;let g0:(9 H l0 []) l0=13 ((D1.qS []).map dQ):=bq;generalize 9 H l0 []=H0 at s0 g0 |-;refine#[_,9,_,9,_,9,a,_,9,.of<|s0 _ _ ga,λl1 h1=>?_];rw[show(-1:Int)=-1 from 9,af2]
  let s1:bc H (9 H0 l1 VS):=s0.trans<|.upd h1;let g1:(9 H0 l1 VS) l1=13 VS:=bq;let UT:(9 H0 l1 VS) l0=13 ((D1.qS<|es.take 0).map dQ):=bc.upd h1 _ _ g0;generalize 9 H0 l1 VS=H1 at s1 g1 UT |-;refine#[l1,9,#[_,.of g1],uH (xs:=VS) (λi σ H'=>bc H1 H'/\∃lp s2,σ=[8 a,8 lp,s2]/\H' lp=13 ((D1.qS<|es.take i).map dQ)) #[.refl _,l0,8,9,UT] (λi σ H' _ ⟨sm,_⟩=>.of (sm _ _ g1)) ?_ ?_]
  .rintro i x σ H2 hx ⟨sm,lp,s2,rfl,g⟩;let hi:i<es.length:=by
    let:=(eA.mp hx).1
    let:=hV.1
    lia
   obtain⟨e,he⟩:∃e,es[i]?=0 e:=#[_,cD hi];let[c,rfl,hc]:=hV.2 i _ e hx he;let hw:=D1.Gw (B:=50) (es.take i) λy hy=>lw _ (qg hy);let vb:=lw e<|dS he;let hl:(es.take i).length<=50:=by rw[cV];lia
   dsimp only[cg];refine#[_,9,by show 11 1;lia,λt ht=>#[_,_,_,_,9,9,bc.upd ht _ _ g,bq,by rw[bH];show 11 (_+1);lia,λt2 h2=>?_]];refine#[_,9,_,_,_,_,9,9,bq,(s1.trans<|sm.trans<|(bc.upd ht).trans<|.upd h2) _ _ hc,by rw[cb,bH,bH];show 11 (_+1+_);lia,λt3 h3=>?_];refine#[sm.trans<|(bc.upd ht).trans<|(bc.upd h2).trans<|.upd h3,t3,_,9,?_];rw[bq,iM,he];show _=0 (HO.lst<|(D1.qS<|es.take i++[e]).map dQ);rw[D1.af1,eC,eC,gR];rfl
  rintro σ H2 ⟨sm,lp,s2,rfl,g⟩;rw[hV.1,nF]at g;let hw:=D1.Gw (B:=50) es lw;let sc:=s1.trans sm;refine#[_,9,_,9,1,9,a,_,-1,3 b,9,9,.of<|sc _ _ ga,OC _ _,_,b,_,_,9,9,g,sc _ _ hb,by rw[bH,bH];lia,λt ht=>?_];refine q t _ (sc.trans<|.upd ht) ?_;show _=_;rw[bq,D1.Mx,eC]
def mj.last{L:1 V}(h:mj H L ds)(hn:ds≠[]):∃VS b es d,L=VS++[3 b]/\ds=es++[d]/\mj H VS es/\WL H b d:=by
 obtain⟨es,d,rfl⟩:∃es d,ds=es++[d]:=#[_,_,(List.dropLast_concat_getLast hn).symm];let hL:L≠[]:=λz=>by rw[z]at h;let:=h.1;simp at this
 obtain⟨VS,v,rfl⟩:∃VS v,L=VS++[v]:=#[_,_,(List.dropLast_concat_getLast hL).symm];let hl:VS.length=es.length:=by let:=h.1;simp at this;exact this
 let[b,rfl,hb]:=h.2 VS.length v d List.getElem?_concat_length (by rw[hl];exact List.getElem?_concat_length);refine#[VS,b,es,d,9,9,#[hl,λi v d' e1 e2=>?_],hb];let h1:i<VS.length:=(eA.mp e1).1;exact h.2 i v d' (by rw[i9 h1];exact e1) (by rw[i9 7];exact e2)
def zQ(te:TE)(σ:St)(H:Hp)(ds:1 D1.Dr):Prop:=∀H',bc H H'->∀R:VK,(∀a VS fY,bc H' fY->fY a=13 VS->mj fY VS ds->R (3 a) fY)->te σ H' R
section
variable{σ:St}{H:Hp}
def UU{ta tb:TE}{es:1 D1.Dr}(h1:zQ ta σ H ds)(h2:zQ tb σ H es)(hl:ds.length+es.length<=100):zQ (bY fh ta tb) σ H (ds++es):=(λH' s R q=>by
 let z:11 (100:Nat):=by decide
 refine h1 H' s _ λa VS H1 s1 ga hV=>h2 H1 (s.trans s1) _ λb WS H2 s2 gb hW=>?_;refine#[a,b,_,_,9,9,s2 _ _ ga,gb,by rw[hV.1,hW.1];lia,λc hc=>?_];exact q c _ _ (s1.trans<|s2.trans<|.upd hc) bq<|((hV.mono s2).append hW).mono<|.upd hc)
def af4(h:σ[i]?=0 (8 b))(hb:WL H b d):zQ (dt<|bw (bt i) cB) σ H [d]:=(λH' s R q=>
 #[_,h,by show 11 1;decide,λa ha=>q a _ _ (.upd ha) bq<|.one<|(s.trans<|.upd ha) _ _ hb])
def Co(i:Nat):TE:=bY IJ (dt<|bw (dt<|bw (tC<|.str<|4 "id") cB) cB)<|bt i
def UW{k:Nat}(h:σ[i]?=0 (0<|2 (k:Int)))(hk:k<=100):zQ (Co i) σ H (16 k .id):=(λH' s R q=>by
 let z:11 (100:Nat):=by decide
 refine#[by show 11 1;decide,λb hb=>#[by show 11 1;decide,λa ha=>#[_,h,a,(k:Int),[3 b],9,9,bq,7,7,by show 11 (1*(k:Int).toNat);lia,λc hc=>?_]]];refine q c _ _ ((bc.upd hb).trans<|(bc.upd ha).trans<|.upd hc) bq ?_;rw[show(k:Int).toNat=k by lia,Kn];exact .rep (bc.upd hc _ _<|bc.upd ha _ _ bq) k)
def zR:TE:=bY fh (bY fh (Co 12)<|dt<|bw (bt 07) cB)<|Co 13
def o5(k:Nat)(d:D1.Dr)(m:Nat):D1.Dr:=D1.qR<|16 k .id++[d]++16 m .id
def MC(k:Nat)(d:D1.Dr)(m:Nat):(o5 k d m).l=k+d.l+m:=by
 unfold o5;rw[D1.Gx,D1.My,D1.My,D1.MA,D1.MA];rfl
def MD(k:Nat)(d:D1.Dr)(m:Nat):(o5 k d m).r=k+d.r+m:=by
 unfold o5;rw[D1.Gy,D1.Mz,D1.Mz,D1.MB,D1.MB];rfl
def GH{k:Nat}{x:D1.Dr}(h:x∈16 k .id++[d]++16 m .id):x=.id\/x=d:=by
 rcases(eB.mp h)with(h|h)
 .rcases(eB.mp h)with(h|h)
  .exact .inl<|List.eq_of_mem_replicate h
  .exact .inr<|cT.mp h
 .exact .inl<|List.eq_of_mem_replicate h
def UX{k:Nat}(h:d.wf p):(o5 k d m).wf p:=(D1.UR _ λx hx=>by
 rcases GH hx with rfl|rfl
 .exact True.intro
 .exact h)
def UY{B k:Nat}(h:d.eO B)(hb:(k+d.l+m)+(k+d.r+m)<=B):(o5 k d m).eO B:=by
 refine D1.US _ (λx hx=>?_) ?_
 .rcases GH hx with rfl|rfl
  .exact True.intro
  .exact h
 .rw[<- D1.Gx,<- D1.Gy];let e1:=MC k d m;let e2:=MD k d m;unfold o5 at e1 e2;rw[e1,e2];exact hb
def UZ{k:Nat}(hk:k+m<=20)(h:23<=50):(o5 k d m).aY.length<=2000:=by
 unfold o5;obtain⟨es,e,he⟩:∃es e,16 k D1.Dr.id++[d]++16 m D1.Dr.id=es++[e]:=#[_,_,(List.dropLast_concat_getLast 17).symm];let hw:∀x∈es++[e],x.aY.length<=50:=λx hx=>by
  rw[<- he]at hx;rcases GH hx with rfl|rfl
  .show 1<=50;decide
  .exact h
 let hl:es.length<=20:=by
  let:=aj List.length he
  simp at this;lia
 rw[he,D1.Mx,cb];let h1:=D1.Gw (B:=50) es λx hx=>hw x (o8 _ hx);let h2:=hw e<|ji _<|.head _;lia
def U0{K:Frag}{E:XK}{k:Nat}(h1:σ[12]?=0 (0<|2 (k:Int)))(h2:σ[07]?=0 (8 b))(h3:σ[13]?=0 (0<|2 (m:Int)))(hb:WL H b d)(hk:k+m<=20)(hw:23<=50)(q:∀c H',bc H H'->WL H' c (o5 k d m)->R (3 c) H'):kg (Cn K) [] E (bw zR cB) σ H R:=by
 let hE:zQ zR σ H (16 k .id++[d]++16 m .id):=UU (UU (UW h1 7) (af4 h2 hb)<|by rw[fg];show k+1<=100;lia) (UW h3 7) (by rw[cb,fg,fg];show k+1+m<=100;lia);refine hE H (.refl _) _ λa VS H1 s1 ga hV=>?_;let[XS,b',es,e,rfl,he,hX,oE]:=hV.last 17;let hw:∀x∈es++[e],x.aY.length<=50:=λx hx=>by
  rw[<- he]at hx;rcases GH hx with rfl|rfl
  .show 1<=50;decide
  .exact hw
 let hl:es.length<=20:=by
  let:=aj List.length he
  simp at this;lia
 refine#[a,b',XS,es,e,9,ga,hX,oE,7,λx hx=>hw x<|o8 _ hx,hw e<|ji _<|.head _,λc H2 s2 hc=>q c H2 (s1.trans s2) ?_];unfold o5;rw[he];exact hc
end
noncomputable abbrev zS(p:Int)(a:Addr)(c:Int)(m:Nat)(b:Addr)(l r:Nat)(b2:Addr)(l2 r2:Nat)(f:Addr)(s12 jO p9 qT:7 V):St:=[0<|2 p,8 a,0<|2 c,0<|2 (m:Int),8 b,0<|2 (l:Int),0<|2 (r:Int),8 b2,0<|2 (l2:Int),0<|2 (r2:Int),0<|2<|c%06,8 f,s12,jO,p9,qT]
def Cp(i j:Nat):TE:=bY (rI (λ_ j=>0<j) λi j=>2<|i%j) (bY (rI v5 λi j=>2<|i/j) (bt 2)<|tC<|2 07)<|bY (gH λi j=>2<|i+j) (bY (gH λi j=>2<|i-j) (bt i)<|bt j)<|tC<|2 1
def Cq(i j:Nat):TE:=bY (gH λi j=>2<|i-j) (bY (gH λi j=>2<|i-j) (bt i)<|bt j)<|bt 12
def qU(x:String):TE:=dt<|bw (tC<|.str<|4 x) cB
def GI(K:Frag)(E:XK):TS:=cR (dI (Cp 06 08)<|cg 12)<|cR (dI (Cq 06 08)<|cg 13)<|cR (dI (kg (Cn K) [] E<|bw zR cB)<|cg 14)<|dI (dt<|bw (bY fh (bY fh (qU "then")<|bt 04)<|bt 14)<|bw (bt 05)<|bw (bY (gH λi j=>2<|i+j) (bY (gH λi j=>2<|i-j) (bt 06)<|bt 08)<|bt 09) cB)<|cg 11
def GK(K:Frag)(E:XK):TS:=cR (dI (Cp 05 09)<|cg 12)<|cR (dI (Cq 05 09)<|cg 13)<|cR (dI (kg (Cn K) [] E<|bw zR cB)<|cg 14)<|dI (dt<|bw (bY fh (bY fh (qU "then")<|bt 14)<|bt 04)<|bw (bY (gH λi j=>2<|i+j) (bY (gH λi j=>2<|i-j) (bt 05)<|bt 09)<|bt 08)<|bw (bt 06) cB)<|cg 11
def GN:TS:=dI (dt<|bw (bY fh (qU "back")<|bt 04)<|bw (bt 06)<|bw (bt 05) cB)<|cg 11
def xq(p:Int)(a:Addr)(c:Int)(m:Nat)(b:Addr)(l r:Nat)(b2:Addr)(l2 r2:Nat)(H0:Hp)(σ:St)(H:Hp):Prop:=bc H0 H/\∃f d s12 jO p9 qT,σ=zS p a c m b l r b2 l2 r2 f s12 jO p9 qT/\WT H f d/\d.wf p/\d.eO 64/\23<=5000/\d.l+d.r<=60
section
variable{K:Frag}{E:XK}{p c:Int}{a b b2 f:Addr}{m:Nat}{d e:D1.Dr}{s12 jO p9 qT:7 V}{H:Hp}{D:Ends}
def U1{x y:Nat}(h2:σ[2]?=0 (0<|2 c))(hi:σ[i]?=0 (0<|2 (x:Int)))(hj:σ[j]?=0 (0<|2 (y:Int)))(hl:y<=x)(q:∀k:Nat,k<=x-y->R (2 (k:Int)) H):Cp i j σ H R:=by
 let b0:=rh (c/07) (show((x:Int)-y+1)≠0 by lia);let b1:=ri (c/07) (show(0:Int)<(x:Int)-y+1 by lia);refine#[_,h2,c,07,9,9,#[16,16],_,hi,_,hj,_,_,9,9,_,_,9,9,_,_,9,9,show(0:Int)<(x:Int)-y+1 by lia,?_];show R (2<|c/07%((x:Int)-y+1)) H;rw[show c/07%((x:Int)-y+1)=(((c/07%((x:Int)-y+1)).toNat:Nat):Int) by lia];exact q _ 7
def U2{x y k:Nat}(h2:σ[12]?=0 (0<|2 (k:Int)))(hi:σ[i]?=0 (0<|2 (x:Int)))(hj:σ[j]?=0 (0<|2 (y:Int)))(hl:y<=x)(hk:k<=x-y)(q:R (2 ((x-y-k:Nat):Int)) H):Cq i j σ H R:=by
 refine#[_,hi,_,hj,_,_,9,9,_,h2,_,_,9,9,?_];show R (2<|(x:Int)-y-k) H;rw[show(x:Int)-y-k=((x-y-k:Nat):Int) by lia];exact q
def U3{u:Addr}(hi:σ[i]?=0 (8 u))(hj:σ[j]?=0 (8 v))(hu:WL H u d)(hv:WL H v e)(hl:23+e.aY.length<=9000)(q:∀t H',bc H H'->H' t=13 ((D1.Wd.w x::(d.aY++e.aY)).map dQ)->R (3 t) H'):bY fh (bY fh (qU x)<|bt i) (bt j) σ H R:=by
 let z:11 (10000:Nat):=by decide
 refine#[by show 11 1;lia,λt1 h1=>#[_,hi,t1,u,_,_,9,9,bq,bc.upd h1 _ _ hu,by rw[bH];show 11 (1+_);lia,λt2 h2=>#[_,hj,t2,v,_,_,9,9,bq,bc.upd h2 _ _<|bc.upd h1 _ _ hv,by rw[cb,bH,bH];show 11 (1+_+_);lia,λt3 h3=>?_]]];refine q t3 _ ((bc.upd h1).trans<|(bc.upd h2).trans<|.upd h3) ?_;rw[bq,ib,eC];rfl
def GQ{tw tl tr:TE}{g:D1.Dr}(hw:∀R:VK,(∀t H',bc H H'->WL H' t g->R (3 t) H')->tw σ H R)(hl:∀H',bc H H'->∀R:VK,R (2 (g.l:Int)) H'->tl σ H' R)(hr:∀H',bc H H'->∀R:VK,R (2 (g.r:Int)) H'->tr σ H' R)(q:∀t H',bc H H'->WT H' t g->R (3 t) H'):dt (bw tw<|bw tl<|bw tr cB) σ H R:=by
 refine hw _ λt H1 s1 ht=>hl H1 s1 _<|hr H1 s1 _ #[by show 11 3;decide,λx hx=>q x _ (s1.trans<|.upd hx) #[t,bq,bc.upd hx _ _ ht]]
def af5(hb:WL H b d)(qO:WL H b2 e)(dw:d.wf p)(dn:d.eO 64)(dl:23<=100)(ds:d.l+d.r<=08)(ew:e.wf p)(en:e.eO 64)(el:e.aY.length<=09)(es:e.l+e.r<=04)(mZ:e.l<=d.r)(q:∀σ H',xq p a c m b d.l d.r b2 e.l e.r H σ H'->N σ H'):GI K E { D with nx:=N } (zS p a c m b d.l d.r b2 e.l e.r f s12 jO p9 qT) H:=by
 unfold GI;refine nC<|U1 9 9 9 mZ λk hk=>?_;refine nC<|U2 (x:=d.r) (y:=e.l) (k:=k) 9 9 9 mZ hk ?_;refine nC<|U0 (k:=k) (m:=d.r-e.l-k) (d:=e) 9 9 9 qO 7 7 λt H1 s1 ht=>?_;let e1:=MC k e<|d.r-e.l-k;let e2:=MD k e<|d.r-e.l-k;let w1:=UX (k:=k) (m:=d.r-e.l-k) ew;let w2:=UY (B:=64) (k:=k) (m:=d.r-e.l-k) en (by lia);let w3:=UZ (k:=k) (m:=d.r-e.l-k) (d:=e) 7 7;generalize o5 k e (d.r-e.l-k)=u at *;refine GQ (g:=.bg d u) (λR q'=>U3 9 9 (s1 _ _ hb) ht 7 q') (λH' _ R q'=>#[_,9,q']) (λH' _ R q'=>#[_,9,_,9,_,_,9,9,_,9,_,_,9,9,?_]) λx H2 s2 hx=>?_
 .let:((D1.Dr.bg d u).r:Int)=(d.r:Int)-e.l+e.r:=by show(u.r:Int)=_;lia
  rw[this]at q';exact q'
 .refine q _ _ #[s1.trans s2,x,.bg d u,_,_,_,_,9,hx,#[dw,w1,7],#[dn,w2,7],?_,by show d.l+u.r<=60;lia];show(D1.Wd.w "then"::(d.aY++u.aY)).length<=5000;rw[eX,cb];lia
def af6(hb:WL H b d)(qO:WL H b2 e)(dw:d.wf p)(dn:d.eO 64)(dl:23<=100)(ds:d.l+d.r<=08)(ew:e.wf p)(en:e.eO 64)(el:e.aY.length<=09)(es:e.l+e.r<=04)(mZ:e.r<=d.l)(q:∀σ H',xq p a c m b d.l d.r b2 e.l e.r H σ H'->N σ H'):GK K E { D with nx:=N } (zS p a c m b d.l d.r b2 e.l e.r f s12 jO p9 qT) H:=by
 unfold GK;refine nC<|U1 9 9 9 mZ λk hk=>?_;refine nC<|U2 (x:=d.l) (y:=e.r) (k:=k) 9 9 9 mZ hk ?_;refine nC<|U0 (k:=k) (m:=d.l-e.r-k) (d:=e) 9 9 9 qO 7 7 λt H1 s1 ht=>?_;let e1:=MC k e<|d.l-e.r-k;let e2:=MD k e<|d.l-e.r-k;let w1:=UX (k:=k) (m:=d.l-e.r-k) ew;let w2:=UY (B:=64) (k:=k) (m:=d.l-e.r-k) en (by lia);let w3:=UZ (k:=k) (m:=d.l-e.r-k) (d:=e) 7 7;generalize o5 k e (d.l-e.r-k)=u at *;refine GQ (g:=.bg u d) (λR q'=>U3 9 9 ht (s1 _ _ hb) 7 q') (λH' _ R q'=>#[_,9,_,9,_,_,9,9,_,9,_,_,9,9,?_]) (λH' _ R q'=>#[_,9,q']) λx H2 s2 hx=>?_
 .let:((D1.Dr.bg u d).l:Int)=(d.l:Int)-e.r+e.l:=by show(u.l:Int)=_;lia
  rw[this]at q';exact q'
 .refine q _ _ #[s1.trans s2,x,.bg u d,_,_,_,_,9,hx,#[w1,dw,7],#[w2,dn,7],?_,by show u.l+d.r<=60;lia];show(D1.Wd.w "then"::(u.aY++d.aY)).length<=5000;rw[eX,cb];lia
def af7(hb:WL H b d)(dw:d.wf p)(dn:d.eO 64)(dl:23<=100)(ds:d.l+d.r<=08)(q:∀σ H',xq p a c m b d.l d.r b2 e.l e.r H σ H'->N σ H'):GN { D with nx:=N } (zS p a c m b d.l d.r b2 e.l e.r f s12 jO p9 qT) H:=by
 let z:11 (10000:Nat):=by decide
 unfold GN;refine GQ (g:=.back d) (λR q'=>?_) (λH' _ R q'=>#[_,9,q']) (λH' _ R q'=>#[_,9,q']) λx H2 s2 hx=>?_
 .refine#[by show 11 1;lia,λt1 h1=>#[_,9,t1,b,_,_,9,9,bq,bc.upd h1 _ _ hb,by rw[bH];show 11 (1+_);lia,λt2 h2=>q' t2 _ ((bc.upd h1).trans<|.upd h2) bq]]
 .exact q _ _ #[s2,x,.back d,_,_,_,_,9,hx,dw,dn,by show 23+1<=5000;lia,by show d.r+d.l<=60;lia]
end
def U4{te:TE}{g:TG}(h:te σ H λx H1=>g x σ H1 (u D)):cR (dI te g) u D σ H:=(h)
def ME{c:TT}{t:TS}(d:Bool)(h:∀R:Bool->6 Hp,R d H->c σ H R)(ht:d=6->t D σ H)(hf:d=false->u D σ H):gU c t u D σ H:=by
 refine h _ ?_;cases d with
 |true=>exact fw<|ht 9
 |false=>exact dh<|hf 9
def U5{c e:TT}{R:Bool->6 Hp}{d k:Bool}(h:∀R:Bool->6 Hp,R d H->c σ H R)(h':∀R:Bool->6 Hp,R k H->e σ H R)(r:R (d&&k) H):C1 c e σ H R:=by
 refine h _ ?_;cases d with
 |true=>exact fw<|h' _ r
 |false=>exact dh r
def Cr(K:Frag)(j:Int):TE:=bY (nO K) (bt 15)<|tC<|2 j
def GX(K:Frag):TS:=cR (dI (dt<|bw (bt 04)<|bw (bt 07) cB)<|cg 15)<|cR (gU (kZ<|bY rJ (bY (rI (λ_ j=>0<j) λi j=>2<|i%j) (bY (rI v5 λi j=>2<|i/j) (bt 2)<|tC<|2 11)<|tC<|2 2)<|tC<|2 1) (xY<|AD K "list" ON<|bt 15) jS)<|dI (dt<|bw (bY fh (bY fh (qU "beside")<|Cr K 0)<|Cr K 1)<|bw (bY (gH λi j=>2<|i+j) (bt 05)<|bt 08)<|bw (bY (gH λi j=>2<|i+j) (bt 06)<|bt 09) cB)<|cg 11
section
variable{K:Frag}{E:XK}{p c:Int}{a b b2 f:Addr}{m:Nat}{d e:D1.Dr}{s12 jO p9 qT:7 V}{H:Hp}{D:Ends}{H':Hp}
def af8{ti tj:TE}{u:Addr}(hi:∀H',bc H H'->∀R:VK,R (3 u) H'->ti σ H' R)(hj:∀H',bc H H'->∀R:VK,R (3 v) H'->tj σ H' R)(hu:WL H u d)(hv:WL H v e)(hl:23+e.aY.length<=9000)(q:∀t H',bc H H'->H' t=13 ((D1.Wd.w x::(d.aY++e.aY)).map dQ)->R (3 t) H'):bY fh (bY fh (qU x) ti) tj σ H R:=by
 let z:11 (10000:Nat):=by decide
 refine#[by show 11 1;lia,λt1 h1=>hi _ (.upd h1) _ #[t1,u,_,_,9,9,bq,bc.upd h1 _ _ hu,by rw[bH];show 11 (1+_);lia,λt2 h2=>hj _ ((bc.upd h1).trans<|.upd h2) _ #[t2,v,_,_,9,9,bq,bc.upd h2 _ _<|bc.upd h1 _ _ hv,by rw[cb,bH,bH];show 11 (1+_+_);lia,λt3 h3=>?_]]];refine q t3 _ ((bc.upd h1).trans<|(bc.upd h2).trans<|.upd h3) ?_;rw[bq,ib,eC];rfl
def U6{g h:D1.Dr}{u ls:Addr}(hu:WL H u g)(hv:WL H v h)(gl:H ls=13 [3 u,3 v])(gw:g.wf p)(gn:g.eO 64)(ai2:g.aY.length<=100)(gs:g.l+g.r<=08)(hw:h.wf p)(hn:h.eO 64)(cW:h.aY.length<=100)(hs:h.l+h.r<=08)(el:g.l+h.l=d.l+e.l)(er:g.r+h.r=d.r+e.r)(q:∀σ H',xq p a c m b d.l d.r b2 e.l e.r H σ H'->N σ H'):dI (dt<|bw (bY fh (bY fh (qU "beside")<|Cr K 0)<|Cr K 1)<|bw (bY (gH λi j=>2<|i+j) (bt 05)<|bt 08)<|bw (bY (gH λi j=>2<|i+j) (bt 06)<|bt 09) cB) (cg 11) { D with nx:=N } (zS p a c m b d.l d.r b2 e.l e.r f s12 jO p9<|8 ls) H:=by
 refine GQ (g:=.bo g h) (λR q'=>af8 (u:=u) (v:=v) (λH' s R MF=>#[_,9,ls,_,0,_,9,9,.of<|s _ _ gl,cm (j:=0) rfl,MF]) (λH' s R MF=>#[_,9,ls,_,1,_,9,9,.of<|s _ _ gl,cm (j:=1) rfl,MF]) hu hv 7 q') (λH' _ R q'=>#[_,9,_,9,_,_,9,9,?_]) (λH' _ R q'=>#[_,9,_,9,_,_,9,9,?_]) λx H2 s2 hx=>?_
 .let:((D1.Dr.bo g h).l:Int)=(d.l:Int)+e.l:=by show((g.l+h.l:Nat):Int)=_;lia
  rw[this]at q';exact q'
 .let:((D1.Dr.bo g h).r:Int)=(d.r:Int)+e.r:=by show((g.r+h.r:Nat):Int)=_;lia
  rw[this]at q';exact q'
 .refine q _ _ #[s2,x,.bo g h,_,_,_,_,9,hx,#[gw,hw],#[gn,hn,7],?_,by show g.l+h.l+(g.r+h.r)<=60;lia];show(D1.Wd.w "beside"::(g.aY++h.aY)).length<=5000;rw[eX,cb];lia
def af9(hb:WL H b d)(qO:WL H b2 e)(dw:d.wf p)(dn:d.eO 64)(dl:23<=100)(ds:d.l+d.r<=08)(ew:e.wf p)(en:e.eO 64)(el:e.aY.length<=09)(es:e.l+e.r<=04)(q:∀σ H',xq p a c m b d.l d.r b2 e.l e.r H σ H'->N σ H'):GX K { D with nx:=N } (zS p a c m b d.l d.r b2 e.l e.r f s12 jO p9 qT) H:=by
 unfold GX;refine nC #[_,9,_,9,by show 11 2;decide,λls iO=>?_];let nb:b≠ls:=λz=>by rw[<- z]at iO;unfold WL at hb;rw[iO]at hb;cases hb
 let nb2:b2≠ls:=λz=>by rw[<- z]at iO;unfold WL at qO;rw[iO]at qO;cases qO
 refine QY (c/11%2==1) (λR r=>#[_,9,c,11,9,9,#[16,16],c/11,2,9,9,(by decide:(0:Int)<2),9,_,9,by rw[Ii];exact r]) (λ_=>?_) λ_=>?_
 .refine#[_,9,.inl #[9,_,.of bq],ls,_,9,9,bq,?_];rw[XI];exact U6 (g:=e) (h:=d) (u:=b2) (v:=b) (bc.upd iO _ _ qO) (bc.upd iO _ _ hb) bq ew en 7 7 dw dn dl ds 7 7 λσ H' j=>q σ H' #[(bc.upd iO).trans j.1,j.2]
 .exact U6 (g:=d) (h:=e) (u:=b) (v:=b2) (bc.upd iO _ _ hb) (bc.upd iO _ _ qO) bq dw dn dl ds ew en 7 7 9 9 λσ H' j=>q σ H' #[(bc.upd iO).trans j.1,j.2]
def GY(K:Frag)(j:Int):TE:=bY (nO K) (bt 11)<|tC<|2 j
def aga(K:Frag):1 V->Hp->6 VK:=λxs H Q=>∃p ys,xs=[3 p]/\(dv K H p ys\/bu K H p ys)/\Q (2 ys.length) H
def GZ(K:Frag):TS:=cR (gU (C2 (kZ<|bY (gH λi j=>.bl<|decide<|j<i) (qr (aga K)<|bw (GY K 0) cB)<|bt 3)<|C2 (kZ<|bY (gH λi j=>.bl<|decide<|j<i) (GY K 1)<|tC<|2 04)<|kZ<|bY (gH λi j=>.bl<|decide<|j<i) (GY K 2)<|tC<|2 04) (iE<|bt 1) jS)<|iE<|bt 11
def agb(hJ:xq p a c m b d.l d.r b2 e.l e.r H σ H')(ha:WT H a d)(q1:∀H',bc H H'->WT H' a d->D.rt (3 a) H')(q2:∀f g H',bc H H'->WT H' f g->g.wf p->g.eO 64->g.aY.length<=m->g.l+g.r<=08->D.rt (3 f) H'):GZ K D σ H':=by
 let[sm,f,g,s12,jO,p9,qT,rfl,hf,w1,w2,w3,w4]:=hJ;let[t,gf,gt]:=hf;unfold GZ;refine QY (decide ((m:Int)<(g.aY.length:Int))||(decide (04<(g.l:Int))||decide (04<(g.r:Int)))) (λR r=>?_) (λ_=>?_) λz=>?_
 .refine#[_,9,f,_,0,_,9,9,.of gf,cm (j:=0) rfl,t,_,9,.inl<|.of gt,_,9,_,_,9,9,_,9,?_];rw[bH];cases hd:decide ((m:Int)<(g.aY.length:Int)) with
  |true=>rw[hd]at r;exact fw r
  |false=>
   rw[hd]at r;refine dh #[_,9,f,_,1,_,9,9,.of gf,cm (j:=1) rfl,_,_,9,9,_,9,?_];cases Az:decide (04<(g.l:Int)) with
   |true=>rw[Az]at r;exact fw r
   |false=>
    rw[Az]at r;exact dh #[_,9,f,_,2,_,9,9,.of gf,cm (j:=2) rfl,_,_,9,9,_,9,r]
 .exact#[_,9,q1 _ sm<|ha.mono sm]
 .rw[Bool.or_eq_false_iff,Bool.or_eq_false_iff,aJ,aJ,aJ]at z;exact#[_,9,q2 f g _ sm #[t,gf,gt] w1 w2 7 7]
def MG(K:Frag)(E:XK):TS:=cR (dI (bt 1)<|yG K 3<|iF (cg 04)<|iF (cg 05)<|iF (cg 06) rG)<|cR (dI (kg (Gq K) [] E<|bw (bt 0)<|bw (bY (rI v5 λi j=>2<|i/j) (bt 2)<|tC<|2 06) cB)<|yG K 3<|iF (cg 07)<|iF (cg 08)<|iF (cg 09) rG)<|cR (dI (bY (rI (λ_ j=>0<j) λi j=>2<|i%j) (bt 2)<|tC<|2 06)<|cg 10)<|cR (dI (bt 1)<|cg 11)<|cR (gU (C1 (kZ<|bY (gH λi j=>.bl<|decide<|i<j) (bt 10)<|tC<|2 3)<|kZ<|bY (gH λi j=>.bl<|decide<|i<=j) (bt 08)<|bt 06) (GI K E)<|gU (C1 (kZ<|bY rJ (bt 10)<|tC<|2 3)<|kZ<|bY (gH λi j=>.bl<|decide<|i<=j) (bt 09)<|bt 05) (GK K E)<|gU (kZ<|bY rJ (bt 10)<|tC<|2 04) GN<|GX K)<|GZ K
end
def U7(_K:Frag):Sp:=λvs H Q _=>∃(p c:Int)(a:Addr)(m M:Nat)(d:D1.Dr),vs=[2 p,3 a,2 c,2 (m:Int)]/\p∈cM/\WT H a d/\d.wf p/\d.eO 64/\23<=M/\m<=M/\M<=100/\d.l+d.r<=08/\
 ∀f g H',bc H H'->WT H' f g->g.wf p->g.eO 64->g.aY.length<=M->g.l+g.r<=08->Q (3 f) H'
def jP:dz ["p","one","cell","most","words","left","right","box","into","out","way","found","at","wide","row","some"] ["p","one","cell","most"] (cj Kg):=(dW 9 9 9 19 9)
def agc{fS fB:Addr}{jt vk:FuncData}(F:cL K "_law_more" "_law_more" Kg f fd)(T:Txt mg)
  (GS:bQ P w K mg base bX 2 fS jt ["p","cell"] (Gq K)) (kS:Kp K fS) (bS:Binds K jt ["p","cell"] []) (mS:Mg mg "_law_some_box" fS)
  (GB:bQ P w K mg base bX 1 fB vk ["parts"] (Cn K)) (kB:Kp K fB) (bB:Binds K vk ["parts"] []) (mB:Mg mg "_law_beside_all" fB) :
  bQ P w K mg base bX 3 f fd ["p","one","cell","most"] (U7 K):=by
 refine 17 jP 24 ?_
 .let[p,c,a,m,M,d,rfl,_]:=h;rfl
 .let[p,c,a,m,M,d,rfl,pp,ha,dw,dn,dm,mM,hm,ds,q]:=h;refine#[MG K E,?_,?_]
  .unfold MG;refine bz ?_ ?_
   .exact pA (pv 1)<|tL 9<|eR (cH (i:=04) jP.nd rfl (18))<|eR (cH (i:=05) jP.nd rfl (18))<|eR (cH (i:=06) jP.nd rfl (18)) nJ
   refine bz ?_ ?_
   .exact pA (cY GS hr 9 mS kS bS .nil cZ<|10 0<|bf (bI rH (pv 2) br) bj)<|tL 9<|eR (cH (i:=07) jP.nd rfl (18))<|eR (cH (i:=08) jP.nd rfl (18))<|eR (cH (i:=09) jP.nd rfl (18)) nJ
   refine bz ?_ ?_
   .exact cx (i:=10) jP.nd rfl (18) (bI jb (pv 2) br)
   refine bz ?_ ?_
   .exact cx (i:=11) jP.nd rfl (18) (pv 1)
   refine bz ?_ ?_
   .refine dq ?_ ?_ ?_
    .exact PW.pt<|rE (cQ Oi (pv 10) br<|cO _)<|sX<|cQ Ij (pv 08) (pv 06)<|cO _
    .unfold GI Cp Cq zR Co qU;refine bz ?_ ?_
     .exact cx (i:=12) jP.nd rfl (18) (bI jb (bI rH (pv 2) br)<|bI ij (bI nN (pv 06)<|pv 08) br)
     refine bz ?_ ?_
     .exact cx (i:=13) jP.nd rfl (18) (bI nN (bI nN (pv 06)<|pv 08)<|pv 12)
     refine bz ?_ ?_
     .exact cx (i:=14) jP.nd rfl (18) (cY GB (hr.mono 7) 9 mB kB bB .nil cZ<|bf (bI eV (bI eV (bI rQ (cK<|bf (cK<|bf c7 bj) bj)<|pv 12)<|cK<|10 07 bj)<|bI rQ (cK<|bf (cK<|bf c7 bj) bj)<|pv 13) bj)
     .refine bN ?_;exact cx (i:=11) jP.nd rfl (18) (cK<|bf (bI eV (bI eV (cK<|bf c7 bj)<|pv 04)<|pv 14)<|10 05<|bf (bI ij (bI nN (pv 06)<|pv 08)<|pv 09) bj)
    .refine bN ?_;refine dq ?_ ?_ ?_
     .exact PW.pt<|rE (cQ e8 (pv 10) br<|cO _)<|sX<|cQ Ij (pv 09) (pv 05)<|cO _
     .unfold GK Cp Cq zR Co qU;refine bz ?_ ?_
      .exact cx (i:=12) jP.nd rfl (18) (bI jb (bI rH (pv 2) br)<|bI ij (bI nN (pv 05)<|pv 09) br)
      refine bz ?_ ?_
      .exact cx (i:=13) jP.nd rfl (18) (bI nN (bI nN (pv 05)<|pv 09)<|pv 12)
      refine bz ?_ ?_
      .exact cx (i:=14) jP.nd rfl (18) (cY GB (hr.mono 7) 9 mB kB bB .nil cZ<|bf (bI eV (bI eV (bI rQ (cK<|bf (cK<|bf c7 bj) bj)<|pv 12)<|cK<|10 07 bj)<|bI rQ (cK<|bf (cK<|bf c7 bj) bj)<|pv 13) bj)
      .refine bN ?_;exact cx (i:=11) jP.nd rfl (18) (cK<|bf (bI eV (bI eV (cK<|bf c7 bj)<|pv 14)<|pv 04)<|bf (bI ij (bI nN (pv 05)<|pv 09)<|pv 08)<|10 06 bj)
     .refine bN ?_;refine dq ?_ ?_ ?_
      .exact cQ e8 (pv 10) br<|cO _
      .unfold GN qU;refine bN ?_;exact cx (i:=11) jP.nd rfl (18) (cK<|bf (bI eV (cK<|bf c7 bj)<|pv 04)<|10 06<|10 05 bj)
      .unfold GX Cr qU;refine bz ?_ ?_
       .exact cx (i:=15) jP.nd rfl (18) (cK<|10 04<|10 07 bj)
       refine bz ?_ ?_
       .refine dq ?_ ?_ eP
        .exact cQ e8 (bI jb (bI rH (pv 2) br) br) br<|cO _
        .refine bN ?_;exact jT<|OJ lR PySem.F.slot_list_reverse PySem.F.type_list_reverse Za<|pv 15
       .refine bN ?_;exact cx (i:=11) jP.nd rfl (18) (cK<|bf (bI eV (bI eV (cK<|bf c7 bj)<|bZ (dC K 9) (pv 15) br)<|bZ (dC K 9) (pv 15) br)<|bf (bI ij (pv 05)<|pv 08)<|bf (bI ij (pv 06)<|pv 09) bj)
   .unfold GZ GY;refine bz ?_ ?_
    .refine dq ?_ ?_ eP
     .exact PW.pt<|xW (cQ x8 (iW (nV K 9) 9 T.len nW<|bf (bZ (dC K 9) (pv 11) br) bj) (pv 3)<|cO _)<|xW (cQ x8 (bZ (dC K 9) (pv 11) br) br<|cO _)<|Ar<|cQ x8 (bZ (dC K 9) (pv 11) br) br<|cO _
     .exact bN<|cJ<|pv 1
    .exact bN<|cJ<|pv 11
  unfold MG;let[b,ga,gb]:=ha;refine U4 #[_,9,ud (.of ga) ?_];refine U4 #[_,9,_,9,c,06,9,9,#[16,16],p,c/06,9,pp,λa2 e H1 s1 he ew en el es=>?_];let[b2,ga2,MH]:=he;refine ud (.of ga2) ?_;refine nC #[_,9,c,06,9,9,(by decide:(0:Int)<06),?_];refine nC #[_,9,?_];let qF:=s1 _ _ gb;let ha1:WT H1 a d:=#[b,s1 _ _ ga,qF];refine abQ (xq p a c m b d.l d.r b2 e.l e.r H1) (λN hN=>?_) λσ H' hJ=>agb hJ ha1 (λH' s' h'=>q a d H' (s1.trans s') h' dw dn dm ds) λf g H' s' h' w1 w2 w3 w4=>q f g H' (s1.trans s') h' w1 w2 (eh w3 mM) w4;refine ME (decide (c%06<3)&&decide ((e.l:Int)<=d.r)) (λR r=>U5 (λR r=>#[_,9,_,_,9,9,_,9,r]) (λR r=>#[_,9,_,9,_,_,9,9,_,9,r]) r) (λz=>?_) λ_=>?_
  .rw[dM,decide_eq_true_iff,decide_eq_true_iff]at z;exact af5 qF MH dw dn 7 ds ew en el es 7 hN
  refine ME (decide (V.int (c%06)=V.int 3)&&decide ((e.r:Int)<=d.l)) (λR r=>U5 (λR r=>#[_,9,9,_,9,r]) (λR r=>#[_,9,_,9,_,_,9,9,_,9,r]) r) (λz=>?_) λ_=>?_
  .rw[dM,decide_eq_true_iff,decide_eq_true_iff]at z;exact af6 qF MH dw dn 7 ds ew en el es 7 hN
  refine ME (decide<|V.int (c%06)=V.int 04) (λR r=>#[_,9,9,_,9,r]) (λz=>?_) λ_=>?_
  .exact af7 qF dw dn 7 ds hN
  .let cW:23<=100:=by lia
   exact af9 (K:=K) (p:=p) (c:=c) (a:=a) (b:=b) (b2:=b2) (f:=a) (m:=m) (d:=d) (e:=e) (s12:=none) (jO:=none) (p9:=none) (qT:=none) (H:=H1) (N:=N) qF MH dw dn cW ds ew en el es hN
def U8(_K:Frag):Sp:=λvs H Q _=>∃(p:Int)(a:Addr)(m:Nat)(ns:4),vs=[2 p,3 a,2 (m:Int)]/\p∈cM/\H a=13 (ns.map V.int)/\ns.length<=1000/\m<=100/\
 ∀f g H',bc H H'->WT H' f g->g.wf p->g.eO 64->g.aY.length<=max m 09->g.l+g.r<=08->Q (3 f) H'
def Ct:dz ["p","cells","most","one","k"] ["p","cells","most"] (cj Kh):=(dW 9 9 9 19 9)
def agd{fS fM:Addr}{jt i7:FuncData}(F:cL K "_law_grown" "_law_grown" Kh f fd)(T:Txt mg)
  (GS:bQ P w K mg base bX 2 fS jt ["p","cell"] (Gq K)) (kS:Kp K fS) (bS:Binds K jt ["p","cell"] []) (mS:Mg mg "_law_some_box" fS)
  (GM:bQ P w K mg base bX 3 fM i7 ["p","one","cell","most"] (U7 K)) (kM:Kp K fM) (bM:Binds K i7 ["p","one","cell","most"] []) (mM:Mg mg "_law_more" fM) :
  bQ P w K mg base bX 04 f fd ["p","cells","most"] (U8 K):=by
 refine 17 Ct 24 ?_
 .let[p,a,m,ns,rfl,_]:=h;rfl
 .let[p,a,m,ns,rfl,pp,ga,hl,ai3,q]:=h;let i6:eU 2 _:=hr.mono 7;let z:11 (10000:Nat):=by decide
  refine#[_,bz (cx (i:=3) Ct.nd rfl (18) (cK<|bf (cK<|bf c7 bj)<|bf br<|bf br bj))<|bz (kY lS 9 (x5 9 T.range<|bf (iW (nV K 9) 9 T.len nW<|10 1 bj) bj) (cH (i:=04) Ct.nd rfl (18))<|bN<|dq (cQ e8 (pv 04) br<|cO _) (bN<|cx (i:=3) Ct.nd rfl (18) (cY GS i6 9 mS kS bS .nil cZ<|10 0<|bf (bZ (dC K 9) (pv 1) br) bj))<|bN<|cx (i:=3) Ct.nd rfl (18) (cY GM hr 9 mM kM bM .nil cZ<|10 0<|10 3<|bf (bZ (dC K 9) (pv 1)<|pv 04)<|10 2 bj))<|bN<|cJ<|pv 3,?_];refine#[by show 11 1;lia,λl0 h0=>#[by show 11 3;lia,λl1 h1=>?_]];let U9:WT (9 (9 H l0 [.str<|4 "id"]) l1 [3 l0,2 1,2 1]) l1 .id:=#[l0,bq,bc.upd h1 _ _ bq];let s0:bc H (9 (9 H l0 [.str<|4 "id"]) l1 [3 l0,2 1,2 1]):=(bc.upd h0).trans<|.upd h1;generalize 9 (9 H l0 [.str<|4 "id"]) l1 [3 l0,2 1,2 1]=H0 at s0 U9 |-;let eN:(ns.map V.int).length=ns.length:=bH _;refine#[_,9,a,_,9,.inl<|.of<|s0 _ _ ga,_,9,7,7,Aw (n:=(ns.map V.int).length) (λ_ σ H'=>bc H H'/\∃f g s4,σ=[0<|2 p,8 a,0<|2 (m:Int),8 f,s4]/\WT H' f g/\g.wf p/\g.eO 64/\g.aY.length<=max m 09/\g.l+g.r<=08) #[s0,l1,.id,8,9,U9,True.intro,True.intro,by show 1<=max m 09;lia,16] ?_ ?_]
  .rintro k σ H1 hk ⟨sm,f,g,s4,rfl,hf,g1,g2,g3,g4⟩;rw[eN]at hk;rw[lQ];dsimp only[cg];refine#[_,9,9,_,9,?_];obtain⟨c,hc⟩:∃c,ns[k]?=0 c:=#[_,cD hk];split
   .rename_i z
    let e:(k:Int)=0:=V.int.inj<|aM z;let e0:k=0:=by lia
    subst e0;refine#[_,9,_,9,a,_,0,2 c,9,9,.of<|sm _ _ ga,cm (j:=0) (by rw[dR,hc];rfl),p,c,9,pp,λf' g' H2 s2 iq w1 w2 w3 w4=>?_];exact#[sm.trans s2,f',g',_,9,iq,w1,w2,7,7]
   .refine#[_,9,_,9,_,9,_,9,a,_,(k:Int),2 c,9,9,.of<|sm _ _ ga,cm (j:=k) (by rw[dR,hc];rfl),_,9,p,c,f,m,max m 09,g,9,pp,hf,g1,g2,g3,Nat.le_max_left _ _,7,g4,λf' g' H2 s2 iq w1 w2 w3 w4=>?_];exact#[sm.trans s2,f',g',_,9,iq,w1,w2,w3,w4]
  .rintro σ H1 ⟨sm,f,g,s4,rfl,hf,g1,g2,g3,g4⟩;exact#[_,9,q f g H1 sm hf g1 g2 g3 g4]
abbrev Cu:R2:=rI (λ_ j=>0<j) λi j=>2<|i%j
abbrev G0:R2:=rI v5 λi j=>2<|i/j
abbrev tS(x:String):TE:=tC<|.str<|4 x
def MI(x:String)(l r:Int):TE:=jz<|bw (tS x)<|bw (tC<|2 l)<|bw (tC<|2 r) cB
def tQ(q:i0):TE:=jz<|bw (tC<|.str q.1)<|bw (tC<|2 q.2.1)<|bw (tC<|2 q.2.2) cB
def sF:1 i0->TA
 | []=>cB
 |q::ts=>bw (tQ q) (sF ts)
noncomputable def Va:Expr->7 Str
 | .Constant (.str x) _ _=>0 x
 |_=>none
noncomputable def MJ:Expr->7 i0
 | .Tuple [a,b,c] _ _=>match Va a,tK b,tK c with
  |some x,some l,some r=>0 (x,l,r)
  |_,_,_=>none
 |_=>none
def age{X:Cx}{e:Expr}{q:i0}{es:1 Expr}(h:MJ e=0 q)(g:PA X es ta):PA X (e::es) (bw (tQ q) ta):=by
 unfold MJ at h;split at h
 case h_2=>cases h
 case h_1 a b c k pos=>
  split at h
  case h_2=>cases h
  case h_1 x l r h1 h2 h3=>
   cases h;unfold Va at h1;split at h1
   .cases h1;let[_,_,rfl]:=wC h2;let[_,_,rfl]:=wC h3;exact bf (eF<|bf c7<|bf br<|bf br bj) g
   .cases h1
noncomputable def MK:1 Expr->7 (1 i0)
 | []=>0 []
 |e::es=>match MJ e,MK es with
  |some q,some ts=>0 (q::ts)
  |_,_=>none
theorem vI{X:Cx}:∀(es:1 Expr)(ts:1 i0),MK es=0 ts->PA X es (sF ts)
 | [],ts,h=>by cases h;exact bj
 |e::es,ts,h=>by
  unfold MK at h;split at h
  case h_1 q ys h1 h2=>
   cases h;exact age h1<|vI es ys h2
  case h_2=>cases h
def lL(K:Frag)(H:Hp)(vs:1 V)(ts:1 i0):Prop:=vs.length=ts.length/\∀(i:Nat)(v:V)(q:i0),vs[i]?=0 v->ts[i]?=0 q->∃t,v=3 t/\bu K H t [.str q.1,2 q.2.1,2 q.2.2]
def xr(K:Frag)(H:Hp)(l:Addr)(ts:1 i0):Prop:=∃vs,H l=13 vs/\lL K H vs ts
def Cv(K:Frag)(ta:TA)(σ:St)(H:Hp)(ts:1 i0):Prop:=∀H',bc H H'->∀Q:1 V->6 Hp,(∀vs fY,bc H' fY->lL K fY vs ts->Q vs fY)->ta σ H' Q
def agf{te:TE}(h:te σ H D.rt):iE te D σ H:=(h)
def ML{r:R2}{ta tb:TE}(h:ta σ H λx H1=>tb σ H1 λy H2=>r x y H2 R):bY r ta tb σ H R:=(h)
def lstK(h:ta σ H λxs H1=>11 21/\∀p,H1 p=8->R (3 p) (9 H1 p xs)):dt ta σ H R:=(h)
def Vb{α:Type}{xs:1 α}{n:Nat}(hl:21=n)(hn:0<n)(c:Int):∃(i:Nat)(x:α),xs[i]?=0 x/\(c%(n:Int))=(i:Int):=by
 let h1:=rh c (show(n:Int)≠0 by lia);let h2:=ri c (show(0:Int)<n by lia);let h3:(c%(n:Int)).toNat<21:=by lia
 exact#[(c%(n:Int)).toNat,xs[(c%(n:Int)).toNat],cD h3,7]
section
variable{K:Frag}{σ:St}{H:Hp}
def lL.mono(h:lL K H vs ts)(s:bc H H'):lL K H' vs ts:=(#[h.1,λi v q e1 e2=>let ⟨t,e,g⟩:=h.2 i v q e1 e2;#[t,e,s.bK g]])
def lL.tup(h:lL K H vs ts)(s:eI H H'):lL K H' vs ts:=(#[h.1,λi v q e1 e2=>let ⟨t,e,g⟩:=h.2 i v q e1 e2;#[t,e,s.bK g]])
def lL.app{zs ys:1 V}{ba Cw:1 i0}(h:lL K H zs ba)(k:lL K H ys Cw):lL K H (zs++ys) (ba++Cw):=by
 refine#[by rw[cb,cb,h.1,k.1],λi x q e1 e2=>?_];by_cases hi:i<zs.length
 .rw[i9 hi]at e1;rw[i9 (by rw[<- h.1];exact hi)]at e2;exact h.2 i x q e1 e2
 .rw[jy 7]at e1;rw[jy (by rw[<- h.1];lia),<- h.1]at e2;exact k.2 _ x q e1 e2
def lL.one{t:Addr}{q:i0}(g:bu K H t [.str q.1,2 q.2.1,2 q.2.2]):lL K H [3 t] [q]:=(#[9,λi v r e1 e2=>by
 cases i with
 |zero=>cases e1;cases e2;exact#[t,9,g]
 |succ i=>cases e1])
def agg:Cv K cB σ H []:=(λH' _ _ q=>q [] H' (.refl _) #[9,λi v q e=>by cases e])
theorem vJ:∀ts:1 i0,Cv K (sF ts) σ H ts
 | []=>agg
 |(x,l,r)::ts=>λH' s Q q=>#[by show 11 3;decide,λt ht=>vJ ts _ (s.trans<|.upd ht) _ λvs H2 s2 hv=>q _ H2 ((bc.upd ht).trans s2)<|lL.app (lL.one (q:=(x,l,r))<|s2.bK<|.of bq) hv]
def agh{l:Addr}{us:1 i0}(h1:σ[1]?=0 (8 l))(g:xr K H l ts)(hn:ts.length+us.length<=50)(e:Cv K ta σ H us)(q:∀l' H',bc H H'->xr K H' l' (ts++us)->R (3 l') H'):bY fh (bt 1) (dt ta) σ H R:=by
 let[zs,gl,hz]:=g;refine ML #[_,h1,lstK<|e H (.refl _) _ λvs H1 s1 hv=>#[by rw[hv.1];exact eh (eh (Nat.le_add_left _ _) hn) 16,λb hb=>?_]];refine#[l,b,zs,vs,9,9,bc.upd hb _ _<|s1 _ _ gl,bq,by rw[hz.1,hv.1];exact eh hn 16,λc hc=>?_];let sc:=(s1.trans<|bc.upd hb (o:=.lst vs)).trans (bc.upd hc (o:=.lst<|zs++vs));exact q c _ sc #[zs++vs,bq,(hz.mono sc).app<|hv.mono<|(bc.upd hb).trans<|.upd hc]
def Cy{l:Addr}{us:1 i0}(h1:σ[1]?=0 (8 l))(g:xr K H l ts)(hn:ts.length+us.length<=50)(e:Cv K ta σ H us)
  (q:∀l' H',bc H H'->H l'=8->xr K H' l' (ts++us)->u D (σ.set 1<|8 l') H'):cR (dI (bY fh (bt 1)<|dt ta)<|cg 1) u D σ H:=by
 let[zs,gl,hz]:=g;refine nC<|ML #[_,h1,lstK<|e H (.refl _) _ λvs H1 s1 hv=>#[by rw[hv.1];exact eh (eh (Nat.le_add_left _ _) hn) 16,λb hb=>?_]];refine#[l,b,zs,vs,9,9,bc.upd hb _ _<|s1 _ _ gl,bq,by rw[hz.1,hv.1];exact eh hn 16,λc hc=>?_];let sc:=(s1.trans<|bc.upd hb (o:=.lst vs)).trans (bc.upd hc (o:=.lst<|zs++vs));exact q c _ sc (fj (s1.trans<|bc.upd hb (o:=.lst vs)) hc) #[zs++vs,bq,(hz.mono sc).app<|hv.mono<|(bc.upd hb).trans<|.upd hc]
def agi{y z:Int}{l:Addr}{HA:Hp}(h1:σ[1]?=0 (8 l))(g:xr K H l ts)(hn:ts.length<=50)(S:bc HA H)(n0:HA l=8)
  (q:∀H',bc HA H'->xr K H' l (ts++[(4 x,y,z)])->u D σ H'):cR (xY<|yh K "list" AI (bt 1)<|bw (MI x y z) cB) u D σ H:=by
 let[zs,gl,hz]:=g;refine#[_,h1,.inl #[9,_,.of gl],by show 11 3;decide,λt ht=>?_];let EJ:=bc.upd (o:=.tup [.str<|4 x,2 y,2 z]) ht _ _ gl;refine#[l,zs,3 t,9,9,EJ,by rw[hz.1];exact Nat.lt_of_le_of_lt hn 16,?_];refine q _ ((S.trans<|.upd ht).put n0) #[zs++[3 t],bq,?_];exact((hz.mono<|.upd ht).app<|lL.one (q:=(4 x,y,z)) (.of bq)).tup<|eI.lst EJ
end
def xt:1 i0:=[(4 "then swap swap",2,2),(4 "then copy beside end id",1,1),(4 "then copy swap",1,2),(4 "then copy beside copy id",1,3),(4 "then beside none id add",1,1),(4 "then swap add",2,1),(4 "then add end",2,0),(4 "then beside add id add",3,1),(4 "then times k times k",1,1),(4 "then add copy",2,2),(4 "then none copy",0,2),(4 "then none end",0,0),(4 "then times k copy",1,2),(4 "back times k",1,1),(4 "then add times k",2,1),(4 "back swap",2,2),(4 "then beside cup id beside id back cup",1,1),(4 "then copy back copy",1,1),(4 "back id",1,1),(4 "back empty",0,0)]
def G1(K:Frag):TS:=cR (dI (dt<|sF [(4 "then swap swap",2,2),(4 "then copy beside end id",1,1),(4 "then copy swap",1,2)])<|cg 1)<|cR (dI (bY fh (bt 1)<|dt<|sF [(4 "then copy beside copy id",1,3),(4 "then beside none id add",1,1)])<|cg 1)<|cR (dI (bY fh (bt 1)<|dt<|sF [(4 "then swap add",2,1),(4 "then add end",2,0)])<|cg 1)<|cR (dI (bY fh (bt 1)<|dt<|sF [(4 "then beside add id add",3,1),(4 "then times k times k",1,1),(4 "then add copy",2,2)])<|cg 1)<|cR (dI (bY fh (bt 1)<|dt<|sF [(4 "then none copy",0,2),(4 "then none end",0,0),(4 "then times k copy",1,2)])<|cg 1)<|cR (dI (bY fh (bt 1)<|dt<|sF [(4 "back times k",1,1),(4 "then add times k",2,1),(4 "back swap",2,2)])<|cg 1)<|cR (xY<|yh K "list" AI (bt 1)<|bw (MI "then beside cup id beside id back cup" 1 1) cB)<|iE<|bY (nO K) (bY fh (bt 1)<|dt<|sF [(4 "then copy back copy",1,1),(4 "back id",1,1),(4 "back empty",0,0)])<|bY Cu (bt 0)<|tC<|2 20
def agj{K:Frag}{c:Int}(q:∀a t H',bc H H'->t∈xt->bu K H' a [.str t.1,2 t.2.1,2 t.2.2]->D.rt (3 a) H'):G1 K D [0<|2 c,8] H:=by
 unfold G1;refine nC<|lstK<|((vJ [(4 "then swap swap",2,2),(4 "then copy beside end id",1,1),(4 "then copy swap",1,2)]):Cv K _ [0<|2 c,8] H _) H (.refl _) _ λvs H1 s1 hv=>#[by rw[hv.1];exact(by decide:11 3),λl0 h0=>?_];let S:=s1.trans (bc.upd (o:=.lst vs) h0);let g:xr K (9 H1 l0 vs) l0 [(4 "then swap swap",2,2),(4 "then copy beside end id",1,1),(4 "then copy swap",1,2)]:=#[vs,bq,hv.mono<|.upd h0];let n0:=fj s1 h0;clear hv s1;generalize 9 H1 l0 vs=H0 at S g |-;clear h0;refine Cy 9 g 16 (vJ [(4 "then copy beside copy id",1,3),(4 "then beside none id add",1,1)]) λl1 H1 s1 hn1 g=>?_;let n0:=fj S hn1;replace S:=S.trans s1;refine Cy 9 g 16 (vJ [(4 "then swap add",2,1),(4 "then add end",2,0)]) λl2 H2 s2 JT g=>?_;let n0:=fj S JT;replace S:=S.trans s2;refine Cy 9 g 16 (vJ [(4 "then beside add id add",3,1),(4 "then times k times k",1,1),(4 "then add copy",2,2)]) λl3 H3 s3 hn3 g=>?_;let n0:=fj S hn3;replace S:=S.trans s3;refine Cy 9 g 16 (vJ [(4 "then none copy",0,2),(4 "then none end",0,0),(4 "then times k copy",1,2)]) λl4 H4 s4 hn4 g=>?_;let n0:=fj S hn4;replace S:=S.trans s4;refine Cy 9 g 16 (vJ [(4 "back times k",1,1),(4 "then add times k",2,1),(4 "back swap",2,2)]) λl5 H5 s5 hn5 g=>?_;let n0:=fj S hn5;replace S:=S.trans s5;refine agi 9 g 16 S n0 λH9 S g=>?_;refine agf<|ML<|agh 9 g 16 (vJ [(4 "then copy back copy",1,1),(4 "back id",1,1),(4 "back empty",0,0)]) λl9 Ds nR g=>?_;let[zs,gz,hz]:=g;refine#[_,9,c,20,9,9,(by decide:(0:Int)<20),?_]
 try dsimp only
 let[j,t,ej,ec]:=Vb (xs:=xt) (n:=20) (by decide) (by decide) c;rw[show(c%20:Int)=(j:Int) from ec]
 obtain⟨v,ev⟩:∃v,zs[j]?=0 v:=#[_,cD (by rw[hz.1];exact(eA.mp ej).1)];let[a,rfl,ha]:=hz.2 j v t ev ej;exact#[l9,zs,_,3 a,9,9,.of gz,cm ev,q a t Ds (S.trans nR) (dS ej) ha]
def xu:dz ["cell","some"] ["cell"] (cj Ke):=(dW 9 9 9 19 9)
def MM(K:Frag):Sp:=λvs H Q _=>∃c:Int,vs=[2 c]/\∀a t H',bc H H'->t∈xt->bu K H' a [.str t.1,2 t.2.1,2 t.2.2]->Q (3 a) H'
def Vc(F:cL K "_law_told_box" "_law_told_box" Ke f fd):bQ P w K mg base bX 1 f fd ["cell"] (MM K):=by
 refine 17 xu 24 ?_
 .let[c,rfl,_]:=h;rfl
 .let[c,rfl,q]:=h;refine#[G1 K,?_,agj q];unfold G1 MI;refine bz ?_ ?_
  .refine cx (i:=1) ?_ ?_ ?_ ?_ ?_ ?_
   .exact xu.nd
   .rfl
   .exact Or.inl 9
   .refine cK ?_;refine vI _ _ ?_
    kernel_rfl
   .rfl
   .exact 18
  refine bz ?_ ?_
  .refine cx (i:=1) ?_ ?_ ?_ ?_ ?_ ?_
   .exact xu.nd
   .rfl
   .exact Or.inl 9
   .refine bI eV (pv 1) ?_;refine cK ?_;refine vI _ _ ?_
    kernel_rfl
   .rfl
   .exact 18
  refine bz ?_ ?_
  .refine cx (i:=1) ?_ ?_ ?_ ?_ ?_ ?_
   .exact xu.nd
   .rfl
   .exact Or.inl 9
   .refine bI eV (pv 1) ?_;refine cK ?_;refine vI _ _ ?_
    kernel_rfl
   .rfl
   .exact 18
  refine bz ?_ ?_
  .refine cx (i:=1) ?_ ?_ ?_ ?_ ?_ ?_
   .exact xu.nd
   .rfl
   .exact Or.inl 9
   .refine bI eV (pv 1) ?_;refine cK ?_;refine vI _ _ ?_
    kernel_rfl
   .rfl
   .exact 18
  refine bz ?_ ?_
  .refine cx (i:=1) ?_ ?_ ?_ ?_ ?_ ?_
   .exact xu.nd
   .rfl
   .exact Or.inl 9
   .refine bI eV (pv 1) ?_;refine cK ?_;refine vI _ _ ?_
    kernel_rfl
   .rfl
   .exact 18
  refine bz ?_ ?_
  .refine cx (i:=1) ?_ ?_ ?_ ?_ ?_ ?_
   .exact xu.nd
   .rfl
   .exact Or.inl 9
   .refine bI eV (pv 1) ?_;refine cK ?_;refine vI _ _ ?_
    kernel_rfl
   .rfl
   .exact 18
  refine bz ?_ ?_
  .exact jT<|jX lR pf ph nP (pv 1)<|bf (eF<|bf c7<|bf br<|bf br bj) bj
  refine bN ?_;refine cJ ?_;refine bZ (dC K 9) ?_ ?_ ?_
  .refine bI eV (pv 1) ?_;refine cK ?_;refine vI _ _ ?_
   kernel_rfl
  .exact bI jb (pv 0) br
  .exact λ_ _=>9
noncomputable def sW:D1.Wd->7 Str
 | .w x=>0 (4 x)
 | .n _=>none
def kS(w:Str):7 Str:=if w=4 "k" then none else 0 w
def qV(k:Int)(w:Str):V:=if w=4 "k" then 2 k else .str w
theorem Vd{k:Int}:∀{l:1 Str}{ws:1 D1.Wd},l.map kS=ws.map sW->(∀n,D1.Wd.n n∈ws->n=k)->l.map (qV k)=ws.map dQ
 | [],[],_,_=>rfl
 | [],_::_,h,_=>nomatch h
 |_::_,[],h,_=>nomatch h
 |a::l,u::ws,h,hn=>by
  let h1:kS a=sW u:=(nG h).1;rw[ib,ib,Vd (nG h).2 λn hm=>hn n (gq _ hm)]
  congr 1
  unfold kS at h1;unfold qV;cases u with
  |w x=>
   by_cases e:a=4 "k"
   .rw[af e]at h1;cases h1
   .rw[ag e]at h1 |-;rw[dJ h1];rfl
  |n m=>
   by_cases e:a=4 "k"
   .rw[af e,<- hn m du];rfl
   .rw[ag e]at h1;cases h1
structure Ve(p k:Int)(t:i0)(d:D1.Dr):Prop where
 ws:(Txt.split t.1<|4 " ").map (qV k)=d.aY.map dQ
 wf:d.wf p
 eO:d.eO 64
 len:23<=08
 l:(d.l:Int)=t.2.1
 r:(d.r:Int)=t.2.2
 s:d.l+d.r<=04
 tl:t.1.length<=100
def MN:1 D1.Dr:=[.bg .swap .swap,.bg .copy<|.bo .fin .id,.bg .copy .swap,.bg .copy<|.bo .copy .id,.bg (.bo .none .id) .add,.bg .swap .add,.bg .add .fin,.bg (.bo .add .id) .add,.bg (.times 0)<|.times 0,.bg .add .copy,.bg .none .copy,.bg .none .fin,.bg (.times 0) .copy,.back<|.times 0,.bg .add<|.times 0,.back .swap,.bg (.bo .fZ .id)<|.bo .id<|.back .fZ,.bg .copy<|.back .copy,.back .id,.back .empty]
noncomputable def gZ(k:Int):D1.Dr->D1.Dr
 | .times _=>.times k
 | .back a=>.back (gZ k a)
 | .bo a b=>.bo (gZ k a) (gZ k b)
 | .bg a b=>.bg (gZ k a) (gZ k b)
 |d=>d
noncomputable def xv:D1.Dr->Bool
 | .back a=>xv a
 | .bo a b=>xv a&&xv b
 | .bg a b=>xv a&&(xv b&&decide (a.r=b.l))
 |_=>true
section
variable{p k:Int}
theorem vK:∀d:D1.Dr,(gZ k d).cE=d.cE
 | .back a=>by show((gZ k a).cE.2,(gZ k a).cE.1)=_;rw[vK a];rfl
 | .bo a b=>by show((gZ k a).cE.1+(gZ k b).cE.1,(gZ k a).cE.2+(gZ k b).cE.2)=_;rw[vK a,vK b];rfl
 | .bg a b=>by show((gZ k a).cE.1,(gZ k b).cE.2)=_;rw[vK a,vK b];rfl
 | .id | .swap | .copy | .fin | .add | .none | .fZ | .empty | .times _=>rfl
theorem zT(k0:0<=k)(k1:k<p):∀{d:D1.Dr},xv d=6->(gZ k d).wf p
 | .back a,h=>zT k0 k1 (d:=a) h
 | .bo a b,h=>by let h:=Bool.and_eq_true_iff.mp h;exact#[zT k0 k1 h.1,zT k0 k1 h.2]
 | .bg a b,h=>by
  let h:=Bool.and_eq_true_iff.mp h;let h2:=Bool.and_eq_true_iff.mp h.2;exact#[zT k0 k1 h.1,zT k0 k1 h2.1,by show(gZ k a).cE.2=(gZ k b).cE.1;rw[vK,vK];exact aM h2.2]
 | .times _,_=>#[k0,k1]
 | .id,_ | .swap,_ | .copy,_ | .fin,_ | .add,_ | .none,_ | .fZ,_ | .empty,_=>trivial
def agk:∀d:D1.Dr,(gZ k d).aY.map sW=d.aY.map sW/\∀n,D1.Wd.n n∈(gZ k d).aY->n=k:=by
 intro d;induction d with
 |times n=>exact#[9,λn h=>by simp[gZ,D1.Dr.aY]at h;exact h]
 |back a ih=>exact#[aj (_::·) ih.1,λn h=>ih.2 n (by simpa[gZ,D1.Dr.aY]using h)]
 |bo a b c9 de=>exact#[by simp[gZ,D1.Dr.aY,c9.1,de.1],λn h=>by simp[gZ,D1.Dr.aY]at h;exact h.elim (c9.2 n)<|de.2 n]
 |bg a b c9 de=>exact#[by simp[gZ,D1.Dr.aY,c9.1,de.1],λn h=>by simp[gZ,D1.Dr.aY]at h;exact h.elim (c9.2 n)<|de.2 n]
 |_=>exact#[9,λn h=>by simp[gZ,D1.Dr.aY]at h]
theorem xx:∀d:D1.Dr,d.l+d.r<=04*23
 | .id | .swap | .copy | .fin | .add | .none | .fZ | .empty=>by decide
 | .times _=>by show 2<=08;decide
 | .back d=>by let:=xx d;show d.r+d.l<=04*(23+1);lia
 | .bo a b=>by
  let:=xx a
  let:=xx b
  show a.l+b.l+(a.r+b.r)<=04*((a.aY++b.aY).length+1);rw[cb];lia
 | .bg a b=>by
  let:=xx a
  let:=xx b
  show a.l+b.r<=04*((a.aY++b.aY).length+1);rw[cb];lia
theorem xy{B:Nat}:∀{d:D1.Dr},04*23<=B->d.eO B
 | .id,_ | .swap,_ | .copy,_ | .fin,_ | .add,_ | .none,_ | .fZ,_ | .empty,_ | .times _,_=>trivial
 | .back d,h=>xy (d:=d) (eh (Nat.mul_le_mul_left 04<|Nat.le_succ _) h)
 | .bo a b,h=>by
  let z:=xx<|.bo a b;let h':04*((a.aY++b.aY).length+1)<=B:=h;rw[cb]at h';exact#[xy 7,xy 7,eh z h]
 | .bg a b,h=>by
  let z:=xx<|.bg a b;let h':04*((a.aY++b.aY).length+1)<=B:=h;rw[cb]at h';exact#[xy 7,xy 7,eh z h]
def Vf(q:i0×D1.Dr):Bool:=decide ((Txt.split q.1.1<|4 " ").map kS=q.2.aY.map sW)&&(xv q.2&&(decide (q.2.aY.length<=08)&&(decide ((q.2.l:Int)=q.1.2.1)&&(decide ((q.2.r:Int)=q.1.2.2)&&(decide (q.2.l+q.2.r<=04)&&decide (q.1.1.length<=100))))))
def agl:(xt.zip MN).all Vf=6:=by decide +kernel
def agm(k0:0<=k)(k1:k<p){t:i0}(h:t∈xt):∃d,Ve p k t d:=by
 let[i,hi,rfl]:=List.getElem_of_mem h;let mQ:i<(xt.zip MN).length:=by rw[List.length_zip];exact Nat.lt_min.mpr #[hi,hi]
 let z:=gF.mp agl _<|pd mQ;rw[List.getElem_zip]at z;generalize xt[i]=t at z |-;generalize MN[i]'_=d at z;simp only[Vf,dM,aK]at z;let[z1,z2,z3,z4,z5,z6,z7]:=z;let e:=vK (k:=k) d;let el:(gZ k d).l=d.l:=aj Prod.fst e;let er:(gZ k d).r=d.r:=aj Prod.snd e;let w:=agk (k:=k) d;let ew:(gZ k d).aY.length=23:=by let:=aj List.length w.1;simpa using this
 exact#[gZ k d,Vd (z1.trans w.1.symm) w.2,zT k0 k1 z2,xy 7,7,by rw[el];exact z4,by rw[er];exact z5,by rw[el,er];exact z6,z7]
end
def Vg(pp:p∈cM)(h:d.wf p)(n:(conv d).sm)(h':e.wf p)(n':(conv e).sm)(hs:e.cE=d.cE)(hl:∀x y,D1.fX p e x y↔D1.fX p d x y):(conv e).bh p=(conv d).bh p:=by
 let[r1,_,r3]:=D1.BC pp h;let[q1,_,q3]:=D1.BC pp h';let e1:e.l=d.l:=aj Prod.fst hs;let e2:e.r=d.r:=aj Prod.snd hs;rw[e1,e2]at q1 q3;rw[FP pp h n,FP pp h' n'];let key:∀{q:4},q.length=d.l+d.r->(Bw.Sp p (RS<|e.bh p) (fn q)↔Bw.Sp p (RS<|d.bh p) (fn q)):=λ{q} hq=>by
  rw[TN hq,D1.nc (λq hq=>(q1 q hq).1),D1.nc (λq hq=>(r1 q hq).1),<- q3,<- r3];exact hl _ _
 exact D3.red pp q1 r1 #[λq hq=>(key (q1 q hq).1).mp<|u7 hq,λq hq=>(key (r1 q hq).1).mpr<|u7 hq]
def G2(h:23<=99):d.eO 400:=(xy 7)
def Cz(d:D1.Dr):(conv d).aY=(cw d).aY:=by rw[zH,nv]
def G3(h:d.wf p)(hl:23<=99):(conv d).sm:=(Drw.zC (sk h)<|by rw[Cz,fu];exact hl)
def bQ.on{CX:rn}{k:Nat}{ps:1 Str}{sp Ax:Sp}(F:bQ P w K mg base CX k f fd ps sp)(h:∀vs H Q E,Ax vs H Q E->sp vs H Q E):bQ P w K mg base CX k f fd ps Ax:=(#[λvs H Q E q=>F.len vs H Q E<|h _ _ _ _ q,λA outer s H args us vs Q E hr he hb hv hs=>F.run A outer s H args us vs Q E hr he hb hv<|h _ _ _ _ hs])
def agn:jJ.all (λe=>og.contains (e.1,e.2.1,e.2.2.1))=6:=by decide +kernel
def ago(F:bQ P w K mg base bX 06 f fd ["words"] (FX K)):bQ P w K mg base bX 06 f fd ["words"] (Fi K):=(bQ.on F λvs H Q E ⟨aw,x,l,r,bh,e,hw,hx,q⟩=>#[1,aw,.box x l r,e,kQ.mp<|gF.mp agn _ hx,by show 1<=200;decide,hw,q])
def Vh(K:Frag):Sp:=λvs H Q _=>∃(a b:Addr)(l r:Int),vs=[3 a,3 b]/\bu K H a [2 l,2 r]/\bu K H b [2 l,2 r]/\Q .cI H
def agp:dz ["one","other"] ["one","other"] (cj Ka):=(dW 9 9 9 19 9)
def agq(F:cL K "refuse_sides" "refuse_sides" Ka f fd):bQ P w K mg base bX 1 f fd ["one","other"] (Vh K):=by
 refine 17 agp 24 ?_
 .let[a,b,l,r,rfl,_]:=h;rfl
 .let[a,b,l,r,rfl,ha,hb,q]:=h;let hu:=hr.units;refine#[_,bN<|dq (cQ (yE K 9 hu) (pv 0) (pv 1)<|cO _) N5 eP,?_];exact#[_,9,_,9,_,_,.tuple ha<|.cons (2 l)<|.cons (2 r) .nil,.tuple hb<|.cons (2 l)<|.cons (2 r) .nil,9,9,_,9,DG 9 q]
def Vi(K:Frag)(Pt:Addr):Sp:=λvs H Q _=>∃(p:Int)(a b:Addr)(d e:D1.Dr),vs=[2 p,3 a,3 b]/\p∈cM/\d.wf p/\e.wf p/\23<=99/\e.aY.length<=99/\e.cE=d.cE/\(∀x y,D1.fX p e x y↔D1.fX p d x y)/\bu K H a (cw d).aY/\bu K H b (cw e).aY/\oI H Pt (zq qJ) zr/\
 ∀t H',bu K H' t [.str<|4 "same"]->Q (3 t) H'
def MO:dz ["p","one","other","first","second","row"] ["p","one","other"] (cj J9):=(dW 9 9 9 19 9)
def agr{Pt fR fW fP:Addr}{BO vz vF:FuncData}(F:cL K "compared" "compared" J9 f fd)
  (GR:bQ P w K mg base bX 1 fR BO ["one","other"] (Vh K)) (kR:Kp K fR) (bR:Binds K BO ["one","other"] []) (mR:Mg mg "refuse_sides" fR)
  (GW:bQ P w K mg base bX 06 fW vz ["words"] (FX K)) (kW:Kp K fW) (bW:Binds K vz ["words"] []) (mW:Mg mg "wires" fW)
  (GP:bQ P w K mg base bX 11 fP vF ["p","words"] (Tp K Pt)) (kP:Kp K fP) (bP:Binds K vF ["p","words"] []) (mP:Mg mg "plain" fP) :
  bQ P w K mg base bX 12 f fd ["p","one","other"] (Vi K Pt):=by
 refine 17 MO 24 ?_
 .let[p,a,b,d,e,rfl,_]:=h;rfl
 .let[p,a,b,d,e,rfl,pp,dw,ew,ld,le,MP,cX,hd,he,vA,q]:=h;let hu:=hr.units;let r1:eU 1 _:=hr.mono 7;let r6:eU 06 _:=hr.mono 7;refine#[_,bz (jT<|cY GR r1 9 mR kR bR .nil cZ<|bf (cY GW r6 9 mW kW bW .nil cZ<|10 1 bj)<|bf (cY GW r6 9 mW kW bW .nil cZ<|10 2 bj) bj)<|bz (cx (i:=3) MO.nd rfl (18) (cY GP hr 9 mP kP bP .nil cZ<|10 0<|10 1 bj))<|bz (cx (i:=04) MO.nd rfl (18) (cY GP hr 9 mP kP bP .nil cZ<|10 0<|10 2 bj))<|bz (dq (cQ (DI K 9 hu) (pv 3) (pv 04)<|cO _) (bN<|cJ<|eF<|bf c7 bj) eP) N5,?_]
  let sd:=G3 dw ld;let se:=G3 ew le;let ed:(cw d).dZ=d.l/\(cw d).dE=d.r:=#[aj Prod.fst<|oZ d,aj Prod.snd<|oZ d];let ee:(cw e).dZ=d.l/\(cw e).dE=d.r:=#[(aj Prod.fst<|oZ e).trans<|aj Prod.fst MP,(aj Prod.snd<|oZ e).trans<|aj Prod.snd MP];let l1:(cw d).aY.length<=200:=by rw[fu];lia
  let l2:(cw e).aY.length<=200:=by rw[fu];lia
  refine#[_,9,p,a,cw d,9,fe dw,l1,hd,λv1 H1 s1 tY=>#[_,9,p,b,cw e,9,fe ew,l2,s1.bK he,λv2 H2 s2 u9=>?_]];rw[ed.1,ed.2]at tY;rw[ee.1,ee.2]at u9;refine#[v1,v2,_,_,9,s2.bK tY,u9,?_];let s12:=s1.trans s2;let Vj:=vA.mono s12;refine#[_,9,_,9,p,a,conv d,9,pp,sk dw,sd,by rw[Cz];exact l1,by rw[Cz];exact s12.bK hd,Vj,λf1 FS H3 s3 Vk BU hF1=>?_];let[ps2,hP2]:=Vj.tab;let he3:=s3.bK<|bu.del hP2<|s12.bK he;refine#[_,9,_,9,p,b,conv e,9,pp,sk ew,se,by rw[Cz];exact l2,by rw[Cz];exact he3,Vk,λf2 GS H4 s4 LT4 ni KU=>?_];let[ps3,Vl]:=Vk.tab;let ags:=s4.bK<|bu.del Vl BU;let agt:=(cy.del Vl hF1).mono s4;refine#[_,9,_,9,_,_,.tuple ags agt,.tuple ni KU,yX _,yX _,_,9,?_];refine Kj (by rw[Vg pp dw sd ew se MP cX]) ?_;exact#[by show 11 1;decide,λt ht=>q t _<|.of bq]
def Vm(x:Str):7 4:=if x="cup" then 0 [0,2]else if x="none" then 0 [0,1]else EU.lookup x
inductive xA(p:Int):D1.oQ->6 D1.Wd where
 |num (m:Int) (ds:1 D1.Dr) (h:0<=m/\m<p):xA p (0 m,ds) (.n m)
 |Vn (n:Int) (ds:1 D1.Dr):xA p (none,.times n::ds) (.w "times")
 |box (d:D1.Dr) (ds:1 D1.Dr) (x:String) (h1:D1.ub (none,d::ds)=(none,ds)) (h2:4 x≠4 "times"/\4 x≠4 "back"/\rO (.str<|4 x) [.str<|4 "then",.str<|4 "beside"]=false) (h3:(Vm<|4 x).getD [0,0]=[(d.l:Int),(d.r:Int)]):xA p (none,d::ds) (.w x)
 |Vo (d:D1.Dr) (ds:1 D1.Dr):xA p (none,.back d::ds) (.w "back")
 |ft (a b:D1.Dr) (ds:1 D1.Dr):xA p (none,.bo a b::ds) (.w "beside")
 |bg (a b:D1.Dr) (ds:1 D1.Dr) (h:b.l=a.r):xA p (none,.bg a b::ds) (.w "then")
def agu{B:Nat}{st:D1.oQ}{wd:D1.Wd}(ok:D1.ma p B st)(hw:(D1.ng st)[0]?=0 wd):xA p st wd:=by
 let[ν,ds]:=st;cases ν with
 |some m=>cases hw;exact .num m ds<|ok.1 m 9
 |none=>
  cases ds with
  |nil=>cases hw
  |cons d ds=>
   let hd:=ok.2 d du;cases d with
   |times n=>cases hw;exact .Vn n ds
   |back d=>cases hw;exact .Vo d ds
   |bo a b=>cases hw;exact .ft a b ds
   |bg a b=>cases hw;exact .bg a b ds hd.1.2.2.symm
   |_=>cases hw;exact .box _ ds _ 9 19 19
def Vp(K:Frag):Sp:=λvs H Q _=>∃(p:Int)(a:Addr)(d:D1.Dr),vs=[2 p,3 a]/\bu K H a (d.aY.map dQ)/\d.wf p/\23<=99/\∀t H',bc H H'->bu K H' t [2 (d.l:Int),2 (d.r:Int)]->Q (3 t) H'
def qW:dz ["p","words","ends_of_box","held","number","word","left","right","one","other"] ["p","words"] (cj Ki):=(dW 9 9 9 19 9)
def CA{hl x:Addr}{HS:1 V}{Q:VK}(h:σ[i]?=0 (8 hl))(g:H hl=13 (HS++[3 x]))(q:Q (3 x) (9 H hl HS)):AD K "list" Di (bt i) σ H Q:=by
 refine#[_,h,.inl #[9,_,dv.of g],hl,_,3 x,9,9,g,R5,?_];rw[R6];exact q
def Vq{x y:Addr}{l r l' r':Int}{ti:TE}{b:Bool}{Q:1 V->6 Hp}(h8:σ[08]?=0 (8 x))(h9:σ[09]?=0 (8 y))(hx:bu K H x [2 l,2 r])(hy:bu K H y [2 l',2 r'])
  (hb:∀H' (R:VK),R (2<|if b=6 then 1 else 0) H'->ti σ H' R)
  (q:∀t u H',bc H H'->bu K H' t [2 l,2 r']->bu K H' u [2<|l+l',2<|r+r']->Q [3 (if b=6 then u else t)] H') :
  bw (bY (nO K) (dt<|bw (jz<|bw (bY (rM K) (bt 08)<|tC<|2 0)<|bw (bY (rM K) (bt 09)<|tC<|2 1) cB)<|bw (jz<|bw (bY (gH λi j=>2<|i+j) (bY (rM K) (bt 08)<|tC<|2 0)<|bY (rM K) (bt 09)<|tC<|2 0)<|bw (bY (gH λi j=>2<|i+j) (bY (rM K) (bt 08)<|tC<|2 1)<|bY (rM K) (bt 09)<|tC<|2 1) cB) cB) ti) cB σ H Q:=by
 refine#[_,h8,x,_,0,2 l,9,9,hx,cm (j:=0) rfl,_,h9,y,_,1,2 r',9,9,hy,cm (j:=1) rfl,by show 11 2;decide,λt ht=>?_];let s1:bc H (upd H t<|.tup [2 l,2 r']):=.upd ht;let gt:bu K (upd H t<|.tup [2 l,2 r']) t [2 l,2 r']:=.of bq;generalize upd H t (.tup [2 l,2 r'])=H1 at s1 gt |-;refine#[_,h8,x,_,0,2 l,9,9,s1.bK hx,cm (j:=0) rfl,_,h9,y,_,0,2 l',9,9,s1.bK hy,cm (j:=0) rfl,_,_,9,9,_,h8,x,_,1,2 r,9,9,s1.bK hx,cm (j:=1) rfl,_,h9,y,_,1,2 r',9,9,s1.bK hy,cm (j:=1) rfl,_,_,9,9,by show 11 2;decide,λu hu=>?_];let s2:bc H1 (upd H1 u<|.tup [2<|l+l',2<|r+r']):=.upd hu;let gu:bu K (upd H1 u<|.tup [2<|l+l',2<|r+r']) u [2<|l+l',2<|r+r']:=.of bq;generalize upd H1 u (.tup [2<|l+l',2<|r+r'])=H2 at s2 gu |-;refine#[by show 11 2;decide,λa ha=>hb _ _ ?_];let s3:bc H2 (9 H2 a [3 t,3 u]):=.upd ha;let z:=q t u _ ((s1.trans s2).trans s3) ((s2.trans s3).bK gt)<|s3.bK gu;cases b with
 |true=>exact#[a,_,1,_,9,9,.of bq,cm (j:=1) rfl,z]
 |false=>exact#[a,_,0,_,9,9,.of bq,cm (j:=0) rfl,z]
def agv(F:cL K "_law_sides" "_law_sides" Ki f fd)(T:Txt mg)(mR:mg "reversed"=8):bQ P w K mg base bX 1 f fd ["p","words"] (Vp K):=by
 refine 17 qW 24 ?_
 .let[p,a,d,rfl,_]:=h;rfl
 .let[p,a,d,rfl,ha,wf,cW,q]:=h;let hu:=hr.units;let gW:=Nat.lt_of_le_of_lt (Nat.add_le_add_left (show 1<=64 by decide) _) hu
  refine' #[cR (dI (DT<|ui EU)<|cg 2) _,bz ?_ ?_,?_]
  case refine_2.refine'_2=>
   refine cx ?_ ?_ ?_ ?_ ?_ ?_
   .exact qW.nd
   .rfl
   .exact Or.inl 9
   .refine ada ?_ ?_ ?_
    .kernel_rfl
    .decide
    .decide
   .rfl
   .exact 18
  case refine_2.refine'_3 =>exact(bz (Bd gW (pv 2) c7 (eF<|bf br<|bf br bj) 9)<|bz (Bd gW (pv 2) c7 (eF<|bf br<|bf br bj) 9)<|bz (cx (i:=3) qW.nd rfl (18) (cK bj))<|bz (cx (i:=04) qW.nd rfl (18) lT)<|bz (kY lS 9 (iY K 9<|acD K 9 9 9 T.list 9 mR<|pv 1) (cH (i:=05) qW.nd rfl (18))<|bN<|dq (vY<|iW (KW K rfl (T := "int")) 9 T.isinstance AV<|10 05<|bf (AR 9 T.int yF) bj) (bz (dq (PW.pt<|xW (vY<|iW (KW K rfl (T := "bool")) 9 T.isinstance AV<|10 05<|bf (AR 9 T.bool aaL) bj)<|Ar<|HR<|Yv Ij Oi br (pv 05)<|pv 0) (bN<|cJ lT) eP)<|bN<|cx (i:=04) qW.nd rfl (18) (pv 05))<|bN<|dq (PW.pt<|rE (cQ e8 (pv 05) c7<|cO _)<|sX<|cQ C8 (pv 04) lT<|cO _) (bz (jT<|jX lR pf ph nP (pv 3)<|bf (eF<|bf br<|bf br bj) bj)<|bN<|cx (i:=04) qW.nd rfl (18) lT)<|bN<|dq (PW.pt<|rE (cQ e8 (pv 05) c7<|cO _)<|sX<|cQ x8 (iW (nV K 9) 9 T.len nW<|10 3 bj) br<|cO _) (bz (pA (tR K 9<|pv 3)<|AU K 9 9<|eR (cH (i:=06) qW.nd rfl (18))<|eR (cH (i:=07) qW.nd rfl (18)) nJ)<|bN<|jT<|jX lR pf ph nP (pv 3)<|bf (eF<|10 07<|10 06 bj) bj)<|bN<|dq (PW.pt<|rE (cQ (DJ K 9) (pv 05) (cK<|bf c7<|bf c7 bj) 9)<|sX<|cQ x8 (iW (nV K 9) 9 T.len nW<|10 3 bj) br<|cO _) (bz (cx (i:=08) qW.nd rfl (18) (tR K 9<|pv 3))<|bz (cx (i:=09) qW.nd rfl (18) (tR K 9<|pv 3))<|bz (dq (PW.pt<|rE (cQ e8 (pv 05) c7<|cO _)<|sX<|cQ uJ (bZ (cU K 9) (pv 08) br) (bZ (cU K 9) (pv 09) br)<|cO _) (bN<|cJ lT) eP)<|bN<|jT<|jX lR pf ph nP (pv 3)<|bf (bZ (dC K 9) (cK<|bf (eF<|bf (bZ (cU K 9) (pv 08) br)<|bf (bZ (cU K 9) (pv 09) br) bj)<|bf (eF<|bf (bI ij (bZ (cU K 9) (pv 08) br)<|bZ (cU K 9) (pv 09) br)<|bf (bI ij (bZ (cU K 9) (pv 08) br)<|bZ (cU K 9) (pv 09) br) bj) bj) (jl Il 9 T.int yF<|bf (v8 e8 (pv 05) c7<|cO _) bj) λ_ _=>9) bj)<|bN<|jT<|jX lR pf ph nP (pv 3)<|bf (Qx gW (pv 2) (pv 05) (eF<|bf br<|bf br bj) #[9,9,9,9]) bj)<|bz (dq (cQ uJ (iW (nV K 9) 9 T.len nW<|10 3 bj) br<|cO _) (bN<|cJ lT) eP)<|bN<|cJ<|bZ (dC K 9) (pv 3) br)
  let z9:(9000000:Nat)<sizeLine:=by decide
  let eN:(d.aY.map dQ).length=23:=bH _;let K1:D1.ma p 400 (none,[d]):=#[λm e=>(nomatch e),λd' h'=>by rw[cT.mp h'];exact#[wf,G2 cW]];refine ade<|adb (K:=K) (L:=EU) 16 16 16 λed ba H1 EV s1 ge hD=>?_;let E1:rY K H1 ed (λx=>EU.lookup x) 05:=#[ba,ge,by
   let:=aj List.length hD.keys
   rw[bH,bH]at this;rw[this];decide,λx=>by
   rcases hD.get x with⟨r,v,h1,h2,h3⟩|h
   .exact .inl #[r,v,h1,h2,h3]
   .exact .inr h]
  refine Sj<|Si 9 E1 16 s1 EV λH2 s2 E2=>?_;refine Sj<|Si 9 E2 16 s2 EV λH4 s4 E4=>?_;let E4:rY K H4 ed Vm 07:=E4;clear E2 E1 s2 s1 hD ge;refine#[16,λhl ze=>?_];let s5:bc H4 (9 H4 hl []):=.upd ze;let g5:(9 H4 hl []) hl=13 []:=bq;let nk:H hl=8:=fj s4 ze;generalize 9 H4 hl []=H5 at s5 g5 |-;refine#[_,9,a,_,9,(s4.trans s5).bK ha,λlw G4=>#[lw,9,#[_,.of bq],?_]];let s6:bc H5 (9 H5 lw (d.aY.map dQ).reverse):=.upd G4;let gw:(9 H5 lw (d.aY.map dQ).reverse) lw=13 (d.aY.map dQ).reverse:=bq;let nel:lw≠hl:=λe=>by rw[e,g5]at G4;cases G4
  let g6:=s6 _ _ g5;let E6:=E4.mono<|s5.trans s6;let sH:=(s4.trans s5).trans s6;generalize 9 H5 lw (d.aY.map dQ).reverse=H6 at s6 gw g6 E6 sH |-;clear s6 s5 E4 g5 G4 ze s4;refine uH (xs:=(d.aY.map dQ).reverse) (λk σ H'=>eJ hl H6 H'/\∃HS s5 s6 s7 s8 s9,σ=[0<|2 p,8 a,8 ed,8 hl,0<|K9 (D1.gO (none,[d])<|23-k).1,s5,s6,s7,s8,s9]/\H' hl=13 HS/\ky K H' (D1.gO (none,[d])<|23-k).2 HS)
   #[.of<|.refl _,[],8,8,8,8,8,?_,g6,?_] (λi σ H' _ ⟨sm,_⟩=>.of (sm _ _ nel gw)) ?_ ?_
  .rw[Nat.sub_zero,D1.EE];rfl
  .rw[Nat.sub_zero,D1.EE];exact .nil
  .rintro k x σ H1 hx ⟨sm,HS,s5,s6,s7,s8,s9,rfl,g,hH⟩;let hk:k<23:=by
    let:=(eA.mp hx).1
    rw[Ae,eN]at this;exact this
   obtain⟨i,hi⟩:∃i,23-k=i+1:=#[23-k-1,7];let jC:=D1.RD d<|i+1;rw[hi]at hH |-;let mQ:23-(k+1)=i:=by lia
   let uh:i<23:=by lia
   rw[List.getElem?_reverse (by rw[eN];exact hk),eN,show 23-1-k=i by lia,dR,cD uh]at hx;cases hx;let hw:=D1.RC (d:=d) (i:=i);rw[cD uh]at hw;let C:=agu (D1.KC K1 i) hw.symm;generalize d.aY[i]=wd at C;let hz:=hH.len;let e1:D1.gO (none,[d]) (i+1)=D1.ub (D1.gO (none,[d]) i):=9;let fin:∀(dj:1 V)(s5 s6 s7 s8 s9:7 V)(H':Hp),eJ hl H1 H'->H' hl=13 dj->ky K H' (D1.gO (none,[d]) i).2 dj->eJ hl H6 H'/\∃HS K3 BP K4 K5 rX,([0<|2 p,8 a,8 ed,8 hl,0<|K9 (D1.gO (none,[d]) i).1,s5,s6,s7,s8,s9]:St)=[0<|2 p,8 a,8 ed,8 hl,0<|K9 (D1.gO (none,[d])<|23-(k+1)).1,K3,BP,K4,K5,rX]/\H' hl=13 HS/\ky K H' (D1.gO (none,[d])<|23-(k+1)).2 HS:=λdj s5 s6 s7 s8 s9 H' s' g' h'=>#[sm.trans s',dj,s5,s6,s7,s8,s9,by rw[mQ],g',by rw[mQ];exact h'];rw[e1]at hH hz jC |-;let E7:=E6.up sm g6;generalize D1.gO (none,[d]) i=st at C hH hz jC fin |-;let z8:HS.length<=9000000:=by lia
   cases C with
   |num m ds h=>
    refine#[_,9,_,6,9,.inl #[m,9,Jt K],_,9,fw ?_];refine#[_,9,_,false,9,.inl #[m,9,aaA K],_,9,dh ?_];refine#[_,9,_,_,9,9,_,9,?_];rw[aH h.1];refine fw #[_,9,_,_,9,9,_,9,?_];rw[aH h.2];exact dh #[_,9,fin HS _ _ _ _ _ H1 (.of<|.refl _) g hH]
   |Vn n ds=>
    refine#[_,9,_,false,9,.inr #[_,9,wz K],_,9,dh ?_];refine#[_,9,9,_,9,?_];rw[aH (show dQ (.w "times")=V.str (4 "times") from 9)]
    refine fw #[_,9,9,_,9,tX (λ_=>?_) (λz=>nomatch z)];refine#[_,9,.inl #[9,_,dv.of g],by show 11 2;decide,λt ht=>#[hl,HS,3 t,9,9,bc.upd ht _ _ g,7,?_]];refine fin (HS++[3 t]) _ _ _ _ _ _ (eJ.trans (.of<|.upd ht) .wr) bq ?_;exact .cons (d:=.times n) (eJ.bK .wr (bc.upd ht _ _ g)<|.of bq) (hH.up (eJ.trans (.of<|.upd ht) .wr) g)
   |box d' ds x h1 h2 h3=>
    rw[h1]at hH |-;refine#[_,9,_,false,9,.inr #[_,9,wz K],_,9,dh ?_];refine#[_,9,9,_,9,?_];rw[ae (show ¬dQ (.w x)=V.str (4 "times") from λz=>h2.1<|V.str.inj z)]
    refine dh<|dh #[_,9,9,_,9,?_];rw[ae (show ¬dQ (.w x)=V.str (4 "back") from λz=>h2.2.1<|V.str.inj z)]
    refine dh<|dh #[_,9,by show 11 2;decide,λlx CB=>#[lx,_,9,.inl<|.of bq,9,9,_,9,SX h2.2.2<|dh ?_]];let sx:bc H1 (9 H1 lx [.str<|4 "then",.str<|4 "beside"]):=.upd CB;generalize 9 H1 lx [.str<|4 "then",.str<|4 "beside"]=H2 at sx |-;let[ba,ge,hn,hx]:=E7.mono sx;refine#[_,9,.inl #[9,_,dv.of<|sx _ _ g],_,9,ed,9,.inl #[_,.inl ge],_,9,by show 11 2;decide,λt ht=>?_];let st:bc H2 (upd H2 t<|.tup [2 0,2 0]):=.upd ht;let gt:bu K (upd H2 t<|.tup [2 0,2 0]) t [2 0,2 0]:=.of bq;generalize upd H2 t (.tup [2 0,2 0])=H3 at st gt |-;let g3:=st _ _<|sx _ _ g;let app:∀v,bu K H3 v [2 (d'.l:Int),2 (d'.r:Int)]->_:=λv hv=>fin (HS++[3 v]) (0<|dQ<|.w x) s6 s7 s8 s9 (9 H3 hl<|HS++[3 v]) ((eJ.of<|sx.trans st).trans .wr) bq<|.cons (d:=d') (eJ.bK .wr g3 hv)<|hH.up ((eJ.of<|sx.trans st).trans .wr) g;let dk:=jd.k (k:=.inr<|4 x) (st _ _ ge);rcases hx (4 x)with⟨r,v,yw,yy,e3'⟩|⟨yw,yy⟩
    .rw[yw]at h3;rw[yy]at dk;let h3:r=_:=h3;subst h3;exact#[_,dk,hl,HS,3 v,9,9,g3,7,app v<|st.bK e3']
    .rw[yw]at h3;rw[yy]at dk;let h3:[(0:Int),0]=[(d'.l:Int),(d'.r:Int)]:=h3;let EZ:=nG h3;let zf:=(nG EZ.2).1;exact#[_,dk,hl,HS,3 t,9,9,g3,7,app t (by rw[<- EZ.1,<- zf];exact gt)]
   |Vo d' ds=>
    refine#[_,9,_,false,9,.inr #[_,9,wz K],_,9,dh ?_];refine#[_,9,9,_,9,?_];rw[ae (show ¬dQ (.w "back")=V.str (4 "times") by decide +kernel)];refine dh<|dh #[_,9,9,_,9,?_];rw[aH (show dQ (.w "back")=V.str (4 "back") from 9)]
    let[x,dj,rfl,hx,i6]:=ky.pop (d:=d') (ds:=ds) hH;refine fw #[_,9,hl,_,9,.inl<|.of g,_,_,9,9,_,9,wu (λ_=>?_) λhc=>absurd (aH 17) hc];refine CA 9 g<|R9 (eJ.bK .wr g hx) ?_;let gB:(9 H1 hl dj) hl=13 dj:=bq;let sB:eJ hl H1 (9 H1 hl dj):=.wr;generalize 9 H1 hl dj=H2 at gB sB |-;refine#[_,9,.inl #[9,_,dv.of gB],_,9,_,9,by show 11 2;decide,λt ht=>#[hl,dj,3 t,9,9,bc.upd ht _ _ gB,by rw[cb]at z8;lia,?_]];refine fin (dj++[3 t]) _ _ _ _ _ _ (sB.trans<|eJ.trans (.of<|.upd ht) .wr) bq ?_;exact .cons (d:=.back d') (eJ.bK .wr (bc.upd ht _ _ gB)<|.of bq) (i6.up (sB.trans<|eJ.trans (.of<|.upd ht) .wr) g)
   |ft a' b' ds=>
    refine#[_,9,_,false,9,.inr #[_,9,wz K],_,9,dh ?_];refine#[_,9,9,_,9,?_];rw[ae (show ¬dQ (.w "beside")=V.str (4 "times") by decide +kernel)];refine dh<|dh #[_,9,9,_,9,?_];rw[ae (show ¬dQ (.w "beside")=V.str (4 "back") by decide +kernel)];let[x,nj,rfl,hx,i6]:=ky.pop (d:=a') (ds:=b'::ds) hH;let[y,dj,rfl,hy,MQ]:=i6.pop;refine dh<|dh #[_,9,by show 11 2;decide,λlx CB=>#[lx,_,9,.inl<|.of bq,9,9,_,9,?_]];let sx:bc H1 (9 H1 lx [.str<|4 "then",.str<|4 "beside"]):=.upd CB;generalize 9 H1 lx [.str<|4 "then",.str<|4 "beside"]=H0 at sx |-;refine fw #[_,9,hl,_,9,.inl<|.of<|sx _ _ g,_,_,9,9,_,9,wu (λ_=>?_) λhc=>absurd (aH<|by simp;lia) hc];refine CA 9 (sx _ _ g)<|CA 9 bq ?_;let sB:eJ hl H1 (9 (9 H0 hl<|dj++[3 y]) hl dj):=(eJ.of sx).trans<|eJ.wr.trans .wr;let gB:(9 (9 H0 hl<|dj++[3 y]) hl dj) hl=13 dj:=bq;generalize 9 (9 H0 hl<|dj++[3 y]) hl dj=H2 at sB gB |-;let yC:=sB.bK g hx;let CC:=sB.bK g hy;refine#[_,9,9,_,9,?_];rw[ae (show ¬dQ (.w "beside")=V.str (4 "then") by decide +kernel)];refine dh<|dh #[_,9,.inl #[9,_,dv.of gB],?_];refine Vq (b:=true) 9 9 yC CC (λH' R r=>?_) λt u H3 s3 ht zU=>?_
    .refine#[_,9,9,.inr #[_,9,?_]];rw[aH (show dQ (.w "beside")=V.str (4 "beside") from 9)]
     exact r
    refine#[hl,dj,3 u,9,9,s3 _ _ gB,by rw[cb,cb]at z8;lia,?_];refine fin (dj++[3 u]) _ _ _ _ _ _ (sB.trans<|(eJ.of s3).trans .wr) bq ?_;let e1:((D1.Dr.bo a' b').l:Int)=(a'.l:Int)+(b'.l:Int):=sQ _ _;let e2:((D1.Dr.bo a' b').r:Int)=(a'.r:Int)+(b'.r:Int):=sQ _ _;exact .cons (d:=.bo a' b') (by rw[e1,e2];exact eJ.bK .wr (s3 _ _ gB) zU) (MQ.up (sB.trans<|(eJ.of s3).trans .wr) g)
   |bg a' b' ds h=>
    refine#[_,9,_,false,9,.inr #[_,9,wz K],_,9,dh ?_];refine#[_,9,9,_,9,?_];rw[ae (show ¬dQ (.w "then")=V.str (4 "times") by decide +kernel)];refine dh<|dh #[_,9,9,_,9,?_];rw[ae (show ¬dQ (.w "then")=V.str (4 "back") by decide +kernel)];let[x,nj,rfl,hx,i6]:=ky.pop (d:=a') (ds:=b'::ds) hH;let[y,dj,rfl,hy,MQ]:=i6.pop;refine dh<|dh #[_,9,by show 11 2;decide,λlx CB=>#[lx,_,9,.inl<|.of bq,9,9,_,9,?_]];let sx:bc H1 (9 H1 lx [.str<|4 "then",.str<|4 "beside"]):=.upd CB;generalize 9 H1 lx [.str<|4 "then",.str<|4 "beside"]=H0 at sx |-;refine fw #[_,9,hl,_,9,.inl<|.of<|sx _ _ g,_,_,9,9,_,9,wu (λ_=>?_) λhc=>absurd (aH<|by simp;lia) hc];refine CA 9 (sx _ _ g)<|CA 9 bq ?_;let sB:eJ hl H1 (9 (9 H0 hl<|dj++[3 y]) hl dj):=(eJ.of sx).trans<|eJ.wr.trans .wr;let gB:(9 (9 H0 hl<|dj++[3 y]) hl dj) hl=13 dj:=bq;generalize 9 (9 H0 hl<|dj++[3 y]) hl dj=H2 at sB gB |-;let yC:=sB.bK g hx;let CC:=sB.bK g hy;rw[h]at CC;refine#[_,9,9,_,9,?_];rw[aH (show dQ (.w "then")=V.str (4 "then") from 9)]
    refine fw #[_,9,x,_,1,_,9,9,yC,cm (j:=1) rfl,_,9,y,_,0,_,9,9,CC,cm (j:=0) rfl,9,_,9,tX (λhc=>absurd 9 hc) λ_=>#[_,9,.inl #[9,_,dv.of gB],?_]];refine Vq (b:=false) 9 9 yC CC (λH' R r=>?_) λt u H3 s3 ht zU=>?_
    .refine#[_,9,9,.inr #[_,9,?_]];rw[ae (show ¬dQ (.w "then")=V.str (4 "beside") by decide +kernel)];exact r
    refine#[hl,dj,3 t,9,9,s3 _ _ gB,by rw[cb,cb]at z8;lia,?_];refine fin (dj++[3 t]) _ _ _ _ _ _ (sB.trans<|(eJ.of s3).trans .wr) bq ?_;exact .cons (d:=.bg a' b') (eJ.bK .wr (s3 _ _ gB) ht) (MQ.up (sB.trans<|(eJ.of s3).trans .wr) g)
  .rintro σ H1 ⟨sm,HS,s5,s6,s7,s8,s9,rfl,g,hH⟩;rw[Ae,eN,Nat.sub_self]at hH |-;let[t,dj,rfl,ht,iw]:=ky.pop (d:=d) (ds:=[]) hH;cases iw;refine#[_,9,hl,_,9,.inl<|.of g,9,_,9,tX (λh=>absurd 9 h) λ_=>?_];exact#[_,9,hl,_,0,3 t,9,9,.of g,cm (j:=0) rfl,q t H1 (eJ.same sH nk sm) ht]
noncomputable def gQ:D1.Dr->Pt
 | .id=>.box (4 "id")
 | .swap=>.box (4 "swap")
 | .copy=>.box (4 "copy")
 | .fin=>.box (4 "end")
 | .add=>.box (4 "add")
 | .none=>.box (4 "none")
 | .fZ=>.box (4 "cup")
 | .empty=>.box (4 "empty")
 | .times n=>.tn (4<|toString n) n
 | .back a=>.back (gQ a)
 | .bo a b=>.ft (gQ a) (gQ b)
 | .bg a b=>.bg (gQ a) (gQ b)
theorem uq:∀(X:D1.Dr)(e:5 Str (1 V)),(gQ X).mt (cw X) e=0 e
 | .id,_ | .swap,_ | .copy,_ | .fin,_ | .add,_ | .none,_ | .fZ,_ | .empty,_ | .times _,_=>af 9
 | .back a,e=>uq a e
 | .bo a b,e=>by
  show((gQ a).mt (cw a) e).bind ((gQ b).mt<|cw b)=_;rw[uq a];exact uq b e
 | .bg a b,e=>by
  show((gQ a).mt (cw a) e).bind ((gQ b).mt<|cw b)=_;rw[uq a];exact uq b e
def sG{X:D1.Dr}:∀{d:D1.Dr}(e:5 Str (1 V)),d≠X->(gQ X).mt (cw d) e=8:=by
 induction X with
 |times n=>
  intro d e h;cases d with
  |times m=>exact ag λz=>h (by rw[z])
  |_=>rfl
 |back a ih=>
  intro d e h;cases d with
  |back c=>exact ih e λz=>h (by rw[z])
  |_=>rfl
 |bo a b c9 de=>
  intro d e h;cases d with
  |bo c d=>
   show((gQ a).mt (cw c) e).bind ((gQ b).mt<|cw d)=8;by_cases z:c=a
   .rw[z,uq a];exact de e λy=>h (by rw[z,y])
   .rw[c9 e z];rfl
  |_=>rfl
 |bg a b c9 de=>
  intro d e h;cases d with
  |bg c d=>
   show((gQ a).mt (cw c) e).bind ((gQ b).mt<|cw d)=8;by_cases z:c=a
   .rw[z,uq a];exact de e λy=>h (by rw[z,y])
   .rw[c9 e z];rfl
  |_=>rfl
 |_=>
  intro d e h;cases d;all_goals first|exact absurd 9 h|rfl|exact ag 19
def G5(a:Str)(P:Pt):Bool:=decide (Txt.split a (4 " ")=P.text)&&(P.j9&&decide P.lets.Nodup)
def NF(p:Int)(x:Str)(d:D1.Dr):Prop:=∀r,∃cN,kI x=0 cN/\oj p x (.bp (cw d)::r) cN 8
section
variable{p:Int}{d:D1.Dr}
def miss{x a b:Str}{P:Pt}{cN:5 Str Str}{r:1 It2}{res:7 (5 Str (1 V)×Str)}(cA:p<=97)(hd:d.wf p)(hc:G5 a P=6)(hm:P.mt (cw d) []=8)(g:oj p x (.bp (cw d)::r) cN res):oj p x (.bp (cw d)::r) ((a,b)::cN) res:=by
 simp only[G5,dM,aK]at hc;refine .miss ?_ g
 let:=UJ cA hc.2.1 (fe hd) [] r [] hc.2.2
 rw[iV]at this;rw[hc.1,this,hm]
def nfC{x a b:Str}{X:D1.Dr}(hR:kI x=0 [(a,b)])(hc:G5 a (gQ X)=6)(cA:p<=97)(hd:d.wf p)(h:d≠X):NF p x d:=(λ_=>#[_,hR,miss cA hd hc (sG [] h) .nil])
def agw(cA:p<=97)(hd:d.wf p)(h:∀a,d≠.back (.back a)):NF p (4 "twice") d:=(λ_=>#[_,(by rfl),miss (P:=.back<|.back<|.any<|4 "A") cA hd (by decide +kernel) (by
 cases d with
 |back a=>
  cases a with
  |back c=>exact absurd 9<|h c
  |_=>rfl
 |_=>rfl) .nil])
def agx(cA:p<=97)(hd:d.wf p)(h:∀a b,d≠.back (.bg a b)):NF p (4 "turnthen") d:=(λ_=>#[_,(by rfl),miss (P:=.back<|.bg (.any<|4 "A")<|.any<|4 "B") cA hd (by decide +kernel) (by
 cases d with
 |back a=>
  cases a with
  |bg b c=>exact absurd 9<|h b c
  |_=>rfl
 |_=>rfl) .nil])
def agy(cA:p<=97)(hd:d.wf p)(h:∀a b,d≠.back (.bo a b)):NF p (4 "turnbeside") d:=(λ_=>#[_,(by rfl),miss (P:=.back<|.ft (.any<|4 "A")<|.any<|4 "B") cA hd (by decide +kernel) (by
 cases d with
 |back a=>
  cases a with
  |bo b c=>exact absurd 9<|h b c
  |_=>rfl
 |_=>rfl) .nil])
def agz(cA:p<=97)(hd:d.wf p)(h:∀a b c,d≠.bg (.bg a b) c):NF p (4 "thread") d:=(λ_=>#[_,(by rfl),miss (P:=.bg (.bg (.any<|4 "A")<|.any<|4 "B")<|.any<|4 "C") cA hd (by decide +kernel) (by
 cases d with
 |bg a z=>
  cases a with
  |bg b c=>exact absurd 9<|h b c z
  |_=>rfl
 |_=>rfl) .nil])
def agA(cA:p<=97)(hd:d.wf p)(h:∀a b c,d≠.bo (.bo a b) c):NF p (4 "stack") d:=(λ_=>#[_,(by rfl),miss (P:=.ft (.ft (.any<|4 "A")<|.any<|4 "B")<|.any<|4 "C") cA hd (by decide +kernel) (by
 cases d with
 |bo a z=>
  cases a with
  |bo b c=>exact absurd 9<|h b c z
  |_=>rfl
 |_=>rfl) .nil])
def agB(cA:p<=97)(hd:d.wf p)(h:∀n m,d≠.bg (.times n) (.times m)):NF p (4 "scale") d:=(λ_=>#[_,(by rfl),miss (P:=.bg (.tk<|4 "k")<|.tk<|4 "l") cA hd (by decide +kernel) (by
 cases d with
 |bg a b=>
  cases a with
  |times n=>
   cases b with
   |times m=>exact absurd 9<|h n m
   |_=>rfl
  |_=>rfl
 |_=>rfl) .nil])
def agC(cA:p<=97)(hd:d.wf p)(h:∀n,d≠.bg (.times n) .copy):NF p (4 "scalecopy") d:=(λ_=>#[_,(by rfl),miss (P:=.bg (.tk<|4 "k")<|.box<|4 "copy") cA hd (by decide +kernel) (by
 cases d with
 |bg a b=>
  cases a with
  |times n=>exact sG (X:=.copy) _ λz=>h n (by rw[z])
  |_=>rfl
 |_=>rfl) .nil])
def agD(cA:p<=97)(hd:d.wf p)(h:∀n,d≠.bg .add (.times n)):NF p (4 "scaleadd") d:=(λ_=>#[_,(by rfl),miss (P:=.bg (.box<|4 "add")<|.tk<|4 "k") cA hd (by decide +kernel) (by
 cases d with
 |bg a b=>
  show((gQ .add).mt (cw a) []).bind _=8;by_cases z:a=.add
  .rw[z,uq];cases b with
   |times n=>exact absurd (by rw[z])<|h n
   |_=>rfl
  .rw[sG [] z];rfl
 |_=>rfl) .nil])
def agE(cA:p<=97)(hd:d.wf p)(h1:∀a,d≠.bg .id a)(h2:∀a,d≠.bg a .id):NF p (4 "lone") d:=(λ_=>#[_,(by rfl),miss (P:=.bg (.box<|4 "id")<|.any<|4 "A") cA hd (by decide +kernel) (by
 cases d with
 |bg a b=>
  show((gQ .id).mt (cw a) []).bind _=8;rw[sG [] λz=>h1 b (by rw[z])];rfl
 |_=>rfl) (miss (P:=.bg (.any<|4 "A")<|.box<|4 "id") cA hd (by decide +kernel) (by
 cases d with
 |bg a b=>exact sG (X:=.id) _ λz=>h2 a (by rw[z])
 |_=>rfl) .nil)])
def agF(cA:p<=97)(hd:d.wf p)(h1:∀a,d≠.bo .empty a)(h2:∀a,d≠.bo a .empty):NF p (4 "bare") d:=(λ_=>#[_,(by rfl),miss (P:=.ft (.box<|4 "empty")<|.any<|4 "A") cA hd (by decide +kernel) (by
 cases d with
 |bo a b=>
  show((gQ .empty).mt (cw a) []).bind _=8;rw[sG [] λz=>h1 b (by rw[z])];rfl
 |_=>rfl) (miss (P:=.ft (.any<|4 "A")<|.box<|4 "empty") cA hd (by decide +kernel) (by
 cases d with
 |bo a b=>exact sG (X:=.empty) _ λz=>h2 a (by rw[z])
 |_=>rfl) .nil)])
def agG(cA:p<=97)(hd:d.wf p)(h1:d≠.back .id)(h2:d≠.back .swap)(h3:d≠.back .empty):NF p (4 "turnid") d:=(λ_=>#[_,(by rfl),miss (P:=gQ<|.back .id) cA hd (by decide +kernel) (sG [] h1) (miss (P:=gQ<|.back .swap) cA hd (by decide +kernel) (sG [] h2) (miss (P:=gQ<|.back .empty) cA hd (by decide +kernel) (sG [] h3) .nil))])
def agH(cA:p<=97)(hd:d.wf p)(h:∀n,d=.back (.times n)->n=0):NF p (4 "turnscale") d:=(λr=>#[_,(by rfl),by
 by_cases e:∃n,d=.back (.times n)
 .let[n,rfl]:=e;let hn:=h n 9;subst hn;refine .Mk (env:=[(4 "k",[2 0])]) ?_ (dO.num .nil 16<|by let:=hd.2;exact this) (.scale 0 19) .nil
  let:=UJ (P:=.back<|.tk<|4 "k") cA (by decide +kernel) (fe hd) [] r [] (by decide +kernel)
  rw[iV]at this;rw[show Txt.split (4 "back times k") (4 " ")=(Pt.back<|.tk<|4 "k").text by decide +kernel,this];rfl
 .refine miss (P:=.back<|.tk<|4 "k") cA hd (by decide +kernel) ?_ .nil;cases d with
  |back a=>
   cases a with
   |times n=>exact absurd #[n,9] e
   |_=>rfl
  |_=>rfl])
def agI(cA:p<=97)(hd:d.wf p)(hl:23<=200)(h:∀a b c f,d=.bg (.bo a b) (.bo c f)->a.r≠c.l):NF p (4 "cross") d:=(λr=>#[_,(by rfl),by
 by_cases e:∃a b c f,d=.bg (.bo a b) (.bo c f)
 .let[a,b,c,f,rfl]:=e;let c8:=h a b c f 9;let[[wa,wb],[wc,wf],_]:=hd;let el:(cw a).aY.length<=200/\(cw b).aY.length<=200/\(cw c).aY.length<=200/\(cw f).aY.length<=200:=by
   rw[fu,fu,fu,fu];let nT:(D1.Dr.bg (.bo a b)<|.bo c f).aY.length=(a.aY.length+b.aY.length+1)+(c.aY.length+f.aY.length+1)+1:=by simp[D1.Dr.aY];lia
   rw[nT]at hl;lia
  let al:=oY.xp (p:=p) (env:=[(4 "A",(cw a).aY),(4 "B",(cw b).aY),(4 "C",(cw c).aY),(4 "D",(cw f).aY)]) (cw a) (cw c) (by rfl) (by rfl) (fe wa) (fe wc);rw[ae (show ¬(cw a).dE=(cw c).dZ by show ¬(cw a).cE.2=(cw c).cE.1;rw[oZ,oZ];exact c8)]at al;refine .Mk ?_ (.bp (.bp (.bp (.bp .nil (fe wf) el.2.2.2) (fe wc) el.2.2.1) (fe wb) el.2.1) (fe wa) el.1) al .nil;exact afq
 .refine miss (P:=.bg (.ft (.any<|4 "A")<|.any<|4 "B")<|.ft (.any<|4 "C")<|.any<|4 "D") cA hd (by decide +kernel) ?_ .nil;cases d with
  |bg a b=>
   cases a with
   |bo a1 a2=>
    cases b with
    |bo b1 b2=>exact absurd #[_,_,_,_,9] e
    |_=>rfl
   |_=>rfl
  |_=>rfl])
end
end S21
namespace L2
open PySem PySem.Spec PyProof.Rows PySem.W
variable{H:Hp}{a:Addr}{es:1 DictEntry}{ba:5 Key V}{o:Obj}{tg:Expr}
section
variable{X:Cx}{aZ:5 Addr Obj}{σ:St}{H:Hp}{s:Shared}{a:Addr}{ba:5 Key V}
def Inv.freeze(I:12 X σ H s)(e:H a=0 (.dK ba)):∃o,s.heap.get? a=0 o/\12 X σ (upd H a<|.e7 o<|.dK ba) s:=by
 let ok:=I.cf a _ e;let[z,y,vs,r,o,es,ep,g,c]:=id ok;exact#[o,g,I.write (x:=a) (e:=a) (h':=s.heap) (t':=s.toks) (by rw[e];exact True.intro) 18 (λ_ _ _ q=>q) #[o,g] #[g,z,y,vs,r,o,es,ep,g,c]]
def Inv.agJ(I:12 X σ H s)(e:H a=0 (.e7 o<|.dK ba))(n:∀o u,X.H₀ a≠0 (.e7 o u)):12 X σ (upd H a<|.dK ba) s:=by
 let ne:∀b u,H b=0 u->(∀o u',u≠.e7 o u')->b≠a:=λb u q hn z=>by
  rw[z,e]at q;exact hn _ _ (dJ q).symm
 let nn:∀b,H b=8->b≠a:=λb q z=>by rw[z,e]at q;cases q
 refine#[I.ok,I.os,I.bare,#[I.base.keep,I.base.slot,λb ob q hb hx=>?_,I.base.there,λb xs q=>?_,λb ob u q=>?_,λb ps q=>?_],I.loc,I.cell,?_,λx c q=>?_,λp hp=>?_,λb u q=>?_,I.len]
 .let h:=I.base.free b ob q hb hx;rw[cF (nn b h)];exact h
 .let h:=I.base.rA b xs q;rw[cF (ne b _ h λ_ _ z=>nomatch z)];exact h
 .let h:=I.base.pj b ob u q;let hb:b≠a:=λz=>n ob u (z▸q);rw[cF hb];exact h
 .let[iB,h]:=I.base.qk b ps q;exact#[iB,by rw[cF (ne b _ h λ_ _ z=>nomatch z)];exact h]
 .rw[cF (nn _ I.free)];exact I.free
 .rw[cF (nn _<|I.oz x c q)];exact I.oz x c q
 .let[h1,h2,h3]:=I.pin p hp;exact#[h1,by rw[cF (nn _ h2)];exact h2,h3]
 .by_cases hb:b=a
  .subst hb;rw[bq]at q;cases q
   let:=(I.cf b _ e).2
   exact this
  .rw[cF hb]at q;refine(I.cf b u q).rp (λ_ _ _ r=>r) (λc r=>?_) λc xs r=>?_
   .rw[cF (ne c _ r λ_ _ z=>nomatch z)];exact r
   .rw[cF (ne c _ r λ_ _ z=>nomatch z)];exact r
def agK{P:Program}{w:World}{k:Key}{u:Value}(h:(jj P w).is k u=6):RelV (kV k) u:=by
 rcases ro h with⟨i,t,rfl,rfl⟩|⟨x,t,rfl,rfl⟩
 .exact#[t,9]
 .exact#[t,9]
def pairs_at{P:Program}{w:World}{vs:5 Key 5}(h:Pairs (jj P w) es vs):∀{i:Nat}{e:DictEntry},es[i]?=0 e->∃kv,vs[i]?=0 kv/\(jj P w).is kv.1 e.key=6:=by
 induction h with
 |nil=>intro i e z;cases z
 |cons h1 _ _ ih=>
  intro i e z;cases i with
  |zero=>cases z;exact#[_,9,h1]
  |succ i=>exact ih z
def CF(o:Obj)(a:Addr)(ba:5 Key V):It:=
 #[λi H=>H a=0 (.e7 o<|.dK ba)/\i<ba.length,λi H x H'=>H'=H/\∃kv,ba[i]?=0 kv/\x=kV kv.1,λi H=>H a=0 (.e7 o<|.dK ba)/\ba.length<=i]
def Vr(I:12 X σ H s)(e:H a=0 (.e7 o<|.dK ba)){es:Array DictEntry}{ep:Nat}(ho:o.data=.dict es ep):vE s.heap a es ep/\es.size=ba.length/\∀(i:Nat)(h:i<es.size),∃kv,ba[i]?=0 kv/\RelV (kV kv.1) es[i].key:=by
 let[g,z,y,vs,r,o',es',CV,g',c,d,_,hp,_]:=I.cf a _ e;rw[g]at g';cases g';rw[ho]at d;cases d;let hl:es.size=ba.length:=by rw[<- xH,hp.length,<- r.length]
 refine#[#[o,g,c,ho],hl,λi h=>?_];let[kv',h1,h2]:=pairs_at hp (i:=i) (e:=es[i]) (by rw[Array.getElem?_toList,vT h]);let hk:=r.keys;let hi:i<ba.length:=by rw[<- hl];exact h
 refine#[ba[i],cD hi,?_];let e2:(ba.map (·.1))[i]?=(vs.map (·.1))[i]?:=by rw[hk]
 rw[dR,dR,cD hi,h1]at e2;let e3:ba[i].1=kv'.1:=dJ e2;rw[e3];exact agK h2
theorem agL{P:Program}{w:World}{K:Frag}(o:Obj)(es:Array DictEntry)(ep:Nat)(ho:o.data=.dict es ep)(a it:Addr)(ba:5 Key V)(c8:a≠it):Turn P w K tg (CF o a ba) [it] it (λi h=>h.IsKeyIter it a i es.size ep) where
 mem:=by simp
 obj:=λi h st b hb=>by
  let e:b=it:=by simpa using hb
  subst e;let[o,e,c,d]:=st;exact#[o,e,λv z=>by rw[d]at z;cases z]
 keep:=λi h h' st k=>st.at λo e=>k it 17 o e
 item:=by
  intro X hP hw hK hc i aZ s σ H E I hf st hg;subst hP hw hK;let[hg,hi]:=hg;let[raw,hl,hk]:=Vr I hg ho;let iu:i<es.size:=by rw[hl];exact hi
  let[kv,h1,h2]:=hk i iu;let[f0,f1,f2,f3,f4,f5]:=hf it 17;refine Ul st raw iu λh' iN sb=>?_;let I1:12 X σ H { s with heap:=h' }:=I.turned (t':=s.toks) (λb o hb e=>(sb.2 b hb).trans e) f0 f1 f3 f4 f5;let[o',e,c,d]:=id iN;exact#[_,9,vZ (s:={ s with heap:=h' }) e c d 16 #[kV kv.1,H,I1,h2,#[9,kv,h1,9],iN,λb hb=>(hf b hb).1]]
 done:=by
  intro X hP hw hK hc i aZ s σ H E I hf st hg;subst hP hw hK;let[hg,hi]:=hg;let[raw,hl,hk]:=Vr I hg ho;let[f0,f1,f2,f3,f4,f5]:=hf it 17;exact Uo (I.ok.hd hc) st raw (by rw[hl];exact hi) λh' eb=>#[9,I.turned (t':=s.toks) (λb o hb e=>eb b o hb e) f0 f1 f3 f4 f5]
 self:=λ_ _ _ _ _ st h=>wpAny_pyIter_keyiter st h
def agM(td:TE):TI:=λσ H R=>td σ H λx H1=>∃a ba,x=3 a/\H1 a=0 (.dK ba)/\∀o,R (CF o a ba) (upd H1 a<|.e7 o<|.dK ba)
def agN{l:Expr}{tl:TE}(hl:PE X l tl):PI X tg l (agM tl):=by
 intro aZ s σ H R I h;refine bg (hl aZ s σ H _ I h) λv s1 ⟨x,H1,I1,r1,q1⟩=>?_;let[a,ba,e,hq,q]:=q1;subst e;cases r1;let[o,g,I2]:=I1.freeze hq;let[z,lo,vs,r,o',es,ep,g',c,d,_]:=I1.cf a _ hq;rw[g]at g';cases g';let c8:a≠s1.heap.objs.size:=iA<|eE g;refine Uk lo #[o,g,c,d] ?_;refine#[s1.heap.objs.size,[s1.heap.objs.size],_,_,_,9,I2.kept (t':=s1.toks) λb o e=>dD _ e,agL o es ep d a _ ba c8,#[_,gp _ 9,9,9],λb hb=>?_,q o];let e:b=s1.heap.objs.size:=by simpa using hb
 subst e;exact I2.nL (ck _)<|I2.cf.fresh<|ck _
end
def MR(D:5 Str V):It:=#[λi _=>i<D.length,λi H x H'=>H'=H/\∃kv,D[i]?=0 kv/\x=.str kv.1,λi _=>D.length<=i]
def Vs{δ:Type}{R:δ->6 5}{D:5 Str δ}(h:KTD.Rows R es D):es.length=D.length:=by
 induction h with
 |nil=>rfl
 |cons _ _ _ ih=>rw[eX,eX,ih]
def agO{δ:Type}{R:δ->6 5}{D:5 Str δ}(h:KTD.Rows R es D):∀{i:Nat}{e:DictEntry},es[i]?=0 e->∃kv t,D[i]?=0 kv/\e.key=.str kv.1 t:=by
 induction h with
 |nil=>intro i e z;cases z
 |cons hk hv _ ih=>
  intro i e z;cases i with
  |zero=>cases z;exact#[_,_,9,hk]
  |succ i=>exact ih z
def agP{K:Frag}(h:pM K a=6):∃o es ep,K.lookup a=0 o/\(a==sysModules)=false/\o.ExactDict/\o.data=.dict es ep/\KTD.Rows (λ(v:V)(u:Value)=>RelV v u) es.toList (gN K a):=by
 unfold pM KTD.tabLook at h;rw[dM]at h;let[h0,h1]:=h;split at h1
 .rename_i o ho
  simp only[dM]at h1;let[[[e1,e2],e3],e4]:=h1;split at e4
  .rename_i es ep hd
   exact#[o,es,ep,ho,by simpa using h0,#[beq_iff_eq.mp e1,by simpa using e2,by simpa using e3],hd,KTD.rows_of_look QN e4]
  .cases e4
 .cases h1
section
variable{X:Cx}
theorem agQ{P:Program}{w:World}{K:Frag}{D:5 Str V}(o:Obj)(es:Array DictEntry)(ep:Nat)(a it:Addr)(hk:K.lookup a=0 o)(hc:o.ExactDict)(ho:o.data=.dict es ep)(hr:KTD.Rows (λ(v:V)(u:Value)=>RelV v u) es.toList D) :
  Turn P w K tg (MR D) [it] it (λi h=>h.IsKeyIter it a i es.size ep) where
 mem:=by simp
 obj:=λi h st b hb=>by
  let e:b=it:=by simpa using hb
  subst e;let[o,e,c,d]:=st;exact#[o,e,λv z=>by rw[d]at z;cases z]
 keep:=λi h h' st k=>st.at λo e=>k it 17 o e
 item:=by
  intro X hP hw hK Vt i aZ s σ H E I hf st hi;subst hP hw hK;let raw:vE s.heap a es ep:=#[o,I.gX a o hk,hc,ho];let hl:es.size=D.length:=by rw[<- xH];exact Vs hr
  let iu:i<es.size:=by rw[hl];exact hi
  let[kv,t,h1,h2]:=agO hr (i:=i) (e:=es[i]) (by rw[Array.getElem?_toList,vT iu]);let[f0,f1,f2,f3,f4,f5]:=hf it 17;refine Ul st raw iu λh' iN sb=>?_;let I1:12 X σ H { s with heap:=h' }:=I.turned (t':=s.toks) (λb o hb e=>(sb.2 b hb).trans e) f0 f1 f3 f4 f5;let[o',e,c,d]:=id iN;exact#[_,9,vZ (s:={ s with heap:=h' }) e c d 16 #[.str kv.1,H,I1,#[t,h2],#[9,kv,h1,9],iN,λb hb=>(hf b hb).1]]
 done:=by
  intro X hP hw hK Vt i aZ s σ H E I hf st hi;subst hP hw hK;let raw:vE s.heap a es ep:=#[o,I.gX a o hk,hc,ho];let hl:es.size=D.length:=by rw[<- xH];exact Vs hr
  let[f0,f1,f2,f3,f4,f5]:=hf it 17;exact Uo (I.ok.hd Vt) st raw (by rw[hl];exact hi) λh' eb=>#[9,I.turned (t':=s.toks) (λb o hb e=>eb b o hb e) f0 f1 f3 f4 f5]
 self:=λ_ _ _ _ _ st h=>wpAny_pyIter_keyiter st h
def agR(a:Addr)(D:5 Str V)(td:TE):TI:=λσ H R=>td σ H λx H1=>x=3 a/\R (MR D) H1
def agS{l:Expr}{tl:TE}(hT:pM X.K a=6)(hl:PE X l tl):PI X tg l (agR a (gN X.K a) tl):=by
 intro aZ s σ H R I h;refine bg (hl aZ s σ H _ I h) λv s1 ⟨x,H1,I1,r1,e,q⟩=>?_;subst e;cases r1;let[o,es,ep,hk,lo,hc,ho,hr]:=agP hT;refine Uk lo #[o,I1.gX a o hk,hc,ho] ?_;refine#[s1.heap.objs.size,[s1.heap.objs.size],_,_,_,9,I1.kept (t':=s1.toks) λb o e=>dD _ e,agQ o es ep a _ hk hc ho hr,#[_,gp _ 9,9,9],λb hb=>?_,q];let e:b=s1.heap.objs.size:=by simpa using hb
 subst e;exact I1.nL (ck _)<|I1.cf.fresh<|ck _
def agT{D:5 Str V}{H1:Hp}{cp:St}{tt:TT}{te:TE}{Q:VK}(Pv:Nat->Hp->6 (1 V))(hz:11 D.length)(h0:Pv 0 H1 [])(cW:∀i H zs,Pv i H zs->zs.length<=i)
  (step:∀i kv H zs,D[i]?=0 kv->bc H1 H->Pv i H zs->tt (0 (.str kv.1)::cp) H λc H4=>if c=6 then te (0 (.str kv.1)::cp) H4 λv H5=>mK 1 cp H1 (Pv<|i+1) (0 (.str kv.1)::cp) H5 (zs++[v])else mK 1 cp H1 (Pv<|i+1) (0 (.str kv.1)::cp) H4 zs)
  (done:∀H zs,bc H1 H->Pv D.length H zs->∀p,H p=8->Q (3 p) (9 H p zs)) :
  ∃W:Nat->Nat->St->Hp->6 (1 V),(∃m,W 0 m (16 1 8++cp) H1 [])/\mz (MR D) (cg 0) tt te Q W:=by
 refine AO (n:=D.length) Pv hz h0 cW (λi H sm hi=>hi) (λH sm=>ck _) (λi o H zs hi ho sm pv x H2 y=>?_) done;let[w,rfl]:=AQ ho;let[rfl,kv,Gd,rfl]:=y;exact step i kv H2 zs Gd sm pv
end
section
variable{prog:Program}{w:World}{A:Around}{E:QV}{s:Shared}
variable{κ:Type} [DecidableEq κ] {knd:KeyKind prog w κ}
end
section
variable{prog:Program}{w:World}{A:Around}{E:QV}{s:Shared}
variable{κ:Type} [DecidableEq κ] {knd:KeyKind prog w κ}
end
section
variable{X:Cx}{K:Frag}
def iU(K:Frag)(H:Hp)(zs:1 V)(ba:5 Key V):Prop:=zs.length=ba.length/\∀(i:Nat)(x:V)(kv:Key×V),zs[i]?=0 x->ba[i]?=0 kv->∃t,x=3 t/\bu K H t [kV kv.1,kv.2]
def iU.mono{H':Hp}{zs:1 V}(h:iU K H zs ba)(s:bc H H'):iU K H' zs ba:=(#[h.1,λi x kv e1 e2=>let ⟨t,e,g⟩:=h.2 i x kv e1 e2;#[t,e,s.bK g]])
def iU.nil:iU K H [] []:=(#[9,λi x kv e=>by cases e])
def iU.snoc{zs:1 V}{t:Addr}{kv:Key×V}(h:iU K H zs ba)(g:bu K H t [kV kv.1,kv.2]):iU K H (zs++[3 t]) (ba++[kv]):=by
 refine#[by rw[cb,cb,h.1];rfl,λi x q e1 e2=>?_];by_cases hi:i<zs.length
 .rw[i9 hi]at e1;rw[i9 (by rw[<- h.1];exact hi)]at e2;exact h.2 i x q e1 e2
 .rw[jy 7]at e1;rw[jy (by rw[<- h.1];lia),<- h.1]at e2;generalize i-zs.length=j at e1 e2;cases j with
  |zero=>cases e1;cases e2;exact#[t,9,g]
  |succ j=>cases e1
end
section
variable{X:Cx}{K:Frag}
def agU(t:TS):TS:=λD σ H=>∃a ba,H a=0 (.dK ba)/\t { D with nx:=λσ' H'=>(∃o,H' a=0 (.e7 o<|.dK ba))/\D.nx σ' (upd H' a<|.dK ba) } σ H
def agV{aZ:5 Addr Obj}{σ:St}{s:Shared}(I:12 X σ H s)(e:H a=0 (.dK ba)):∀o u,X.H₀ a≠0 (.e7 o u):=(λo u z=>by
 let:=I.base.pj a o u z
 rw[e]at this;cases this)
def agW{st:Stmt}{t:TS}(h:PS X st t):PS X st (agU t):=by
 intro aZ s σ H D I q;let[a,ba,e,q]:=q;let n:=agV I e;refine bg (h aZ s σ H _ I q) λf s' q=>?_;cases f with
 |next=>
  let[σ',H',I',[o,g],q]:=q;exact#[σ',_,I'.agJ g n,q]
 |ret v=>exact q
 |brk=>exact q
 |cont=>exact q
def agX{g:TG}{tb:TS}{D:Ends}{σ:St}(Pv:Nat->St->6 Hp)(h0:Pv 0 σ H)(hf:∀i σ H,Pv i σ H->H a=0 (.e7 o<|.dK ba))
  (hs:∀i kv σ H,ba[i]?=0 kv->Pv i σ H->g (kV kv.1) σ H λσ2 H2=>tb { D with nx:=Pv (i+1),ct:=Pv (i+1),bk:=D.nx } σ2 H2) (hd:∀σ H,Pv ba.length σ H->D.nx σ H) :
  ∃W:Nat->Nat->St->6 Hp,(∃m,W 0 m σ H)/\∀i m σ H,W i m σ H->
   ((CF o a ba).stop i H/\D.nx σ H)\/((CF o a ba).go i H/\∃N:St->6 Hp,(∀σ' H',N σ' H'->∃m',m'<m/\W (i+1) m' σ' H')/\∀x H',(CF o a ba).pB i H x H'->g x σ H' λσ2 H2=>tb { D with nx:=N,ct:=N,bk:=D.nx } σ2 H2):=by
 refine#[λi m σ H=>m=ba.length-i/\i<=ba.length/\Pv i σ H,#[ba.length,17,iL _,h0],?_];rintro i m σ H ⟨rfl,hi,p⟩;by_cases cX:i<ba.length
 .refine .inr #[#[hf i σ H p,cX],Pv<|i+1,λσ' H' p'=>#[ba.length-(i+1),7,9,cX,p'],λx H' y=>?_];let[rfl,kv,hk,rfl]:=y;exact hs i kv σ _ hk p
 .let e:i=ba.length:=by lia
  subst e;exact .inl #[#[hf _ σ H p,ck _],hd σ H p]
end
end L2
namespace L2
open PySem PySem.W PyProof.Rows
variable{m:Nat}{p:Array Nat}{s:Shared}
structure G6(n:Nat)(lt:Nat->Nat->Bool):Prop where
 tr:∀i j k,i<n->j<n->k<n->lt i j=6->lt j k=6->lt i k=6
 MT:∀i j,i<n->j<n->i≠j->lt i j=false->lt j i=6
structure i8(n:Nat)(p:Array Nat):Prop where
 sz:p.size=n
 lt:∀k,k<n->p.getD k 0<n
 inj:∀k l,k<n->l<n->k≠l->p.getD k 0≠p.getD l 0
 pm:p.toList.Perm (List.range n)
def i8.of{n:Nat}(h:p.toList.Perm (List.range n)):i8 n p:=by
 let hs:p.size=n:=by let:=h.length_eq;simpa using this
 let nd:p.toList.Nodup:=h.nodup_iff.mpr List.nodup_range;refine#[hs,λk hk=>?_,λk l hk hl c8 e=>?_,h]
 .let hm:p.getD k 0∈p.toList:=by
   rw[rl,vT 7,Ah];exact Array.getElem_mem_toList _
  simpa using h.mem_iff.mp hm
 .rw[rl,rl,vT (show k<p.size by lia),vT (show l<p.size by lia),Ah,Ah]at e;let pw:=List.pairwise_iff_getElem.mp nd;rcases Nat.lt_or_gt_of_ne c8 with z|z
  .exact pw k l (by simpa using by lia) (by simpa using by lia) z (by simpa using e)
  .exact pw l k (by simpa using by lia) (by simpa using by lia) z (by simpa using e.symm)
def i8.perm{n:Nat}{q:Array Nat}(h:i8 n p)(e:q.Perm p):i8 n q:=(.of<|e.toList.trans h.pm)
def lM(lt:Nat->Nat->Bool)(p:Array Nat)(m:Nat):Prop:=∀i j,i<j->j<m->lt (p.getD i 0) (p.getD j 0)=6
def xB(lt:Nat->Nat->Bool)(p:Array Nat)(m:Nat):Prop:=∀i j,i<j->j<m->lt (p.getD j 0) (p.getD i 0)=6
section
variable{n:Nat}{lt:Nat->Nat->Bool}{cmp:Nat->Nat->(Bool->6 Shared)->6 Shared}{I:6 Shared}{α:Type}
def MU(n:Nat)(lt:Nat->Nat->Bool)(cmp:Nat->Nat->(Bool->6 Shared)->6 Shared)(I:6 Shared):Prop:=∀i j (C:Bool->6 Shared) s,i<n->j<n->i≠j->I s->(∀s',I s'->C (lt i j) s')->cmp i j C s
def CG{T₁ T₂:KasT α}{Q:α->6 Shared}(h:T₁.kasWp cmp Q s):KasT.kasWp cmp (if 6=6 then T₁ else T₂) Q s:=by rw[af 9];exact h
def MV{T₁ T₂:KasT α}{Q:α->6 Shared}(h:T₂.kasWp cmp Q s):KasT.kasWp cmp (if false=6 then T₁ else T₂) Q s:=by rw[ag 16];exact h
variable(hL:G6 n lt)(hc:MU n lt cmp I)
include hL
def lM.snoc(hp:i8 n p)(h:lM lt p m)(hm:m<n)(h1:0<m)(e:lt (p.getD (m-1) 0) (p.getD m 0)=6):lM lt p (m+1):=(λi j o6 hj=>by
 rcases Nat.lt_or_ge j m with z|z
 .exact h i j o6 z
 .let ej:j=m:=by lia
  subst ej;rcases Nat.lt_or_ge i (j-1)with y|y
  .exact hL.tr _ (p.getD (j-1) 0) _ (hp.lt _ 7) (hp.lt _ 7) (hp.lt _ hm) (h i (j-1) y 7) e
  .rw[show i=j-1 by lia];exact e)
def xB.snoc(hp:i8 n p)(h:xB lt p m)(hm:m<n)(h1:0<m)(e:lt (p.getD m 0) (p.getD (m-1) 0)=6):xB lt p (m+1):=(λi j o6 hj=>by
 rcases Nat.lt_or_ge j m with z|z
 .exact h i j o6 z
 .let ej:j=m:=by lia
  subst ej;rcases Nat.lt_or_ge i (j-1)with y|y
  .exact hL.tr _ (p.getD (j-1) 0) _ (hp.lt _ hm) (hp.lt _ 7) (hp.lt _ 7) e<|h i (j-1) y 7
  .rw[show i=j-1 by lia];exact e)
include hc
theorem MW{p:Array Nat}{Q:Nat->6 Shared}(hp:i8 n p):∀(f k:Nat)(s:Shared),k+f<=n->0<k->lM lt p k->I s->(∀m s',I s'->k<=m->m<=k+f->lM lt p m->(m=k+f\/lt (p.getD m 0) (p.getD (m-1) 0)=6)->Q m s')->(kas_asc p f k).kasWp cmp Q s
 |0,k,s,_,_,hS,hI,q=>q k s hI (ck _) (ck _) hS 18
 |f+1,k,s,hk,h0,hS,hI,q=>by
  refine hc _ _ _ s (hp.lt _ 7) (hp.lt _ 7) (hp.inj _ _ 7 7 7) hI λs' kc=>?_;cases e:lt (p.getD k 0) (p.getD (k-1) 0) with
  |true=>refine CG ?_;exact q k s' kc (ck _) 7 hS<|.inr e
  |false=>
   refine MV ?_;let e2:=hL.MT _ _ (hp.lt k 7) (hp.lt (k-1) 7) (hp.inj _ _ 7 7 7) e;refine MW hp f (k+1) s' 7 7 (lM.snoc hL hp hS 7 h0 e2) kc λm jW ur h1 h2 h3 h4=>q m jW ur 7 7 h3 ?_;rcases h4 with h4|h4
   .exact .inl 7
   .exact .inr h4
theorem Vu{p:Array Nat}{Q:Array Nat×Nat×Nat->6 Shared}(hp:i8 n p):∀(f k:Nat)(s:Shared),k+f<=n->0<k->xB lt p k->I s->(∀m s',I s'->k<=m->m<=k+f->xB lt p m->Q (p,m,0) s')->(kas_desc f p k 0).kasWp cmp Q s
 |0,k,s,_,_,hS,hI,q=>q k s hI (ck _) (ck _) hS
 |f+1,k,s,hk,h0,hS,hI,q=>by
  refine hc _ _ _ s (hp.lt _ 7) (hp.lt _ 7) (hp.inj _ _ 7 7 7) hI λs' kc=>?_;cases e:lt (p.getD k 0) (p.getD (k-1) 0) with
  |true=>
   refine CG ?_;rw[ag 16];exact Vu hp f (k+1) s' 7 7 (xB.snoc hL hp hS 7 h0 e) kc λm jW ur h1 h2 h3=>q m jW ur 7 7 h3
  |false=>
   refine MV ?_;let e2:=hL.MT _ _ (hp.lt k 7) (hp.lt (k-1) 7) (hp.inj _ _ 7 7 7) e;refine hc _ _ _ s' (hp.lt _ 7) (hp.lt _ 7) (hp.inj _ _ 7 7 7) kc λjW ur=>?_;rw[e2];refine CG ?_;exact q k jW ur (ck _) 7 hS
omit hL hc in
def Vv{k:Nat}(hm:m<=p.size):(kas_rev p 0 m).getD k 0=if k<m then p.getD (m-1-k) 0 else p.getD k 0:=by
 unfold kas_rev;rw[rl,getElem?_mirror_all hm];by_cases h:k<m
 .rw[af #[iL _,h],af h,rl,lP]
 .rw[ag (λz=>h z.2),ag h,rl]
def agY{Q:Nat×Array Nat->6 Shared}(hp:i8 n p)(hm:m<=n)(h1:0<m)(hS:xB lt p m)(hI:I s)(q:∀k p' s',I s'->i8 n p'->m<=k->k<=n->lM lt p' k->Q (k,p') s'):(kas_tail3 m n p).kasWp cmp Q s:=by
 let qv:i8 n (kas_rev p 0 m):=hp.perm<|mirror_perm _ _ _ _;let hS':lM lt (kas_rev p 0 m) m:=λi j o6 hj=>by
  rw[Vv (by rw[hp.sz];exact hm),Vv (by rw[hp.sz];exact hm),af 7,af hj];exact hS (m-1-j) (m-1-i) 7 7
 unfold kas_tail3;rw[KasT.kasWp_bind];exact MW hL hc qv (n-m) m s 7 h1 hS' hI λk s' kc h2 h3 h4 _=>q k _ s' kc qv h2 7 h4
def agZ{Q:Nat×Array Nat->6 Shared}(hn:2<=n)(hp:i8 n p)(hI:I s)(q:∀k p' s',I s'->i8 n p'->1<=k->k<=n->lM lt p' k->Q (k,p') s'):(kas_count n p).kasWp cmp Q s:=by
 unfold kas_count;rw[KasT.kasWp_bind];refine MW hL hc hp (n-1) 1 s 7 16 (λi j o6 hj=>absurd o6 7) hI λm s' kc h1 h2 h3 h4=>?_;by_cases e:m=n
 .rw[af (by rw[e];exact aX n)];exact q m p s' kc hp h1 7 h3
 rw[ag (by rw[beq_iff_eq];exact e)];let h4':lt (p.getD m 0) (p.getD (m-1) 0)=6:=by
  rcases h4 with z|z
  .exact absurd z 7
  .exact z
 by_cases e1:m>1
 .rw[af e1];refine hc _ _ _ s' (hp.lt _ 7) (hp.lt _ 7) (hp.inj _ _ 7 7 7) kc λjW ur=>?_;rw[h3 0 (m-1) 7 7];refine CG ?_;exact q m p jW ur hp h1 7 h3
 .rw[ag e1];let em:m=1:=by lia
  subst em;unfold kas_descPart;rw[KasT.kasWp_bind];refine Vu hL hc hp (n-(1+1)) (1+1) s' 7 16 (λi j o6 hj=>?_) kc λk jW ur g1 g2 g3=>?_
  .rw[show i=0 by lia,show j=1 by lia];exact h4'
  .rw[ag (show ¬0>0 by decide)];exact agY hL hc hp 7 7 g3 ur λk' p' s3 hI3 qv z1 z2 z3=>q k' p' s3 hI3 qv 7 z2 z3
theorem MX{p:Array Nat}{k:Nat}{Q:Nat->6 Shared}(hp:i8 n p)(hk:k<n)(hS:lM lt p k):∀(f l r:Nat)(s:Shared),r-l<=f->l<=r->r<=k->(∀i,i<l->lt (p.getD i 0) (p.getD k 0)=6)->(∀i,r<=i->i<k->lt (p.getD k 0) (p.getD i 0)=6)->I s->
  (∀m s',I s'->m<=k->(∀i,i<m->lt (p.getD i 0) (p.getD k 0)=6)->(∀i,m<=i->i<k->lt (p.getD k 0) (p.getD i 0)=6)->Q m s')->(kas_place p k f l r).kasWp cmp Q s
 |0,l,r,s,hf,ue,hr,h1,h2,hI,q=>by
  let e:l=r:=by lia
  subst e;exact q l s hI hr h1 h2
 |f+1,l,r,s,hf,ue,hr,h1,h2,hI,q=>by
  unfold kas_place;by_cases e:l>=r
  .rw[af e];let e':l=r:=by lia
   subst e';exact q l s hI hr h1 h2
  rw[ag e];let hm:(l+r)/2<k:=by lia
  refine hc _ _ _ s (hp.lt _ hk) (hp.lt _ 7) (hp.inj _ _ hk 7 7) hI λs' kc=>?_;cases ec:lt (p.getD k 0) (p.getD ((l+r)/2) 0) with
  |true=>
   refine CG ?_;refine MX hp hk hS f l ((l+r)/2) s' 7 7 7 h1 (λi hi Ba=>?_) kc q;rcases Nat.lt_or_ge ((l+r)/2) i with z|z
   .exact hL.tr _ (p.getD ((l+r)/2) 0) _ (hp.lt _ hk) (hp.lt _ 7) (hp.lt _ 7) ec<|hS _ _ z Ba
   .rw[show i=(l+r)/2 by lia];exact ec
  |false=>
   refine MV ?_;let e2:=hL.MT _ _ (hp.lt k hk) (hp.lt ((l+r)/2) 7) (hp.inj _ _ hk 7 7) ec;refine MX hp hk hS f ((l+r)/2+1) r s' 7 7 hr (λi hi=>?_) h2 kc q;rcases Nat.lt_or_ge i ((l+r)/2)with z|z
   .exact hL.tr _ (p.getD ((l+r)/2) 0) _ (hp.lt _ 7) (hp.lt _ 7) (hp.lt _ hk) (hS _ _ z hm) e2
   .rw[show i=(l+r)/2 by lia];exact e2
omit hL hc in
def Vw{k l i:Nat}(hk:k<p.size)(hl:l<=k):(bubble p k<|k-l).getD i 0=if i=l then p.getD k 0 else if l<i/\i<=k then p.getD (i-1) 0 else p.getD i 0:=by
 rw[rl,getElem?_bubble hk (k-l) 7,show k-(k-l)=l by lia];by_cases h:i=l
 .rw[af h,af h,rl]
 .rw[ag h,ag h];by_cases h2:l<i/\i<=k
  .rw[af h2,af h2,rl]
  .rw[ag h2,ag h2,rl]
theorem Vx{Q:Array Nat->6 Shared}:∀(f:Nat)(p:Array Nat)(k:Nat)(s:Shared),i8 n p->k+f=n->lM lt p k->I s->(∀p' s',I s'->i8 n p'->lM lt p' n->Q p' s')->(kas_bin f p k).kasWp cmp Q s
 |0,p,k,s,hp,hk,hS,hI,q=>q p s hI hp (by rw[<- hk];exact hS)
 |f+1,p,k,s,hp,hk,hS,hI,q=>by
  unfold kas_bin;rw[KasT.kasWp_bind];let vd:k<n:=by lia
  refine MX hL hc hp vd hS k 0 k s 7 7 (ck _) (λi hi=>absurd hi 7) (λi h1 h2=>absurd h1 7) hI λl s' kc hl h1 h2=>?_;let oT:k<p.size:=by rw[hp.sz];exact vd
  refine Vx f (bubble p k<|k-l) (k+1) s' (hp.perm<|bubble_perm _ _ _) 7 (λi j o6 hj=>?_) kc q;rw[Vw oT hl,Vw oT hl];by_cases e1:i=l
  .rw[af e1,ag 7,af #[7,7]];exact h2 (j-1) 7 7
  .rw[ag e1];by_cases e2:j=l
   .rw[af e2,ag 7];exact h1 i 7
   .rw[ag e2];by_cases e3:l<i/\i<=k
    .rw[af e3,af #[7,7]];exact hS (i-1) (j-1) 7 7
    .rw[ag e3];by_cases e4:l<j/\j<=k
     .rw[af e4];rcases Nat.lt_or_ge i (j-1)with z|z
      .exact hS i (j-1) z 7
      .exact absurd z 7
     .rw[ag e4];exact hS i j o6 7
def ag0{Q:Array Nat->6 Shared}(hn:2<=n)(hI:I s)(q:∀p s',I s'->i8 n p->lM lt p n->Q p s'):(kas_sort n).kasWp cmp Q s:=by
 unfold kas_sort;rw[KasT.kasWp_bind];refine agZ hL hc hn (.of 17) hI λk p' s' kc hp h1 h2 h3=>?_;by_cases e:k<n
 .rw[af e];refine Vx hL hc _ _ _ s' hp 7 ?_ kc q;rw[show max k 1=k by lia];exact h3
 .rw[ag e]
  let:k=n:=by lia
  subst this;exact q p' s' kc hp h3
end
end L2
namespace PySem
open Sem (wp)
section
variable{prog:Program}{w:World}{A:Around}{E:QV}{s:Shared}
end
section
variable{prog:Program}{w:World}{A:Around}{E:QV}{s:Shared}
end
end PySem
namespace L2
open PySem PySem.Spec PyProof.Rows PySem.W
section
variable{X:Cx}
end
end L2
namespace PySem
open Sem (wp)
section
variable{prog:Program}{w:World}{A:Around}{E:QV}{s:Shared}
variable{κ:Type} [DecidableEq κ] {knd:KeyKind prog w κ}
end
end PySem
namespace PyProof.Rows
open PySem
section
variable{prog:Program}{w:World}{A:Around}{E:QV}{s:Shared}
variable{κ:Type} [DecidableEq κ] {knd:PySem.KeyKind prog w κ}
end
end PyProof.Rows
namespace L2
open PySem PySem.Spec PyProof.Rows PySem.W
section
variable{X:Cx}
theorem Paired.of_get:∀{xs:1 V}{us:1 5},21=us.length->(∀(i:Nat)(x:V)(u:Value),xs[i]?=0 x->us[i]?=0 u->RelV x u)->Vals xs us
 | [],[],_,_=>.nil
 |x::xs,u::us,hl,h=>.cons (h 0 x u 9 9) (Paired.of_get (by simpa using hl) λi y v e1 e2=>h (i+1) y v e1 e2)
def ag1:bootBuiltins "sorted"=0 (.builtin "sorted"):=by decide +kernel
end
end L2
namespace PyProof.Rows
open PySem PySem.W L2
variable{vs:1 5}
section
variable{prog:Program}{w:World}{A:Around}{E:QV}{s:Shared}
def ag2(hl:vs.length<2):Array.map (·.2) (vs.toArray.zip vs.toArray)=List.toArray ((List.toArray<|List.range vs.length).toList.map λi=>vs.getD i Value.none):=by
 rcases vs with _|⟨v,_|⟨u,t⟩⟩
 .simp
 .simp[List.range_succ]
 .simp only[eX]at hl;lia
def ag3{a:Addr}{n:Nat}{P:PySem.Fin->6 Shared}{lt:Nat->Nat->Bool}{κ:SortKind}(ho:s.heap.get? a=0 (seqObj "list" vs.toArray n))(uv:vs.length<64)(hL:G6 vs.length lt)
  (hk:2<=vs.length->∀(h':Heap)(Q:SortKind->6 Shared),(∀b o,b≠a->s.heap.get? b=0 o->h'.get? b=0 o)->Q κ { s with heap:=h' }->15 prog w A (keyKind' vs.toArray) Q (λ_ _=>False) { s with heap:=h' })
  (hc:∀h':Heap,(∀b o,b≠a->s.heap.get? b=0 o->h'.get? b=0 o)->MU vs.length lt (kas_ask prog w A κ vs) (· = { s with heap:=h' }))
  (q:∀(p:Array Nat)(h':Heap)(e:Nat),i8 vs.length p->lM lt p vs.length->(∀b o,b≠a->s.heap.get? b=0 o->h'.get? b=0 o)->h'.get? a=0 (seqObj "list" (List.toArray<|p.toList.map λi=>vs.getD i Value.none) e)->P (.done<|.ret .none) { s with heap:=h' }) :
  15 prog w A (Builtin.«list.sort» #[[3 a],[]]) P E s:=by
 let ha:a<22:=eE ho;rw[list_sort_plain];refine aq<|listItems_at ho 9 ?_;refine aq<|listUpdate_at ho 9 ?_ (by rw[dP,ar];lia)<|iL _;obtain⟨e1,Vy⟩:∃e1,(s.heap.update a<|Obj.mapSeq λ_=>(#[]:Array 5)).get? a=0 (seqObj "list" #[] e1):=#[_,get?_update_seq ho λ_=>#[]];refine aq<|seqEpoch_at Vy 9 ?_;refine aq (wpAny_newTuple ?_<|by show vs.length<=_;rw[ar];lia);refine aq<|wpAny_newList ?_<|iL _;refine aC ?_;let zV:(((s.heap.update a<|Obj.mapSeq λ_=>(#[]:Array 5)).push<|seqObj "tuple" vs.toArray 0).push<|seqObj "list" #[] 0).get? a=0 (seqObj "list" #[] e1):=dD _<|dD _ Vy;let old:∀b o,b≠a->s.heap.get? b=0 o->(((s.heap.update a<|Obj.mapSeq λ_=>(#[]:Array 5)).push<|seqObj "tuple" vs.toArray 0).push<|seqObj "list" #[] 0).get? b=0 o:=λb o hb e=>
  dD _ (dD _<|(vQ _ _<|iD hb).trans e)
 show 15 prog w A _ P E { s with heap:=((s.heap.update a<|Obj.mapSeq λ_=>(#[]:Array 5)).push<|seqObj "tuple" vs.toArray 0).push (seqObj "list" #[] 0) };generalize ((s.heap.update a<|Obj.mapSeq λ_=>(#[]:Array 5)).push<|seqObj "tuple" vs.toArray 0).push (seqObj "list" #[] 0)=h1 at zV old |-;dsimp only;let upd:∀(out:1 5),∃e,(h1.update a<|Obj.mapSeq λ_=>List.toArray out).get? a=0 (seqObj "list" (List.toArray out) e):=λout=>#[_,get?_update_seq zV λ_=>List.toArray out];let Vz:∀(out:1 5) b o,b≠a->s.heap.get? b=0 o->(h1.update a<|Obj.mapSeq λ_=>List.toArray out).get? b=0 o:=λout b o hb e=>(vQ _ _<|iD hb).trans<|old b o hb e;by_cases hs:vs.toArray.size<2
 .rw[af hs,af hs];refine aq<|ao ?_;rw[StateT.run_pure];refine aq<|ao ?_;dsimp only;let hl:vs.length<2:=by simpa using hs
  let eo:Array.map (·.2) (vs.toArray.zip vs.toArray)=List.toArray ((List.toArray<|List.range vs.length).toList.map λi=>vs.getD i Value.none):=by
   exact ag2 hl
  refine aq<|seqEpoch_at zV 9 ?_;refine aq (listUpdate_at zV 9 ?_ (iL _)<|by rw[Array.size_map,Array.size_zip,dP,Nat.min_self,ar];lia);simp only[bne_self_eq_false,xI,if_false];refine ao ?_;show P (.done<|.ret .none) { s with heap:=h1.update a (Obj.mapSeq λ_=>Array.map (·.2)<|vs.toArray.zip vs.toArray) };rw[eo];let[e,he]:=upd<|(List.toArray<|List.range vs.length).toList.map λi=>vs.getD i Value.none;exact q _ _ e (.of 17) (λi j o6 hj=>absurd o6 7) (Vz _) he
 .rw[ag hs,ag hs];let nT:¬vs.length<2:=by simpa using hs
  let hl:2<=vs.length:=by lia
  refine aq<|ah (hk hl h1 (λκ' s0=>κ'=κ/\s0={ s with heap:=h1 }) old #[9,9]) (λκ' s0 jm=>?_) λ_ _ x=>x.elim;let[rfl,rfl]:=jm;let tree:(kas_sort vs.length).kasWp (kas_ask prog w A κ' vs) (λp s'=>s'={ s with heap:=h1 }/\i8 vs.length p/\lM lt p vs.length) { s with heap:=h1 }:=
   ag0 hL (hc h1 old) hl 9 λp s' hI hp hS=>#[hI,hp,hS]
  refine aq<|ah (kat_run (Q:=λiN s'=>∃p:Array Nat,p.size=vs.length/\arrOf iN=p.map (kas_item<|vs.toArray.zip vs.toArray)/\failedOf iN=8/\s'={ s with heap:=h1 }/\i8 vs.length p/\lM lt p vs.length)
   rfl hl uv (λp' iN s' a1 a2 a3 a4=>#[p',a1,a2,a3,a4]) tree) ?_ λ_ _ e=>e
  rintro⟨⟨⟩,iN⟩ s' ⟨p,hp,har,hf,rfl,hP,hS⟩;dsimp only;let ag4:=kat_snds 9 har;let hsz:(List.toArray<|p.toList.map λi=>vs.getD i Value.none).size=vs.length:=by rw[dP,bH,xH,hp]
  rw[ag4];refine aq<|seqEpoch_at zV 9 ?_;refine aq (listUpdate_at zV 9 ?_ (iL _)<|eh (Nat.le_of_eq hsz)<|by rw[ar];lia);rw[hf];simp only[bne_self_eq_false,xI,if_false];let[e,he]:=upd<|p.toList.map λi=>vs.getD i Value.none;exact ao<|q p _ e hP hS (Vz _) he
def ag5{x:Value}{Q:QV}{lt:Nat->Nat->Bool}{κ:SortKind}(uv:vs.length<64)(hL:G6 vs.length lt)
  (MY:∀Q':1 5->6 Shared,(∀(h0:Heap)(tk:Nat),(∀b o,s.heap.get? b=0 o->h0.get? b=0 o)->22<=h0.objs.size->Q' vs { s with heap:=h0,toks:=tk })->15 prog w A.in1 (collect x) Q' E s)
  (hk:2<=vs.length->∀(h':Heap)(tk:Nat)(Q:SortKind->6 Shared),(∀b o,s.heap.get? b=0 o->h'.get? b=0 o)->Q κ { s with heap:=h',toks:=tk }->15 prog w A.in1.in1 (keyKind' vs.toArray) Q (λ_ _=>False) { s with heap:=h',toks:=tk })
  (hc:∀(h':Heap)(tk:Nat),(∀b o,s.heap.get? b=0 o->h'.get? b=0 o)->MU vs.length lt (kas_ask prog w A.in1.in1 κ vs) (· = { s with heap:=h',toks:=tk }))
  (q:∀(p:Array Nat)(h':Heap)(tk e:Nat)(D:Addr),i8 vs.length p->lM lt p vs.length->22<=D->(∀b o,s.heap.get? b=0 o->h'.get? b=0 o)->h'.get? D=0 (seqObj "list" (List.toArray<|p.toList.map λi=>vs.getD i Value.none) e)->Q (3 D) { s with heap:=h',toks:=tk }) :
  15 prog w A (call (.builtin "sorted") [x]) Q E s:=by
 refine Calls.call_function_entry kind_sorted plain_sorted entry_sorted (args_sorted1 _) ?_;unfold Builtin.«sorted»;refine aq (m:=checkCount "sorted" 1 1 _) (ao ?_);refine aq<|MY _ λh0 tk k0 z0=>?_;refine aq (wpAny_newList ?_<|by rw[ar];lia);let Ap:(h0.push<|seqObj "list" vs.toArray 0).get? h0.objs.size=0 (seqObj "list" vs.toArray 0):=gp _ 9;let keep:∀b o,s.heap.get? b=0 o->(h0.push<|seqObj "list" vs.toArray 0).get? b=0 o:=λb o q=>dD _<|k0 b o q;show wpAny _ _ _ _ _ { s with heap:=h0.push (seqObj "list" vs.toArray 0),toks:=tk };let ne:∀b o,s.heap.get? b=0 o->b≠h0.objs.size:=λb o e=>iA<|eE<|k0 b o e;generalize h0.push (seqObj "list" vs.toArray 0)=h1 at Ap keep |-;refine aq<|aC<|aF slot_list_sort #[_,Ap,9] entry_list_sort ?body<|args_list_sort _
 case body=>
  refine ag3 (s:={ s with heap:=h1,toks:=tk }) Ap uv hL (λh2 h' Q' k hq=>hk h2 h' tk Q' (λb o e=>k b o (ne b o e)<|keep b o e) hq) (λh' k=>hc h' tk λb o e=>k b o (ne b o e)<|keep b o e) λp h' e hp hS k he=>#[_,9,?_];exact ao #[_,9,q p h' tk e _ hp hS z0 (λb o eb=>k b o (ne b o eb)<|keep b o eb) he]
end
end PyProof.Rows
namespace L2
open PySem PySem.Spec PyProof.Rows PySem.W
variable{a b:KP}{ks:1 KP}
section
variable{X:Cx}{aZ:5 Addr Obj}{σ:St}{s:Shared}
end
abbrev KP:=Int×Str
def lN(a b:KP):Bool:=decide (a.1<b.1)||(decide (a.1=b.1)&&decide (a.2.cps.toList<b.2.cps.toList))
def ke(k:KP):Key×V:=(.inl k.1,.str k.2)
def ag6{x y:Str}(h:x.cps.toList=y.cps.toList):x=y:=by
 cases x;cases y;simpa using h
def MZ:lN a b=6↔a.1<b.1\/(a.1=b.1/\a.2.cps.toList<b.2.cps.toList):=by
 unfold lN;rw[Bool.or_eq_true,dM,aK,aK,aK]
def ag7{c:KP}(h1:lN a b=6)(h2:lN b c=6):lN a c=6:=by
 rw[MZ]at *;rcases h1 with h1|⟨h1,g1⟩
 .rcases h2 with h2|⟨h2,g2⟩
  .exact .inl 7
  .exact .inl 7
 .rcases h2 with h2|⟨h2,g2⟩
  .exact .inl 7
  .exact .inr #[7,List.lt_trans g1 g2]
def ag8(c8:a≠b)(h:lN a b=false):lN b a=6:=by
 let h':¬(a.1<b.1\/(a.1=b.1/\a.2.cps.toList<b.2.cps.toList)):=λz=>by rw[MZ.mpr z]at h;cases h
 rw[MZ];rcases Int.lt_trichotomy a.1 b.1 with z|z|z
 .exact absurd (.inl z) h'
 .refine .inr #[z.symm,?_];let g:¬a.2.cps.toList<b.2.cps.toList:=λy=>h'<|.inr #[z,y];rcases(List.le_iff_lt_or_eq.mp<|List.not_lt.mp g)with y|y
  .exact y
  .exact absurd (Prod.ext z<|ag6 y.symm) c8
 .exact .inl z
def G7(ks:1 KP)(i j:Nat):Bool:=lN (ks.getD i (0,""))<|ks.getD j (0,"")
def ag9(nd:ks.Nodup){i j:Nat}(hi:i<ks.length)(hj:j<ks.length)(h:i≠j):ks.getD i (0,"")≠ks.getD j (0,""):=by
 rw[dG,dG,cD hi,cD hj,Ah,Ah];let pw:=List.pairwise_iff_getElem.mp nd;rcases Nat.lt_or_gt_of_ne h with z|z
 .exact pw i j hi hj z
 .exact(pw j i hj hi z).symm
def aha(nd:ks.Nodup):G6 ks.length (G7 ks):=(#[λ_ _ _ _ _ _ h1 h2=>ag7 h1 h2,λi j hi hj c8 h=>ag8 (ag9 nd hi hj c8) h])
section
variable{prog:Program}{w:World}{A:Around}{E:QV}{s:Shared}
def xC(h:Heap)(v:Value)(k:KP):Prop:=∃a t u,v=3 a/\IsTup h a #[.int k.1 t,.str k.2 u,]
def ahb{x y:Value}{Q:Bool->6 Shared}(hx:xC s.heap x a)(hy:xC s.heap y b)(q:Q (lN a b) s):15 prog w A (keyLt' (tuples' 6) x y) Q E s:=by
 let[ax,t1,u1,rfl,ox,gx,_,nx,dx]:=hx;let[ay,t2,u2,rfl,oy,gy,_,ny,dy]:=hy;refine kat_lt gx dx gy dy ?_;show KatLex prog w A 6 _ Q [(Value.int a.1 t1,Value.int b.1 t2),(Value.str a.2 u1,Value.str b.2 u2)] 0 s;refine kat_cons<|wpAny_eqBool_int ?_;by_cases e:a.1=b.1
 .rw[show(a.1==b.1)=6 from beq_iff_eq.mpr e]
  refine kat_yes<|kat_cons<|wpAny_eqBool_str ?_;let k0:lN a b=decide (a.2.cps.toList<b.2.cps.toList):=by
   unfold lN;rw[ae (show ¬a.1<b.1 by lia),aH e,Bool.false_or,Bool.true_and]
  by_cases e2:a.2=b.2
  .rw[aH e2];refine kat_yes<|kat_nil ?_
   let:lN a b=false:=by rw[k0,e2];exact ae<|List.lt_irrefl _
   rw[this]at q;exact q
  .rw[ae e2];refine kat_no<|kat_one _ _<|lt_str ?_;rw[k0]at q;exact q
 .rw[show(a.1==b.1)=false from beq_eq_false_iff_ne.mpr e]
  refine kat_no<|oneLt_int ?_;let k0:lN a b=decide (a.1<b.1):=by
   unfold lN;rw[ae e,Bool.false_and,Bool.or_false]
  rw[k0]at q;exact q
theorem VA{h:Heap}:∀(vs:1 5)(ks:1 KP),vs.length=ks.length->(∀(i:Nat) v k,vs[i]?=0 v->ks[i]?=0 k->xC h v k)->∃fs,fs.length=vs.length/\KatTups h vs fs/\∀f∈fs,∃n t,f=Value.int n t
 | [],[],_,_=>#[[],9,trivial,λf h=>by cases h]
 | [],_::_,h,_=>nomatch h
 |_::_,[],h,_=>nomatch h
 |v::vs,k::ks,hl,h=>by
  let[fs,h1,h2,h3]:=VA vs ks (Nat.succ.inj hl) λi v k e1 e2=>h (i+1) v k e1 e2;let[a,t,u,rfl,o,g,c,n,d]:=h 0 v k 9 9;refine#[.int k.1 t::fs,by rw[eX,eX,h1],KatTups.cons g c d 9 h2,λf hf=>?_];rcases(eK.mp hf)with(rfl|hf)
  .exact#[_,_,9]
  .exact h3 f hf
def ahc{vs:1 5}{Q:SortKind->6 Shared}(hl:vs.length=ks.length)(h:∀(i:Nat) v k,vs[i]?=0 v->ks[i]?=0 k->xC s.heap v k)(h0:0<vs.length)(q:Q (tuples' 6) s):15 prog w A (keyKind' vs.toArray) Q E s:=by
 let[fs,h1,h2,h3]:=VA vs ks hl h;refine kat_kind (T:=.type "int") h2 (by lia) (λv hv=>?_) (by decide) q;let[n,t,rfl]:=h3 v hv;exact .now
end
def ahd(K:Frag):1 V->Hp->6 VK:=λvs H Q=>∃(l:Addr)(zs:1 V)(ks:1 KP),vs=[3 l]/\H l=13 zs/\iU K H zs (ks.map ke)/\ks.Nodup/\ks.length<64/\∀(l':Addr)(rZ:1 V)(qX:1 KP),H l'=8->iU K H rZ (qX.map ke)->qX.Perm ks->qX.Pairwise (λa b=>lN a b=6)->Q (3 l') (9 H l' rZ)
section
variable{X:Cx}
def ahe{p:Array Nat}(hp:i8 ks.length p):(p.toList.map λi=>ks.getD i (0,"")).Perm ks:=by
 let h:=hp.pm.map λi=>ks.getD i (0,"");refine h.trans ?_;rw[show(List.range ks.length).map (λi=>ks.getD i (0,""))=ks from ?_]
 refine List.ext_getElem? λi=>?_;rw[dR];by_cases hi:i<ks.length
 .rw[List.getElem?_range hi,cD hi];simp[hi]
 .rw[kf (by simpa using by lia),kf 7];rfl
def ahf{aZ:5 Addr Obj}{s:Shared}{σ:St}{H:Hp}{x:Value}{zs:1 V}{its:1 5}{Q:QV}{E:QV}(I:12 X σ H s)(rv:Vals zs its)(hP:iU X.K H zs (ks.map ke))(nd:ks.Nodup)(uv:ks.length<64)
  (MY:∀Q':1 5->6 Shared,(∀(h0:Heap)(tk:Nat),(∀b o,s.heap.get? b=0 o->h0.get? b=0 o)->22<=h0.objs.size->Q' its { s with heap:=h0,toks:=tk })->15 X.prog X.w X.A.in1 (collect x) Q' E s)
  (q:∀(D:Addr)(s':Shared)(rZ:1 V)(qX:1 KP),H D=8->12 X σ (9 H D rZ) s'->iU X.K H rZ (qX.map ke)->qX.Perm ks->qX.Pairwise (λa b=>lN a b=6)->Q (3 D) s'):15 X.prog X.w X.A (call (.builtin "sorted") [x]) Q E s:=by
 let qI:zs.length=ks.length:=by rw[hP.1,bH]
 let M0:its.length=ks.length:=by rw[<- rv.length];exact qI
 let kp:∀(i:Nat) v k,its[i]?=0 v->ks[i]?=0 k->xC s.heap v k:=λi v k e1 e2=>by
  obtain⟨x,ex⟩:∃x,zs[i]?=0 x:=#[_,cD (by rw[qI];exact(eA.mp e2).1)];let[t,et,ht]:=hP.2 i x (ke k) ex (by rw[dR,e2];rfl);let[v',ev,VB]:=rv.get ex;rw[e1]at ev;cases ev;rw[et]at VB;let ev2:v=Value.ref t:=VB;subst ev2;let[ts,rt,pt,_]:=I.tuple ht;let[u1,u2,rfl,r1,r2]:=Vals.two rt;obtain⟨t1,e1⟩:∃t1,u1=Value.int k.1 t1:=r1;obtain⟨t2,e2⟩:∃t2,u2=Value.str k.2 t2:=r2;rw[e1,e2]at pt;exact#[t,t1,t2,9,pt]
 let up:∀{h':Heap}{v:Value}{k:KP},(∀b o,s.heap.get? b=0 o->h'.get? b=0 o)->xC s.heap v k->xC h' v k:=λk ⟨a,t,u,e,o,g,r⟩=>#[a,t,u,e,o,k _ _ g,r];let at':∀i,i<its.length->∃v k,its[i]?=0 v/\ks[i]?=0 k/\its.getD i Value.none=v/\ks.getD i (0,"")=k:=λi hi=>#[its[i],ks[i]'7,cD hi,cD 7,by simp[hi],by simp[show i<ks.length by lia]];refine ag5 (lt:=G7 ks) (κ:=tuples' 6) (by lia) (by rw[M0];exact aha nd) MY (λh2 h' tk Q' k hq=>ahc (s:={ s with heap:=h',toks:=tk }) M0 (λi v kk e1 e2=>up k<|kp i v kk e1 e2) 7 hq)
  (λh' tk k i j C s' hi hj c8 hs hC=>?_) λp h' tk e D hp hS hD k hd=>?_
 .let[v1,k1,a1,a2,a3,a4]:=at' i hi;let[v2,k2,b1,b2,b3,b4]:=at' j hj;subst hs;unfold kas_ask;rw[a3,b3];refine ahb (s:={ s with heap:=h',toks:=tk }) (up k<|kp i v1 k1 a1 a2) (up k<|kp j v2 k2 b1 b2) ?_
  let:=hC _ 9
  unfold G7 at this;rw[a4,b4]at this;exact this
 .rw[M0]at hp hS;let I1:12 X σ H { s with heap:=h',toks:=tk }:=I.kept k;let fp:jU X aZ H D:=I.nL hD<|I.cf.fresh hD;let mw:p.toList.length=ks.length:=by rw[xH,hp.sz]
  let zl:∀i,i<ks.length->∃x,zs[i]?=0 x/\zs.getD i .cI=x:=λi hi=>#[zs[i]'7,cD 7,by simp[show i<zs.length by lia]];let hv:Vals (p.toList.map λi=>zs.getD i .cI) (p.toList.map λi=>its.getD i Value.none):=by
   refine Paired.of_get (by rw[bH,bH]) λi x u e1 e2=>?_;rw[dR]at e1 e2;let[m,em,rfl]:=uD.mp e1;rw[em]at e2;cases e2;let hm:m<ks.length:=by
    let:=uz.mp<|hp.pm.mem_iff.mp<|dS em
    exact this
   let[y,ey,M1]:=zl m hm;let[u,eu,ru]:=rv.get ey;let eu2:its.getD m Value.none=u:=by rw[dG,eu];rfl
   show RelV (zs.getD m .cI) (its.getD m Value.none);rw[M1,eu2];exact ru
  let I2:=I1.Dy (o:=.lst<|p.toList.map λi=>zs.getD i .cI) fp #[by rw[bH,mw];exact eh (vP uv) 16,_,e,hv,hd];refine q D _ _ (p.toList.map λi=>ks.getD i (0,"")) fp.1 I2 #[by rw[bH,bH,bH],λi x kv e1 e2=>?_] (ahe hp) ?_
  .rw[dR]at e1;rw[dR,dR]at e2;let[m,em,rfl]:=uD.mp e1;rw[em]at e2;cases e2;let hm:m<ks.length:=uz.mp<|hp.pm.mem_iff.mp<|dS em;let[y,ey,M1]:=zl m hm;rw[M1];let[t,et,ht]:=hP.2 m y (ke<|ks.getD m (0,"")) ey (by rw[dR];simp[hm]);exact#[t,et,ht]
  .rw[List.pairwise_map,List.pairwise_iff_getElem];intro i j hi hj o6
   let:=hS i j o6 7
   unfold G7 at this;let gi:p.getD i 0=p.toList[i]:=by rw[rl,vT (by rw[hp.sz];lia)];simp
   let gj:p.getD j 0=p.toList[j]:=by rw[rl,vT (by rw[hp.sz];lia)];simp
   rw[gi,gj]at this;exact this
def ahg(K:Frag)(hK:X.K=K):gG X (.builtin "sorted") (ahd K):=by
 subst hK;intro aZ s σ H vs us Q I r h;let[l,zs,ks,rfl,g,hP,nd,uv,q]:=h;let[u,rfl,ru]:=vals1 r;cases ru;let[its,rv,pl,hz]:=I.list<|.of g;let hl:11 its.length:=by rw[<- rv.length];exact hz
 refine ahf I rv hP nd uv (λQ' k=>collect_list pl.isList (k _ s.toks (λb o e=>?_) ?_) hl) λD s' rZ qX hD I' hP' pm pw=>#[3 D,_,I',9,q D rZ qX hD hP' pm pw]
 .let cX:b<22:=eE e;rw[Heap.get?_update_ne _ _ _ _ (iA cX),Heap.get?_push_ne _ _ _ (iA cX)];exact e
 .rw[Heap.size_update,size_push'];exact Nat.le_succ _
end
end L2
namespace S21
open PySem L2 Bw
theorem M3{ws:1 V}:∀{j:Nat},j<=ws.length->∀{i:Nat},i∈ju ws j->i<ws.length/\∃x,ws[i]?=0 (.str x)
 |0,_,i,h=>by cases h
 |j+1,hj,i,h=>by
  rw[E9]at h;by_cases e:w6 ws[ws.length-(j+1)]?=6
  .rw[af e]at h;rcases(eB.mp h)with(z|z)
   .exact M3 7 z
   .rw[cT.mp z];refine#[7,?_];cases e2:ws[ws.length-(j+1)]? with
    |none=>rw[e2]at e;cases e
    |some v=>
     rw[e2]at e;cases v with
     |str x=>exact#[x,9]
     |_=>cases e
  .rw[ag e]at h;exact M3 7 h
def ahh{d:Dw}{i:Nat}{x:Str}(h:d.aY[i]?=0 (.str x)):∃d' r,cP [.bp d] i=.bp d'::r:=by
 let ew:([It2.bp d]).flatMap It2.aY=d.aY:=by simp[It2.aY]
 let[t,r,e1,e2,_]:=so (ts:=[.bp d]) (i:=i) (by rw[ew];exact(eA.mp h).1);rw[ew,h]at e2;cases t with
 |num n=>cases e2
 |bp d'=>exact#[d',r,e1]
structure VC(p:Int)(d:Dw)(names:1 Str)(iz:Nat->Str->Bool):Prop where
 is:∀(i:Nat)(d':Dw)(r:1 It2)(x:Str),cP [.bp d] i=.bp d'::r->x∈names->∃cN res,kI x=0 cN/\oj p x (cP [.bp d] i) cN res/\res.isSome=iz i x
def ml(names:1 Str)(iz:Nat->Str->Bool)(i:Nat):1 KP:=(names.filter<|iz i).map λx=>((i:Int),x)
def oo(d:Dw)(names:1 Str)(iz:Nat->Str->Bool):1 KP:=(ju d.aY 23).flatMap<|ml names iz
def ahi{K:Frag}{H:Hp}{a t:Addr}{xs:1 V}{o:Obj}{ba:5 Key V}{u:HO}(g:H a=0 (.e7 o<|.dK ba))(h:bu K H t xs):bu K (upd H a u) t xs:=by
 rcases h with(h|⟨o',h⟩)|h
 .exact .inl (.inl<|by rw[cF (λz=>by rw[z,g]at h;cases h)];exact h)
 .exact .inl<|.inr #[o',by rw[cF (λz=>by rw[z,g]at h;cases h)];exact h]
 .exact .inr h
def ahj{K:Frag}{H:Hp}{zs ys:1 V}{ba Cw:5 Key V}(h:iU K H zs ba)(k:iU K H ys Cw):iU K H (zs++ys) (ba++Cw):=by
 refine#[by rw[cb,cb,h.1,k.1],λi x q e1 e2=>?_];by_cases hi:i<zs.length
 .rw[i9 hi]at e1;rw[i9 (by rw[<- h.1];exact hi)]at e2;exact h.2 i x q e1 e2
 .rw[jy 7]at e1;rw[jy (by rw[<- h.1];lia),<- h.1]at e2;exact k.2 _ x q e1 e2
def VD(a b:1 KP):(a++b).map ke=a.map ke++b.map ke:=(eC)
noncomputable abbrev nMs:1 Str:=["p","words","behind","told","at"]
def G8:dz ["p","words","behind","told","at"] ["p","words"] (cj Eb):=(dW 9 9 9 19 9)
def ahk:(["rule","at","behind","words"]:1 Str).Nodup:=by decide +kernel
def VE(K:Frag)(names:1 Str):Sp:=λvs H Q _=>∃(p:Int)(aw:Addr)(d:Dw)(iz:Nat->Str->Bool),vs=[2 p,3 aw]/\d.ok p/\p<=97/\23<=200/\bu K H aw d.aY/\VC p d names iz/\(oo d names iz).Nodup/\(oo d names iz).length<64/\
 ∀(l:Addr)(zs:1 V)(ks:1 KP)(H':Hp),H l=8->bc H H'->H' l=13 zs->iU K H' zs (ks.map ke)->ks.Perm (oo d names iz)->ks.Pairwise (λa b=>lN a b=6)->Q (3 l) H'
set_option maxRecDepth 100000 in
def ahl{aR f fE fF:Addr}{fd Ci qM:FuncData}{names:1 Str}(F:cL K "moves" "moves" Eb f fd)(RT:Gg K mg aR (gN K aR) kI)(oR:pM K aR=6)(hN:(gN K aR).map Prod.fst=names)(ahm:names.length<=100)(hS:mg "sorted"=8)
  (GE:bQ P w K mg base bX 3 fE Ci ["words"] (Me K)) (kE:Kp K fE) (bE:Binds K Ci ["words"] []) (mE:Mg mg "ends" fE)
  (GF:bQ P w K mg base bX 08 fF qM ["words","behind","at","rule"] (Gh K kI)) (kF:Kp K fF) (bF:Binds K qM ["words","behind","at","rule"] []) (mF:Mg mg "fitting" fF):bQ P w K mg base bX 09 f fd ["p","words"] (VE K names):=by
 refine 17 G8 24 ?_
 .let[p,aw,d,iz,rfl,_]:=h;rfl
 .let[p,aw,d,iz,rfl,hd,cA,j8,hw,hF,nd,uv,q]:=h;let z:11 (10000:Nat):=by decide
  let r3:eU 3 _:=hr.mono 7;refine#[_,bz (cx (i:=2) G8.nd rfl (Or.inr 9) (cY GE r3 9 mE kE bE .nil cZ<|10 1 bj))<|bz (cx (i:=3) G8.nd rfl (18) (cK bj))<|bz (agW<|kY lS 9 (agN<|pv 2) (cH (i:=04) G8.nd rfl (Or.inr 9))<|bN<|jT<|jX lR PySem.F.slot_list_extend PySem.F.type_list_extend Y8 (pv 3)<|bf (qw (N:=["rule","at","behind","words"]) (own:=1) (caps:=[04,2,1]) rfl (agS oR<|rC (v:=3 _) rfl RT.nm rfl) (show fH nMs (cj Eb) ["rule","at","behind","words"] 1 [04,2,1] _ from .mk' 19) (λ_ _ _ _ _=>cH (i:=0) ahk rfl (18)) (λ_ _ _ _ _=>AM<|cQ C8 (cY GF hr 9 mF kF bF .nil cZ<|10 3<|10 2<|10 1<|10 0 bj) lT<|cO _) (λ_ _ _ _ _=>eF<|10 1<|10 0 bj)) bj)<|bN<|cJ<|iW (ahg K 9) 9 hS ag1<|10 3 bj,?_]
  refine#[_,9,p,aw,d,9,hd,j8,hw,λbe kb H1 s1 gb hE=>?_];dsimp only[cg];refine#[16,λtl xD=>?_];let Cg:be≠tl:=λe=>by rw[<- e,gb]at xD;cases xD
  let eKl:kb.length=(ju d.aY 23).length:=by let:=aj List.length hE.keys;rwa[bH,bH]at this
  refine#[be,kb,bc.upd xD _ _ gb,_,9,be,_,9,bc.upd xD _ _ gb,λo=>?_];let nB:(upd H1 be<|.e7 o<|.dK kb) tl=8:=by rw[cF (iD Cg)];exact xD
  let VF:bu K (upd H1 be<|.e7 o<|.dK kb) aw d.aY:=(eI.Bi gb).bK<|s1.bK hw;let gB:(upd H1 be<|.e7 o<|.dK kb) be=0 (.e7 o<|.dK kb):=bq;let start:bc (upd H1 be<|.e7 o<|.dK kb) (upd (9 H1 tl []) be<|.e7 o<|.dK kb):=λb u e=>by
   by_cases hb:b=be
   .subst hb;rw[bq]at e |-;exact e
   .rw[cF hb]at e |-;exact bc.upd xD _ _ e
  let back:∀H',bc (upd H1 be<|.e7 o<|.dK kb) H'->bc H (upd H' be<|.dK kb):=λH' sm b u e=>by
   let e1:=s1 _ _ e;by_cases hb:b=be
   .subst hb;rw[bq];rw[gb]at e1;exact e1
   .rw[cF hb];exact sm _ _ (by rw[cF hb];exact e1)
  generalize upd H1 be (.e7 o<|.dK kb)=B at nB VF gB start back |-;refine agX (λi σ H'=>bc B H'/\∃s4 zs,σ=[0<|2 p,8 aw,8 be,8 tl,s4]/\H' tl=13 zs/\iU K H' zs ((((ju d.aY 23).take i).flatMap<|ml names iz).map ke)) #[start,8,[],9,by rw[cF (iD Cg)];exact bq,.nil] (λi σ H' hP=>hP.1 _ _ gB) ?_ ?_
  .rintro i kv σ H' hk ⟨sm,s4,zs,rfl,gt,hz⟩;obtain⟨n,hn,ekv⟩:∃n,(ju d.aY 23)[i]?=0 n/\kv.1=Sum.inl (n:Int):=by
    let e1:(kb.map Prod.fst)[i]?=0 kv.1:=by rw[dR,hk];rfl
    rw[hE.keys,dR]at e1;let[n,h1,h2]:=uD.mp e1;exact#[n,h1,h2.symm]
   let[wR,xw,hxw]:=M3 (ck _)<|dS hn;let[d',r,eT]:=ahh hxw;let mw:(ju d.aY 23).length<=200:=eh (Lk _ _) j8;rw[ekv];dsimp only[cg];refine#[_,9,.inl #[9,_,.of gt],9,?_];refine agT (cp:=[0<|2 (n:Int),8 be,8 aw]) (λj H2 lZ=>iU K H2 lZ<|(((names.take j).filter<|iz n).map λx=>((n:Int),x)).map ke) (by show 11 (gN K aR).length;let:=aj List.length hN;rw[bH]at this;lia) .nil (λj H2 lZ h=>by rw[h.1,bH,bH];exact eh (Hz _ _)<|sO _ _) ?_ ?_
   .rintro j qa H2 lZ ahn oK pv;let aho:(gN K aR)[j]?=0 qa:=ahn;let hx:names[j]?=0 qa.1:=by rw[<- hN,dR,aho];rfl
    let[cN,res,hR,hFt,VG]:=hF.is n d' r qa.1 eT<|dS hx;let Bx:=sm.trans oK;let fin:∀(Q':VK),Fits K H2 Q' res->Gh K kI [3 aw,3 be,2 (n:Int),.str qa.1] H2 Q' E0:=λQ' hq=>#[p,aw,be,n,qa.1,d,d',r,kb,cN,res,9,hd,cA,j8,Bx.bK VF,.inr #[o,Bx _ _ gB],hE,eT,hR,hFt,hq];refine#[_,9,_,9,_,9,_,9,fin _ ?_];let et:(names.take<|j+1).filter (iz n)=(names.take j).filter (iz n)++[qa.1].filter (iz n):=by rw[iM,hx,List.filter_append];rfl
    cases res with
    |none=>
     intro H3 s3;let ef:iz n qa.1=false:=VG.symm;refine#[9,_,9,oX 17 #[#[[_],9,9],oK.trans s3,?_]];show iU K H3 lZ _;rw[et,show([qa.1].filter<|iz n)=[] by simp[ef],iV];exact pv.mono s3
    |some eb=>
     let[env,b]:=eb;intro t td ba H3 s3 _ _ _;let ef:iz n qa.1=6:=VG.symm;refine#[9,_,9,qN 17 #[_,9,_,9,by show 11 2;lia,λt2 lJ=>#[#[[_],9,9],(oK.trans s3).trans<|.upd lJ,?_]]];show iU K _ (lZ++[3 t2]) _;rw[et,show([qa.1].filter<|iz n)=[qa.1] by simp[ef],eC,VD];exact(pv.mono<|s3.trans<|.upd lJ).snoc (kv:=ke ((n:Int),qa.1)) (.of bq)
   .rintro H2 lZ oK pv l2 rP;let eN:(gN K aR).length=names.length:=by rw[<- hN,bH]
    let M4:iU K H2 lZ ((ml names iz n).map ke):=by
     let this:iU K H2 lZ ((((names.take (gN K aR).length).filter<|iz n).map λx=>((n:Int),x)).map ke):=pv;rw[show names.take (gN K aR).length=names by rw[eN,nF]]at this;exact this
    let s3:=oK.trans (bc.upd (o:=.lst lZ) rP);let ez:zs.length<=64:=by
     rw[hz.1,bH];let h1:oo d names iz=((ju d.aY 23).take i).flatMap (ml names iz)++((ju d.aY 23).drop i).flatMap (ml names iz):=by
      rw[<- xP,List.take_append_drop];rfl
     let h2:=aj List.length h1;rw[cb]at h2;lia
    let ez2:lZ.length<=100:=by
     rw[M4.1,bH];unfold ml;rw[bH];exact eh (Hz _ _) ahm
    refine#[tl,l2,zs,lZ,9,9,s3 _ _ gt,bq,7,?_];refine#[(sm.trans s3).put nB,_,zs++lZ,9,bq,?_];rw[iM,hn,xP,VD];let t3:=eI.lst (o:=.lst<|zs++lZ) (s3 _ _ gt);refine#[?_,?_]
    .rw[cb,cb,hz.1,M4.1];simp
    .let all:=ahj (hz.mono s3) (M4.mono<|bc.upd (o:=.lst lZ) rP);intro k x kv3 e1 e2;let[t,e,g]:=all.2 k x kv3 e1 (by simpa using e2);exact#[t,e,t3.bK g]
  .rintro σ H' ⟨sm,s4,zs,rfl,gt,hz⟩;rw[eKl,nF]at hz;refine#[#[o,sm _ _ gB],?_];let KS:(upd H' be<|.dK kb) tl=13 zs:=by rw[cF (iD Cg)];exact gt
   let DC:iU K (upd H' be<|.dK kb) zs ((oo d names iz).map ke):=#[hz.1,λi x kv e1 e2=>let ⟨t,e,g⟩:=hz.2 i x kv e1 e2;#[t,e,ahi (sm _ _ gB) g]];refine#[_,9,tl,zs,oo d names iz,9,KS,DC,nd,uv,λl' rZ qX nT wx hp hs=>?_];exact q l' rZ qX _ (fj (back H' sm) nT) ((back H' sm).trans<|.upd nT) bq (wx.mono<|.upd nT) hp hs
end S21
namespace D1
open Bw
variable{p:Int}
def eq.of{a b:Int}(h:a=b):eq p a b:=(h▸eq.refl p a)
def eq.mul{a b:Int}(c:Int)(h:eq p a b):eq p (c*a) (c*b):=by
 let[k,hk]:=h;exact#[c*k,by grind]
def VH(a b:Nat)(x:Fn):sh b (sh a x)=sh (a+b) x:=(funext λj=>by show x (a+(b+j))=x (a+b+j);rw[xQ])
def VI(x:Fn):sh 0 x=x:=(funext λj=>by show x (0+j)=x j;rw[lP])
def jg(l:4):Fn:=λj=>l.getD j 0
def G9:∀{d:Dr}{x y x' y':Fn},(∀j,j<d.l->eq p (x' j) (x j))->(∀j,j<d.r->eq p (y' j) (y j))->fX p d x y->fX p d x' y':=by
 intro d;induction d with
 |id=>exact λhx hy h=>(hy 0<|xK 0).trans<|h.trans (hx 0<|xK 0).symm
 |swap=>exact λhx hy h=>#[(hy 0 16).trans<|h.1.trans (hx 1 16).symm,(hy 1 16).trans<|h.2.trans (hx 0 16).symm]
 |copy=>exact λhx hy h=>#[(hy 0 16).trans<|h.1.trans (hx 0 16).symm,(hy 1 16).trans<|h.2.trans (hx 0 16).symm]
 |fin=>exact λ_ _ h=>h
 |add=>exact λhx hy h=>(hy 0 16).trans<|h.trans<|(hx 0 16).symm.add (hx 1 16).symm
 |none=>exact λ_ hy h=>(hy 0 16).trans h
 |fZ=>exact λ_ hy h=>(hy 1 16).trans<|h.trans (hy 0 16).symm
 |empty=>exact λ_ _ h=>h
 |times n=>exact λhx hy h=>(hy 0<|xK 0).trans<|h.trans<|(hx 0<|xK 0).symm.mul n
 |back a ih=>exact λhx hy h=>ih hy hx h
 |bo a b c9 de=>exact λhx hy h=>#[c9 (λj hj=>hx j<|by show j<a.l+b.l;lia) (λj hj=>hy j<|by show j<a.r+b.r;lia) h.1,de (λj hj=>hx (a.l+j)<|by show a.l+j<a.l+b.l;lia) (λj hj=>hy (a.r+j)<|by show a.r+j<a.r+b.r;lia) h.2]
 |bg a b c9 de=>exact λhx hy ⟨z,h1,h2⟩=>#[z,c9 hx (λj _=>eq.refl p _) h1,de (λj _=>eq.refl p _) hy h2]
structure Sm(p:Int)(d e:Dr):Prop where
 l:d.l=e.l
 r:d.r=e.r
 wf:e.wf p
 lets:∀x y:Fn,fX p d x y↔fX p e x y
section
variable{p:Int}{a b c e a' b':Dr}
def Sm.refl(h:a.wf p):Sm p a a:=(#[9,9,h,λ_ _=>.rfl])
def Sm.trans(h:Sm p a b)(k:Sm p b c):Sm p a c:=(#[h.l.trans k.l,h.r.trans k.r,k.wf,λx y=>(h.lets x y).trans<|k.lets x y])
def Sm.back(h:Sm p a a'):Sm p (.back a) (.back a'):=(#[h.r,h.l,h.wf,λx y=>h.lets y x])
def Sm.ft(h:Sm p a a')(k:Sm p b b'):Sm p (.bo a b) (.bo a' b'):=(#[by show a.l+b.l=a'.l+b'.l;rw[h.l,k.l],by show a.r+b.r=a'.r+b'.r;rw[h.r,k.r],#[h.wf,k.wf],λx y=>by
 show fX p a x y/\fX p b (sh a.l x) (sh a.r y)↔fX p a' x y/\fX p b' (sh a'.l x) (sh a'.r y);rw[h.l,h.r,h.lets,k.lets]])
def Sm.bg(h:Sm p a a')(k:Sm p b b')(w:a.r=b.l):Sm p (.bg a b) (.bg a' b'):=(#[h.l,k.r,#[h.wf,k.wf,by rw[<- h.r,w,k.l]],λx y=>#[λ⟨z,h1,h2⟩=>#[z,(h.lets _ _).mp h1,(k.lets _ _).mp h2],λ⟨z,h1,h2⟩=>#[z,(h.lets _ _).mpr h1,(k.lets _ _).mpr h2]]])
def ahp(w:(Dr.back<|.back a).wf p):Sm p (.back<|.back a) a:=(#[9,9,w,λ_ _=>.rfl])
def ahq(w:(Dr.back<|.bg a b).wf p):Sm p (.back<|.bg a b) (.bg (.back b)<|.back a):=(#[9,9,#[w.2.1,w.1,w.2.2.symm],λ_ _=>#[λ⟨z,h1,h2⟩=>#[z,h2,h1],λ⟨z,h1,h2⟩=>#[z,h2,h1]]])
def ahr(w:(Dr.back<|.bo a b).wf p):Sm p (.back<|.bo a b) (.bo (.back a)<|.back b):=(#[9,9,w,λ_ _=>.rfl])
def ahs(w:(Dr.bg (.bg a b) c).wf p):Sm p (.bg (.bg a b) c) (.bg a<|.bg b c):=(#[9,9,#[w.1.1,#[w.1.2.1,w.2.1,w.2.2],w.1.2.2],λ_ _=>#[λ⟨z,⟨u,h1,h2⟩,h3⟩=>#[u,h1,z,h2,h3],λ⟨u,h1,z,h2,h3⟩=>#[z,#[u,h1,h2],h3]]])
def aht(w:(Dr.bo (.bo a b) c).wf p):Sm p (.bo (.bo a b) c) (.bo a<|.bo b c):=(#[xQ ..,xQ ..,#[w.1.1,w.1.2,w.2],λx y=>by
 show(fX p a x y/\fX p b (sh a.l x) (sh a.r y))/\fX p c (sh (a.l+b.l) x) (sh (a.r+b.r) y)↔fX p a x y/\fX p b (sh a.l x) (sh a.r y)/\fX p c (sh b.l<|sh a.l x) (sh b.r<|sh a.r y);rw[VH,VH,and_assoc]])
def CH(n:Nat)(u v:Fn):Fn:=λj=>if j<n then u j else v (j-n)
def ahu(w:(Dr.bg (.bo a b)<|.bo c e).wf p)(h:a.r=c.l):Sm p (.bg (.bo a b)<|.bo c e) (.bo (.bg a c)<|.bg b e):=by
 let[[wa,wb],[wc,we],hm]:=w;let hm:a.r+b.r=c.l+e.l:=hm;refine#[9,9,#[#[wa,wc,h],#[wb,we,7]],λx y=>#[?_,?_]]
 .rintro⟨z,⟨h1,h2⟩,h3,h4⟩;let h4:fX p e (sh c.l z) (sh c.r y):=h4;rw[<- h]at h4;exact#[#[z,h1,h3],_,h2,h4]
 .rintro⟨⟨u,h1,h2⟩,v,h3,h4⟩;let hs:sh a.r (CH a.r u v)=v:=funext λj=>by
   show(if a.r+j<a.r then _ else _)=_
   rw[ag 7,Nat.add_sub_cancel_left]
  let hu:∀j,j<a.r->eq p (CH a.r u v j) (u j):=λj hj=>.of<|af hj;refine#[CH a.r u v,#[G9 (λ_ _=>eq.refl p _) hu h1,?_],G9 (λj hj=>hu j 7) (λ_ _=>eq.refl p _) h2,?_]
  .show fX p b (sh a.l x) (sh a.r<|CH a.r u v);rw[hs];exact h3
  .show fX p e (sh c.l<|CH a.r u v) (sh c.r y);rw[<- h,hs];exact h4
def ahv(w:(Dr.bg .id a).wf p):Sm p (.bg .id a) a:=by
 let hl:1=a.l:=w.2.2;refine#[hl,9,w.2.1,λx y=>#[λ⟨z,h1,h2⟩=>G9 (λj hj=>?_) (λ_ _=>eq.refl p _) h2,λh=>#[x,eq.refl p _,h]]]
 let:j=0:=by lia
 subst this;exact eq.symm h1
def ahw(w:(Dr.bg a .id).wf p):Sm p (.bg a .id) a:=by
 let hr:a.r=1:=w.2.2;refine#[9,hr.symm,w.1,λx y=>#[λ⟨z,h1,h2⟩=>G9 (λ_ _=>eq.refl p _) (λj hj=>?_) h1,λh=>#[y,h,eq.refl p _]]]
 let:j=0:=by lia
 subst this;exact h2
def ahx(w:(Dr.bo .empty a).wf p):Sm p (.bo .empty a) a:=(#[lP _,lP _,w.2,λx y=>by
 show True/\fX p a (sh 0 x) (sh 0 y)↔_;rw[VI,VI,true_and]])
def ahy(w:(Dr.bo a .empty).wf p):Sm p (.bo a .empty) a:=(#[9,9,w.1,λ_ _=>#[λh=>h.1,λh=>#[h,True.intro]]])
end
section
variable{p n m:Int}
def ahz(p0:0<p):Sm p (.bg (.times n)<|.times m) (.times<|n*m%p):=by
 let e:∀t:Int,eq p (m*(n*t)) (n*m%p*t):=λt=>by
  refine#[n*m/p*t,?_]
  let:=Int.mul_ediv_add_emod (n*m) p
  grind
 refine#[9,9,#[rh _ 7,ri _ p0],λx y=>#[λ⟨z,h1,h2⟩=>eq.trans h2 ((h1.mul m).trans<|e _),λh=>#[jg [n*x 0],eq.refl p _,eq.trans h (e _).symm]]]
def ahA:Sm p (.times 1) .id:=(#[9,9,True.intro,λx y=>by show eq p (y 0) (1*x 0)↔eq p (y 0) (x 0);rw[sP]])
def ahB:Sm p (.times 0) (.bg .fin .none):=(#[9,9,#[True.intro,True.intro,9],λx y=>by
 show eq p (y 0) (0*x 0)↔∃z,True/\eq p (y 0) 0;rw[Int.zero_mul];exact#[λh=>#[x,True.intro,h],λ⟨_,_,h⟩=>h]])
def ahC(w:0<=n/\n<p):Sm p (.bg (.times n) .copy) (.bg .copy<|.bo (.times n)<|.times n):=(#[9,9,#[True.intro,#[w,w],9],λx _=>
 #[λ⟨_,h1,h2,h3⟩=>#[jg [x 0,x 0],#[eq.refl p _,eq.refl p _],eq.trans h2 h1,eq.trans h3 h1],λ⟨_,⟨h1,h2⟩,h3,h4⟩=>#[jg [n*x 0],eq.refl p _,eq.trans h3<|eq.mul n h1,eq.trans h4<|eq.mul n h2]]])
def ahD(w:0<=n/\n<p):Sm p (.bg .add<|.times n) (.bg (.bo (.times n)<|.times n) .add):=(#[9,9,#[#[w,w],True.intro,9],λx _=>
 #[λ⟨_,h1,h2⟩=>#[jg [n*x 0,n*x 1],#[eq.refl p _,eq.refl p _],eq.trans h2<|(eq.mul n h1).trans<|.of<|Int.mul_add ..],λ⟨_,⟨h1,h2⟩,h3⟩=>#[jg [x 0+x 1],eq.refl p _,eq.trans h3<|(eq.add h1 h2).trans<|.of (Int.mul_add ..).symm]]])
def ahE(pp:p∈cM)(w:0<=n/\n<p)(h:n≠0):Sm p (.back<|.times n) (.times<|dN p n):=by
 let[t1,t2,t3]:=yH pp (n:=n) (by let:=w.1;lia) w.2;let e:∀t:Int,eq p (dN p n*(n*t)) t:=λt=>by
  refine#[dN p n*n/p*t,?_]
  let:=Int.mul_ediv_add_emod (dN p n*n) p
  rw[t3]at this
  grind
 refine#[9,9,#[7,t2],λx y=>#[λh=>?_,λh=>?_]]
 .exact(e _).symm.trans<|eq.mul _<|eq.symm h
 .let h1:eq p (n*(dN p n*x 0)) (x 0):=(eq.of<|by grind).trans<|e<|x 0;exact h1.symm.trans<|eq.mul n<|eq.symm h
def ahF:Sm p (.back .id) .id:=(#[9,9,True.intro,λ_ _=>#[eq.symm,eq.symm]])
def ahG:Sm p (.back .swap) .swap:=(#[9,9,True.intro,λ_ _=>#[λh=>#[eq.symm h.2,eq.symm h.1],λh=>#[eq.symm h.2,eq.symm h.1]]])
def ahH:Sm p (.back .empty) .empty:=(#[9,9,True.intro,λ_ _=>.rfl])
def ahI:Sm p (.bg .swap .swap) (.bo .id .id):=(#[9,9,#[True.intro,True.intro],λx _=>#[λ⟨_,⟨h1,h2⟩,h3,h4⟩=>#[eq.trans h3 h2,eq.trans h4 h1],λ⟨h1,h2⟩=>#[jg [x 1,x 0],#[eq.refl p _,eq.refl p _],h1,h2]]])
def ahJ:Sm p (.bg .copy<|.bo .fin .id) .id:=(#[9,9,True.intro,λx _=>#[λ⟨_,⟨_,h2⟩,_,h4⟩=>eq.trans h4 h2,λh=>#[jg [x 0,x 0],#[eq.refl p _,eq.refl p _],True.intro,h]]])
def ahK:Sm p (.bg .copy .swap) .copy:=(#[9,9,True.intro,λx _=>#[λ⟨_,⟨h1,h2⟩,h3,h4⟩=>#[eq.trans h3 h2,eq.trans h4 h1],λ⟨h1,h2⟩=>#[jg [x 0,x 0],#[eq.refl p _,eq.refl p _],h1,h2]]])
def ahL:Sm p (.bg .copy<|.bo .copy .id) (.bg .copy<|.bo .id .copy):=(#[9,9,#[True.intro,#[True.intro,True.intro],9],λx _=>
 #[λ⟨_,⟨h1,h2⟩,⟨h3,h4⟩,h5⟩=>#[jg [x 0,x 0],#[eq.refl p _,eq.refl p _],eq.trans h3 h1,eq.trans h4 h1,eq.trans h5 h2],λ⟨_,⟨h1,h2⟩,h3,h4,h5⟩=>#[jg [x 0,x 0],#[eq.refl p _,eq.refl p _],#[eq.trans h3 h1,eq.trans h4 h2],eq.trans h5 h2]]])
def ahM:Sm p (.bg (.bo .none .id) .add) .id:=(#[9,9,True.intro,λx _=>#[λ⟨_,⟨h1,h2⟩,h3⟩=>eq.trans h3 ((eq.add h1 h2).trans<|.of<|lQ _),λh=>#[jg [0,x 0],#[eq.refl p _,eq.refl p _],eq.trans h<|.of (lQ _).symm]]])
def ahN:Sm p (.bg .swap .add) .add:=(#[9,9,True.intro,λx _=>#[λ⟨_,⟨h1,h2⟩,h3⟩=>eq.trans h3 ((eq.add h1 h2).trans<|.of<|Int.add_comm ..),λh=>#[jg [x 1,x 0],#[eq.refl p _,eq.refl p _],eq.trans h<|.of<|Int.add_comm ..]]])
def ahO:Sm p (.bg (.bo .add .id) .add) (.bg (.bo .id .add) .add):=(#[9,9,#[#[True.intro,True.intro],True.intro,9],λx _=>
 #[λ⟨_,⟨h1,h2⟩,h3⟩=>#[jg [x 0,x 1+x 2],#[eq.refl p _,eq.refl p _],eq.trans h3<|(eq.add h1 h2).trans<|.of<|Int.add_assoc ..],λ⟨_,⟨h1,h2⟩,h3⟩=>#[jg [x 0+x 1,x 2],#[eq.refl p _,eq.refl p _],eq.trans h3<|(eq.add h1 h2).trans<|.of (Int.add_assoc ..).symm]]])
def ahP:Sm p (.bg .add .copy) (.bg (.bo .copy .copy)<|.bg (.bo .id<|.bo .swap .id)<|.bo .add .add):=(#[9,9,#[#[True.intro,True.intro],#[#[True.intro,True.intro,True.intro],#[True.intro,True.intro],9],9],λx _=>
 #[λ⟨_,h1,h2,h3⟩=>#[jg [x 0,x 0,x 1,x 1],#[#[eq.refl p _,eq.refl p _],eq.refl p _,eq.refl p _],jg [x 0,x 1,x 0,x 1],#[eq.refl p _,#[eq.refl p _,eq.refl p _],eq.refl p _],eq.trans h2 h1,eq.trans h3 h1],λ⟨_,⟨⟨a1,a2⟩,a3,a4⟩,_,⟨b1,⟨b2,b3⟩,b4⟩,c1,c2⟩=>#[jg [x 0+x 1],eq.refl p _,eq.trans c1<|eq.add (eq.trans b1 a1)<|eq.trans b2 a3,eq.trans c2<|eq.add (eq.trans b3 a2)<|eq.trans b4 a4]]])
def ahQ:Sm p (.bg .add .fin) (.bo .fin .fin):=(#[9,9,#[True.intro,True.intro],λx _=>#[λ_=>#[True.intro,True.intro],λ_=>#[jg [x 0+x 1],eq.refl p _,True.intro]]])
def ahR:Sm p (.bg .none .copy) (.bo .none .none):=(#[9,9,#[True.intro,True.intro],λ_ _=>#[λ⟨_,h1,h2,h3⟩=>#[eq.trans h2 h1,eq.trans h3 h1],λ⟨h1,h2⟩=>#[jg [0],eq.refl p _,h1,h2]]])
def ahS:Sm p (.bg .none .fin) .empty:=(#[9,9,True.intro,λ_ _=>#[λ_=>True.intro,λ_=>#[jg [0],eq.refl p _,True.intro]]])
def ahT:Sm p (.bg (.bo .fZ .id)<|.bo .id<|.back .fZ) .id:=(#[9,9,True.intro,λx _=>#[λ⟨_,⟨h1,h2⟩,h3,h4⟩=>eq.trans h3 ((eq.symm h1).trans<|(eq.symm h4).trans h2),λh=>#[jg [x 0,x 0,x 0],#[eq.refl p _,eq.refl p _],h,eq.refl p _]]])
def ahU:Sm p (.bg .copy<|.back .copy) .id:=(#[9,9,True.intro,λx _=>#[λ⟨_,⟨h1,_⟩,h3,_⟩=>(eq.symm h3).trans h1,λh=>#[jg [x 0,x 0],#[eq.refl p _,eq.refl p _],eq.symm h,eq.symm h]]])
end
noncomputable def sub:Dr->Nat->7 Dr
 |d,0=>0 d
 | .back a,i+1=>sub a i
 | .bo a b,i+1=>if i<a.aY.length then sub a i else sub b (i-a.aY.length)
 | .bg a b,i+1=>if i<a.aY.length then sub a i else sub b (i-a.aY.length)
 |_,_+1=>none
noncomputable def kK(Y:Dr):Dr->Nat->Dr
 |_,0=>Y
 | .back a,i+1=>.back (kK Y a i)
 | .bo a b,i+1=>if i<a.aY.length then .bo (kK Y a i) b else .bo a (kK Y b<|i-a.aY.length)
 | .bg a b,i+1=>if i<a.aY.length then .bg (kK Y a i) b else .bg a (kK Y b<|i-a.aY.length)
 |d,_+1=>d
section
variable{p:Int}{e Y:Dr}
def ahV:∀{d:Dr}{i:Nat},d.wf p->sub d i=0 e->Sm p e Y->Sm p d (kK Y d i):=by
 intro d;induction d with
 |back a ih=>
  intro i w h s;cases i with
  |zero=>cases h;exact s
  |succ i=>exact(ih w h s).back
 |bo a b c9 de=>
  intro i w h s;cases i with
  |zero=>cases h;exact s
  |succ i=>
   let h:(if i<a.aY.length then sub a i else sub b (i-a.aY.length))=0 e:=h
   show Sm p _ (if i<a.aY.length then .bo (kK Y a i) b else .bo a (kK Y b<|i-a.aY.length))
   split at h
   .rename_i c
    rw[af c];exact(c9 w.1 h s).ft<|.refl w.2
   .rename_i c
    rw[ag c];exact(Sm.refl w.1).ft<|de w.2 h s
 |bg a b c9 de=>
  intro i w h s;cases i with
  |zero=>cases h;exact s
  |succ i=>
   let h:(if i<a.aY.length then sub a i else sub b (i-a.aY.length))=0 e:=h
   show Sm p _ (if i<a.aY.length then .bg (kK Y a i) b else .bg a (kK Y b<|i-a.aY.length))
   split at h
   .rename_i c
    rw[af c];exact(c9 w.1 h s).bg (.refl w.2.1) w.2.2
   .rename_i c
    rw[ag c];exact(Sm.refl w.1).bg (de w.2.1 h s) w.2.2
 |_=>
  intro i w h s;cases i with
  |zero=>cases h;exact s
  |succ i=>cases h
def VJ:∀{d:Dr}{i:Nat},sub d i=0 e->i+e.aY.length<=23:=by
 intro d;induction d with
 |back a ih=>
  intro i h;cases i with
  |zero=>cases h;exact Nat.le_of_eq<|lP _
  |succ i=>
   let:=ih (i:=i) h
   show i+1+e.aY.length<=a.aY.length+1;lia
 |bo a b c9 de=>
  intro i h;cases i with
  |zero=>cases h;exact Nat.le_of_eq<|lP _
  |succ i=>
   let h:(if i<a.aY.length then sub a i else sub b (i-a.aY.length))=0 e:=h
   show i+1+e.aY.length<=(a.aY++b.aY).length+1;rw[cb];split at h
   .let:=c9 h;lia
   .let:=de h;lia
 |bg a b c9 de=>
  intro i h;cases i with
  |zero=>cases h;exact Nat.le_of_eq<|lP _
  |succ i=>
   let h:(if i<a.aY.length then sub a i else sub b (i-a.aY.length))=0 e:=h
   show i+1+e.aY.length<=(a.aY++b.aY).length+1;rw[cb];split at h
   .let:=c9 h;lia
   .let:=de h;lia
 |_=>
  intro i h;cases i with
  |zero=>cases h;exact Nat.le_of_eq<|lP _
  |succ i=>cases h
def VL{α:Type}{a b u:1 α}{i n:Nat}(h:i+n<=a.length):(a++b).take i++u++(a++b).drop (i+n)=(a.take i++u++a.drop (i+n))++b:=by
 rw[List.take_append_of_le_length 7,List.drop_append_of_le_length h,gR,gR,gR]
def VM{α:Type}{a b u:1 α}{i n:Nat}(h:a.length<=i):(a++b).take i++u++(a++b).drop (i+n)=a++(b.take (i-a.length)++u++b.drop (i-a.length+n)):=by
 rw[List.take_append,lO h,List.drop_append,List.drop_of_length_le (by lia:a.length<=i+n),Af,show i+n-a.length=i-a.length+n by lia];simp
def ahW:∀{d:Dr}{i:Nat},sub d i=0 e->(kK Y d i).aY=d.aY.take i++Y.aY++d.aY.drop (i+e.aY.length):=by
 let zero:∀{d:Dr},0 d=0 e->Y.aY=d.aY.take 0++Y.aY++d.aY.drop (0+e.aY.length):=λh=>by
  cases h;rw[List.take_zero,Af,lP,List.drop_length,iV]
 intro d;induction d with
 |back a ih=>
  intro i h;cases i with
  |zero=>exact zero h
  |succ i=>
   show _::(kK Y a i).aY=_;rw[ih h,show i+1+e.aY.length=i+e.aY.length+1 by lia];rfl
 |bo a b c9 de=>
  intro i h;cases i with
  |zero=>exact zero h
  |succ i=>
   let h:(if i<a.aY.length then sub a i else sub b (i-a.aY.length))=0 e:=h
   show(if i<a.aY.length then Dr.bo (kK Y a i) b else .bo a (kK Y b<|i-a.aY.length)).aY=_
   rw[show i+1+e.aY.length=i+e.aY.length+1 by lia];show _=Wd.w "beside"::((a.aY++b.aY).take i++Y.aY++(a.aY++b.aY).drop (i+e.aY.length));split at h
   .rename_i c
    rw[af c,VL (VJ h),<- c9 h];rfl
   .rename_i c
    rw[ag c,VM 7,<- de h];rfl
 |bg a b c9 de=>
  intro i h;cases i with
  |zero=>exact zero h
  |succ i=>
   let h:(if i<a.aY.length then sub a i else sub b (i-a.aY.length))=0 e:=h
   show(if i<a.aY.length then Dr.bg (kK Y a i) b else .bg a (kK Y b<|i-a.aY.length)).aY=_
   rw[show i+1+e.aY.length=i+e.aY.length+1 by lia];show _=Wd.w "then"::((a.aY++b.aY).take i++Y.aY++(a.aY++b.aY).drop (i+e.aY.length));split at h
   .rename_i c
    rw[af c,VL (VJ h),<- c9 h];rfl
   .rename_i c
    rw[ag c,VM 7,<- de h];rfl
 |_=>
  intro i h;cases i with
  |zero=>exact zero h
  |succ i=>cases h
end
end D1
namespace S21
open PySem L2 Bw
variable{H:Hp}{d:D1.Dr}{i:Nat}{p:Int}{rs:1 Str}{x:Str}
def zW:5 Str (D1.Dr×D1.Dr):=[("undo",.bg .swap .swap,.bo .id .id),("copyend",.bg .copy (.bo .fin .id),.id),("copyturn",.bg .copy .swap,.copy),("copycopy",.bg .copy (.bo .copy .id),.bg .copy (.bo .id .copy)),("addnone",.bg (.bo .none .id) .add,.id),("addturn",.bg .swap .add,.add),("addadd",.bg (.bo .add .id) .add,.bg (.bo .id .add) .add),("sumcopy",.bg .add .copy,.bg (.bo .copy .copy) (.bg (.bo .id<|.bo .swap .id)<|.bo .add .add)),("sumend",.bg .add .fin,.bo .fin .fin),("nonecopy",.bg .none .copy,.bo .none .none),("noneend",.bg .none .fin,.empty),("bend",.bg (.bo .fZ .id) (.bo .id<|.back .fZ),.id),("meet",.bg .copy (.back .copy),.id),("one",.times 1,.id),("nought",.times 0,.bg .fin .none)]
inductive RM(p:Int):Str->D1.Dr->6 D1.Dr where
 |cl {q:Str×D1.Dr×D1.Dr} (h:q∈zW):RM p q.1 q.2.1 q.2.2
 |twice {a:D1.Dr}:RM p "twice" (.back<|.back a) a
 |VN {a b:D1.Dr}:RM p "turnthen" (.back<|.bg a b) (.bg (.back b)<|.back a)
 |VO {a b:D1.Dr}:RM p "turnbeside" (.back<|.bo a b) (.bo (.back a)<|.back b)
 |thread {a b c:D1.Dr}:RM p "thread" (.bg (.bg a b) c) (.bg a<|.bg b c)
 |stack {a b c:D1.Dr}:RM p "stack" (.bo (.bo a b) c) (.bo a<|.bo b c)
 |xp {a b c e:D1.Dr} (h:a.r=c.l):RM p "cross" (.bg (.bo a b)<|.bo c e) (.bo (.bg a c)<|.bg b e)
 |M5 {a:D1.Dr}:RM p "lone" (.bg .id a) a
 |VP {a:D1.Dr} (h:a≠.id):RM p "lone" (.bg a .id) a
 |M6 {a:D1.Dr}:RM p "bare" (.bo .empty a) a
 |M7 {a:D1.Dr} (h:a≠.empty):RM p "bare" (.bo a .empty) a
 |scale {n m:Int}:RM p "scale" (.bg (.times n)<|.times m) (.times<|n*m%p)
 |VQ {n:Int}:RM p "scalecopy" (.bg (.times n) .copy) (.bg .copy<|.bo (.times n)<|.times n)
 |VR {n:Int}:RM p "scaleadd" (.bg .add<|.times n) (.bg (.bo (.times n)<|.times n) .add)
 |VT {n:Int} (h:n≠0):RM p "turnscale" (.back<|.times n) (.times<|dN p n)
 |VU:RM p "turnid" (.back .id) .id
 |VW:RM p "turnid" (.back .swap) .swap
 |VX:RM p "turnid" (.back .empty) .empty
open D1 in
def ahX{q:Str×D1.Dr×D1.Dr}(h:q∈zW):Sm p q.2.1 q.2.2:=by
 unfold zW at h;simp only[eK,Ag,or_false]at h;rcases h with rfl|rfl|rfl|rfl|rfl|rfl|rfl|rfl|rfl|rfl|rfl|rfl|rfl|rfl|rfl
 .exact ahI
 .exact ahJ
 .exact ahK
 .exact ahL
 .exact ahM
 .exact ahN
 .exact ahO
 .exact ahP
 .exact ahQ
 .exact ahR
 .exact ahS
 .exact ahT
 .exact ahU
 .exact ahA
 .exact ahB
noncomputable def noT:D1.Dr->Bool
 | .times _=>false
 | .back d=>noT d
 | .bo a b=>noT a&&noT b
 | .bg a b=>noT a&&noT b
 |_=>true
theorem zX{p:Int}:∀{Y:D1.Dr},noT Y=6->(gQ Y).nu p []=0 (cw Y).aY
 | .times _,h=>nomatch h
 | .back a,h=>by show((gQ a).nu p []).map _=_;rw[zX (Y:=a) h];rfl
 | .bo a b,h=>by
  let h:=Bool.and_eq_true_iff.mp h;show((gQ a).nu p []).bind _=_;rw[zX h.1];show((gQ b).nu p []).map _=_;rw[zX h.2];rfl
 | .bg a b,h=>by
  let h:=Bool.and_eq_true_iff.mp h;show((gQ a).nu p []).bind _=_;rw[zX h.1];show((gQ b).nu p []).map _=_;rw[zX h.2];rfl
 | .id,_ | .swap,_ | .copy,_ | .fin,_ | .add,_ | .none,_ | .fZ,_ | .empty,_=>by rfl
noncomputable def nl:D1.Dr->D1.Dr->Str
 | .bg _ _,_ => "thread"
 | .bo a _,.bo c _=>if a.r=c.l then"cross" else"bend"
 | .bo .none _,_ => "addnone"
 | .bo _ _,_ => "addadd"
 | .times _,.times _ => "scale"
 | .times _,_ => "scalecopy"
 | .add,.times _ => "scaleadd"
 | .add,.copy => "sumcopy"
 | .add,_ => "sumend"
 | .swap,.swap => "undo"
 | .swap,_ => "addturn"
 | .copy,.swap => "copyturn"
 | .copy,.bo .fin _ => "copyend"
 | .copy,.bo _ _ => "copycopy"
 | .copy,_ => "meet"
 | .none,.copy => "nonecopy"
 |_,_ => "noneend"
noncomputable def bk:D1.Dr->Str
 | .back _ => "twice"
 | .bg _ _ => "turnthen"
 | .bo _ _ => "turnbeside"
 | .times _ => "turnscale"
 |_ => "turnid"
noncomputable def o7:D1.Dr->1 Str
 | .bg a b=>["lone",nl a b]
 | .bo (.bo _ _) _=>["bare","stack"]
 | .bo _ _=>["bare"]
 | .back a=>[bk a]
 | .times n=>[if n=1 then"one" else"nought"]
 |_=>[]
def VY(q:Str×D1.Dr×D1.Dr):Bool:=match kI q.1 with
 |some [(a,b)]=>su a b (gQ q.2.1) (gQ q.2.2)&&(decide (q.1 ≠ "cross")&&(decide (q.1 ≠ "turnscale")&&(noT q.2.2&&((o7 q.2.1).contains q.1&&decide (q.2.2.aY.length<=q.2.1.aY.length+10)))))
 |_=>false
def ahY:zW.all VY=6:=by decide +kernel
def Ha{q:Str×D1.Dr×D1.Dr}(h:q∈zW):∃a b,kI q.1=0 [(a,b)]/\su a b (gQ q.2.1) (gQ q.2.2)=6/\q.1 ≠ "cross"/\q.1 ≠ "turnscale"/\noT q.2.2=6/\q.1∈o7 q.2.1/\q.2.2.aY.length<=q.2.1.aY.length+10:=by
 let z:=gF.mp ahY q h;unfold VY at z;split at z
 .rename_i a b e
  simp only[dM,aK,kQ]at z;exact#[a,b,e,z]
 .cases z
section
variable{p:Int}{x:Str}{d Y:D1.Dr}
def RM.sm(pp:p∈cM)(h:RM p x d Y)(w:d.wf p):D1.Sm p d Y:=by
 let p0:0<p:=by let:=(gK p pp).1;lia
 cases h with
 |cl h=>exact ahX h
 |twice=>exact D1.ahp w
 |VN=>exact D1.ahq w
 |VO=>exact D1.ahr w
 |thread=>exact D1.ahs w
 |stack=>exact D1.aht w
 |xp h=>exact D1.ahu w h
 |M5=>exact D1.ahv w
 |VP=>exact D1.ahw w
 |M6=>exact D1.ahx w
 |M7=>exact D1.ahy w
 |scale=>exact D1.ahz p0
 |VQ=>exact D1.ahC w.1
 |VR=>exact D1.ahD w.2.1
 |VT h=>exact D1.ahE pp w h
 |VU=>exact D1.ahF
 |VW=>exact D1.ahG
 |VX=>exact D1.ahH
def RM.len(h:RM p x d Y):Y.aY.length<=23+10:=by
 cases h with
 |cl h=>let[_,_,_,_,_,_,_,_,z]:=Ha h;exact z
 |_=>simp[D1.Dr.aY]<;>lia
def RM.o7(h:RM p x d Y):x∈o7 d:=by
 cases h with
 |cl h=>let[_,_,_,_,_,_,_,z,_]:=Ha h;exact z
 |xp h=>exact gq _ (by show _∈[if _=_ then 4 "cross" else 4 "bend"];rw[af h];exact du)
 |M7=>cases Y<;>exact du
 |_=>first|exact du|exact gq _ du
def ahZ{a:D1.Dr}(h:a≠.id):mf (It2.bp<|cw a).head≠4 "id":=by
 cases a<;>first|exact absurd 9 h|(show 4 _≠_;decide +kernel)
def ah0{a:D1.Dr}(h:a≠.empty):mf (It2.bp<|cw a).head≠4 "empty":=by
 cases a<;>first|exact absurd 9 h|(show 4 _≠_;decide +kernel)
def RM.mv(h:RM p x d Y)(w:d.wf p)(hl:23<=200):Mv p x (cw d) (cw Y):=by
 cases h with
 |cl h=>
  let[a,b,hR,hc,h1,h2,h3,_]:=Ha h;exact om _ _ hR hc (uq _ []) (zX h3) .nil<|.any h1 h2
 |_=>
  simp only[D1.Dr.aY,eX,cb]at hl;first
  |exact afD (fe w) (by rw[fu];lia)
  |exact afE (fe w.1) (by rw[fu];lia) (fe w.2.1) (by rw[fu];lia)
  |exact afF (fe w.1) (by rw[fu];lia) (fe w.2) (by rw[fu];lia)
  |exact afG (fe w.1.1) (by rw[fu];lia) (fe w.1.2.1) (by rw[fu];lia) (fe w.2.1) (by rw[fu];lia)
  |exact afH (fe w.1.1) (by rw[fu];lia) (fe w.1.2) (by rw[fu];lia) (fe w.2) (by rw[fu];lia)
  |exact afI (fe w.1.1) (by rw[fu];lia) (fe w.1.2) (by rw[fu];lia) (fe w.2.1.1) (by rw[fu];lia) (fe w.2.1.2) (by rw[fu];lia) (by show(cw _).cE.2=(cw _).cE.1;rw[oZ,oZ];assumption)
  |exact afJ (fe w.2.1) (by rw[fu];lia)
  |exact afK (fe w.1) (by rw[fu];lia) (ahZ<|by assumption)
  |exact afL (fe w.2) (by rw[fu];lia)
  |exact afM (fe w.1) (by rw[fu];lia) (ah0<|by assumption)
  |exact afN w.1.1 w.1.2 w.2.1.1 w.2.1.2
  |exact afO w.1.1 w.1.2
  |exact afP w.2.1.1 w.2.1.2
  |exact afQ w.1 w.2 (by assumption)
  |exact afR
  |exact afS
  |exact afT
def VZ:1 Str:=(["twice","turnthen","turnbeside","thread","stack","cross","lone","bare","scale","scalecopy","scaleadd","turnscale","turnid"]:1 String).map Str.ofString
def oq:1 Str:=Gj.map Prod.fst
def Oc:oq.all (λx=>VZ.contains x||(zW.find? λq=>decide<|q.1=x).isSome)=6:=by decide +kernel
def RM.nf(cA:p<=97)(hd:d.wf p)(hl:23<=200)(hx:x∈oq)(hn:∀Y,¬RM p x d Y):NF p x d:=by
 let k:∀{d' Y:D1.Dr},d=d'->RM p x d' Y->False:=λe h=>by subst e;exact hn _ h
 let z:=gF.mp Oc x hx;rcases(Bool.or_eq_true _ _).mp z with z|z
 .let h:=kQ.mp z;unfold VZ at h;simp only[ib,List.map_nil,eK,Ag,or_false]at h;rcases h with rfl|rfl|rfl|rfl|rfl|rfl|rfl|rfl|rfl|rfl|rfl|rfl|rfl
  .exact agw cA hd λa e=>k e .twice
  .exact agx cA hd λa b e=>k e .VN
  .exact agy cA hd λa b e=>k e .VO
  .exact agz cA hd λa b c e=>k e .thread
  .exact agA cA hd λa b c e=>k e .stack
  .exact agI cA hd hl λa b c f e z=>k e<|.xp z
  .refine agE cA hd (λa e=>k e .M5) λa e=>?_;by_cases c:a=.id
   .subst c;exact k e .M5
   .exact k e<|.VP c
  .refine agF cA hd (λa e=>k e .M6) λa e=>?_;by_cases c:a=.empty
   .subst c;exact k e .M6
   .exact k e<|.M7 c
  .exact agB cA hd λn m e=>k e .scale
  .exact agC cA hd λn e=>k e .VQ
  .exact agD cA hd λn e=>k e .VR
  .exact agH cA hd λn e=>Classical.byContradiction λz=>k e<|.VT z
  .exact agG cA hd (λe=>k e .VU) (λe=>k e .VW) λe=>k e .VX
 .let[q,hq]:=Hu.mp z;let ex:q.1=x:=aM (List.find?_some (p:=λq:Str×D1.Dr×D1.Dr=>decide (q.1=x)) hq);let hm:=List.mem_of_find?_eq_some hq;let[a,b,hR,hc,_]:=Ha hm;simp only[su,dM,aK]at hc;subst ex;exact nfC hR (by simp only[G5,dM,aK];exact#[hc.1,hc.2.1,hc.2.2.1]) cA hd λe=>k e<|.cl hm
end
abbrev ID:=D1.Dr ⊕ Int
noncomputable def sJ:ID->It2
 | .inl e=>.bp (cw e)
 | .inr n=>.num n
noncomputable def kd:ID->1 ID
 | .inl (.times n)=>[.inr n]
 | .inl (.back a)=>[.inl a]
 | .inl (.bo a b)=>[.inl a,.inl b]
 | .inl (.bg a b)=>[.inl a,.inl b]
 |_=>[]
def ah1(t:ID):(sJ t).kids=(kd t).map sJ:=by
 rcases t with e|n
 .cases e<;>rfl
 .rfl
noncomputable def jQ:1 ID->Nat->1 ID
 |ts,0=>ts
 | [],_+1=>[]
 |t::ts,i+1=>jQ (kd t++ts) i
theorem Hc:∀(i:Nat)(ts:1 ID),cP (ts.map sJ) i=(jQ ts i).map sJ
 |0,_=>rfl
 |i+1,[]=>rfl
 |i+1,t::ts=>by
  show cP ((sJ t).kids++ts.map sJ) i=(jQ (kd t++ts) i).map sJ;rw[ah1,<- eC];exact Hc i _
def Hd(p:Int):6 ID
 | .inl e=>e.wf p
 | .inr _=>True
def ah2{t:ID}(h:Hd p t):∀u∈kd t,Hd p u:=by
 rcases t with e|n
 .cases e with
  |times n=>intro u hu;rw[cT.mp hu];exact trivial
  |back a=>intro u hu;rw[cT.mp hu];exact h
  |bo a b=>
   intro u hu;rcases(eK.mp hu)with(e|e)
   .rw[e];exact h.1
   .rw[cT.mp e];exact h.2
  |bg a b=>
   intro u hu;rcases(eK.mp hu)with(e|e)
   .rw[e];exact h.1
   .rw[cT.mp e];exact h.2.1
  |_=>intro u hu;cases hu
 .intro u hu;cases hu
theorem M8{p:Int}:∀(i:Nat){ts:1 ID},(∀t∈ts,Hd p t)->∀t∈jQ ts i,Hd p t
 |0,_,h=>h
 |i+1,[],_=>λt ht=>by cases ht
 |i+1,t::ts,h=>M8 i λu hu=>(eB.mp hu).elim (ah2 (h t du) u) λz=>h u (gq _ z)
noncomputable def xE:ID->Nat
 | .inl e=>(cw e).aY.length
 | .inr _=>1
noncomputable def mc:D1.Dr->Nat
 | .times n=>(o7<|.times n).length
 | .back a=>1+mc a
 | .bo a b=>(o7<|.bo a b).length+(mc a+mc b)
 | .bg a b=>2+(mc a+mc b)
 |_=>0
noncomputable def uw:ID->Nat
 | .inl e=>mc e
 | .inr _=>0
noncomputable def cn:1 ID->Nat
 | .inl e::_=>(o7 e).length
 |_=>0
def V0(t:ID):xE t=1+((kd t).map xE).sum:=by
 rcases t with e|n
 .cases e with
  |back a=>show(cw a).aY.length+1=_;simp[kd,xE];lia
  |bo a b=>show((cw a).aY++(cw b).aY).length+1=_;simp[kd,xE];lia
  |bg a b=>show((cw a).aY++(cw b).aY).length+1=_;simp[kd,xE];lia
  |_=>rfl
 .rfl
def ah3(t:ID)(ts:1 ID):uw t=cn (t::ts)+((kd t).map uw).sum:=by
 rcases t with e|n
 .cases e with
  |back a=>simp[kd,uw,mc,cn,o7]
  |bo a b=>simp[kd,uw,mc,cn]
  |bg a b=>simp[kd,uw,mc,cn,o7]
  |times n=>simp[kd,uw,mc,cn]
  |_=>rfl
 .rfl
theorem V1:∀(n:Nat)(ts:1 ID),(ts.map xE).sum=n->((List.range n).map λi=>cn<|jQ ts i).sum=(ts.map uw).sum
 |0,[],_=>rfl
 |0,t::ts,h=>by
  let:=V0 t
  rw[ib,List.sum_cons]at h;lia
 |n+1,[],h=>by cases h
 |n+1,t::ts,h=>by
  let e1:=V0 t;rw[ib,List.sum_cons]at h;let ih:=V1 n (kd t++ts) (by rw[eC,List.sum_append];lia);rw[eC,List.sum_append]at ih;rw[List.range_succ_eq_map,ib,List.sum_cons,List.map_map,ib,List.sum_cons];show cn (t::ts)+((List.range n).map λi=>cn<|jQ (kd t++ts) i).sum=_;rw[ih,ah3 t ts];lia
def ah4(a b:D1.Dr):(o7<|.bo a b).length<=2:=by cases a<;>simp[o7]
theorem zY:∀e:D1.Dr,mc e+1<=(cw e).aY.length
 | .id | .swap | .copy | .fin | .add | .none | .fZ | .empty=>ck 1
 | .times _=>ck 2
 | .back a=>by
  let:=zY a
  show 1+mc a+1<=(cw a).aY.length+1;lia
 | .bo a b=>by
  let:=zY a
  let:=zY b
  let:=ah4 a b
  show(o7<|.bo a b).length+(mc a+mc b)+1<=((cw a).aY++(cw b).aY).length+1;rw[cb];lia
 | .bg a b=>by
  let:=zY a
  let:=zY b
  show 2+(mc a+mc b)+1<=((cw a).aY++(cw b).aY).length+1;rw[cb];lia
def He(p:Int)(d:D1.Dr)(i:Nat)(x:Str):Prop:=∃e ts Y,jQ [.inl d] i=.inl e::ts/\RM p x e Y
def ot(p:Int)(d:D1.Dr)(i:Nat)(x:Str):Bool:=@decide (He p d i x)<|Classical.propDecidable _
def ah5(h:He p d i x):ot p d i x=6:=(@aH _ (Classical.propDecidable _) h)
def M9(h:ot p d i x=6):He p d i x:=(@aM _ (Classical.propDecidable _) h)
def V2(h:¬He p d i x):ot p d i x=false:=(@ae _ (Classical.propDecidable _) h)
def ah6(nd:rs.Nodup)(f:Nat->Str->Bool)(i:Nat):(ml rs f i).Nodup:=by
 unfold ml;refine List.Pairwise.map _ (λa b h z=>h ?_)<|List.Pairwise.filter _ nd;exact(Prod.mk.inj z).2
def ah7(nd:rs.Nodup)(f:Nat->Str->Bool)(n:Nat):((List.range n).flatMap<|ml rs f).Nodup:=by
 refine List.pairwise_flatMap.mpr #[λi _=>ah6 nd f i,?_];refine List.Pairwise.imp (λ{i j}(c8:i≠j) x hx y hy z=>?_) List.nodup_range;unfold ml at hx hy;let[a,_,rfl]:=dF.mp hx;let[b,_,rfl]:=dF.mp hy
 let:=(Prod.mk.inj z).1
 exact c8 7
theorem V3{α:Type} [DecidableEq α]:∀{xs ys:1 α},xs.Nodup->(∀x∈xs,x∈ys)->21<=ys.length
 | [],_,_,_=>iL _
 |x::xs,ys,nd,h=>by
  let hx:=h x du;rw[Ab]at nd
  let:=V3 (xs:=xs) (ys:=ys.erase x) nd.2 λy hy=>(List.mem_erase_of_ne λ(z:y=x)=>nd.1 (by rw[<- z];exact hy)).mpr (h y<|gq _ hy)
  rw[List.length_erase_of_mem hx]at this
  let:=List.length_pos_of_mem hx
  rw[eX];lia
def ah8(nd:rs.Nodup)(i:Nat):(ml rs (ot p d) i).length<=cn (jQ [.inl d] i):=by
 unfold ml;rw[bH];let ff:(∀e ts,jQ [.inl d] i≠.inl e::ts)->(rs.filter<|ot p d i).length<=cn (jQ [.inl d] i):=λh=>by
  rw[List.filter_eq_nil_iff.mpr λx _ z=>by let[e,ts,_,z,_]:=M9 z;exact h e ts z];exact iL _
 cases hs:jQ [.inl d] i with
 |nil=>rw[<- hs];exact ff λe ts z=>by rw[hs]at z;cases z
 |cons t ts=>
  rcases t with e|n
  .refine V3 (List.Pairwise.filter _ nd) λx hx=>?_;let[e',_,Y,h,hY]:=M9 (qd.mp hx).2;rw[hs]at h;cases(nG h).1;exact hY.o7
  .rw[<- hs];exact ff λe ts z=>by rw[hs]at z;cases(nG z).1
def Na(d:Dw):[It2.bp d].flatMap It2.aY=d.aY:=by simp[It2.aY]
def Nb{e:D1.Dr}{r:1 It2}(h:cP [.bp<|cw d] i=.bp (cw e)::r):i+e.aY.length<=23:=by
 let:=F0 h
 rwa[Na,show It2.aY (.bp<|cw e)=(cw e).aY from 9,fu,fu]at this
def ah9(h:¬w6 (cw d).aY[i]?=6):ot p d i x=false:=(V2 λ⟨e,ts,_,hs,_⟩=>by
 let z:cP [.bp<|cw d] i=(jQ [.inl d] i).map sJ:=Hc i [.inl d];rw[hs]at z
 let:=Nb z
 let:=It2.pos<|.bp<|cw e
 rw[show It2.aY (.bp<|cw e)=(cw e).aY from 9,fu]at this
 let[t,r,h1,h2,_]:=so (ts:=[.bp<|cw d]) (i:=i) (by rw[Na,fu];lia);rw[Na]at h2;rw[z]at h1;cases(nG h1).1;exact h (by rw[h2];cases e<;>rfl))
theorem V4{α:Type}{ws:1 V}{M:Nat->1 α}(hM:∀i,¬w6 ws[i]?=6->M i=[]):∀j,(ju ws j).flatMap M=((List.range j).map λi=>ws.length-(i+1)).flatMap M
 |0=>rfl
 |j+1=>by
  rw[E9,List.range_succ,eC,xP,<- V4 hM j];split
  .rw[xP];rfl
  .rename_i h
   show _=_++(M _++[]);rw[hM _ h,iV,iV]
def aia(n:Nat):((List.range n).map λi=>n-(i+1))=(List.range n).reverse:=by
 refine List.ext_getElem 17 λi h1 h2=>?_;simp;lia
def V5:oq.Nodup:=by decide +kernel
def V6(p:Int)(d:D1.Dr):(oo (cw d) oq<|ot p d).Perm ((List.range (cw d).aY.length).flatMap<|ml oq<|ot p d):=by
 unfold oo;rw[V4 (λi hi=>by unfold ml;rw[List.filter_eq_nil_iff.mpr λx _=>by rw[ah9 hi];decide];rfl),aia];exact(List.reverse_perm _).flatMap_right _
def aib(p:Int)(d:D1.Dr):(oo (cw d) oq<|ot p d).Nodup:=((V6 p d).nodup_iff.mpr<|ah7 V5 _ _)
def aic:(oo (cw d) oq<|ot p d).length+1<=23:=by
 let h:=V1 (cw d).aY.length [.inl d] (by simp[xE]);let e:([Sum.inl d].map uw).sum=mc d:=by simp[uw]
 let m:=zY d;rw[fu]at m;rw[(V6 p d).length_eq,List.length_flatMap];refine eh (Nat.succ_le_succ ?_) m;rw[<- e,<- h];generalize List.range (cw d).aY.length=l;induction l with
 |nil=>exact ck _
 |cons i l ih=>
  rw[ib,ib,List.sum_cons,List.sum_cons];exact Nat.add_le_add (ah8 V5 i) ih
def aid(cA:p<=97)(hd:d.wf p)(hl:23<=200):VC p (cw d) oq (ot p d):=by
 refine#[λi d' r x h hx=>?_];let z:cP [.bp<|cw d] i=(jQ [.inl d] i).map sJ:=Hc i [.inl d];rw[h]at z;cases hs:jQ [.inl d] i with
 |nil=>rw[hs]at z;cases z
 |cons t ts=>
  rw[hs]at z;rcases t with e|n
  .obtain rfl:d'=cw e:=It2.bp.inj (nG z).1;let we:e.wf p:=M8 (p:=p) i (ts:=[.inl d]) (λt ht=>by rw[cT.mp ht];exact hd) (.inl e) (by rw[hs];exact du);let el:e.aY.length<=200:=by let:=Nb h;lia
   by_cases c:∃Y,RM p x e Y
   .let[Y,hY]:=c;let[cN,env,b,h1,h2,_]:=hY.mv we el r;exact#[cN,_,h1,by rw[h];exact h2,by rw[ah5 #[e,ts,Y,hs,hY]];rfl]
   .let[cN,h1,h2]:=RM.nf cA we el hx (λY hY=>c #[Y,hY]) r;refine#[cN,8,h1,by rw[h];exact h2,(V2 λ⟨e',_,Y,h',hY⟩=>c #[Y,?_]).symm];rw[hs]at h';cases(nG h').1;exact hY
  .cases(nG z).1
def V7:∀(a:D1.Dr)(ts:1 ID)(j:Nat),jQ (.inl a::ts) (a.aY.length+j)=jQ ts j:=by
 intro a;induction a with
 |times n=>intro ts j;rw[show(D1.Dr.times n).aY.length+j=j+1+1 by show 2+j=_;lia];rfl
 |back a ih=>
  intro ts j;rw[show(D1.Dr.back a).aY.length+j=a.aY.length+j+1 by show a.aY.length+1+j=_;lia];exact ih ts j
 |bo a b c9 de=>
  intro ts j;rw[show(D1.Dr.bo a b).aY.length+j=a.aY.length+(b.aY.length+j)+1 by show(a.aY++b.aY).length+1+j=_;rw[cb];lia];exact(c9 (.inl b::ts) _).trans<|de ts j
 |bg a b c9 de=>
  intro ts j;rw[show(D1.Dr.bg a b).aY.length+j=a.aY.length+(b.aY.length+j)+1 by show(a.aY++b.aY).length+1+j=_;rw[cb];lia];exact(c9 (.inl b::ts) _).trans<|de ts j
 |_=>intro ts j;rw[Nat.add_comm];rfl
def aie{e:D1.Dr}:∀(d:D1.Dr)(ts r:1 ID)(i:Nat),i<23->jQ (.inl d::ts) i=.inl e::r->D1.sub d i=0 e:=by
 intro d;induction d with
 |times n=>
  intro ts r i hi h
  match i,hi,h with
  |0,_,h=>cases(nG h).1;rfl
  |1,_,h=>cases(nG h).1
 |back a ih=>
  intro ts r i hi h;cases i with
  |zero=>cases(nG h).1;rfl
  |succ i=>exact ih ts r i (Nat.lt_of_succ_lt_succ hi) h
 |bo a b c9 de=>
  intro ts r i hi h;cases i with
  |zero=>cases(nG h).1;rfl
  |succ i=>
   let hi:i+1<(a.aY++b.aY).length+1:=hi;rw[cb]at hi;let h:jQ (.inl a::.inl b::ts) i=.inl e::r:=h;show(if i<a.aY.length then D1.sub a i else D1.sub b (i-a.aY.length))=0 e
   split
   .rename_i c;exact c9 _ r i c h
   .rename_i c
    rw[show i=a.aY.length+(i-a.aY.length) by lia,V7]at h;exact de ts r _ 7 h
 |bg a b c9 de=>
  intro ts r i hi h;cases i with
  |zero=>cases(nG h).1;rfl
  |succ i=>
   let hi:i+1<(a.aY++b.aY).length+1:=hi;rw[cb]at hi;let h:jQ (.inl a::.inl b::ts) i=.inl e::r:=h;show(if i<a.aY.length then D1.sub a i else D1.sub b (i-a.aY.length))=0 e
   split
   .rename_i c;exact c9 _ r i c h
   .rename_i c
    rw[show i=a.aY.length+(i-a.aY.length) by lia,V7]at h;exact de ts r _ 7 h
 |_=>
  intro ts r i hi h;cases i with
  |zero=>cases(nG h).1;rfl
  |succ i=>exact absurd (Nat.lt_of_succ_lt_succ hi)<|Nat.not_lt_zero _
def aif{k:KP}(pp:p∈cM)(hd:d.wf p)(hl:23<=200)(h:k∈oo (cw d) oq (ot p d)):∃(i:Nat)(x:Str)(e Y g:D1.Dr)(r:1 It2),k=((i:Int),x)/\cP [.bp<|cw d] i=.bp (cw e)::r/\Mv p x (cw e) (cw Y)/\Y.aY.length<=23+10/\
  D1.Sm p d g/\g.aY.length<=23+10/\(cw g).aY=(cw d).aY.take i++(cw Y).aY++(cw d).aY.drop (i+(cw e).aY.length):=by
 unfold oo at h;let[i,_,h]:=List.mem_flatMap.mp h;unfold ml at h;let[x,hx,rfl]:=dF.mp h;let[e,ts,Y,hs,hY]:=M9 (qd.mp hx).2;let z:cP [.bp<|cw d] i=(jQ [.inl d] i).map sJ:=Hc i [.inl d];rw[hs]at z;let we:e.wf p:=M8 (p:=p) i (ts:=[.inl d]) (λt ht=>by rw[cT.mp ht];exact hd) (.inl e) (by rw[hs];exact du);let hf:=Nb z;let h1:=It2.pos<|.bp<|cw e;let hw:It2.aY (.bp<|cw e)=(cw e).aY:=9;rw[hw,fu]at h1;let hS:=aie d [] ts i 7 hs;let cW:=hY.len;let eg:(D1.kK Y d i).aY=d.aY.take i++Y.aY++d.aY.drop (i+e.aY.length):=D1.ahW hS;refine#[i,x,e,Y,D1.kK Y d i,_,9,z,hY.mv we 7,7,D1.ahV hd hS<|hY.sm pp we,?_,?_]
 .rw[eg,cb,cb,cV,dU];lia
 .rw[nv,eg,nv,nv,fu,eC,eC,List.map_take,List.map_drop]
def aih:V->1 V->Hp->6 VK:=λx xs H Q=>∃z sep,x=.str z/\xs=[.str sep]/\(sep.length==0)=false/\11 (z.length+2)/\11 (Txt.split z sep).length/\∀l,H l=8->Q (3 l) (9 H l<|(Txt.split z sep).map V.str)
def aii:1 V->Hp->6 VK:=λxs H Q=>(∃i,xs=[2 i]/\Q (2 i) H)\/∃k,xs=[.bl k]/\Q (2<|if k then 1 else 0) H
def Nc(K:Frag):TE:=qu (Au K<|yh K "str" aih (bt 07)<|bw (tS " ") cB) 1 [2] (cg 0) lV<|bY (nO K) (dt<|bw (bt 1)<|bw (bt 0) cB)<|qr aii<|bw (bY Oe (bt 0)<|tS "k") cB
def V8(K:Frag)(E:XK):TS:=cR (dI (kg (MM K) [] E<|bw (bY G0 (bt 1)<|tC<|2 132) cB)<|x4 K 3<|iF (cg 07)<|iF (cg 05)<|iF (cg 06) rG)<|dI (Nc K)<|cg 04
def Nd:TS:=cR (gU (kZ<|bY rJ (bY Cu (bY G0 (bt 1)<|tC<|2 11)<|tC<|2 04)<|tC<|2 1) (iE<|dt<|bw (bY fh (dt<|bw (tS "back") cB)<|bt 04)<|bw (bt 06)<|bw (bt 05) cB) jS)<|iE<|dt<|bw (bt 04)<|bw (bt 05)<|bw (bt 06) cB
def Hf(K:Frag)(E:XK):TS:=cR (dI (bY (nO K) (bt 3)<|bY Cu (bt 1)<|tC<|2 11)<|yG K 3<|iF (cg 04)<|iF (cg 05)<|iF (cg 06) rG)<|cR (gU (kZ<|bY rJ (bY Cu (bY G0 (bt 1)<|tC<|2 44)<|tC<|2 3)<|tC<|2 1) (V8 K E) jS) Nd
def V9{D:Ends}{c k:Int}{s3 s7:7 V}{b:Addr}{l r:Int}(gb:WL H b d)(hl:(d.l:Int)=l)(hr:(d.r:Int)=r)(w1:d.wf p)(w2:d.eO 64)(w3:23<=08)(w4:d.l+d.r<=04)(q:∀a d H',bc H H'->WT H' a d->d.wf p->d.eO 64->23<=09->d.l+d.r<=04->D.rt (3 a) H') :
  Nd D [0<|2 p,0<|2 c,0<|2 k,s3,8 b,0<|2 l,0<|2 r,s7] H:=by
 let z:11 (100:Nat):=by decide
 subst hl hr;refine#[_,9,c,11,9,9,#[16,16],c/11,04,9,9,(by decide:(0:Int)<04),9,_,9,?_];dsimp only;split
 .refine#[by show 11 1;lia,λt ht=>#[_,9,t,b,_,_,9,9,bq,bc.upd ht _ _ gb,by rw[bH];show 11 (1+_);lia,λe he=>#[_,9,_,9,by show 11 3;lia,λx hx=>?_]]];refine q x (.back d) _ ((bc.upd ht).trans<|(bc.upd he).trans<|.upd hx) #[e,bq,bc.upd hx _ _ bq] w1 w2 (by show 23+1<=09;lia) (by show d.r+d.l<=04;lia)
 .refine#[_,9,_,9,_,9,by show 11 3;lia,λx hx=>?_];exact q x d _ (.upd hx) #[b,bq,bc.upd hx _ _ gb] w1 w2 7 w4
def aij{K:Frag}{σ:St}{k:Int}{t:i0}{R:VK}(h7:σ[07]?=0 (0<|.str t.1))(h2:σ[2]?=0 (0<|2 k))(hT:Ve p k t d)(q:∀a H',bc H H'->WL H' a d->R (3 a) H'):Nc K σ H R:=by
 let z:=jE;let cW:(Txt.split t.1<|4 " ").length<=08:=by
  let:=aj List.length hT.ws
  rw[bH,bH]at this
  let:=hT.len
  lia
 let xD:=hT.tl;refine#[_,h7,9,t.1,4 " ",9,9,19,7,7,λl hl=>?_];let s1:=bc.upd (o:=.lst<|(Txt.split t.1<|4 " ").map V.str) hl;let g1:(9 H l<|(Txt.split t.1<|4 " ").map V.str) l=13 ((Txt.split t.1<|4 " ").map V.str):=bq;generalize 9 H l ((Txt.split t.1<|4 " ").map V.str)=H1 at s1 g1 |-;let eb:rR 1 [2] σ=16 1 8++[0<|2 k]:=by simp[rR,h2]
 refine#[l,9,#[_,.of g1],?_];rw[eb];refine qx (cp:=[0<|2 k]) (λi H' zs=>zs=((Txt.split t.1<|4 " ").take i).map (qV k)) (.of g1) (by rw[bH];lia) rfl (λi H' zs h=>by rw[h,bH];exact sO _ _) ?_ ?_
 .rintro i x H' zs hx sm rfl;rw[dR]at hx;let[w,hw,rfl]:=uD.mp hx;refine oH #[_,9,_,9,by show 11 2;lia,λl2 h2=>?_];refine#[_,9,9,.inr #[_,9,?_]];let fin:∀H2,bc H1 H2->mK 1 [0<|2 k] H1 (λH' zs=>zs=((Txt.split t.1<|4 " ").take<|i+1).map (qV k)) [0<|.str w,0<|2 k] H2 (((Txt.split t.1<|4 " ").take i).map (qV k)++[qV k w]):=λH2 s2=>
   #[#[[_],9,9],s2,by rw[iM,hw,eC];rfl]
  by_cases e:w=4 "k"
  .rw[show decide (V.str w=V.str (4 "k"))=6 from aH (by rw[e])]
   let f:=fin _ (sm.trans<|.upd h2 (o:=.lst [2 k,.str w]));unfold qV at f;rw[af e]at f;exact#[l2,_,0,2 k,9,9,.of bq,cm (j:=0) rfl,f]
  .rw[show decide (V.str w=V.str (4 "k"))=false from ae λy=>e<|V.str.inj y]
   let f:=fin _ (sm.trans<|.upd h2 (o:=.lst [2 k,.str w]));unfold qV at f;rw[ag e]at f;exact#[l2,_,1,.str w,9,9,.of bq,cm (j:=1) rfl,f]
 .rintro H' zs sm rfl l2 rP;refine q l2 _ ((s1.trans sm).trans<|.upd rP) ?_;show _=_;rw[bq,bH,nF,hT.ws]
def aik{K:Frag}{j k:Nat}{v:Addr}{x y z:V}{σ:St}{R:St->6 Hp}(h:bu K H v [x,y,z])(q:R (((σ.set i<|0 x).set j<|0 y).set k<|0 z) H):x4 K 3 (iF (cg i)<|iF (cg j)<|iF (cg k) rG) (3 v) σ H R:=(#[v,_,9,h,9,_,_,9,_,_,9,_,_,9,9,q])
def ail{K:Frag}{D:Ends}{E:XK}{c k:Int}{a:Addr}{vs:1 V}(h0:0<=k)(h1:k<p)(g:H a=13 vs)(hd:jw H vs (Gv k))(q:∀a d H',bc H H'->WT H' a d->d.wf p->d.eO 64->23<=09->d.l+d.r<=04->D.rt (3 a) H') :
  Hf K E D [0<|2 p,0<|2 c,0<|2 k,8 a,8,8,8,8] H:=by
 unfold Hf;let[i,d,hi,ei]:=Vb (xs:=Gv k) (n:=11) rfl (by decide) c;obtain⟨v,hv⟩:∃v,vs[i]?=0 v:=#[_,cD (by rw[hd.1];exact(eA.mp hi).1)];let[v,rfl,b,gv,gb]:=hd.2 i _ d hv hi;let[w1,w2,w3,w4]:=afX h0 h1 hi;refine#[_,9,_,9,c,11,9,9,(by decide:(0:Int)<11),a,vs,c%11,3 v,9,9,.of g,by rw[show(c%11:Int)=(i:Int) from ei];exact cm hv,ud (.of gv) ?_]
 refine#[_,9,c,44,9,9,#[16,16],c/44,3,9,9,(by decide:(0:Int)<3),9,_,9,?_];dsimp only;split
 .refine#[_,9,c,132,9,9,#[16,16],c/132,9,λta t H1 s1 ht gt=>?_];let[d',hT]:=agm h0 h1 ht;refine aik gt ?_;refine aij (p:=p) (d:=d') 9 9 hT λb' H2 s2 gb'=>?_;exact V9 gb' hT.l hT.r hT.wf hT.eO hT.len hT.s λa d H' s'=>q a d H'<|s1.trans<|s2.trans s'
 .exact V9 gb 9 9 w1 w2 7 w4 q
def qc:dz ["p","cell","k","some","words","left","right","said"] ["p","cell"] (cj Eh):=(dW 9 9 9 19 9)
def aim:(["word","k"]:1 Str).Nodup:=by decide +kernel
def Wa{f fT:Addr}{fd ku:FuncData}(F:cL K "_law_some_box" "_law_some_box" Eh f fd)(T:Txt mg)
  (GT:bQ P w K mg base bX 1 fT ku ["cell"] (MM K)) (kT:Kp K fT) (bT:Binds K ku ["cell"] []) (mT:Mg mg "_law_told_box" fT):bQ P w K mg base bX 2 f fd ["p","cell"] (Gq K):=by
 refine 17 qc 24 ?_
 .let[p,c,rfl,_]:=h;rfl
 .let[p,c,rfl,pp,q]:=h;refine#[cR (dI (bY Cu (bY G0 (bt 1)<|tC<|2 40)<|bt 0)<|cg 2)<|cR (dI Gr<|cg 3)<|cR (dI (bY fh (bt 3) Gs)<|cg 3)<|cR (dI (bY fh (bt 3) Gu)<|cg 3)<|Hf K E,?_,?_]
  .refine bz ?_ ?_
   .exact cx (i:=2) qc.nd rfl (Or.inr 9) (bI jb (bI rH (pv 1) br)<|pv 0)
   let bx:∀{X:Cx}{e:Expr}{es:1 Expr}{ws:1 Str}{l r:Int}{t:TA},Ms e=0 (ws,l,r)->PA X es t->starEach (e::es) X.env=(false,eval e X.env)::starEach es X.env->PA X (e::es) (bw (o3 ws l r) t):=λh k hs=>bf (afV h) k hs;refine bz ?_ ?_
   .refine cx (i:=3) ?_ ?_ ?_ ?_ ?_ ?_
    .exact qc.nd
    .rfl
    .exact Or.inl 9
    .unfold Gr;refine cK ?_;refine bx ?_ ?_ ?_
     .kernel_rfl
     rotate_left
     .rfl
     refine bx ?_ ?_ ?_
     .kernel_rfl
     rotate_left
     .rfl
     refine bx ?_ ?_ ?_
     .kernel_rfl
     rotate_left
     .rfl
     refine bx ?_ ?_ ?_
     .kernel_rfl
     rotate_left
     .rfl
     refine bx ?_ ?_ ?_
     .kernel_rfl
     rotate_left
     .rfl
     exact bj
    .rfl
    .exact 18
   refine bz ?_ ?_
   .refine cx (i:=3) ?_ ?_ ?_ ?_ ?_ ?_
    .exact qc.nd
    .rfl
    .exact Or.inl 9
    .refine bI eV (pv 3) ?_;unfold Gs;refine cK ?_;refine bx ?_ ?_ ?_
     .kernel_rfl
     rotate_left
     .rfl
     refine bf ?_ ?_ ?_
     .exact cK<|bf (cK<|bf c7<|10 2 bj)<|bf br<|bf br bj
     .refine bx ?_ ?_ ?_
      .kernel_rfl
      rotate_left
      .rfl
      refine bx ?_ ?_ ?_
      .kernel_rfl
      rotate_left
      .rfl
      exact bj
     .rfl
    .rfl
    .exact 18
   refine bz ?_ ?_
   .refine cx (i:=3) ?_ ?_ ?_ ?_ ?_ ?_
    .exact qc.nd
    .rfl
    .exact Or.inl 9
    .refine bI eV (pv 3) ?_;unfold Gu;refine cK ?_;refine bx ?_ ?_ ?_
     .kernel_rfl
     rotate_left
     .rfl
     refine bx ?_ ?_ ?_
     .kernel_rfl
     rotate_left
     .rfl
     exact bj
    .rfl
    .exact 18
   unfold Hf Nd V8;refine bz ?_ ?_
   .exact pA (bZ (dC K 9) (pv 3)<|bI jb (pv 1) br)<|tL 9<|eR (cH (i:=04) qc.nd rfl (18))<|eR (cH (i:=05) qc.nd rfl (18))<|eR (cH (i:=06) qc.nd rfl (18)) nJ
   refine bz ?_ ?_
   .refine dq ?_ ?_ eP
    .exact cQ e8 (bI jb (bI rH (pv 1) br) br) br<|cO _
    refine bz ?_ ?_
    .exact pA (cY GT hr 9 mT kT bT .nil cZ<|bf (bI rH (pv 1) br) bj) (AU (n:=3) K rfl rfl (eR (cH (i:=07) qc.nd rfl (18))<|eR (cH (i:=05) qc.nd rfl (18))<|eR (cH (i:=06) qc.nd rfl (18)) nJ))
    refine bN ?_;unfold Nc;refine mH (i:=04) (N:=["word","k"]) (own:=1) (caps:=[2]) rfl qc.nd rfl rfl ?_ ?_ ?_ ?_ ?_
    .exact iY K 9<|jX PySem.F.plainAttrs_str PySem.F.slot_str_split PySem.F.type_str_split L0 (pv 07)<|bf c7 bj
    .exact(show fH ["p","cell","k","some","words","left","right","said"] (cj Eh) ["word","k"] 1 [2] _ from .mk' 19)
    .exact λ_ _ _ _ _=>cH (i:=0) aim rfl (18)
    .exact λ_ _ _ _ _=>jn
    .exact λ_ _ _ _ _=>bZ (dC K 9) (cK<|10 1<|10 0 bj)<|jl Il 9 T.int yF<|bf (v8 uJ (pv 0) c7<|cO _) bj
   refine bz ?_ ?_
   .exact dq (cQ e8 (bI jb (bI rH (pv 1) br) br) br<|cO _) (bN<|cJ<|cK<|bf (bI eV (cK<|bf c7 bj)<|pv 04)<|10 06<|10 05 bj) eP
   .exact bN<|cJ<|cK<|10 04<|10 05<|10 06 bj
  let p0:0<p:=by let:=(gK p pp).1;lia
  let k0:=rh (c/40) (show p≠0 by lia);let k1:=ri (c/40) p0;refine nC #[_,9,c,40,9,9,#[16,16],_,9,c/40,p,9,9,p0,?_]
  try dsimp only
  generalize c/40%p=k at k0 k1 |-;refine nC<|afY λa1 v1 H1 s1 g1 d1=>?_;refine nC #[_,9,afZ 9 λa2 v2 H2 s2 g2 d2=>?_];refine UQ (s2 _ _ g1) g2 (d1.mono s2) d2 (HI 9) λa3 H3 s3 g3 d3=>?_;refine nC #[_,9,af0 λa4 v4 H4 s4 g4 d4=>?_];refine UQ (s4 _ _ g3) g4 (d3.mono s4) d4 (HI 9) λa5 H5 s5 g5 d5=>?_;exact ail k0 k1 g5 d5 λa d H' s'=>q a d H'<|s1.trans<|s2.trans<|s3.trans<|s4.trans<|s5.trans s'
end S21
namespace L2
open PySem PySem.Spec PyProof.Rows
def vL(b c:Int)(n:Nat):It:=#[λi _=>i<n,λi H x H'=>H'=H/\x=2 (b+i*c),λi _=>n<=i]
def ain{P:Program}{w:World}{K:Frag}{tg:Expr}(it:Addr)(b c:Int)(n:Nat):Turn P w K tg (vL b c n) [it] it (λi h=>IsRangeIter h it (b+(i:Nat)*c) ((n:Int)-(i:Nat)) c):=by
 refine#[cT.mpr 9,λi h st b0 hb=>?_,λi h h' st q=>q it (cT.mpr 9) _ st,?_,?_,λ_ _ _ _ _ st q=>wpAny_pyIter_rangeiter st q]
 .cases cT.mp hb;refine#[_,st,λv q=>?_];let q':Data.fields _=Data.cell v:=q;cases q'
 .rintro X rfl rfl rfl hc i aZ s σ H E I hf st hg;let[f0,f1,_,f3,f4,f5]:=hf it<|cT.mpr 9;refine(Walks.range (I.ok.hd hc) it b c n).item i s _ _ hg st λv h' tk hv iN kk=>?_;let[t,rfl]:=hv;let I1:=I.turned (h':=h') (t':=tk) (it:=it) (λb0 o hb e=>kk b0 o (λz=>hb<|cT.mp z) e) f0 f1 f3 f4 f5;exact#[_,9,vZ (s:={ s with heap:=h',toks:=tk }) (n := "range_iterator") iN 9 9 16 #[2<|b+i*c,H,I1,#[t,9],#[9,9],iN,λb0 hb=>(hf b0 hb).1]]
 .rintro X rfl rfl rfl hc i aZ s σ H E I hf st hg;let[f0,f1,_,f3,f4,f5]:=hf it<|cT.mpr 9;let hg:n<=i:=hg;exact wpAny_pyNext_range_end (I.ok.hd hc) st 7 λh' eb=>#[9,I.turned (t':=s.toks) (λb0 o hb e=>eb b0 o hb e) f0 f1 f3 f4 f5]
def aio(ta:TA):TI:=λσ H R=>ta σ H λvs H1=>∃j:Int,vs=[2 30,2 j,2 3]/\0<=j/\j<1000000/\R (vL 30 3 ((j-28)/3).toNat) H1
def Wb{j:Int}(h:0<=j):Builtin.Range.rangeSize 30 j 3=(((j-28)/3).toNat:Int):=by
 unfold Builtin.Range.rangeSize;rw[af 16];split<;>lia
def aip{j:Int}(h:0<=j)(h2:j<1000000):Builtin.Range.small 30 j 3=6:=by
 unfold Builtin.Range.small;rw[Wb h];let fl:∀i:Int,-1000000<=i->i<=1000009->Builtin.Range.rangeFitsLong i=6:=λi a b=>by
  unfold Builtin.Range.rangeFitsLong;rw[dM,aK,aK];lia
 let m0:(0:Int)<=(((j-28)/3).toNat:Int):=Int.natCast_nonneg _;let m1:(((j-28)/3).toNat:Int)<=1000001:=by lia
 generalize (((j-28)/3).toNat:Int)=m at m0 m1 |-;let e5:j+(3-1)=j+2:=9;rw[e5];let h5:=fl (j+2) 7 7;generalize j+2=j' at h5 |-;rw[fl j 7 7,fl m 7 7,h5];let h0:=fl 30 16 16;let h2:=fl 3 16 16;generalize Builtin.Range.rangeFitsLong 30=b0 at h0 |-;generalize Builtin.Range.rangeFitsLong 3=b2 at h2 |-;subst h0 h2;cases m==0<;>rfl
def aiq{X:Cx}{tg:Expr}{a b c:Expr}{ta:TA}{p pos:Pos}(hg:Gl X "range")(hm:X.mg "range"=8)(ha:PA X [a,b,c] ta)(hs:starEach [a,b,c] X.env=[(false,eval a X.env),(false,eval b X.env),(false,eval c X.env)]:=by rfl)
  (pG:starEach [b,c] X.env=[(false,eval b X.env),(false,eval c X.env)]:=by rfl):PI X tg (.Call (.Name "range" p) [a,b,c] [] pos) (aio ta):=by
 intro aZ s σ H R I h;refine Call_ (sV I hg hm boot_range<|zZ (bg (ha pos aZ s σ H _ I h) λus s1 ⟨vs,H1,I1,r1,q1⟩=>?_) (by rw[hs,pG])<|by rw[pG];rfl);let[j,rfl,j0,j1,q]:=q1;let[u1,ux,rfl,[t,rfl],r2]:=Jx r1;let[u2,mn,rfl,[t',rfl],r3]:=Jx r2;let[u3,mq,rfl,[t2,rfl],r4]:=Jx r3;cases r4;refine call_range_3 16 ?_<|Or.inl<|PyProof.noPylong_small 7;refine wpAny_pyIter_range (IsRange.new ..) (aip j0 j1) ?_;let up:∀b o,s1.heap.get? b=0 o->(s1.heap.push { cls:=.type "range",data:=.fields #[.int 30 t,.int j t',.int 3 t2,] }).get? b=0 o:=λb o e=>dD _ e;let I2:=I1.kept (t':=s1.toks) up;generalize s1.heap.push { cls:=.type "range",data:=.fields #[.int 30 t,.int j t',.int 3 t2,] }=h2 at I2 |-;let I3:12 X σ H1 { s1 with heap:=h2.push { cls:=.type "range_iterator",data:=.fields #[rawInt 30,rawInt<|Builtin.Range.rangeSize 30 j 3,rawInt 3,] },toks:=s1.toks }:=I2.kept (t':=s1.toks) λb o e=>dD _ e;refine#[h2.objs.size,[h2.objs.size],_,_,H1,9,I3,ain _ 30 3 ((j-28)/3).toNat,?_,λb hb=>?_,q]
 .let e2:((((j-28)/3).toNat:Nat):Int)-((0:Nat):Int)=Builtin.Range.rangeSize 30 j 3:=by rw[Wb j0];simp
  show IsRangeIter _ _ (30+((0:Nat):Int)*3) _ 3;rw[e2];exact gp _ 9
 .cases cT.mp hb;exact I2.nL (ck _)<|I2.cf.fresh<|ck _
def air{b c:Int}{n:Nat}{g:TG}{tb:TS}{D:Ends}{σ:St}{H:Hp}(Pv:Nat->St->6 Hp)(h0:Pv 0 σ H)
  (hs:∀i σ H,i<n->Pv i σ H->g (2<|b+i*c) σ H λσ2 H2=>tb { D with nx:=Pv (i+1),ct:=Pv (i+1),bk:=D.nx } σ2 H2) (hd:∀σ H,Pv n σ H->D.nx σ H) :
  ∃W:Nat->Nat->St->6 Hp,(∃m,W 0 m σ H)/\∀i m σ H,W i m σ H->
   ((vL b c n).stop i H/\D.nx σ H)\/((vL b c n).go i H/\∃N:St->6 Hp,(∀σ' H',N σ' H'->∃m',m'<m/\W (i+1) m' σ' H')/\∀x H',(vL b c n).pB i H x H'->g x σ H' λσ2 H2=>tb { D with nx:=N,ct:=N,bk:=D.nx } σ2 H2):=by
 refine#[λi m σ H=>m+i=n/\Pv i σ H,#[n,9,h0],?_];rintro i m σ H ⟨e,p⟩;cases m with
 |zero=>
  let:i=n:=by lia
  subst this;exact .inl #[ck _,hd σ H p]
 |succ m=>
  refine .inr #[show i<n by lia,Pv<|i+1,λσ' H' p'=>#[m,xK _,7,p'],?_];rintro x H' ⟨rfl,rfl⟩;exact hs i σ _ 7 p
end L2
namespace S21
open PySem L2 Bw
variable{H:Hp}{f:Addr}{fd:FuncData}{ps:1 Str}{x:Str}
def kD(k:KP):Dat:=.tuple [2 k.1,.str k.2]
theorem Wc{K:Frag}{H:Hp}:∀{ks:1 KP}{zs:1 V},iU K H zs (ks.map ke)->cy K H zs (ks.map kD)
 | [],[],_=>.nil
 | [],_::_,h=>nomatch h.1
 |_::_,[],h=>nomatch h.1
 |k::ks,v::zs,h=>by
  let[t,rfl,g]:=h.2 0 v (ke k) 9 9;exact .cons (.tuple g<|.cons (2 _)<|.cons (.str _) .nil)<|Wc (zs:=zs) #[Nat.succ.inj h.1,λi x kv e1 e2=>h.2 (i+1) x kv e1 e2]
def ais(n:Nat)(h:PyData.strOk x=6):kqdOk n (.str x)=6:=by cases n<;>exact h
def ait{i:Int}(n:Nat):kqdOk n (2 i)=6:=by cases n<;>rfl
def aiu{ks:1 KP}(h:∀k∈ks,PyData.strOk k.2=6):kqdOk 08 (.list<|ks.map kD)=6:=by
 show(ks.map kD).all (kqdOk 07)=6;refine gF.mpr λe he=>?_;let[k,hk,rfl]:=dF.mp he;show([Dat.int k.1,.str k.2].all<|kqdOk 06)=6;rw[List.all_cons,List.all_cons,ais 06 (h k hk),ait];rfl
def aiv:oq.all (λx=>PyData.strOk x)=6:=by decide +kernel
def aiw{p:Int}{d:D1.Dr}{k:KP}(h:k∈oo (cw d) oq (ot p d)):PyData.strOk k.2=6:=by
 unfold oo at h;let[i,_,h]:=List.mem_flatMap.mp h;unfold ml at h;let[x,hx,rfl]:=dF.mp h;exact gF.mp aiv x (qd.mp hx).1
def Nf(ns:4)(lo hi:7 Int):∃ms:4,gJ (ns.map V.int) lo hi=ms.map V.int/\ms.length<=ns.length:=by
 unfold gJ;refine#[_,by rw[<- List.map_drop,<- List.map_take],?_];rw[cV,dU];lia
def ne5{K:Frag}{Q:VK}{x y:Addr}{g:D1.Dr}(h1:bu K H x (cw g).aY)(h2:bu K H y (cw g).aY)(q:Q (.bl false) H):AN K 6 (3 x) (3 y) H Q:=by
 rw[nv]at h1 h2;exact#[.tuple<|g.aY.map vH,.tuple<|g.aY.map vH,.tuple h1<|Gm _,.tuple h2<|Gm _,UO<|UN g,UO<|UN g,by simpa using q]
open Classical in
def eq5{d e:Dat}{Q:VK}(h:d=e)(q:Q (.bl 6) H):Q (.bl<|if false=6 then ! decide (d=e)else decide (d=e)) H:=by
 subst h;simpa using q
def We{p:Int}(pp:p∈cM){d g:D1.Dr}(dw:d.wf p)(ld:23<=99)(S:D1.Sm p d g)(lg:g.aY.length<=99):eQ p (g.bh p)=eQ p (d.bh p):=by
 let sd:=G3 dw ld;let sg:=G3 S.wf lg;rw[<- FP pp S.wf sg,<- FP pp dw sd];exact Vg pp dw sd S.wf sg (Prod.ext S.l.symm S.r.symm) λx y=>(S.lets x y).symm
def aix{b c:Int}{n:Nat}{g:TG}{tb:TS}{D:Ends}{σ:St}(Pv:St->6 Hp)(h0:Pv σ H)
  (hs:(∀σ H,Pv σ H->D.nx σ H)->∀i σ H,i<n->Pv σ H->g (2<|b+i*c) σ H λσ2 H2=>tb { D with nx:=Pv,ct:=Pv,bk:=D.nx } σ2 H2) (hd:∀σ H,Pv σ H->D.nx σ H) :
  ∃W:Nat->Nat->St->6 Hp,(∃m,W 0 m σ H)/\∀i m σ H,W i m σ H->
   ((vL b c n).stop i H/\D.nx σ H)\/((vL b c n).go i H/\∃N:St->6 Hp,(∀σ' H',N σ' H'->∃m',m'<m/\W (i+1) m' σ' H')/\∀x H',(vL b c n).pB i H x H'->g x σ H' λσ2 H2=>tb { D with nx:=N,ct:=N,bk:=D.nx } σ2 H2):=(air (b:=b) (c:=c) (n:=n) (g:=g) (tb:=tb) (D:=D) (σ:=σ) (H:=H) (λ_=>Pv) h0 (hs hd) hd)
def Hg(K:Frag)(Pt:Addr):Sp:=λvs H Q _=>∃(a:Addr)(ns:4),vs=[3 a]/\dv K H a (ns.map V.int)/\ns.length<=63/\oI H Pt (zq qJ) zr/\∀H',Q (.bl 6) H'
def nE:dz ["script","cells","p","words","left","right","first","rows","here","k","some","at","rule","moved_one"] ["script"] (cj tV):=(dW 9 9 9 19 9)
set_option maxRecDepth 100000 in
def aiy{Pt fP fG fM fV fO fS fC:Addr}{vF Wf i7 Wg Wh jt nh:FuncData}(F:cL K "law" "law" tV f fd)(T:Txt mg)
  (GP:bQ P w K mg base bX 1 fP vF ["cell"] Q5) (kP:Kp K fP) (bP:Binds K vF ["cell"] []) (mP:Mg mg "_law_prime" fP)
  (GG:bQ P w K mg base bX 04 fG Wf ["p","cells","most"] (U8 K)) (kG:Kp K fG) (bG:Binds K Wf ["p","cells","most"] []) (mG:Mg mg "_law_grown" fG)
  (GM:bQ P w K mg base bX 04 fM i7 ["p","words"] (R7 K)) (kM:Kp K fM) (bM:Binds K i7 ["p","words"] []) (mM:Mg mg "_law_meaning" fM)
  (GV:bQ P w K mg base bX 09 fV Wg ["p","words"] (VE K oq)) (qV:Kp K fV) (bV:Binds K Wg ["p","words"] []) (mV:Mg mg "moves" fV)
  (GO:bQ P w K mg base bX 09 fO Wh ["p","words","at","rule"] (Mn K kI)) (kO:Kp K fO) (bO:Binds K Wh ["p","words","at","rule"] []) (mO:Mg mg "moved" fO)
  (GS:bQ P w K mg base bX 1 fS jt ["p","words"] (Vp K)) (kS:Kp K fS) (bS:Binds K jt ["p","words"] []) (mS:Mg mg "_law_sides" fS)
  (GC:bQ P w K mg base bX 12 fC nh ["p","one","other"] (Vi K Pt)) (kC:Kp K fC) (bC:Binds K nh ["p","one","other"] []) (mC:Mg mg "compared" fC) :
  bQ P w K mg base bX 13 f fd ["script"] (Hg K Pt):=by
 refine 17 nE 24 ?_
 .let[a,ns,rfl,_]:=h;rfl
 .let[a,ns,rfl,ha,hn,vA,q]:=h;let r1:eU 1 _:=hr.mono 7;let r4:eU 04 _:=hr.mono 7;let r9:eU 09 _:=hr.mono 7;let hu:=hr.units;let z:=jE;refine#[_,bz (cx (i:=1) nE.nd rfl (18) (fQ (nU K 9) (pv 0) ik<|eM br))<|bz (cx (i:=2) nE.nd rfl (18) (cY GP r1 9 mP kP bP .nil cZ<|bf (iW (PK K 9 9) 9 T.sum PM<|10 1 bj) bj))<|bz (pA (cY GG r4 9 mG kG bG .nil cZ<|10 2<|bf (fQ (nU K 9) (pv 1) ik<|eM br)<|bf br bj)<|tL 9<|eR (cH (i:=3) nE.nd rfl (18))<|eR (cH (i:=04) nE.nd rfl (18))<|eR (cH (i:=05) nE.nd rfl (18)) nJ)<|bz (cx (i:=06) nE.nd rfl (18) (jl (wD K 9) 9 T.tuple uT<|10 3 bj))<|bz (cx (i:=07) nE.nd rfl (18) (bZ (dC K 9) (cY GM r4 9 mM kM bM .nil cZ<|10 2<|10 3 bj) br))<|bz (cx (i:=08) nE.nd rfl (18) (pv 06))<|bz (kY lS 9 (aiq 9 T.range<|bf br<|bf (iW (nV K 9) 9 T.len nW<|10 1 bj)<|bf br bj) (cH (i:=09) nE.nd rfl (18))<|bz (cx (i:=10) nE.nd rfl (18) (cY GV r9 9 mV qV bV .nil cZ<|10 2<|10 08 bj))<|bz (dq (PW.pt<|xW (cQ (DI K 9 hu) (pv 10) (cK bj)<|cO _)<|Ar<|cQ x8 (iW (nV K 9) 9 T.len nW<|10 08 bj) br<|cO _) (bN X9) eP)<|bz (pA (bZ (dC K 9) (pv 10)<|bI jb (bI ij (iW (PK K 9 9) 9 T.sum PM<|bf (fQ (nU K 9) (pv 1) (eM<|pv 09)<|eM<|bI ij (pv 09) br) bj)<|pv 09)<|iW (nV K 9) 9 T.len nW<|10 10 bj)<|AU (n:=2) K rfl rfl (eR (cH (i:=11) nE.nd rfl (18))<|eR (cH (i:=12) nE.nd rfl (18)) nJ))<|bz (cx (i:=13) nE.nd rfl (18) (cY GO r9 9 mO kO bO .nil cZ<|10 2<|10 08<|10 11<|10 12 bj))<|bz (dq (PW.pt<|xW (HR<|vY<|iW (aaI K rfl (T := "tuple")) 9 T.isinstance AV<|10 13<|bf (AR 9 T.tuple uT) bj)<|Ar<|cQ (yE K 9 hu) (cY GO r9 9 mO kO bO .nil cZ<|10 2<|10 08<|10 11<|10 12 bj) (pv 13)<|cO _) (bN<|cJ CZ) eP)<|bz (cx (i:=08) nE.nd rfl (18) (pv 13))<|bz (dq (cQ (yE K 9 hu) (cY GS r1 9 mS kS bS .nil cZ<|10 2<|10 08 bj) (eF<|10 04<|10 05 bj)<|cO _) (bN<|cJ CZ) eP)<|bN<|dq (PW.pt<|rE (cQ e8 (bI jb (pv 09) br) br<|cO _)<|sX<|cQ (yE K 9 hu) (bZ (dC K 9) (cY GM r4 9 mM kM bM .nil cZ<|10 2<|bf (jl (DH K 9) 9 T.list uU<|10 08 bj) bj) br) (pv 07)<|cO _) (bN<|cJ CZ) eP)<|bN<|cJ<|X6 (v8 (DI K 9 hu) (bZ (dC K 9) (cY GM r4 9 mM kM bM .nil cZ<|10 2<|bf (jl (DH K 9) 9 T.list uU<|10 08 bj) bj) br) (pv 07)<|cO _)<|X5<|v8 (DI K 9 hu) (cY GC hr 9 mC kC bC .nil cZ<|10 2<|10 06<|10 08 bj) (eF<|bf c7 bj)<|cO _,?_];let[cs,Bv,lcs]:=Nf ns 8<|0 63;refine#[_,9,63,9,a,_,9,ha,λlc y0=>?_];rw[Bv];let g0:(9 H lc<|cs.map V.int) lc=13 (cs.map V.int):=bq;let Wi:=vA.mono (bc.upd (o:=.lst<|cs.map V.int) y0);generalize 9 H lc (cs.map V.int)=H0 at g0 Wi |-;refine#[_,9,lc,cs,9,.of g0,_,9,λp H1 pp s1=>?_];let[p2,cA]:=gK p pp;let[ms,ems,lms]:=Nf cs 8<|0 30;refine#[_,9,_,9,30,9,lc,_,9,.of<|s1 _ _ g0,λl2 h2=>?_];rw[ems];refine#[p,l2,30,ms,9,pp,bq,7,16,λwt d H2 s2 hw dw _ dl _=>?_];let dl:23<=30:=dl;let[wl,gt,gw]:=hw;refine ud (.of gt) ?_;refine#[_,9,wl,_,9,.inl #[.of gw,λfi Ng=>?_]];let sA:=((s1.trans<|bc.upd (o:=.lst<|ms.map V.int) h2).trans s2).trans (bc.upd (o:=.tup<|d.aY.map dQ) Ng);let gf:bu K (upd H2 fi<|.tup<|d.aY.map dQ) fi (cw d).aY:=by rw[nv];exact .of bq
  let Nh:=bc.upd (o:=.tup<|d.aY.map dQ) Ng _ _ gw;clear Ng h2;generalize upd H2 fi (.tup<|d.aY.map dQ)=HA at sA gf Nh |-;refine#[_,9,_,9,p,wl,d,9,pp,Nh,dw,G2 7,7,λt1 H3 rw TS s3 Wj Wk Wl=>?_];refine#[t1,_,2,_,9,9,.of Wj,cm (j:=2) rfl,?_];let gc:=(sA.trans s3) _ _ g0;let hL3:=Wi.mono<|sA.trans s3;let Wm:=s3.bK gf;clear sA s3 Nh Wj gt gw s1 s2;refine#[_,9,_,9,lc,_,9,.inl<|.of gc,_,9,7,by rw[bH];lia,aix (λσ H'=>bc H3 H'/\∃(g:D1.Dr)(hr:Addr)(s9 nR qG s12 jO:7 V),σ=[8 a,8 lc,0<|2 p,8 wl,0<|2 (d.l:Int),0<|2 (d.r:Int),8 fi,8 rw,8 hr,s9,nR,qG,s12,jO]/\bu K H' hr (cw g).aY/\D1.Sm p d g/\g.aY.length<=58) #[.refl _,d,fi,8,8,8,8,8,9,Wm,.refl dw,7] (λhd i σ H4 _=>?_) ?_]
  .rintro⟨s4,g,hh,s9,nR,qG,s12,jO,rfl,gh,S,gl⟩;let lg:(cw g).aY.length<=200:=by rw[fu];lia
   dsimp only[cg];refine#[_,9,_,9,p,hh,cw g,ot p g,9,fe S.wf,cA,lg,gh,aid cA S.wf 7,aib p g,by let:=aic (p:=p) (d:=g);lia,λls zs ks H5 _ s5 um hz hp _=>?_];let kok:∀k∈ks,PyData.strOk k.2=6:=λk hk=>aiw<|hp.mem_iff.mp hk;let gh5:=s5.bK gh;let vp:=s4.trans s5;refine#[_,9,by show 11 0;decide,λle mZ=>?_];let sE:=bc.upd (o:=.lst []) mZ;let ge:(9 H5 le []) le=13 []:=bq;generalize 9 H5 le []=H6 at sE ge |-;refine#[_,_,.list (.of<|sE _ _ um)<|Wc<|hz.mono sE,.list (.of ge) .nil,aiu kok,9,_,9,?_];let vM:=vp.trans sE;let Ni:=sE.bK gh5;let brk:∀s9 nR qG s12 jO,bc H3 H6/\∃(g:D1.Dr)(hr:Addr)(rX Nj Nk Nl Nm:7 V),([8 a,8 lc,0<|2 p,8 wl,0<|2 (d.l:Int),0<|2 (d.r:Int),8 fi,8 rw,8 hh,s9,nR,qG,s12,jO]:St)=[8 a,8 lc,0<|2 p,8 wl,0<|2 (d.l:Int),0<|2 (d.r:Int),8 fi,8 rw,8 hr,rX,Nj,Nk,Nl,Nm]/\bu K H6 hr (cw g).aY/\D1.Sm p d g/\g.aY.length<=58:=λs9 nR qG s12 jO=>#[vM,g,hh,s9,nR,qG,s12,jO,9,Ni,S,gl];by_cases wy:ks=[]
   .subst wy;exact Kj 9<|fw<|hd _ _<|brk _ _ _ _ _
   refine abP (λz=>wy<|List.map_eq_nil_iff.mp<|Dat.list.inj z) ?_;refine#[_,9,hh,_,9,.inr Ni,_,_,9,9,_,9,wu (λ_=>hd _ _<|brk _ _ _ _ _) λh48=>?_];let l48:g.aY.length<=48:=by
    rw[aK,fu]at h48;lia
   clear brk hd;let[qs,eqs,_]:=Nf cs (0<|30+(i:Int)*3)<|0<|30+(i:Int)*3+3;refine#[_,9,_,9,_,9,_,9,_,9,_,_,9,9,_,9,lc,_,9,.of<|vM _ _ gc,λl7 h7=>?_];rw[eqs];let s7:=bc.upd (o:=.lst<|qs.map V.int) h7;let g7:(9 H6 l7<|qs.map V.int) l7=13 (qs.map V.int):=bq;generalize 9 H6 l7 (qs.map V.int)=H7 at s7 g7 |-;let Wn:=s7 _ _<|sE _ _ um;let hz7:=hz.mono<|sE.trans s7;let zl:zs.length=ks.length:=by rw[hz.1,bH]
   let zp:0<ks.length:=List.length_pos_iff.mpr wy;refine#[l7,qs,9,.of g7,_,9,_,_,9,9,_,9,ls,_,9,.inl<|.of Wn,_,_,9,9,7,?_];let m0:=rh (qs.sum+(30+(i:Int)*3)) (show(zs.length:Int)≠0 by lia);let m1:=ri (qs.sum+(30+(i:Int)*3)) (show(0:Int)<(zs.length:Int) by lia);obtain⟨j,ej⟩:∃j:Nat,(qs.sum+(30+(i:Int)*3))%(zs.length:Int)=(j:Int):=#[_,(Int.toNat_of_nonneg m0).symm];rw[ej]at m1;let hj:j<zs.length:=by lia
   obtain⟨k,Wo⟩:∃k,ks[j]?=0 k:=#[_,cD 7];let[t,ht,gt]:=hz7.2 j zs[j] (ke k) (cD hj) (by rw[dR,Wo];rfl);let[ip,x,e,Y,g',r,ek,eS,hM,lY,S',lg',ew]:=aif pp S.wf 7<|hp.mem_iff.mp<|dS Wo;subst ek;refine#[ls,_,(j:Int),_,9,aj V.int ej,.of Wn,cm (j:=j) (by rw[cD hj,ht]),R9 gt ?_];let Wq:=s7.bK Ni;let Wr:(cw Y).aY.length<=1000:=by rw[fu];lia
   refine#[_,9,_,9,_,9,_,9,UM (E:=E0) (fe S.wf) p2 cA lg Wq #[r,eS] hM Wr λfo H8 s8 Nn=>?_];rw[<- ew]at Nn;refine#[_,9,fo,_,6,9,Nn,aaB K,_,9,dh ?_];refine#[_,9,_,9,_,9,_,9,UM (E:=E0) (fe S.wf) p2 cA lg (s8.bK Wq) #[r,eS] hM Wr λf2 H9 rX Ws=>#[_,9,?_]];rw[<- ew]at Ws;let Np:=rX.bK Nn;refine ne5 Ws Np #[_,9,dh ?_];let S2:=S.trans S';let s39:=(vM.trans s7).trans<|s8.trans rX;refine#[_,9,_,9,_,9,p,fo,g',9,by rw[<- nv];exact Np,S2.wf,7,λt9 HA Wt gt9=>?_];refine#[_,9,_,9,by show 11 2;decide,λu zU=>?_];let sB:=bc.upd (o:=.tup [2 (d.l:Int),2 (d.r:Int)]) zU;let gu:bu K (upd HA u<|.tup [2 (d.l:Int),2 (d.r:Int)]) u [2 (d.l:Int),2 (d.r:Int)]:=.of bq;generalize upd HA u (.tup [2 (d.l:Int),2 (d.r:Int)])=HB at sB gu |-;let Wu:=sB.bK gt9;rw[<- S2.l,<- S2.r]at Wu;refine#[_,_,.tuple Wu<|.cons (2 _)<|.cons (2 _) .nil,.tuple gu<|.cons (2 _)<|.cons (2 _) .nil,9,9,_,9,DG 9 ?_];let Wv:=(s39.trans Wt).trans sB;let Ww:=(Wt.trans sB).bK Np;let nx:∀H',bc HB H'->bc H3 H'/\∃(g:D1.Dr)(hr:Addr)(rX Nj Nk Nl Nm:7 V),([8 a,8 lc,0<|2 p,8 wl,0<|2 (d.l:Int),0<|2 (d.r:Int),8 fi,8 rw,8 fo,0<|2<|30+(i:Int)*3,8 ls,0<|2 (ip:Int),0<|.str x,8 fo]:St)=[8 a,8 lc,0<|2 p,8 wl,0<|2 (d.l:Int),0<|2 (d.r:Int),8 fi,8 rw,8 hr,rX,Nj,Nk,Nl,Nm]/\bu K H' hr (cw g).aY/\D1.Sm p d g/\g.aY.length<=58:=λH' s'=>#[Wv.trans s',g',fo,_,_,_,_,_,9,s'.bK Ww,S2,7];refine#[_,9,_,_,9,9,(show(0:Int)<04 by decide),9,_,9,?_];cases hdc:decide (V.int ((30+(i:Int)*3)%04)=V.int 1) with
   |false=>exact dh<|dh<|nx HB<|.refl _
   |true=>
    refine fw #[_,9,_,9,fo,_,9,.inr Ww,λl hl=>?_];let sC:=bc.upd (o:=.lst (cw g').aY) hl;let gC:(9 HB l (cw g').aY) l=13 (g'.aY.map dQ):=by rw[<- nv];exact bq
    generalize 9 HB l (cw g').aY=HC at sC gC |-;refine#[p,l,g',9,pp,gC,S2.wf,G2 7,7,λtD HD bD TD sD gtD hbD hTD=>?_];refine#[tD,_,2,_,9,9,.of gtD,cm (j:=2) rfl,_,9,?_];let Wx:=Wv.trans<|sC.trans sD;exact#[_,_,.tuple hbD hTD,.tuple (Wx.bK Wk)<|Wl.mono Wx,yX _,yX _,_,9,DG (by rw[We pp dw 7 S2 7])<|nx HD<|sC.trans sD]
  .rintro σ H4 ⟨s4,g,hh,s9,nR,qG,s12,jO,rfl,gh,S,gl⟩;refine#[_,9,_,9,hh,_,9,.inr gh,λl hl=>?_];let s5:=bc.upd (o:=.lst (cw g).aY) hl;let Wy:(9 H4 l (cw g).aY) l=13 (g.aY.map dQ):=by rw[<- nv];exact bq
   generalize 9 H4 l (cw g).aY=H5 at s5 Wy |-;refine#[p,l,g,9,pp,Wy,S.wf,G2 7,7,λt6 H6 b6 TS6 s6 gt6 hb6 hT6=>?_];refine#[t6,_,2,_,9,9,.of gt6,cm (j:=2) rfl,_,9,?_];let vM:=(s4.trans s5).trans s6;refine#[_,_,.tuple hb6 hT6,.tuple (vM.bK Wk)<|Wl.mono vM,yX _,yX _,_,9,Kj (by rw[We pp dw 7 S 7]) ?_];refine#[_,9,_,9,_,9,p,fi,hh,d,g,9,pp,dw,S.wf,7,7,Prod.ext S.l.symm S.r.symm,λx y=>(S.lets x y).symm,vM.bK Wm,(s5.trans s6).bK gh,hL3.mono vM,λt7 H7 ht7=>?_];refine#[by show 11 1;decide,λu zU=>#[_,_,.tuple ((bc.upd zU).bK ht7)<|.cons (.str _) .nil,.tuple (.of bq)<|.cons (.str _) .nil,19,19,eq5 9<|q _]]
def jh(K:Frag)(x:Str):Addr:=match nsIn K mainGlobals x with
 |some (some (.ref a))=>a
 |_=>0
def vN(K:Frag)(x:Str):Bool:=match nsIn K mainGlobals x with
 |some (some (.ref _))=>true
 |_=>false
def xF{K:Frag}(h:vN K x=6):nsIn K mainGlobals x=0 (8<|jh K x):=by
 unfold vN at h;split at h
 case h_2=>cases h
 case h_1 a e=>
  unfold jh;rw[e]
def Nq(K:Frag):Bool:=((vN K "PARTS"&&pM K (jh K "PARTS")&&decide (gN K (jh K "PARTS")=E8))&&(vN K "SIDES"&&Cb K (jh K "SIDES"))&&(vN K "RULES"&&Mp K (jh K "RULES")&&pM K (jh K "RULES")&&decide ((gN K<|jh K "RULES").map Prod.fst=oq))&&((vN K "ANY_DRAWING"&&decide (vG K (jh K "ANY_DRAWING")=0 (iK.map V.str)))&&(vN K "ANY_NUMBER"&&decide (vG K (jh K "ANY_NUMBER")=0 (jf.map V.str))))) &&
 ((vN K "BOX_ROWS"&&Fg K (jh K "SIDES") (jh K "BOX_ROWS"))&&((nsIn K mainGlobals "sorted"==0 8)&&(nsIn K mainGlobals "reversed"==0 8)))
structure aiz(K:Frag)(mg:Str->7 5):Prop where
 pt:Parts K mg (jh K "PARTS")
 sd:sr K mg (jh K "SIDES")
 rt:Gg K mg (jh K "RULES") (gN K<|jh K "RULES") kI
 lt:Lets K mg (jh K "ANY_DRAWING") (jh K "ANY_NUMBER")
 oR:pM K (jh K "RULES")=6
 hN:(gN K<|jh K "RULES").map Prod.fst=oq
 bx:xb K mg (jh K "SIDES") (jh K "BOX_ROWS")
 srt:mg "sorted"=8
 rev:mg "reversed"=8
section
variable{K:Frag}{h:Heap}{mg:Str->7 5}
def jx(X:K.In h)(G:h.Ns mainGlobals mg)(e:Nq K=6):aiz K mg:=by
 simp only[Nq,dM,aK,beq_iff_eq]at e;let[[[[[[a1,a2],a3],b1,b2],[[c1,c2],c3],c4],[d1,d2],e1,e2],[f1,f2],g1,g2]:=e;exact#[#[dH X G<|xF a1,λh X=>a3▸D0 X a2],#[dH X G<|xF b1,b2],afo (dH X G<|xF c1) c2,afp (dH X G<|xF d1) (dH X G<|xF e1) d2 e2,c3,c4,#[dH X G<|xF b1,dH X G<|xF f1,f2],mr X G g1,mr X G g2]
end
def aiA{fM:Addr}{i7:FuncData}(F:cL K "wires" "wires" D6 f fd)
  (GM:bQ P w K mg base bX 05 fM i7 ["words"] (L7 K)) (kM:Kp K fM) (bM:Binds K i7 ["words"] []) (mM:Mg mg "measured" fM):bQ P w K mg base bX 06 f fd ["words"] (Fi K):=(ago<|FY F GM kM bM mM)
theorem ux(h:∀a0,bindArgs fd #[[a0],[]]=pure (ps.zip [a0])):∀(us:1 5),us.length=1->bindArgs fd #[us,[]]=pure (ps.zip us)
 | [a0],_=>h a0
theorem mn(h:∀a0 a1,bindArgs fd #[[a0,a1],[]]=pure (ps.zip [a0,a1])):∀(us:1 5),us.length=2->bindArgs fd #[us,[]]=pure (ps.zip us)
 | [a0,a1],_=>h a0 a1
theorem mq(h:∀a0 a1 a2,bindArgs fd #[[a0,a1,a2],[]]=pure (ps.zip [a0,a1,a2])):∀(us:1 5),us.length=3->bindArgs fd #[us,[]]=pure (ps.zip us)
 | [a0,a1,a2],_=>h a0 a1 a2
theorem vO(h:∀a0 a1 a2 a3,bindArgs fd #[[a0,a1,a2,a3],[]]=pure (ps.zip [a0,a1,a2,a3])):∀(us:1 5),us.length=04->bindArgs fd #[us,[]]=pure (ps.zip us)
 | [a0,a1,a2,a3],_=>h a0 a1 a2 a3
structure FA(K:Frag)(x:Str)(st:Stmt)(f:Addr)(fd:FuncData):Prop where
 a:nsIn K mainGlobals x=0 (8 f)
 F:cL K x x st f fd
 k:keepIn K (3 f)=6
def FA.of{K:Frag}{st:Stmt}{od an:7 Addr}{sl:Array (7 5)}{oc kV dc pm cd ct:Value}(a:nsIn K mainGlobals x=0 (8 f))(l:K.lookup f=0 #[oc,od,.func<|fnOf x x (tG st) (nQ st) (cj st) .none kV dc pm an cd ct,sl])(c:PySem.W.codeIn K cd x=6)(k:keepIn K (3 f)=6):FA K x st f (fnOf x x (tG st) (nQ st) (cj st) .none kV dc pm an cd ct):=(#[a,IS l c k,k])
def all_mk{l:PySem.W.OpenLaw}{w:World}{K:Frag}{h:Heap}{mg:Str->7 5}{fa f1 f2 f3 f4 f5 f6 f7 f8 f9 f10 f11 f12 f13 f14 f15 f16 f17 f18 f19 f20 f21 f22 f23 Nr f25 f26 f27 f28 f29 f30 f31 f32 f33 f34 f35 f36 f37 f38 f39 f40 f41 f42 f43 f44 f45 f46 Nt:Addr}(X:K.In h)(G:h.Ns mainGlobals mg)(hfa:mg "law"=8 fa)
  {aiB aiC aiD Wz:7 Addr} {aiE aiF:Array (7 5)} {aiG aiH aiI aiJ WA aiK aiL WB WC WD Nu WE:Value} {d1 d2 d3 d4 d5 d6 d7 d8 d9 d10 d11 Pf d13 d14 d15 d16 d17 d18 d19 d20 d21 d22 d23 d25 d26 d27 d28 d29 d30 d31 d32 d33 d34 d35 d36 d37 d38 d39 d40 d41 d42 d43 d44 d45 d46:FuncData}
  (A1:FA K "turned" Bk f1 d1)
  (A2:FA K "added" tT f2 d2)
  (A3:FA K "summed" Bl f3 d3)
  (A4:FA K "reduced" yU f4 d4)
  (A5:FA K "led" D4 f5 d5)
  (A6:FA K "cleared" D5 f6 d6)
  (A7:FA K "wires" D6 f7 d7)
  (A8:FA K "folded" JW f8 d8)
  (A9:FA K "all_folded" D7 f9 d9)
  (A10:FA K "ends" JX f10 d10)
  (A11:FA K "end_of" D8 f11 d11)
  (A12:FA K "measured" JY f12 Pf)
  (A13:FA K "measure" D9 f13 d13)
  (A14:FA K "joined_sides" JZ f14 d14)
  (A15:FA K "first_unmet" Ea f15 d15)
  (A16:FA K "moved" J0 f16 d16)
  (A17:FA K "moves" Eb f17 d17)
  (A18:FA K "fitting" J1 f18 d18)
  (A19:FA K "matched" J2 f19 d19)
  (A20:FA K "allowed" J3 f20 d20)
  (A21:FA K "filled" J4 f21 d21)
  (A22:FA K "filled_piece" J5 f22 d22)
  (A23:FA K "plain" J6 f23 d23)
  (a24:nsIn K mainGlobals "forms"=0 (8 Nr)) (l24:K.lookup Nr=0 #[aiG,aiB,.func<|fnOf "forms" "forms" (tG md) (nQ md) (cj md) .none aiH aiI aiJ aiC WA aiK,aiE]) (c24:PySem.W.codeIn K WA "forms"=6) (k24:keepIn K (3 Nr)=6)
  (A25:FA K "refuse_late" J7 f25 d25)
  (A26:FA K "form" J8 f26 d26)
  (A27:FA K "form_of_back" Ec f27 d27)
  (A28:FA K "form_of_beside" Bm f28 d28)
  (A29:FA K "form_of_then" Ed f29 d29)
  (A30:FA K "facing" Bn f30 d30)
  (A31:FA K "compared" J9 f31 d31)
  (A32:FA K "refuse_sides" Ka f32 d32)
  (A33:FA K "_law_prime" Kb f33 d33)
  (A34:FA K "_law_cleared" tU f34 d34)
  (A35:FA K "_law_less" Ee f35 d35)
  (A36:FA K "_law_reduced" Ef f36 d36)
  (A37:FA K "_law_box" Kc f37 d37)
  (A38:FA K "_law_then" yV f38 d38)
  (A39:FA K "_law_beside" Kd f39 d39)
  (A40:FA K "_law_meaning" Eg f40 d40)
  (A41:FA K "_law_some_box" Eh f41 d41)
  (A42:FA K "_law_told_box" Ke f42 d42)
  (A43:FA K "_law_beside_all" Kf f43 d43)
  (A44:FA K "_law_more" Kg f44 d44)
  (A45:FA K "_law_grown" Kh f45 d45)
  (A46:FA K "_law_sides" Ki f46 d46)
  (a47:nsIn K mainGlobals "law"=0 (8 Nt)) (l47:K.lookup Nt=0 #[aiL,aiD,.func<|fnOf "law" "law" (tG tV) (nQ tV) (cj tV) .none WB WC WD Wz Nu WE,aiF]) (c47:PySem.W.codeIn K Nu "law"=6) (k47:keepIn K (3 Nt)=6)
  (z1:nsIn K mainGlobals "range"=0 8) (z2:nsIn K mainGlobals "zip"=0 8) (z3:nsIn K mainGlobals "tuple"=0 8) (z4:nsIn K mainGlobals "list"=0 8) (z5:nsIn K mainGlobals "int"=0 8) (z6:nsIn K mainGlobals "bool"=0 8) (z7:nsIn K mainGlobals "isinstance"=0 8) (z8:nsIn K mainGlobals "len"=0 8) (z9:nsIn K mainGlobals "sum"=0 8) (z10:nsIn K mainGlobals "max"=0 8) (z11:nsIn K mainGlobals "min"=0 8) (z12:nsIn K mainGlobals "enumerate"=0 8) (z13:nsIn K mainGlobals "any"=0 8) (z14:nsIn K mainGlobals "all"=0 8) (z15:nsIn K mainGlobals "str"=0 8) (hs1:(tabIn K "forms").isSome=6) (hx1:Nq K=6) :
  ∃fd:FuncData,(∀(s:Shared)(v:Value),BindsTo s fd #[[v],[]] [("script",v)])/\∀base:Heap,K.In base->base.Ns mainGlobals mg->uY mg base->(∀q∈[pL K "forms"],CodeHd base q.1 q.2)->bQ l.prog w K mg base bX 13 fa fd ["script"] (Hg K (pL K "forms").2):=by
 let e:=hfa.symm.trans<|dH X G a47;cases e;let T:Txt mg:=#[mr X G z1,mr X G z2,mr X G z3,mr X G z4,mr X G z5,mr X G z6,mr X G z7,mr X G z8,mr X G z9,mr X G z10,mr X G z11,mr X G z12,mr X G z13,mr X G z14,mr X G z15];let[a1,F1,k1]:=A1;let[a2,F2,k2]:=A2;let[a3,F3,k3]:=A3;let[a4,F4,k4]:=A4;let[a5,F5,k5]:=A5;let[a6,F6,k6]:=A6;let[a7,F7,k7]:=A7;let[a8,F8,k8]:=A8;let[a9,F9,k9]:=A9;let[a10,Nv,WG]:=A10;let[a11,CI,k11]:=A11;let[a12,CJ,Hh]:=A12;let[a13,uy,k13]:=A13;let[a14,CK,Hi]:=A14;let[a15,CL,Hj]:=A15;let[a16,WH,k16]:=A16;let[a17,WI,k17]:=A17;let[a18,Nw,WJ]:=A18;let[a19,Nx,WK]:=A19;let[a20,Ny,WM]:=A20;let[a21,WN,k21]:=A21;let[a22,WO,k22]:=A22;let[a23,WQ,k23]:=A23;let WR:=IS (st:=md) l24 c24 k24;let[a25,WU,k25]:=A25;let[a26,WV,k26]:=A26;let[a27,WW,k27]:=A27;let[a28,WX,k28]:=A28;let[a29,WY,k29]:=A29;let[a30,WZ,k30]:=A30;let[a31,W0,k31]:=A31;let[a32,W2,k32]:=A32;let[a33,W3,k33]:=A33;let[a34,Nz,W4]:=A34;let[a35,NA,W5]:=A35;let[a36,W6,k36]:=A36;let[a37,W7,k37]:=A37;let[a38,W8,k38]:=A38;let[a39,W9,k39]:=A39;let[a40,Xa,k40]:=A40;let[a41,NB,Xb]:=A41;let[a42,NC,Xc]:=A42;let[a43,Xd,k43]:=A43;let[a44,Xe,k44]:=A44;let[a45,Xf,k45]:=A45;let[a46,Xg,k46]:=A46;let F47:=IS (st:=tV) l47 c47 k47;let b1:=F1.binds (ps:=["p","number"]) λ_ _ _ _ _ _=>mn λ_ _=>9;let m1:=dH X G a1;let b2:=F2.binds (ps:=["p","row","factor","other"]) λ_ _ _ _ _ _=>vO λ_ _ _ _=>9;let m2:=dH X G a2;let b3:=F3.binds (ps:=["p","rows","factors","length"]) λ_ _ _ _ _ _=>vO λ_ _ _ _=>9;let m3:=dH X G a3;let b4:=F4.binds (ps:=["p","rows"]) λ_ _ _ _ _ _=>mn λ_ _=>9;let m4:=dH X G a4;let b5:=F5.binds (ps:=["p","row","place"]) λ_ _ _ _ _ _=>mq λ_ _ _=>9;let m5:=dH X G a5;let b6:=F6.binds (ps:=["p","row","lead","place"]) λ_ _ _ _ _ _=>vO λ_ _ _ _=>9;let m6:=dH X G a6;let b7:=F7.binds (ps:=["words"]) λ_ _ _ _ _ _=>ux λ_=>9;let m7:=dH X G a7;let b8:=F8.binds (ps:=["words","made"]) λ_ _ _ _ _ _=>mn λ_ _=>9;let m8:=dH X G a8;let b9:=F9.binds (ps:=["words","made"]) λ_ _ _ _ _ _=>mn λ_ _=>9;let m9:=dH X G a9;let Xh:=Nv.binds (ps:=["words"]) λ_ _ _ _ _ _=>ux λ_=>9;let Xi:=dH X G a10;let Xj:=CI.binds (ps:=["place","word","parts"]) λ_ _ _ _ _ _=>mq λ_ _ _=>9;let Xk:=dH X G a11;let Hk:=CJ.binds (ps:=["words"]) λ_ _ _ _ _ _=>ux λ_=>9;let Hl:=dH X G a12;let Hm:=uy.binds (ps:=["place","word","parts"]) λ_ _ _ _ _ _=>mq λ_ _ _=>9;let Hn:=dH X G a13;let Ho:=CK.binds (ps:=["word","parts"]) λ_ _ _ _ _ _=>mn λ_ _=>9;let Hq:=dH X G a14;let Hr:=CL.binds (ps:=["parts"]) λ_ _ _ _ _ _=>ux λ_=>9;let Hs:=dH X G a15;let b16:=WH.binds (ps:=["p","words","at","rule"]) λ_ _ _ _ _ _=>vO λ_ _ _ _=>9;let m16:=dH X G a16;let b17:=WI.binds (ps:=["p","words"]) λ_ _ _ _ _ _=>mn λ_ _=>9;let m17:=dH X G a17;let Xl:=Nw.binds (ps:=["words","behind","at","rule"]) λ_ _ _ _ _ _=>vO λ_ _ _ _=>9;let Xm:=dH X G a18;let Xn:=Nx.binds (ps:=["words","behind","at","text"]) λ_ _ _ _ _ _=>vO λ_ _ _ _=>9;let Xo:=dH X G a19;let Xp:=Ny.binds (ps:=["rule","found"]) λ_ _ _ _ _ _=>mn λ_ _=>9;let Xq:=dH X G a20;let b21:=WN.binds (ps:=["p","found","text"]) λ_ _ _ _ _ _=>mq λ_ _ _=>9;let m21:=dH X G a21;let b22:=WO.binds (ps:=["p","found","piece"]) λ_ _ _ _ _ _=>mq λ_ _ _=>9;let m22:=dH X G a22;let b23:=WQ.binds (ps:=["p","words"]) λ_ _ _ _ _ _=>mn λ_ _=>9;let m23:=dH X G a23;let b24:=WR.binds (ps:=["p","words"]) λ_ _ _ _ _ _=>mn λ_ _=>9;let m24:=dH X G a24;let b25:=WU.binds (ps:=["words"]) λ_ _ _ _ _ _=>ux λ_=>9;let m25:=dH X G a25;let b26:=WV.binds (ps:=["p","word","parts"]) λ_ _ _ _ _ _=>mq λ_ _ _=>9;let m26:=dH X G a26;let b27:=WW.binds (ps:=["p","one"]) λ_ _ _ _ _ _=>mn λ_ _=>9;let m27:=dH X G a27;let b28:=WX.binds (ps:=["p","one","other"]) λ_ _ _ _ _ _=>mq λ_ _ _=>9;let m28:=dH X G a28;let b29:=WY.binds (ps:=["p","one","other"]) λ_ _ _ _ _ _=>mq λ_ _ _=>9;let m29:=dH X G a29;let b30:=WZ.binds (ps:=["p","one","other"]) λ_ _ _ _ _ _=>mq λ_ _ _=>9;let m30:=dH X G a30;let b31:=W0.binds (ps:=["p","one","other"]) λ_ _ _ _ _ _=>mq λ_ _ _=>9;let m31:=dH X G a31;let b32:=W2.binds (ps:=["one","other"]) λ_ _ _ _ _ _=>mn λ_ _=>9;let m32:=dH X G a32;let b33:=W3.binds (ps:=["cell"]) λ_ _ _ _ _ _=>ux λ_=>9;let m33:=dH X G a33;let Xr:=Nz.binds (ps:=["p","rows","places"]) λ_ _ _ _ _ _=>mq λ_ _ _=>9;let Xs:=dH X G a34;let Xt:=NA.binds (ps:=["p","row","head","place"]) λ_ _ _ _ _ _=>vO λ_ _ _ _=>9;let Xu:=dH X G a35;let b36:=W6.binds (ps:=["p","rows","size"]) λ_ _ _ _ _ _=>mq λ_ _ _=>9;let m36:=dH X G a36;let b37:=W7.binds (ps:=["p","word","number"]) λ_ _ _ _ _ _=>mq λ_ _ _=>9;let m37:=dH X G a37;let b38:=W8.binds (ps:=["p","one","other"]) λ_ _ _ _ _ _=>mq λ_ _ _=>9;let m38:=dH X G a38;let b39:=W9.binds (ps:=["one","other"]) λ_ _ _ _ _ _=>mn λ_ _=>9;let m39:=dH X G a39;let b40:=Xa.binds (ps:=["p","words"]) λ_ _ _ _ _ _=>mn λ_ _=>9;let m40:=dH X G a40;let Xv:=NB.binds (ps:=["p","cell"]) λ_ _ _ _ _ _=>mn λ_ _=>9;let Xw:=dH X G a41;let Xx:=NC.binds (ps:=["cell"]) λ_ _ _ _ _ _=>ux λ_=>9;let Xy:=dH X G a42;let b43:=Xd.binds (ps:=["parts"]) λ_ _ _ _ _ _=>ux λ_=>9;let m43:=dH X G a43;let b44:=Xe.binds (ps:=["p","one","cell","most"]) λ_ _ _ _ _ _=>vO λ_ _ _ _=>9;let m44:=dH X G a44;let b45:=Xf.binds (ps:=["p","cells","most"]) λ_ _ _ _ _ _=>mq λ_ _ _=>9;let m45:=dH X G a45;let b46:=Xg.binds (ps:=["p","words"]) λ_ _ _ _ _ _=>mn λ_ _=>9;let m46:=dH X G a46;exact#[fnOf "law" "law" (tG tV) (nQ tV) (cj tV) .none WB WC WD Wz Nu WE,λs v=>.of_eq 9,λbase _ _ bb cc=>aiy F47 T (abW W3) k33 b33 m33 (agd Xf T (Wa NB T (Vc NC) Xc Xx Xy) Xb Xv Xw (agc Xe T (Wa NB T (Vc NC) Xc Xx Xy) Xb Xv Xw (af3 Xd) k43 b43 m43) k44 b44 m44) k45 b45 m45 (ac6 Xa T (acV W8 T (Rp Nz T (QZ NA T) W5 Xt Xu) W4 Xr Xs) k38 b38 m38 (acS W9) k39 b39 m39 (acO W7) k37 b37 m37 (acG W6 T (Rp Nz T (QZ NA T) W5 Xt Xu) W4 Xr Xs) k36 b36 m36) k40 b40 m40 (ahl WI (jx X G hx1).rt (jx X G hx1).oR (jx X G hx1).hN 19 (jx X G hx1).srt (Ug Nv (w8 F9 T (jx X G hx1).pt) k9 b9 m9 (Ud CI) CI Xj Xk) WG Xh Xi (UB Nw (jx X G hx1).rt (Ut Nx T (jx X G hx1).lt) WK Xn Xo (UA Ny (FY F7 (FV CJ (Fh F8 (w8 F9 T (jx X G hx1).pt) k9 b9 m9) k8 b8 m8 (FU uy (jx X G hx1).sd (FQ CL) Hj Hr Hs (FR CK) Hi Ho Hq) uy Hm Hn) Hh Hk Hl) k7 b7 m7) WM Xp Xq) WJ Xl Xm) k17 b17 m17 (afm WH (Ug Nv (w8 F9 T (jx X G hx1).pt) k9 b9 m9 (Ud CI) CI Xj Xk) WG Xh Xi (UB Nw (jx X G hx1).rt (Ut Nx T (jx X G hx1).lt) WK Xn Xo (UA Ny (FY F7 (FV CJ (Fh F8 (w8 F9 T (jx X G hx1).pt) k9 b9 m9) k8 b8 m8 (FU uy (jx X G hx1).sd (FQ CL) Hj Hr Hs (FR CK) Hi Ho Hq) uy Hm Hn) Hh Hk Hl) k7 b7 m7) WM Xp Xq) WJ Xl Xm (afg WN (afe WO (Sn F1 T) k1 b1 m1) k22 b22 m22) k21 b21 m21) k16 b16 m16 (agv Xg T (jx X G hx1).rev) k46 b46 m46 (agr W0 (agq W2) k32 b32 m32 (FY F7 (FV CJ (Fh F8 (w8 F9 T (jx X G hx1).pt) k9 b9 m9) k8 b8 m8 (FU uy (jx X G hx1).sd (FQ CL) Hj Hr Hs (FR CK) Hi Ho Hq) uy Hm Hn) Hh Hk Hl) k7 b7 m7 (aeu WQ (aes WR (abu a24 l24<|QL hs1) (cc _ du) bb (adH WU) k25 b25 m25 (w8 F9 T (jx X G hx1).pt) k9 b9 m9 (aej WV (jx X G hx1).bx (adD WW (Lh F4 T F2 b2 m2 F1 b1 m1 F3 b3 m3 F6 b6 m6 F5 b5 m5) k4 b4 m4) k27 b27 m27 (ad0 WX (Lh F4 T F2 b2 m2 F1 b1 m1 F3 b3 m3 F6 b6 m6 F5 b5 m5) k4 b4 m4) k28 b28 m28 (aeh WY T (Lh F4 T F2 b2 m2 F1 b1 m1 F3 b3 m3 F6 b6 m6 F5 b5 m5) k4 b4 m4 (aed WZ T) k30 b30 m30) k29 b29 m29 (aiA F7 (FV CJ (Fh F8 (w8 F9 T (jx X G hx1).pt) k9 b9 m9) k8 b8 m8 (FU uy (jx X G hx1).sd (FQ CL) Hj Hr Hs (FR CK) Hi Ho Hq) uy Hm Hn) Hh Hk Hl) k7 b7 m7) k26 b26 m26) k24 b24 m24) k23 b23 m23) k31 b31 m31]
def walk{l:PySem.W.OpenLaw}{q:Program}{yi:1 Str}{XP:(Str->7 5)->6 Heap}{YP:World->6 Heap}{d:DefRec}{K:Params->Frag}(hn:l.most=0 63)(AJ:d.params.defaults=[])
  (hY:∀(w:World)(h:Heap),YP w h->(K w.params).In h) (noT:∀w:World,PySem.W.noTabs (K w.params)=6)
  (hT:∀(w:World){Bh:ExcName->7 5}{lo:1 Str}{mg mb:Str->7 5}{h:Heap},PyProof.Rows.Top q lo Bh mg mb h->(K w.params).In h->PySem.W.TabsAt [pL (K w.params) "forms"] h)
  (F:∀(w:World)(mg:Str->7 5)(fa:Addr)(h:Heap),(K w.params).In h->h.Ns mainGlobals mg->mg d.name=8 fa->
   ∃fd:FuncData,(∀(s:Shared)(u:Value),BindsTo s fd #[[u],[]] [("script",u)])/\∀base:Heap,(K w.params).In base->base.Ns mainGlobals mg->uY mg base->(∀q∈[pL (K w.params) "forms"],CodeHd base q.1 q.2)->bQ l.prog w (K w.params) mg base bX 13 fa fd ["script"] (Hg (K w.params) (pL (K w.params) "forms").2)) :
  PySem.W.WalkO q yi XP YP l.row.toRowW d [] (λf vs=>PySem.call f vs):=(L2.abA (n:=63) (k:=13) (x := "script") (tabs:=λw=>[pL (K w.params) "forms"]) (sp:=λw=>Hg (K w.params) (pL (K w.params) "forms").2) hn (by decide) AJ #[9,16,16] hY noT hT F λ_ _ a ns hl hS yR=>#[a,ns,9,hS,hl,.inl<|yR _ du,λ_=>9])
end S21
end
structure PySem.W.Fast:Prop where
 (tw10007923876099994514 tw8273032387930240529 tw16706631059972541804 tw2498689173038003831 tw11033180072777557786 tw15978750430711707472 tw9628638850898801391 tw12912213307719470249 tw15743035302886407046 tw10434624035017000947 tw8471923987582304259 tw16442224499286017984 tw5184925770010064919 tw4696614627116777381 tw1411827703768348719 tw14977317066129879375 tw12365275758276421495 tw10089607643424382938 tw7509846299812396920 tw15357116323294388880 tw7154105529983580002 tw1319451226177402850 tw439470233038336975 tw283843412956526862 tw15064431653267535138 tw11600230801618611654 tw15986541701308531624 tw4997308058646652483 tw7049019212388548099 tw17328547136716978807 tw1063408808889612273 tw11456748527265853163 tw17808639905856844277 tw13205821570285666612 tw17142700086583177217 tw181222682681113018 tw6821607183084191005 tw12905185731316862922 tw18211470089319539487 tw11642691878515249845 tw8955530321245920932 tw17068815659625669955 tw4815982171373398113 tw13694370784344792042 tw1531285230183019996 tw17093508854046306999 tw11113939185468391207 tw9036395012964397052 tw9734271414260618180 tw11363646889869362229 tw14277937725912033110 tw9594438453766066673 tw2327828105093729076 tw6756259995746686354 tw16543936396742094974 tw13365779588684421135 tw13072780081694621308 tw8391810973275844233 tw2160122540389715664 tw8973409484189901093 tw10046056897310202274 tw7408727131547276994 tw6539727473401815427 tw8756524345202489750 tw14468223416172993780 tw2245664017078672916 tw10795201033835174266 tw12590882210754673391 tw16515651473697194472 tw734944063544413963 tw16409848139421583014 tw7820048961617053154 tw18122571112345208274 tw16878999263057124436 tw3484238669625879169 tw10184437137086127795 tw10233397934700909013 tw17997653709050519467 tw17377060703983676637 tw14923845263325328863 tw11819826044342163597 tw17408697289548698154 tw8022864392054546769 tw4544024184396128225 tw1566084305089060777 tw9911966941571985294 tw2382947698164266962 tw16369836291750730772 tw9068342589150809159 tw16666318814433111646 tw7132185283308888873 tw5757593089218694504 tw6377851039712204249 tw10828778121086760466 tw9488339765884144247 tw3387407795955431143 tw17630586393405076962 tw9489424702905172198 tw14374061464738783374 tw17123178161064924275 tw4656727270842806370 tw14775783487835899569 tw8473527735820805125 tw2624113556311400457 tw7202246146920064781 tw17038200156250294164 tw7962989794287872104 tw11133396983117320805 tw475809054568517005 tw1078273011849328753 tw17646640507088196647 tw11187612811415907201 tw13632832563388295862 tw17392061460259503058 tw679553919660337516 tw3040409930575814707 tw6560684136553530439 tw2124503777183905801 tw10375995034779186695 tw9565088932176908667 tw750740428456253024 tw2889642504056637090 tw13625606688818005447 tw337868136373379517 tw3879130958971167074 tw5028641360162386717 tw12673781558119751044 tw15415006008841953223 tw12424130552116531411 tw10997188131926099400 tw14668716971666176614 tw10116287183758539858 tw2281486904252934069 tw1525423519872111284 tw4217925681967223818 tw16126537440526297906 tw3579467597427103368 tw14176794829569075478 tw13895293182538954113 tw2644425792803350845 tw10046084811089541012 tw8546660272515781181 tw8267071071973071425 tw10701854052417337129 tw281530331571597051 tw14354523313588151247 tw1525022389170704890 tw849246638183588944 tw1318782652120360134 tw656005682004443797 tw4196284290513561314 tw11364706089293444386 tw7451336222137056818 tw11254890201557461760 tw1881791630991841552 tw1369205058530237397 tw15694588954384537036 tw13276229038274503649 tw3545015682054419346 tw13117826073693235458 tw16897087459824018552 tw14945027833342240391 tw33123284012681273 tw3389762181355807884 tw12609553590975024424 tw14829082165856598659 tw6730240714440540049 tw3645096336887915979 tw14392999705803868138 tw16322728737450118326 tw7553530692630853869 tw13111066990964283347 tw11666941332915318100 tw8182017043003872238 tw6429858865041366887 tw5270324362061654001 tw10657069376123920904 tw14136683274242422148 tw8428703979067082587 tw16106913953994624883 tw14688543424691756931 tw9658845012143750051 tw1779344235006977640 tw8318868925578267189 tw17228070123630389133 tw3883516797772936295 tw10067076400988404685 tw9750851015042527902 tw10904857314857849825 tw14734444106804332136 tw4442785924021482105 tw3803663505325811199 tw15754782337758530300 tw5422043672727461293 tw17663184592318709671 tw10832323235115873384 tw18393111461101666106 tw12886161463413894584 tw6175525414509781564 tw18401798959680153028 tw1390414616895242593 tw12060253735989191036 tw10443804565227035965 tw10387265924219924896 tw9797448408186387114 tw4231462824921392098 tw3510458764617076953 tw14885155528605834825 tw15450178416037150386 tw17883333307713982606 tw16043215739702533248 tw13085128081035864203 tw6552443697552472238 tw9025575041328505436 tw5317409338742055902 tw10612489232943992459 tw362457357524444618 tw2040965638864164904 tw4451299096877364995 tw2477529953302428020 tw13417428456447546478 tw5415015332052285993 tw2235425098075490884 tw110487751323848814 tw3824326782660483335 tw11619754977042361141 tw16677082467312087598 tw11801612666451361728 tw37045885374011998 tw14854473562294477730 tw7157804121319697959 tw29416400944867189 tw2493035538541752450 tw12143122780109425601 tw4643433357177275688 tw10315015047841156742 tw3672328848721383039 tw2349426296769309292 tw12980504820336650829 tw10936813891083453520 tw12306382345011783554 tw2865297730246429571 tw14121251513617155619 tw7324883515955087339 tw16925912371614699004 tw10830740454801325313 tw1209338889899753437 tw14031136459946555242 tw4595032414314081803 tw405988926097293833 tw9331626052221401593 tw6811857657981809154 tw112225041085862288 tw2383920818803733615 tw1610495741281185649 tw6227524059532161141 tw16213682193470425724 tw143465712755182350 tw11575317816303347740 tw5242981409609130945 tw17626062844890282209 tw2816580090671409039 tw11768106556560142469 tw18172147080529072587 tw11101826112598800422 tw782909086770356203 tw5396664776582597626 tw2094583787762386583 tw1548551413418642404 tw15434435664927843004 tw14057975781348021459 tw9978154552201422334 tw4228659194710918012 tw3206960474153863592 tw14731629351423047260 tw13626946279464965597 tw116123303862455069 tw119664071870136551 tw1595091771516911569 tw2858576781233763605 tw4442708639721042297 tw1037856321226451308 tw8473907083650658693 tw12449916801522826213 tw2624680448541777858 tw12324251914038782824 tw10152272993111451665 tw6261582238610078363 tw6414752715732448180 tw2975509044726009330 tw216381182657417432 tw17150273653104689658 tw7878679281857332720 tw4293353950042614239 tw8423881084371479709 tw7697905236638202519 tw7282281445029181375 tw15902021868947307340 tw7561116675998015317 tw6809639605478518636:True)
open PySem PySem.W PyProof.Rows
set_option maxRecDepth 100000 in
set_option maxHeartbeats 0 in
theorem PySem.Challenge.cw_bentwires_k53_whole_moves_keep_holds : PySem.Challenge.rw_bentwires_k53_whole_moves_keep.Holds := by
 w_on;o_law;k_head;(case hw=>w_witness2)
 k_fill
 refine S21.walk (l:=PySem.Challenge.rw_bentwires_k53_whole_moves_keep) rfl rfl (fun w h Y=>PySem.W.km_in_of Y) ?noT ?hT ?F
 (case noT=>exact fun w=>by kernel_rfl)
 (case hT=>exact fun w {_ _ _ _ _} T X=>L2.tabs_cons T X rfl (by kernel_rfl) (L2.tabs_nil))
 case F =>
  intro w mg fa h KX G hmg
  refine' S21.all_mk KX G hmg ?_ ?_ ?_ ?_ ?_ ?_ ?_ ?_ ?_ ?_ ?_ ?_ ?_ ?_ ?_ ?_ ?_ ?_ ?_ ?_ ?_ ?_ ?_ ?a24 ?l24 ?c24 ?k24 ?_ ?_ ?_ ?_ ?_ ?_ ?_ ?_ ?_ ?_ ?_ ?_ ?_ ?_ ?_ ?_ ?_ ?_ ?_ ?_ ?_ ?_ ?a47 ?l47 ?c47 ?k47 ?z1 ?z2 ?z3 ?z4 ?z5 ?z6 ?z7 ?z8 ?z9 ?z10 ?z11 ?z12 ?z13 ?z14 ?z15 ?hs1 ?hx1
  (case a24=>k_is)
  (case l24=>k_is)
  (case c24=>k_is)
  (case k24=>k_is)
  (case a47=>k_is)
  (case l47=>k_is)
  (case c47=>k_is)
  (case k47=>k_is)
  (case hs1=>kernel_rfl)
  (case hx1=>kernel_rfl)
  any_goals refine' S21.FA.of ?_ ?_ ?_ ?_
  any_goals k_is
