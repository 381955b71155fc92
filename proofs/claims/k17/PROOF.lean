import PyProof.Rows.All
import Wide.All
import Wide.FinOn
import OpenK.KLine
import KE.KPairTest
import KE.KDictSum
import KE.KDictOf
import KE.KRevSl
import KE.KDictList
import KE.KIsAll
import KE.KPairComp
import KE.KItem
import PyProof.EqAt
import PyProof.EqKinds
import PyProof.TupleCall
import OpenK.AllK
import KE.KSortTup
import KE.KSortAsk
import PySem.Challenge.RW_strongboxes_k17_orders_that_bear_events
set_option Elab.async false
set_option linter.all false
set_option maxRecDepth 100000
set_option maxHeartbeats 4000000
set_option autoImplicit true
set_option relaxedAutoImplicit true
section
open PySem PySem.W PyProof.Rows
abbrev AAA:=@wpAny_bind
abbrev AAB:=@wpAny_pure
abbrev AAC:=@Heap.get?_push_of_some
abbrev AAD:=@Heap.get?_push_size
abbrev AAE:=@Nat.le_refl
abbrev AAF:=@List.length_map
abbrev AAG:=@List.length_append
abbrev AAH:=@List.length_cons
abbrev AAI:=@List.mem_cons
abbrev AAJ:=@List.mem_append
abbrev AAK:=@List.mem_singleton
abbrev AAL:=@List.mem_map
abbrev AAM:=@Nat.lt_of_lt_of_le
abbrev AAN:=@decide_eq_false
abbrev AAO:=@decide_eq_true
abbrev AAP:=@List.mem_cons_self
abbrev AAQ:=@List.mem_cons_of_mem
abbrev AAR:=@List.getElem?_append_right
abbrev AAS:=@List.getElem?_append_left
abbrev AAT:=@List.getElem?_eq_some_iff
abbrev AAU:=@List.mem_of_getElem?
abbrev AAV:=@List.getElem?_map
abbrev AAW:=@List.map_cons
abbrev AAX:=@List.map_append
abbrev AAY:=@Int.emod_nonneg
abbrev AAZ:=@Int.emod_lt_of_pos
abbrev AAa:=@List.append_nil
abbrev AAb:=@List.mem_append_right
abbrev AAc:=@List.mem_append_left
abbrev AAd:=@wpAny_call_entry
abbrev AAe:=@Nat.ne_of_lt
abbrev AAf:=@beq_eq_false_iff_ne
abbrev AAg:=@List.set_append_right
abbrev AAh:=@Bool.false_ne_true
abbrev AAi:=@Nat.lt_succ_of_lt
abbrev AAj:=@wpAny_mono
abbrev AAk:=@Nat.zero_le
abbrev AAl:=@List.replicate_succ
abbrev AAm:=@List.append_assoc
abbrev AAn:=@List.length_replicate
abbrev AAo:=@List.getElem?_set_ne
abbrev AAp:=@wpAny_holding
abbrev AAq:=@wpAny_setField_rec
abbrev AAr:=@wpAny_newObj_type
abbrev AAs:=@Nat.lt_of_le_of_lt
abbrev AAt:=@Nat.le_trans
abbrev AAu:=@List.getElem?_eq_getElem
abbrev AAv:=@wpAny_field
abbrev AAw:=@Nat.sub_self
abbrev AAx:=@List.length_set
abbrev AAy:=@Nat.lt_irrefl
end
noncomputable def PySem.W.Fast.tw17468536749862862897:Nat:=0
noncomputable def PySem.W.Fast.tw4298587087181256620:Nat:=0
noncomputable def PySem.W.Fast.tw3246897665908563532:Nat:=0
noncomputable def PySem.W.Fast.tw9114169166289412456:Nat:=0
noncomputable def PySem.W.Fast.tw11335973034038592139:Nat:=0
noncomputable def PySem.W.Fast.tw11344470198706371458:Nat:=0
noncomputable def PySem.W.Fast.tw11945060357857366473:Nat:=0
noncomputable def PySem.W.Fast.tw11548013248029876516:Nat:=0
noncomputable def PySem.W.Fast.tw6719950659437178209:Nat:=0
noncomputable def PySem.W.Fast.tw1479074265256531060:Nat:=0
noncomputable def PySem.W.Fast.tw4280185745773253916:Nat:=0
noncomputable def PySem.W.Fast.tw4853758670622411418:Nat:=0
noncomputable def PySem.W.Fast.tw7270258786357434167:Nat:=0
noncomputable def PySem.W.Fast.tw18373024613910437704:Nat:=0
noncomputable def PySem.W.Fast.tw18300390646792791886:Nat:=0
noncomputable def PySem.W.Fast.tw6803925019491035300:Nat:=0
noncomputable def PySem.W.Fast.tw17104930178090387426:Nat:=0
noncomputable def PySem.W.Fast.tw1373478694498644101:Nat:=0
noncomputable def PySem.W.Fast.tw4845988193389468393:Nat:=0
noncomputable def PySem.W.Fast.tw9399409166445749481:Nat:=0
noncomputable def PySem.W.Fast.tw17358496628926383699:Nat:=0
noncomputable def PySem.W.Fast.tw13034951479458569237:Nat:=0
noncomputable def PySem.W.Fast.tw4345921111611238997:Nat:=0
noncomputable def PySem.W.Fast.tw5108118979147688381:Nat:=0
noncomputable def PySem.W.Fast.tw24795097093284398:Nat:=0
noncomputable def PySem.W.Fast.tw3996034548505753724:Nat:=0
noncomputable def PySem.W.Fast.tw4246336935154739016:Nat:=0
noncomputable def PySem.W.Fast.tw3871525864900206891:Nat:=0
noncomputable def PySem.W.Fast.tw4232763674060320315:Nat:=0
noncomputable def PySem.W.Fast.tw13342165713450551650:Nat:=0
noncomputable def PySem.W.Fast.tw2367078785638090911:Nat:=0
noncomputable def PySem.W.Fast.tw16762583487921304424:Nat:=0
noncomputable def PySem.W.Fast.tw17388401896923326076:Nat:=0
noncomputable def PySem.W.Fast.tw15820913285479637096:Nat:=0
noncomputable def PySem.W.Fast.tw16278183637192183421:Nat:=0
noncomputable def PySem.W.Fast.tw842811879109056693:Nat:=0
noncomputable def PySem.W.Fast.tw1067316052822011292:Nat:=0
noncomputable def PySem.W.Fast.tw1524724979197519718:Nat:=0
noncomputable def PySem.W.Fast.tw2764952892328158381:Nat:=0
noncomputable def PySem.W.Fast.tw12854876978916467040:Nat:=0
noncomputable def PySem.W.Fast.tw656376138282566833:Nat:=0
noncomputable def PySem.W.Fast.tw2555790994134002130:Nat:=0
noncomputable def PySem.W.Fast.tw649187993764820888:Nat:=0
noncomputable def PySem.W.Fast.tw12846597524340209581:Nat:=0
noncomputable def PySem.W.Fast.tw9703385073013635736:Nat:=0
noncomputable def PySem.W.Fast.tw9898043518351124599:Nat:=0
noncomputable def PySem.W.Fast.tw5497465087525310360:Nat:=0
noncomputable def PySem.W.Fast.tw4208049096402200725:Nat:=0
noncomputable def PySem.W.Fast.tw7268030798956411864:Nat:=0
noncomputable def PySem.W.Fast.tw8600384040591208423:Nat:=0
noncomputable def PySem.W.Fast.tw1419317123903887519:Nat:=0
noncomputable def PySem.W.Fast.tw10971578676076574006:Nat:=0
noncomputable def PySem.W.Fast.tw14404876965836040839:Nat:=0
noncomputable def PySem.W.Fast.tw13428591159479001558:Nat:=0
noncomputable def PySem.W.Fast.tw4801895054635438578:Nat:=0
noncomputable def PySem.W.Fast.tw11579850020068339995:Nat:=0
noncomputable def PySem.W.Fast.tw12786012128209951912:Nat:=0
noncomputable def PySem.W.Fast.tw16988271082333856436:Nat:=0
noncomputable def PySem.W.Fast.tw14476584564500847634:Nat:=0
noncomputable def PySem.W.Fast.tw8405094576954980078:Nat:=0
noncomputable def PySem.W.Fast.tw3996826667340097007:Nat:=0
noncomputable def PySem.W.Fast.tw9420493493027382774:Nat:=0
noncomputable def PySem.W.Fast.tw7572082715494653735:Nat:=0
noncomputable def PySem.W.Fast.tw13267035910094524433:Nat:=0
noncomputable def PySem.W.Fast.tw11375539563672556042:Nat:=0
noncomputable def PySem.W.Fast.tw6202790590193147778:Nat:=0
noncomputable def PySem.W.Fast.tw6817107740905147931:Nat:=0
noncomputable def PySem.W.Fast.tw7658050526762059324:Nat:=0
noncomputable def PySem.W.Fast.tw15080283487966580149:Nat:=0
noncomputable def PySem.W.Fast.tw3773642610759225957:Nat:=0
noncomputable def PySem.W.Fast.tw11553101117021698387:Nat:=0
noncomputable def PySem.W.Fast.tw4338823601617162100:Nat:=0
noncomputable def PySem.W.Fast.tw8068935415361812939:Nat:=0
noncomputable def PySem.W.Fast.tw12119883360757314219:Nat:=0
noncomputable def PySem.W.Fast.tw7129344078357793306:Nat:=0
noncomputable def PySem.W.Fast.tw8483969026593100822:Nat:=0
noncomputable def PySem.W.Fast.tw6221580277615037508:Nat:=0
noncomputable def PySem.W.Fast.tw5151526276832869124:Nat:=0
noncomputable def PySem.W.Fast.tw6670099301935351179:Nat:=0
noncomputable def PySem.W.Fast.tw13042698617253904228:Nat:=0
noncomputable def PySem.W.Fast.tw18121205878744168801:Nat:=0
noncomputable def PySem.W.Fast.tw2546511315974780982:Nat:=0
noncomputable def PySem.W.Fast.tw6241376428183953858:Nat:=0
noncomputable def PySem.W.Fast.tw13159760687853750237:Nat:=0
noncomputable def PySem.W.Fast.tw16593337659625503689:Nat:=0
noncomputable def PySem.W.Fast.tw16413357939797916869:Nat:=0
noncomputable def PySem.W.Fast.tw5898993170258207406:Nat:=0
noncomputable def PySem.W.Fast.tw9271902524015381203:Nat:=0
noncomputable def PySem.W.Fast.tw16607982663095254046:Nat:=0
noncomputable def PySem.W.Fast.tw905142393989336628:Nat:=0
noncomputable def PySem.W.Fast.tw14926267342747276802:Nat:=0
noncomputable def PySem.W.Fast.tw8954077072859068644:Nat:=0
noncomputable def PySem.W.Fast.tw7462593072487302170:Nat:=0
noncomputable def PySem.W.Fast.tw6507777075161411911:Nat:=0
noncomputable def PySem.W.Fast.tw11233340421523148967:Nat:=0
noncomputable def PySem.W.Fast.tw3444410064445468938:Nat:=0
noncomputable def PySem.W.Fast.tw8196822339046253188:Nat:=0
noncomputable def PySem.W.Fast.tw8458806277813575442:Nat:=0
noncomputable def PySem.W.Fast.tw3027186964789997155:Nat:=0
noncomputable def PySem.W.Fast.tw7490142432747909481:Nat:=0
noncomputable def PySem.W.Fast.tw12066563868394075952:Nat:=0
noncomputable def PySem.W.Fast.tw8982656999276071792:Nat:=0
noncomputable def PySem.W.Fast.tw2209749245169929416:Nat:=0
noncomputable def PySem.W.Fast.tw10701631398904984022:Nat:=0
noncomputable def PySem.W.Fast.tw18300835373878964733:Nat:=0
noncomputable def PySem.W.Fast.tw15450858465381974604:Nat:=0
noncomputable def PySem.W.Fast.tw8863969931867674499:Nat:=0
noncomputable def PySem.W.Fast.tw3997068542798317838:Nat:=0
noncomputable def PySem.W.Fast.tw12625700897148077347:Nat:=0
noncomputable def PySem.W.Fast.tw12786814926660850254:Nat:=0
noncomputable def PySem.W.Fast.tw9826874352108613422:Nat:=0
noncomputable def PySem.W.Fast.tw5272610519073228937:Nat:=0
noncomputable def PySem.W.Fast.tw16149826532657782809:Nat:=0
noncomputable def PySem.W.Fast.tw7052515484293512889:Nat:=0
noncomputable def PySem.W.Fast.tw5809748211915067016:Nat:=0
noncomputable def PySem.W.Fast.tw7135590504271915442:Nat:=0
noncomputable def PySem.W.Fast.tw3836963525791867100:Nat:=0
noncomputable def PySem.W.Fast.tw18202146184549078657:Nat:=0
noncomputable def PySem.W.Fast.tw12627008316699372893:Nat:=0
noncomputable def PySem.W.Fast.tw4582545480282430707:Nat:=0
namespace L2
open PySem PySem.Spec PyProof.Rows
abbrev Key:=Sum Int Str
noncomputable def J9:Key->Value->Bool
 | .inl k,v=>Value.isInt k v
 | .inr x,v=>Value.isStrOf x v
noncomputable def bH(w:World):Key->Int
 | .inl k=>hashInt k
 | .inr x=>hashStr w x
theorem B7:∀{k:Key} {v:Value},J9 k v=true->(∃i t,k=Sum.inl i/\v=Value.int i t)∨(∃x t,k=Sum.inr x/\v=Value.str x t)
 | .inl i,v,h=>by
  obtain⟨t,e⟩:=Value.isInt_shape (k:=i) (v:=v) h;exact .inl ⟨i,t,rfl,e⟩
 | .inr x,v,h=>by
  obtain⟨t,e⟩:=Value.isStrOf_shape (x:=x) (v:=v) h;exact .inr ⟨x,t,rfl,e⟩
theorem P5(i:Int)(t:Tok):J9 (.inl i) (.int i t)=true:=by simp[J9,Value.isInt]
theorem P4(x:Str)(t:Tok):J9 (.inr x) (.str x t)=true:=by simp[J9,Value.isStrOf]
theorem YL(a b:Int):decide ((Sum.inl a:Key)=Sum.inl b)=(a==b):=by
 by_cases e:a=b
 ·subst e;simp
 ·have h:¬(Sum.inl a:Key)=Sum.inl b:=λq=>e (Sum.inl.inj q);rw[AAN h];exact(AAf.mpr e).symm
theorem YI(a b:Str):decide ((Sum.inr a:Key)=Sum.inr b)=decide (a=b):=by
 by_cases e:a=b
 ·subst e;simp
 ·have h:¬(Sum.inr a:Key)=Sum.inr b:=λq=>e (Sum.inr.inj q);rw[AAN h,AAN e]
theorem YK(a:Int)(b:Str):decide ((Sum.inl a:Key)=Sum.inr b)=false:=AAN (λq=>nomatch q)
theorem YJ(a:Str)(b:Int):decide ((Sum.inr a:Key)=Sum.inl b)=false:=AAN (λq=>nomatch q)
noncomputable def CM(prog:Program)(w:World):PySem.KeyKind prog w Key where
 is:=J9
 hash:=bH w
 inj:=λv a b ha hb=>by
  rcases B7 ha with ⟨i,t,rfl,rfl⟩|⟨x,t,rfl,rfl⟩
  ·rcases B7 hb with ⟨j,u,rfl,e⟩|⟨y,u,rfl,e⟩
   ·injection e with e1 _;rw[e1]
   ·exact nomatch e
  ·rcases B7 hb with ⟨j,u,rfl,e⟩|⟨y,u,rfl,e⟩
   ·exact nomatch e
   ·injection e with e1 _;rw[e1]
 byValue:=λk v h=>by
  rcases B7 h with ⟨i,t,rfl,rfl⟩|⟨x,t,rfl,rfl⟩<;>rfl
 pyHash:=λhv h=>by
  rcases B7 hv with ⟨i,t,rfl,rfl⟩|⟨x,t,rfl,rfl⟩
  ·exact wpAny_pyHash_int h
  ·exact wpAny_pyHash_str h
 eqBool:=λhu hv h=>by
  rcases B7 hu with ⟨i,t,rfl,rfl⟩|⟨x,t,rfl,rfl⟩
  ·rcases B7 hv with ⟨j,u,rfl,rfl⟩|⟨y,u,rfl,rfl⟩
   ·rw[YL] at h;exact wpAny_eqBool_int h
   ·rw[YK] at h;exact SeqAt.EqAt.int_str i t y u _ _ _ _ h
  ·rcases B7 hv with ⟨j,u,rfl,rfl⟩|⟨y,u,rfl,rfl⟩
   ·rw[YJ] at h;exact SeqAt.EqAt.str_int x t j u _ _ _ _ h
   ·rw[YI] at h;exact wpAny_eqBool_str h
 «strs»:=λk x t v h=>by
  rcases B7 h with ⟨i,u,rfl,e⟩|⟨y,u,rfl,e⟩
  ·exact nomatch e
  ·injection e with e1 _
   subst e1;cases v<;>rfl
theorem MG(prog:Program)(w:World)(i:Int)(t:Tok):(CM prog w).is (.inl i) (.int i t)=true:=P5 i t
theorem MF(prog:Program)(w:World)(x:Str)(t:Tok):(CM prog w).is (.inr x) (.str x t)=true:=P4 x t
inductive V where
 |non|bl (b:Bool)|int (i:Int)|str (x:Str)|byt (b:Array UInt8)|flt (b:UInt64)|ref (a:Addr)|ty (n:String)
 deriving DecidableEq
def RelV:V->Value->Prop
 | .non,u=>u=Value.none
 | .bl b,u=>u=Value.bool b
 | .int i,u=>∃t,u=Value.int i t
 | .str x,u=>∃t,u=Value.str x t
 | .byt b,u=>∃t,u=Value.bytes b t
 | .flt b,u=>∃t,u=Value.float b t
 | .ref a,u=>u=Value.ref a
 | .ty n,u=>u=Value.type n
abbrev Vals:List V->List Value->Prop:=Paired RelV
theorem Vals.length(r:Vals xs us):xs.length=us.length:=Paired.length r
theorem Vals.get:∀{xs:List V} {us:List Value} {i:Nat} {x:V},Vals xs us->xs[i]?=some x->∃u,us[i]?=some u/\RelV x u
 |_,_,_,_,.nil,e=>by simp at e
 |_,_,0,_,.cons r _,e=>by simp at e;subst e;exact⟨_,rfl,r⟩
 |_,_,i+1,x,.cons _ t,e=>by
  obtain⟨u,h1,h2⟩:=Vals.get (i:=i) (x:=x) t (by simpa using e);exact⟨u,by simpa using h1,h2⟩
theorem Vals.set(r:RelV x u):∀{xs:List V} {us:List Value} (i:Nat),Vals xs us->Vals (xs.set i x) (us.set i u)
 |_,_,_,.nil=>.nil
 |_,_,0,.cons _ t=>.cons r t
 |_,_,i+1,.cons q t=>.cons q (Vals.set r i t)
theorem Vals.append:∀{xs ys:List V} {us ws:List Value},Vals xs us->Vals ys ws->Vals (xs++ys) (us++ws)
 |_,_,_,_,.nil,s=>s
 |_,_,_,_,.cons r t,s=>.cons r (Vals.append t s)
theorem Vals.take:∀{xs:List V} {us:List Value} (n:Nat),Vals xs us->Vals (xs.take n) (us.take n)
 |_,_,0,_=>.nil
 |_,_,_+1,.nil=>.nil
 |_,_,n+1,.cons r t=>.cons r (Vals.take n t)
theorem Vals.drop:∀{xs:List V} {us:List Value} (n:Nat),Vals xs us->Vals (xs.drop n) (us.drop n)
 |_,_,0,r=>r
 |_,_,_+1,.nil=>.nil
 |_,_,n+1,.cons _ t=>Vals.drop n t
noncomputable def RelO:Option V->Option Value->Prop
 |some v,some u=>RelV v u
 |none,none=>True
 |_,_=>False
noncomputable def KV{κ:Type}:List (κ×V)->List (κ×Value)->Prop:=Paired λ(p:κ×V) (q:κ×Value)=>p.1=q.1/\RelV p.2 q.2
noncomputable def kV:Key->V
 | .inl i=>.int i
 | .inr x=>.str x
inductive HO where
 |lst (xs:List V)
 |tup (xs:List V)
 |dK (kvs:List (Key×V))|dT (kvs:List (List Key×V))
 |set (S:Int->Bool) (n:Nat)
 |ins (C dx:Addr) (fs:List (Str×V))
 |own (x:Addr)
 |xd (fs:List (Str×V))
 |met (f x:Addr)
 |rng (lo hi:Int)
 |frz (o:Obj) (u:HO)
 |tbl (ps:Array Value)
 |ext (φ:Heap->Prop)
abbrev Hp:=Addr->Option HO
noncomputable def upd(H:Hp)(a:Addr)(o:HO):Hp:=λb=>if b=a then some o else H b
theorem Bw:upd H a o a=some o:=by unfold upd;rw[if_pos rfl]
theorem upd_ne(h:b≠a):upd H a o b=H b:=by unfold upd;rw[if_neg h]
theorem Zy{H:Hp}(h:H a=some o)(h':H b=some u)(d:o≠u):a≠b:=by
 intro e;subst e;rw[h] at h';exact d (Option.some.inj h')
theorem C6{H:Hp}(h:H a=some o)(h':H b=none):a≠b:=by
 intro e;subst e;rw[h] at h';cases h'
section
variable(P:Program)(w:World)
noncomputable def ObjOk(H:Hp)(h:Heap)(a:Addr):HO->Prop
 | .lst xs=>xs.length<=sizeLine/\∃(its:List Value) (n:Nat),Vals xs its/\h.get? a=some { cls:=.type "list",data:=.seq its.toArray n }
 | .tup xs=>xs.length<=sizeLine/\∃its:List Value,Vals xs its/\IsTup h a its.toArray
 | .dK kvs=>kvs.length<=sizeLine/\(a==sysModules)=false/\∃vs,KV kvs vs/\h.DictOf (CM P w) a vs
 | .dT kvs=>kvs.length<=sizeLine/\(a==sysModules)=false/\∃xs:List (List Key×Addr×Value),
   Paired (λ(p:List Key×V) (q:List Key×Addr×Value)=>p.1=q.1/\H q.2.1=some (.tup (p.1.map kV))/\RelV p.2 q.2.2) kvs xs /\
   ∃o es ep,h.get? a=some o/\o.ExactDict/\o.data=.dict es ep/\es.toList=xs.map (entryOfKey (tupleKind (CM P w)))/\(xs.map (·.1)).Nodup
 | .set S n=>h.SetOf (intKind P w) a S n
 | .ins C dx fs=>H dx=some (.own a)/\fs.length<=1000/\dx≠a/\h.get? a=some (PySem.W.instObj C dx) /\
   ∃mA,h.Ns1 dx mA/\(∀f,RelO (fs.lookup f) (mA f))/\PySem.Within mA (fs.map (·.1))
 | .own _=>∃o,h.get? a=some o
 | .xd fs=>∃mA,h.Ns1 a mA/\∀f,RelO (fs.lookup f) (mA f)
 | .rng lo hi=>∃t u v,h.get? a=some { cls:=.type "range",data:=.fields #[.int lo t,.int hi u,.int 1 v] }
 | .frz o u=>h.get? a=some o/\ObjOk H h a u
 | .tbl ps=>h.get? a=some { cls:=.none,data:=.fields ps }
 | .met f x=>h.get? a=some (PySem.W.methodObj (.ref f) (.ref x))
 | .ext φ=>φ h/\(∃o,h.get? a=some o)/\∀h1 h2:Heap,φ h1->(∀o,h1.get? a=some o->h2.get? a=some o)->φ h2
def HOk(H:Hp)(h:Heap):Prop:=∀a o,H a=some o->ObjOk P w H h a o
end
section
variable{P:Program}{w:World}{H H':Hp}{h h':Heap}{a:Addr}{o:HO}
theorem ObjOk.lt(x:ObjOk P w H h a o):a<h.objs.size:=by
 cases o with
 |lst xs=>obtain⟨_,_,_,_,e⟩:=x;exact Heap.lt_size e
 |tup xs=>obtain⟨_,_,_,p⟩:=x;exact p.lt
 |dK kvs=>obtain⟨_,_,_,_,o,_,_,e,_⟩:=x;exact Heap.lt_size e
 |dT kvs=>obtain⟨_,_,_,_,o,_,_,e,_⟩:=x;exact Heap.lt_size e
 |set S n=>obtain⟨o,_,_,_,e,_⟩:=x;exact Heap.lt_size e
 |ins C dx fs=>obtain⟨_,_,_,e,_⟩:=x;exact Heap.lt_size e
 |own y=>obtain⟨_,e⟩:=x;exact Heap.lt_size e
 |xd fs=>obtain⟨_,⟨_,_,_,e,_⟩,_⟩:=x;exact Heap.lt_size e
 |rng lo hi=>obtain⟨_,_,_,e⟩:=x;exact Heap.lt_size e
 |frz ob u=>obtain⟨e,_⟩:=x;exact Heap.lt_size e
 |tbl ps=>exact Heap.lt_size (show h.get? a=some _ from x)
 |met f y=>exact Heap.lt_size (show h.get? a=some _ from x)
 |ext φ=>obtain⟨_,⟨_,e⟩,_⟩:=x;exact Heap.lt_size e
theorem Paired.mapP:∀{l₁:List α} {l₂:List β},Paired F l₁ l₂->(∀a b,F a b->G a b)->Paired G l₁ l₂
 |_,_,.nil,_=>.nil
 |_,_,.cons r t,f=>.cons (f _ _ r) (Paired.mapP t f)
theorem ObjOk.stay(x:ObjOk P w H h a o)(k:∀b u,(b=a∨H b=some (.own a))->h.get? b=some u->h'.get? b=some u)
  (ho:∀b,H b=some (.own a)->H' b=some (.own a)) (ht:∀b xs,H b=some (.tup xs)->H' b=some (.tup xs)):ObjOk P w H' h' a o:=by
 induction o with
 |lst xs=>obtain⟨z,its,n,r,e⟩:=x;exact⟨z,its,n,r,k _ _ (.inl rfl) e⟩
 |tup xs=>obtain⟨z,its,r,ob,e,c⟩:=x;exact⟨z,its,r,ob,k _ _ (.inl rfl) e,c⟩
 |dK kvs=>obtain⟨z,y,vs,r,ob,es,ep,e,c⟩:=x;exact⟨z,y,vs,r,ob,es,ep,k _ _ (.inl rfl) e,c⟩
 |dT kvs=>
  obtain⟨z,y,xs,r,ob,es,ep,e,c⟩:=x;exact⟨z,y,xs,Paired.mapP r λp q z=>⟨z.1,ht _ _ z.2.1,z.2.2⟩,ob,es,ep,k _ _ (.inl rfl) e,c⟩
 |set S n=>obtain⟨ob,es,ep,t,e,c⟩:=x;exact⟨ob,es,ep,t,k _ _ (.inl rfl) e,c⟩
 |ins C dx fs=>
  obtain⟨d,z,ne,e,mA,⟨od,es,ep,e2,c⟩,r⟩:=x;exact⟨ho _ d,z,ne,k _ _ (.inl rfl) e,mA,⟨od,es,ep,k _ _ (.inr d) e2,c⟩,r⟩
 |own y=>obtain⟨ob,e⟩:=x;exact⟨ob,k _ _ (.inl rfl) e⟩
 |xd fs=>obtain⟨mA,⟨od,es,ep,e,c⟩,r⟩:=x;exact⟨mA,⟨od,es,ep,k _ _ (.inl rfl) e,c⟩,r⟩
 |rng lo hi=>obtain⟨t,u,v,e⟩:=x;exact⟨t,u,v,k _ _ (.inl rfl) e⟩
 |frz ob u ih=>obtain⟨e,q⟩:=x;exact⟨k _ _ (.inl rfl) e,ih q⟩
 |tbl ps=>
  have e:h.get? a=some { cls:=.none,data:=.fields ps }:=x;show h'.get? a=some { cls:=.none,data:=.fields ps };exact k a _ (.inl rfl) e
 |met f y=>
  have e:h.get? a=some (PySem.W.methodObj (.ref f) (.ref y)):=x;show h'.get? a=some (PySem.W.methodObj (.ref f) (.ref y));exact k a _ (.inl rfl) e
 |ext φ=>obtain⟨p,⟨o,e⟩,st⟩:=x;exact⟨st _ _ p λo q=>k _ _ (.inl rfl) q,⟨o,k _ _ (.inl rfl) e⟩,st⟩
theorem HOk.lt(x:HOk P w H h)(e:H a=some o):a<h.objs.size:=(x a o e).lt
theorem HOk.fresh(x:HOk P w H h)(e:h.objs.size<=a):H a=none:=by
 cases q:H a with
 |none=>rfl
 |some u=>exact absurd (AAM (x.lt q) e) (AAy _)
theorem HOk.kept(x:HOk P w H h)(k:∀b u,h.get? b=some u->h'.get? b=some u):HOk P w H h':=λa o e=>
 (x a o e).stay (λb u _ q=>k b u q) (λ_ q=>q) λ_ _ q=>q
theorem HOk.laid(x:HOk P w H h)(k:∀b u,h.get? b=some u->h'.get? b=some u)(hp:h.objs.size<=a)(new:ObjOk P w (upd H a o) h' a o):HOk P w (upd H a o) h':=λb u e=>by
 have hn:=x.fresh hp;by_cases hb:b=a
 ·subst hb;rw[Bw] at e;cases e;exact new
 ·rw[upd_ne hb] at e;exact(x b u e).stay (λc v _ q=>k c v q) (λc q=>by rw[upd_ne (C6 q hn)];exact q) λc xs q=>by rw[upd_ne (C6 q hn)];exact q
end
def Rd(H:Hp)(a:Addr)(u:HO):Prop:=H a=some u∨∃o,H a=some (.frz o u)
theorem Rd.ok(r:Rd H a u)(x:HOk P w H h):ObjOk P w H h a u:=by
 rcases r with r|⟨o,r⟩
 ·exact x a u r
 ·obtain⟨_,q⟩:=x a _ r;exact q
noncomputable def Mut:Option HO->Prop
 |some (.lst _)=>True
 |some (.dK _)=>True
 |some (.dT _)=>True
 |some (.set _ _)=>True
 |some (.ins _ _ _)=>True
 |some (.ext _)=>True
 |_=>False
section
variable{P:Program}{w:World}{H:Hp}{h h':Heap}{x e:Addr}{o':HO}
theorem HOk.write(ok:HOk P w H h)(mu:Mut (H x))(he:e=x∨H e=some (.own x))(k:∀b u,b≠e->h.get? b=some u->h'.get? b=some u)(heo:∃u,h'.get? e=some u)
  (new:ObjOk P w (upd H x o') h' x o'):HOk P w (upd H x o') h':=λb u q=>by
 have nown:∀c y,H c=some (.own y)->c≠x:=λc y r z=>by subst z;rw[r] at mu;exact mu
 have ntup:∀c xs,H c=some (.tup xs)->c≠x:=λc xs r z=>by subst z;rw[r] at mu;exact mu
 by_cases hb:b=x
 ·subst hb;rw[Bw] at q;cases q;exact new
 ·rw[upd_ne hb] at q;by_cases hbe:b=e
  ·have q':H b=some (.own x):=by
    rcases he with z|z
    ·exact absurd (hbe.trans z) hb
    ·rw[hbe];exact z
   rw[q] at q';cases q';obtain⟨v,hv⟩:=heo;exact⟨v,by rw[hbe];exact hv⟩
  ·refine(ok b u q).stay (λc v hc r=>k c v ?_ r) (λc r=>by rw[upd_ne (nown c b r)];exact r) λc xs r=>by rw[upd_ne (ntup c xs r)];exact r
   rcases hc with rfl|hc
   ·exact hbe
   ·rintro rfl;rcases he with z|z
    ·exact nown c b hc z
    ·rw[hc] at z;cases z;exact hb rfl
end
structure Un(fs ex:List Addr)(H H':Hp)(h h':Heap):Prop where
 keep:∀b o,h.get? b=some o->H b=none->b∉fs->b∉ex->h'.get? b=some o
 slot:∀b o,h.get? b=some o->H b=none->b∈fs->b∉ex->∃sl,h'.get? b=some { o with slots:=sl }
 free:∀b o,h.get? b=some o->H b=none->b∉ex->H' b=none
 there:∀b o,h.get? b=some o->b∉ex->∃o',h'.get? b=some o'
 tups:∀b xs,H b=some (.tup xs)->H' b=some (.tup xs)
 frzs:∀b o u,H b=some (.frz o u)->H' b=some (.frz o u)
 tbls:∀b ps,H b=some (.tbl ps)->∃more,H' b=some (.tbl (ps++more))
section
variable{fs ex:List Addr}{H H1:Hp}{h h1 h':Heap}{a x e:Addr}{o:HO}
theorem Un.any(u:Un fs ex H H1 h h1)(q:h.get? b=some ob)(n:H b=none)(hx:b∉ex):∃sl,h1.get? b=some { ob with slots:=sl }:=by
 by_cases hb:b∈fs
 ·exact u.slot b ob q n hb hx
 ·exact⟨ob.slots,u.keep b ob q n hb hx⟩
theorem Un.kept(k:∀b u,h.get? b=some u->h'.get? b=some u):Un fs ex H H h h':=
 ⟨λb ob q _ _ _=>k b ob q,λb ob q _ _ _=>⟨ob.slots,k b ob q⟩,λ_ _ _ n _=>n,λb ob q _=>⟨ob,k b ob q⟩,λ_ _ q=>q,λ_ _ _ q=>q,λ_ ps q=>⟨#[],by rw[q];simp⟩⟩
theorem Un.refl:Un fs ex H H h h:=Un.kept λ_ _ q=>q
theorem Un.laid(k:∀b u,h.get? b=some u->h'.get? b=some u)(hp:h.objs.size<=a)(hn:H a=none):Un fs ex H (upd H a o) h h' where
 keep:=λb u q _ _ _=>k b u q
 slot:=λb u q _ _ _=>⟨u.slots,k b u q⟩
 free:=λb u q n _=>by rw[upd_ne (AAe (AAM (Heap.lt_size q) hp))];exact n
 there:=λb u q _=>⟨u,k b u q⟩
 tups:=λb xs q=>by rw[upd_ne (C6 q hn)];exact q
 frzs:=λb u xs q=>by rw[upd_ne (C6 q hn)];exact q
 tbls:=λb ps q=>⟨#[],by rw[upd_ne (C6 q hn),q];simp⟩
theorem Un.write(mu:Mut (H x))(he:e=x∨H e=some (.own x))(k:∀b u,b≠e->h.get? b=some u->h'.get? b=some u)(heo:∃u,h'.get? e=some u):Un fs ex H (upd H x o) h h':=by
 have hx:∀b,H b=none->b≠x:=λb n z=>by subst z;rw[n] at mu;exact mu
 have hb:∀b,H b=none->b≠e:=λb n z=>by
  subst z;rcases he with r|r
  ·exact hx b n r
  ·rw[n] at r;cases r
 have hm:∀b u,H b=some u->¬Mut (some u)->b≠x:=λb u q nm z=>by subst z;rw[q] at mu;exact nm mu
 refine⟨λb u q n _ _=>k b u (hb b n) q,λb u q n _ _=>⟨u.slots,k b u (hb b n) q⟩,λb u q n _=>by rw[upd_ne (hx b n)];exact n,λb u q _=>?_,
  λb xs q=>by rw[upd_ne (hm b _ q λz=>z)];exact q,λb u xs q=>by rw[upd_ne (hm b _ q λz=>z)];exact q,λb ps q=>⟨#[],by rw[upd_ne (hm b _ q λz=>z),q];simp⟩⟩
 by_cases hbe:b=e
 ·subst hbe;exact heo
 ·exact⟨u,k b u hbe q⟩
end
noncomputable def trk(h:Heap)(H:Hp):List Addr:=(List.range h.objs.size).filter λa=>(H a).isSome
noncomputable def LH(h:Heap)(H:Hp):Heap:=PySem.W.hideAll h (trk h H)
theorem P9(h:Heap)(H:Hp):(LH h H).objs.size=h.objs.size:=PySem.W.hideAll_size _ _
theorem So(e:h.get? b=some o)(n:H b=none):(LH h H).get? b=some o:=
 PySem.W.hideAll_get _ e λhm=>by
  have q:(H b).isSome=true:=(List.mem_filter.mp hm).2;rw[n] at q;simp at q
theorem VL(e:(LH h H).get? b=some o):h.get? b=some o/\H b=none:=by
 have e':h.get? b=some o:=PySem.W.of_hideAll (trk h H) e;refine⟨e',?_⟩;cases q:H b with
 |none=>rfl
 |some x=>
  have hm:b∈trk h H:=List.mem_filter.mpr ⟨List.mem_range.mpr (Heap.lt_size e'),by simp[q]⟩;have z:(LH h H).get? b=none:=PySem.W.hideAll_none (trk h H) hm;rw[z] at e;cases e
structure Mod(K:PySem.W.Frag)(mg:Str->Option Value)(base:Heap):Prop where
 kin:K.In base
 glob:base.Ns mainGlobals mg
 blt:∃mb,base.Ns builtinsNs mb/\∀x:Str,x ≠ "__name__" -> mb x=bootBuiltins x
 nolimit:base.NoLimit
set_option genInjectivity false in
structure Cx where
 prog:Program
 w:World
 K:PySem.W.Frag
 mg:Str->Option Value
 base:Heap
 A:Around
 N:List Str
 s₀:Shared
 H₀:Hp
 env:Env
 outer:List Env
 stack:List Env
 ex:List Addr
 fn:Str->Bool
 calm:Bool
 pn:List (Addr×Obj)
 xe:Value->Shared->Prop
noncomputable def frs(l:List Env):List Addr:=l.filterMap (·.frame)
noncomputable abbrev Cx.fs(X:Cx):List Addr:=frs X.outer
def Vis(sc:Scope)(x:Str):Prop:=sc.names.lookup x=some .local∨sc.names.lookup x=some .cell∨sc.names.lookup x=some .free
def Loc(sc:Scope)(x:Str):Prop:=sc.names.lookup x=some .local∨sc.names.lookup x=some .cell
def bR(env:Env)(h:Heap)(m:Str->Option Value)(x:Str)(u:Value):Prop:=
 (env.kindOf x=some .local/\m x=some u)∨((env.kindOf x=some .cell∨env.kindOf x=some .free)/\∃c,env.cells.lookup x=some c/\h.IsCell c (some u))
structure Cx.Ok(X:Cx):Prop where
 mod:Mod X.K X.mg X.base
 kind:X.env.scope.kind=.function
 glob:X.env.globals=mainGlobals
 blt:X.env.builtins=builtinsNs
 above:X.s₀.heap.objs.size<=X.env.locals
 inj:∀x y c,X.env.cells.lookup x=some c->X.env.cells.lookup y=some c->x=y
 has:∀x,(X.env.kindOf x=some .cell∨X.env.kindOf x=some .free)->∃c,X.env.cells.lookup x=some c
 cab:∀x c,X.fn x=true->X.env.cells.lookup x=some c->X.s₀.heap.objs.size<=c
 hd:X.calm=true->X.A.handled=none
 frames:X.A.frames=some X.stack
 stk:X.stack=X.outer∨(X.stack=X.env::X.outer/\X.env.frame=some X.env.locals)
 exf:∀b∈X.ex,b≠X.env.locals/\∀x c,X.env.cells.lookup x=some c->c≠b
 bs:∀b o,X.base.get? b=some o->X.s₀.heap.get? b=some o/\X.H₀ b=none
 bsz:X.base.objs.size<=X.s₀.heap.objs.size
 noex:∀b o,X.base.get? b=some o->b∉X.ex
 exfs:∀b∈X.ex,b∉X.fs
 funs:X.s₀.heap.FunFrames X.base X.outer
 frf:∀b∈X.fs,X.H₀ b=none
structure Inv(X:Cx)(w5:List (Addr×Obj))(O:List (Option V))(H:Hp)(s:Shared):Prop where
 ok:X.Ok
 os:s.os=X.s₀.os
 bare:AllBare s.gens
 base:Un X.fs X.ex X.H₀ H X.s₀.heap s.heap
 loc:∃m,s.heap.Ns X.env.locals m/\∀(i:Nat) (x:Str) (v:V),X.N[i]?=some x->O[i]?=some (some v)->Vis X.env.scope x->∃u,RelV v u/\bR X.env s.heap m x u
 cell:∀x c,X.env.cells.lookup x=some c->∃v,s.heap.IsCell c v
 free:H X.env.locals=none
 freeC:∀x c,X.env.cells.lookup x=some c->H c=none
 pin:∀p∈X.pn++w5,s.heap.get? p.1=some p.2/\H p.1=none/\p.1≠X.env.locals/\p.1∉X.fs/\∀v,p.2.data≠.cell v
 hok:HOk X.prog X.w H s.heap
 len:O.length=X.N.length
section
variable{X:Cx}{w5:List (Addr×Obj)}{O:List (Option V)}{H H':Hp}{s:Shared}{h':Heap}
theorem Cx.Ok.nofr(ok:X.Ok)(e:X.base.get? b=some o):b∉X.fs:=λhb=>by
 have:=(ok.funs.mem hb).1;rw[e] at this;cases this
theorem Inv.bs(I:Inv X w5 O H s):∀b o,X.base.get? b=some o->s.heap.get? b=some o/\H b=none:=λb o e=>
 ⟨I.base.keep b o (I.ok.bs b o e).1 (I.ok.bs b o e).2 (I.ok.nofr e) (I.ok.noex b o e),I.base.free b o (I.ok.bs b o e).1 (I.ok.bs b o e).2 (I.ok.noex b o e)⟩
theorem Inv.bk(I:Inv X w5 O H s):∀b o,X.base.get? b=some o->s.heap.get? b=some o:=λb o e=>(I.bs b o e).1
theorem Inv.mod(I:Inv X w5 O H s):Mod X.K X.mg X.base:=I.ok.mod
theorem Inv.kIn(I:Inv X w5 O H s):X.K.In s.heap:=I.ok.mod.kin.keeps I.bk
theorem Inv.lt(I:Inv X w5 O H s):X.env.locals<s.heap.objs.size:=let ⟨_,hn,_⟩:=I.loc;hn.lt
theorem Inv.sz(I:Inv X w5 O H s):X.s₀.heap.objs.size<=s.heap.objs.size:=AAt I.ok.above (Nat.le_of_lt I.lt)
theorem Inv.nofs(I:Inv X w5 O H s)(h:s.heap.objs.size<=a):a∉X.fs:=λhb=>by
 obtain⟨_,o,ho,_⟩:=I.ok.funs.mem hb;exact absurd (AAM (Heap.lt_size ho) (AAt I.sz h)) (AAy _)
theorem Inv.cne(I:Inv X w5 O H s):∀x c,X.env.cells.lookup x=some c->c≠X.env.locals:=λx c e z=>by
 obtain⟨v,o,ho,hd⟩:=I.cell x c e;obtain⟨m,⟨o',es,ep,ho',hd',_⟩,_⟩:=I.loc;rw[z,ho'] at ho;cases ho;rw[hd'] at hd;cases hd
theorem Inv.funs(I:Inv X w5 O H s):s.heap.FunFrames X.base X.outer:=by
 have all:∀(l:List Env),(∀b∈frs l,b∈X.fs)->X.s₀.heap.FunFrames X.base l->s.heap.FunFrames X.base l:=by
  intro l
  induction l with
  |nil=>intro _ _;trivial
  |cons env r ih=>
   intro hs hl;obtain⟨hk,⟨L,o,hf,hn,ho,hd⟩,hr⟩:=hl;have hL:L∈X.fs:=hs L (by unfold frs;rw[List.filterMap_cons,hf];exact AAP);obtain⟨sl,e⟩:=I.base.slot L o ho (I.ok.frf L hL) hL λz=>I.ok.exfs L z hL;exact⟨hk,⟨L,_,hf,hn,e,hd⟩,ih (λb hb=>hs b (by unfold frs;rw[List.filterMap_cons,hf];exact AAQ _ hb)) hr⟩
 exact all X.outer (λ_ hb=>hb) I.ok.funs
theorem Inv.stack(I:Inv X w5 O H s):s.heap.FunFrames X.base X.stack:=by
 rcases I.ok.stk with e|⟨e,hf⟩
 ·rw[e];exact I.funs
 ·rw[e];obtain⟨m,hn,_⟩:=I.loc;refine .cons (by rw[I.ok.kind];decide) hf hn ?_ I.funs;exact Heap.get?_none_of_le (AAt I.ok.bsz I.ok.above)
theorem Inv.stkSub(I:Inv X w5 O H s):∀b∈frs X.stack,b∈X.env.locals::X.fs:=λb hb=>by
 rcases I.ok.stk with e|⟨e,hf⟩
 ·rw[e] at hb;exact AAQ _ hb
 ·rw[e] at hb;unfold frs at hb;rw[List.filterMap_cons,hf] at hb;exact hb
theorem Inv.stkFree(I:Inv X w5 O H s):∀b∈frs X.stack,H b=none:=λb hb=>by
 rcases AAI.mp (I.stkSub b hb) with e|hb
 ·rw[e];exact I.free
 ·obtain⟨_,o,ho,_⟩:=I.ok.funs.mem hb;exact I.base.free b o ho (I.ok.frf b hb) λz=>I.ok.exfs b z hb
theorem Inv.step{g':Array GenState}{t':Nat}{ch:List Addr}(I:Inv X w5 O H s)
  (hch:∀b∈ch,(b∈X.ex∨X.s₀.heap.objs.size<=b)/\b≠X.env.locals/\(∀x c,X.env.cells.lookup x=some c->c≠b)/\∀p∈X.pn++w5,p.1≠b)
  (keep:∀b o,b≠X.env.locals->b∉X.fs->b∉ch->s.heap.get? b=some o->H b=none->h'.get? b=some o)
  (slot:∀b o,b≠X.env.locals->b∈X.fs->b∉ch->s.heap.get? b=some o->H b=none->∃sl,h'.get? b=some { o with slots:=sl }) (free:∀b o,b∉ch->s.heap.get? b=some o->H b=none->H' b=none)
  (there:∀b o,b∉ch->s.heap.get? b=some o->∃o',h'.get? b=some o')
  (tups:∀b xs,H b=some (.tup xs)->H' b=some (.tup xs)) (frzs:∀b o u,H b=some (.frz o u)->H' b=some (.frz o u)) (tbls:∀b ps,H b=some (.tbl ps)->∃more,H' b=some (.tbl (ps++more)))
  (ns:∀m,s.heap.Ns X.env.locals m->h'.Ns X.env.locals m) (hok:HOk X.prog X.w H' h') (hg:AllBare g') :
  Inv X w5 O H' { s with heap:=h',gens:=g',drawn:=d',toks:=t' }:=by
 have neL:∀b o,X.s₀.heap.get? b=some o->b≠X.env.locals:=λb o e=>AAe (AAM (Heap.lt_size e) I.ok.above);have neC:∀b o,X.s₀.heap.get? b=some o->b∉X.ex->b∉ch:=λb o e hx hb=>by
  rcases(hch b hb).1 with z|z
  ·exact hx z
  ·exact absurd (AAM (Heap.lt_size e) z) (AAy _)
 have cellK:∀x c,X.env.cells.lookup x=some c->∀v,s.heap.IsCell c v->h'.IsCell c v:=λx c e v ⟨o,ho,hd⟩=>by
  have nch:c∉ch:=λz=>(hch c z).2.2.1 x c e rfl;by_cases hc:c∈X.fs
  ·obtain⟨sl,q⟩:=slot c o (I.cne x c e) hc nch ho (I.freeC x c e);exact⟨_,q,hd⟩
  ·exact⟨o,keep c o (I.cne x c e) hc nch ho (I.freeC x c e),hd⟩
 refine⟨I.ok,I.os,hg,⟨λb o e n hb hx=>?_,λb o e n hb hx=>?_,λb o e n hx=>?_,λb o e hx=>?_,λb xs e=>tups b xs (I.base.tups b xs e),λb o xs e=>frzs b o xs (I.base.frzs b o xs e),λb ps e=>?_⟩,?_,λx c e=>?_,?_,λx c e=>?_,λp hp=>?_,hok,I.len⟩
 ·exact keep b o (neL b o e) hb (neC b o e hx) (I.base.keep b o e n hb hx) (I.base.free b o e n hx)
 ·obtain⟨sl,e1⟩:=I.base.slot b o e n hb hx;obtain⟨sl',e2⟩:=slot b _ (neL b o e) hb (neC b o e hx) e1 (I.base.free b o e n hx);exact⟨sl',e2⟩
 ·obtain⟨o',e1⟩:=I.base.there b o e hx;exact free b o' (neC b o e hx) e1 (I.base.free b o e n hx)
 ·obtain⟨o',e1⟩:=I.base.there b o e hx;exact there b o' (neC b o e hx) e1
 ·obtain⟨m1,e1⟩:=I.base.tbls b ps e;obtain⟨m2,e2⟩:=tbls b _ e1;exact⟨m1++m2,by rw[e2,Array.append_assoc]⟩
 ·obtain⟨m,hn,hl⟩:=I.loc;refine⟨m,ns m hn,λi x v e1 e2 e3=>?_⟩;obtain⟨u,r,l⟩:=hl i x v e1 e2 e3;refine⟨u,r,?_⟩;rcases l with l|⟨k,c,e,z⟩
  ·exact .inl l
  ·exact .inr ⟨k,c,e,cellK x c e _ z⟩
 ·obtain⟨v,z⟩:=I.cell x c e;exact⟨v,cellK x c e v z⟩
 ·obtain⟨m,⟨o,_,_,ho,_⟩,_⟩:=I.loc;exact free _ o (λz=>(hch _ z).2.1 rfl) ho I.free
 ·obtain⟨v,o,ho,hd⟩:=I.cell x c e;exact free c o (λz=>(hch c z).2.2.1 x c e rfl) ho (I.freeC x c e)
 ·obtain⟨e,n,ne,nf,d⟩:=I.pin p hp;have nch:p.1∉ch:=λz=>(hch p.1 z).2.2.2 p hp rfl;exact⟨keep p.1 p.2 ne nf nch e n,free p.1 p.2 nch e n,ne,nf,d⟩
theorem Inv.un{t':Nat}(I:Inv X w5 O H s)(u:Un X.fs [] H H' s.heap h')(hok:HOk X.prog X.w H' h'):Inv X w5 O H' { s with heap:=h',toks:=t' }:=by
 obtain⟨m,⟨o,es,ep,ho,r⟩,_⟩:=id I.loc;obtain⟨sl,hL⟩:=u.any ho I.free (by simp);exact I.step (g':=s.gens) (d':=s.drawn) (ch:=[]) (λ_ z=>nomatch z) (λb o _ hb _ e n=>u.keep b o e n hb (by simp)) (λb o _ hb _ e n=>u.slot b o e n hb (by simp)) (λb o _ e n=>u.free b o e n (by simp)) (λb o _ e=>u.there b o e (by simp)) u.tups u.frzs u.tbls (λm' hm=>by
  obtain⟨o',es',ep',ho',r'⟩:=hm;rw[ho] at ho';cases ho';exact⟨_,es',ep',hL,r'⟩) hok I.bare
theorem Inv.call{g':Array GenState}{t':Nat}{ch:List Addr}(I:Inv X w5 O H s)(u:Un (frs X.stack) ch H H' s.heap h')(hok:HOk X.prog X.w H' h')(hg:AllBare g')
  (hch:∀b∈ch,(b∈X.ex∨X.s₀.heap.objs.size<=b)/\b≠X.env.locals/\(∀x c,X.env.cells.lookup x=some c->c≠b)/\∀p∈X.pn++w5,p.1≠b) :
  Inv X w5 O H' { s with heap:=h',gens:=g',drawn:=d',toks:=t' }:=by
 obtain⟨m,⟨o,es,ep,ho,r⟩,_⟩:=id I.loc;obtain⟨sl,hL⟩:=u.any ho I.free λz=>(hch _ z).2.1 rfl;exact I.step (ch:=ch) hch (λb o hL hb hc e n=>u.keep b o e n (λz=>(AAI.mp (I.stkSub b z)).elim hL hb) hc) (λb o _ _ hc e n=>u.any e n hc) (λb o hc e n=>u.free b o e n hc) (λb o hc e=>u.there b o e hc) u.tups u.frzs u.tbls (λm' hm=>by
  obtain⟨o',es',ep',ho',r'⟩:=hm;rw[ho] at ho';cases ho';exact⟨_,es',ep',hL,r'⟩) hok hg
theorem Inv.turned{t':Nat}{it:Addr}(I:Inv X w5 O H s)(k:∀b o,b≠it->s.heap.get? b=some o->h'.get? b=some o)(hn:H it=none)(hL:it≠X.env.locals)
  (h1:it∈X.ex∨X.s₀.heap.objs.size<=it) (h2:∀x c,X.env.cells.lookup x=some c->c≠it) (h3:∀p∈X.pn++w5,p.1≠it):Inv X w5 O H { s with heap:=h',toks:=t' }:=by
 have nit:∀b u,H b=some u->b≠it:=λb u e z=>by rw[z,hn] at e;cases e
 refine I.step (g':=s.gens) (d':=s.drawn) (ch:=[it]) (λb hb=>?_) (λb o _ _ hc e _=>k b o (λz=>hc (by simp[z])) e) (λb o _ _ hc e _=>⟨o.slots,k b o (λz=>hc (by simp[z])) e⟩) (λ_ _ _ _ n=>n)
  (λb o hc e=>⟨o,k b o (λz=>hc (by simp[z])) e⟩) (λ_ _ e=>e) (λ_ _ _ e=>e) (λb ps e=>⟨#[],by rw[e];simp⟩) (λm hm=>?_) (λb u e=>?_) I.bare
 ·have e:b=it:=by simpa using hb
  subst e;exact⟨h1,hL,h2,h3⟩
 ·obtain⟨o,es,ep,ho,r⟩:=hm;exact⟨o,es,ep,k _ o (Ne.symm hL) ho,r⟩
 ·refine(I.hok b u e).stay (λc v hc q=>k c v ?_ q) (λ_ q=>q) λ_ _ q=>q;rcases hc with z|z
  ·rw[z];exact nit b u e
  ·exact nit c _ z
theorem Inv.tok(I:Inv X w5 O H s)(t:Nat):Inv X w5 O H { s with toks:=t }:=I.un (h':=s.heap) (t':=t) Un.refl I.hok
theorem Inv.kept(I:Inv X w5 O H s)(k:∀b u,s.heap.get? b=some u->h'.get? b=some u):Inv X w5 O H { s with heap:=h',toks:=t' }:=I.un (Un.kept k) (I.hok.kept k)
theorem Inv.laid(I:Inv X w5 O H s)(k:∀b u,s.heap.get? b=some u->h'.get? b=some u)(hp:s.heap.objs.size<=a)(new:ObjOk X.prog X.w (upd H a o) h' a o):
  Inv X w5 O (upd H a o) { s with heap:=h',toks:=t' }:=I.un (Un.laid k hp (I.hok.fresh hp)) (I.hok.laid k hp new)
theorem Inv.write(I:Inv X w5 O H s)(mu:Mut (H x))(he:e=x∨H e=some (.own x))(k:∀b u,b≠e->s.heap.get? b=some u->h'.get? b=some u)(heo:∃u,h'.get? e=some u)
  (new:ObjOk X.prog X.w (upd H x o) h' x o):Inv X w5 O (upd H x o) { s with heap:=h',toks:=t' }:=I.un (Un.write mu he k heo) (I.hok.write mu he k heo new)
theorem Inv.weak(I:Inv X w5 O H s)(hl:O'.length=O.length)(w:∀(i:Nat) v,O'[i]?=some (some v)->O[i]?=some (some v)):Inv X w5 O' H s:=
 ⟨I.ok,I.os,I.bare,I.base,let ⟨m,hn,hl'⟩:=I.loc;⟨m,hn,λi x v e1 e2 e3=>hl' i x v e1 (w i v e2) e3⟩,I.cell,I.free,I.freeC,I.pin,I.hok,hl.trans I.len⟩
theorem Inv.pins_of(I:Inv X w5 O H s)(h:∀p∈pins',s.heap.get? p.1=some p.2/\H p.1=none/\p.1≠X.env.locals/\p.1∉X.fs/\∀v,p.2.data≠.cell v):Inv X pins' O H s:=
 ⟨I.ok,I.os,I.bare,I.base,I.loc,I.cell,I.free,I.freeC,λp hp=>(AAJ.mp hp).elim (λz=>I.pin p (AAc _ z)) (h p),I.hok,I.len⟩
theorem ME{N:List Str}(hN:N.Nodup){i j:Nat}{x:Str}(a:N[i]?=some x)(b:N[j]?=some x):i=j:=by
 obtain⟨h1,e1⟩:=AAT.mp a;obtain⟨h2,e2⟩:=AAT.mp b;exact(List.getElem_inj hN).mp (e1.trans e2.symm)
theorem Jo{M:Model}{A:Around}{E:Value->Shared->Prop}{i:Nat}{x:Str}{u:Value}{Q:Unit->Shared->Prop}(I:Inv X w5 O H s)(hN:X.N.Nodup)(hi:X.N[i]?=some x)(hx:Loc X.env.scope x)(r:RelV v u)
  (h:∀s',Inv X w5 (O.set i (some v)) H s'->(∃a,Heap.SameBut a s.heap s'.heap/\(a=X.env.locals∨X.env.cells.lookup x=some a))->Q () s') (hf:X.fn x=true∨X.env.scope.names.lookup x=some .local:=by first|exact .inl rfl|exact .inr rfl|assumption):wpAny M A (storeName X.env x u) Q E s:=by
 obtain⟨m,hn,hl⟩:=id I.loc;have hcls:(X.env.scope.kind==.class||(X.env.scope.kind==.module&&X.env.locals != X.env.globals))=false:=by rw[I.ok.kind];rfl
 have hiσ:i<O.length:=by rw[I.len];exact(AAT.mp hi).1
 have cne:=I.cne;have tracked:∀{a:Addr} {h':Heap},(∃o,s.heap.get? a=some o/\H a=none)->Heap.SameBut a s.heap h'->HOk X.prog X.w H h':=λ{a h'} ha hs b ob e=>by
  obtain⟨_,_,hfree⟩:=ha;refine(I.hok b ob e).stay (λc w' hc q=>(hs.2 c ?_).trans q) (λ_ q=>q) λ_ _ q=>q;rintro rfl;rcases hc with rfl|hc
  ·rw[hfree] at e;cases e
  ·rw[hfree] at hc;cases hc
 rcases hx with hk|hk
 ·refine wpAny_storeName_local hk hn (λh' hn' hs=>?_) hcls;obtain⟨oL,_,_,hoL,_⟩:=id hn;refine h _ ⟨I.ok,I.os,I.bare,⟨λb o e n hb hx=>?_,λb o e n hb hx=>?_,I.base.free,λb o e hx=>?_,I.base.tups,I.base.frzs,I.base.tbls⟩,⟨_,hn',λj y v' e1 e2 e3=>?_⟩,λy c e=>?_,I.free,I.freeC,λp hp=>?_,tracked ⟨oL,hoL,I.free⟩ hs,by simpa using I.len⟩ ⟨_,hs,.inl rfl⟩
  ·exact(hs.2 b (AAe (AAM (Heap.lt_size e) I.ok.above))).trans (I.base.keep b o e n hb hx)
  ·obtain⟨sl,e1⟩:=I.base.slot b o e n hb hx;exact⟨sl,(hs.2 b (AAe (AAM (Heap.lt_size e) I.ok.above))).trans e1⟩
  ·obtain⟨o',e1⟩:=I.base.there b o e hx;exact⟨o',(hs.2 b (AAe (AAM (Heap.lt_size e) I.ok.above))).trans e1⟩
  ·by_cases hj:j=i
   ·subst hj;rw[hi] at e1;cases e1;rw[List.getElem?_set_self hiσ] at e2;cases e2;exact⟨u,r,.inl ⟨hk,by simp⟩⟩
   ·rw[AAo (Ne.symm hj)] at e2;obtain⟨u',r',q⟩:=hl j y v' e1 e2 e3;refine⟨u',r',?_⟩;rcases q with ⟨k,e⟩|⟨k,c,e,z⟩
    ·refine .inl ⟨k,?_⟩;have:y≠x:=λe=>hj (ME hN e1 (e ▸ hi));simp[this,e]
    ·exact .inr ⟨k,c,e,z.sameBut hs (cne y c e)⟩
  ·obtain⟨w',z⟩:=I.cell y c e;exact⟨w',z.sameBut hs (cne y c e)⟩
  ·obtain⟨e,n,ne,nf,d⟩:=I.pin p hp;exact⟨(hs.2 p.1 ne).trans e,n,ne,nf,d⟩
 ·have hfn:X.fn x=true:=by
   rcases hf with z|z
   ·exact z
   ·rw[z] at hk;cases hk
  obtain⟨c,hc⟩:=I.ok.has x (.inl hk);obtain⟨w',z⟩:=I.cell x c hc;refine wpAny_storeName_cell I.ok.kind hk hc z (λh' hc' hs=>?_);obtain⟨oc,hoc,hocd⟩:=id z;refine h { s with heap:=h' } ⟨I.ok,I.os,I.bare,⟨λb o e n hb hx=>?_,λb o e n hb hx=>?_,I.base.free,λb o e hx=>?_,I.base.tups,I.base.frzs,I.base.tbls⟩,⟨m,hn.sameBut hs (Ne.symm (cne x c hc)),λj y v' e1 e2 e3=>?_⟩,λy c' e=>?_,I.free,I.freeC,λp hp=>?_,tracked ⟨oc,hoc,I.freeC x c hc⟩ hs,by simpa using I.len⟩ ⟨c,hs,.inr hc⟩
  ·exact(hs.2 b (AAe (AAM (Heap.lt_size e) (I.ok.cab x c hfn hc)))).trans (I.base.keep b o e n hb hx)
  ·obtain⟨sl,e1⟩:=I.base.slot b o e n hb hx;exact⟨sl,(hs.2 b (AAe (AAM (Heap.lt_size e) (I.ok.cab x c hfn hc)))).trans e1⟩
  ·obtain⟨o',e1⟩:=I.base.there b o e hx;exact⟨o',(hs.2 b (AAe (AAM (Heap.lt_size e) (I.ok.cab x c hfn hc)))).trans e1⟩
  ·by_cases hj:j=i
   ·subst hj;rw[hi] at e1;cases e1;rw[List.getElem?_set_self hiσ] at e2;cases e2;exact⟨u,r,.inr ⟨.inl hk,c,hc,hc'⟩⟩
   ·rw[AAo (Ne.symm hj)] at e2;obtain⟨u',r',q⟩:=hl j y v' e1 e2 e3;refine⟨u',r',?_⟩;rcases q with q|⟨k,c',e,z'⟩
    ·exact .inl q
    ·refine .inr ⟨k,c',e,z'.sameBut hs ?_⟩;rintro rfl;exact hj (ME hN e1 (I.ok.inj _ _ _ e hc ▸ hi))
  ·by_cases hcc:c'=c
   ·subst hcc;exact⟨_,hc'⟩
   ·obtain⟨w2,z2⟩:=I.cell y c' e;exact⟨w2,z2.sameBut hs hcc⟩
  ·obtain⟨e,n,ne,nf,d⟩:=I.pin p hp;refine⟨(hs.2 p.1 ?_).trans e,n,ne,nf,d⟩;intro q;rw[q,hoc] at e;have q':oc=p.2:=Option.some.inj e;exact d w' (by rw[←q'];exact hocd)
theorem IR(I:Inv X w5 O H s)(hN:X.N.Nodup)(hi:X.N[i]?=some x)(hx:Loc X.env.scope x)(r:RelV v u)
  (h:∀s',Inv X w5 (O.set i (some v)) H s'->Q () s') (hf:X.fn x=true∨X.env.scope.names.lookup x=some .local:=by first|exact .inl rfl|exact .inr rfl|assumption):wpAny M A (storeName X.env x u) Q E s:=
 Jo I hN hi hx r (λs' I' _=>h s' I') hf
theorem Inv.call'(I:Inv X w5 O H s)(ho:s'.os=s.os)(u:Un (frs X.stack) ch H H' s.heap s'.heap)(hok:HOk X.prog X.w H' s'.heap)(hg:AllBare s'.gens)
  (hch:∀b∈ch,(b∈X.ex∨X.s₀.heap.objs.size<=b)/\b≠X.env.locals/\(∀x c,X.env.cells.lookup x=some c->c≠b)/\∀p∈X.pn++w5,p.1≠b):Inv X w5 O H' s':=by
 obtain⟨h',g',d',t',o'⟩:=s';have e:o'=s.os:=ho;subst e;exact I.call (g':=g') (t':=t') (d':=d') u hok hg hch
end
noncomputable abbrev XK:=Value->Option Addr->Hp->Prop
noncomputable abbrev St:=List (Option V)
noncomputable abbrev VK:=V->Hp->Prop
noncomputable abbrev TE:=St->Hp->VK->Prop
noncomputable abbrev TT:=St->Hp->(Bool->Hp->Prop)->Prop
noncomputable abbrev TA:=St->Hp->(List V->Hp->Prop)->Prop
structure Tr where
 nx:St->Hp->Prop
 rt:VK
 bk:St->Hp->Prop:=λ_ _=>False
 ct:St->Hp->Prop:=λ_ _=>False
noncomputable abbrev TS:=Tr->St->Hp->Prop
def EP(X:Cx)(w5:List (Addr×Obj))(O:St)(Q:VK)(u:Value)(s':Shared):Prop:=∃v H',Inv X w5 O H' s'/\RelV v u/\Q v H'
def TP(X:Cx)(w5:List (Addr×Obj))(O:St)(Q:Bool->Hp->Prop)(b:Bool)(s':Shared):Prop:=∃H',Inv X w5 O H' s'/\Q b H'
def AP(X:Cx)(w5:List (Addr×Obj))(O:St)(Q:List V->Hp->Prop)(us:List Value)(s':Shared):Prop:=∃vs H',Inv X w5 O H' s'/\Vals vs us/\Q vs H'
def SP(X:Cx)(w5:List (Addr×Obj))(D:Tr)(f:Flow)(s':Shared):Prop:=
 match f with
 | .next=>∃O' H',Inv X w5 O' H' s'/\D.nx O' H'
 | .brk=>∃O' H',Inv X w5 O' H' s'/\D.bk O' H'
 | .cont=>∃O' H',Inv X w5 O' H' s'/\D.ct O' H'
 | .ret u=>∃v O' H',Inv X w5 O' H' s'/\RelV v u/\D.rt v H'
def PE(X:Cx)(e:Expr)(t:TE):Prop:=
 ∀(w5:List (Addr×Obj)) (s:Shared) (O:St) (H:Hp) (Q:VK),Inv X w5 O H s->t O H Q->wpAny (model X.prog X.w) X.A (eval e X.env) (EP X w5 O Q) X.xe s
def PT(X:Cx)(e:Expr)(t:TT):Prop:=
 ∀(w5:List (Addr×Obj)) (s:Shared) (O:St) (H:Hp) (Q:Bool->Hp->Prop),Inv X w5 O H s->t O H Q->wpAny (model X.prog X.w) X.A (isTrue e X.env (eval e X.env)) (TP X w5 O Q) X.xe s
def PW(X:Cx)(e:Expr)(t:TT):Prop:=
 ∀(whole:Sem Value) (w5:List (Addr×Obj)) (s:Shared) (O:St) (H:Hp) (Q:Bool->Hp->Prop),Inv X w5 O H s->t O H Q->wpAny (model X.prog X.w) X.A (isTrue e X.env whole) (TP X w5 O Q) X.xe s
theorem PW.pt(h:PW X e t):PT X e t:=h _
def PA(X:Cx)(es:List Expr)(t:TA):Prop:=
 ∀(pos:Pos) (w5:List (Addr×Obj)) (s:Shared) (O:St) (H:Hp) (Q:List V->Hp->Prop),Inv X w5 O H s->t O H Q->wpAny (model X.prog X.w) X.A (spliced (backTo pos (starEach es X.env))) (AP X w5 O Q) X.xe s
def PS(X:Cx)(st:Stmt)(t:TS):Prop:=
 ∀(w5:List (Addr×Obj)) (s:Shared) (O:St) (H:Hp) (D:Tr),Inv X w5 O H s->t D O H->wpAny (model X.prog X.w) X.A (exec st X.env) (SP X w5 D) X.xe s
def PSs(X:Cx)(st:List Stmt)(t:TS):Prop:=
 ∀(w5:List (Addr×Obj)) (s:Shared) (O:St) (H:Hp) (D:Tr),Inv X w5 O H s->t D O H->wpAny (model X.prog X.w) X.A (execs st X.env) (SP X w5 D) X.xe s
theorem thn(h:wpAny M A t Q E s)(hQ:∀a s,Q a s->Q' a s):wpAny M A t Q' E s:=AAj h hQ λ_ _ x=>x
section
variable{X:Cx}
noncomputable def aZ(i:Nat):TE:=λO H Q=>∃v,O[i]?=some (some v)/\Q v H
noncomputable def tC(v:V):TE:=λ_ H Q=>Q v H
theorem Xn(hN:X.N[i]?=some x)(hv:Vis X.env.scope x)(hd:(x==("__debug__" : Str))=false:=by decide)(hcd:(x==("__classdict__" : Str))=false:=by decide):PE X (.Name x pos) (aZ i):=by
 intro w5 s O H Q I h;obtain⟨v,e,h⟩:=h;obtain⟨m,hn,hl⟩:=I.loc;obtain⟨u,r,l⟩:=hl i x v hN e hv;have fin:EP X w5 O Q u s:=⟨v,H,I,r,h⟩;rcases l with ⟨hk,hm⟩|⟨hk,c,hc,hcell⟩
 ·exact wpAny_Name (wpAny_loadName_local I.ok.kind hk hn hm fin) hd
 ·rcases hk with hk|hk
  ·exact wpAny_Name (wpAny_loadName_cell I.ok.kind hk hc hcell fin) hd
  ·exact wpAny_Name (wpAny_loadName_free I.ok.kind hk hc hcell fin hcd) hd
theorem Xu:PE X (.Constant (.int i) j pos) (tC (.int i)):=λ_ _ _ H _ I h=>wpAny_Constant_int ⟨.int i,H,I.tok _,⟨_,rfl⟩,h⟩
theorem Zk:PE X (.Constant (.bool b) j pos) (tC (.bl b)):=λ_ _ _ H _ I h=>Constant_bool ⟨.bl b,H,I,rfl,h⟩
theorem Xs:PE X (.Constant .none j pos) (tC .non):=λ_ _ _ H _ I h=>Constant_none ⟨.non,H,I,rfl,h⟩
theorem Xp:PE X (.Constant (.str x) j pos) (tC (.str x)):=λ_ _ _ H _ I h=>Calls.Constant_str ⟨.str x,H,I.tok _,⟨_,rfl⟩,h⟩
def Gl(X:Cx)(x:Str):Prop:=X.env.kindOf x=some .globalImplicit
theorem Om(I:Inv X w5 O H s)(hg:Gl X x)(hm:X.mg x=some u)(h:Q u s)
  (hd:(x==("__debug__" : Str))=false:=by decide):wpAny (model X.prog X.w) X.A (eval (.Name x pos) X.env) Q E s:=
 Calls.Name_function_global I.ok.kind hg (Calls.loadGlobal_global (by rw[I.ok.glob];exact I.mod.glob.keeps I.bk) hm h) hd
theorem HM(I:Inv X w5 O H s)(hg:Gl X x)(hm:X.mg x=none)(hv:bootBuiltins x=some u)(h:Q u s)
  (hn:x ≠ "__name__" := by decide) (hd:(x==("__debug__" : Str))=false:=by decide):wpAny (model X.prog X.w) X.A (eval (.Name x pos) X.env) Q E s:=by
 obtain⟨mb,h1,h2⟩:=I.mod.blt;exact Calls.Name_function_global I.ok.kind hg (Calls.loadGlobal_builtin (by rw[I.ok.glob];exact I.mod.glob.keeps I.bk) hm (by rw[I.ok.blt];exact h1.keeps I.bk) ((h2 x hn).trans hv) h) hd
theorem U8(hg:Gl X x)(hm:X.mg x=some u)(r:RelV v u)(hd:(x==("__debug__" : Str))=false:=by decide):PE X (.Name x pos) (tC v):=
 λ_ _ _ H _ I h=>Om I hg hm ⟨v,H,I,r,h⟩ hd
theorem VC(hg:Gl X x)(hm:X.mg x=none)(hv:bootBuiltins x=some u)(r:RelV v u)(hn:x ≠ "__name__" := by decide)(hd:(x==("__debug__" : Str))=false:=by decide):PE X (.Name x pos) (tC v):=
 λ_ _ _ H _ I h=>HM I hg hm hv ⟨v,H,I,r,h⟩ hn hd
variable{a b:Expr}{ta tb:TE}{pos:Pos}
def PC(X:Cx)(op:CmpOp)(a b:Expr)(t:TE):Prop:=
 ∀(w5:List (Addr×Obj)) (s:Shared) (O:St) (H:Hp) (Q:VK),Inv X w5 O H s->t O H Q->
  wpAny (model X.prog X.w) X.A (eval a X.env) (λv s₁=>wpAny (model X.prog X.w) X.A (eval b X.env) (λu s₂=>wpAny (model X.prog X.w) X.A (compareOp op v u) (EP X w5 O Q) X.xe s₂) X.xe s₁) X.xe s
noncomputable def tB(t:TE):TT:=λO H Q=>t O H λx H1=>∃c,x=.bl c/\Q c H1
theorem Xv(h:PC X op a b t)(h1:behindInMarks op b=false:=by first|exact nobehind _ (by decide) (by decide)|rfl):PE X (.Compare a [op] [b] pos) t:=λw5 s O H Q I hw=>wpAny_Compare1 (h w5 s O H Q I hw) h1
theorem Xf(h:PE X e t)(he:∀whole,isTrue e X.env whole=(do let v ←whole;standAt e.pos;holding [v] (truthy v)):=by intro _;rfl):PT X e (tB t):=by
 intro w5 s O H Q I hw;refine isTrue_plain (thn (h w5 s O H _ I hw) λv s1 ⟨x,H1,I1,r1,q1⟩=>?_) (he _);obtain⟨d,rfl,q⟩:=q1;cases r1;exact wpAny_truthy_bool ⟨H1,I1,q⟩
variable{tA tB':TT}{rest:List Expr}
noncomputable def al(t u:TT):TT:=λO H Q=>t O H λc H1=>if c=true then u O H1 Q else Q false H1
noncomputable def tOr(t u:TT):TT:=λO H Q=>t O H λc H1=>if c=true then Q true H1 else u O H1 Q
noncomputable def ad(t:TT):TT:=λO H Q=>t O H λc H1=>Q (!c) H1
theorem Uy(ha:PT X a tA):PW X (.BoolOp .And [a] pos) tA:=by
 intro wh w5 s O H Q I h;refine isTrue_and (thn (ha w5 s O H Q I h) λc s1 e=>?_);cases c with
 |true=>exact isTrue_and_nil e
 |false=>exact e
theorem Xd(ha:PT X a tA):PW X (.BoolOp .Or [a] pos) tA:=by
 intro wh w5 s O H Q I h;refine isTrue_or (thn (ha w5 s O H Q I h) λc s1 e=>?_);cases c with
 |false=>exact isTrue_or_nil e
 |true=>exact e
theorem Xe(ha:PT X a tA)(hb:PW X (.BoolOp .And (b::rest) pos) tB'):PW X (.BoolOp .And (a::b::rest) pos) (al tA tB'):=by
 intro wh w5 s O H Q I h;refine isTrue_and (thn (ha w5 s O H _ I h) λc s1 ⟨H1,I1,q1⟩=>?_);cases c with
 |true=>exact hb wh w5 s1 O H1 Q I1 q1
 |false=>exact⟨H1,I1,q1⟩
theorem Zc(ha:PT X a tA)(hb:PW X (.BoolOp .Or (b::rest) pos) tB'):PW X (.BoolOp .Or (a::b::rest) pos) (tOr tA tB'):=by
 intro wh w5 s O H Q I h;refine isTrue_or (thn (ha w5 s O H _ I h) λc s1 ⟨H1,I1,q1⟩=>?_);cases c with
 |true=>exact⟨H1,I1,q1⟩
 |false=>exact hb wh w5 s1 O H1 Q I1 q1
theorem Xg(ha:PT X a tA):PT X (.UnaryOp .Not a pos) (ad tA):=by
 intro w5 s O H Q I h;exact isTrue_not (ha w5 s O H (λc H1=>Q (!c) H1) I h)
noncomputable def ZN(ta tb:TE):TE:=λO H Q=>ta O H λx H1=>∃c,x=.bl c/\if c=true then tb O H1 Q else Q (.bl false) H1
noncomputable def ZD(ta:TE):TE:=λO H Q=>ta O H λx H1=>∃c,x=.bl c/\Q (.bl (!c)) H1
theorem Xq(h:PE X a t):PE X (.BoolOp op [a] pos) t:=λw5 s O H Q I hw=>BoolOp_one (h w5 s O H Q I hw)
theorem Xx(ha:PE X a ta)(hb:PE X (.BoolOp .And (b::rest) pos) tb):PE X (.BoolOp .And (a::b::rest) pos) (ZN ta tb):=by
 intro w5 s O H Q I h;refine BoolOp_and (thn (ha w5 s O H _ I h) λv s1 ⟨x,H1,I1,r1,q1⟩=>?_);obtain⟨c,rfl,q1⟩:=q1;cases r1;refine wpAny_truthy_bool ?_;cases c with
 |true=>exact hb w5 s1 O H1 Q I1 q1
 |false=>exact⟨.bl false,H1,I1,rfl,q1⟩
theorem Xr(ha:PE X a ta):PE X (.UnaryOp .Not a pos) (ZD ta):=by
 intro w5 s O H Q I h;refine UnaryOp_ (thn (ha w5 s O H _ I h) λv s1 ⟨x,H1,I1,r1,q1⟩=>?_);obtain⟨c,rfl,q1⟩:=q1;cases r1;exact not_of (wpAny_truthy_bool ⟨.bl (!c),H1,I1,rfl,q1⟩)
noncomputable def tIf(t:TT)(ta tb:TE):TE:=λO H Q=>t O H λc H1=>if c=true then ta O H1 Q else tb O H1 Q
theorem Ru(hc:PT X c tA)(ha:PE X a ta)(hb:PE X b tb):PE X (.IfExp c a b pos) (tIf tA ta tb):=by
 intro w5 s O H Q I h;refine wpAny_IfExp (thn (hc w5 s O H _ I h) λd s1 ⟨H1,I1,q1⟩=>?_);cases d with
 |true=>exact ha w5 s1 O H1 Q I1 q1
 |false=>exact hb w5 s1 O H1 Q I1 q1
end
def SqL(K:PySem.W.Frag)(H:Hp)(a:Addr)(xs:List V):Prop:=
 Rd H a (.lst xs) ∨
  ∃(o:Obj) (its:Array Value) (n:Nat),K.lookup a=some o/\o.cls=.type "list" /\ o.dict=none/\o.data=.seq its n/\its.size<=sizeLine/\Vals xs its.toList
def SqT(K:PySem.W.Frag)(H:Hp)(a:Addr)(xs:List V):Prop:=
 Rd H a (.tup xs) ∨
  ∃(o:Obj) (its:Array Value) (n:Nat),K.lookup a=some o/\o.cls=.type "tuple" /\ o.data=.seq its n/\its.size<=sizeLine/\Vals xs its.toList
noncomputable def bO:Value->Option V
 | .none=>some .non
 | .bool b=>some (.bl b)
 | .int i _=>some (.int i)
 | .str x _=>some (.str x)
 | .bytes b _=>some (.byt b)
 | .float b _=>some (.flt b)
 | .ref a=>some (.ref a)
 | .type n=>some (.ty n)
 |_=>none
theorem RelV.abs(r:RelV x u):bO u=some x:=by
 cases x with
 |non=>cases r;rfl
 |bl _=>cases r;rfl
 |int _=>obtain⟨t,rfl⟩:=r;rfl
 |str _=>obtain⟨t,rfl⟩:=r;rfl
 |byt _=>obtain⟨t,rfl⟩:=r;rfl
 |flt _=>obtain⟨t,rfl⟩:=r;rfl
 |ref _=>cases r;rfl
 |ty _=>cases r;rfl
theorem RelV.inj(r:RelV x u)(q:RelV y u):x=y:=Option.some.inj (r.abs.symm.trans q.abs)
theorem Vals.inj:∀{xs ys:List V} {us:List Value},Vals xs us->Vals ys us->xs=ys
 |_,_,_,.nil,.nil=>rfl
 |_,_,_,.cons r t,.cons r' t'=>by rw[r.inj r',Vals.inj t t']
section
variable{X:Cx}{w5:List (Addr×Obj)}{O:St}{H:Hp}{s:Shared}{a:Addr}{xs ys:List V}
theorem SqL.of{K:PySem.W.Frag}(h:H a=some (.lst xs)):SqL K H a xs:=.inl (.inl h)
theorem SqT.of{K:PySem.W.Frag}(h:H a=some (.tup xs)):SqT K H a xs:=.inl (.inl h)
theorem Inv.list(I:Inv X w5 O H s)(h:SqL X.K H a xs):∃its:List Value,Vals xs its/\PlainL s.heap a its.toArray/\xs.length<=sizeLine:=by
 rcases h with h|⟨o,its,n,hk,hc,hd,hs,hz,r⟩
 ·obtain⟨z,its,n,r,e⟩:=h.ok I.hok;exact⟨its,r,⟨_,n,e,rfl,rfl,rfl⟩,z⟩
 ·refine⟨its.toList,r,⟨o,n,I.kIn a o hk,hc,hd,by simpa using hs⟩,?_⟩;have e:=r.length;simp only[Array.length_toList] at e;omega
theorem Inv.tuple(I:Inv X w5 O H s)(h:SqT X.K H a xs):∃its:List Value,Vals xs its/\IsTup s.heap a its.toArray/\xs.length<=sizeLine:=by
 rcases h with h|⟨o,its,n,hk,hc,hs,hz,r⟩
 ·obtain⟨z,its,r,p⟩:=h.ok I.hok;exact⟨its,r,p,z⟩
 ·refine⟨its.toList,r,⟨o,I.kIn a o hk,hc,n,by simpa using hs⟩,?_⟩;have e:=r.length;simp only[Array.length_toList] at e;omega
theorem Inv.list_inj(I:Inv X w5 O H s)(h:SqL X.K H a xs)(h':SqL X.K H a ys):xs=ys:=by
 obtain⟨its,r,⟨o,n,e,_,_,d⟩,_⟩:=I.list h;obtain⟨its',r',⟨o',n',e',_,_,d'⟩,_⟩:=I.list h';rw[e] at e';cases e';rw[d] at d';injection d' with d1 _
 have:its=its':=by simpa using congrArg Array.toList d1
 subst this;exact r.inj r'
theorem Inv.tuple_inj(I:Inv X w5 O H s)(h:SqT X.K H a xs)(h':SqT X.K H a ys):xs=ys:=by
 obtain⟨its,r,⟨o,e,_,n,d⟩,_⟩:=I.tuple h;obtain⟨its',r',⟨o',e',_,n',d'⟩,_⟩:=I.tuple h';rw[e] at e';cases e';rw[d] at d';injection d' with d1 _
 have:its=its':=by simpa using congrArg Array.toList d1
 subst this;exact r.inj r'
end
noncomputable abbrev Cx.wish(X:Cx)(E:Value->Shared->Prop):Cx:={ X with xe:=E }
noncomputable abbrev Cx.nox(X:Cx):Cx:=X.wish λ_ _=>False
theorem Cx.Ok.wish{X:Cx}(ok:X.Ok)(E:Value->Shared->Prop):(X.wish E).Ok:=
 ⟨ok.mod,ok.kind,ok.glob,ok.blt,ok.above,ok.inj,ok.has,ok.cab,ok.hd,ok.frames,ok.stk,ok.exf,ok.bs,ok.bsz,ok.noex,ok.exfs,ok.funs,ok.frf⟩
theorem Cx.Ok.unwish{X:Cx}(ok:(X.wish E).Ok):X.Ok:=
 ⟨ok.mod,ok.kind,ok.glob,ok.blt,ok.above,ok.inj,ok.has,ok.cab,ok.hd,ok.frames,ok.stk,ok.exf,ok.bs,ok.bsz,ok.noex,ok.exfs,ok.funs,ok.frf⟩
section
variable{X:Cx}{w5:List (Addr×Obj)}{O:St}{H:Hp}{s:Shared}{E:Value->Shared->Prop}
theorem Inv.wish(I:Inv X w5 O H s)(E:Value->Shared->Prop):Inv (X.wish E) w5 O H s:=⟨I.ok.wish E,I.os,I.bare,I.base,I.loc,I.cell,I.free,I.freeC,I.pin,I.hok,I.len⟩
theorem Inv.unwish(I:Inv (X.wish E) w5 O H s):Inv X w5 O H s:=⟨I.ok.unwish,I.os,I.bare,I.base,I.loc,I.cell,I.free,I.freeC,I.pin,I.hok,I.len⟩
theorem SP.unwish(h:SP (X.wish E) w5 D f s'):SP X w5 D f s':=by
 cases f with
 |next=>obtain⟨O',H',I,q⟩:=h;exact⟨O',H',I.unwish,q⟩
 |brk=>obtain⟨O',H',I,q⟩:=h;exact⟨O',H',I.unwish,q⟩
 |cont=>obtain⟨O',H',I,q⟩:=h;exact⟨O',H',I.unwish,q⟩
 |ret u=>obtain⟨v,O',H',I,r,q⟩:=h;exact⟨v,O',H',I.unwish,r,q⟩
theorem PSs.nox{st:List Stmt}(h:PSs X.nox st t):PSs X st t:=λw5 s O H D I hw=>
 AAj (h w5 s O H D (I.wish _) hw) (λ_ _ q=>q.unwish) λ_ _ z=>False.elim z
end
section
variable{X:Cx}{st:Stmt}{rest:List Stmt}{t u:TS}{e:Expr}{te:TE}{pos:Pos}
noncomputable def ZE:TS:=λD O H=>D.nx O H
noncomputable def ab(t u:TS):TS:=λD O H=>t { D with nx:=u D } O H
theorem U1:PSs X [] ZE:=λ_ _ O H _ I h=>wpAny_execs_nil ⟨O,H,I,h⟩
theorem Rl(h1:PS X st t)(h2:PSs X rest u):PSs X (st::rest) (ab t u):=by
 intro w5 s O H D I h;refine wpAny_execs_cons (thn (h1 w5 s O H { D with nx:=u D } I h) λf s1 q=>?_);cases f with
 |next=>
  obtain⟨O',H',I',q⟩:=q;exact h2 w5 s1 O' H' D I' q
 |ret v=>exact q
 |brk=>exact q
 |cont=>exact q
theorem U0(h1:PS X st t):PSs X [st] t:=by
 intro w5 s O H D I h;refine wpAny_execs_cons (thn (h1 w5 s O H D I h) λf s1 q=>?_);cases f with
 |next=>exact wpAny_execs_nil q
 |ret v=>exact q
 |brk=>exact q
 |cont=>exact q
theorem Inv.quiet(I:Inv X w5 O H s):interactive X.env=false:=by simp[interactive,I.ok.kind]
noncomputable def ZG(te:TE):TS:=λD O H=>te O H λ_ H1=>D.nx O H1
theorem U2(he:PE X e te)(hs:swapsWith e none pos.line X.env=pure false:=by rfl):PS X (.Expr e pos) (ZG te):=by
 intro w5 s O H D I h;exact wpAny_Expr_any (thn (he w5 s O H _ I h) λv s1 ⟨x,H1,I1,r1,q1⟩=>⟨O,H1,I1,q1⟩) I.quiet hs
noncomputable def ac(te:TE):TS:=λD O H=>te O H D.rt
theorem Xi(he:PE X e te):PS X (.Return (some e) pos) (ac te):=by
 intro w5 s O H D I h;exact wpAny_Return_some (thn (he w5 s O H _ I h) λv s1 ⟨x,H1,I1,r1,q1⟩=>⟨x,O,H1,I1,r1,q1⟩)
noncomputable def ah(c:TT)(t u:TS):TS:=λD O H=>c O H λb H1=>if b=true then t D O H1 else u D O H1
theorem Zd(hc:PT X c tc)(ha:PSs X a t)(hb:PSs X b u):PS X (.If c a b pos) (ah tc t u):=by
 intro w5 s O H D I h;refine wpAny_If (thn (hc w5 s O H _ I h) λd s1 ⟨H1,I1,q1⟩=>?_);cases d with
 |true=>exact ha w5 s1 O H1 D I1 q1
 |false=>exact hb w5 s1 O H1 D I1 q1
noncomputable def XN:TS:=λ_ _ _=>False
theorem Rn:PS X st XN:=λ_ _ _ _ _ _ h=>h.elim
end
noncomputable abbrev TG:=V->St->Hp->(St->Hp->Prop)->Prop
noncomputable abbrev TGs:=List V->St->Hp->(St->Hp->Prop)->Prop
def PG(X:Cx)(target:Expr)(t:TG):Prop:=
 ∀(w5:List (Addr×Obj)) (s:Shared) (O:St) (H:Hp) (v:V) (u:Value) (Q:St->Hp->Prop),Inv X w5 O H s->RelV v u->t v O H Q->
  wpAny (model X.prog X.w) X.A (assign target X.env u) (λ_ s'=>∃O' H',Inv X w5 O' H' s'/\Q O' H') X.xe s
def PGs(X:Cx)(ts:List Expr)(t:TGs):Prop:=
 ∀(w5:List (Addr×Obj)) (s:Shared) (O:St) (H:Hp) (vs:List V) (us:List Value) (Q:St->Hp->Prop),Inv X w5 O H s->Vals vs us->t vs O H Q->
  wpAny (model X.prog X.w) X.A (assignInOrder ((assignEach ts X.env).map (·.2)) us) (λ_ s'=>∃O' H',Inv X w5 O' H' s'/\Q O' H') X.xe s
noncomputable abbrev aQ:=V->V->V->Hp->(Hp->Prop)->Prop
def aR(X:Cx)(t:aQ):Prop:=
 ∀(w5:List (Addr×Obj)) (s:Shared) (O:St) (H:Hp) (o i v:V) (ov iv u:Value) (Q:Hp->Prop),Inv X w5 O H s->RelV o ov->RelV i iv->RelV v u->t o i v H Q->
  wpAny (model X.prog X.w) X.A (setItem ov iv u) (λ_ s'=>∃H',Inv X w5 O H' s'/\Q H') X.xe s
noncomputable abbrev TIp:=V->V->Hp->VK->Prop
def PIp(X:Cx)(op:Operator)(t:TIp):Prop:=
 ∀(w5:List (Addr×Obj)) (s:Shared) (O:St) (H:Hp) (x y:V) (v u:Value) (Q:VK),Inv X w5 O H s->RelV x v->RelV y u->t x y H Q->
  wpAny (model X.prog X.w) X.A (inplaceOp op v u) (EP X w5 O Q) X.xe s
section
variable{X:Cx}{pos:Pos}
noncomputable def Hi(i:Nat):TG:=λv O H Q=>Q (O.set i (some v)) H
theorem Aq(hN:X.N.Nodup)(hi:X.N[i]?=some x)(hx:Loc X.env.scope x)(hf:X.fn x=true∨X.env.scope.names.lookup x=some .local:=by first|exact .inl rfl|exact .inr rfl|assumption):PG X (.Name x pos) (Hi i):=by
 intro w5 s O H v u Q I r h;exact wpAny_assign_Name (IR I hN hi hx r (λs' I'=>⟨_,H,I',h⟩) hf)
noncomputable def aA:TGs:=λvs O H Q=>vs=[]/\Q O H
noncomputable def WM(t:TG)(u:TGs):TGs:=λvs O H Q=>∃v r,vs=v::r/\t v O H λO' H'=>u r O' H' Q
theorem Cb:PGs X [] aA:=by
 intro w5 s O H vs us Q I r h;obtain⟨e,h⟩:=h;subst e;cases r;exact assignInOrder_nil ⟨O,H,I,h⟩
theorem Ar(h1:PG X e t)(h2:PGs X es u)
  (hs:(assignEach (e::es) X.env).map (·.2)=assign e X.env::(assignEach es X.env).map (·.2):=by rfl):PGs X (e::es) (WM t u):=by
 intro w5 s O H vs us Q I r h;obtain⟨v,vr,e1,h⟩:=h;subst e1;cases r with
 |cons r rr=>
  rw[hs];refine assignInOrder_cons (thn (h1 w5 s O H _ _ _ I r h) λ_ s1 ⟨u9,H1,I1,q1⟩=>?_);exact h2 w5 s1 u9 H1 _ _ Q I1 rr q1
noncomputable def VX(K:PySem.W.Frag)(n:Nat)(t:TGs):TG:=λv O H Q=>∃a xs,v=.ref a/\SqT K H a xs/\xs.length=n/\t xs O H Q
theorem HJ(hc:X.calm=true)(h:PGs X es t)
  (hn:(assignEach es X.env).length=n:=by rfl) (hst:(assignEach es X.env).findIdx? (·.1)=none:=by rfl):PG X (.Tuple es k pos) (VX X.K n t):=by
 intro w5 s O H v u Q I r hw;obtain⟨a,xs,e1,hq,hl,hw⟩:=hw;subst e1;cases r;obtain⟨its,rv,ht,hz⟩:=I.tuple hq;refine assign_Tuple_tuple (I.ok.hd hc) ht (by simp[hn,←hl,rv.length]) hst λh' hx=>?_;have I1:Inv X w5 O H { s with heap:=h' }:=I.kept (t':=s.toks) λb o e=>hx b o (AAe (Heap.lt_size e)) e;exact h w5 _ O H xs _ Q I1 (by simpa using rv) hw
noncomputable def bJ(to ti:TE)(t:aQ):TG:=λv O H Q=>to O H λo H1=>ti O H1 λi H2=>t o i v H2 λH3=>Q O H3
theorem Xm(ho:PE X o to)(hi:PE X i ti)(hs:aR X t)
  (ha:∀v,assign (.Subscript o i pos) X.env v=(do
   let ov ←holding [v] (eval o X.env)
   let iv ←holding [v,ov] (eval i X.env)
   standAt pos
   holding [v,ov,iv] (setItem ov iv v)
   release [v,ov,iv] []):=by intro _;rfl):PG X (.Subscript o i pos) (bJ to ti t):=by
 intro w5 s O H v u Q I r h;rw[ha];refine AAA (AAp (thn (ho w5 s O H _ I h) λov s1 ⟨x,H1,I1,r1,q1⟩=>?_));refine AAA (AAp (thn (hi w5 s1 O H1 _ I1 q1) λiv s2 ⟨y,H2,I2,r2,q2⟩=>?_));refine AAA (wpAny_standAt (AAA (AAp (thn (hs w5 s2 O H2 x y v ov iv u _ I2 r1 r2 r q2) λ_ s3 ⟨H3,I3,q3⟩=>?_))));exact wpAny_release ⟨O,H3,I3,q3⟩
noncomputable def Ug(te:TE)(g:TG):TS:=λD O H=>te O H λx H1=>g x O H1 D.nx
theorem Xk(he:PE X e te)(hg:PG X tg g)(hs:swapsWithSole [tg] e pos.line X.env=pure false:=by rfl)(hw:swappedStores [tg] e X.env=pure none:=by rfl)
  (h1:(assignEach [tg] X.env).map (·.2)=[assign tg X.env]:=by rfl):PS X (.Assign [tg] e pos) (Ug te g):=by
 intro w5 s O H D I h;refine wpAny_Assign_stores (thn (he w5 s O H _ I h) λv s1 ⟨x,H1,I1,r1,q1⟩=>?_) hs hw;rw[h1];exact thn (hg w5 s1 O H1 x v _ I1 r1 q1) λ_ s2 q=>q
theorem Xh(hN:X.N.Nodup)(hi:X.N[i]?=some x)(hx:Loc X.env.scope x)(he:PE X e te)(hs:swapsWith e (some (.Name x pos')) pos.line X.env=pure false:=by rfl)(hf:X.fn x=true∨X.env.scope.names.lookup x=some .local:=by first|exact .inl rfl|exact .inr rfl|assumption):
  PS X (.Assign [.Name x pos'] e pos) (Ug te (Hi i)):=by
 intro w5 s O H D I h;refine wpAny_Assign_Name (thn (he w5 s O H _ I h) λv s1 ⟨y,H1,I1,r1,q1⟩=>?_) hs;exact IR I1 hN hi hx r1 (λs2 I2=>⟨_,H1,I2,q1⟩) hf
noncomputable def ak(i:Nat)(te:TE)(ti:TIp):TS:=λD O H=>∃x,O[i]?=some (some x)/\te O H λy H1=>ti x y H1 λz H2=>D.nx (O.set i (some z)) H2
theorem Xj(hN:X.N.Nodup)(hi:X.N[i]?=some x)(hx:Loc X.env.scope x)(he:PE X e te)(ho:PIp X op ti)(hf:X.fn x=true∨X.env.scope.names.lookup x=some .local:=by first|exact .inl rfl|exact .inr rfl|assumption):
  PS X (.AugAssign (.Name x pos') op e pos) (ak i te ti):=by
 intro w5 s O H D I h;obtain⟨v,e1,h⟩:=h;obtain⟨m,hn,hl⟩:=I.loc;have vis:Vis X.env.scope x:=by rcases hx with k|k;exact .inl k;exact .inr (.inl k)
 obtain⟨u,r,l⟩:=hl i x v hi e1 vis;refine wpAny_AugAssign_Name ?_;have go:wpAny (model X.prog X.w) X.A (eval e X.env) (λw s₂=>wpAny (model X.prog X.w) X.A (inplaceOp op u w) (λr s₃=>wpAny (model X.prog X.w) X.A (storeName X.env x r) (λ_=>SP X w5 D .next) X.xe s₃) X.xe s₂) X.xe s:=by
  refine thn (he w5 s O H _ I h) λw s1 ⟨y,H1,I1,r1,q1⟩=>?_;refine thn (ho w5 s1 O H1 v y u w _ I1 r r1 q1) λz s2 ⟨zv,H2,I2,r2,q2⟩=>?_;exact IR I2 hN hi hx r2 (λs3 I3=>⟨_,H2,I3,q2⟩) hf
 rcases l with ⟨hk,hm⟩|⟨hk,c,hc,hcell⟩
 ·exact wpAny_loadName_local I.ok.kind hk hn hm go
 ·rcases hk with hk|hk
  ·exact wpAny_loadName_cell I.ok.kind hk hc hcell go
  ·rcases hx with k|k
   ·have:X.env.scope.names.lookup x=some .free:=hk;rw[k] at this;cases this
   ·have:X.env.scope.names.lookup x=some .free:=hk;rw[k] at this;cases this
noncomputable def ipI(f:Int->Int->Int):TIp:=λx y H Q=>∃i j,x=.int i/\y=.int j/\Q (.int (f i j)) H
theorem YQ:PIp X .Add (ipI λi j=>i+j):=by
 intro w5 s O H x y v u Q I r1 r2 h;obtain⟨i,j,e1,e2,q⟩:=h;subst e1;subst e2;obtain⟨t,rfl⟩:=r1;obtain⟨t',rfl⟩:=r2;exact iadd_int ⟨.int _,H,I.tok _,⟨_,rfl⟩,q⟩
end
section
variable{X:Cx}{pos:Pos}
noncomputable def XM(c:TT)(tb:TS):TS:=λD O H=>∃W:Nat->St->Hp->Prop,(∃m,W m O H)/\∀m O H,W m O H->
 c O H λb H1=>if b=true then ∃N:St->Hp->Prop,(∀O' H',N O' H'->∃m',m'<m/\W m' O' H')/\tb { D with nx:=N,ct:=N,bk:=D.nx } O H1 else D.nx O H1
theorem Rm(hp:PassesOwn (model X.prog X.w) X.A X.env X.xe)(hc:PT X c tc)(hb:PSs X body tb):PS X (.While c body [] pos) (XM tc tb):=by
 intro w5 s O H D I h;obtain⟨W,⟨m0,w0⟩,turn⟩:=h;refine wpAny_While (codeAny_whileLoop (λn s'=>∃O' H',Inv X w5 O' H' s'/\W n O' H') ?_ m0 ⟨O,H,I,w0⟩);rintro n s1 ⟨u9,H1,I1,w1⟩;refine wpAny_passesOwn hp (thn (hc w5 s1 u9 H1 _ I1 (turn n u9 H1 w1)) λb s2 ⟨H2,I2,q2⟩=>?_);cases b with
 |true=>
  obtain⟨N,hN,q2⟩:=q2;rw[if_pos rfl];refine wpAny_passesOwn hp (thn (hb w5 s2 u9 H2 _ I2 q2) λf s3 q3=>?_);cases f with
  |next=>
   obtain⟨u8,H3,I3,n3⟩:=q3;obtain⟨m',hm,w3⟩:=hN u8 H3 n3;exact⟨m',hm,u8,H3,I3,w3⟩
  |cont=>
   obtain⟨u8,H3,I3,n3⟩:=q3;obtain⟨m',hm,w3⟩:=hN u8 H3 n3;exact⟨m',hm,u8,H3,I3,w3⟩
  |brk=>exact q3
  |ret v=>exact q3
 |false=>
  rw[if_neg AAh];exact wpAny_execs_nil ⟨u9,H2,I2,q2⟩
end
set_option genInjectivity false in
structure It where
 go:Nat->Hp->Prop
 yld:Nat->Hp->V->Hp->Prop
 stop:Nat->Hp->Prop
def G8(X:Cx)(w5:List (Addr×Obj))(H:Hp)(b:Addr):Prop:=
 H b=none/\b≠X.env.locals/\b∉X.fs/\(b∈X.ex∨X.s₀.heap.objs.size<=b)/\(∀x c,X.env.cells.lookup x=some c->c≠b)/\∀p∈X.pn++w5,p.1≠b
theorem Inv.fpOk(I:Inv X w5 O H s)(hb:s.heap.objs.size<=b)(hn:H' b=none):G8 X w5 H' b:=by
 refine⟨hn,Nat.ne_of_gt (AAM I.lt hb),I.nofs hb,.inr (AAt I.sz hb),λx c e z=>?_,λp hp z=>?_⟩
 ·obtain⟨v,q⟩:=I.cell x c e;exact absurd (AAM q.lt (by rw[z];exact hb)) (AAy _)
 ·exact absurd (AAM (Heap.lt_size (I.pin p hp).1) (by rw[z];exact hb)) (AAy _)
structure LX(P:Program)(w:World)(K:PySem.W.Frag)(tg:Expr)(J:It)(fp:List Addr)(it:Addr)(tn:Nat->Heap->Prop):Prop where
 mem:it∈fp
 obj:∀i h,tn i h->∀b∈fp,∃o,h.get? b=some o/\∀v,o.data≠.cell v
 keep:∀i h h',tn i h->(∀b∈fp,∀o,h.get? b=some o->h'.get? b=some o)->tn i h'
 item:∀(X:Cx),X.prog=P->X.w=w->X.K=K->X.calm=true->∀(i:Nat) (w5:List (Addr×Obj)) (s:Shared) (O:St) (H:Hp) (E:Value->Shared->Prop),Inv X w5 O H s->(∀b∈fp,G8 X w5 H b)->tn i s.heap->J.go i H->
  wpAny (model P w) X.A (pyNext (.ref it)) (λr s1=>∃u,r=some u /\
   wpAny (model P w) X.A (letOwnedTupleGo tg (.ref it) u) (λ_ s2=>∃x H',Inv X w5 O H' s2/\RelV x u/\J.yld i H x H'/\tn (i+1) s2.heap/\∀b∈fp,H' b=none) E s1) E s
 done:∀(X:Cx),X.prog=P->X.w=w->X.K=K->X.calm=true->∀(i:Nat) (w5:List (Addr×Obj)) (s:Shared) (O:St) (H:Hp) (E:Value->Shared->Prop),Inv X w5 O H s->(∀b∈fp,G8 X w5 H b)->tn i s.heap->J.stop i H->
  wpAny (model P w) X.A (pyNext (.ref it)) (λr s1=>r=none/\Inv X w5 O H s1) E s
 self:∀(A:Around) (i:Nat) (s:Shared) (Q:Value->Shared->Prop) (E:Value->Shared->Prop),tn i s.heap->Q (.ref it) s->wpAny (model P w) A (pyIter (.ref it)) Q E s
noncomputable abbrev TI:=St->Hp->(It->Hp->Prop)->Prop
def PIE(X:Cx)(w5:List (Addr×Obj))(O:St)(tg:Expr)(R:It->Hp->Prop)(itv:Value)(s2:Shared):Prop:=
 ∃(it:Addr) (fp:List Addr) (tn:Nat->Heap->Prop) (J:It) (H':Hp),itv=.ref it/\Inv X w5 O H' s2/\LX X.prog X.w X.K tg J fp it tn/\tn 0 s2.heap/\(∀b∈fp,G8 X w5 H' b)/\R J H'
def PI(X:Cx)(tg iter:Expr)(wi:TI):Prop:=
 ∀(w5:List (Addr×Obj)) (s:Shared) (O:St) (H:Hp) (R:It->Hp->Prop),Inv X w5 O H s->wi O H R->
  wpAny (model X.prog X.w) X.A (eval iter X.env) (λv s1=>wpAny (model X.prog X.w) X.A (pyIter v) (PIE X w5 O tg R) X.xe s1) X.xe s
theorem Ss(ho:s.heap.get? it=some o)(hc:o.cls=.type n)(hd:o.data=.fields vs)
  (hn:["enumerate", "zip", "dict_itemiterator", "dict_reverseitemiterator", "odict_iterator", "itertools.zip_longest", "itertools.pairwise"].contains n=false) (hQ:Q () s):wpAny M A (letOwnedTupleGo tg (.ref it) u) Q E s:=by
 unfold letOwnedTupleGo;cases tg<;>first
  |exact AAB hQ
  |(cases u<;>first
    |exact AAB hQ
    |(refine AAA (wpAny_load ho ?_);rw[hc,hd];show wpAny M A (if (["enumerate", "zip", "dict_itemiterator", "dict_reverseitemiterator", "odict_iterator", "itertools.zip_longest", "itertools.pairwise"].contains n&&vs[0]?==some (rawInt _))=true then _ else _) Q E s;rw[if_neg (by intro h;rw[hn,Bool.false_and] at h;cases h)];exact AAB hQ))
noncomputable def Itl(K:PySem.W.Frag)(a:Addr):It:=
 ⟨λi H=>∃xs x,SqL K H a xs/\xs[i]?=some x,λi H x H'=>H'=H/\∀xs,SqL K H a xs->xs[i]?=some x,λi H=>∃xs,SqL K H a xs/\xs.length<=i⟩
noncomputable def Itt(K:PySem.W.Frag)(a:Addr):It:=
 ⟨λi H=>∃xs x,SqT K H a xs/\xs[i]?=some x,λi H x H'=>H'=H/\∀xs,SqT K H a xs->xs[i]?=some x,λi H=>∃xs,SqT K H a xs/\xs.length<=i⟩
noncomputable def Itr(lo:Int)(n:Nat):It:=⟨λi _=>i<n,λi H x H'=>H'=H/\x=.int (lo+i),λi _=>n<=i⟩
theorem PZ{P:Program}{w:World}{K:PySem.W.Frag}{tg:Expr}(a it:Addr):LX P w K tg (Itl K a) [it] it (λi h=>h.IsListIter it a i) where
 mem:=by simp
 obj:=λi h st b hb=>by
  have e:b=it:=by simpa using hb
  subst e;obtain⟨o,e,c,d⟩:=st;exact⟨o,e,λv z=>by rw[d] at z;cases z⟩
 keep:=λi h h' st k=>st.at λo e=>k it (by simp) o e
 item:=by
  intro X hP hw hK hc i w5 s O H E I hf st hg;subst hP hw hK;obtain⟨xs,x,hq,hx⟩:=hg;obtain⟨its,rv,p,hz⟩:=I.list hq;obtain⟨u,hu,ru⟩:=rv.get hx;obtain⟨f0,f1,f2,f3,f4,f5⟩:=hf it (by simp);refine wpAny_pyNext_list_item st p.isList (x:=u) (by simpa using hu) λh' st' sb=>?_;have I1:Inv X w5 O H { s with heap:=h' }:=I.turned (t':=s.toks) (λb o hb e=>(sb.2 b hb).trans e) f0 f1 f3 f4 f5;obtain⟨o,e,c,d⟩:=id st';exact⟨u,rfl,Ss (s:={ s with heap:=h' }) e c d (by decide) ⟨x,H,I1,ru,⟨rfl,λys hy=>by rw[I.list_inj hy hq];exact hx⟩,st',λb hb=>(hf b hb).1⟩⟩
 done:=by
  intro X hP hw hK hc i w5 s O H E I hf st hg;subst hP hw hK;obtain⟨xs,hq,hx⟩:=hg;obtain⟨its,rv,p,hz⟩:=I.list hq;obtain⟨f0,f1,f2,f3,f4,f5⟩:=hf it (by simp);have hl:=rv.length;exact wpAny_pyNext_list_end (I.ok.hd hc) st p.isList (by simp;omega) λh' eb=>⟨rfl,I.turned (t':=s.toks) (λb o hb e=>eb b o hb e) f0 f1 f3 f4 f5⟩
 self:=λ_ _ _ _ _ st h=>wpAny_pyIter_listiter st h
theorem Mz{P:Program}{w:World}{K:PySem.W.Frag}{tg:Expr}(a it:Addr):LX P w K tg (Itt K a) [it] it (λi h=>h.IsTupleIter it a i) where
 mem:=by simp
 obj:=λi h st b hb=>by
  have e:b=it:=by simpa using hb
  subst e;obtain⟨o,e,c,d⟩:=st;exact⟨o,e,λv z=>by rw[d] at z;cases z⟩
 keep:=λi h h' st k=>st.at λo e=>k it (by simp) o e
 item:=by
  intro X hP hw hK hc i w5 s O H E I hf st hg;subst hP hw hK;obtain⟨xs,x,hq,hx⟩:=hg;obtain⟨its,rv,p,hz⟩:=I.tuple hq;obtain⟨u,hu,ru⟩:=rv.get hx;obtain⟨f0,f1,f2,f3,f4,f5⟩:=hf it (by simp);refine wpAny_pyNext_tuple_item st (show s.heap.IsTuple a its.toArray from p) (x:=u) (by simpa using hu) λh' st' sb=>?_;have I1:Inv X w5 O H { s with heap:=h' }:=I.turned (t':=s.toks) (λb o hb e=>(sb.2 b hb).trans e) f0 f1 f3 f4 f5;obtain⟨o,e,c,d⟩:=id st';exact⟨u,rfl,Ss (s:={ s with heap:=h' }) e c d (by decide) ⟨x,H,I1,ru,⟨rfl,λys hy=>by rw[I.tuple_inj hy hq];exact hx⟩,st',λb hb=>(hf b hb).1⟩⟩
 done:=by
  intro X hP hw hK hc i w5 s O H E I hf st hg;subst hP hw hK;obtain⟨xs,hq,hx⟩:=hg;obtain⟨its,rv,p,hz⟩:=I.tuple hq;obtain⟨f0,f1,f2,f3,f4,f5⟩:=hf it (by simp);have hl:=rv.length;exact wpAny_pyNext_tuple_end (I.ok.hd hc) st (show s.heap.IsTuple a its.toArray from p) (by simp;omega) λh' eb=>⟨rfl,I.turned (t':=s.toks) (λb o hb e=>eb b o hb e) f0 f1 f3 f4 f5⟩
 self:=λ_ _ _ _ _ st h=>wpAny_pyIter_tupleiter st h
theorem M3{P:Program}{w:World}{K:PySem.W.Frag}{tg:Expr}(it:Addr)(lo:Int)(n:Nat):LX P w K tg (Itr lo n) [it] it (λi h=>IsRangeIter h it (lo+(i:Nat) * 1) ((n:Int)-(i:Nat)) 1) where
 mem:=by simp
 obj:=λi h st b hb=>by
  have e:b=it:=by simpa using hb
  subst e;exact⟨_,st,λv z=>by
   have z':Data.fields _=Data.cell v:=z;cases z'⟩
 keep:=λi h h' st k=>k it (by simp) _ st
 item:=by
  intro X hP hw hK hc i w5 s O H E I hf st hg;subst hP hw hK;obtain⟨f0,f1,f2,f3,f4,f5⟩:=hf it (by simp);have W:=Walks.range (prog:=X.prog) (w:=X.w) (I.ok.hd hc) it lo 1 n;refine W.item i s _ _ hg st λv h' tk hv st' kk=>?_;obtain⟨t,rfl⟩:=hv;have I1:Inv X w5 O H { s with heap:=h',toks:=tk }:=I.turned (λb o hb e=>kk b o (by simpa using hb) e) f0 f1 f3 f4 f5;refine⟨_,rfl,Ss (s:={ s with heap:=h',toks:=tk }) (n := "range_iterator") st' rfl rfl (by decide) ⟨.int (lo+i),H,I1,⟨t,?_⟩,⟨rfl,rfl⟩,st',λb hb=>(hf b hb).1⟩⟩;rw[Int.mul_one]
 done:=by
  intro X hP hw hK hc i w5 s O H E I hf st hg;subst hP hw hK;obtain⟨f0,f1,f2,f3,f4,f5⟩:=hf it (by simp);exact wpAny_pyNext_range_end (I.ok.hd hc) st (by have:n<=i:=hg;omega) λh' eb=>⟨rfl,I.turned (t':=s.toks) (λb o hb e=>eb b o hb e) f0 f1 f3 f4 f5⟩
 self:=λ_ _ _ _ _ st h=>wpAny_pyIter_rangeiter st h
section
variable{X:Cx}{tg:Expr}
noncomputable def WK(K:PySem.W.Frag)(tl:TE):TI:=λO H R=>tl O H λx H1=>∃a,x=.ref a/\(∃xs,SqL K H1 a xs)/\R (Itl K a) H1
noncomputable def Z8(K:PySem.W.Frag)(tl:TE):TI:=λO H R=>tl O H λx H1=>∃a,x=.ref a/\(∃xs,SqT K H1 a xs)/\R (Itt K a) H1
theorem OT{l:Expr}{tl:TE}(hl:PE X l tl):PI X tg l (WK X.K tl):=by
 intro w5 s O H R I h;refine thn (hl w5 s O H _ I h) λv s1 ⟨x,H1,I1,r1,q1⟩=>?_;obtain⟨a,e,⟨xs,hq⟩,q⟩:=q1;subst e;cases r1;obtain⟨its,rv,p,hz⟩:=I1.list hq;refine wpAny_pyIter_list p.isList ?_;refine⟨s1.heap.objs.size,[s1.heap.objs.size],_,_,H1,rfl,I1.kept (t':=s1.toks) λb o e=>AAC _ e,PZ a _,⟨_,AAD _ rfl,rfl,rfl⟩,λb hb=>?_,q⟩;have e:b=s1.heap.objs.size:=by simpa using hb
 subst e;exact I1.fpOk (AAE _) (I1.hok.fresh (AAE _))
theorem Xl{l:Expr}{tl:TE}(hl:PE X l tl):PI X tg l (Z8 X.K tl):=by
 intro w5 s O H R I h;refine thn (hl w5 s O H _ I h) λv s1 ⟨x,H1,I1,r1,q1⟩=>?_;obtain⟨a,e,⟨xs,hq⟩,q⟩:=q1;subst e;cases r1;obtain⟨its,rv,p,hz⟩:=I1.tuple hq;refine wpAny_pyIter_tuple (show s1.heap.IsTuple a its.toArray from p) ?_;refine⟨s1.heap.objs.size,[s1.heap.objs.size],_,_,H1,rfl,I1.kept (t':=s1.toks) λb o e=>AAC _ e,Mz a _,⟨_,AAD _ rfl,rfl,rfl⟩,λb hb=>?_,q⟩;have e:b=s1.heap.objs.size:=by simpa using hb
 subst e;exact I1.fpOk (AAE _) (I1.hok.fresh (AAE _))
theorem Rf{w5:List (Addr×Obj)}{O:St}{H:Hp}{s:Shared}{lo hi:Int}{t u v:Tok}{tk:Nat}(I:Inv X w5 O H s)(h1:-(2 ^ 62)<=lo)(h2:lo<2 ^ 62)(h3:-(2 ^ 62)<=hi)(h4:hi<2 ^ 62)
  (q:R (Itr lo (hi-lo).toNat) H):wpAny (model X.prog X.w) X.A (pyIter (.ref s.heap.objs.size)) (PIE X w5 O tg R) E { s with heap:=s.heap.push { cls:=.type "range",data:=.fields #[.int lo t,.int hi u,.int 1 v] },toks:=tk }:=by
 refine wpAny_pyIter_range (IsRange.new ..) (small_one h1 h2 h3 h4) ?_;have I1:Inv X w5 O H { s with heap:=s.heap.push { cls:=.type "range",data:=.fields #[.int lo t,.int hi u,.int 1 v] },toks:=tk }:=I.kept λb o e=>AAC _ e;refine⟨(s.heap.push { cls:=.type "range",data:=.fields #[.int lo t,.int hi u,.int 1 v] }).objs.size,[(s.heap.push { cls:=.type "range",data:=.fields #[.int lo t,.int hi u,.int 1 v] }).objs.size],_,_,H,rfl,
  I1.kept (t':=tk) λb o e=>AAC _ e,M3 _ lo (hi-lo).toNat,?_,λb hb=>?_,q⟩
 ·have e1:lo+((0:Nat):Int) * 1=lo:=by simp
  have e2:(((hi-lo).toNat:Nat):Int)-((0:Nat):Int)=Builtin.Range.rangeSize lo hi 1:=by rw[rangeSize_one];split<;>omega
  show IsRangeIter _ _ (lo+((0:Nat):Int) * 1) ((((hi-lo).toNat:Nat):Int)-((0:Nat):Int)) 1;rw[e1,e2];exact AAD _ rfl
 ·have e:b=(s.heap.push { cls:=.type "range",data:=.fields #[.int lo t,.int hi u,.int 1 v] }).objs.size:=by simpa using hb
  subst e;exact I1.fpOk (AAE _) (I1.hok.fresh (AAE _))
noncomputable def Z9(ta:TA):TI:=λO H R=>ta O H λvs H1=>∃j:Int,vs=[.int j]/\-(2 ^ 62)<=j/\j<2 ^ 62/\R (Itr 0 j.toNat) H1
theorem Pn{a:Expr}{p pos:Pos}(hg:Gl X "range")(hm:X.mg "range" = none)(ha:PA X [a] ta)(hs:starEach [a] X.env=[(false,eval a X.env)]:=by rfl):PI X tg (.Call (.Name "range" p) [a] [] pos) (Z9 ta):=by
 intro w5 s O H R I h;refine Call_ (HM I hg hm boot_range (PyProof.Rows.callWith_type1 (thn (ha pos w5 s O H _ I h) λus s1 ⟨vs,H1,I1,r1,q1⟩=>?_) hs rfl));obtain⟨j,e,q1,q2,q⟩:=q1;subst e;cases r1 with
 |cons r rr=>
  cases rr;obtain⟨t,rfl⟩:=r;exact call_range_1 (Rf I1 (by omega) (by omega) q1 q2 (by simpa using q))
noncomputable def ai(wi:TI)(g:TG)(tb:TS):TS:=λD O H=>wi O H λJ H1=>∃W:Nat->Nat->St->Hp->Prop,(∃m,W 0 m O H1)/\∀i m O H,W i m O H->
 (J.stop i H/\D.nx O H)∨(J.go i H/\∃N:St->Hp->Prop,(∀O' H',N O' H'->∃m',m'<m/\W (i+1) m' O' H')/\∀x H',J.yld i H x H'->g x O H' λu6 H2=>tb { D with nx:=N,ct:=N,bk:=D.nx } u6 H2)
noncomputable def Kv(fp:List Addr)(h:Heap):List (Addr×Obj):=fp.filterMap λb=>(h.get? b).map λo=>(b,o)
theorem DZ(hb:b∈fp)(e:h.get? b=some o):(b,o)∈Kv fp h:=List.mem_filterMap.mpr ⟨b,hb,by rw[e];rfl⟩
theorem Pu(hp:p∈Kv fp h):p.1∈fp/\h.get? p.1=some p.2:=by
 obtain⟨b,hb,e⟩:=List.mem_filterMap.mp hp;cases q:h.get? b with
 |none=>rw[q] at e;cases e
 |some o=>
  rw[q] at e;have e':(b,o)=p:=Option.some.inj e;subst e';exact⟨hb,q⟩
theorem Inv.pinned(I:Inv X w5 O H s)(hf:∀b∈fp,G8 X w5 H b)(ho:∀b∈fp,∃o,s.heap.get? b=some o/\∀v,o.data≠.cell v):Inv X (w5++Kv fp s.heap) O H s:=
 I.pins_of λp hp=>(AAJ.mp hp).elim (λz=>I.pin p (AAb _ z)) λz=>by
  obtain⟨hb,e⟩:=Pu z;obtain⟨f0,f1,f2,_⟩:=hf p.1 hb;obtain⟨o,e',d⟩:=ho p.1 hb;rw[e] at e';cases e';exact⟨e,f0,f1,f2,d⟩
theorem Inv.unpinned(I:Inv X (w5++pl) O H s):Inv X w5 O H s:=I.pins_of λp hp=>I.pin p (AAb _ (AAc _ hp))
theorem NH(hp:PassesOwn (model X.prog X.w) X.A X.env X.xe)(hc:X.calm=true)(hi:PI X tg iter wi)(hg:PG X tg g)(hb:PSs X body tb)
  (hs:∀x,foldedSetIterable iter X.env x=pure x:=by intro _;rfl):PS X (.For tg iter body [] pos) (ai wi g tb):=by
 intro w5 s O H D I h;refine wpAny_For (thn (hi w5 s O H _ I h) λv s1 h1=>thn h1 λitv s2 h2=>?_) hs;obtain⟨it,fp,tn,J,H2,e,I2,T,st2,f2,W,⟨m0,w0⟩,turn⟩:=h2;subst e;have stat:∀{H':Hp},(∀b∈fp,H' b=none)->∀b∈fp,G8 X w5 H' b:=λhn b hb=>⟨hn b hb,(f2 b hb).2⟩;refine codeAny_forLoop_any (λn s'=>∃i O' H',Inv X w5 O' H' s'/\tn i s'.heap/\(∀b∈fp,H' b=none)/\W i n O' H') ?_ m0 ⟨0,O,H2,I2,st2,λb hb=>(f2 b hb).1,w0⟩;rintro n s3 ⟨i,u8,H3,I3,st3,fr3,w3⟩;rcases turn i n u8 H3 w3 with ⟨stop,qn⟩|⟨go,N,hN,step⟩
 ·refine wpAny_passesOwn hp (thn (T.done X rfl rfl rfl hc i w5 s3 u8 H3 X.xe I3 (stat fr3) st3 stop) λr s4 ⟨hr,I4⟩=>?_);subst hr;exact wpAny_execs_nil ⟨u8,H3,I4,qn⟩
 ·refine wpAny_passesOwn hp (thn (T.item X rfl rfl rfl hc i w5 s3 u8 H3 X.xe I3 (stat fr3) st3 go) λr s4 ⟨u,hr,h4⟩=>?_);subst hr;refine wpAny_passesOwn hp (thn h4 λ_ s5 ⟨x,H5,I5,r5,y5,st5,fr5⟩=>?_);have I5':=I5.pinned (stat fr5) (T.obj _ _ st5);refine wpAny_passesOwn hp (thn (hg _ s5 u8 H5 x u _ I5' r5 (step x H5 y5)) λ_ s6 ⟨v7,H6,I6,q6⟩=>?_);refine wpAny_passesOwn hp (thn (hb _ s6 v7 H6 _ I6 q6) λf s7 q7=>?_);have again:∀{v8:St} {H7:Hp},Inv X (w5++Kv fp s5.heap) v8 H7 s7->N v8 H7->∃m,m<n/\∃i O' H',Inv X w5 O' H' s7/\tn i s7.heap/\(∀b∈fp,H' b=none)/\W i m O' H':=λ{v8 H7} I7 n7=>by
   obtain⟨m',hm,w7⟩:=hN v8 H7 n7;refine⟨m',hm,i+1,v8,H7,I7.unpinned,T.keep _ _ _ st5 λb hb o e=>(I7.pin (b,o) (AAb _ (AAb _ (DZ hb e)))).1,λb hb=>?_,w7⟩;obtain⟨o,e,d⟩:=T.obj _ _ st5 b hb;exact(I7.pin (b,o) (AAb _ (AAb _ (DZ hb e)))).2.1
  cases f with
  |next=>obtain⟨v8,H7,I7,n7⟩:=q7;exact again I7 n7
  |cont=>obtain⟨v8,H7,I7,n7⟩:=q7;exact again I7 n7
  |brk=>obtain⟨v8,H7,I7,q7⟩:=q7;exact⟨v8,H7,I7.unpinned,q7⟩
  |ret v=>obtain⟨x7,v8,H7,I7,r7,q7⟩:=q7;exact⟨x7,v8,H7,I7.unpinned,r7,q7⟩
end
noncomputable abbrev R2:=V->V->Hp->VK->Prop
def OpR(X:Cx)(f:Value->Value->Sem Value)(r:R2):Prop:=
 ∀(w5:List (Addr×Obj)) (s:Shared) (O:St) (H:Hp) (x y:V) (v u:Value) (Q:VK),Inv X w5 O H s->RelV x v->RelV y u->r x y H Q->
  wpAny (model X.prog X.w) X.A (f v u) (EP X w5 O Q) X.xe s
def UnR(X:Cx)(f:Value->Sem Value)(r:V->Hp->VK->Prop):Prop:=
 ∀(w5:List (Addr×Obj)) (s:Shared) (O:St) (H:Hp) (x:V) (v:Value) (Q:VK),Inv X w5 O H s->RelV x v->r x H Q->
  wpAny (model X.prog X.w) X.A (f v) (EP X w5 O Q) X.xe s
def Bo(X:Cx)(f:Value)(r:List V->Hp->VK->Prop):Prop:=
 ∀(w5:List (Addr×Obj)) (s:Shared) (O:St) (H:Hp) (xs:List V) (us:List Value) (Q:VK),Inv X w5 O H s->Vals xs us->r xs H Q->
  wpAny (model X.prog X.w) X.A (call f us) (EP X w5 O Q) X.xe s
def bP(X:Cx)(r:V->Hp->(Bool->Hp->Prop)->Prop):Prop:=
 ∀(w5:List (Addr×Obj)) (s:Shared) (O:St) (H:Hp) (x:V) (v:Value) (Q:Bool->Hp->Prop),Inv X w5 O H s->RelV x v->r x H Q->
  wpAny (model X.prog X.w) X.A (truthy v) (TP X w5 O Q) X.xe s
noncomputable def tOp(r:R2)(ta tb:TE):TE:=λO H Q=>ta O H λx H1=>tb O H1 λy H2=>r x y H2 Q
noncomputable def tUn(r:V->Hp->VK->Prop)(ta:TE):TE:=λO H Q=>ta O H λx H1=>r x H1 Q
noncomputable def rI(C:Int->Int->Prop)(g:Int->Int->V):R2:=λx y H Q=>∃i j,x=.int i/\y=.int j/\C i j/\Q (g i j) H
noncomputable def rI0(g:Int->Int->V):R2:=λx y H Q=>∃i j,x=.int i/\y=.int j/\Q (g i j) H
noncomputable def rU(g:Int->V):V->Hp->VK->Prop:=λx H Q=>∃i,x=.int i/\Q (g i) H
section
variable{X:Cx}{a b:Expr}{ta tb:TE}{pos:Pos}
theorem Yq(ha:PE X a ta)(hb:PE X b tb){w5:List (Addr×Obj)}{s:Shared}{H:Hp}{R:V->V->Hp->Prop}(I:Inv X w5 O H s)
  (h:ta O H λx H1=>tb O H1 λy H2=>R x y H2) {Q:Value->Shared->Prop} {f:Value->Value->Sem Value}
  (hf:∀v u s2 x y H2,Inv X w5 O H2 s2->RelV x v->RelV y u->R x y H2->wpAny (model X.prog X.w) X.A (f v u) Q X.xe s2) :
  wpAny (model X.prog X.w) X.A (eval a X.env) (λv s₁=>wpAny (model X.prog X.w) X.A (eval b X.env) (λu s₂=>wpAny (model X.prog X.w) X.A (f v u) Q X.xe s₂) X.xe s₁) X.xe s:=by
 refine thn (ha w5 s O H _ I h) λv s1 ⟨x,H1,I1,r1,q1⟩=>?_;refine thn (hb w5 s1 O H1 _ I1 q1) λu s2 ⟨y,H2,I2,r2,q2⟩=>?_;exact hf v u s2 x y H2 I2 r1 r2 q2
theorem Zh{op:Operator}{r:R2}(ho:OpR X (binaryOp op) r)(ha:PE X a ta)(hb:PE X b tb):PE X (.BinOp a op b pos) (tOp r ta tb):=by
 intro w5 s O H Q I h;exact wpAny_BinOp (Yq ha hb I h λv u s2 x y H2 I2 rx ry q=>ho w5 s2 O H2 x y v u Q I2 rx ry q)
theorem Zg(ho:UnR X (unaryOp op) r)(ha:PE X a ta):PE X (.UnaryOp op a pos) (tUn r ta):=by
 intro w5 s O H Q I h;exact UnaryOp_ (thn (ha w5 s O H _ I h) λv s1 ⟨x,H1,I1,r1,q1⟩=>ho w5 s1 O H1 x v Q I1 r1 q1)
theorem opI{f:Value->Value->Sem Value}{g:Int->Int->Int}
  (rule:∀(i j:Int) (t u:Tok) (s:Shared) (Q:Value->Shared->Prop) (E:Value->Shared->Prop),C i j->Q (.int (g i j) s.toks) { s with toks:=s.toks+1 }->wpAny (model X.prog X.w) X.A (f (.int i t) (.int j u)) Q E s) :
  OpR X f (rI C λi j=>.int (g i j)):=by
 intro w5 s O H x y v u Q I rx ry h;obtain⟨i,j,rfl,rfl,hc,q⟩:=h;obtain⟨t,rfl⟩:=rx;obtain⟨t',rfl⟩:=ry;exact rule i j t t' s _ _ hc ⟨.int (g i j),H,I.tok _,⟨_,rfl⟩,q⟩
theorem Zr{g:Int->Int->Int}
  (rule:∀(i j:Int) (t u:Tok) (s:Shared) (Q:Value->Shared->Prop) (E:Value->Shared->Prop),Q (.int (g i j) s.toks) { s with toks:=s.toks+1 }->wpAny (model X.prog X.w) X.A (f (.int i t) (.int j u)) Q E s) :
  OpR X f (rI0 λi j=>.int (g i j)):=by
 intro w5 s O H x y v u Q I rx ry h;obtain⟨i,j,rfl,rfl,q⟩:=h;obtain⟨t,rfl⟩:=rx;obtain⟨t',rfl⟩:=ry;exact rule i j t t' s _ _ ⟨.int (g i j),H,I.tok _,⟨_,rfl⟩,q⟩
theorem VJ{g:Int->Int->Bool}
  (rule:∀(i j:Int) (t u:Tok) (s:Shared) (Q:Value->Shared->Prop) (E:Value->Shared->Prop),Q (.bool (g i j)) s->wpAny (model X.prog X.w) X.A (f (.int i t) (.int j u)) Q E s) :
  OpR X f (rI0 λi j=>.bl (g i j)):=by
 intro w5 s O H x y v u Q I rx ry h;obtain⟨i,j,rfl,rfl,q⟩:=h;obtain⟨t,rfl⟩:=rx;obtain⟨t',rfl⟩:=ry;exact rule i j t t' s _ _ ⟨.bl (g i j),H,I,rfl,q⟩
def bW(i j:Int):Prop:=0<j/\j<1073741824
def bV(i j:Int):Prop:=0<=j/\j<=1000000/\i.natAbs<2 ^ 64
def CMul(i j:Int):Prop:=(-(2 ^ 64)<i/\i<2 ^ 64)∨(-(2 ^ 64)<j/\j<2 ^ 64)
theorem CMul.ok(h:CMul i j):IntMulOk i j:=by
 rcases h with ⟨h1,h2⟩|⟨h1,h2⟩
 ·exact .of_left (intBits_le_64 h1 h2)
 ·exact .of_right (intBits_le_64 h1 h2)
theorem YB:OpR X (binaryOp .Add) (rI0 λi j=>.int (i+j)):=Zr λ_ _ _ _ _ _ _ q=>add_int q
theorem X2:OpR X (binaryOp .Sub) (rI0 λi j=>.int (i-j)):=Zr λ_ _ _ _ _ _ _ q=>sub_int q
theorem X6:OpR X (binaryOp .Mult) (rI CMul λi j=>.int (i * j)):=opI λ_ _ _ _ _ _ _ hc q=>mul_int q hc.ok
theorem VH:OpR X (binaryOp .FloorDiv) (rI bW λi j=>.int (i / j)):=opI λi j _ _ _ _ _ hc q=>by
 have h1:(0:Int)<j:=hc.1;have h2:j<1073741824:=hc.2;exact floordiv_int (by omega) (by rw[Int.fdiv_eq_ediv_of_nonneg i (by omega)];exact q) (.inl (PyProof.noPylong_small (by omega)))
theorem X7:OpR X (binaryOp .Mod) (rI (λ_ j=>0<j) λi j=>.int (i % j)):=opI λi j _ _ _ _ _ hc q=>by
 have h1:(0:Int)<j:=hc;exact mod_int' (by omega) (by rw[Int.fmod_eq_emod_of_nonneg i (by omega)];exact q)
theorem X4:OpR X (binaryOp .Pow) (rI bV λi j=>.int (i ^ j.toNat)):=opI λ_ _ _ _ _ _ _ hc q=>pow_int_small hc.1 hc.2.1 hc.2.2 q
theorem unI{g:Int->Int}
  (rule:∀(i:Int) (t:Tok) (s:Shared) (Q:Value->Shared->Prop) (E:Value->Shared->Prop),Q (.int (g i) s.toks) { s with toks:=s.toks+1 }->wpAny (model X.prog X.w) X.A (f (.int i t)) Q E s) :
  UnR X f (rU λi=>.int (g i)):=by
 intro w5 s O H x v Q I rx h;obtain⟨i,rfl,q⟩:=h;obtain⟨t,rfl⟩:=rx;exact rule i t s _ _ ⟨.int (g i),H,I.tok _,⟨_,rfl⟩,q⟩
theorem XE:UnR X (unaryOp .USub) (rU λi=>.int (-i)):=unI λ_ _ _ _ _ q=>neg_int q
end
noncomputable def aq:V->V->Bool
 | .non,.non=>true | .non,.int _=>true | .int _,.non=>true | .non,.bl _=>true | .bl _,.non=>true | .non,.str _=>true | .str _,.non=>true
 | .int _,.int _=>true | .bl _,.bl _=>true | .str _,.str _=>true | .byt _,.byt _=>true
 | .int _,.str _=>true | .str _,.int _=>true | .bl _,.str _=>true | .str _,.bl _=>true
 |_,_=>false
noncomputable def rEq:R2:=λx y H Q=>aq x y=true/\Q (.bl (decide (x=y))) H
theorem Vc:decide (V.int i=V.int j)=(i==j):=by
 rw[Bool.eq_iff_iff];simp
theorem Yi:decide (V.bl i=V.bl j)=(i==j):=by
 rw[Bool.eq_iff_iff];simp
theorem O4:decide (V.str i=V.str j)=(i==j):=by
 rw[Bool.eq_iff_iff];simp
theorem Vd:decide (V.byt i=V.byt j)=(i.toList==j.toList):=by
 rw[Bool.eq_iff_iff];cases i;cases j;simp
section
variable{X:Cx}{a b c:Expr}{ta tb tc:TE}{pos:Pos}
theorem CP(I:Inv X w5 O H s)(q:Q (.bl k) H)(e:k=k'):EP X w5 O Q (.bool k') s:=by
 subst e;exact⟨.bl k,H,I,rfl,q⟩
theorem Zq:OpR X (compareOp .Eq) rEq:=by
 intro w5 s O H x y v u Q I rx ry h;obtain⟨hs,q⟩:=h;cases x with
 |non=>
  cases rx;cases y with
  |non=>cases ry;exact PySem.EqNone.eq_none_none (CP I q (by simp))
  |bl j=>cases ry;exact PySem.EqNone.eq_none_bool (CP I q (by simp))
  |int j=>obtain⟨t',rfl⟩:=ry;exact PySem.EqNone.eq_none_int (CP I q (by simp))
  |str j=>obtain⟨t',rfl⟩:=ry;exact PySem.EqNone.eq_none_str (CP I q (by simp))
  |_=>exact absurd (show false=true from hs) AAh
 |bl i=>
  cases rx;cases y with
  |non=>cases ry;exact PySem.EqNone.eq_bool_none (CP I q (by simp))
  |bl j=>cases ry;exact eq_bool (CP I q Yi)
  |str j=>obtain⟨t',rfl⟩:=ry;exact PySem.EqMixed.eq_bool_str (CP I q (by simp))
  |_=>exact absurd (show false=true from hs) AAh
 |int i=>
  obtain⟨t,rfl⟩:=rx;cases y with
  |non=>cases ry;exact PySem.EqNone.eq_int_none (CP I q (by simp))
  |int j=>obtain⟨t',rfl⟩:=ry;exact eq_int (CP I q Vc)
  |str j=>obtain⟨t',rfl⟩:=ry;exact PySem.EqMixed.eq_int_str (CP I q (by simp))
  |_=>exact absurd (show false=true from hs) AAh
 |str i=>
  obtain⟨t,rfl⟩:=rx;cases y with
  |non=>cases ry;exact PySem.EqNone.eq_str_none (CP I q (by simp))
  |bl j=>cases ry;exact PySem.EqMixed.eq_str_bool (CP I q (by simp))
  |int j=>obtain⟨t',rfl⟩:=ry;exact PySem.EqMixed.eq_str_int (CP I q (by simp))
  |str j=>obtain⟨t',rfl⟩:=ry;exact eq_str (CP I q O4)
  |_=>exact absurd (show false=true from hs) AAh
 |byt i=>
  obtain⟨t,rfl⟩:=rx;cases y with
  |byt j=>obtain⟨t',rfl⟩:=ry;exact PySem.W.eq_bytes (CP I q Vd)
  |_=>exact absurd (show false=true from hs) AAh
 |_=>cases y<;>exact absurd (show false=true from hs) AAh
theorem Zm:OpR X (compareOp .Lt) (rI0 λi j=>.bl (decide (i<j))):=VJ λ_ _ _ _ _ _ _ q=>lt_int q
theorem Zn:OpR X (compareOp .LtE) (rI0 λi j=>.bl (decide (i<=j))):=VJ λ_ _ _ _ _ _ _ q=>le_int q
theorem Zo:OpR X (compareOp .Gt) (rI0 λi j=>.bl (decide (j<i))):=VJ λ_ _ _ _ _ _ _ q=>gt_int q
theorem Zp:OpR X (compareOp .GtE) (rI0 λi j=>.bl (decide (j<=i))):=VJ λ_ _ _ _ _ _ _ q=>ge_int q
theorem Pq:OpR X (compareOp .In) (λx y H Q=>∃i j,x=.str i/\y=.str j/\Q (.bl (!(Builtin.Str.occurrences j i 0 j.length 1).isEmpty)) H):=by
 intro w5 s O H x y v u Q I rx ry h;obtain⟨i,j,rfl,rfl,q⟩:=h;obtain⟨t,rfl⟩:=rx;obtain⟨t',rfl⟩:=ry;exact in_str (CP I q rfl)
theorem X8:OpR X (compareOp .Is) (λx y H Q=>y=.non/\Q (.bl (decide (x=.non))) H):=by
 intro w5 s O H x y v u Q I rx ry h;obtain⟨rfl,q⟩:=h;cases ry;refine is_none_gen (CP I q ?_);cases x<;>first
  |(cases rx;rfl)
  |(obtain⟨t,rfl⟩:=rx;rfl)
theorem VG:OpR X (compareOp .IsNot) (λx y H Q=>y=.non/\Q (.bl (!decide (x=.non))) H):=by
 intro w5 s O H x y v u Q I rx ry h;obtain⟨rfl,q⟩:=h;cases ry;refine isnot_none_gen (CP I q ?_);cases x<;>first
  |(cases rx;rfl)
  |(obtain⟨t,rfl⟩:=rx;rfl)
theorem Kx:OpR X (compareOp .NotIn) (λx y H Q=>∃i j,x=.str i/\y=.str j/\Q (.bl (!(!(Builtin.Str.occurrences j i 0 j.length 1).isEmpty))) H):=by
 intro w5 s O H x y v u Q I rx ry h;obtain⟨i,j,rfl,rfl,q⟩:=h;obtain⟨t,rfl⟩:=rx;obtain⟨t',rfl⟩:=ry;exact notIn_str (CP I q rfl)
theorem SK(b:Expr)(h:op≠.In:=by decide)(h2:op≠.NotIn:=by decide):behindInMarks op b=false:=by
 have e1:(op==CmpOp.In)=false:=by cases op<;>first|rfl|exact absurd rfl h
 have e2:(op==CmpOp.NotIn)=false:=by cases op<;>first|rfl|exact absurd rfl h2
 cases b<;>simp[behindInMarks,e1,e2]
theorem VA{r:R2}(ho:OpR X (compareOp op) r)(ha:PE X a ta)(hb:PE X b tb)(hm:behindInMarks op b=false):PE X (.Compare a [op] [b] pos) (tOp r ta tb):=by
 intro w5 s O H Q I h;exact wpAny_Compare1 (Yq ha hb I h λv u s2 x y H2 I2 rx ry q=>ho w5 s2 O H2 x y v u Q I2 rx ry q) hm
noncomputable def V2(t:TE):TT:=λO H Q=>t O H λx H'=>∃k,x=.bl k/\Q k H'
theorem Uz(ho:OpR X (compareOp op) r)(ha:PE X a ta)(hb:PE X b tb)(hm:behindInMarks op b=false):PT X (.Compare a [op] [b] pos) (V2 (tOp r ta tb)):=by
 intro w5 s O H Q I h;refine wpAny_isTrue_Compare1 (thn (ha w5 s O H _ I h) λv s1 ⟨x,H1,I1,r1,q1⟩=>thn (hb w5 s1 O H1 _ I1 q1) λu s2 ⟨y,H2,I2,r2,q2⟩=>
  thn (ho w5 s2 O H2 x y v u _ I2 r1 r2 q2) λc s3 ⟨z,H3,I3,r3,k,e,q3⟩=>?_) hm
 subst e;cases r3;exact wpAny_truthy_bool ⟨H3,I3,q3⟩
noncomputable def M9(r r':R2)(ta tb tc:TE):TE:=λO H Q=>ta O H λx H1=>tb O H1 λy H2=>r x y H2 λz H3=>∃k,z=.bl k /\
 (if k=true then tc O H3 λw' H4=>r' y w' H4 Q else Q (.bl false) H3)
theorem R6(ho:OpR X (compareOp op) r)(ho':OpR X (compareOp op') r')(ha:PE X a ta)(hb:PE X b tb)(hc:PE X c tc)
  (hm:lastMarks [op,op'] [b,c]=false:=by with_unfolding_all rfl):PE X (.Compare a [op,op'] [b,c] pos) (M9 r r' ta tb tc):=by
 intro w5 s O H Q I h;refine Compare_chain (thn (ha w5 s O H _ I h) λv s1 ⟨x,H1,I1,r1,q1⟩=>chain_link (thn (hb w5 s1 O H1 _ I1 q1) λu s2 ⟨y,H2,I2,r2,q2⟩=>
  thn (ho w5 s2 O H2 x y v u _ I2 r1 r2 q2) λd s3 ⟨z,H3,I3,r3,k,e,q3⟩=>?_)) hm
 subst e;cases r3;refine wpAny_truthy_bool ?_;cases k with
 |false=>exact ite_ff ⟨.bl false,H3,I3,rfl,q3⟩
 |true=>exact ite_tt (chain_last (thn (hc w5 s3 O H3 _ I3 q3) λw' s4 ⟨z',H4,I4,r4,q4⟩=>ho' w5 s4 O H4 y z' u w' Q I4 r2 r4 q4))
theorem Rk(ho:OpR X (compareOp op) r)(ho':OpR X (compareOp op') r')(ha:PE X a ta)(hb:PE X b tb)(hc:PE X c tc)
  (hm:lastMarks [op,op'] [b,c]=false:=by with_unfolding_all rfl):PT X (.Compare a [op,op'] [b,c] pos) (V2 (M9 r r' ta tb tc)):=by
 intro w5 s O H Q I h;refine isTrue_chain (thn (ha w5 s O H _ I h) λv s1 ⟨x,H1,I1,r1,q1⟩=>test_link (thn (hb w5 s1 O H1 _ I1 q1) λu s2 ⟨y,H2,I2,r2,q2⟩=>
  thn (ho w5 s2 O H2 x y v u _ I2 r1 r2 q2) λd s3 ⟨z,H3,I3,r3,k,e,q3⟩=>?_)) hm
 subst e;cases r3;refine wpAny_truthy_bool ?_;cases k with
 |false=>
  obtain⟨k',e',q'⟩:=q3;cases e';exact ite_ff ⟨H3,I3,q'⟩
 |true=>
  refine ite_tt (test_last (thn (hc w5 s3 O H3 _ I3 q3) λw' s4 ⟨z',H4,I4,r4,q4⟩=>thn (ho' w5 s4 O H4 y z' u w' _ I4 r2 r4 q4) λd' s5 ⟨z2,H5,I5,r5,k2,e2,q5⟩=>?_));subst e2;cases r5;exact wpAny_truthy_bool ⟨H5,I5,q5⟩
def aP(K:PySem.W.Frag)(x:V)(H:Hp)(k:Bool):Prop:=
 match x with
 | .non=>k=false
 | .bl b=>k=b
 | .int i=>k=(i != 0)
 | .str y=>y.length<=sizeLine/\k=((y.length:Int) != 0)
 | .byt y=>y.size<=sizeLine/\k=((y.size:Int) != 0)
 | .ref p=>(∃xs,SqL K H p xs/\k=!xs.isEmpty)∨(∃xs,SqT K H p xs/\k=!xs.isEmpty)∨∃kvs,H p=some (.dK kvs)/\k=!kvs.isEmpty
 |_=>False
theorem Na(r:KV kvs vs):(!vs.isEmpty)=!kvs.isEmpty:=by
 cases r<;>rfl
theorem JB(r:Vals xs its):(!its.toArray.isEmpty)=!xs.isEmpty:=by
 cases r<;>simp
theorem GG:(sizeLine:Nat)<2 ^ 63:=by rw[sizeLine_eq];decide
theorem XG:bP X (λx H Q=>∃k,aP X.K x H k/\Q k H):=by
 intro w5 s O H x v Q I rx h;obtain⟨k,e,q⟩:=h;have hl:=GG;have hs:sizeLine=16777216:=sizeLine_eq;cases x with
 |non=>
  cases rx;have e':k=false:=e;subst e';exact truthy_none ⟨H,I,q⟩
 |bl b=>
  cases rx;have e':k=b:=e;subst e';exact wpAny_truthy_bool ⟨H,I,q⟩
 |int i=>
  obtain⟨t,rfl⟩:=rx;have e':k=(i != 0):=e;subst e';exact PySem.P.truthy_int ⟨H,I,q⟩
 |str y=>
  obtain⟨t,rfl⟩:=rx;obtain⟨hy,e'⟩:y.length<=sizeLine/\k=((y.length:Int) != 0):=e;subst e';exact PySem.P.truthy_str (by omega) ⟨H,I.tok _,q⟩
 |byt y=>
  obtain⟨t,rfl⟩:=rx;obtain⟨hy,e'⟩:y.size<=sizeLine/\k=((y.size:Int) != 0):=e;subst e';exact PySem.W.truthy_bytes (by omega) ⟨H,I.tok _,q⟩
 |ref p=>
  cases rx;have e':(∃xs,SqL X.K H p xs/\k=!xs.isEmpty)∨(∃xs,SqT X.K H p xs/\k=!xs.isEmpty)∨∃kvs,H p=some (.dK kvs)/\k=!kvs.isEmpty:=e;rcases e' with ⟨xs,hx,e'⟩|⟨xs,hx,e'⟩|⟨kvs,hx,e'⟩
  ·subst e';obtain⟨its,r,pl,hz⟩:=I.list hx;have hlen:=r.length;exact wpAny_truthy_list pl.isList (by simp only[List.size_toArray];omega) ⟨H,I.tok _,by rw[JB r];exact q⟩
  ·subst e';obtain⟨its,r,pl,hz⟩:=I.tuple hx;have hlen:=r.length;exact truthy_tuple pl (by simp only[List.size_toArray];omega) ⟨H,I.tok _,by rw[JB r];exact q⟩
  ·subst e';obtain⟨hz,hS,vs,r,m⟩:kvs.length<=sizeLine/\(p==sysModules)=false/\∃vs,KV kvs vs/\s.heap.DictOf (CM X.prog X.w) p vs:=I.hok p _ hx;have hlen:kvs.length=vs.length:=Paired.length r;exact wpAny_truthy_dict hS m (by omega) ⟨H,I.tok _,by rw[Na r];exact q⟩
 |_=>exact(show False from e).elim
theorem Rj(ha:PE X a ta)(he:∀whole,isTrue a X.env whole=(do let v ←whole;standAt a.pos;holding [v] (truthy v))):
  PT X a (λO H Q=>ta O H λx H'=>∃k,aP X.K x H' k/\Q k H'):=by
 intro w5 s O H Q I h;exact isTrue_plain (thn (ha w5 s O H _ I h) λv s1 ⟨x,H1,I1,r1,q1⟩=>XG w5 s1 O H1 x v Q I1 r1 q1) (he _)
theorem NM:OpR X (binaryOp .Add) (λx y H Q=>∃i j,x=.str i/\y=.str j/\i.length+j.length<=sizeLine/\Q (.str (i++j)) H):=by
 intro w5 s O H x y v u Q I rx ry h;obtain⟨i,j,rfl,rfl,hz,q⟩:=h;obtain⟨t,rfl⟩:=rx;obtain⟨t',rfl⟩:=ry;exact add_str (λt' tk=>⟨.str (i++j),H,I.tok _,⟨_,rfl⟩,q⟩) hz
theorem DC(r:Vals [x] us):∃u,us=[u]/\RelV x u:=by
 cases r with
 |cons r1 r2=>cases r2;exact⟨_,rfl,r1⟩
theorem Qy(r:Vals [x,y] us):∃u w',us=[u,w']/\RelV x u/\RelV y w':=by
 cases r with
 |cons r1 r2=>
  cases r2 with
  |cons r3 r4=>cases r4;exact⟨_,_,rfl,r1,r3⟩
theorem QQ(hc:X.calm=true):Bo X (.builtin "max") (λxs H Q=>∃i j,xs=[.int i,.int j]/\Q (.int (if j > i then j else i)) H):=by
 intro w5 s O H xs us Q I r h;obtain⟨i,j,rfl,q⟩:=h;obtain⟨u,w',rfl,⟨t,rfl⟩,⟨t',rfl⟩⟩:=Qy r;refine max_two_ints (I.ok.hd hc) λh' tk k=>⟨_,H,I.kept k,?_,q⟩;by_cases hj:j > i
 ·rw[if_pos hj,if_pos hj];exact⟨_,rfl⟩
 ·rw[if_neg hj,if_neg hj];exact⟨_,rfl⟩
theorem QU:Bo X (.type "int") (λxs H Q=>(∃i,xs=[.int i]/\Q (.int i) H)∨∃k,xs=[.bl k]/\Q (.int (if k then 1 else 0)) H):=by
 intro w5 s O H xs us Q I r h;rcases h with ⟨i,rfl,q⟩|⟨k,rfl,q⟩
 ·obtain⟨u,rfl,t,rfl⟩:=DC r;exact call_int_int ⟨.int i,H,I,⟨_,rfl⟩,q⟩
 ·obtain⟨u,rfl,r1⟩:=DC r;cases r1;exact call_int_bool ⟨.int (if k then 1 else 0),H,I.tok _,⟨_,rfl⟩,q⟩
theorem LN:Bo X (.type "str") (λxs H Q=>∃i,xs=[.int i]/\i.natAbs.log2<1920/\Q (.str (toString i)) H):=by
 intro w5 s O H xs us Q I r h;obtain⟨i,rfl,hz,q⟩:=h;obtain⟨u,rfl,t,rfl⟩:=DC r;exact PySem.P.str_of_int hz ⟨.str _,H,I.tok _,⟨_,rfl⟩,q⟩
def bT(K:PySem.W.Frag)(x:V)(H:Hp)(n:Nat):Prop:=
 match x with
 | .str y=>y.length<=sizeLine/\n=y.length
 | .byt y=>y.size<=sizeLine/\n=y.size
 | .ref p=>(∃xs,SqL K H p xs/\n=xs.length)∨∃xs,SqT K H p xs/\n=xs.length
 |_=>False
theorem Tb:Bo X (.builtin "len") (λxs H Q=>∃x n,xs=[x]/\bT X.K x H n/\Q (.int n) H):=by
 intro w5 s O H xs us Q I r h;obtain⟨x,n,rfl,e,q⟩:=h;obtain⟨u,rfl,rx⟩:=DC r;have hl:=GG;have hs:sizeLine=16777216:=sizeLine_eq;cases x with
 |str y=>
  obtain⟨t,rfl⟩:=rx;obtain⟨hy,e'⟩:y.length<=sizeLine/\n=y.length:=e;subst e';exact len_str (by omega) ⟨.int _,H,I.tok _,⟨_,rfl⟩,q⟩
 |byt y=>
  obtain⟨t,rfl⟩:=rx;obtain⟨hy,e'⟩:y.size<=sizeLine/\n=y.size:=e;subst e';exact PySem.W.len_bytes (by omega) ⟨.int _,H,I.tok _,⟨_,rfl⟩,q⟩
 |ref p=>
  cases rx;have e':(∃xs,SqL X.K H p xs/\n=xs.length)∨∃xs,SqT X.K H p xs/\n=xs.length:=e;rcases e' with ⟨xs,hx,e'⟩|⟨xs,hx,e'⟩
  ·subst e';obtain⟨its,r',pl,hz⟩:=I.list hx;have hlen:=r'.length;exact Calls.call_len_list pl.isList (by simp only[List.size_toArray];omega) ⟨.int xs.length,H,I.tok _,⟨_,by simp only[List.size_toArray];rw[hlen]⟩,q⟩
  ·subst e';obtain⟨its,r',pl,hz⟩:=I.tuple hx;have hlen:=r'.length;exact len_tuple pl (by simp only[List.size_toArray];omega) ⟨.int xs.length,H,I.tok _,⟨_,by simp only[List.size_toArray];rw[hlen]⟩,q⟩
 |_=>exact(show False from e).elim
end
structure ObjM(h:Heap)(x dx C:Addr)(mA:Str->Option Value):Prop where
 obj:h.get? x=some (PySem.W.instObj C dx)
 ns:h.Ns1 dx mA
 ne:dx≠x
theorem P2{h:Heap}{dx:Addr}{mA:Str->Option Value}(n:h.Ns1 dx mA):∃od,h.get? dx=some od/\∀name,PySem.W.lookIn name od=some (mA name):=by
 obtain⟨o,es,ep,ho,hd,hk,_,hm⟩:=n;refine⟨o,ho,λname=>?_⟩;have e:=hm name;unfold nsFind findBy at e;rw[←Array.find?_toList] at e;unfold PySem.W.lookIn;rw[hd];dsimp only;split
 ·rename_i y q;rw[q] at e;exact congrArg some e
 ·rename_i q;rw[q] at e;have a:es.toList.any (·.refKey)=false:=by
   rw[List.any_eq_false];intro y hy;obtain⟨z,t,hkey⟩:=hk y (Array.mem_toList_iff.mp hy);simp[DictEntry.refKey,hkey]
  have a':¬es.toList.any (·.refKey)=true:=by rw[a];exact AAh
  rw[if_neg a'];exact congrArg some e
theorem ObjM.look(I:ObjM h x dx C mA):∃od,PySem.W.InstAt h x (PySem.W.instObj C dx) C (some od)/\∀name,PySem.W.lookIn name od=some (mA name):=
 let ⟨od,ho,hl⟩:=P2 I.ns
 ⟨od,⟨I.obj,rfl,rfl,ho⟩,hl⟩
theorem RelO.some_of(r:RelO (some v) o):∃u,o=some u/\RelV v u:=by
 cases o with
 |none=>exact(show False from r).elim
 |some u=>exact⟨u,rfl,r⟩
section
variable{P:Program}{w:World}{H:Hp}{h:Heap}{a C dx:Addr}{fs:List (Str×V)}
theorem VV(hok:HOk P w H h)(e:H a=some (.ins C dx fs)):∃mA,ObjM h a dx C mA/\(∀f,RelO (fs.lookup f) (mA f))/\PySem.Within mA (fs.map (·.1))/\fs.length<=1000/\H dx=some (.own a):=by
 obtain⟨d,z,ne,ob,mA,n,r,q⟩:=(show ObjOk P w H h a (.ins C dx fs) from hok a _ e);exact⟨mA,⟨ob,n,ne⟩,r,q,z,d⟩
end
structure Cls(K:PySem.W.Frag)(C:Addr):Prop where
 pg:PySem.W.plainGet K C Str.empty=true
 hd:PySem.W.hasDictIn K C=true
 po:PySem.W.plainOver K C=true
 sa:PySem.W.findIn K (.ref C) "__setattr__" = some (some (.builtin "object.__setattr__"))
theorem Cls.get{K:PySem.W.Frag}{C:Addr}(c:Cls K C)(f:Str):PySem.W.plainGet K C f=true:=c.pg
section
variable{X:Cx}{w5:List (Addr×Obj)}{O:St}{H:Hp}{s:Shared}{A:Around}{E:Value->Shared->Prop}{Q:Value->Shared->Prop}{c:Value}{b:Bool}
inductive G7 (K:PySem.W.Frag) (H:Hp):V->Value->Prop where
 |non:G7 K H .non (.type "NoneType")
 |bl (x:Bool):G7 K H (.bl x) (.type "bool")
 |int (i:Int):G7 K H (.int i) (.type "int")
 |str (x:Str):G7 K H (.str x) (.type "str")
 |flt (x:UInt64):G7 K H (.flt x) (.type "float")
 |lst {a:Addr} {xs:List V} (e:H a=some (.lst xs)):G7 K H (.ref a) (.type "list")
 |frz {a:Addr} {o:Obj} {xs:List V} (e:H a=some (.frz o (.lst xs))):G7 K H (.ref a) (.type "list")
 |tup {a:Addr} {xs:List V} (e:H a=some (.tup xs)):G7 K H (.ref a) (.type "tuple")
 |dK {a:Addr} {kvs:List (Key×V)} (e:H a=some (.dK kvs)):G7 K H (.ref a) (.type "dict")
 |dT {a:Addr} {kvs:List (List Key×V)} (e:H a=some (.dT kvs)):G7 K H (.ref a) (.type "dict")
 |ins {a C dx:Addr} {fs:List (Str×V)} (e:H a=some (.ins C dx fs)) (cl:Cls K C) (ha:PySem.W.findIn K (.ref C) "__class__" = some (some (.builtin "object.__class__")))
   (hn:PySem.W.specialIn K (.builtin "object.__class__") "__get__" = some (some (.builtin "getset_descriptor.__get__"))) (htk:PySem.W.takesIn K (.builtin "object.__class__")=some true)
   (hm:PySem.W.mroIn K C (.type "object")=some true):G7 K H (.ref a) (.ref C)
theorem P6(I:Inv X w5 O H s)(rx:RelV x u)(ty:G7 X.K H x t)(e:PySem.W.kitOne X.K t c=some b)(h:∀tk,Q (.bool b) { s with toks:=tk }):
  wpAny (model X.prog X.w) A (call (.builtin "isinstance") [u,c]) Q E s:=by
 cases ty with
 |non=>cases (show u=Value.none from rx);exact PySem.W.kia_one PySem.W.kitx_none I.kIn True.intro e (λz=>nomatch z) h
 |bl y=>cases (show u=Value.bool y from rx);exact PySem.W.kia_one PySem.W.kitx_bool I.kIn True.intro e (λz=>nomatch z) h
 |int i=>obtain⟨t,q⟩:=(show ∃t,u=Value.int i t from rx);cases q;exact PySem.W.kia_one PySem.W.kitx_int I.kIn True.intro e (λz=>nomatch z) h
 |str y=>obtain⟨t,q⟩:=(show ∃t,u=Value.str y t from rx);cases q;exact PySem.W.kia_one PySem.W.kitx_str I.kIn True.intro e (λz=>nomatch z) h
 |flt y=>obtain⟨t,q⟩:=(show ∃t,u=Value.float y t from rx);cases q;exact PySem.W.kia_one PySem.W.kitx_float I.kIn True.intro e (λz=>nomatch z) h
 |@lst a xs ea=>
  cases (show u=Value.ref a from rx);obtain⟨_,_,n,_,h1⟩:=(show ObjOk X.prog X.w H s.heap a (.lst xs) from I.hok a _ ea);exact PySem.W.kia_one PySem.W.kitx_list I.kIn ⟨_,h1,rfl⟩ e (λz=>nomatch z) h
 |@frz a ob xs ea=>
  cases (show u=Value.ref a from rx);obtain⟨_,_,_,n,_,h1⟩:=(show ObjOk X.prog X.w H s.heap a (.frz ob (.lst xs)) from I.hok a _ ea);exact PySem.W.kia_one PySem.W.kitx_list I.kIn ⟨_,h1,rfl⟩ e (λz=>nomatch z) h
 |@tup a xs ea=>
  cases (show u=Value.ref a from rx);obtain⟨_,_,_,p⟩:=(show ObjOk X.prog X.w H s.heap a (.tup xs) from I.hok a _ ea);obtain⟨o,h1,h2,_⟩:=p;exact PySem.W.kia_one PySem.W.kitx_tuple I.kIn ⟨o,h1,h2⟩ e (λz=>nomatch z) h
 |@dK a kvs ea=>
  cases (show u=Value.ref a from rx);obtain⟨_,_,vs,_,p⟩:=(show ObjOk X.prog X.w H s.heap a (.dK kvs) from I.hok a _ ea);obtain⟨o,es,ep,h1,h2,_⟩:=p;exact PySem.W.kia_one PySem.W.kitx_dict I.kIn ⟨o,h1,h2.1⟩ e (λz=>nomatch z) h
 |@dT a kvs ea=>
  cases (show u=Value.ref a from rx);obtain⟨_,_,xs,_,o,es,ep,h1,h2,_⟩:=(show ObjOk X.prog X.w H s.heap a (.dT kvs) from I.hok a _ ea);exact PySem.W.kia_one PySem.W.kitx_dict I.kIn ⟨o,h1,h2.1⟩ e (λz=>nomatch z) h
 |@ins a C dx fs ea cl ha hn htk hm=>
  cases (show u=Value.ref a from rx);obtain⟨mA,O_,_⟩:=VV I.hok ea;obtain⟨od,J,_⟩:=O_.look;exact PySem.W.kia_one (PySem.W.kitx_own (cl.get _) cl.hd ha hn htk hm) I.kIn J e (λz=>nomatch z) h
end
structure Room(k:Nat)(A:Around):Prop where
 hd:A.handled=none
 dp:A.depth+3 * k+5<recursionLimit
 un:A.units+16 * k+200<cLine
 gd:A.guards=some []
theorem Room.mono(r:Room k A)(h:j<=k):Room j A:=⟨r.hd,by have:=r.dp;omega,by have:=r.un;omega,r.gd⟩
theorem Room.deeper(r:Room (k+1) A)(env:Env):Room k (A.deeper env):=
 ⟨r.hd,by have:=r.dp;show A.depth+1+3 * k+5<_;omega,by have:=r.un;show A.units+3+16 * k+200<_;omega,r.gd⟩
theorem Room.depth(r:Room k A):A.depth<recursionLimit:=by have:=r.dp;omega
theorem Room.units(r:Room k A):A.units+64<cLine:=by have:=r.un;omega
noncomputable def ae:TA:=λ_ H Q=>Q [] H
noncomputable def ZJ(ta:TE)(tr:TA):TA:=λO H Q=>ta O H λx H1=>tr O H1 λxs H2=>Q (x::xs) H2
section
variable{X:Cx}{e:Expr}{es:List Expr}{te:TE}{t:TA}{pos:Pos}
theorem HK:PA X [] ae:=λ_ _ _ _ H Q I h=>Calls.spliced_nil ⟨[],H,I,.nil,h⟩
theorem Fv(ha:PE X e te)(hr:PA X es t)(hs:starEach (e::es) X.env=(false,eval e X.env)::starEach es X.env:=by rfl):PA X (e::es) (ZJ te t):=by
 intro pos w5 s O H Q I h;rw[hs];show wpAny _ _ (spliced ((false,eval e X.env)::backTo pos (starEach es X.env))) _ _ s;refine Calls.spliced_cons (thn (ha w5 s O H _ I h) λu s1 ⟨x,H1,I1,r1,q1⟩=>?_);exact thn (hr pos w5 s1 O H1 _ I1 q1) λus s2 ⟨xs,H2,I2,r2,q2⟩=>⟨x::xs,H2,I2,.cons r1 r2,q2⟩
noncomputable def aa(t:TA):TE:=λO H Q=>t O H λxs H1=>xs.length<=sizeLine/\∀p,H1 p=none->Q (.ref p) (upd H1 p (.tup xs))
noncomputable def af(t:TA):TE:=λO H Q=>t O H λxs H1=>xs.length<=sizeLine/\∀p,H1 p=none->Q (.ref p) (upd H1 p (.lst xs))
theorem Xo(h:PA X es t):PE X (.Tuple es x1 pos) (aa t):=by
 intro w5 s O H Q I hq;refine wpAny_Tuple_spliced (thn (h pos w5 s O H _ I hq) λus s1 ⟨xs,H1,I1,r,z,q⟩=>⟨by rw[←r.length];exact z,?_⟩);have hf:H1 s1.heap.objs.size=none:=I1.hok.fresh (AAE _);refine⟨.ref s1.heap.objs.size,upd H1 s1.heap.objs.size (.tup xs),I1.laid (t':=s1.toks) (λb u e=>AAC _ e) (AAE _) ?_,rfl,q _ hf⟩;exact⟨z,us,r,⟨_,AAD _ rfl,rfl,_,rfl⟩⟩
theorem Rt(h:PA X es t):PE X (.List es pos) (af t):=by
 intro w5 s O H Q I hq;refine wpAny_List_spliced (thn (h pos w5 s O H _ I hq) λus s1 ⟨xs,H1,I1,r,z,q⟩=>⟨by rw[←r.length];exact z,?_⟩);have hf:H1 s1.heap.objs.size=none:=I1.hok.fresh (AAE _);refine⟨.ref s1.heap.objs.size,upd H1 s1.heap.objs.size (.lst xs),I1.laid (t':=s1.toks) (λb u e=>AAC _ e) (AAE _) ?_,rfl,q _ hf⟩;exact⟨z,us,0,r,AAD _ rfl⟩
end
noncomputable abbrev Sp:=List V->Hp->VK->XK->Prop
noncomputable abbrev CXT:=List Env->Hp->Shared->XK->Value->Shared->Prop
structure Vs(P:Program)(w:World)(K:PySem.W.Frag)(mg:Str->Option Value)(base:Heap)(A:Around)(outer:List Env)(s:Shared)(H:Hp):Prop where
 frames:A.frames=some outer
 mod:Mod K mg base
 bs:∀b o,base.get? b=some o->s.heap.get? b=some o/\H b=none
 bsz:base.objs.size<=s.heap.objs.size
 funs:s.heap.FunFrames base outer
 frf:∀b∈frs outer,H b=none
 hok:HOk P w H s.heap
 bare:AllBare s.gens
def CE(outer:List Env)(P:Program)(w:World)(H:Hp)(s:Shared)(Q:VK)(u:Value)(s':Shared):Prop:=
 ∃v H',s'.os=s.os/\AllBare s'.gens/\Un (frs outer) [] H H' s.heap s'.heap/\HOk P w H' s'.heap/\RelV v u/\Q v H'
def CR(CX:CXT)(outer:List Env)(P:Program)(w:World)(H:Hp)(s:Shared)(Q:VK)(E:XK)(r:Result)(s':Shared):Prop:=
 match r with
 | .ok (.ret u)=>CE outer P w H s Q u s'
 | .ok _=>False
 | .error e=>CX outer H s E e s'
structure FnOk(P:Program)(w:World)(K:PySem.W.Frag)(mg:Str->Option Value)(base:Heap)(CX:CXT)(k:Nat)(f:Addr)(fd:FuncData)(ps:List Str)(sp:Sp):Prop where
 len:∀vs H Q E,sp vs H Q E->vs.length=ps.length
 run:∀(A:Around) (outer:List Env) (s:Shared) (H:Hp) (args:Args) (us:List Value) (vs:List V) (Q:VK) (E:XK),Room k A->Vs P w K mg base A outer s H->BindsTo s fd args (ps.zip us)->Vals vs us->sp vs H Q E->
  codeAny (model P w) A (.call (.ref f) args) (CR CX outer P w H s Q E) s
theorem FnOk.imp{P:Program}{w:World}{K:PySem.W.Frag}{mg:Str->Option Value}{base:Heap}(F:FnOk P w K mg base CX k f fd ps sp)
  (h:∀vs H Q E,sp' vs H Q E->sp vs H Q E):FnOk P w K mg base CX k f fd ps sp':=
 ⟨λvs H Q E q=>F.len vs H Q E (h _ _ _ _ q),λA outer s H args us vs Q E hr he hb hv hs=>F.run A outer s H args us vs Q E hr he hb hv (h _ _ _ _ hs)⟩
section
variable{X:Cx}{w5:List (Addr×Obj)}{O:St}{H:Hp}{s s':Shared}
theorem Inv.env0(I:Inv X w5 O H s):Vs X.prog X.w X.K X.mg X.base X.A X.stack s H:=
 ⟨I.ok.frames,I.ok.mod,I.bs,AAt I.ok.bsz I.sz,I.stack,I.stkFree,I.hok,I.bare⟩
theorem Inv.after(I:Inv X w5 O H s)(h:CE X.stack X.prog X.w H s Q u s'):EP X w5 O Q u s':=by
 obtain⟨v,H',os,bare,un,hok,r,q⟩:=h;obtain⟨hh,g,d,t,os'⟩:=s';obtain rfl:os'=s.os:=os;exact⟨v,H',I.call (h':=hh) (g':=g) (d':=d) (t':=t) (ch:=[]) un hok bare (λb z=>absurd z (by simp)),r,q⟩
end
noncomputable def ZK(sp:Sp)(dvs:List V)(E:XK)(t:TA):TE:=λO H Q=>t O H λvs H1=>sp (vs++dvs) H1 Q E
def Binds(K:PySem.W.Frag)(fd:FuncData)(ps:List Str)(ds:List Value):Prop:=
 ∀(s:Shared) (us:List Value),K.In s.heap->(us++ds).length=ps.length->BindsTo s fd ⟨us,[]⟩ (ps.zip (us++ds))
theorem Binds.all{K:PySem.W.Frag}(h:∀us:List Value,us.length=ps.length->bindArgs fd ⟨us,[]⟩=pure (ps.zip us)):Binds K fd ps []:=λs us _ hl=>by
 rw[AAa] at hl ⊢;exact .of_eq (h us hl)
def Nw(CX:CXT)(X:Cx)(E:XK):Prop:=∀(w5:List (Addr×Obj)) (O:St) (H:Hp) (s:Shared) (e:Value) (s':Shared),Inv X w5 O H s->CX X.stack H s E e s'->X.xe e s'
section
variable{X:Cx}{CX:CXT}{k:Nat}{f:Addr}{fd:FuncData}{ps:List Str}{sp:Sp}{dvs:List V}{ds:List Value}{E:XK}{x:Str}{p pos:Pos}{e:Expr}{es:List Expr}{t:TA}
theorem XV(F:FnOk X.prog X.w X.K X.mg X.base CX k f fd ps sp)(hr:Room k X.A)(hb:Binds X.K fd ps ds)(hd:Vals dvs ds)(hx:Nw CX X E)
  (I:Inv X w5 O H s) (r:Vals vs us) (h:sp (vs++dvs) H Q E):wpAny (model X.prog X.w) X.A (call (.ref f) us) (EP X w5 O Q) X.xe s:=by
 have r2:Vals (vs++dvs) (us++ds):=r.append hd;have hl:(us++ds).length=ps.length:=by rw[←r2.length];exact F.len _ _ _ _ h
 refine wpAny_call (codeAny_mono (F.run X.A X.stack s H ⟨us,[]⟩ (us++ds) (vs++dvs) Q E hr I.env0 (hb s us I.kIn hl) r2 h) λr s' hq=>?_);cases r with
 |error e=>exact hx w5 O H s e s' I hq
 |ok fl=>
  cases fl with
  |ret u=>exact I.after hq
  |next=>exact False.elim hq
  |brk=>exact False.elim hq
  |cont=>exact False.elim hq
theorem VB(F:FnOk X.prog X.w X.K X.mg X.base CX k f fd ps sp)(hr:Room k X.A)(hg:Gl X x)(hm:X.mg x=some (.ref f))(hk:PySem.W.keepIn X.K (.ref f)=true)(hb:Binds X.K fd ps ds)(hd:Vals dvs ds)(hx:Nw CX X E)
  (ha:PA X (e::es) t) (hdb:(x==("__debug__" : Str))=false:=by decide) (he:starEach (e::es) X.env=(false,eval e X.env)::starEach es X.env:=by rfl) (hpl:(backTo pos (starEach es X.env)).any (·.1)=false:=by rfl) :
  PE X (.Call (.Name x p) (e::es) [] pos) (ZK sp dvs E t):=by
 intro w5 s O H Q I h;refine wpAny_Call_Name_kw (Om I hg hm ?_ hdb);refine PySem.W.callWith_K (h₀:=X.base) I.ok.mod.kin hk (thn (ha pos w5 s O H _ I h) λus s1 ⟨vs,H1,I1,r,q⟩=>⟨I1.kIn,?_⟩) he hpl;exact XV F hr hb hd hx I1 r q
end
structure Af(N P:List Str)(sc:Scope):Prop where
 kind:sc.kind=.function
 co:sc.isCoroutine=false
 gen:sc.isGenerator=false
 nd:N.Nodup
 pre:N.take P.length=P
 par:∀x∈P,sc.names.lookup x=some .local∨sc.names.lookup x=some .cell
 nofree:∀y∈sc.names,y.2≠.free
theorem KP{kindOf:Str->Option NameKind}:∀{binds:List (Str×Value)} {m:Str->Option Value},(∀v,(x,v)∉binds)->bindL kindOf binds m x=m x
 |[],_,_=>rfl
 |(n,v)::r,m,h=>by
  unfold bindL;rw[KP λw hw=>h w (AAQ _ hw)];split
  ·have:x≠n:=by rintro rfl;exact h v AAP
   simp[this]
  ·rfl
theorem KR{kindOf:Str->Option NameKind}:∀{binds:List (Str×Value)} {m:Str->Option Value},(∀v,(x,v)∉binds)->bindC kindOf binds m x=m x
 |[],_,_=>rfl
 |(n,v)::r,m,h=>by
  unfold bindC;rw[KR λw hw=>h w (AAQ _ hw)];split
  ·rfl
  ·have:x≠n:=by rintro rfl;exact h v AAP
   simp[this]
theorem KQ{kindOf:Str->Option NameKind}:∀{P:List Str} {vs:List Value} {i:Nat} {m:Str->Option Value},P.Nodup->P[i]?=some x->vs[i]?=some v->kindOf x=some .local->
  bindL kindOf (P.zip vs) m x=some v
 |[],_,_,_,_,h,_,_=>by simp at h
 |_::_,[],_,_,_,_,h,_=>by simp at h
 |p::P,w::vs,0,m,nd,h1,h2,hk=>by
  simp at h1 h2;subst h1;subst h2;show bindL kindOf ((p,w)::P.zip vs) m p=_;unfold bindL;rw[KP λv hv=>(List.nodup_cons.mp nd).1 (List.of_mem_zip hv).1,if_pos hk];simp
 |p::P,w::vs,i+1,m,nd,h1,h2,hk=>by
  show bindL kindOf ((p,w)::P.zip vs) m x=_;unfold bindL;exact KQ (i:=i) (List.nodup_cons.mp nd).2 (by simpa using h1) (by simpa using h2) hk
theorem KS{kindOf:Str->Option NameKind}:∀{P:List Str} {vs:List Value} {i:Nat} {m:Str->Option Value},P.Nodup->P[i]?=some x->vs[i]?=some v->kindOf x≠some .local->
  bindC kindOf (P.zip vs) m x=some v
 |[],_,_,_,_,h,_,_=>by simp at h
 |_::_,[],_,_,_,_,h,_=>by simp at h
 |p::P,w::vs,0,m,nd,h1,h2,hk=>by
  simp at h1 h2;subst h1;subst h2;show bindC kindOf ((p,w)::P.zip vs) m p=_;unfold bindC;rw[KR λv hv=>(List.nodup_cons.mp nd).1 (List.of_mem_zip hv).1,if_neg hk];simp
 |p::P,w::vs,i+1,m,nd,h1,h2,hk=>by
  show bindC kindOf ((p,w)::P.zip vs) m x=_;unfold bindC;exact KS (i:=i) (List.nodup_cons.mp nd).2 (by simpa using h1) (by simpa using h2) hk
noncomputable def start(N:List Str)(vs:List V):St:=vs.map some++List.replicate (N.length-vs.length) none
noncomputable def Gu(CX:CXT)(P:Program)(w:World)(K:PySem.W.Frag)(mg:Str->Option Value)(base:Heap)(N:List Str)(qual:Str)(scope:Scope)(f:Addr)(cd:Value)(A:Around)(outer:List Env)(s:Shared)(H:Hp)(E:XK):Cx where
 prog:=P
 w:=w
 K:=K
 mg:=mg
 base:=base
 A:=A.deeper (envOfC qual scope s.heap.objs.size f cd)
 N:=N
 s₀:=s
 H₀:=H
 env:=envOfC qual scope s.heap.objs.size f cd
 outer:=outer
 stack:=envOfC qual scope s.heap.objs.size f cd::outer
 ex:=[]
 calm:=true
 fn:=λ_=>true
 pn:=[]
 xe:=λe s'=>wpAny (model P w) (A.deeper (envOfC qual scope s.heap.objs.size f cd)) (leaving (envOfC qual scope s.heap.objs.size f cd) e) (λ_ s''=>CX outer H s E e s'') (λe' s''=>CX outer H s E e' s'') s'
theorem Mf{sc:Scope}(h:sc.names.lookup x=some .cell):∃c,(cellsFrom n sc.names []).lookup x=some c:=by
 have q:=PySem.W.cellsFrom_some sc.names n [] (.inl h);exact Option.isSome_iff_exists.mp q
theorem P7{CX:CXT}{P:Program}{w:World}{K:PySem.W.Frag}{mg:Str->Option Value}{base:Heap}{N ps:List Str}{qual:Str}{scope:Scope}
  (S:Af N ps scope) (hd:A.handled=none) (e0:Vs P w K mg base A outer s H) (hl:vs.length=ps.length) (r:Vals vs us)
  (x:InCallC s s.heap.objs.size (bindL (envOfC qual scope s.heap.objs.size f cd).kindOf (ps.zip us) λ_=>none) (cellsFrom (s.heap.objs.size+1) scope.names []) (bindC (envOfC qual scope s.heap.objs.size f cd).kindOf (ps.zip us) λ_=>none) s1) :
  Inv (Gu CX P w K mg base N qual scope f cd A outer s H E) [] (start N vs) H s1:=by
 have hpl:ps.length<=N.length:=by have:=congrArg List.length S.pre;rw[List.length_take] at this;omega
 obtain⟨h1,tk,rfl,hk⟩:=x.done;have noA:∀b:Addr,b∉(Gu CX P w K mg base N qual scope f cd A outer s H E).ex:=λb z=>absurd (show b∈([]:List Addr) from z) (by simp);refine⟨⟨e0.mod,S.kind,rfl,rfl,AAE _,λy z c h1 h2=>?_,λy hy=>?_,λy c _ h=>?_,λ_=>hd,Around.frames_deeper e0.frames,.inr ⟨rfl,rfl⟩,λb z=>absurd z (noA b),e0.bs,e0.bsz,λb _ _=>noA b,λb z=>absurd z (noA b),e0.funs,e0.frf⟩,
  rfl,e0.bare,Un.kept hk,⟨_,x.toInCall.ns,λi y v h1 h2 h3=>?_⟩,λy c h=>⟨_,x.cell y c h⟩,e0.hok.fresh (AAE _),λy c h=>?_,λp hp=>absurd (show p∈([]:List (Addr×Obj)) from hp) (by simp),e0.hok.kept hk,?_⟩
 ·exact name_of_addr x.apart (PySem.mem_of_lookup h1) (PySem.mem_of_lookup h2)
 ·have hy:scope.names.lookup y=some .cell∨scope.names.lookup y=some .free:=hy;rcases hy with hy|hy
  ·exact Mf hy
  ·exact absurd rfl (S.nofree _ (PySem.mem_of_lookup hy))
 ·exact Nat.le_of_lt (x.above y c (PySem.mem_of_lookup h))
 ·have hi:i<vs.length:=by
   unfold start at h2;by_cases hi:i<vs.length
   ·exact hi
   ·rw[AAR (by simpa using hi)] at h2;rw[List.getElem?_replicate] at h2;split at h2<;>cases h2
  have ha:vs[i]?=some v:=by
   unfold start at h2;rw[AAS (by simpa using hi),AAV] at h2;cases e:vs[i]? with
   |none=>rw[e] at h2;cases h2
   |some a=>rw[e] at h2;cases h2;rfl
  obtain⟨u,hu,rv⟩:=r.get ha;have hp:ps[i]?=some y:=by
   rw[←S.pre,List.getElem?_take_of_lt (by omega)];exact h1
  have ndP:ps.Nodup:=by rw[←S.pre];exact S.nd.sublist (List.take_sublist _ _)
  refine⟨u,rv,?_⟩;rcases S.par y (AAU hp) with k|k
  ·exact .inl ⟨k,KQ ndP hp hu k⟩
  ·obtain⟨c,e⟩:=Mf (n:=s.heap.objs.size+1) k;refine .inr ⟨.inl k,c,e,?_⟩;have q:=x.cell y c e;rw[KS ndP hp hu (by show scope.names.lookup y≠_;rw[k];decide)] at q;exact q
 ·exact e0.hok.fresh (Nat.le_of_lt (x.above y c (PySem.mem_of_lookup h)))
 ·unfold start;show _=N.length;rw[AAG,AAF,AAn];omega
theorem aB{CX:CXT}{P:Program}{w:World}{K:PySem.W.Frag}{mg:Str->Option Value}{base:Heap}{k:Nat}{f:Addr}{name qual:Str}{params:Arguments}{body:List Stmt}{scope:Scope}{dV kV doc pm cdv ct oc:Value}{an od:Option Addr}
  {osl:Array (Option Value)} {N ps:List Str} {sp:Sp} (lk:K.lookup f=some ⟨oc,od,.func (PySem.W.fnOf name qual params body scope dV kV doc pm an cdv ct),osl⟩) (hcd:PySem.W.codeIn K cdv qual=true) (S:Af N ps scope)
  (len:∀vs H Q E,sp vs H Q E->vs.length=ps.length)
  (hbody:∀(A:Around) (outer:List Env) (s:Shared) (H:Hp) (vs:List V) (Q:VK) (E:XK),Room k (A.deeper (envOfC qual scope s.heap.objs.size f cdv))->sp vs H Q E->
   ∃t,PSs (Gu CX P w K mg base N qual scope f cdv A outer s H E) body t/\t { nx:=λ_ H'=>Q .non H',rt:=Q } (start N vs) H) :
  FnOk P w K mg base CX (k+1) f (PySem.W.fnOf name qual params body scope dV kV doc pm an cdv ct) ps sp:=by
 refine⟨len,λA outer s H args us vs Q E hr e0 hb r hsp=>?_⟩;have hl:=len _ _ _ _ hsp;have KX:K.In s.heap:=e0.mod.kin.keeps λb o e=>(e0.bs b o e).1;have lim:s.heap.NoLimit:=e0.mod.nolimit.keeps λb o e=>(e0.bs b o e).1;have hkind:∀y∈ps.zip us,scope.names.lookup y.1=some .local∨(scope.names.lookup y.1=some .cell/\((cellsFrom (s.heap.objs.size+1) scope.names []).lookup y.1).isSome=true):=λ⟨n,v⟩ hy=>by
  rcases S.par n (List.of_mem_zip hy).1 with q|q
  ·exact .inl q
  ·exact .inr ⟨q,PySem.W.cellsFrom_some _ _ _ (.inl q)⟩
 refine codeAny_call_function hr.depth (KX _ _ lk) rfl S.co S.gen rfl (PySem.W.codeRec_of KX hcd) (hb _ _ _ _ ?_);refine wpAny_newFunctionEnv_cells S.kind hkind λenv he s1 x=>?_;subst he;refine⟨lim.keeps x.toInCall.keep,codeAny_func ?_⟩;obtain⟨t,ht,hq⟩:=hbody A outer s H vs Q E (hr.deeper _) hsp;have I:Inv (Gu CX P w K mg base N qual scope f cdv A outer s H E) [] (start N vs) H s1:=P7 S hr.hd e0 hl r x;refine AAj (ht [] s1 (start N vs) H _ I hq) (λfl s' hs=>?_) λe s' hs=>hs;have fin:∀{O':St} {H':Hp} {v:V} {u:Value},Inv (Gu CX P w K mg base N qual scope f cdv A outer s H E) [] O' H' s'->RelV v u->Q v H'->CE outer P w H s Q u s':=
  λ{O' H' v u} J rv q=>⟨v,H',J.os,J.bare,J.base,J.hok,rv,q⟩
 cases fl with
 |ret u=>
  obtain⟨v,O',H',J,rv,q⟩:=hs;exact fin J rv q
 |next=>
  obtain⟨O',H',J,q⟩:=hs;exact fin (v:=V.non) (u:=Value.none) J rfl q
 |brk=>
  obtain⟨_,_,_,q⟩:=hs;exact False.elim q
 |cont=>
  obtain⟨_,_,_,q⟩:=hs;exact False.elim q
section
variable{X:Cx}{x:Str}{p pos:Pos}{e:Expr}{es:List Expr}{t:TA}{id T:String}{r:List V->Hp->VK->Prop}
noncomputable def tCB(r:List V->Hp->VK->Prop)(t:TA):TE:=λO H Q=>t O H λvs H1=>r vs H1 Q
theorem MA(hc:Bo X (.builtin id) r)(hg:Gl X x)(hm:X.mg x=none)(hv:bootBuiltins x=some (.builtin id))(ha:PA X (e::es) t)(hn:x ≠ "__name__" := by decide)(hdb:(x==("__debug__" : Str))=false:=by decide)
  (he:starEach (e::es) X.env=(false,eval e X.env)::starEach es X.env:=by rfl) (hpl:(backTo pos (starEach es X.env)).any (·.1)=false:=by rfl):PE X (.Call (.Name x p) (e::es) [] pos) (tCB r t):=by
 intro w5 s O H Q I h;refine wpAny_Call_Name_kw (HM I hg hm hv ?_ hn hdb);exact PyProof.Rows.callWith_builtin1 (thn (ha pos w5 s O H _ I h) λus s1 ⟨vs,H1,I1,r1,q1⟩=>hc w5 s1 O H1 vs us Q I1 r1 q1) he hpl
theorem Ej(hc:Bo X (.type T) r)(hg:Gl X x)(hm:X.mg x=none)(hv:bootBuiltins x=some (.type T))(ha:PA X (e::es) t)(hn:x ≠ "__name__" := by decide)(hdb:(x==("__debug__" : Str))=false:=by decide)
  (he:starEach (e::es) X.env=(false,eval e X.env)::starEach es X.env:=by rfl) (hpl:(backTo pos (starEach es X.env)).any (·.1)=false:=by rfl):PE X (.Call (.Name x p) (e::es) [] pos) (tCB r t):=by
 intro w5 s O H Q I h;refine wpAny_Call_Name_kw (HM I hg hm hv ?_ hn hdb);exact PyProof.Rows.callWith_type1 (thn (ha pos w5 s O H _ I h) λus s1 ⟨vs,H1,I1,r1,q1⟩=>hc w5 s1 O H1 vs us Q I1 r1 q1) he hpl
end
end L2
namespace HT
open PySem PyProof.Rows
noncomputable def F9:List Int->List Int->Bool
 |[],[]=>false
 |[],_::_=>true
 |_::_,[]=>false
 |x::xs,y::ys=>if x=y then F9 xs ys else decide (x<y)
theorem Cq(x y:Int)(xs ys:List Int):F9 (x::xs) (y::ys)=if x=y then F9 xs ys else decide (x<y):=rfl
section
variable{prog:Program}{w:World}{A:Around}{E:Value->Shared->Prop}{s:Shared}
theorem Vj(ht:IsTup s.heap t vs.toArray)(hb:IsTup s.heap b ws.toArray)(hv:vs≠[])
  (h1:ws=[]->Q (.ref t) s) (h2:ws≠[]->Q (.ref s.heap.objs.size) { s with heap:=s.heap.push { cls:=.type "tuple",data:=.seq (vs++ws).toArray } })
  (hsz:vs.length+ws.length<=sizeLine):wpAny (model prog w) A (binaryOp .Add (.ref t) (.ref b)) Q E s:=by
 obtain⟨⟨cls,dd,data,sl⟩,ho,hc,n,hd⟩:=id ht;obtain⟨⟨cls2,dd2,data2,sl2⟩,ho2,hc2,n2,hd2⟩:=id hb;simp only at hc hd hc2 hd2;subst hc hd hc2 hd2;have e:vs.toArray++ws.toArray=(vs++ws).toArray:=by simp
 by_cases hw:ws=[]
 ·exact concat_meets ⟨_,ho,rfl⟩ ⟨_,ho2,rfl⟩ noFill_tuple_add seq_tuple_add PySem.F.slot_tuple_add PySem.F.entry_tuple_add (PySem.F.args_tuple_add_2 _ _)
   (tuple_addW1 t b vs.toArray ws.toArray n n2 dd dd2 sl sl2 (by simpa using hv) (by simp[hw])) ⟨ho,ho2,h1 hw⟩
 ·refine concat_meets ⟨_,ho,rfl⟩ ⟨_,ho2,rfl⟩ noFill_tuple_add seq_tuple_add PySem.F.slot_tuple_add PySem.F.entry_tuple_add (PySem.F.args_tuple_add_2 _ _)
   (tuple_addW2 t b vs.toArray ws.toArray n n2 dd dd2 sl sl2 (by simpa using hv) (by simpa using hw) (by rw[List.size_toArray,List.size_toArray];exact hsz)) ⟨ho,ho2,?_⟩
  rw[e];exact h2 hw
noncomputable def sIx(n d:Nat):Option Int->Nat
 |none=>d
 |some v=>if v<0 then (v+(n:Int)).toNat else min v.toNat n
theorem Lz(n d:Nat):sIx n d none=d:=rfl
theorem Hu(n d k:Nat):sIx n d (some (k:Int))=min k n:=by
 show (if (k:Int)<0 then ((k:Int)+(n:Int)).toNat else min (k:Int).toNat n)=min k n;rw[if_neg (by omega),Int.toNat_natCast]
theorem XU(n d:Nat)(hd:d<=n)(o:Option Int):sIx n d o<=n:=by
 cases o with
 |none=>exact hd
 |some v=>
  show (if v<0 then (v+(n:Int)).toNat else min v.toNat n)<=n;by_cases hv:v<0
  ·rw[if_pos hv];omega
  ·rw[if_neg hv];exact Nat.min_le_right _ _
theorem O8(v:Int)(n d:Nat):(if v<0 then max (v+(n:Int)) 0 else min v (n:Int))=((sIx n d (some v):Nat):Int):=by
 show (if v<0 then max (v+(n:Int)) 0 else min v (n:Int))=(((if v<0 then (v+(n:Int)).toNat else min v.toNat n):Nat):Int);by_cases hv:v<0
 ·simp only[if_pos hv];omega
 ·simp only[if_neg hv];omega
theorem Nv(lo hi:Option Int)(n:Nat):Builtin.Slice.sliceAdjust lo hi 1 (n:Int)=(((sIx n 0 lo:Nat):Int),((sIx n n hi:Nat):Int)):=by
 have h1:¬((1:Int)<0):=by omega
 unfold Builtin.Slice.sliceAdjust;simp only[h1,if_false];refine Prod.ext ?_ ?_
 ·cases lo with
  |none=>rfl
  |some v=>exact O8 v n 0
 ·cases hi with
  |none=>rfl
  |some v=>exact O8 v n n
theorem NJ(i j:Nat):Builtin.Slice.slicePlaces (i:Int) (j:Int) 1=j-i:=by
 unfold Builtin.Slice.slicePlaces;have h1:(1:Int) > 0:=by omega
 simp only[h1,if_true,Int.ediv_one];split<;>omega
theorem IT(p:IsPart v o)(h:Q o s):wpAny (model prog w) A (Builtin.Slice.slicePartIndex v) Q E s:=by
 cases p with
 |none=>exact slicePart_none h
 |int i t=>exact slicePart_int h
theorem Eb{sl:Addr}{vl vu:Value}{lo hi:Option Int}{n:Nat}{Q:Int×Int×Nat->Shared->Prop}(hs:s.heap.IsSliceOf sl vl vu .none)(pl:IsPart vl lo)(pu:IsPart vu hi)
  (h:Q (((sIx n 0 lo:Nat):Int),1,sIx n n hi-sIx n 0 lo) s):wpAny (model prog w) A (Builtin.Slice.sliceApplied (.ref sl) (pure (n:Int))) Q E s:=by
 obtain⟨os,hos,hcs,hds⟩:=id hs;unfold Builtin.Slice.sliceApplied Builtin.Slice.sliceFields;refine AAA (AAA (AAv hos hds (x:=vl) rfl (AAA (AAv hos hds (x:=vu) rfl (AAA (AAv hos hds (x:=.none) rfl (AAB ?_)))))));refine AAA (slicePart_none ?_);show wpAny _ _ (if ((1:Int)==0)=true then _ else _) _ _ s;rw[if_neg (by decide)];refine AAA (IT pl (AAA (IT pu (AAA (AAB ?_)))));show wpAny _ _ (match Builtin.Slice.sliceAdjust lo hi 1 (n:Int) with|(lo,hi)=>pure (lo,(1:Int),Builtin.Slice.slicePlaces lo hi 1)) _ _ s;rw[Nv lo hi n];show wpAny _ _ (pure (((sIx n 0 lo:Nat):Int),(1:Int),Builtin.Slice.slicePlaces ((sIx n 0 lo:Nat):Int) ((sIx n n hi:Nat):Int) 1)) _ _ s;rw[NJ];exact AAB h
theorem Ro(xs:Array Value)(i k:Nat):((List.range k).filterMap λ(m:Nat)=>xs[((i:Int)+(m:Int) * 1).toNat]?).toArray=((xs.toList.drop i).take k).toArray:=by
 have e:(λ(m:Nat)=>xs[((i:Int)+(m:Int) * 1).toNat]?)=λm=>xs[i+m]?:=by
  funext m
  have:((i:Int)+(m:Int) * 1).toNat=i+m:=by omega
  rw[this]
 rw[e];have:=pick_run xs i k;rw[List.filterMap_map] at this;have e2:((λx=>xs[x]?) ∘ λx=>i+x)=λm=>xs[i+m]?:=rfl;rw[e2] at this;rw[this]
theorem Gm{t sl:Addr}{items:Array Value}{vl vu:Value}{lo hi:Option Int}{Q:Value->Shared->Prop}(ht:IsTup s.heap t items)(hs:s.heap.IsSliceOf sl vl vu .none)(pl:IsPart vl lo)(pu:IsPart vu hi)
  (hw:¬(sIx items.size 0 lo=0/\sIx items.size items.size hi=items.size))
  (h:Q (.ref s.heap.objs.size) { s with heap:=s.heap.push { cls:=.type "tuple",data:=.seq ((items.toList.drop (sIx items.size 0 lo)).take (sIx items.size items.size hi-sIx items.size 0 lo)).toArray } })
  (hsz:items.size<=sizeLine):wpAny (model prog w) A (getItem (.ref t) (.ref sl)) Q E s:=by
 have htake:sizeOk (.seq ((items.toList.drop (sIx items.size 0 lo)).take (sIx items.size items.size hi-sIx items.size 0 lo)).toArray):=by
  show ((items.toList.drop (sIx items.size 0 lo)).take (sIx items.size items.size hi-sIx items.size 0 lo)).toArray.size<=sizeLine;rw[List.size_toArray,List.length_take,List.length_drop,Array.length_toList];omega
 have hj:sIx items.size items.size hi<=items.size:=XU _ _ (AAE _) hi;obtain⟨os,hos,hcs,hds⟩:=id hs;have hTs:s.TypeIs (.ref sl) "slice" := ⟨os,hos,hcs⟩;unfold getItem
 try with_reducible refine AAp ?_
 first|refine AAA (AAB ?_)|skip
 refine AAA (wpAny_sequenceKey ht.typeIs (by decide) ?_);refine AAA (wpAny_callSpecial?_slot (name:=Str.ofString "__getitem__") ht.typeIs PyProof.Rows.slot_tuple_getitem
  (AAd PyProof.Rows.slot_tuple_getitem ht.typeIs entry_tuple_getitem ?_ (args_tuple_getitem _ _)))
 show wpAny _ _ (Builtin.Tuple.tupleItemsOf (.ref t) >>= _) _ _ s;refine AAA (tupleItemsOf_ ht ?_);refine AAA (wpAny_typeOf hTs ?_);rw[if_pos (by decide)];refine AAA (Eb hs pl pu ?_);have hno:¬((((sIx items.size 0 lo:Nat):Int)==0&&(1:Int)==1&&(sIx items.size items.size hi-sIx items.size 0 lo)==items.size)=true):=by
  intro q;rw[Bool.and_eq_true,Bool.and_eq_true] at q;have q1:((sIx items.size 0 lo:Nat):Int)=0:=eq_of_beq q.1.1;have q2:sIx items.size items.size hi-sIx items.size 0 lo=items.size:=eq_of_beq q.2;exact hw ⟨by omega,by omega⟩
 show wpAny _ _ (if (((sIx items.size 0 lo:Nat):Int)==0&&(1:Int)==1&&(sIx items.size items.size hi-sIx items.size 0 lo)==items.size)=true then _ else _) _ _ s;rw[if_neg hno,Ro]
 first
  |exact AAA (m:=Builtin.Tuple.tupleExact _) (AAr (AAB ⟨_,rfl,AAB h⟩) htake)
  |exact AAA (m:=Builtin.Tuple.tupleExact _) (AAr (AAA (AAB (AAB ⟨_,rfl,AAB h⟩))) htake)
  |exact AAA (AAA (m:=Builtin.Tuple.tupleExact _) (AAr (AAB (AAB ⟨_,rfl,AAB h⟩)) htake))
  |exact AAA (AAA (m:=Builtin.Tuple.tupleExact _) (AAr (AAB ⟨_,rfl,AAB h⟩) htake))
end
end HT
namespace L2
open PySem PySem.Spec PyProof.Rows
noncomputable abbrev TO:=St->Hp->(Option Int->Hp->Prop)->Prop
def PO(X:Cx)(e:Option Expr)(t:TO):Prop:=
 ∀(w5:List (Addr×Obj)) (s:Shared) (O:St) (H:Hp) (Q:Option Int->Hp->Prop),Inv X w5 O H s->t O H Q->
  wpAny (model X.prog X.w) X.A (evalPart e X.env) (λu s'=>∃o H',Inv X w5 O H' s'/\IsPart u o/\Q o H') X.xe s
noncomputable def Uf:TO:=λ_ H Q=>Q none H
noncomputable def ZC(t:TE):TO:=λO H Q=>t O H λx H1=>∃i,x=.int i/\Q (some i) H1
section
variable{X:Cx}{e:Expr}{te:TE}{lo hi:Option Expr}{tl th:TO}{pos p2:Pos}
theorem U7:PO X none Uf:=by
 intro w5 s O H Q I h;rw[evalPart_none];exact AAB ⟨none,H,I,.none,h⟩
theorem U6(h:PE X e te):PO X (some e) (ZC te):=by
 intro w5 s O H Q I hw;rw[evalPart_some];refine thn (h w5 s O H _ I hw) λu s1 ⟨x,H1,I1,r1,q1⟩=>?_;obtain⟨i,rfl,q⟩:=q1;obtain⟨t,rfl⟩:=r1;exact⟨some i,H1,I1,.int i t,q⟩
def SlR(X:Cx)(r:V->Option Int->Option Int->Hp->VK->Prop):Prop:=
 ∀(w5:List (Addr×Obj)) (s:Shared) (O:St) (H:Hp) (x:V) (v vl vu:Value) (lo hi:Option Int) (sl:Addr) (Q:VK),Inv X w5 O H s->RelV x v->s.heap.IsSliceOf sl vl vu .none->IsPart vl lo->IsPart vu hi->r x lo hi H Q->
  ∃T id,typeLookup (.type T) "__getitem__" = pure (some (.builtin id))/\s.TypeIs v T/\wpAny (model X.prog X.w) X.A (getItem v (.ref sl)) (EP X w5 O Q) X.xe s
theorem SlR.or(h:SlR X r)(h':SlR X r'):SlR X (λx lo hi H Q=>r x lo hi H Q∨r' x lo hi H Q):=by
 intro w5 s O H x v vl vu lo hi sl Q I rx hs pl pu q;rcases q with q|q
 ·exact h w5 s O H x v vl vu lo hi sl Q I rx hs pl pu q
 ·exact h' w5 s O H x v vl vu lo hi sl Q I rx hs pl pu q
noncomputable def tSl(r:V->Option Int->Option Int->Hp->VK->Prop)(te:TE)(tl th:TO):TE:=λO H Q=>te O H λx H1=>tl O H1 λl H2=>th O H2 λu H3=>r x l u H3 Q
theorem Rs(hr:SlR X r)(he:PE X e te)(hl:PO X lo tl)(hu:PO X hi th):PE X (.Subscript e (.Slice lo hi none p2) pos) (tSl r te tl th):=by
 intro w5 s O H Q I h;refine Subscript_ (thn (he w5 s O H _ I h) λv s1 ⟨x,H1,I1,r1,q1⟩=>?_);refine wpAny_Slice (thn (hl w5 s1 O H1 _ I1 q1) λvl s2 ⟨l,H2,I2,pl,q2⟩=>thn (hu w5 s2 O H2 _ I2 q2) λvu s3 ⟨u,H3,I3,pu,q3⟩=>?_);rw[evalPart_none];refine AAB ?_;have I4:Inv X w5 O H3 { s3 with heap:=s3.heap.push { cls:=.type "slice",data:=.fields #[vl,vu,.none] } }:=I3.kept (t':=s3.toks) λb ob q=>AAC _ q;obtain⟨T,id,hT,ht,hg⟩:=hr w5 { s3 with heap:=s3.heap.push { cls:=.type "slice",data:=.fields #[vl,vu,.none] } } O H3 x v vl vu l u s3.heap.objs.size Q I4 r1 (Heap.IsSliceOf.new ..) pl pu q3;show wpAny (model X.prog X.w) X.A (subscriptTail e (.Slice lo hi none p2) v (.ref s3.heap.objs.size)) (EP X w5 O Q) X.xe { s3 with heap:=s3.heap.push { cls:=.type "slice",data:=.fields #[vl,vu,.none] } };exact tail_any (ops:=[.ref s3.heap.objs.size,v]) ht hT hg (by with_unfolding_all rfl)
noncomputable def Mc(xs:List V)(lo hi:Option Int):List V:=(xs.drop (HT.sIx xs.length 0 lo)).take (HT.sIx xs.length xs.length hi-HT.sIx xs.length 0 lo)
theorem Hk(xs:List V)(lo hi:Option Int):(Mc xs lo hi).length<=xs.length:=by
 unfold Mc;rw[List.length_take,List.length_drop];omega
noncomputable def au(K:PySem.W.Frag):V->Option Int->Option Int->Hp->VK->Prop:=λx lo hi H Q=>∃a xs,x=.ref a/\SqT K H a xs /\
 ¬(HT.sIx xs.length 0 lo=0/\HT.sIx xs.length xs.length hi=xs.length)/\∀p,H p=none->Q (.ref p) (upd H p (.tup (Mc xs lo hi)))
theorem XT:SlR X (au X.K):=by
 intro w5 s O H x v vl vu lo hi sl Q I rx hs pl pu h;obtain⟨a,xs,rfl,hx,hw,q⟩:=h;cases rx;obtain⟨its,r,ht,hz⟩:=I.tuple hx;have hlen:its.toArray.size=xs.length:=by rw[List.size_toArray];exact r.length.symm
 refine⟨"tuple",_,PyProof.Rows.slot_tuple_getitem.lookup,ht.typeIs,?_⟩;refine HT.Gm ht hs pl pu (by rw[hlen];exact hw) ?_ (by rw[hlen];exact hz);rw[hlen];refine⟨.ref s.heap.objs.size,_,I.laid (t':=s.toks) (o:=.tup (Mc xs lo hi)) (λb ob q=>AAC _ q) (AAE _) ?_,rfl,q _ (I.hok.fresh (AAE _))⟩;exact⟨AAt (Hk xs lo hi) hz,_,(r.drop (HT.sIx xs.length 0 lo)).take (HT.sIx xs.length xs.length hi-HT.sIx xs.length 0 lo),IsTup.new _ _⟩
noncomputable def Za(K:PySem.W.Frag):R2:=λx y H Q=>∃a b xs ys,x=.ref a/\y=.ref b/\SqT K H a xs/\SqT K H b ys/\xs≠[]/\xs.length+ys.length<=sizeLine /\
 (ys=[]->Q (.ref a) H)/\(ys≠[]->∀p,H p=none->Q (.ref p) (upd H p (.tup (xs++ys))))
theorem Vals.nil_iff(r:Vals xs us):us=[]↔xs=[]:=by
 cases r with
 |nil=>simp
 |cons _ _=>simp
theorem VI:OpR X (binaryOp .Add) (Za X.K):=by
 intro w5 s O H x y v u Q I rx ry h;obtain⟨a,b,xs,ys,rfl,rfl,ha,hb,hx,hz,q1,q2⟩:=h;cases rx;cases ry;obtain⟨its,r1,p1,_⟩:=I.tuple ha;obtain⟨its2,r2,p2,_⟩:=I.tuple hb;refine HT.Vj p1 p2 (λz=>hx (r1.nil_iff.mp z)) (λz=>⟨.ref a,H,I,rfl,q1 (r2.nil_iff.mp z)⟩) (λz=>?_) (by rw[←r1.length,←r2.length];exact hz);refine⟨.ref s.heap.objs.size,_,I.laid (t':=s.toks) (o:=.tup (xs++ys)) (λb ob q=>AAC _ q) (AAE _) ?_,rfl,q2 (λw=>z (r2.nil_iff.mpr w)) _ (I.hok.fresh (AAE _))⟩;exact⟨by rw[AAG];exact hz,_,r1.append r2,IsTup.new _ _⟩
theorem Mj:Bo X (.type "tuple") (λxs H Q=>∃a ys,xs=[.ref a]/\SqT X.K H a ys/\Q (.ref a) H):=by
 intro w5 s O H xs us Q I r h;obtain⟨a,ys,rfl,ha,q⟩:=h;obtain⟨u,rfl,ru⟩:=DC r;cases ru;obtain⟨its,_,p1,_⟩:=I.tuple ha;exact call_tuple_same (items:=its.toArray) p1 ⟨.ref a,H,I,rfl,q⟩
end
noncomputable def ixN(n:Nat)(i:Int):Option Nat:=if 0<=i then (if i<n then some i.toNat else none) else if -(n:Int)<=i then some (i+n).toNat else none
noncomputable def atI{α:Type}(xs:List α)(i:Int):Option α:=(ixN xs.length i).bind λj=>xs[j]?
theorem Op(h:ixN n i=some j):seqIndex? i n=some j/\j<n/\-(n:Int)<=i/\i<n:=by
 unfold ixN at h;by_cases h0:0<=i
 ·rw[if_pos h0] at h;by_cases h1:i<n
  ·rw[if_pos h1] at h;have e:i.toNat=j:=Option.some.inj h;exact⟨by rw[seqIndex_of h0 h1,e],by omega,by omega,h1⟩
  ·rw[if_neg h1] at h;cases h
 ·rw[if_neg h0] at h;by_cases h1:-(n:Int)<=i
  ·rw[if_pos h1] at h;have e:(i+n).toNat=j:=Option.some.inj h;exact⟨by rw[seqIndex_neg (by omega) h1,e],by omega,h1,by omega⟩
  ·rw[if_neg h1] at h;cases h
theorem LU(h:atI xs i=some v):∃j,seqIndex? i xs.length=some j/\xs[j]?=some v/\j<xs.length/\-(xs.length:Int)<=i/\i<xs.length:=by
 unfold atI at h;cases e:ixN xs.length i with
 |none=>rw[e] at h;cases h
 |some j=>
  rw[e] at h;obtain⟨h1,h2,h3,h4⟩:=Op e;exact⟨j,h1,h,h2,h3,h4⟩
theorem PN{α:Type}{xs:List α}{j:Nat}{v:α}(h:xs[j]?=some v):atI xs (j:Int)=some v:=by
 have hj:j<xs.length:=(AAT.mp h).1;have e:ixN xs.length (j:Int)=some j:=by
  unfold ixN;rw[if_pos (by omega),if_pos (by omega)];simp
 unfold atI;rw[e];exact h
def PR(b:Expr):Prop:=∀o i,subscripted b false o i=operate [o,i] (getItem o i)
def IxR(X:Cx)(r:R2):Prop:=
 ∀(value slice:Expr) (w5:List (Addr×Obj)) (s:Shared) (O:St) (H:Hp) (x y:V) (v u:Value) (Q:VK),Inv X w5 O H s->RelV x v->RelV y u->r x y H Q->
  subscripted slice false v u=operate [v,u] (getItem v u)->wpAny (model X.prog X.w) X.A (subscriptTail value slice v u) (EP X w5 O Q) X.xe s
def MtR(X:Cx)(id:String)(r:V->List V->Hp->VK->Prop):Prop:=
 ∀(w5:List (Addr×Obj)) (s:Shared) (O:St) (H:Hp) (x:V) (xs:List V) (v:Value) (us:List Value) (Q:VK),Inv X w5 O H s->RelV x v->Vals xs us->r x xs H Q->
  wpAny (model X.prog X.w) X.A (call (.builtin id) (v::us)) (EP X w5 O Q) X.xe s
section
variable{X:Cx}{a b:Expr}{ta tb:TE}{pos:Pos}
theorem IxR.or(h:IxR X r)(h':IxR X r'):IxR X (λx y H Q=>r x y H Q∨r' x y H Q):=by
 intro value slice w5 s O H x y v u Q I rx ry q hs;rcases q with q|q
 ·exact h value slice w5 s O H x y v u Q I rx ry q hs
 ·exact h' value slice w5 s O H x y v u Q I rx ry q hs
theorem Zi(hr:IxR X r)(ha:PE X a ta)(hb:PE X b tb)(hs:PR b):PE X (.Subscript a b pos) (tOp r ta tb):=by
 intro w5 s O H Q I h;exact Subscript_ (Yq ha hb I h λv u s2 x y H2 I2 rx ry q=>hr a b w5 s2 O H2 x y v u Q I2 rx ry q (hs _ _))
noncomputable def ZZ(K:PySem.W.Frag):R2:=λx y H Q=>∃p xs i v,x=.ref p/\y=.int i/\SqL K H p xs/\atI xs i=some v/\Q v H
noncomputable def ZX(K:PySem.W.Frag):R2:=λx y H Q=>∃p xs i v,x=.ref p/\y=.int i/\SqT K H p xs/\atI xs i=some v/\Q v H
noncomputable def ZY:R2:=λx y H Q=>∃z i c,x=.str z/\y=.int i/\z.length<=sizeLine/\atI z.cps.toList i=some c/\Q (.str ⟨#[c]⟩) H
theorem ix_list:IxR X (ZZ X.K):=by
 intro value slice w5 s O H x y v u Q I rx ry h hs;obtain⟨p,xs,i,z,rfl,rfl,hq,he,q⟩:=h;cases rx;obtain⟨t,rfl⟩:=ry;obtain⟨its,r,pl,hz⟩:=I.list hq;obtain⟨j,h1,h2,h3,h4,h5⟩:=LU he;obtain⟨w,ew,rw'⟩:=r.get h2;have hl:=r.length;have hn:=GG;have fin:EP X w5 O Q w s:=⟨z,H,I,rw',q⟩;by_cases h0:0<=i
 ·have hj:i.toNat=j:=by
   rw[seqIndex_of h0 h5] at h1;exact Option.some.inj h1
  exact item_listR pl.isList h0 (by omega) (by rw[hj];simpa using ew) fin hs
 ·have hj:(i+(its.toArray.size:Int)).toNat=j:=by
   rw[seqIndex_neg (by omega) h4] at h1;rw[List.size_toArray,←hl];exact Option.some.inj h1
  exact subscriptTail_builtinR (x:=w) pl.isList.typeIs slot_list_getitem.lookup
   (wpAny_getItem_list_neg (Q:=λr s'=>r=w/\EP X w5 O Q r s') pl.isList (by omega) (by rw[List.size_toArray]<;>omega) (by omega) (by rw[hj];simpa using ew) ⟨rfl,fin⟩) hs
theorem ix_tup:IxR X (ZX X.K):=by
 intro value slice w5 s O H x y v u Q I rx ry h hs;obtain⟨p,xs,i,z,rfl,rfl,hq,he,q⟩:=h;cases rx;obtain⟨t,rfl⟩:=ry;obtain⟨its,r,pl,hz⟩:=I.tuple hq;obtain⟨j,h1,h2,h3,h4,h5⟩:=LU he;obtain⟨w,ew,rw'⟩:=r.get h2;have hl:=r.length;have hn:=GG;have fin:EP X w5 O Q w s:=⟨z,H,I,rw',q⟩;exact subscriptTail_builtinR (x:=w) pl.typeIs slot_tuple_getitem.lookup
  (getItem_tuple (j:=j) (Q:=λr s'=>r=w/\EP X w5 O Q r s') pl (by omega) (by omega) (by rw[List.size_toArray,←hl];exact h1) (by simpa using ew) ⟨rfl,fin⟩) hs
theorem YM:IxR X ZY:=by
 intro value slice w5 s O H x y v u Q I rx ry h hs;obtain⟨z,i,c,rfl,rfl,hz,he,q⟩:=h;obtain⟨t,rfl⟩:=rx;obtain⟨t',rfl⟩:=ry;obtain⟨j,h1,h2,h3,h4,h5⟩:=LU he;have hl:z.cps.toList.length=z.length:=by simp[Str.length]
 rw[hl] at h1 h4 h5;have hn:=GG;exact tail_any (typeIs_str s z t) slot_str_getitem.lookup (getItem_str (c:=c) (by
  have e1:decide (i < -(2 ^ 63:Int))=false:=AAN (by omega);have e2:decide (i ≥ 2 ^ 63)=false:=AAN (by omega);rw[e1,e2,Bool.or_false]) (by rw[h1];simpa using h2) ⟨.str ⟨#[c]⟩,H,I.tok _,⟨_,rfl⟩,q⟩) hs
noncomputable def rIx(K:PySem.W.Frag):R2:=λx y H Q=>ZZ K x y H Q∨ZX K x y H Q∨ZY x y H Q
theorem NY:IxR X (rIx X.K):=ix_list.or (ix_tup.or YM)
theorem NS(its:List Value)(n j:Nat)(u:Value):Obj.mapSeq (·.setIfInBounds j u) { cls:=.type "list",data:=.seq its.toArray n }={ cls:=.type "list",data:=.seq (its.set j u).toArray n }:=by
 simp[Obj.mapSeq]
theorem Inv.lst(I:Inv X w5 O H s)(h:H p=some (.lst xs)):
  ∃(its:List Value) (n:Nat),Vals xs its/\s.heap.get? p=some { cls:=.type "list",data:=.seq its.toArray n }/\xs.length<=sizeLine:=by
 obtain⟨z,its,n,r,e⟩:=I.hok p _ h;exact⟨its,n,r,e,z⟩
theorem Inv.lstUpd{w5:List (Addr×Obj)}{O:St}{H:Hp}{s:Shared}{p:Addr}{xs ys:List V}{its its':List Value}{n n':Nat}{f:Obj->Obj}(I:Inv X w5 O H s)(h:H p=some (.lst xs))
  (ho:s.heap.get? p=some { cls:=.type "list",data:=.seq its.toArray n }) (hf:f { cls:=.type "list",data:=.seq its.toArray n }={ cls:=.type "list",data:=.seq its'.toArray n' }) (r:Vals ys its') (hz:ys.length<=sizeLine) (t:Nat) :
  Inv X w5 O (upd H p (.lst ys)) { s with heap:=s.heap.update p f,toks:=t }:=by
 have e:(s.heap.update p f).get? p=some { cls:=.type "list",data:=.seq its'.toArray n' }:=by
  rw[Heap.get?_update_self f ho (by rw[hf]<;>rfl),hf]
 refine I.write (x:=p) (e:=p) (by rw[h];trivial) (.inl rfl) (λb u hb q=>(Heap.get?_update_other _ _ (Ne.symm hb)).trans q) ⟨_,e⟩ ?_;exact⟨hz,its',n',r,e⟩
noncomputable def ZW:V->V->V->Hp->(Hp->Prop)->Prop:=λo i v H Q=>∃p xs k j,o=.ref p/\i=.int k/\H p=some (.lst xs)/\ixN xs.length k=some j/\Q (upd H p (.lst (xs.set j v)))
theorem RJ:aR X ZW:=by
 intro w5 s O H o i v ov iv u Q I ro ri rv h;obtain⟨p,xs,k,j,rfl,rfl,hp,hj,q⟩:=h;cases ro;obtain⟨t,rfl⟩:=ri;obtain⟨its,n,r,ho,hz⟩:=I.lst hp;obtain⟨h1,h2,h3,h4⟩:=Op hj;have hl:=r.length;have hn:=GG;have I':Inv X w5 O (upd H p (.lst (xs.set j v))) { s with heap:=s.heap.update p (Obj.mapSeq (·.setIfInBounds j u)) }:=
  I.lstUpd hp ho (NS its n j u) (r.set rv j) (by rw[AAx];exact hz) s.toks
 by_cases h0:0<=k
 ·have hk:k.toNat=j:=by
   rw[seqIndex_of h0 h4] at h1;exact Option.some.inj h1
  exact PySem.W.ki_setAt ho h0 (by omega) (by rw[List.size_toArray,←hl];exact h4) (by rw[hk];exact⟨_,I',q⟩)
 ·have hk:(k+(its.toArray.size:Int)).toNat=j:=by
   rw[seqIndex_neg (by omega) h3] at h1;rw[List.size_toArray,←hl];exact Option.some.inj h1
  exact PySem.W.ki_setBack ho (by omega) (by rw[List.size_toArray,←hl];exact h3) (by omega) (by rw[hk];exact⟨_,I',q⟩)
theorem Ko(lo hi:Option Int)(n:Nat):(sliceBounds lo hi none n).1=((HT.sIx n 0 lo:Nat):Int)/\(sliceBounds lo hi none n).2.1=((HT.sIx n n hi:Nat):Int)/\(sliceBounds lo hi none n).2.2=1:=by
 refine⟨?_,?_,rfl⟩
 ·cases lo with
  |none=>simp[sliceBounds,HT.sIx]
  |some i=>
   simp only[sliceBounds,HT.sIx,Option.getD_none,show (1:Int) > 0 by decide,if_true];by_cases h:i<0
   ·simp only[h,if_true]<;>omega
   ·simp only[h,if_false]<;>omega
 ·cases hi with
  |none=>simp[sliceBounds,HT.sIx]
  |some i=>
   simp only[sliceBounds,HT.sIx,Option.getD_none,show (1:Int) > 0 by decide,if_true];by_cases h:i<0
   ·simp only[h,if_true]<;>omega
   ·simp only[h,if_false]<;>omega
theorem Jd(its:List Value)(lo hi:Option Int):slicePick its.toArray lo hi none=((its.drop (HT.sIx its.length 0 lo)).take (HT.sIx its.length its.length hi-HT.sIx its.length 0 lo)).toArray:=by
 obtain⟨h1,h2,h3⟩:=Ko lo hi its.toArray.size;unfold slicePick;rw[h1,h2,h3];simp only[sliceRange_one,pick_run,List.size_toArray]<;>rfl
noncomputable def av(K:PySem.W.Frag):V->Option Int->Option Int->Hp->VK->Prop:=λx lo hi H Q=>∃a xs,x=.ref a/\SqL K H a xs/\∀p,H p=none->Q (.ref p) (upd H p (.lst (Mc xs lo hi)))
theorem Ul:SlR X (av X.K):=by
 intro w5 s O H x v vl vu lo hi sl Q I rx hs pl pu h;obtain⟨a,xs,rfl,hx,q⟩:=h;cases rx;obtain⟨its,r,ht,hz⟩:=I.list hx;have hlen:=r.length;refine⟨"list",_,slot_list_getitem.lookup,ht.isList.typeIs,?_⟩;refine wpAny_getItem_list_slice ht.isList hs pl pu .none (by simp) ?_ (by rw[List.size_toArray]<;>omega);rw[Jd,←hlen];refine⟨.ref s.heap.objs.size,_,I.laid (t':=s.toks) (o:=.lst (Mc xs lo hi)) (λb ob q=>AAC _ q) (AAE _) ?_,rfl,q _ (I.hok.fresh (AAE _))⟩;exact⟨AAt (Hk xs lo hi) hz,_,0,(r.drop (HT.sIx xs.length 0 lo)).take (HT.sIx xs.length xs.length hi-HT.sIx xs.length 0 lo),AAD _ rfl⟩
noncomputable def Dw:V->Bool
 | .non=>true
 | .bl _=>true
 | .int _=>true
 | .str _=>true
 |_=>false
noncomputable def eqV:V->V->Bool
 | .non,.non=>true
 | .bl a,.bl b=>a==b
 | .bl a,.int b=>(if a then 1 else 0)==b
 | .int a,.bl b=>a==(if b then 1 else 0)
 | .int a,.int b=>a==b
 | .str a,.str b=>a==b
 |_,_=>false
theorem Yh(ry:RelV y u)(rx:RelV x v)(fy:Dw y=true)(fx:Dw x=true):SeqAt.EqAt A s u v (eqV y x):=by
 cases y with
 |non=>
  cases ry;cases x with
  |non=>cases rx;exact SeqAt.EqAt.same _
  |bl b=>cases rx;exact SeqAt.EqAt.none_bool b
  |int b=>obtain⟨t,rfl⟩:=rx;exact SeqAt.EqAt.none_int b t
  |str b=>obtain⟨t,rfl⟩:=rx;exact SeqAt.EqAt.none_str b t
  |_=>exact absurd (show false=true from fx) AAh
 |bl a=>
  cases ry;cases x with
  |non=>cases rx;exact SeqAt.EqAt.bool_none a
  |bl b=>cases rx;exact SeqAt.EqAt.bool_bool a b
  |int b=>obtain⟨t,rfl⟩:=rx;exact SeqAt.EqAt.bool_int a b t
  |str b=>obtain⟨t,rfl⟩:=rx;exact SeqAt.EqAt.bool_str a b t
  |_=>exact absurd (show false=true from fx) AAh
 |int a=>
  obtain⟨t',rfl⟩:=ry;cases x with
  |non=>cases rx;exact SeqAt.EqAt.int_none a t'
  |bl b=>cases rx;exact SeqAt.EqAt.int_bool a t' b
  |int b=>obtain⟨t,rfl⟩:=rx;exact SeqAt.EqAt.int_int a t' b t
  |str b=>obtain⟨t,rfl⟩:=rx;exact SeqAt.EqAt.int_str a t' b t
  |_=>exact absurd (show false=true from fx) AAh
 |str a=>
  obtain⟨t',rfl⟩:=ry;cases x with
  |non=>cases rx;exact SeqAt.EqAt.str_none a t'
  |bl b=>cases rx;exact SeqAt.EqAt.str_bool a t' b
  |int b=>obtain⟨t,rfl⟩:=rx;exact SeqAt.EqAt.str_int a t' b t
  |str b=>obtain⟨t,rfl⟩:=rx;exact SeqAt.EqAt.str_str a t' b t
  |_=>exact absurd (show false=true from fx) AAh
 |_=>exact absurd (show false=true from fy) AAh
noncomputable def eqU(x:V)(u:Value):Bool:=match u with
 | .none=>eqV .non x
 | .bool b=>eqV (.bl b) x
 | .int i _=>eqV (.int i) x
 | .str z _=>eqV (.str z) x
 |_=>false
theorem LJ(r:RelV y u)(f:Dw y=true):eqU x u=eqV y x:=by
 cases y with
 |non=>cases r;rfl
 |bl b=>cases r;rfl
 |int i=>obtain⟨t,rfl⟩:=r;rfl
 |str z=>obtain⟨t,rfl⟩:=r;rfl
 |_=>exact absurd (show false=true from f) AAh
theorem G6:∀{xs:List V} {us:List Value},Vals xs us->xs.all Dw=true->us.any (eqU x)=xs.any λy=>eqV y x
 |_,_,.nil,_=>rfl
 |y::xs,u::us,.cons r t,f=>by
  rw[List.all_cons,Bool.and_eq_true] at f;rw[List.any_cons,List.any_cons,LJ r f.1,G6 t f.2]
theorem EG(rx:RelV x v)(fx:Dw x=true):∀{xs:List V} {us:List Value},Vals xs us->xs.all Dw=true->∀u∈us,SeqAt.EqAt A s u v (eqU x u)
 |_,_,.nil,_=>λu hu=>by cases hu
 |y::xs,u::us,.cons r t,f=>λu' hu=>by
  rw[List.all_cons,Bool.and_eq_true] at f;rcases AAI.mp hu with rfl|hu
  ·rw[LJ r f.1];exact Yh r rx f.1 fx
  ·exact EG rx fx t f.2 u' hu
noncomputable def inV(x:V)(xs:List V):Bool:=xs.any λy=>eqV y x
noncomputable def rIn(K:PySem.W.Frag)(neg:Bool):R2:=λx y H Q=>∃p xs,y=.ref p/\(SqL K H p xs∨SqT K H p xs)/\Dw x=true/\xs.all Dw=true/\Q (.bl (if neg then !inV x xs else inV x xs)) H
theorem Ps:OpR X (compareOp .In) (rIn X.K false):=by
 intro w5 s O H x y v u Q I rx ry h;obtain⟨p,xs,rfl,hq,fx,fs,q⟩:=h;cases ry;rcases hq with hq|hq
 ·obtain⟨its,r,pl,hz⟩:=I.list hq;refine SeqAt.in_listAt (eqU x) pl.isList (λw hw=>EG rx fx r fs w (by simpa using hw)) ⟨.bl _,H,I,rfl,?_⟩;rw[show its.toArray.any (eqU x)=its.any (eqU x) by simp,G6 r fs];exact q
 ·obtain⟨its,r,pl,hz⟩:=I.tuple hq;refine SeqAt.in_tupleAt (eqU x) pl (λw hw=>EG rx fx r fs w (by simpa using hw)) ⟨.bl _,H,I,rfl,?_⟩;rw[show its.toArray.any (eqU x)=its.any (eqU x) by simp,G6 r fs];exact q
theorem Ky:OpR X (compareOp .NotIn) (rIn X.K true):=by
 intro w5 s O H x y v u Q I rx ry h;obtain⟨p,xs,rfl,hq,fx,fs,q⟩:=h;cases ry;rcases hq with hq|hq
 ·obtain⟨its,r,pl,hz⟩:=I.list hq;refine SeqAt.notIn_listAt (eqU x) pl.isList (λw hw=>EG rx fx r fs w (by simpa using hw)) ⟨.bl _,H,I,rfl,?_⟩;rw[show its.toArray.any (eqU x)=its.any (eqU x) by simp,G6 r fs];exact q
 ·obtain⟨its,r,pl,hz⟩:=I.tuple hq;refine SeqAt.notIn_tupleAt (eqU x) pl (λw hw=>EG rx fx r fs w (by simpa using hw)) ⟨.bl _,H,I,rfl,?_⟩;rw[show its.toArray.any (eqU x)=its.any (eqU x) by simp,G6 r fs];exact q
theorem Gz:Bo X (.type "list") (λxs H Q=>∃p ys,xs=[.ref p]/\(SqL X.K H p ys∨SqT X.K H p ys)/\∀l,H l=none->Q (.ref l) (upd H l (.lst ys))):=by
 intro w5 s O H xs us Q I r h;obtain⟨p,ys,rfl,hq,q⟩:=h;obtain⟨u,rfl,rx⟩:=DC r;cases rx;have fin:∀(its:List Value),Vals ys its->ys.length<=sizeLine->∀(h':Heap) (c':Nat),(∀b o',s.heap.get? b=some o'->h'.get? b=some o')->
   h'.get? s.heap.objs.size=some { cls:=.type "list",dict:=none,data:=.seq its.toArray c',slots:=#[] }->EP X w5 O Q (.ref s.heap.objs.size) { s with heap:=h' }:=λits r' hz h' c' kp e=>
  ⟨.ref s.heap.objs.size,_,I.laid (t':=s.toks) kp (AAE _) (show ObjOk X.prog X.w _ h' _ (.lst ys) from ⟨hz,its,c',r',e⟩),rfl,q _ (I.hok.fresh (AAE _))⟩
 rcases hq with hq|hq
 ·obtain⟨its,r',pl,hz⟩:=I.list hq;have hlen:=r'.length;obtain⟨o,ho,hc,n,hd⟩:=pl.isList;exact call_list_seq p (.inl rfl) ho hc hd (λh' c' kp e=>fin its r' hz h' c' kp e) (by simp only[List.size_toArray]<;>omega)
 ·obtain⟨its,r',pl,hz⟩:=I.tuple hq;have hlen:=r'.length;obtain⟨o,ho,hc,n,hd⟩:=pl;exact call_list_seq p (.inr rfl) ho hc hd (λh' c' kp e=>fin its r' hz h' c' kp e) (by simp only[List.size_toArray]<;>omega)
def tyV(K:PySem.W.Frag)(T:String)(x:V)(H:Hp):Prop:=match x with
 | .str _=>T = "str"
 | .int _=>T = "int"
 | .ref p=>(T = "list" /\ ∃xs,SqL K H p xs)∨(T = "tuple" /\ ∃o,K.lookup p=some o/\o.cls=.type "tuple" /\ o.dict=none) ∨
   (T = "dict" /\ ((∃kvs,H p=some (.dK kvs))∨∃kvs,H p=some (.dT kvs)))∨(T = "set" /\ ∃S n,H p=some (.set S n))
 |_=>False
theorem Q2(I:Inv X w5 O H s)(r:RelV x v)(ty:tyV X.K T x H):
  s.TypeIs v T/\∀a,v=.ref a->∃ob,s.heap.get? a=some ob/\ob.dict=none:=by
 cases x with
 |str z=>
  obtain⟨t,rfl⟩:=r;cases (show T = "str" from ty);exact⟨typeIs_str s z t,λ_ e=>nomatch e⟩
 |int i=>
  obtain⟨t,rfl⟩:=r;cases (show T = "int" from ty);exact⟨typeIs_int s i t,λ_ e=>nomatch e⟩
 |ref p=>
  cases r;rcases ty with ⟨rfl,xs,hq⟩|⟨rfl,o,hk,hc,hd⟩|⟨rfl,hk⟩|⟨rfl,S,n,hk⟩
  ·obtain⟨its,_,pl,_⟩:=I.list hq;refine⟨pl.isList.typeIs,λa e=>?_⟩;cases e;obtain⟨o,n,e,c,hd,_⟩:=pl;exact⟨o,e,hd⟩
  ·refine⟨⟨o,I.kIn p o hk,hc⟩,λa e=>?_⟩;cases e;exact⟨o,I.kIn _ o hk,hd⟩
  ·have z:∃o,s.heap.get? p=some o/\o.ExactDict:=by
    rcases hk with ⟨kvs,hk⟩|⟨kvs,hk⟩
    ·obtain⟨_,_,_,_,o,_,_,e,ex,_⟩:=I.hok p _ hk;exact⟨o,e,ex⟩
    ·obtain⟨_,_,_,_,o,_,_,e,ex,_⟩:=I.hok p _ hk;exact⟨o,e,ex⟩
   obtain⟨o,e,ex⟩:=z;refine⟨⟨o,e,ex.1⟩,λa e2=>?_⟩;cases e2;exact⟨o,e,ex.2.1⟩
  ·obtain⟨o,_,_,_,e,ex,_⟩:=I.hok p _ hk;refine⟨⟨o,e,ex.1⟩,λa e2=>?_⟩;cases e2;exact⟨o,e,ex.2.1⟩
 |_=>exact False.elim ty
noncomputable def ZM(K:PySem.W.Frag)(T:String)(r:V->List V->Hp->VK->Prop)(to:TE):TE:=λO H Q=>to O H λx H1=>tyV K T x H1/\r x [] H1 Q
noncomputable def tBM(K:PySem.W.Frag)(T:String)(r:V->List V->Hp->VK->Prop)(to:TE)(t:TA):TE:=λO H Q=>to O H λx H1=>tyV K T x H1/\t O H1 λxs H2=>r x xs H2 Q
variable{o e:Expr}{es:List Expr}{to:TE}{t:TA}{name:Str}{apos cpos:Pos}{T id:String}{r:V->List V->Hp->VK->Prop}
theorem Xw(pa:PlainAttrs T)(slot:Slot T name id)(hty:typeOf (.builtin id)=pure (.type "method_descriptor"))(hm:MtR X id r)(ho:PE X o to)
  (hbase:attributeBase o name X.env (eval o X.env)=eval o X.env:=by rfl) (hline:(apos.endLine==cpos.line)=true:=by rfl):PE X (.Call (.Attribute o name apos) [] [] cpos) (ZM X.K T r to):=by
 intro w5 s O H Q I h;refine wpAny_Call_method0_late hbase hline (thn (ho w5 s O H _ I h) λv s1 ⟨x,H1,I1,r1,ty,q1⟩=>?_);obtain⟨h1,h2⟩:=Q2 I1 r1 ty;exact⟨T,id,pa,slot,hty,h1,h2,Calls.callWith_builtin rfl (PySem.evalArgs_none (hm w5 s1 O H1 x [] v [] Q I1 r1 .nil q1))⟩
theorem Zj(pa:PlainAttrs T)(slot:Slot T name id)(hty:typeOf (.builtin id)=pure (.type "method_descriptor"))(hm:MtR X id r)(ho:PE X o to)(ha:PA X (e::es) t)
  (hbase:attributeBase o name X.env (eval o X.env)=eval o X.env:=by rfl)
  (hfew:((backTo cpos (starEach (e::es) X.env)).all (λx=>!x.1)&&(backToKw cpos (keywordEach [] X.env)).all (λx=>x.1.isSome)
   && decide ((e::es).length+([]:List Keyword).length+(if ([]:List Keyword).isEmpty then 0 else 1)<30))=true:=by rfl)
  (hline:(apos.endLine==cpos.line)=true:=by rfl) (hs:starEach (e::es) X.env=(false,eval e X.env)::starEach es X.env:=by rfl) (hplain:(backTo cpos (starEach es X.env)).any (·.1)=false:=by rfl) :
  PE X (.Call (.Attribute o name apos) (e::es) [] cpos) (tBM X.K T r to t):=by
 intro w5 s O H Q I h;refine wpAny_Call_method_late hbase hfew hline rfl (thn (ho w5 s O H _ I h) λv s1 ⟨x,H1,I1,r1,ty,q1⟩=>?_);obtain⟨h1,h2⟩:=Q2 I1 r1 ty;refine⟨T,id,pa,slot,hty,h1,h2,?_⟩;have hA:=ha cpos w5 s1 O H1 _ I1 q1;rw[hs] at hA ⊢;refine Calls.callWith_builtin (by show (false||(backTo cpos (starEach es X.env)).any (·.1))=false;rw[hplain]<;>rfl) (Calls.evalArgs_plain ?_);exact thn hA λus s2 ⟨vs,H2,I2,r2,q2⟩=>hm w5 s2 O H2 x vs v us Q I2 r1 r2 q2
end
def MtM(X:Cx)(id:String)(r:V->List V->Hp->VK->Prop):Prop:=
 ∀(w5:List (Addr×Obj)) (s:Shared) (O:St) (H:Hp) (x:V) (xs:List V) (v:Value) (us:List Value) (Q:VK),Inv X w5 O H s->RelV x v->Vals xs us->r x xs H Q->
  wpAny (model X.prog X.w) X.A (call (.builtin id) (v::us)) (EP X w5 O Q) X.xe s
theorem Vals.one:∀{x:V} {us:List Value},Vals [x] us->∃u,us=[u]/\RelV x u
 |_,_,.cons r .nil=>⟨_,rfl,r⟩
theorem Vals.two:∀{x y:V} {us:List Value},Vals [x,y] us->∃u v,us=[u,v]/\RelV x u/\RelV y v
 |_,_,_,.cons r (.cons q .nil)=>⟨_,_,rfl,r,q⟩
theorem Vals.zero:∀{us:List Value},Vals [] us->us=[]
 |_,.nil=>rfl
theorem Vals.dropLast(h:Vals xs us):Vals xs.dropLast us.dropLast:=by
 induction h with
 |nil=>exact .nil
 |cons r t ih=>
  cases t with
  |nil=>exact .nil
  |cons q t'=>exact .cons r ih
theorem Vals.eraseIdx:∀{xs:List V} {us:List Value} (i:Nat),Vals xs us->Vals (xs.eraseIdx i) (us.eraseIdx i)
 |_,_,_,.nil=>.nil
 |_,_,0,.cons _ t=>t
 |_,_,i+1,.cons r t=>.cons r (Vals.eraseIdx i t)
theorem Vals.rep(h:Vals xs us):∀k:Nat,Vals (List.replicate k xs).flatten (List.replicate k us).flatten
 |0=>.nil
 |k+1=>by
  rw[AAl,AAl,List.flatten_cons,List.flatten_cons];exact Vals.append h (Vals.rep h k)
theorem Nh(l:List α):l.eraseIdx (l.length-1)=l.dropLast:=by
 induction l with
 |nil=>rfl
 |cons a r ih=>
  cases r with
  |nil=>rfl
  |cons b r=>
   have e:(a::b::r).length-1=((b::r).length-1)+1:=by
    have h1:(a::b::r).length=r.length+2:=rfl;have h2:(b::r).length=r.length+1:=rfl;omega
   rw[e,List.eraseIdx_cons_succ,ih]
   all_goals rfl
theorem J3:∀(l:List α) (i:Nat),(l.eraseIdx i).length<=l.length
 |[],_=>AAE _
 |_::_,0=>Nat.le_succ _
 |_::r,i+1=>Nat.succ_le_succ (J3 r i)
theorem KC(its:List Value):∀(k:Nat) (acc:List Value),
  List.foldl (λx1 x2=>x1++x2) acc.toArray (List.replicate k its.toArray)=(acc++(List.replicate k its).flatten).toArray
 |0,acc=>by simp
 |k+1,acc=>by
  have e:acc.toArray++its.toArray=(acc++its).toArray:=by simp
  have e2:(acc++its)++(List.replicate k its).flatten=acc++(List.replicate (k+1) its).flatten:=by
   rw[AAl,List.flatten_cons,AAm]
  rw[←e2,←KC its k (acc++its),←e,AAl,List.foldl_cons]
section
variable{X:Cx}{w5:List (Addr×Obj)}{O:St}{H:Hp}{s:Shared}{l:Addr}{xs ys:List V}
theorem Inv.lset{its its':List Value}{n:Nat}{f:Array Value->Array Value}{t':Nat}(I:Inv X w5 O H s)(hH:H l=some (.lst xs))
  (e:s.heap.get? l=some { cls:=.type "list",data:=.seq its.toArray n }) (hf:f its.toArray=its'.toArray) (hv:Vals ys its') (hz:ys.length<=sizeLine) :
  Inv X w5 O (upd H l (.lst ys)) { s with heap:=s.heap.update l (Obj.mapSeq f),toks:=t' }:=by
 have q:=PySem.IsL.update e f;rw[hf] at q;refine I.write (x:=l) (e:=l) (by rw[hH];exact trivial) (.inl rfl) (λb' u hb hu=>(Heap.get?_update_other s.heap (Obj.mapSeq f) (Ne.symm hb)).trans hu) ⟨_,q⟩ ?_;exact⟨hz,its',_,hv,q⟩
theorem Inv.lnew(I:Inv X w5 O H s)(hv:Vals ys its)(hz:ys.length<=sizeLine):
  Inv X w5 O (upd H s.heap.objs.size (.lst ys)) { s with heap:=s.heap.push { cls:=.type "list",data:=.seq its.toArray },toks:=t' }:=
 I.laid (λ_ _ q=>AAC _ q) (AAE _) ⟨hz,its,0,hv,AAD _ rfl⟩
theorem Inv.fresh(I:Inv X w5 O H s):H s.heap.objs.size=none:=I.hok.fresh (AAE _)
theorem Inv.lstM(I:Inv X w5 O H s)(hH:H l=some (.lst xs)):xs.length<=sizeLine/\∃(its:List Value) (n:Nat),Vals xs its/\xs.length=its.length/\s.heap.get? l=some { cls:=.type "list",data:=.seq its.toArray n }:=by
 obtain⟨z,its,n,r,e⟩:=I.hok l _ hH;exact⟨z,its,n,r,r.length,e⟩
theorem SJ(h:n<=sizeLine):Builtin.List.listTooLong n=false:=by
 unfold Builtin.List.listTooLong;exact AAN (by omega)
end
section
variable{X:Cx}
noncomputable def Ux:V->List V->Hp->VK->Prop:=λx vs H Q=>∃l xs y,x=.ref l/\vs=[y]/\H l=some (.lst xs)/\xs.length<sizeLine/\Q .non (upd H l (.lst (xs++[y])))
theorem Py:MtM X "list.append" Ux:=by
 intro w5 s O H x vs v us Q I rx rv h;obtain⟨l,xs,y,rfl,rfl,hH,hz,q⟩:=h;cases rx;obtain⟨u,rfl,ru⟩:=rv.one;obtain⟨z,its,n,r,hl,e⟩:=I.lstM hH;refine call_meets F.slot_list_append ⟨_,e,rfl⟩ F.entry_list_append (F.args_list_append_2 _ _) (PySem.list_append l its.toArray n u (by rw[List.size_toArray];omega)) ⟨e,?_⟩;refine⟨.non,_,I.lset (its':=its++[u]) hH e (by simp) (r.append (.cons ru .nil)) ?_,rfl,q⟩;rw[AAG,List.length_singleton];omega
noncomputable def ax:V->List V->Hp->VK->Prop:=λx vs H Q=>∃l xs y,x=.ref l/\vs=[]/\H l=some (.lst xs)/\xs[xs.length-1]?=some y/\Q y (upd H l (.lst xs.dropLast))
theorem YE:MtM X "list.pop" ax:=by
 intro w5 s O H x vs v us Q I rx rv h;obtain⟨l,xs,y,rfl,rfl,hH,hy,q⟩:=h;cases rx;have hus:=rv.zero;subst hus;obtain⟨z,its,n,r,hl,e⟩:=I.lstM hH;obtain⟨u,hu,ru⟩:=r.get hy;have hy':its.toArray[its.toArray.size-1]?=some u:=by
  show its.toArray[its.length-1]?=some u;rw[←Array.getElem?_toList,←hl];exact hu
 refine call_meets F.slot_list_pop ⟨_,e,rfl⟩ F.entry_list_pop (F.args_list_pop_1 _) (MeetsSeq.list_pop_last l its.toArray n u hy' (by rw[List.size_toArray];omega)) ⟨e,?_⟩;refine⟨y,_,I.lset (its':=its.dropLast) hH e ?_ r.dropLast ?_,ru,q⟩
 ·show its.toArray.eraseIdxIfInBounds (its.toArray.size-1)=its.dropLast.toArray;rw[List.size_toArray,List.eraseIdxIfInBounds_toArray,Nh]
 ·rw[List.length_dropLast];omega
noncomputable def a7:R2:=λx y H Q=>∃l b xs zs,x=.ref l/\y=.ref b/\H l=some (.lst xs)/\H b=some (.lst zs)/\xs.length+zs.length<=sizeLine/\∀p,H p=none->Q (.ref p) (upd H p (.lst (xs++zs)))
theorem YA:OpR X (binaryOp .Add) a7:=by
 intro w5 s O H x y v u Q I rx ry h;obtain⟨l,b,xs,zs,rfl,rfl,hH,hB,hz,q⟩:=h;cases rx;cases ry;obtain⟨z,its,n,r,hl,e⟩:=I.lstM hH;obtain⟨z2,its2,n2,r2,hl2,e2⟩:=I.lstM hB;refine PySem.P.add_list e e2 ?_ (by rw[List.size_toArray,List.size_toArray];omega);have ea:its.toArray++its2.toArray=(its++its2).toArray:=by simp
 rw[ea];exact⟨.ref _,_,I.lnew (t':=s.toks) (r.append r2) (by rw[AAG];omega),rfl,q _ I.fresh⟩
noncomputable def aw:R2:=λx y H Q=>∃l k xs,x=.ref l/\y=.int k/\H l=some (.lst xs)/\-(2 ^ 63)<=k/\k<2 ^ 63/\xs.length * k.toNat<=sizeLine /\
 ∀p,H p=none->Q (.ref p) (upd H p (.lst (List.replicate k.toNat xs).flatten))
theorem Ol(xs:List α)(k:Nat):(List.replicate k xs).flatten.length=k * xs.length:=by
 induction k with
 |zero=>simp
 |succ k ih=>rw[AAl,List.flatten_cons,AAG,ih,Nat.succ_mul,Nat.add_comm]
theorem X3:OpR X (binaryOp .Mult) aw:=by
 intro w5 s O H x y v u Q I rx ry h;obtain⟨l,k,xs,rfl,rfl,hH,h1,h2,hz,q⟩:=h;cases rx;obtain⟨t,rfl⟩:=ry;obtain⟨z,its,n,r,hl,e⟩:=I.lstM hH;have hlen:its.toArray.size * k.toNat<=sizeLine:=by rw[List.size_toArray,←hl];exact hz
 have hcap:¬its.toArray.size * k.toNat > (2 ^ 63-1) / 8:=by
  have:(sizeLine:Nat)<=(2 ^ 63-1) / 8:=by decide
  omega
 have hfit:¬(!Builtin.List.listFitsIndex k)=true:=by
  rw[fitsIndex_both h1 h2];exact AAh
 have hlong:¬Builtin.List.listTooLong (its.toArray.size * k.toNat)=true:=by
  rw[SJ hlen];exact AAh
 have hnew:List.foldl (λx1 x2=>x1++x2) #[] (List.replicate (if its.toArray.isEmpty=true then 0 else k.toNat) its.toArray)=(List.replicate k.toNat its).flatten.toArray:=by
  have f0:∀m:Nat,List.foldl (λx1 x2=>x1++x2) #[] (List.replicate m its.toArray)=(List.replicate m its).flatten.toArray:=λm=>by
   have:=KC its m [];rw[List.nil_append] at this;exact this
  rw[f0];cases its with
  |nil=>simp
  |cons a r'=>rw[if_neg (by simp)]
 refine wpAny_binaryOp_repeat_ref (T := "list") (U := "int") (by decide) ⟨_,e,rfl⟩ (λs'=>typeIs_int s' k t) noFill_list_mul F.fills_int_mul F.slot_int_rmul repeat_list F.slot_int_index.lookup
  (call_meets F.slot_int_rmul (typeIs_int s k t) F.entry_int_rmul (F.args_int_rmul_2 _ _) (int___rmul___int_list k t l its.toArray n)
   ⟨e,rfl,⟨_,e,rfl⟩,call_meets F.slot_list_mul ⟨_,e,rfl⟩ F.entry_list_mul (F.args_list_mul_2 _ _) (AutoListH.list___mul___list_int_3 l its.toArray n k t hfit hcap hlong) ⟨e,?_⟩⟩)
 rw[hnew];exact⟨.ref _,_,I.lnew (t':=s.toks) (r.rep k.toNat) (by rw[Ol,Nat.mul_comm];exact hz),rfl,q _ I.fresh⟩
end
section
variable{κ:Type}[DecidableEq κ]
noncomputable def FQ(kvs:List (κ×V))(k:κ):Option V:=(kvs.find? λkv=>decide (kv.1=k)).map (·.2)
noncomputable def Gh(kvs:List (κ×V))(k:κ)(v:V):List (κ×V):=
 if (kvs.any λkv=>decide (kv.1=k))=true then kvs.map (λkv=>if kv.1=k then (kv.1,v) else kv) else kvs++[(k,v)]
noncomputable def Hj(kvs:List (κ×V))(k:κ):List (κ×V):=kvs.filter λkv=>decide (kv.1≠k)
theorem IK{p:κ×V}{r:List (κ×V)}{k:κ}(e:p.1=k):FQ (p::r) k=some p.2:=by simp[FQ,List.find?_cons,e]
theorem IL{p:κ×V}{r:List (κ×V)}{k:κ}(e:¬p.1=k):FQ (p::r) k=FQ r k:=by simp[FQ,List.find?_cons,e]
theorem Lh(k:κ):∀kvs:List (κ×V),(kvs.any λkv=>decide (kv.1=k))=(FQ kvs k).isSome
 |[]=>rfl
 |p::r=>by
  rw[List.any_cons];by_cases e:p.1=k
  ·simp only[IK e,AAO e,Bool.true_or,Option.isSome_some]
  ·rw[IL e,AAN e,Bool.false_or];exact Lh k r
theorem Hg(kvs:List (κ×V))(k:κ)(v:V):(Gh kvs k v).length<=kvs.length+1:=by
 unfold Gh;split
 ·rw[AAF];omega
 ·rw[AAG,AAH,List.length_nil];omega
theorem RelO.isSome_eq(r:RelO o u):o.isSome=u.isSome:=by
 cases o with
 |none=>cases u with
  |none=>rfl
  |some _=>exact(show False from r).elim
 |some _=>cases u with
  |none=>exact(show False from r).elim
  |some _=>rfl
theorem KV.val{kvs:List (κ×V)}{vs:List (κ×Value)}(r:KV kvs vs)(k:κ):RelO (FQ kvs k) (valueAt vs k):=by
 unfold KV at r
 induction r with
 |nil=>exact True.intro
 |@cons p q ps qs h t ih=>
  obtain⟨h1,h2⟩:=h;by_cases e:p.1=k
  ·have e':q.1=k:=h1.symm.trans e;have b:valueAt (q::qs) k=some q.2:=by simp[valueAt,List.find?_cons,e']
   rw[IK e,b];exact h2
  ·have e':¬q.1=k:=λz=>e (h1.trans z);have b:valueAt (q::qs) k=valueAt qs k:=by simp[valueAt,List.find?_cons,e']
   rw[IL e,b];exact ih
theorem KV.any(r:KV kvs vs)(k:κ):(kvs.any λkv=>decide (kv.1=k))=vs.any λkv=>decide (kv.1=k):=by
 unfold KV at r
 induction r with
 |nil=>rfl
 |cons h t ih=>rw[List.any_cons,List.any_cons,ih,h.1]
theorem KV.repl(r:KV kvs vs)(k:κ)(ry:RelV y u):
  KV (kvs.map λkv=>if kv.1=k then (kv.1,y) else kv) (vs.map λkv=>if kv.1=k then (kv.1,u) else kv):=by
 unfold KV at r ⊢
 induction r with
 |nil=>exact .nil
 |@cons p q ps qs h t ih=>
  rw[AAW,AAW];refine .cons ?_ ih;obtain⟨h1,h2⟩:=h;by_cases e:p.1=k
  ·rw[if_pos e,if_pos (h1.symm.trans e)];exact⟨h1,ry⟩
  ·rw[if_neg e,if_neg (λz=>e (h1.trans z))];exact⟨h1,h2⟩
theorem KV.put(r:KV kvs vs)(k:κ)(ry:RelV y u):KV (Gh kvs k y) (stored vs k u):=by
 unfold Gh stored;rw[r.any k];by_cases e:(vs.any λkv=>decide (kv.1=k))=true
 ·rw[if_pos e,if_pos e];exact r.repl k ry
 ·rw[if_neg e,if_neg e];exact Paired.snoc r ⟨rfl,ry⟩
theorem KV.drop(r:KV kvs vs)(k:κ):KV (Hj kvs k) (without vs k):=by
 unfold KV at r ⊢;unfold Hj without
 induction r with
 |nil=>exact .nil
 |@cons p q ps qs h t ih=>
  obtain⟨h1,h2⟩:=h;rw[List.filter_cons,List.filter_cons];by_cases e:p.1=k
  ·have a:¬decide (p.1≠k)=true:=by simp[e]
   have b:¬decide (q.1≠k)=true:=by simp[h1.symm.trans e]
   rw[if_neg a,if_neg b];exact ih
  ·have e':¬q.1=k:=λz=>e (h1.trans z);have a:decide (p.1≠k)=true:=by simp[e]
   have b:decide (q.1≠k)=true:=by simp[e']
   rw[if_pos a,if_pos b];exact .cons ⟨h1,h2⟩ ih
theorem KV.length(r:KV kvs vs):kvs.length=vs.length:=Paired.length r
theorem TC(kvs:List (κ×V))(k:κ):(Hj kvs k).length<=kvs.length:=List.length_filter_le _ _
end
theorem ML(r:RelV (kV k) u):(CM P w).is k u=true:=by
 cases k with
 |inl i=>obtain⟨t,e⟩:=(show ∃t,u=Value.int i t from r);subst e;exact MG P w i t
 |inr x=>obtain⟨t,e⟩:=(show ∃t,u=Value.str x t from r);subst e;exact MF P w x t
theorem KA:∀{ks:List Key} {us:List Value},Vals (ks.map kV) us->ItemsAre (CM P w) ks us
 |[],_,r=>by rw[List.map_nil] at r;cases r;exact .nil
 |k::ks,_,r=>by
  rw[AAW] at r;cases r with
  |cons h t=>exact .cons (ML h) (KA t)
noncomputable abbrev KT(H:Hp):List (List Key×V)->List (List Key×Addr×Value)->Prop:=Paired λp q=>p.1=q.1/\H q.2.1=some (.tup (p.1.map kV))/\RelV p.2 q.2.2
theorem KT.val{H:Hp}{kvs:List (List Key×V)}{xs:List (List Key×Addr×Value)}(r:KT H kvs xs)(k:List Key):RelO (FQ kvs k) ((atKey xs k).map (·.2)):=by
 induction r with
 |nil=>exact True.intro
 |@cons p q ps qs h t ih=>
  obtain⟨h1,_,h2⟩:=h;by_cases e:p.1=k
  ·have e':q.1=k:=h1.symm.trans e;have b:atKey (q::qs) k=some q.2:=by simp[atKey,List.find?_cons,e']
   rw[IK e,b];exact h2
  ·have e':¬q.1=k:=λz=>e (h1.trans z);have b:atKey (q::qs) k=atKey qs k:=by simp[atKey,List.find?_cons,e']
   rw[IL e,b];exact ih
theorem KT.repl(r:KT H kvs xs)(k:List Key)(ry:RelV y u):
  KT H (kvs.map λkv=>if kv.1=k then (kv.1,y) else kv) (xs.map (putAt k u)):=by
 induction r with
 |nil=>exact .nil
 |@cons p q ps qs h t ih=>
  rw[AAW,AAW];refine .cons ?_ ih;obtain⟨h1,h2,h3⟩:=h;unfold putAt;by_cases e:p.1=k
  ·rw[if_pos e,if_pos (h1.symm.trans e)];exact⟨h1,h2,ry⟩
  ·rw[if_neg e,if_neg (λz=>e (h1.trans z))];exact⟨h1,h2,h3⟩
theorem KT.put(r:KT H kvs xs)(k:List Key)(hb:H b=some (.tup (k.map kV)))(ry:RelV y u):
  KT H (Gh kvs k y) (storedH xs k b u):=by
 have e:(kvs.any λkv=>decide (kv.1=k))=(atKey xs k).isSome:=by
  rw[Lh,(r.val k).isSome_eq,Option.isSome_map]
 unfold Gh storedH;rw[e];by_cases q:(atKey xs k).isSome=true
 ·rw[if_pos q,if_pos q];exact r.repl k ry
 ·rw[if_neg q,if_neg q];exact Paired.snoc r ⟨rfl,hb,ry⟩
theorem KT.keeps(r:KT H kvs xs)(ht:∀b ys,H b=some (.tup ys)->H' b=some (.tup ys)):KT H' kvs xs:=
 Paired.mapP r λ_ _ z=>⟨z.1,ht _ _ z.2.1,z.2.2⟩
section
variable{P:Program}{w:World}{H:Hp}{h:Heap}{a:Addr}
theorem V6(ok:HOk P w H h)(e:Rd H a u):ObjOk P w H h a u:=e.ok ok
theorem MY(ok:HOk P w H h)(e:Rd H a (.dK kvs)):kvs.length<=sizeLine/\(a==sysModules)=false/\∃vs,KV kvs vs/\h.DictOf (CM P w) a vs:=
 show ObjOk P w H h a (.dK kvs) from V6 ok e
theorem TD(ok:HOk P w H h)(e:H a=some (.dK kvs)):kvs.length<=sizeLine/\(a==sysModules)=false/\∃vs,KV kvs vs/\h.DictOf (CM P w) a vs:=MY ok (.inl e)
theorem LB(ok:HOk P w H h)(e:H a=some (.tup (ks.map kV))):(tupleKind (CM P w)).is h ks a:=by
 obtain⟨_,its,r,o,h1,h2,n,h3⟩:=(show ObjOk P w H h a (.tup (ks.map kV)) from ok a _ e);exact⟨o,its.toArray,n,h1,h2,h3,by simpa using KA r⟩
theorem MX(ok:HOk P w H h)(e:Rd H a (.dT kvs)):kvs.length<=sizeLine/\(a==sysModules)=false /\
  ∃xs,KT H kvs xs/\h.DictOfH (tupleKind (CM P w)) a xs:=by
 obtain⟨z,y,xs,r,o,es,ep,h1,h2,h3,h4,h5⟩:=(show ObjOk P w H h a (.dT kvs) from V6 ok e);refine⟨z,y,xs,r,o,es,ep,h1,h2,h3,h4,λx hx=>?_,h5⟩;have all:∀{l:List (List Key×V)} {m:List (List Key×Addr×Value)},KT H l m->∀x∈m,(tupleKind (CM P w)).is h x.1 x.2.1:=by
  intro l m q
  induction q with
  |nil=>intro x hx;exact nomatch hx
  |@cons p q ps qs hq t ih=>
   intro x hx;rcases AAI.mp hx with e|hx
   ·subst e;exact LB ok (by rw[←hq.1];exact hq.2.1)
   ·exact ih x hx
 exact all r x hx
theorem aC(ok:HOk P w H h)(e:H a=some (.dT kvs)):kvs.length<=sizeLine/\(a==sysModules)=false /\
  ∃xs,KT H kvs xs/\h.DictOfH (tupleKind (CM P w)) a xs:=MX ok (.inl e)
end
def DGet(H:Hp)(a:Addr)(y:V)(r:Option V):Prop:=
 (∃kvs k,Rd H a (.dK kvs)/\y=kV k/\r=FQ kvs k)∨∃kvs k b,Rd H a (.dT kvs)/\y=.ref b/\H b=some (.tup (k.map kV))/\r=FQ kvs k
def DPut(H:Hp)(a:Addr)(y v:V)(H':Hp):Prop:=
 (∃kvs k,H a=some (.dK kvs)/\y=kV k/\kvs.length<sizeLine/\H'=upd H a (.dK (Gh kvs k v))) ∨
 ∃kvs k b,H a=some (.dT kvs)/\y=.ref b/\H b=some (.tup (k.map kV))/\kvs.length<sizeLine/\H'=upd H a (.dT (Gh kvs k v))
theorem DGet.k{H:Hp}{a:Addr}{kvs:List (Key×V)}{k:Key}(e:H a=some (.dK kvs)):DGet H a (kV k) (FQ kvs k):=.inl ⟨kvs,k,.inl e,rfl,rfl⟩
theorem DPut.k{H:Hp}{a:Addr}{kvs:List (Key×V)}{k:Key}{v:V}(e:H a=some (.dK kvs))(hl:kvs.length<sizeLine):DPut H a (kV k) v (upd H a (.dK (Gh kvs k v))):=.inl ⟨kvs,k,e,rfl,hl,rfl⟩
section
variable{X:Cx}{w5:List (Addr×Obj)}{O:St}{H:Hp}{s:Shared}{a:Addr}{y v:V}{u r:Value}{o:Option V}{A:Around}{E:Value->Shared->Prop}
theorem Inv.big(I:Inv X w5 O H s):sysModules<s.heap.objs.size:=by
 have h:mainGlobals<s.heap.objs.size:=(I.mod.glob.keeps I.bk).lt;exact Nat.lt_trans (by decide) h
theorem QJ(hu:A.units+1<cLine)(I:Inv X w5 O H s)(g:DGet H a y (some v))(ry:RelV y u)(h:∀w' s',Inv X w5 O H s'->RelV v w'->Q w' s'):
  wpAny (model X.prog X.w) A (getItem (.ref a) u) Q E s:=by
 rcases g with ⟨kvs,k,e,ey,l⟩|⟨kvs,k,b,e,ey,eb,l⟩
 ·subst ey;obtain⟨z,hd,vs,rel,dd⟩:=MY I.hok e;obtain⟨w',hw,rw'⟩:=RelO.some_of (v:=v) (o:=valueAt vs k) (by rw[l];exact rel.val k);exact wpAny_getItem_of (ML ry) dd.mapOf hw (h w' _ (I.tok _) rw')
 ·subst ey;cases (show u=Value.ref b from ry);obtain⟨z,hd,xs,rel,dd⟩:=MX I.hok e;obtain⟨w',hw,rw'⟩:=RelO.some_of (v:=v) (o:=(atKey xs k).map (·.2)) (by rw[l];exact rel.val k);obtain⟨p,hp,hp2⟩:=Option.map_eq_some_iff.mp hw;refine wpAny_getItem_heap (tupleKind_room_in1 hu) (LB I.hok eb) dd hp ?_;rw[hp2];exact h w' _ (I.tok _) rw'
theorem bL(hu:A.units+1<cLine)(I:Inv X w5 O H s)(g:DGet H a y o)(ry:RelV y u)(h:∀s',Inv X w5 O H s'->Q (.bool o.isSome) s'):
  wpAny (model X.prog X.w) A (compareOp .In u (.ref a)) Q E s:=by
 rcases g with ⟨kvs,k,e,ey,l⟩|⟨kvs,k,b,e,ey,eb,l⟩
 ·subst ey;obtain⟨z,hd,vs,rel,dd⟩:=MY I.hok e;refine wpAny_in_of (ML ry) hd dd.mapOf ?_;rw[←(rel.val k).isSome_eq,←l];exact h _ (I.tok _)
 ·subst ey;cases (show u=Value.ref b from ry);obtain⟨z,hd,xs,rel,dd⟩:=MX I.hok e;refine wpAny_in_heap (tupleKind_room_in1 hu) (LB I.hok eb) hd dd ?_;have q:=(rel.val k).isSome_eq;rw[Option.isSome_map] at q;rw[←q,←l];exact h _ (I.tok _)
theorem Gs(I:Inv X w5 O H s)(mu:Mut (H a))(hs:Heap.SameBut a s.heap h')(he:∃q,h'.get? a=some q)(new:ObjOk X.prog X.w (upd H a ob) h' a ob):
  Inv X w5 O (upd H a ob) { s with heap:=h',toks:=t' }:=
 I.write (x:=a) (e:=a) mu (.inl rfl) (λb q hb z=>(hs.2 b hb).trans z) he new
theorem TF(z:kvs.length<=sizeLine)(hd:(a==sysModules)=false)(rel:KV kvs vs)(dd:h'.DictOf (CM P w) a vs):
  ObjOk P w H' h' a (.dK kvs):=⟨z,hd,vs,rel,dd⟩
theorem QI(hu:A.units+1<cLine)(I:Inv X w5 O H s)(g:DPut H a y v H')(ry:RelV y u)(rv:RelV v r)(h:∀s',Inv X w5 O H' s'->Q () s'):
  wpAny (model X.prog X.w) A (setItem (.ref a) u r) Q E s:=by
 rcases g with ⟨kvs,k,e,ey,l,eH⟩|⟨kvs,k,b,e,ey,eb,l,eH⟩
 ·subst ey eH;obtain⟨z,hd,vs,rel,dd⟩:=TD I.hok e;have hz:vs.length<=sizeLine:=by rw[←rel.length];exact z
  have hl:(Gh kvs k v).length<=sizeLine:=by have:=Hg kvs k v;omega
  refine wpAny_setItem_pairs (hsz:=hz) (ML ry) dd λh' dd' hs=>h _ ?_;have he:∃q,h'.get? a=some q:=let ⟨q,_,_,hq,_⟩:=dd';⟨q,hq⟩
  exact Gs I (by rw[e];exact True.intro) hs he (TF hl hd (rel.put k rv) dd')
 ·subst ey eH;cases (show u=Value.ref b from ry);obtain⟨z,hd,xs,rel,dd⟩:=aC I.hok e;have hz:xs.length<=sizeLine:=by rw[←Paired.length rel];exact z
  have hl:(Gh kvs k v).length<=sizeLine:=by have:=Hg kvs k v;omega
  refine wpAny_setItem_heap (hsz:=hz) (tupleKind_room_in1 hu) (LB I.hok eb) dd λh' dd' hs=>h _ ?_;obtain⟨q,es,ep,hq,h2,h3,h4,_,h5⟩:=dd';refine Gs I (by rw[e];exact True.intro) hs ⟨q,hq⟩ ⟨hl,hd,_,(rel.put k eb rv).keeps λc ys ec=>?_,q,es,ep,hq,h2,h3,h4,h5⟩;rw[upd_ne (Zy ec e (λz=>nomatch z))];exact ec
end
section
variable{X:Cx}{w5:List (Addr×Obj)}{O:St}{H:Hp}{s:Shared}{a:Addr}{kvs:List (Key×V)}{k:Key}{u:Value}{A:Around}{E:Value->Shared->Prop}
theorem aF(I:Inv X w5 O H s)(e:H a=some (.dK kvs))(ry:RelV (kV k) u)(l:FQ kvs k=some v)(hm:more=[]∨∃x,more=[x])
  (h:∀w' s',Inv X w5 O (upd H a (.dK (Hj kvs k))) s'->RelV v w'->Q w' s'):wpAny (model X.prog X.w) A (call (.builtin "dict.pop") (.ref a::u::more)) Q E s:=by
 obtain⟨z,hd,vs,rel,dd⟩:=TD I.hok e;obtain⟨w',hw,rw'⟩:=RelO.some_of (v:=v) (o:=valueAt vs k) (by rw[←l];exact rel.val k);have hp:(keyPart u).isSome=true:=by
  cases k with
  |inl i=>obtain⟨t,q⟩:=(show ∃t,u=Value.int i t from ry);subst q;rfl
  |inr x=>obtain⟨t,q⟩:=(show ∃t,u=Value.str x t from ry);subst q;rfl
 have ha:argsOk "dict.pop" ⟨.ref a::u::more,[]⟩:=by
  rcases hm with q|⟨x,q⟩
  ·subst q;exact PySem.F.args_dict_pop_2 _ _
  ·subst q;exact PySem.F.args_dict_pop_3 _ _ _
 refine call_meetsIn PySem.F.slot_dict_pop dd.typeIs PySem.F.entry_dict_pop ha (meets_dict_pop_there (CM X.prog X.w) a (ML ry) more hm hp)
  ⟨vs,w',dd,by rw[←rel.length];exact z,hw,λh' dd' hs=>h w' _ ?_ rw'⟩
 have he:∃q,h'.get? a=some q:=let ⟨q,_,_,hq,_⟩:=dd';⟨q,hq⟩
 exact Gs I (by rw[e];exact True.intro) hs he (TF (AAt (TC kvs k) z) hd (rel.drop k) dd')
end
def Vr(i:Expr):Prop:=∀ov iv,subscripted i false ov iv=operate [ov,iv] (getItem ov iv)
theorem OI{prog:Program}{w:World}{A:Around}{E:Value->Shared->Prop}{s:Shared}{env:Env}{value slice:Expr}{pos:Pos}{T id:String}{Q:Value->Shared->Prop}
  (hl:typeLookup (.type T) "__getitem__" = pure (some (.builtin id))) (hs:Vr slice)
  (h:wpAny (model prog w) A (eval value env) (λo s₁=>wpAny (model prog w) A (eval slice env) (λi s₂=>s₂.TypeIs o T/\wpAny (model prog w) A (getItem o i) Q E s₂) E s₁) E s) :
  wpAny (model prog w) A (eval (.Subscript value slice pos) env) Q E s:=by
 refine Subscript_ (AAj h (λo s₁ h₁=>AAj h₁ (λi s₂ h₂=>?_) λ_ _ x=>x) λ_ _ x=>x);obtain⟨hT,h₂⟩:=h₂;unfold subscriptTail;refine AAA ?_;rw[getitemInPython_of_ne hT.not_modules];refine AAA (wpAny_specialOf hT hl ?_);have fin:wpAny (model prog w) A (subscripted slice false o i) (λr s₃=>wpAny (model prog w) A (letTemporaryGo value o r >>= λ_=>pure r) Q E s₃) E s₂:=by
  rw[hs o i];exact wpAny_operating (AAj h₂ (λr s₃ h₃=>AAA (wpAny_letTemporaryGo (AAB h₃))) λ_ _ x=>x)
 first
  |exact AAB (AAA fin)
  |exact AAA (AAB (AAA fin))
  |exact AAA fin
theorem MZ(I:Inv X w5 O H s)(g:DGet H a y o):s.TypeIs (.ref a) "dict" := by
 rcases g with ⟨kvs,k,e,_,_⟩|⟨kvs,k,b,e,_,_,_⟩
 ·obtain⟨_,_,vs,_,dd⟩:=MY I.hok e;exact dd.typeIs
 ·obtain⟨_,_,xs,_,dd⟩:=MX I.hok e;exact dd.typeIs
noncomputable def ZI(td ty:TE):TE:=λO H Q=>td O H λx H1=>ty O H1 λy H2=>∃a v,x=.ref a/\DGet H2 a y (some v)/\Q v H2
noncomputable def ZH(ty td:TE):TE:=λO H Q=>ty O H λy H1=>td O H1 λx H2=>∃a o,x=.ref a/\DGet H2 a y o/\Q (.bl o.isSome) H2
noncomputable def ZT(td ty tv:TE):TS:=λD O H=>tv O H λv H1=>td O H1 λx H2=>ty O H2 λy H3=>∃a H4,x=.ref a/\DPut H3 a y v H4/\D.nx O H4
section
variable{X:Cx}{o i value:Expr}{pos pos':Pos}{td ty tv:TE}
theorem U9(hu:X.A.units+1<cLine)(ho:PE X o td)(hi:PE X i ty)(hs:Vr i):PE X (.Subscript o i pos) (ZI td ty):=by
 intro w5 s O H Q I h;refine OI PySem.F.slot_dict_getitem.lookup hs (thn (ho w5 s O H _ I h) λu s1 ⟨x,H1,I1,rx,q1⟩=>thn (hi w5 s1 O H1 _ I1 q1) λiv s2 ⟨y,H2,I2,ry,a,v,ex,g,q2⟩=>?_);subst ex;obtain rfl:u=Value.ref a:=rx;exact⟨MZ I2 g,QJ hu I2 g ry λw' s3 I3 rw'=>⟨v,H2,I3,rw',q2⟩⟩
theorem X0(hu:X.A.units+1<cLine)(hi:PE X i ty)(ho:PE X o td):PC X .In i o (ZH ty td):=by
 intro w5 s O H Q I h;refine thn (hi w5 s O H _ I h) λiv s1 ⟨y,H1,I1,ry,q1⟩=>thn (ho w5 s1 O H1 _ I1 q1) λu s2 ⟨x,H2,I2,rx,a,ov,ex,g,q2⟩=>?_;subst ex;obtain rfl:u=Value.ref a:=rx;exact bL hu I2 g ry λs3 I3=>⟨.bl ov.isSome,H2,I3,rfl,q2⟩
theorem U3(hu:X.A.units+1<cLine)(ho:PE X o td)(hi:PE X i ty)(hv:PE X value tv)(hs:swapsWith value (some (.Subscript o i pos')) pos.line X.env=pure false):
  PS X (.Assign [.Subscript o i pos'] value pos) (ZT td ty tv):=by
 intro w5 s O H D I h;refine wpAny_Assign_Subscript (thn (hv w5 s O H _ I h) λr s1 ⟨v,H1,I1,rv,q1⟩=>thn (ho w5 s1 O H1 _ I1 q1) λu s2 ⟨x,H2,I2,rx,q2⟩=>thn (hi w5 s2 O H2 _ I2 q2) λiv s3 ⟨y,H3,I3,ry,a,H4,ex,g,q3⟩=>?_) hs;subst ex;obtain rfl:u=Value.ref a:=rx;exact QI hu I3 g ry rv λs4 I4=>⟨O,H4,I4,q3⟩
end
theorem TH(h:Heap)(hb:sysModules<h.objs.size):ObjOk P w H (h.push { cls:=.type "dict",data:=.dict #[] }) h.objs.size (.dK []):=
 ⟨AAk _,AAf.mpr (Ne.symm (AAe hb)),[],.nil,Heap.DictOf.new h⟩
noncomputable def XS:TE:=λ_ H Q=>∀p,H p=none->Q (.ref p) (upd H p (.dK []))
section
variable{X:Cx}{pos:Pos}
theorem Rw:PE X (.Dict [] [] pos) XS:=λw5 s O H Q I h=>
 wpAny_Dict_empty ⟨.ref s.heap.objs.size,_,I.laid (a:=s.heap.objs.size) (o:=.dK []) (t':=s.toks) (λ_ _ q=>AAC _ q) (AAE _) (TH s.heap I.big),rfl,h _ (I.hok.fresh (AAE _))⟩
end
structure M1(X:Cx)(o:Expr)(m:Str)(apos:Pos)(e:Expr)(cpos:Pos):Prop where
 base:attributeBase o m X.env (eval o X.env)=eval o X.env
 few:((backTo cpos (starEach [e] X.env)).all (λx=>!x.1)&&(backToKw cpos (keywordEach [] X.env)).all (λx=>x.1.isSome)
  && decide (([e]:List Expr).length+([]:List Keyword).length+(if ([]:List Keyword).isEmpty then 0 else 1)<30))=true
 line:(apos.endLine==cpos.line)=true
 trees:backTo cpos (starEach [e] X.env)=[(false,eval e X.env)]
def IsD(H:Hp)(a:Addr):Prop:=(∃kvs,Rd H a (.dK kvs))∨∃kvs,Rd H a (.dT kvs)
theorem YO(I:Inv X w5 O H s)(d:IsD H a):
  s.TypeIs (.ref a) "dict" /\ (∀b,Value.ref a=.ref b->∃ob,s.heap.get? b=some ob/\ob.dict=none)/\(a==sysModules)=false:=by
 rcases d with ⟨kvs,e⟩|⟨kvs,e⟩
 ·obtain⟨_,hd,vs,_,dd⟩:=MY I.hok e;refine⟨dd.typeIs,λb q=>?_,hd⟩;cases q;obtain⟨ob,_,_,h1,h2,_⟩:=dd;exact⟨ob,h1,h2.2.1⟩
 ·obtain⟨_,hd,xs,_,dd⟩:=MX I.hok e;refine⟨dd.typeIs,λb q=>?_,hd⟩;cases q;obtain⟨ob,_,_,h1,h2,_⟩:=dd;exact⟨ob,h1,h2.2.1⟩
noncomputable def XR(td ty:TE):TE:=λO H Q=>td O H λx H1=>∃a,x=.ref a/\IsD H1 a/\ty O H1 λy H2=>∃kvs k v,H2 a=some (.dK kvs)/\y=kV k/\FQ kvs k=some v/\Q v (upd H2 a (.dK (Hj kvs k)))
section
variable{X:Cx}{o e:Expr}{apos cpos:Pos}{td ty:TE}
theorem Rv(ho:PE X o td)(he:PE X e ty)(m:M1 X o "pop" apos e cpos):PE X (.Call (.Attribute o "pop" apos) [e] [] cpos) (XR td ty):=by
 intro w5 s O H Q I h;refine wpAny_Call_method m.base m.few m.line PySem.F.plainAttrs_dict PySem.F.slot_dict_pop PySem.F.type_dict_pop (thn (ho w5 s O H _ I h) λu s1 ⟨x,H1,I1,rx,a,ex,d,q1⟩=>?_);subst ex;obtain rfl:u=Value.ref a:=rx;obtain⟨t1,t2,_⟩:=YO I1 d;refine⟨t1,t2,?_⟩;rw[m.trees];refine Calls.callWith_builtin rfl (Calls.evalArgs_plain (Calls.spliced_cons (thn (he w5 s1 O H1 _ I1 q1) λiv s2 ⟨y,H2,I2,ry,kvs,k,v,ea,ey,l,q2⟩=>Calls.spliced_nil ?_)));subst ey;exact aF I2 ea ry l (.inl rfl) λw' s3 I3 rw'=>⟨v,_,I3,rw',q2⟩
end
end L2
namespace Att
open PySem PySem.W PySem.Calls PyProof.Rows
theorem Hq:∀(ns:List Int) (vs:List Value),WellAll P h vs (ns.map WData.int)->IntsAre vs ns:=by
 intro ns
 induction ns with
 |nil=>
  intro vs w;rw[List.map_nil] at w;cases w;exact .nil
 |cons n ns ih=>
  intro vs w;rw[AAW] at w;cases w with
  |cons a b=>
   cases a;exact .cons _ _ (ih _ b)
theorem Pg{l:OpenLaw}{n:Nat}(hn:l.most=some n){P:Params}{h:Heap}{args:List WData}{vals:List Value}
  (hpre:l.row.toRowW.claim.pre args=true) (hwl:WellAll P h vals args) :
  ∃a vs ns,vals=[Value.ref a]/\args=[WData.list (ns.map WData.int)]/\h.get? a=some { cls:=.type "list",data:=.seq vs.toArray }/\IntsAre vs ns/\ns.length<=n:=by
 have hsh:WShape.hasAll [] args [.list .int]=true:=(pre_splitW hpre).1;have hc:l.pre.holds [] { args:=args }=true:=(pre_splitW hpre).2;obtain⟨d,r,rfl,h1,h2⟩:=hasAllW_cons hsh;obtain rfl:=hasAllW_nil h2;obtain⟨xs,rfl,h3⟩:=hasW_list h1;obtain⟨ns,rfl⟩:=items_int h3;have hlen:ns.length<=n:=by
  unfold OpenLaw.pre at hc;have h4:(WTm.not (.lt (.lit (.int (n:Int))) (.len (.arg 0)))).holds [] { args:=[.list (ns.map .int)] }=true:=by
   have h4:=(holds_andW hc).1;rw[hn] at h4;exact h4
  have h5:=condW_of h4 (w_not (w_lt w_lit (w_len_list (w_arg rfl))));rw[AAF] at h5;refine Nat.le_of_not_lt λq=>?_;have q':(n:Int)<((ns.length:Nat):Int):=by omega
  first
   |(rw[AAO q'] at h5;exact absurd h5 (by decide))
   |(simp at h5;omega)
 cases hwl with
 |cons w1 w2=>
  cases w2;cases w1 with
  |list ho hall=>exact⟨_,_,ns,rfl,rfl,ho,Hq ns _ hall,hlen⟩
theorem Pl(l:OpenLaw)(args:List WData):l.row.toRowW.claim.post args (.bool true) args=true:=
 postW_of (r:=l.row.toRowW) (X:=(true==true))
  (show WShape.has [] (.bool true) .bool=true by first|rfl|decide|simp[WShape.has,WShape.arms,WShape.armsAll])
  (show (WTm.eq .res (.lit (.bool true))).value [] { args:=args,res:=some (.bool true),after:=args }=some (.bool (true==true)) from w_eq_bool (w_res rfl) w_lit) rfl
theorem Mo{l:OpenLaw}{n:Nat}{q:Program}{loose:List Str}{XP:(Str->Option Value)->Heap->Prop}{YP:World->Heap->Prop}{d:DefRec}
  (hn:l.most=some n) (hdf:d.params.defaults=[])
  (call:∀(w:World) (s₀ s₁:Shared) (mg mb:Str->Option Value) (fa:Addr) (o:Obj) (pm cd doc:Value) (a:Addr) (vs:List Value) (ns:List Int),
   Ground q loose [] XP w s₀ mg mb s₁.heap->YP w s₁.heap->
   s₁.heap.get? fa=some o->o.data=.func (docDef d.name d.params d.body d.scope pm cd doc)->s₁.heap.CodeRec cd d.name->mg d.name=some (.ref fa)->
   s₁.heap.get? a=some { cls:=.type "list",data:=.seq vs.toArray }->IntsAre vs ns->ns.length<=n->s₁.gens=#[]->
   codeAny (model l.prog w) callerA (.call (.ref fa) ⟨[.ref a],[]⟩) (λr s'=>r=.ok (.ret (.bool true))/\OldK s₁.heap s'.heap/\s'.os=s₁.os/\AllBare s'.gens) s₁) :
  WalkO q loose XP YP l.row.toRowW d [] (λf vs=>PySem.call f vs):=by
 intro w s₀ s₁ mg mb G Y_ fa o pm cd doc dV kV ho hd hcd hD hmg hg args vals as hpre hlay hrd hwl hlo;obtain rfl:dV=.none:=Dflts.none hD hdf;obtain rfl:kV=.none:=Dflts.noKw hD;obtain⟨a,vs,ns,rfl,rfl,hobj,hints,hlen⟩:=Pg hn hpre hwl;refine enter_call (codeAny_mono (call w s₀ s₁ mg mb fa o pm cd doc a vs ns G Y_ ho (fd_plain hd) hcd hmg hobj hints hlen hg) λr s' hq=>?_);obtain⟨rfl,h2,h3,h4⟩:=hq;exact⟨.inl ⟨.bool true,.bool true,[],rfl,λ_=>rfl,.bool true,Pl l _,λ_=>⟨List.Pairwise.nil,λ_ hm=>(nomatch hm)⟩⟩,h2,h3,h4⟩
end Att
namespace L2
open PySem PySem.Spec PyProof.Rows
theorem HA:∀{vs:List Value} {ns:List Int},IntsAre vs ns->Vals (ns.map V.int) vs
 |_,_,.nil=>.nil
 |_,_,.cons n t h=>.cons ⟨t,rfl⟩ (HA h)
def Vq(H:Hp):Prop:=∀b,H b=none∨∃o xs,H b=some (.frz o (.lst xs))
theorem SX{P:Program}{w:World}{K:PySem.W.Frag}{mg mb:Str->Option Value}{CX:CXT}{k:Nat}{fa a:Addr}{fd:FuncData}{x:Str}{sp:Sp}{s₁:Shared}{vs:List Value}{ns:List Int}
  (KX:K.In s₁.heap) (hns:s₁.heap.Ns mainGlobals mg) (hb:s₁.heap.Ns builtinsNs mb) (hbb:∀x:Str,x ≠ "__name__" -> mb x=bootBuiltins x) (hlim:s₁.heap.NoLimit) (hg:s₁.gens=#[])
  (ha:s₁.heap.get? a=some { cls:=.type "list",data:=.seq vs.toArray }) (hi:IntsAre vs ns) (hl:ns.length<=sizeLine) (hr:Room k callerA)
  (F:∀base:Heap,K.In base->base.Ns mainGlobals mg->FnOk P w K mg base CX k fa fd [x] sp) (hbind:∀(s:Shared) (u:Value),BindsTo s fd ⟨[u],[]⟩ [(x,u)])
  (hsp:∀H:Hp,Vq H->SqL K H a (ns.map V.int)->sp [.ref a] H (λv _=>v=.bl true) λ_ _ _=>False)
  (hCX:∀H e s',CX [] H s₁ (λ_ _ _=>False) e s'->False) :
  codeAny (model P w) callerA (.call (.ref fa) ⟨[.ref a],[]⟩) (λr s'=>r=.ok (.ret (.bool true))/\OldK s₁.heap s'.heap/\s'.os=s₁.os/\AllBare s'.gens) s₁:=by
 have rv:=HA hi;have lenV:=hi.length;have core:∀H:Hp,Vq H->SqL K H a (ns.map V.int)->HOk P w H s₁.heap->(∀b,H b≠none->b=a)->(H a≠none->K.lookup a=none)->
   codeAny (model P w) callerA (.call (.ref fa) ⟨[.ref a],[]⟩) (λr s'=>r=.ok (.ret (.bool true))/\OldK s₁.heap s'.heap/\s'.os=s₁.os/\AllBare s'.gens) s₁:=by
  intro H hO hS hok hA hK;have base_of:∀{b:Addr} {o:Obj},s₁.heap.get? b=some o->H b=none->(LH s₁.heap H).get? b=some o:=λe n=>So e n;have noA:∀{b:Addr} {o:Obj} {es:Array DictEntry} {ep:Nat},s₁.heap.get? b=some o->o.data=.dict es ep->H b=none:=λ{b o es ep} e d=>by
   cases q:H b with
   |none=>rfl
   |some u=>
    have e':b=a:=hA b (by rw[q];simp);subst e';rw[ha] at e;cases e;have d':Data.seq vs.toArray _=Data.dict es ep:=d;cases d'
  have nsK:∀{b:Addr} {m:Str->Option Value},s₁.heap.Ns b m->(LH s₁.heap H).Ns b m:=λ{b m} ⟨o,es,ep,e,d,r⟩=>⟨o,es,ep,base_of e (noA e d),d,r⟩;have hKb:K.In (LH s₁.heap H):=λb o e=>base_of (KX b o e) (by
   cases q:H b with
   |none=>rfl
   |some u=>
    have e':b=a:=hA b (by rw[q];simp);subst e';rw[hK (by rw[q];simp)] at e;cases e)
  have hM:Mod K mg (LH s₁.heap H):=⟨hKb,nsK hns,⟨mb,nsK hb,hbb⟩,let ⟨mc,h1,h2⟩:=hlim;⟨mc,nsK h1,h2⟩⟩;have e0:Vs P w K mg (LH s₁.heap H) callerA [] s₁ H:=⟨rfl,hM,λb o e=>VL e,Nat.le_of_eq (P9 _ _),trivial,λb hb=>absurd (show b∈([]:List Addr) from hb) (by simp),hok,.of_eq hg⟩;refine codeAny_mono ((F _ hKb (nsK hns)).run callerA [] s₁ H ⟨[.ref a],[]⟩ [.ref a] [.ref a] _ _ hr e0 (hbind s₁ (.ref a)) (.cons rfl .nil) (hsp H hO hS)) λr s' h=>?_;cases r with
  |error e=>exact(hCX H e s' h).elim
  |ok fl=>
   cases fl with
   |next=>exact False.elim h
   |brk=>exact False.elim h
   |cont=>exact False.elim h
   |ret u=>
    obtain⟨v,H',os,bare,un,hok',r',q⟩:=h;have q':v=.bl true:=q;subst q';obtain rfl:u=Value.bool true:=r';refine⟨rfl,OldK.of_keep λb o e=>?_,os,bare⟩;cases q:H b with
    |none=>exact un.keep b o e q (by intro z;exact absurd (show b∈([]:List Addr) from z) (by simp)) (by simp)
    |some u=>
     rcases hO b with z|⟨ob,xs,z⟩
     ·rw[q] at z;cases z
     ·have z2:=un.frzs b ob _ z;obtain⟨e1,_⟩:=hok b _ z;obtain⟨e2,_⟩:=hok' b _ z2;rw[e] at e1;cases e1;exact e2
 cases hk:K.lookup a with
 |some o=>
  have e:=KX a o hk;rw[ha] at e;cases e;refine core (λ_=>none) (λ_=>.inl rfl) (.inr ⟨_,vs.toArray,_,hk,rfl,rfl,rfl,by rw[List.size_toArray,lenV];exact hl,by simpa using rv⟩) (λb u z=>by have z':(none:Option HO)=some u:=z;cases z') (λb z=>absurd rfl z) λz=>absurd rfl z
 |none=>
  refine core (λb=>if b=a then some (.frz { cls:=.type "list",data:=.seq vs.toArray } (.lst (ns.map V.int))) else none) (λb=>?_) (.inl (.inr ⟨{ cls:=.type "list",data:=.seq vs.toArray },if_pos rfl⟩)) (λb u z=>?_) (λb z=>?_) λ_=>hk
  ·by_cases hb:b=a
   ·exact .inr ⟨_,_,if_pos hb⟩
   ·exact .inl (if_neg hb)
  ·by_cases hb:b=a
   ·have z':=(if_pos hb).symm.trans z;cases z';subst hb;exact⟨ha,by rw[AAF];exact hl,vs,_,rv,ha⟩
   ·have z':=(if_neg hb).symm.trans z;cases z'
  ·by_cases hb:b=a
   ·exact hb
   ·exact absurd (if_neg hb) z
theorem UZ{l:PySem.W.OpenLaw}{n k:Nat}{q:Program}{loose:List Str}{XP:(Str->Option Value)->Heap->Prop}{YP:World->Heap->Prop}{d:DefRec}{K:Params->PySem.W.Frag}{CX:World->CXT}{sp:World->Sp}{x:Str}
  (hn:l.most=some n) (hn2:n<=sizeLine) (hdf:d.params.defaults=[]) (hr:Room k callerA)
  (hY:∀(w:World) (h:Heap),YP w h->(K w.params).In h)
  (F:∀(w:World) (mg:Str->Option Value) (fa:Addr) (h:Heap),(K w.params).In h->h.Ns mainGlobals mg->mg d.name=some (.ref fa)->
   ∃fd:FuncData,(∀(s:Shared) (u:Value),BindsTo s fd ⟨[u],[]⟩ [(x,u)]) /\
    ∀base:Heap,(K w.params).In base->base.Ns mainGlobals mg->FnOk l.prog w (K w.params) mg base (CX w) k fa fd [x] (sp w))
  (hsp:∀(w:World) (H:Hp) (a:Addr) (ns:List Int),ns.length<=n->Vq H->SqL (K w.params) H a (ns.map V.int)->sp w [.ref a] H (λv _=>v=.bl true) λ_ _ _=>False)
  (hCX:∀(w:World) (H:Hp) (s:Shared) (e:Value) (s':Shared),CX w [] H s (λ_ _ _=>False) e s'->False) :
  PySem.W.WalkO q loose XP YP l.row.toRowW d [] (λf vs=>PySem.call f vs):=by
 refine Att.Mo hn hdf λw s₀ s₁ mg mb fa o pm cd doc a vs ns G Y_ ho hd hcd hmg hobj hints hlen hg=>?_;have KX:=hY w _ Y_;obtain⟨fd,hb,hF⟩:=F w mg fa _ KX G.T.g hmg;exact SX KX G.T.g G.T.b G.T.builtins G.T.nolimit hg hobj hints (AAt hlen hn2) hr hF hb (λH hO hS=>hsp w H a ns hlen hO hS) λH e s'=>hCX w H s₁ e s'
noncomputable def Gr(s:Stmt):Arguments:=match s with
 | .FunctionDef _ a _ _ _ _ _ _ _ _=>a
 |_=>{ posonlyargs:=[],args:=[],vararg:=none,kwonlyargs:=[],kw_defaults:=[],kwarg:=none,defaults:=[] }
noncomputable def Ch(s:Stmt):List Stmt:=match s with
 | .FunctionDef _ _ b _ _ _ _ _ _ _=>b
 |_=>[]
noncomputable def AQ(s:Stmt):Scope:=match s with
 | .FunctionDef _ _ _ _ _ _ sc _ _ _=>sc
 |_=>{ kind:=.function,names:=[],isGenerator:=false,isCoroutine:=false }
noncomputable abbrev CX0:CXT:=λ_ _ _ _ _ _=>False
noncomputable abbrev E0:XK:=λ_ _ _=>False
theorem Zl:Nw CX0 X E0:=λ_ _ _ _ _ _ _ h=>h.elim
structure Fun(K:PySem.W.Frag)(x qual:Str)(st:Stmt)(f:Addr)(fd:FuncData):Prop where
 ex:∃(oc:Value) (od:Option Addr) (kV doc pm:Value) (an:Option Addr) (cdv ct:Value) (osl:Array (Option Value)),
  fd=PySem.W.fnOf x qual (Gr st) (Ch st) (AQ st) .none kV doc pm an cdv ct/\K.lookup f=some ⟨oc,od,.func fd,osl⟩/\PySem.W.codeIn K cdv qual=true
 kp:PySem.W.keepIn K (.ref f)=true
section
variable{P:Program}{w:World}{K:PySem.W.Frag}{mg:Str->Option Value}{base:Heap}
theorem Fun.ok{x qual:Str}{st:Stmt}{f:Addr}{fd:FuncData}{N ps:List Str}{k:Nat}{sp:Sp}(F:Fun K x qual st f fd)(S:Af N ps (AQ st))(len:∀vs H Q E,sp vs H Q E->vs.length=ps.length)
  (hbody:∀(cdv:Value) (A:Around) (outer:List Env) (s:Shared) (H:Hp) (vs:List V) (Q:VK) (E:XK),Room k (A.deeper (envOfC qual (AQ st) s.heap.objs.size f cdv))->sp vs H Q E->
   ∃t,PSs (Gu CX0 P w K mg base N qual (AQ st) f cdv A outer s H E).nox (Ch st) t/\t { nx:=λ_ H'=>Q .non H',rt:=Q } (start N vs) H):FnOk P w K mg base CX0 (k+1) f fd ps sp:=by
 obtain⟨oc,od,kV,doc,pm,an,cdv,ct,osl,rfl,lk,hcd⟩:=F.ex;refine aB lk hcd S len λA outer s H vs Q E hr hsp=>?_;obtain⟨t,h,q⟩:=hbody cdv A outer s H vs Q E hr hsp;exact⟨t,h.nox,q⟩
theorem Fun.binds{x qual:Str}{st:Stmt}{f:Addr}{fd:FuncData}{ps:List Str}(F:Fun K x qual st f fd)
  (h:∀(kV doc pm:Value) (an:Option Addr) (cdv ct:Value) (us:List Value),us.length=ps.length->bindArgs (PySem.W.fnOf x qual (Gr st) (Ch st) (AQ st) .none kV doc pm an cdv ct) ⟨us,[]⟩=pure (ps.zip us)):Binds K fd ps []:=by
 obtain⟨oc,od,kV,doc,pm,an,cdv,ct,osl,rfl,lk,hcd⟩:=F.ex;exact .all (h kV doc pm an cdv ct)
theorem YY{x qual:Str}{st:Stmt}{f:Addr}{oc:Value}{od an:Option Addr}{osl:Array (Option Value)}{kV doc pm cdv ct:Value}(l:K.lookup f=some ⟨oc,od,.func (PySem.W.fnOf x qual (Gr st) (Ch st) (AQ st) .none kV doc pm an cdv ct),osl⟩)
  (c:PySem.W.codeIn K cdv qual=true) (k:PySem.W.keepIn K (.ref f)=true):Fun K x qual st f (PySem.W.fnOf x qual (Gr st) (Ch st) (AQ st) .none kV doc pm an cdv ct):=⟨⟨oc,od,kV,doc,pm,an,cdv,ct,osl,rfl,l,c⟩,k⟩
end
theorem Sm(hr:Room k A):A.units+1<cLine:=AAs (Nat.add_le_add_left (by decide:1<=64) _) hr.units
noncomputable def Fo(env:Env):List (Str×NameKind)->List (Str×Addr)->List (Str×Addr)
 |[],cs=>cs
 |(n,k)::r,cs=>Fo env r (if k==.free then (match env.cells.lookup n with|some c=>(n,c)::cs|none=>cs) else cs)
theorem D2:∀(l:List (Str×NameKind)) (cs:List (Str×Addr)),(∀x∈l,x.2=.free->∃c,env.cells.lookup x.1=some c)->
  (forIn l cs λ(x:Str×NameKind) (r:List (Str×Addr))=>(if (x.2==NameKind.free)=true then (do let a ←cellOf env x.1;pure (ForInStep.yield ((x.1,a)::r))) else pure (ForInStep.yield r):Sem (ForInStep (List (Str×Addr)))))=pure (Fo env l cs)
 |[],cs,_=>by rw[List.forIn_nil];rfl
 |(n,k)::r,cs,h=>by
  have hr:∀x∈r,x.2=.free->∃c,env.cells.lookup x.1=some c:=λx hx=>h x (AAQ _ hx);rw[List.forIn_cons];by_cases hk:k=.free
  ·subst hk;obtain⟨c,hc⟩:=h (n,.free) AAP rfl;have e:cellOf env n=pure c:=by unfold cellOf;rw[hc]
   dsimp only;rw[if_pos (by decide),e,pure_bind,pure_bind];dsimp only;rw[D2 r _ hr];show _=pure (Fo env r (if (NameKind.free==NameKind.free)=true then (match env.cells.lookup n with|some c=>(n,c)::cs|none=>cs) else cs));rw[if_pos (by decide),hc]
  ·have hb:¬(k==NameKind.free)=true:=by simpa using hk
   dsimp only;rw[if_neg hb,pure_bind];dsimp only;rw[D2 r _ hr];show _=pure (Fo env r (if (k==NameKind.free)=true then (match env.cells.lookup n with|some c=>(n,c)::cs|none=>cs) else cs));rw[if_neg hb]
theorem Ew(h:∀x∈scope.names,x.2=.free->∃c,env.cells.lookup x.1=some c):closureFor scope env=pure (Fo env scope.names []):=by
 have e:=D2 (env:=env) scope.names [] h;unfold closureFor;dsimp only;rw[←bind_pure (pure (Fo env scope.names [])),←e]
theorem Fm:∀(l:List (Str×NameKind)) (cs:List (Str×Addr)),(∀x c,cs.lookup x=some c->env.cells.lookup x=some c)->∀x c,(Fo env l cs).lookup x=some c->env.cells.lookup x=some c
 |[],cs,h=>h
 |(n,k)::r,cs,h=>by
  refine Fm r _ ?_;intro x c;by_cases hk:(k==NameKind.free)=true
  ·rw[if_pos hk];cases hl:env.cells.lookup n with
   |none=>exact h x c
   |some d=>
    intro q;by_cases hx:x=n
    ·subst hx;rw[List.lookup_cons_self] at q;rw[hl];exact q
    ·have hb:(x==n)=false:=AAf.mpr hx;simp only[List.lookup_cons,hb] at q;exact h x c q
  ·rw[if_neg hk];exact h x c
theorem JR:∀(l:List (Str×NameKind)) (cs:List (Str×Addr)) (x:Str),(cs.lookup x).isSome=true->((Fo env l cs).lookup x).isSome=true
 |[],cs,x,h=>h
 |(n,k)::r,cs,x,h=>by
  refine JR r _ x ?_;by_cases hk:(k==NameKind.free)=true
  ·rw[if_pos hk];cases hl:env.cells.lookup n with
   |none=>exact h
   |some d=>
    by_cases hx:(x==n)=true
    ·simp only[List.lookup_cons,hx,Option.isSome_some]
    ·have hb:(x==n)=false:=by simpa using hx
     simp only[List.lookup_cons,hb];exact h
  ·rw[if_neg hk];exact h
theorem Me:∀(l:List (Str×NameKind)) (cs:List (Str×Addr)) (x:Str) (c:Addr),(x,NameKind.free)∈l->env.cells.lookup x=some c->((Fo env l cs).lookup x).isSome=true
 |[],cs,x,c,h,_=>by simp at h
 |(n,k)::r,cs,x,c,h,hc=>by
  rcases AAI.mp h with e|e
  ·obtain⟨rfl,rfl⟩:=Prod.mk.inj e;refine JR r _ _ ?_;rw[if_pos (by decide),hc];simp only[List.lookup_cons_self,Option.isSome_some]
  ·exact Me r _ x c e hc
theorem KM(h:(x,NameKind.free)∈l)(hc:env.cells.lookup x=some c):(Fo env l []).lookup x=some c:=by
 obtain⟨d,hd⟩:=Option.isSome_iff_exists.mp (Me l [] x c h hc);have:=Fm l [] (λ_ _ z=>by simp at z) x d hd;rw[hc] at this;cases this;exact hd
noncomputable def C8:List (Str×NameKind)->List Str
 |[]=>[]
 |(n,.free)::r=>n::C8 r
 |_::r=>C8 r
theorem GF:∀{l:List (Str×NameKind)},x∈C8 l->(x,NameKind.free)∈l
 |[],h=>by simp[C8] at h
 |(n,k)::r,h=>by
  cases k<;>first
   |(rcases AAI.mp (show x∈n::C8 r from h) with e|e;{subst e;exact AAP};{exact AAQ _ (GF e)})
   |exact AAQ _ (GF (show x∈C8 r from h))
theorem KB:∀{l:List (Str×NameKind)},(x,NameKind.free)∈l->x∈C8 l
 |[],h=>by simp at h
 |(n,k)::r,h=>by
  rcases AAI.mp h with e|e
  ·cases e;exact AAP
  ·have ih:=KB e;cases k<;>first
    |exact AAQ _ ih
    |exact ih
theorem Fg(f:Str×NameKind->Str×NameKind)(hf:∀p,f p=p∨p.2=.free/\f p=(p.1,.cell)):∀(l:List (Str×NameKind)) (k:NameKind),(l.map f).lookup x=some k->l.lookup x=some k∨l.lookup x=some .free/\k=.cell
 |[],_,h=>nomatch h
 |(y,j)::l,k,h=>by
  have rest:=Fg (x:=x) f hf l k;rw[AAW] at h;rcases hf (y,j) with e|⟨ej,e⟩<;>rw[e] at h<;>cases he:x==y<;>simp only[List.lookup_cons,he] at h ⊢
  ·exact rest h
  ·exact .inl h
  ·exact rest h
  ·cases h;cases (show j=NameKind.free from ej);exact .inr ⟨rfl,rfl⟩
theorem EE(h:(relabel scope env).names.lookup x=some k):scope.names.lookup x=some k∨scope.names.lookup x=some .free/\k=.cell:=by
 unfold relabel at h;refine Fg _ (λp=>?_) _ _ h;obtain⟨n,j⟩:=p;dsimp only;split
 ·rename_i hc;refine .inr ⟨?_,rfl⟩;simp only[Bool.and_eq_true,beq_iff_eq] at hc;exact hc.1.1
 ·exact .inl rfl
noncomputable def Jw(ix:List Nat)(O:St):St:=ix.map λj=>(O[j]?).getD none
noncomputable def cxB(X:Cx)(scope:Scope)(tgs:List Str)(fp:List Addr)(C:Addr)(s:Shared)(H:Hp):Cx:=
 { X with N:=tgs++C8 scope.names,s₀:=s,H₀:=H,env:=compEnvC scope (Fo X.env scope.names []) C X.env,outer:=X.stack,ex:=fp,fn:=λ_=>false,pn:=[],xe:=λ_ _=>False }
noncomputable def Yy{α:Type}(P:α->Prop):List α->Prop
 |[]=>True
 |x::r=>P x/\Yy P r
theorem JX:∀{l:List α},Yy P l->∀x∈l,P x
 |[],_,_,h=>by simp at h
 |_::_,h,x,hx=>by
  rcases AAI.mp hx with e|e
  ·subst e;exact h.1
  ·exact JX h.2 x e
structure BScope(X:Cx)(scope:Scope)(tgs:List Str)(ix:List Nat):Prop where
 kind:scope.kind=.function
 nocell:∀y∈scope.names,y.2≠.cell
 loc:∀y∈scope.names,y.2=.local->scope.names.lookup y.1=some .local
 fre:Yy (λx=>X.env.kindOf x=some .cell∨X.env.kindOf x=some .free) (C8 scope.names)
 ixs:(C8 scope.names).map some=ix.map λj=>X.N[j]?
 ndl:∀x∈C8 scope.names,scope.names.lookup x=some .free
section
variable{X:Cx}{scope:Scope}{tgs:List Str}{ix:List Nat}
theorem BScope.cells(S:BScope X scope tgs ix)(ok:X.Ok):∀x∈scope.names,x.2=.free->∃c,X.env.cells.lookup x.1=some c:=λx hx hk=>by
 obtain⟨n,k⟩:=x;subst hk;exact ok.has n (JX S.fre n (KB hx))
theorem Inv.cellLt(I:Inv X w5 O H s)(e:X.env.cells.lookup x=some c):c<s.heap.objs.size:=by
 obtain⟨v,q⟩:=I.cell x c e;exact q.lt
theorem Inv.track(I:Inv X w5 O H s)(f:G8 X w5 H D)(new:ObjOk X.prog X.w (upd H D o) s.heap D o):Inv X w5 O (upd H D o) s:=by
 obtain⟨f0,f1,f2,f3,f4,f5⟩:=f;have nD:∀b u,H b=some u->b≠D:=λb u e z=>by rw[z,f0] at e;cases e
 have:=I.step (h':=s.heap) (H':=upd H D o) (g':=s.gens) (t':=s.toks) (d':=s.drawn) (ch:=[D]) (λb hb=>?_) (λb u _ _ _ e _=>e) (λb u _ _ _ e _=>⟨u.slots,e⟩) (λb u hb e n=>?_) (λb u _ e=>⟨u,e⟩)
  (λb xs e=>?_) (λb u v e=>?_) (λb ps e=>?_) (λm hm=>hm) (λb u e=>?_) I.bare
 ·exact this
 ·have e:b=D:=by simpa using hb
  subst e;exact⟨f3,f1,f4,f5⟩
 ·rw[upd_ne (λz=>hb (by simp[z]))];exact n
 ·rw[upd_ne (nD b _ e)];exact e
 ·rw[upd_ne (nD b _ e)];exact e
 ·exact⟨#[],by rw[upd_ne (nD b _ e),e];simp⟩
 ·by_cases hb:b=D
  ·subst hb;rw[Bw] at e;cases e;exact new
  ·rw[upd_ne hb] at e;exact(I.hok b u e).stay (λ_ _ _ q=>q) (λc q=>by rw[upd_ne (nD c _ q)];exact q) λc xs q=>by rw[upd_ne (nD c _ q)];exact q
theorem TU(S:BScope X scope tgs ix)(I:Inv X w5 O H s)(hf:∀b∈fp,G8 X w5 H b)(hfo:∀b∈fp,b<s.heap.objs.size)(hC:s.heap.objs.size<=C):
  (cxB X scope tgs fp C s H).Ok:=by
 have sub:∀x c,(Fo X.env scope.names []).lookup x=some c->X.env.cells.lookup x=some c:=Fm scope.names [] (λ_ _ z=>by simp at z);refine⟨I.ok.mod,S.kind,I.ok.glob,I.ok.blt,hC,λx y c h1 h2=>I.ok.inj x y c (sub x c h1) (sub y c h2),λx hx=>?_,λx c h=>absurd h (by simp[cxB]),I.ok.hd,I.ok.frames,.inl rfl,λb hb=>⟨?_,λx c e=>?_⟩,λb o e=>I.bs b o e,
  AAt I.ok.bsz I.sz,λb o e hb=>?_,λb hb hz=>?_,I.stack,I.stkFree⟩
 ·have hx':(relabel scope X.env).names.lookup x=some .cell∨(relabel scope X.env).names.lookup x=some .free:=hx;have hm:(x,NameKind.free)∈scope.names:=by
   rcases hx' with h|h
   ·rcases EE h with q|q
    ·exact absurd rfl (S.nocell _ (PySem.mem_of_lookup q))
    ·exact PySem.mem_of_lookup q.1
   ·rcases EE h with q|q
    ·exact PySem.mem_of_lookup q
    ·exact absurd q.2 (by decide)
  obtain⟨c,hc⟩:=S.cells I.ok _ hm rfl;exact⟨c,KM hm hc⟩
 ·exact λz=>absurd (hfo b hb) (by rw[z];exact Nat.not_lt.mpr hC)
 ·exact(hf b hb).2.2.2.2.1 x c (sub x c e)
 ·obtain⟨f0,f1,f2,f3,f4,f5⟩:=hf b hb;rcases f3 with z|z
  ·exact I.ok.noex b o e z
  ·exact absurd (Heap.lt_size (I.ok.bs b o e).1) (Nat.not_lt.mpr z)
 ·obtain⟨f0,f1,f2,f3,f4,f5⟩:=hf b hb;rcases AAI.mp (I.stkSub b hz) with z|z
  ·exact f1 z
  ·exact f2 z
end
section
variable{X:Cx}{scope:Scope}{tgs:List Str}{ix:List Nat}
noncomputable abbrev DS(tgs:List Str)(ix:List Nat)(O:St):St:=List.replicate tgs.length none++Jw ix O
theorem IS(h:(DS tgs ix O)[k]?=some (some v)):tgs.length<=k/\∃j,ix[k-tgs.length]?=some j/\O[j]?=some (some v):=by
 have hk:tgs.length<=k:=by
  rcases Nat.lt_or_ge k tgs.length with z|z
  ·rw[AAS (by simpa using z),List.getElem?_replicate,if_pos z] at h;cases h
  ·exact z
 refine⟨hk,?_⟩;rw[AAR (by simpa using hk),AAn] at h;unfold Jw at h;rw[AAV] at h;cases e:ix[k-tgs.length]? with
 |none=>rw[e] at h;cases h
 |some j=>
  rw[e] at h;refine⟨j,rfl,?_⟩;have h':(O[j]?).getD none=some v:=Option.some.inj h;cases q:O[j]? with
  |none=>rw[q] at h';cases h'
  |some o=>
   rw[q] at h';have h'':o=some v:=h';rw[h'']
theorem Nb(S:BScope X scope tgs ix)(I:Inv X w5 O H s)(hf:∀b∈fp,G8 X w5 H b)(hfo:∀b∈fp,b<s.heap.objs.size)
  (hC:s.heap.objs.size<=C) (hD:s.heap.objs.size<=D) (hDC:D≠C) {m:Str->Option Value} (hn:s4.heap.Ns C m) (hk:∀b u,s.heap.get? b=some u->s4.heap.get? b=some u) (hos:s4.os=s.os) (hg:s4.gens=s.gens)
  (hDo:s4.heap.get? D=some o) (hcell:∀v,o.data≠.cell v):Inv (cxB X scope tgs fp C s H) [(D,o)] (DS tgs ix O) H s4:=by
 have ok:=TU (tgs:=tgs) (ix:=ix) (C:=C) S I hf hfo hC;have sub:∀x c,(Fo X.env scope.names []).lookup x=some c->X.env.cells.lookup x=some c:=Fm scope.names [] (λ_ _ z=>by simp at z);refine⟨ok,hos,by rw[hg];exact I.bare,Un.kept hk,⟨m,hn,λk x v h1 h2 h3=>?_⟩,λx c e=>?_,I.hok.fresh hC,λx c e=>I.freeC x c (sub x c e),λp hp=>?_,I.hok.kept hk,?_⟩
 ·obtain⟨hkl,j,hj,hσ⟩:=IS h2;have h1':(C8 scope.names)[k-tgs.length]?=some x:=by
   have:(tgs++C8 scope.names)[k]?=some x:=h1
   rwa [AAR hkl] at this
  have hx:x∈C8 scope.names:=AAU h1';have hXN:X.N[j]?=some x:=by
   have e:=congrArg (λl=>l[k-tgs.length]?) S.ixs;simp only[AAV,h1',hj,Option.map_some] at e;exact(Option.some.inj e).symm
  have kx:=JX S.fre x hx;obtain⟨m0,hn0,hl⟩:=I.loc;obtain⟨u,r,l⟩:=hl j x v hXN hσ (by rcases kx with z|z;exact .inr (.inl z);exact .inr (.inr z));refine⟨u,r,?_⟩;rcases l with ⟨z,_⟩|⟨_,c,hc,q⟩
  ·rcases kx with y|y<;>rw[z] at y<;>cases y
  ·refine .inr ⟨?_,c,KM (GF hx) hc,?_⟩
   ·have h3':(relabel scope X.env).names.lookup x=some .local∨(relabel scope X.env).names.lookup x=some .cell∨(relabel scope X.env).names.lookup x=some .free:=h3;rcases h3' with z|z|z
    ·exfalso;rcases EE z with w|w
     ·have lk:scope.names.lookup x=some .local:=w;have:=S.ndl x hx;rw[lk] at this;cases this
     ·exact absurd w.2 (by decide)
    ·exact .inl z
    ·exact .inr z
   ·obtain⟨oc,hoc,hd⟩:=q;exact⟨oc,hk c oc hoc,hd⟩
 ·obtain⟨v,oc,hoc,hd⟩:=I.cell x c (sub x c e);exact⟨v,oc,hk c oc hoc,hd⟩
 ·have e:p=(D,o):=by simpa[cxB] using hp
  subst e;refine⟨hDo,I.hok.fresh hD,hDC,λhz=>?_,hcell⟩;have hz':D∈frs X.stack:=hz;rcases AAI.mp (I.stkSub D hz') with z|z
  ·exact absurd I.lt (by rw[←z];exact Nat.not_lt.mpr hD)
  ·exact I.nofs hD z
 ·show (List.replicate tgs.length none++Jw ix O).length=(tgs++C8 scope.names).length;have e:=congrArg List.length S.ixs;simp only[AAF] at e;rw[AAG,AAG,AAn,e];unfold Jw;rw[AAF]
def GK(n:Nat)(g:TG):Prop:=∀x O H Q,g x O H Q->g x O H λu6 H2=>Q u6 H2/\u6.length=O.length/\u6.drop n=O.drop n
theorem VW(h:i<n):GK n (Hi i):=λx O H Q q=>⟨q,by simp,by rw[List.drop_set_of_lt h]⟩
def aS(tgs:List Str)(ix:List Nat)(g:TG)(tc:TT)(te:TE)(O:St)(Q:VK)(J:It)(H1:Hp):Prop:=∃W:Nat->Nat->List V->Hp->Prop,(∃m,W 0 m [] H1)/\∀i m ys H,W i m ys H->
 (J.stop i H/\ys.length<=sizeLine/\∀p,H p=none->Q (.ref p) (upd H p (.lst ys))) ∨
 (J.go i H/\ys.length<sizeLine/\∃N:List V->Hp->Prop,(∀ys' H',N ys' H'->∃m',m'<m/\W (i+1) m' ys' H')/\∀x H',J.yld i H x H'->g x (DS tgs ix O) H' λu6 H2=>tc u6 H2 λb H3=>
  if b=true then te u6 H3 λv H4=>N (ys++[v]) H4 else N ys H3)
noncomputable def RB(tgs:List Str)(ix:List Nat)(wi:TI)(g:TG)(tc:TT)(te:TE):TE:=λO H Q=>wi O H λJ H1=>aS tgs ix g tc te O Q J H1
theorem Nl(h:wpAny M A t Q (λ_ _=>False) s)(hQ:∀a s,Q a s->Q' a s):wpAny M A t Q' E s:=AAj h hQ λ_ _ x=>x.elim
end
section
variable{X:Cx}{scope:Scope}{tgs:List Str}{ix:List Nat}
noncomputable abbrev K6(its:List Value)(k:Nat):Obj:={ cls:=.type "list",data:=.seq its.toArray k }
theorem Vx(I:Inv (cxB X scope tgs fp C s0 H0) w5 v7 H s)(l6:v7.length=(DS tgs ix O).length)
  (d6:v7.drop tgs.length=(DS tgs ix O).drop tgs.length):Inv (cxB X scope tgs fp C s0 H0) w5 (DS tgs ix O) H s:=by
 refine I.weak l6.symm λk v e=>?_;obtain⟨hk,_⟩:=IS e;have e1:v7[k]?=(v7.drop tgs.length)[k-tgs.length]?:=by rw[List.getElem?_drop];congr 1;omega
 have e2:(DS tgs ix O)[k]?=((DS tgs ix O).drop tgs.length)[k-tgs.length]?:=by rw[List.getElem?_drop];congr 1;omega
 rw[e1,d6,←e2];exact e
end
section
variable{X:Cx}
theorem Ml:Bo X (.builtin "isinstance") (λxs H Q=>∃x T t b,xs=[x,.ty T]/\G7 X.K H x t/\PySem.W.kitOne X.K t (.type T)=some b/\Q (.bl b) H):=by
 intro w5 s O H xs us Q I r h;obtain⟨x,T,t,b,rfl,ty,e,q⟩:=h;obtain⟨u,w',rfl,rx,ry⟩:=Qy r;cases ry;exact P6 I rx ty e λtk=>⟨.bl b,H,I.tok tk,rfl,q⟩
end
theorem NG(d:α)(bs:List α):(List.range bs.length).map (λi=>bs.getD i d)=bs:=by
 apply List.ext_getElem
 ·simp
 ·intro i h1 h2;simp[List.getD,h2]
theorem Pj(bs:List Bool):((List.range bs.length).all λi=>bs.getD i true)=bs.all id:=by
 conv=>rhs;rw[←NG true bs]
 rw[List.all_map];rfl
section
variable{X:Cx}
theorem Ln{P:Program}{w:World}{bs:List Bool}{its:List Value}(r:Vals (bs.map V.bl) its):TruthOf P w A (λi v=>its.toArray[i]?=some v) (λi=>bs.getD i true):=by
 intro i v s Q E hP hQ;have hi:its[i]?=some v:=by simpa using hP
 have hlt:i<its.length:=(AAT.mp hi).1;have hl:=r.length;rw[AAF] at hl;have hb:(bs.map V.bl)[i]?=some (V.bl (bs.getD i true)):=by
  rw[AAV,AAu (show i<bs.length by omega)];simp[List.getD,show i<bs.length by omega]
 obtain⟨u,hu,ru⟩:=r.get hb;rw[hi] at hu;cases hu;cases ru;exact wpAny_truthy_bool hQ
theorem Nq(hc:X.calm=true){w5:List (Addr×Obj)}{s:Shared}{O:St}{H:Hp}{a:Addr}{bs:List Bool}{Q:VK}{c:Bool}{f:(Nat->Bool)->List Nat->Bool}(I:Inv X w5 O H s)(ha:SqL X.K H a (bs.map V.bl))(hf:f (λi=>bs.getD i true) (List.range bs.length)=c)(q:Q (.bl c) H):
  wpAny (model X.prog X.w) X.A.in1 (pyIter (.ref a)) (λit s₂=>∃I fp wr n P St tr,it=.ref I/\Walks X.prog X.w X.A.in1 I fp wr n P St/\St 0 s₂.heap/\TruthOf X.prog X.w X.A.in1 P tr /\
   ∀h' tk,(∀b o,b∉wr->s₂.heap.get? b=some o->h'.get? b=some o)->EP X w5 O Q (.bool (f tr (List.range n))) { s₂ with heap:=h',toks:=tk }) X.xe s:=by
 obtain⟨its,r,p,hz⟩:=I.list ha;refine wpAny_pyIter_list p.isList ?_;have hlt:a<s.heap.objs.size:=by
  obtain⟨o,n,e,_⟩:=p;exact Heap.lt_size e
 have I1:Inv X w5 O H { s with heap:=s.heap.push { cls:=.type "list_iterator",data:=.fields #[.ref a,.int 0 0] } }:=I.kept (t':=s.toks) λb o e=>AAC _ e;obtain⟨f0,f1,f2,f3,f4,f5⟩:=I.fpOk (H':=H) (AAE _) (I.hok.fresh (AAE _));refine⟨s.heap.objs.size,_,_,_,_,_,_,rfl,Walks.list (prog:=X.prog) (w:=X.w) (A:=X.A.in1) (show X.A.handled=none from I.ok.hd hc) s.heap.objs.size a (AAe hlt) its.toArray,⟨⟨_,AAD _ rfl,rfl,rfl⟩,p.isList.push _⟩,Ln r,λh' tk kk=>?_⟩;have hl:=r.length;rw[AAF] at hl;rw[List.size_toArray,←hl,hf];exact⟨.bl c,H,I1.turned (t':=tk) (λb o hb e=>kk b o (by simpa using hb) e) f0 f1 f3 f4 f5,rfl,q⟩
theorem QV(hc:X.calm=true):Bo X (.builtin "all") (λxs H Q=>∃(a:Addr) (bs:List Bool),xs=[.ref a]/\SqL X.K H a (bs.map V.bl)/\Q (.bl (bs.all id)) H):=by
 intro w5 s O H xs us Q I r h;obtain⟨a,bs,rfl,ha,q⟩:=h;obtain⟨u,rfl,ru⟩:=DC r;cases ru;exact call_all_walk (Nq (f:=λtr l=>l.all tr) hc I ha (Pj bs) q)
end
mutual
inductive DatV (K:PySem.W.Frag) (H:Hp):V->PyData->Prop
 |non:DatV K H .non .none
 |bl (b:Bool):DatV K H (.bl b) (.bool b)
 |int (i:Int):DatV K H (.int i) (.int i)
 |str (x:Str):DatV K H (.str x) (.str x)
 |tup {a:Addr} {xs:List V} {ds:List PyData}:SqT K H a xs->DatVs K H xs ds->DatV K H (.ref a) (.tuple ds)
 |lst {a:Addr} {xs:List V} {ds:List PyData}:SqL K H a xs->DatVs K H xs ds->DatV K H (.ref a) (.list ds)
inductive DatVs (K:PySem.W.Frag) (H:Hp):List V->List PyData->Prop
 |nil:DatVs K H [] []
 |cons {v:V} {d:PyData} {vs:List V} {ds:List PyData}:DatV K H v d->DatVs K H vs ds->DatVs K H (v::vs) (d::ds)
end
section
variable{X:Cx}{w5:List (Addr×Obj)}{O:St}{H:Hp}{s:Shared}
mutual
theorem DatV.reads(I:Inv X w5 O H s):∀{v:V} {d:PyData},DatV X.K H v d->∀{u:Value},RelV v u->∃as,Reads s.heap u d as
 |_,_,.non,_,r=>by cases r;exact⟨[],.none⟩
 |_,_,.bl b,_,r=>by cases r;exact⟨[],.bool b⟩
 |_,_,.int i,_,r=>by obtain⟨t,rfl⟩:=r;exact⟨[],.int i t⟩
 |_,_,.str x,_,r=>by obtain⟨t,rfl⟩:=r;exact⟨[],.str x t⟩
 |_,_,.tup hq hs,_,r=>by
  cases r;obtain⟨its,rv,⟨o,e,c,n,d⟩,_⟩:=I.tuple hq;obtain⟨as,ra⟩:=DatVs.reads I hs rv;exact⟨_,.tuple e c d (by simpa using ra)⟩
 |_,_,.lst hq hs,_,r=>by
  cases r;obtain⟨its,rv,⟨o,n,e,c,_,d⟩,_⟩:=I.list hq;obtain⟨as,ra⟩:=DatVs.reads I hs rv;exact⟨_,.list e c d (by simpa using ra)⟩
theorem DatVs.reads(I:Inv X w5 O H s):∀{vs:List V} {ds:List PyData},DatVs X.K H vs ds->∀{us:List Value},Vals vs us->∃as,ReadsAll s.heap us ds as
 |_,_,.nil,_,.nil=>⟨[],.nil⟩
 |_,_,.cons h t,_,.cons r rr=>by
  obtain⟨a,ra⟩:=DatV.reads I h r;obtain⟨b,rb⟩:=DatVs.reads I t rr;exact⟨_,.cons ra rb⟩
end
end
section
variable{X:Cx}
theorem X9(hu:X.A.units+64<cLine):OpR X (compareOp .Eq) (λx y H Q=>∃d d',DatV X.K H x d/\DatV X.K H y d'/\SeqAt.shaped d=true/\SeqAt.shaped d'=true/\Q (.bl (PyData.eqv d d')) H):=by
 intro w5 s O H x y v u Q I rx ry h;obtain⟨d,d',h1,h2,s1,s2,q⟩:=h;obtain⟨as,ra⟩:=h1.reads I rx;obtain⟨bs,rb⟩:=h2.reads I ry;exact SeqAt.compareEq_shaped ra rb s1 s2 hu ⟨.bl _,H,I,rfl,q⟩
theorem X5(hu:X.A.units+64<cLine):OpR X (compareOp .NotEq) (λx y H Q=>∃d d',DatV X.K H x d/\DatV X.K H y d'/\SeqAt.shaped d=true/\SeqAt.shaped d'=true/\Q (.bl (!PyData.eqv d d')) H):=by
 intro w5 s O H x y v u Q I rx ry h;obtain⟨d,d',h1,h2,s1,s2,q⟩:=h;obtain⟨as,ra⟩:=h1.reads I rx;obtain⟨bs,rb⟩:=h2.reads I ry;exact SeqAt.compareNe_shaped ra rb s1 s2 hu ⟨.bl _,H,I,rfl,q⟩
theorem Kr(hr:Room k A):A.units+64<cLine:=hr.units
end
theorem Inv.turnedL{X:Cx}{w5:List (Addr×Obj)}{O:St}{H:Hp}{t':Nat}{ch:List Addr}(I:Inv X w5 O H s)(k:∀b o,b∉ch->s.heap.get? b=some o->h'.get? b=some o)(hf:∀b∈ch,G8 X w5 H b):Inv X w5 O H { s with heap:=h',toks:=t' }:=by
 have nit:∀b u,H b=some u->b∉ch:=λb u e z=>by rw[(hf b z).1] at e;cases e
 refine I.step (g':=s.gens) (d':=s.drawn) (ch:=ch) (λb hb=>⟨(hf b hb).2.2.2.1,(hf b hb).2.1,(hf b hb).2.2.2.2.1,(hf b hb).2.2.2.2.2⟩) (λb o _ _ hc e _=>k b o hc e) (λb o _ _ hc e _=>⟨o.slots,k b o hc e⟩) (λ_ _ _ _ n=>n)
  (λb o hc e=>⟨o,k b o hc e⟩) (λ_ _ e=>e) (λ_ _ _ e=>e) (λb ps e=>⟨#[],by rw[e];simp⟩) (λm hm=>?_) (λb u e=>?_) I.bare
 ·obtain⟨o,es,ep,ho,r⟩:=hm;exact⟨o,es,ep,k _ o (λz=>(hf _ z).2.1 rfl) ho,r⟩
 ·refine(I.hok b u e).stay (λc v hc q=>k c v ?_ q) (λ_ q=>q) λ_ _ q=>q;rcases hc with z|z
  ·rw[z];exact nit b u e
  ·exact nit c _ z
noncomputable def ItP(K:PySem.W.Frag)(n:Nat)(src:Nat->List V)(Cond:PySem.W.Frag->Hp->Prop):It:=
 ⟨λi H=>i<n/\Cond K H,λi H v H'=>∃T,H T=none/\v=.ref T/\H'=upd H T (.tup (src i)),λi H=>i=n/\Cond K H⟩
theorem IN{P:Program}{w:World}{K:PySem.W.Frag}{es:List Expr}{k0:Nat}{pos:Pos}{I0:Addr}{Y:Type}{fp wr:List Addr}{n:Nat}{src:Nat->List V}{good:Y->Prop}{Pt:Y->Nat->Array Value->Prop}{Sw:Y->Nat->Heap->Prop}{Mid:Y->Nat->Addr->Heap->Prop}{tn:Nat->Heap->Prop}{Cond:PySem.W.Frag->Hp->Prop}
  (W:∀A:Around,A.handled=none->∀z,good z->WalksT P w A I0 fp wr n (Pt z) (Sw z) (Mid z)) (hmem:I0∈wr) (hPt:∀z i vals,good z->Pt z i vals->Vals (src i) vals.toList) (hlen:∀i,(src i).length<=sizeLine)
  (obj:∀i h,tn i h->∀b∈wr,∃o,h.get? b=some o/\∀v,o.data≠.cell v)
  (keep:∀i h h',tn i h->(∀b∈wr,∀o,h.get? b=some o->h'.get? b=some o)->tn i h')
  (into:∀(X:Cx) (w5:List (Addr×Obj)) (O:St) (H:Hp) (s:Shared) (i:Nat),X.prog=P->X.w=w->X.K=K->Inv X w5 O H s->Cond K H->tn i s.heap->∃z,good z/\Sw z i s.heap) (out:∀z i h,Sw z i h->tn i h)
  (self:∀(A:Around) (i:Nat) (s:Shared) (Q:Value->Shared->Prop) (E:Value->Shared->Prop),tn i s.heap->Q (.ref I0) s->wpAny (model P w) A (pyIter (.ref I0)) Q E s) :
  LX P w K (.Tuple es k0 pos) (ItP K n src Cond) wr I0 tn where
 mem:=hmem
 obj:=obj
 keep:=keep
 item:=by
  intro X hP hw hK hc i w5 s O H E I hf st hg;obtain⟨hi,hcond⟩:=hg;obtain⟨z,gz,sz⟩:=into X w5 O H s i hP hw hK I hcond st;have W':=W X.A (I.ok.hd hc) z gz;refine W'.item i s _ _ hi sz λT vals h' tk hp hT ht hm kk=>⟨_,rfl,?_⟩;have I1:Inv X w5 O H { s with heap:=h',toks:=tk }:=I.turnedL kk hf;refine W'.go es k0 pos i T _ _ _ hm λh2 st2 kk2=>?_;have I2:Inv X w5 O H { s with heap:=h2,toks:=tk }:=I1.turnedL (t':=tk) kk2 hf;have hn:H T=none:=I.hok.fresh hT;have ht2:IsTup h2 T vals:=by
   obtain⟨o,e,r⟩:=ht;exact⟨o,kk2 T o (W'.apart i T _ hm) e,r⟩
  refine⟨.ref T,upd H T (.tup (src i)),I2.track (I.fpOk hT hn) ⟨hlen i,vals.toList,hPt z i vals gz hp,by simpa using ht2⟩,rfl,⟨T,hn,rfl,rfl⟩,out z _ _ st2,λb hb=>?_⟩;have hbT:b≠T:=λz=>W'.apart i T _ hm (by rw[←z];exact hb);rw[upd_ne hbT];exact(hf b hb).1
 done:=by
  intro X hP hw hK hc i w5 s O H E I hf st hg;obtain⟨hi,hcond⟩:=hg;subst hi;obtain⟨z,gz,sz⟩:=into X w5 O H s i hP hw hK I hcond st;exact(W X.A (I.ok.hd hc) z gz).done s _ _ sz λh' tk kk=>⟨rfl,I.turnedL kk hf⟩
 self:=self
noncomputable def Fj(xs:List V)(i:Nat):List V:=[.int i,xs.getD i .non]
theorem JP(r:Vals xs its)(h:∃t x,its.toArray[i]?=some x/\vals=#[.int i t,x]):Vals (Fj xs i) vals.toList:=by
 obtain⟨t,x,hx,rfl⟩:=h;have hx':its[i]?=some x:=by simpa using hx
 have hlt:i<its.length:=(AAT.mp hx').1;have hl:=r.length;have hv:xs[i]?=some (xs.getD i .non):=by
  rw[AAu (by omega)];simp[List.getD,show i<xs.length by omega]
 obtain⟨u,hu,ru⟩:=r.get hv;rw[hx'] at hu;cases hu;exact .cons ⟨t,rfl⟩ (.cons ru .nil)
theorem O2{P:Program}{w:World}{f:Nat->Heap->Prop}(A:Around)(i:Nat)(s:Shared)(Q:Value->Shared->Prop)(E:Value->Shared->Prop)(st:(∃old,IsEnum s.heap e it i old)/\f i s.heap)(h:Q (.ref e) s):wpAny (model P w) A (pyIter (.ref e)) Q E s:=by
 obtain⟨⟨old,he⟩,_⟩:=st;exact wpAny_pyIter_enum he h
theorem S9(he:∃old,IsEnum h e it i old)(ho:h.get? it=some o)(hd:∃vs,o.data=.fields vs):∀b∈[e,it],∃o,h.get? b=some o/\∀v,o.data≠.cell v:=λb hb=>by
 rcases AAI.mp hb with z|z
 ·subst z;obtain⟨old,he⟩:=he;exact⟨_,he,λv q=>by cases q⟩
 ·rw[AAK.mp z];obtain⟨vs,hd⟩:=hd;exact⟨o,ho,λv q=>by rw[hd] at q;cases q⟩
theorem M6{P:Program}{w:World}{K:PySem.W.Frag}{k0:Nat}{pos:Pos}(a e it:Addr)(xs:List V)(hei:e≠it)(hea:e≠a)(hai:a≠it):
  LX P w K (.Tuple es k0 pos) (ItP K xs.length (Fj xs) λK H=>SqL K H a xs) [e,it] e (λi h=>(∃old,IsEnum h e it i old)/\h.IsListIter it a i):=
 IN (Y:=List Value) (good:=λits=>Vals xs its) (Pt:=λits i vals=>∃t x,its.toArray[i]?=some x/\vals=#[.int i t,x]) (Sw:=λits i h=>(∃old,IsEnum h e it i old)/\h.IsListIter it a i/\h.IsList a its.toArray)
  (λA hA its r=>by
   have hl:xs.length=its.toArray.size:=by rw[List.size_toArray];exact r.length
   rw[hl];exact WalksT.enumerateD (Draws.list (show A.in1.handled=none from hA) it a hai its.toArray) e hei (by simp[hei,hea]) (by simp))
  (by simp) (λits i vals r h=>JP r h) (λi=>(by show 2<=sizeLine;decide))
  (λi h st=>by obtain⟨o,ho,_,hd⟩:=st.2;exact S9 st.1 ho ⟨_,hd⟩)
  (λi h h' st k=>⟨by obtain⟨old,q⟩:=st.1;exact⟨old,k e (by simp) _ q⟩,st.2.at λo q=>k it (by simp) o q⟩)
  (λX w5 O H s i hP hw hK I hc st=>by
   subst hK;obtain⟨its,r,p,_⟩:=I.list hc;exact⟨its,r,st.1,st.2,p.isList⟩)
  (λz i h st=>⟨st.1,st.2.1⟩) (λA i s Q E st h=>O2 (f:=λi h=>h.IsListIter it a i) A i s Q E st h)
end L2
namespace L2
open PySem PySem.Spec PyProof.Rows
open AutoSeq1 (wpAny_loadPart')
section
variable{X:Cx}{es:List Expr}{k0:Nat}{tpos:Pos}
noncomputable def YT(K:PySem.W.Frag)(ta:TA):TI:=λO H R=>ta O H λvs H1=>∃a xs,vs=[.ref a]/\SqL K H1 a xs/\R (ItP K xs.length (Fj xs) λK H=>SqL K H a xs) H1
theorem KO:bootBuiltins "enumerate" = some (.type "enumerate"):=by decide +kernel
theorem Q4(I:Inv X w5 O H s):∀b∈[s.heap.objs.size+1,s.heap.objs.size],G8 X w5 H b:=λb hb=>by
 have hb':b=s.heap.objs.size+1∨b=s.heap.objs.size:=by simpa using hb
 rcases hb' with e|e<;>subst e
 ·exact I.fpOk (Nat.le_succ _) (I.hok.fresh (Nat.le_succ _))
 ·exact I.fpOk (AAE _) (I.hok.fresh (AAE _))
theorem Rr(hg:Gl X "enumerate")(hm:X.mg "enumerate" = none)(ha:PA X [a] ta)(hs:starEach [a] X.env=[(false,eval a X.env)]:=by rfl):PI X (.Tuple es k0 tpos) (.Call (.Name "enumerate" p) [a] [] pos) (YT X.K ta):=by
 intro w5 s O H R I h;refine Call_ (HM I hg hm KO (PyProof.Rows.callWith_type1 (thn (ha pos w5 s O H _ I h) λus s1 ⟨vs,H1,I1,r1,q1⟩=>?_) hs rfl));obtain⟨l,xs,e,hq,q⟩:=q1;subst e;obtain⟨u,rfl,ru⟩:=DC r1;cases ru;obtain⟨its,rv,pl,hz⟩:=I1.list hq;have hlt:l<s1.heap.objs.size:=by obtain⟨o,n,e,_⟩:=pl;exact Heap.lt_size e
 refine call_enumerate_list pl.isList λh' he hit hsz kk=>wpAny_pyIter_enum he ?_;exact⟨s1.heap.objs.size+1,[s1.heap.objs.size+1,s1.heap.objs.size],_,_,H1,rfl,I1.kept (t':=s1.toks) kk,M6 l _ _ xs (Nat.succ_ne_self _) (Nat.ne_of_gt (AAi hlt)) (AAe hlt),⟨⟨_,he⟩,hit⟩,Q4 I1,q⟩
end
end L2
namespace Nk
open PySem PySem.Spec PyProof.Rows
inductive NK where
 |int (i:Int)|tup (ks:List NK)
noncomputable instance:DecidableEq NK:=λ_ _=>Classical.propDecidable _
mutual
def NK.deep:NK->Nat
 | .int _=>0
 | .tup ks=>NK.deeps ks+1
def NK.deeps:List NK->Nat
 |[]=>0
 |k::ks=>max (NK.deep k) (NK.deeps ks)
end
mutual
def NK.hash:NK->Int
 | .int i=>hashInt i
 | .tup ks=>reduceHash (Builtin.Tuple.tupleHashOf (NK.hashes ks))
def NK.hashes:List NK->List Int
 |[]=>[]
 |k::ks=>NK.hash k::NK.hashes ks
end
mutual
def NK.draws:NK->Nat
 | .int _=>1
 | .tup ks=>NK.drawsL ks+1
def NK.drawsL:List NK->Nat
 |[]=>0
 |k::ks=>NK.draws k+NK.drawsL ks
end
mutual
def At(h:Heap):NK->Value->Prop
 | .int i,v=>∃t,v=.int i t
 | .tup ks,v=>∃a o items n,v=.ref a/\h.get? a=some o/\o.cls=.type "tuple" /\ o.data=.seq items n/\Ats h ks items.toList
def Ats(h:Heap):List NK->List Value->Prop
 |[],vs=>vs=[]
 |k::ks,vs=>∃v vs',vs=v::vs'/\At h k v/\Ats h ks vs'
end
mutual
theorem At.inj:∀{k j:NK} {v:Value},At h k v->At h j v->k=j
 | .int i,.int j,v,a,b=>by
  unfold At at a b;obtain⟨t,rfl⟩:=a;obtain⟨u,e⟩:=b;injection e with e1 _
  rw[e1]
 | .int i,.tup js,v,a,b=>by
  unfold At at a b;obtain⟨t,rfl⟩:=a;obtain⟨_,_,_,_,e,_⟩:=b;cases e
 | .tup ks,.int j,v,a,b=>by
  unfold At at a b;obtain⟨t,rfl⟩:=b;obtain⟨_,_,_,_,e,_⟩:=a;cases e
 | .tup ks,.tup js,v,a,b=>by
  unfold At at a b;obtain⟨x,o,items,n,rfl,h1,_,h3,h4⟩:=a;obtain⟨x',o',items',n',e,h1',_,h3',h4'⟩:=b;cases e;rw[h1] at h1';cases h1';rw[h3] at h3';cases h3';rw[Ats.inj h4 h4']
theorem Ats.inj:∀{ks js:List NK} {vs:List Value},Ats h ks vs->Ats h js vs->ks=js
 |[],[],_,_,_=>rfl
 |[],_::_,vs,a,b=>by
  unfold Ats at a b;subst a;obtain⟨_,_,e,_⟩:=b;cases e
 |_::_,[],vs,a,b=>by
  unfold Ats at a b;subst b;obtain⟨_,_,e,_⟩:=a;cases e
 |k::ks,j::js,vs,a,b=>by
  unfold Ats at a b;obtain⟨v,vs',rfl,a1,a2⟩:=a;obtain⟨v',vs'',e,b1,b2⟩:=b;cases e;rw[At.inj a1 b1,Ats.inj a2 b2]
end
mutual
theorem At.kept:∀{k:NK} {v:Value},At h k v->(∀a o items n,h.get? a=some o->o.cls=.type "tuple" -> o.data=.seq items n->h'.get? a=some o)->At h' k v
 | .int i,v,a,_=>by unfold At at a ⊢;exact a
 | .tup ks,v,a,kp=>by
  unfold At at a ⊢;obtain⟨x,o,items,n,rfl,h1,h2,h3,h4⟩:=a;exact⟨x,o,items,n,rfl,kp x o items n h1 h2 h3,h2,h3,Ats.kept h4 kp⟩
theorem Ats.kept:∀{ks:List NK} {vs:List Value},Ats h ks vs->(∀a o items n,h.get? a=some o->o.cls=.type "tuple" -> o.data=.seq items n->h'.get? a=some o)->Ats h' ks vs
 |[],vs,a,_=>by unfold Ats at a ⊢;exact a
 |k::ks,vs,a,kp=>by
  unfold Ats at a ⊢;obtain⟨v,vs',rfl,a1,a2⟩:=a;exact⟨v,vs',rfl,At.kept a1 kp,Ats.kept a2 kp⟩
end
section
variable{prog:Program}{w:World}{A:Around}{E:Value->Shared->Prop}{s:Shared}
theorem Sr(hu:A.units<cLine)(ho:s.heap.get? a=some o)(hc:o.cls=.type "tuple")(hd:o.data=.seq items n)
  (each:∀(P:Array Int->Shared->Prop),P hs.toArray { s with toks:=s.toks+d }->wpAny (model prog w) A.in1 (forIn items.toList (#[]:Array Int) λx r=>do let y ←pyHash x;pure (ForInStep.yield (r.push y))) P E s)
  (q:Q (reduceHash (Builtin.Tuple.tupleHashOf hs)) { s with toks:=s.toks+(d+1) }):wpAny (model prog w) A (pyHash (.ref a)) Q E s:=by
 have hT:s.TypeIs (.ref a) "tuple" := ⟨o,ho,hc⟩;show wpAny _ _ (pyHashByItsType (.ref a)) Q E s;unfold pyHashByItsType;refine AAA (wpAny_cRoomFor_or (.inr hu) (AAA (wpAny_specialOf hT PySem.F.slot_tuple_hash.lookup ?_)));rw[if_neg (by rw[beq_builtin_none];exact AAh)];refine AAA (wpAny_specialOf hT PySem.F.slot_tuple_hash.lookup ?_);show wpAny _ _ (callSpecialIfBoundUnlessNone? (.ref a) "__hash__" _ >>= _) Q E s;refine AAA (wpAny_callSpecialIfBoundUnlessNone?_slot hT PySem.F.slot_tuple_hash (AAd PySem.F.slot_tuple_hash hT PySem.F.entry_tuple_hash ?_ (PySem.F.args_tuple_hash_1 _)));show wpAny _ _ (Builtin.Tuple.tupleItemsOf (.ref a) >>= _) _ _ s;refine AAA (wpAny_tupleItemsOf ho hd (AAA ?_));rw[←Array.forIn_toList];refine each _ ?_;show wpAny _ _ (retInt (Builtin.Tuple.tupleHashOf hs.toArray.toList)) _ _ _;refine wpAny_ret_mkInt ?_;show wpAny _ _ (pyHashByItsType.reduced _) Q E _;unfold pyHashByItsType.reduced;unfold reduceHash at q;split
 ·rename_i hr;rw[if_pos hr] at q;exact AAB q
 ·rename_i hr;rw[if_neg hr] at q;exact AAA (wpAny_rule (AAB q))
mutual
theorem At.hash:∀{k:NK} {v:Value} {A:Around} {E:Value->Shared->Prop} {s:Shared} {Q:Int->Shared->Prop},A.units+k.deep<cLine->At s.heap k v->Q k.hash { s with toks:=s.toks+k.draws }->wpAny (model prog w) A (pyHash v) Q E s
 | .int i,v,A,E,s,Q,hu,hk,q=>by
  unfold At at hk;obtain⟨t,rfl⟩:=hk;exact(intKind prog w).pyHash (k:=i) (by simp[intKind,Value.isInt]) q
 | .tup ks,v,A,E,s,Q,hu,hk,q=>by
  unfold At at hk;obtain⟨a,o,items,n,rfl,h1,h2,h3,h4⟩:=hk;have hu':A.units+(NK.deeps ks+1)<cLine:=hu;refine Sr (hs:=NK.hashes ks) (d:=NK.drawsL ks) (by omega) h1 h2 h3 (λP p=>?_) q;exact Ats.hash (A:=A.in1) (by show A.units+1+NK.deeps ks<cLine;omega) h4 (acc:=#[]) (by simpa using p)
theorem Ats.hash:∀{ks:List NK} {vs:List Value} {A:Around} {E:Value->Shared->Prop} {s:Shared} {acc:Array Int} {P:Array Int->Shared->Prop},A.units+NK.deeps ks<cLine->Ats s.heap ks vs->P (acc++(NK.hashes ks).toArray) { s with toks:=s.toks+NK.drawsL ks }->
  wpAny (model prog w) A (forIn vs acc λx r=>do let y ←pyHash x;pure (ForInStep.yield (r.push y))) P E s
 |[],vs,A,E,s,acc,P,hu,hk,q=>by
  unfold Ats at hk;subst hk;rw[List.forIn_nil];exact AAB (by simpa[NK.hashes,NK.drawsL] using q)
 |k::ks,vs,A,E,s,acc,P,hu,hk,q=>by
  unfold Ats at hk;obtain⟨v,vs',rfl,a1,a2⟩:=hk;rw[List.forIn_cons];have hu':A.units+max (NK.deep k) (NK.deeps ks)<cLine:=hu;refine AAA (AAA (At.hash (by omega) a1 (AAB ?_)));refine Ats.hash (by omega) (s:={ s with toks:=s.toks+k.draws }) a2 ?_;simpa[NK.hashes,NK.drawsL,Nat.add_assoc] using q
end
end
end Nk
namespace Nk
open PySem PySem.Spec PyProof.Rows PySem.MeetsSeq PySem.SeqAt
theorem Ats.len:∀{ks:List NK} {vs:List Value},Ats h ks vs->vs.length=ks.length
 |[],_,a=>by unfold Ats at a;subst a;rfl
 |k::ks,_,a=>by
  unfold Ats at a;obtain⟨v,vs',rfl,_,a2⟩:=a;simp[Ats.len a2]
noncomputable def Iv(ks js:List NK)(j:Nat):Bool:=decide (ks[j]?=js[j]?)
theorem P3:((List.range (min ks.length js.length)).all (Iv ks js)&&ks.length==js.length)=decide (NK.tup ks=NK.tup js):=by
 by_cases e:ks=js
 ·subst e;rw[AAO rfl,beq_self_eq_true,Bool.and_true,List.all_eq_true];intro j _;exact AAO rfl
 ·rw[AAN (λz=>e (NK.tup.inj z))];by_cases hl:ks.length=js.length
  ·rw[beq_iff_eq.mpr hl,Bool.and_true,←Bool.not_eq_true];intro z;rw[List.all_eq_true] at z;refine e (List.ext_getElem? λj=>?_);by_cases hj:j<ks.length
   ·exact of_decide_eq_true (z j (List.mem_range.mpr (by omega)))
   ·rw[List.getElem?_eq_none (by omega),List.getElem?_eq_none (by omega)]
  ·rw[AAf.mpr hl,Bool.and_false]
mutual
theorem At.eq:∀{k j:NK} {u v:Value} {A:Around} {s:Shared},A.units+k.deep<cLine->At s.heap k u->At s.heap j v->EqAt A s u v (decide (k=j))
 | .int i,.int j,u,v,A,s,hu,a,b=>by
  unfold At at a b;obtain⟨t,rfl⟩:=a;obtain⟨t',rfl⟩:=b;have:decide (NK.int i=NK.int j)=(i==j):=by
   by_cases e:i=j
   ·subst e;simp
   ·rw[AAN (λz=>e (NK.int.inj z)),AAf.mpr e]
  rw[this];exact EqAt.int_int i t j t'
 | .int i,.tup js,u,v,A,s,hu,a,b=>by
  unfold At at a b;obtain⟨t,rfl⟩:=a;obtain⟨x,o,items,n,rfl,h1,h2,h3,_⟩:=b;rw[AAN (by intro z;cases z)];exact EqAt.int_tuple i t ⟨o,h1,h2,n,h3⟩ (AAs (Nat.le_add_right _ _) hu)
 | .tup ks,.int j,u,v,A,s,hu,a,b=>by
  unfold At at a b;obtain⟨t,rfl⟩:=b;obtain⟨x,o,items,n,rfl,h1,h2,h3,_⟩:=a;rw[AAN (by intro z;cases z)];exact EqAt.tuple_int j t ⟨o,h1,h2,n,h3⟩ (AAs (Nat.le_add_right _ _) hu)
 | .tup ks,.tup js,u,v,A,s,hu,a,b=>by
  have a':=a;have b':=b;unfold At at a b;obtain⟨x,o,items,n,rfl,h1,h2,h3,h4⟩:=a;obtain⟨y,o',items',n',rfl,h1',h2',h3',h4'⟩:=b;have hu':A.units+(NK.deeps ks+1)<cLine:=hu;by_cases e:x=y
  ·subst e;rw[At.inj a' b',AAO rfl];exact EqAt.same _
  ·rw[←P3];have l1:=h4.len;have l2:=h4'.len;rw[Array.length_toList] at l1 l2;rw[←l1,←l2];refine EqAt.of_refs e (RcAt.tuples ⟨o,h1,h2,n,h3⟩ ⟨o',h1',h2',n',h3'⟩ (by omega) λj g1 g2=>?_);have:=Ats.eqs (A:=A.in1) (by show A.units+1+NK.deeps ks<cLine;omega) h4 h4' j (by simpa using g1) (by simpa using g2);simpa using this
theorem Ats.eqs:∀{ks js:List NK} {us vs:List Value} {A:Around} {s:Shared},A.units+NK.deeps ks<cLine->Ats s.heap ks us->Ats s.heap js vs->∀(j:Nat) (h1:j<us.length) (h2:j<vs.length),EqAt A s us[j] vs[j] (Iv ks js j)
 |[],js,us,vs,A,s,hu,a,b,j,h1,h2=>by unfold Ats at a;subst a;simp at h1
 |k::ks,[],us,vs,A,s,hu,a,b,j,h1,h2=>by unfold Ats at b;subst b;simp at h2
 |k::ks,l::js,us,vs,A,s,hu,a,b,j,h1,h2=>by
  unfold Ats at a b;obtain⟨u,us',rfl,a1,a2⟩:=a;obtain⟨v,vs',rfl,b1,b2⟩:=b;have hu':A.units+max (NK.deep k) (NK.deeps ks)<cLine:=hu;cases j with
  |zero=>
   have:=At.eq (k:=k) (j:=l) (A:=A) (by omega) a1 b1;have e:Iv (k::ks) (l::js) 0=decide (k=l):=by unfold Iv;simp
   rw[e];exact this
  |succ j=>
   have:=Ats.eqs (A:=A) (by omega) a2 b2 j (by simpa using h1) (by simpa using h2);have e:Iv (k::ks) (l::js) (j+1)=Iv ks js j:=by unfold Iv;simp
   rw[e];simpa using this
end
section
variable{prog:Program}{w:World}
theorem At.quiet:∀(d:Nat) {k:NK} {v:Value} {A:Around} {E:Value->Shared->Prop} {s:Shared} {Q:Bool->Shared->Prop},k.deep<=d->At s.heap k v->Q true s->wpAny (model prog w) A (eqIsQuiet d v) Q E s
 |d,.int i,v,A,E,s,Q,hd,a,q=>by
  unfold At at a;obtain⟨t,rfl⟩:=a;unfold eqIsQuiet;exact AAB q
 |0,.tup ks,v,A,E,s,Q,hd,a,q=>by
  have hd':NK.deeps ks+1<=0:=hd;omega
 |d'+1,.tup ks,v,A,E,s,Q,hd,a,q=>by
  have hd':NK.deeps ks+1<=d'+1:=hd;unfold At at a;obtain⟨x,o,items,n,rfl,h1,h2,h3,h4⟩:=a;have hT:s.TypeIs (.ref x) "tuple" := ⟨o,h1,h2⟩;unfold eqIsQuiet;refine AAA (wpAny_specialOf hT PySem.F.slot_tuple_eq.lookup ?_);show wpAny _ _ (isInstance (.ref x) (.type "tuple") >>= _) _ _ s;refine AAA (wpAny_isInstance hT isSubtype_tuple_tuple ?_);simp only[Bool.not_true,Bool.false_eq_true,if_false];refine AAA (wpAny_seqItems h1 h3 (AAA ?_));show wpAny _ _ (forIn items _ _) _ _ s;rw[←Array.forIn_toList];refine wpAny_forIn_list _ (λrest r s'=>r.1=none/\s'=s/\∃ks',NK.deeps ks'<=d'/\Ats s.heap ks' rest) _ ?_ ?_ _ _ ⟨rfl,rfl,ks,by omega,h4⟩
  ·rintro y rest r s' ⟨hr,rfl,ks',hk,at'⟩;cases ks' with
   |nil=>unfold Ats at at';cases at'
   |cons k' ks'=>
    unfold Ats at at';obtain⟨_,_,e,a1,a2⟩:=at';cases e;have hk':max (NK.deep k') (NK.deeps ks')<=d':=hk;refine AAA (At.quiet d' (k:=k') (by omega) a1 ?_);simp only[Bool.not_true,Bool.false_eq_true,if_false];exact AAB ⟨rfl,rfl,ks',by omega,a2⟩
  ·rintro⟨r1,r2⟩ s' ⟨hr,rfl,_⟩;simp only at hr;subst hr;exact AAB q
noncomputable def kind(prog:Program)(w:World):HeapKind prog w NK where
 is:=λh k a=>At h k (.ref a)/\k.deep<=8
 hash:=NK.hash
 draws:=NK.draws
 room:=λA=>A.units+8<cLine
 inj:=λhx hy=>hx.1.inj hy.1
 keeps:=λ{h h' k a d o es ep} x ho hd hs=>⟨x.1.kept λb o' items n e _ e3=>by
  have hne:b≠d:=by
   intro z;subst z;rw[ho] at e;cases e;rw[hd] at e3;cases e3
  exact(hs.2 b hne).trans e,x.2⟩
 pyHash:=λhu hk h=>At.hash (by have:=hk.2;omega) hk.1 h
 eqBool:=λ{A E s x y a b Q} hu hx hy h=>At.eq (by have:=hx.2;omega) hx.1 hy.1 _ _ E Q h
 quiet:=λhk h=>At.quiet 8 hk.2 hk.1 h
end
noncomputable abbrev Cs:=Int×Int×List Int
noncomputable def csK(c:Cs):NK:=.tup [.int c.1,.int c.2.1,.tup (c.2.2.map NK.int)]
open L2 in
noncomputable def CC(p:Addr)(l:List (Cs×Addr×V)):HO:=.ext λh=>∃(us:List Value) (o:Obj) (es:Array DictEntry) (ep:Nat),Vals (l.map (·.2.2)) us/\h.get? p=some o/\o.ExactDict/\o.data=.dict es ep /\
 es.toList=(l.zip us).map (λx=>{ key:=.ref x.1.2.1,hash:=(csK x.1.1).hash,val:=x.2 })/\(l.map (·.1)).Nodup/\l.length<=sizeLine/\(p==sysModules)=false/\ep=l.length
end Nk
namespace Mi
open PySem L2 Nk
inductive D where
 |non|bl (b:Bool)|int (i:Int)|str (x:Str)|ty (n:String)|scr (ns:List Int)|tup (xs:List D)|lst (xs:List D)|ref (n:Nat)
mutual
def Ey:D->D->Bool
 | .non,.non=>true
 | .bl a,.bl b=>a==b
 | .int a,.int b=>a==b
 | .str a,.str b=>a==b
 | .ty a,.ty b=>a==b
 | .scr a,.scr b=>a==b
 | .tup a,.tup b=>Nr a b
 | .lst a,.lst b=>Nr a b
 | .ref a,.ref b=>a==b
 |_,_=>false
def Nr:List D->List D->Bool
 |[],[]=>true
 |a::as,b::bs=>Ey a b&&Nr as bs
 |_,_=>false
end
mutual
theorem PK:∀{a b:D},Ey a b=true->a=b
 | .tup a,.tup b,h=>by unfold Ey at h;rw[LS h]
 | .lst a,.lst b,h=>by unfold Ey at h;rw[LS h]
 | .non,b,h=>by cases b<;>first|rfl|cases h
 | .bl a,b,h=>by cases b<;>first|(unfold Ey at h;rw[eq_of_beq h])|cases h
 | .int a,b,h=>by cases b<;>first|(unfold Ey at h;rw[eq_of_beq h])|cases h
 | .str a,b,h=>by cases b<;>first|(unfold Ey at h;rw[eq_of_beq h])|cases h
 | .ty a,b,h=>by cases b<;>first|(unfold Ey at h;rw[eq_of_beq h])|cases h
 | .scr a,b,h=>by cases b<;>first|(unfold Ey at h;rw[eq_of_beq h])|cases h
 | .ref a,b,h=>by cases b<;>first|(unfold Ey at h;rw[eq_of_beq h])|cases h
theorem LS:∀{a b:List D},Nr a b=true->a=b
 |[],[],_=>rfl
 |a::as,b::bs,h=>by
  unfold Nr at h;rw[Bool.and_eq_true] at h;rw[PK h.1,LS h.2]
end
mutual
theorem KU:∀a:D,Ey a a=true
 | .tup a=>by unfold Ey;exact HZ a
 | .lst a=>by unfold Ey;exact HZ a
 | .non=>rfl
 | .bl a=>by unfold Ey;exact beq_self_eq_true a
 | .int a=>by unfold Ey;exact beq_self_eq_true a
 | .str a=>by unfold Ey;exact beq_self_eq_true a
 | .ty a=>by unfold Ey;exact beq_self_eq_true a
 | .scr a=>by unfold Ey;exact beq_self_eq_true a
 | .ref a=>by unfold Ey;exact beq_self_eq_true a
theorem HZ:∀a:List D,Nr a a=true
 |[]=>rfl
 |a::as=>by unfold Nr;rw[KU a,HZ as];rfl
end
instance:DecidableEq D:=λa b=>if h:Ey a b=true then .isTrue (PK h) else .isFalse λe=>h (by rw[e];exact KU b)
inductive MO where
 |lst (xs:List D)|dK (kvs:List (Key×D))|dC (kvs:List (Cs×D))|ins (c:Str) (fs:List (Str×D))|dP (kvs:List (D×D))|exc (c:Str) (n:Option Nat)
abbrev Mh:=List MO
set_option genInjectivity false in
structure KW where
 fr:PySem.W.Frag
 w:World
instance:CoeOut KW PySem.W.Frag:=⟨KW.fr⟩
abbrev _root_.L2.Cx.kw(X:Cx):KW:=⟨X.K,X.w⟩
noncomputable abbrev M(α:Type):=Mh->Option (α×Mh)
noncomputable abbrev Sl:=List (Option D)
noncomputable def ret{α:Type}(a:α):M α:=λZ=>some (a,Z)
noncomputable def bnd{α β:Type}(m:M α)(f:α->M β):M β:=λZ=>match m Z with
 |some (a,w6)=>f a w6
 |none=>none
noncomputable def Bb{α:Type}:M α:=λ_=>none
theorem AF(h:bnd m f Z=some r):∃a w6,m Z=some (a,w6)/\f a w6=some r:=by
 unfold bnd at h;cases e:m Z with
 |none=>rw[e] at h;cases h
 |some p=>obtain⟨a,w6⟩:=p;rw[e] at h;exact⟨a,w6,rfl,h⟩
@[simp] theorem aT(a:α)(f:α->M β):bnd (ret a) f=f a:=rfl
theorem AK(h:m Z=some (a,w6)):bnd m f Z=f a w6:=by unfold bnd;rw[h]
def ScrAt(K:PySem.W.Frag)(H:Hp)(a:Addr)(xs:List V):Prop:=
 (∃o,H a=some (.frz o (.lst xs)))∨∃(o:Obj) (its:Array Value) (n:Nat),K.lookup a=some o/\o.cls=.type "list" /\ o.dict=none/\o.data=.seq its n/\its.size<=sizeLine/\Vals xs its.toList
theorem ScrAt.sq(h:ScrAt K H a xs):SqL K H a xs:=h.elim (λz=>.inl (.inr z)) .inr
mutual
def Is(K:KW)(Y:Nat->Addr)(k:Nat)(H:Hp):D->V->Prop
 | .non,v=>v=.non
 | .bl b,v=>v=.bl b
 | .int i,v=>v=.int i
 | .str x,v=>v=.str x
 | .ty n,v=>v=.ty n
 | .scr ns,v=>∃p,v=.ref p/\ScrAt K H p (ns.map V.int)
 | .tup ds,v=>∃p vs,v=.ref p/\SqT K H p vs/\IsL K Y k H ds vs
 | .lst ds,v=>∃p vs,v=.ref p/\H p=some (.lst vs)/\(∀n,n<k->Y n≠p)/\IsL K Y k H ds vs
 | .ref n,v=>n<k/\v=.ref (Y n)
def IsL(K:KW)(Y:Nat->Addr)(k:Nat)(H:Hp):List D->List V->Prop
 |[],vs=>vs=[]
 |d::ds,vs=>∃v vs',vs=v::vs'/\Is K Y k H d v/\IsL K Y k H ds vs'
end
section
variable{K:KW}{Y Y' x5:Nat->Addr}{k k' k2:Nat}{H H' H2:Hp}
theorem IsL.length:∀{ds:List D} {vs:List V},IsL K Y k H ds vs->vs.length=ds.length
 |[],_,h=>by unfold IsL at h;subst h;rfl
 |_::_,_,h=>by
  unfold IsL at h;obtain⟨v,vs',rfl,_,h⟩:=h;simp only[AAH,IsL.length h]
theorem IsL.get:∀{ds:List D} {vs:List V} {i:Nat} {d:D},IsL K Y k H ds vs->ds[i]?=some d->∃v,vs[i]?=some v/\Is K Y k H d v
 |[],_,_,_,_,e=>by simp at e
 |_::_,_,0,_,h,e=>by
  unfold IsL at h;obtain⟨v,vs',rfl,h1,_⟩:=h;simp at e;subst e;exact⟨v,rfl,h1⟩
 |_::_,_,i+1,d,h,e=>by
  unfold IsL at h;obtain⟨v,vs',rfl,_,h⟩:=h;obtain⟨u,e1,e2⟩:=IsL.get (i:=i) (d:=d) h (by simpa using e);exact⟨u,by simpa using e1,e2⟩
theorem IsL.append:∀{ds es:List D} {vs us:List V},IsL K Y k H ds vs->IsL K Y k H es us->IsL K Y k H (ds++es) (vs++us)
 |[],_,_,_,h,q=>by unfold IsL at h;subst h;exact q
 |_::_,_,_,_,h,q=>by
  unfold IsL at h;obtain⟨v,vs',rfl,h1,h⟩:=h;show IsL K Y k H (_::(_++_)) _;unfold IsL;exact⟨v,_,rfl,h1,IsL.append h q⟩
theorem IsL.take:∀(n:Nat) {ds:List D} {vs:List V},IsL K Y k H ds vs->IsL K Y k H (ds.take n) (vs.take n)
 |0,ds,vs,_=>by rw[List.take_zero,List.take_zero];unfold IsL;rfl
 |n+1,[],_,h=>by unfold IsL at h;subst h;simp only[List.take_nil];unfold IsL;rfl
 |n+1,_::_,_,h=>by
  unfold IsL at h;obtain⟨v,vs',rfl,h1,h⟩:=h;simp only[List.take_succ_cons];unfold IsL;exact⟨v,_,rfl,h1,IsL.take n h⟩
theorem IsL.drop:∀(n:Nat) {ds:List D} {vs:List V},IsL K Y k H ds vs->IsL K Y k H (ds.drop n) (vs.drop n)
 |0,_,_,h=>h
 |n+1,[],_,h=>by unfold IsL at h;subst h;simp only[List.drop_nil];unfold IsL;rfl
 |n+1,_::_,_,h=>by
  unfold IsL at h;obtain⟨v,vs',rfl,h1,h⟩:=h;simp only[List.drop_succ_cons];exact IsL.drop n h
theorem IsL.cons(h:Is K Y k H d v)(t:IsL K Y k H ds vs):IsL K Y k H (d::ds) (v::vs):=by
 unfold IsL;exact⟨v,vs,rfl,h,t⟩
theorem IsL.nil:IsL K Y k H [] []:=by unfold IsL;rfl
theorem IsL.one(h:Is K Y k H d v):IsL K Y k H [d] [v]:=.cons h .nil
theorem IsL.set(h1:Is K Y k H d v):∀{ds:List D} {vs:List V} (i:Nat),IsL K Y k H ds vs->IsL K Y k H (ds.set i d) (vs.set i v)
 |[],_,_,h=>by unfold IsL at h;subst h;exact .nil
 |_::_,_,0,h=>by
  unfold IsL at h;obtain⟨v,vs',rfl,_,h⟩:=h;exact .cons h1 h
 |_::_,_,i+1,h=>by
  unfold IsL at h;obtain⟨v,vs',rfl,h0,h⟩:=h;exact .cons h0 (IsL.set h1 i h)
theorem IsL.ints:∀{ns:List Int} {vs:List V},IsL K Y k H (ns.map D.int) vs->vs=ns.map V.int
 |[],_,h=>by unfold IsL at h;exact h
 |_::_,_,h=>by
  unfold List.map IsL at h;obtain⟨v,vs',rfl,h1,h⟩:=h;unfold Is at h1;rw[h1,IsL.ints h];rfl
theorem IsL.ofInts:∀(ns:List Int),IsL K Y k H (ns.map D.int) (ns.map V.int)
 |[]=>.nil
 |n::r=>.cons (by unfold Is;rfl) (IsL.ofInts r)
noncomputable def Sh:HO->Bool
 | .lst _=>true
 | .dK _=>true
 | .ext _=>true
 | .ins _ _ _=>true
 |_=>false
def Muts(Y:Nat->Addr)(k:Nat)(H:Hp):Prop:=∀n,n<k->∃o,H (Y n)=some o/\Sh o=true
structure Ext(Y:Nat->Addr)(k:Nat)(H:Hp)(Y':Nat->Addr)(k':Nat)(H':Hp):Prop where
 le:k<=k'
 agree:∀n,n<k->Y' n=Y n
 fresh:∀n,k<=n->n<k'->H (Y' n)=none
 keep:∀p o,H p=some o->(∀n,n<k->Y n≠p)->H' p=some o
 was:Muts Y k H
 there:Muts Y k H'
theorem Ext.refl(h:Muts Y k H):Ext Y k H Y k H:=⟨AAE _,λ_ _=>rfl,λn h1 h2=>absurd h1 (by omega),λ_ _ e _=>e,h,h⟩
theorem Ext.trans(a:Ext Y k H Y' k' H')(b:Ext Y' k' H' x5 k2 H2):Ext Y k H x5 k2 H2 where
 le:=AAt a.le b.le
 agree:=λn h=>(b.agree n (AAM h a.le)).trans (a.agree n h)
 fresh:=λn h1 h2=>by
  rcases Nat.lt_or_ge n k' with z|z
  ·rw[b.agree n z];exact a.fresh n h1 z
  ·have q:=b.fresh n z h2;cases e:H (x5 n) with
   |none=>rfl
   |some o=>
    by_cases hx:∃m,m<k/\Y m=x5 n
    ·obtain⟨m,hm,e2⟩:=hx;obtain⟨o',q',_⟩:=a.there m hm;rw[e2,q] at q';cases q'
    ·have:=a.keep _ o e (λm hm e2=>hx ⟨m,hm,e2⟩);rw[q] at this;cases this
 keep:=λp o e hn=>b.keep p o (a.keep p o e hn) (λn hlt e2=>by
  rcases Nat.lt_or_ge n k with z|z
  ·rw[a.agree n z] at e2;exact hn n z e2
  ·have:=a.fresh n z hlt;rw[e2,e] at this;cases this)
 was:=a.was
 there:=λn h=>by
  have:=b.there n (AAM h a.le);rw[a.agree n h] at this;exact this
theorem Ext.out(a:Ext Y k H Y' k' H')(e:H p=some o)(hn:∀n,n<k->Y n≠p):∀n,n<k'->Y' n≠p:=λn h e2=>by
 rcases Nat.lt_or_ge n k with z|z
 ·rw[a.agree n z] at e2;exact hn n z e2
 ·have:=a.fresh n z h;rw[e2,e] at this;cases this
theorem Muts.ne(a:Muts Y k H)(e:H p=some o)(hm:Sh o=false):∀n,n<k->Y n≠p:=λn hn e2=>by
 obtain⟨o',q,h⟩:=a n hn;rw[e2,e] at q;cases q;rw[hm] at h;cases h
theorem Km(a:Ext Y k H Y' k' H')(h:SqT K H p vs):SqT K H' p vs:=by
 rcases h with h|h
 ·rcases h with h|⟨o,h⟩
  ·exact .inl (.inl (a.keep p _ h (a.was.ne h rfl)))
  ·exact .inl (.inr ⟨o,a.keep p _ h (a.was.ne h rfl)⟩)
 ·exact .inr h
theorem Kq(a:Ext Y k H Y' k' H')(h:ScrAt K H p vs):ScrAt K H' p vs:=by
 rcases h with ⟨o,h⟩|h
 ·exact .inl ⟨o,a.keep p _ h (a.was.ne h rfl)⟩
 ·exact .inr h
mutual
theorem Is.ext(a:Ext Y k H Y' k' H'):∀{d:D} {v:V},Is K Y k H d v->Is K Y' k' H' d v
 | .non,_,h=>by unfold Is at h ⊢;exact h
 | .bl _,_,h=>by unfold Is at h ⊢;exact h
 | .int _,_,h=>by unfold Is at h ⊢;exact h
 | .str _,_,h=>by unfold Is at h ⊢;exact h
 | .ty _,_,h=>by unfold Is at h ⊢;exact h
 | .scr ns,_,h=>by
  unfold Is at h ⊢;obtain⟨p,rfl,h⟩:=h;exact⟨p,rfl,Kq a h⟩
 | .tup ds,_,h=>by
  unfold Is at h ⊢;obtain⟨p,vs,rfl,h1,h2⟩:=h;exact⟨p,vs,rfl,Km a h1,IsL.ext a h2⟩
 | .lst ds,_,h=>by
  unfold Is at h ⊢;obtain⟨p,vs,rfl,h1,hn,h2⟩:=h;exact⟨p,vs,rfl,a.keep p _ h1 hn,a.out h1 hn,IsL.ext a h2⟩
 | .ref n,_,h=>by
  unfold Is at h ⊢;obtain⟨h,rfl⟩:=h;exact⟨AAM h a.le,by rw[a.agree n h]⟩
theorem IsL.ext(a:Ext Y k H Y' k' H'):∀{ds:List D} {vs:List V},IsL K Y k H ds vs->IsL K Y' k' H' ds vs
 |[],_,h=>by unfold IsL at h ⊢;exact h
 |_::_,_,h=>by
  unfold IsL at h ⊢;obtain⟨v,vs',rfl,h1,h2⟩:=h;exact⟨v,vs',rfl,Is.ext a h1,IsL.ext a h2⟩
end
noncomputable def KVs(K:KW)(Y:Nat->Addr)(k:Nat)(H:Hp):List (Key×D)->List (Key×V)->Prop
 |[],r=>r=[]
 |(y,d)::l,r=>∃v r',r=(y,v)::r'/\Is K Y k H d v/\KVs K Y k H l r'
theorem KVs.ext(a:Ext Y k H Y' k' H'):∀{l:List (Key×D)} {r:List (Key×V)},KVs K Y k H l r->KVs K Y' k' H' l r
 |[],_,h=>h
 |(_,_)::_,_,h=>by
  obtain⟨v,r',rfl,h1,h2⟩:=h;exact⟨v,r',rfl,h1.ext a,h2.ext a⟩
noncomputable def csD(c:Cs):D:=.tup [.int c.1,.int c.2.1,.tup (c.2.2.map D.int)]
noncomputable def CVs(K:KW)(Y:Nat->Addr)(k:Nat)(H:Hp):List (Cs×D)->List (Cs×Addr×V)->Prop
 |[],r=>r=[]
 |(y,d)::l,r=>∃a v r',r=(y,a,v)::r'/\Is K Y k H (csD y) (.ref a)/\Is K Y k H d v/\CVs K Y k H l r'
theorem CVs.ext(a:Ext Y k H Y' k' H'):∀{l:List (Cs×D)} {r:List (Cs×Addr×V)},CVs K Y k H l r->CVs K Y' k' H' l r
 |[],_,h=>h
 |(_,_)::_,_,h=>by
  obtain⟨b,v,r',rfl,h1,h2,h3⟩:=h;exact⟨b,v,r',rfl,h1.ext a,h2.ext a,h3.ext a⟩
noncomputable def FVs(K:KW)(Y:Nat->Addr)(k:Nat)(H:Hp):List (Str×D)->List (Str×V)->Prop
 |[],r=>r=[]
 |(y,d)::l,r=>∃v r',r=(y,v)::r'/\Is K Y k H d v/\FVs K Y k H l r'
theorem FVs.ext(a:Ext Y k H Y' k' H'):∀{l:List (Str×D)} {r:List (Str×V)},FVs K Y k H l r->FVs K Y' k' H' l r
 |[],_,h=>h
 |(_,_)::_,_,h=>by
  obtain⟨v,r',rfl,h1,h2⟩:=h;exact⟨v,r',rfl,h1.ext a,h2.ext a⟩
mutual
def hD(w:World):D->Int
 | .int i=>hashInt i
 | .str x=>hashStr w x
 | .tup ks=>reduceHash (Builtin.Tuple.tupleHashOf (hDs w ks))
 |_=>0xFCA86420
def hDs(w:World):List D->List Int
 |[]=>[]
 |k::ks=>hD w k::hDs w ks
end
noncomputable def aD(w:World)(p:Addr)(l:List (D×Addr×V)):HO:=.ext λh=>∃(us:List Value) (o:Obj) (es:Array DictEntry) (ep:Nat),Vals (l.map (·.2.2)) us/\h.get? p=some o/\o.ExactDict/\o.data=.dict es ep /\
 es.toList=(l.zip us).map (λx=>{ key:=.ref x.1.2.1,hash:=hD w x.1.1,val:=x.2 })/\(l.map (·.1)).Nodup/\l.length<=sizeLine/\(p==sysModules)=false
mutual
def Kz:D->Bool
 | .non=>true
 | .int _=>true
 | .str _=>true
 | .tup ds=>KzL ds
 |_=>false
def KzL:List D->Bool
 |[]=>true
 |d::ds=>Kz d&&KzL ds
end
mutual
def deep:D->Nat
 | .tup ks=>deeps ks+1
 |_=>0
def deeps:List D->Nat
 |[]=>0
 |k::ks=>max (deep k) (deeps ks)
end
noncomputable def PVs(K:KW)(Y:Nat->Addr)(k:Nat)(H:Hp):List (D×D)->List (D×Addr×V)->Prop
 |[],r=>r=[]
 |(y,d)::l,r=>∃a v r',r=(y,a,v)::r'/\(Kz y=true/\deep y<=8/\Is K Y k H y (.ref a))/\Is K Y k H d v/\PVs K Y k H l r'
theorem PVs.ext(a:Ext Y k H Y' k' H'):∀{l:List (D×D)} {r:List (D×Addr×V)},PVs K Y k H l r->PVs K Y' k' H' l r
 |[],_,h=>h
 |(_,_)::_,_,h=>by
  obtain⟨b,v,r',rfl,h1,h2,h3⟩:=h;exact⟨b,v,r',rfl,⟨h1.1,h1.2.1,h1.2.2.ext a⟩,h2.ext a,h3.ext a⟩
def Wc(K:PySem.W.Frag)(c:Str)(C:Addr):Prop:=PySem.W.nsIn K mainGlobals c=some (some (.ref C))
noncomputable def bK(p C:Addr)(dx:Option Addr):HO:=.ext λh=>∃oe vs,h.get? p=some oe/\oe.cls=.ref C/\oe.dict=dx/\oe.data=.fields vs
def bQ(H:Hp)(n:Option Nat)(dx:Option Addr):Prop:=match n with
 |none=>dx=none
 |some i=>∃d,dx=some d/\H d=some (.xd [("at",.int (i:Int))])
noncomputable def ObjIs(K:KW)(Y:Nat->Addr)(k:Nat)(H:Hp)(p:Addr):MO->HO->Prop
 | .lst ds,o=>∃vs,o=.lst vs/\IsL K Y k H ds vs
 | .dK l,o=>∃r,o=.dK r/\KVs K Y k H l r
 | .dC l,o=>∃r,o=CC p r/\CVs K Y k H l r
 | .ins c l,o=>∃C dx r,o=.ins C dx r/\Wc K c C/\H dx=some (.own p)/\FVs K Y k H l r
 | .dP l,o=>∃r,o=aD K.w p r/\PVs K Y k H l r
 | .exc c n,o=>∃C dx,o=bK p C dx/\Wc K c C/\bQ H n dx
structure RelH(K:KW)(Y:Nat->Addr)(Z:Mh)(H:Hp):Prop where
 inj:∀i j,i<Z.length->j<Z.length->Y i=Y j->i=j
 obj:∀n o,Z[n]?=some o->∃u,H (Y n)=some u/\ObjIs K Y Z.length H (Y n) o u
theorem ObjIs.mut(h:ObjIs K Y k H p o u):Sh u=true:=by
 cases o with
 |lst ds=>obtain⟨vs,rfl,_⟩:=h;rfl
 |dK l=>obtain⟨r,rfl,_⟩:=h;rfl
 |dC l=>obtain⟨r,rfl,_⟩:=h;rfl
 |ins c l=>obtain⟨C,dx,r,rfl,_⟩:=h;rfl
 |dP l=>obtain⟨r,rfl,_⟩:=h;rfl
 |exc c n=>obtain⟨C,dx,rfl,_⟩:=h;rfl
theorem ObjIs.ext(a:Ext Y k H Y' k' H')(h:ObjIs K Y k H p o u):ObjIs K Y' k' H' p o u:=by
 cases o with
 |lst ds=>obtain⟨vs,rfl,h⟩:=h;exact⟨vs,rfl,h.ext a⟩
 |dK l=>obtain⟨r,rfl,h⟩:=h;exact⟨r,rfl,h.ext a⟩
 |dC l=>obtain⟨r,rfl,h⟩:=h;exact⟨r,rfl,h.ext a⟩
 |ins c l=>obtain⟨C,dx,r,rfl,h0,h1,h⟩:=h;exact⟨C,dx,r,rfl,h0,a.keep dx _ h1 (a.was.ne h1 rfl),h.ext a⟩
 |dP l=>obtain⟨r,rfl,h⟩:=h;exact⟨r,rfl,h.ext a⟩
 |exc c n=>
  obtain⟨C,dx,rfl,h0,h1⟩:=h;refine⟨C,dx,rfl,h0,?_⟩;cases n with
  |none=>exact h1
  |some i=>
   obtain⟨d,e,q⟩:=h1;exact⟨d,e,a.keep d _ q (a.was.ne q rfl)⟩
theorem RelH.muts(r:RelH K Y Z H):Muts Y Z.length H:=λn hn=>by
 obtain⟨u,e,h⟩:=r.obj n Z[n] (by simp[hn]);exact⟨u,e,h.mut⟩
theorem RelH.ext0(r:RelH K Y Z H):Ext Y Z.length H Y Z.length H:=Ext.refl r.muts
theorem RelH.laid(r:RelH K Y Z H)(o:HO)(hp:H p=none):Ext Y Z.length H Y Z.length (upd H p o)/\RelH K Y Z (upd H p o):=by
 have kp:∀q u,H q=some u->upd H p o q=some u:=λq u e=>by rw[upd_ne (C6 e hp)];exact e
 have a:Ext Y Z.length H Y Z.length (upd H p o):=⟨AAE _,λ_ _=>rfl,λn h1 h2=>absurd h1 (by omega),λq u e _=>kp q u e,r.muts,λn hn=>by
  obtain⟨u,e,h⟩:=r.muts n hn;exact⟨u,kp _ _ e,h⟩⟩
 refine⟨a,r.inj,λn o' e=>?_⟩;obtain⟨u,e1,h⟩:=r.obj n o' e;exact⟨u,kp _ _ e1,h.ext a⟩
theorem RelH.grown(r:RelH K Y Z H)(hp:H p=none)(h:ObjIs K Y Z.length H p m o):
  ∃Y',Ext Y Z.length H Y' (Z++[m]).length (upd H p o)/\RelH K Y' (Z++[m]) (upd H p o)/\Y' Z.length=p:=by
 have kp:∀q u,H q=some u->upd H p o q=some u:=λq u e=>by rw[upd_ne (C6 e hp)];exact e
 let Y':Nat->Addr:=λn=>if n=Z.length then p else Y n
 have e0:Y' Z.length=p:=if_pos rfl;have e1:∀n,n<Z.length->Y' n=Y n:=λn hn=>if_neg (by omega);have a:Ext Y Z.length H Y' (Z++[m]).length (upd H p o):=⟨by simp,e1,λn h1 h2=>by
   have:n=Z.length:=by simp at h2;omega
   rw[this,e0];exact hp,λq u e _=>kp q u e,r.muts,λn hn=>by
  obtain⟨u,e,h⟩:=r.muts n hn;exact⟨u,kp _ _ e,h⟩⟩
 refine⟨Y',a,⟨λi j hi hj e=>?_,λn o' e=>?_⟩,e0⟩
 ·simp at hi hj;have old:∀i,i<Z.length->Y' i≠p:=λi hi e=>by
   obtain⟨u,q,_⟩:=r.muts i hi;rw[←e1 i hi,e,hp] at q;cases q
  rcases Nat.lt_or_ge i Z.length with zi|zi<;>rcases Nat.lt_or_ge j Z.length with zj|zj
  ·rw[e1 i zi,e1 j zj] at e;exact r.inj i j zi zj e
  ·have:j=Z.length:=by omega
   subst this;rw[e0] at e;exact absurd e (old i zi)
  ·have:i=Z.length:=by omega
   subst this;rw[e0] at e;exact absurd e.symm (old j zj)
  ·omega
 ·rcases Nat.lt_or_ge n Z.length with z|z
  ·rw[AAS z] at e;obtain⟨u,q,hq⟩:=r.obj n o' e;exact⟨u,by rw[e1 n z];exact kp _ _ q,by rw[e1 n z];exact hq.ext a⟩
  ·have hn:n=Z.length:=by
    have:=(AAT.mp e).1;simp at this;omega
   subst hn;rw[AAR (AAE _),AAw] at e;simp at e;subst e;exact⟨o,by rw[e0,Bw],by rw[e0];exact h.ext a⟩
theorem RelH.changed(r:RelH K Y Z H)(hn:n<Z.length)(h:ObjIs K Y Z.length H (Y n) m o):
  Ext Y Z.length H Y (Z.set n m).length (upd H (Y n) o)/\RelH K Y (Z.set n m) (upd H (Y n) o):=by
 have ne:∀i,i<Z.length->i≠n->Y i≠Y n:=λi hi hne e=>hne (r.inj i n hi hn e);have a:Ext Y Z.length H Y (Z.set n m).length (upd H (Y n) o):=⟨by simp,λ_ _=>rfl,λi h1 h2=>by simp at h2;omega,λq u e hq=>by rw[upd_ne (λz=>hq n hn z.symm)];exact e,r.muts,λi hi=>by
  by_cases z:i=n
  ·subst z;exact⟨o,Bw,h.mut⟩
  ·obtain⟨u,e,hu⟩:=r.muts i hi;exact⟨u,by rw[upd_ne (ne i hi z)];exact e,hu⟩⟩
 refine⟨a,λi j hi hj=>r.inj i j (by simpa using hi) (by simpa using hj),λi o' e=>?_⟩;by_cases z:i=n
 ·subst z;rw[List.getElem?_set_self hn] at e;cases e;exact⟨o,Bw,h.ext a⟩
 ·rw[AAo (Ne.symm z)] at e;have hi:i<Z.length:=(AAT.mp e).1;obtain⟨u,q,hq⟩:=r.obj i o' e;exact⟨u,by rw[upd_ne (ne i hi z)];exact q,hq.ext a⟩
structure RelS(K:KW)(Y:Nat->Addr)(k:Nat)(H:Hp)(B:Sl)(O:St):Prop where
 len:O.length=B.length
 get:∀(i:Nat) (d:D),B[i]?=some (some d)->∃v,O[i]?=some (some v)/\Is K Y k H d v
theorem RelS.ext(a:Ext Y k H Y' k' H')(r:RelS K Y k H B O):RelS K Y' k' H' B O:=⟨r.len,λi d e=>by
 obtain⟨v,e1,h⟩:=r.get i d e;exact⟨v,e1,h.ext a⟩⟩
theorem RelS.set(r:RelS K Y k H B O)(i:Nat)(h:Is K Y k H d v):RelS K Y k H (B.set i (some d)) (O.set i (some v)):=⟨by simp[r.len],λj e q=>by
 by_cases z:i=j
 ·subst z;have hi:i<B.length:=by
   have:=(AAT.mp q).1;simpa using this
  rw[List.getElem?_set_self hi] at q;cases q;exact⟨v,List.getElem?_set_self (by rw[r.len];exact hi),h⟩
 ·rw[AAo z] at q;obtain⟨u,e1,hu⟩:=r.get j e q;exact⟨u,by rw[AAo z];exact e1,hu⟩⟩
end
end Mi
namespace Mi
open PySem L2
noncomputable abbrev Exn:=Str×Option Nat
inductive Fl where
 |next|brk|cont|rt (d:D)|xc (x:Exn)
abbrev Aft(K:KW)(Y:Nat->Addr)(Z:Mh)(H:Hp)(Z':Mh)(φ:(Nat->Addr)->Hp->Prop):Prop:=
 ∀Y' H',Ext Y Z.length H Y' Z'.length H'->RelH K Y' Z' H'->φ Y' H'
noncomputable def tE(K:KW)(m:Sl->M D):TE:=λO H Q=>∃Y Z B d Z',RelH K Y Z H/\RelS K Y Z.length H B O/\m B Z=some (d,Z') /\
 Aft K Y Z H Z' λY' H'=>∀v,Is K Y' Z'.length H' d v->Q v H'
noncomputable def tT(K:KW)(m:Sl->M Bool):TT:=λO H Q=>∃Y Z B b Z',RelH K Y Z H/\RelS K Y Z.length H B O/\m B Z=some (b,Z') /\
 Aft K Y Z H Z' λ_ H'=>Q b H'
noncomputable def tL(K:KW)(m:Sl->M (List D)):TA:=λO H Q=>∃Y Z B ds Z',RelH K Y Z H/\RelS K Y Z.length H B O/\m B Z=some (ds,Z') /\
 Aft K Y Z H Z' λY' H'=>∀vs,IsL K Y' Z'.length H' ds vs->Q vs H'
noncomputable def FlP(K:KW)(Dn:Tr)(Y':Nat->Addr)(k:Nat)(H':Hp)(B':Sl)(O':St):Fl->Prop
 | .next=>Dn.nx O' H'
 | .brk=>Dn.bk O' H'
 | .cont=>Dn.ct O' H'
 | .rt d=>∀v,Is K Y' k H' d v->Dn.rt v H'
 | .xc _=>False
noncomputable def tSt(K:KW)(m:Sl->M (Fl×Sl)):TS:=λDn O H=>∃Y Z B f B' Z',RelH K Y Z H/\RelS K Y Z.length H B O/\m B Z=some ((f,B'),Z') /\
 Aft K Y Z H Z' λY' H'=>∀O',RelS K Y' Z'.length H' B' O'->FlP K Dn Y' Z'.length H' B' O' f
structure RE(X:Cx)(e:Expr)(m:Sl->M D):Prop where
 pe:PE X e (tE X.kw m)
structure RT(X:Cx)(e:Expr)(m:Sl->M Bool):Prop where
 pe:PT X e (tT X.kw m)
structure RW(X:Cx)(e:Expr)(m:Sl->M Bool):Prop where
 pe:PW X e (tT X.kw m)
structure RA(X:Cx)(es:List Expr)(m:Sl->M (List D)):Prop where
 pe:PA X es (tL X.kw m)
structure RS(X:Cx)(st:Stmt)(m:Sl->M (Fl×Sl)):Prop where
 pe:PS X st (tSt X.kw m)
structure RSs(X:Cx)(st:List Stmt)(m:Sl->M (Fl×Sl)):Prop where
 pe:PSs X st (tSt X.kw m)
section
variable{X:Cx}{e a b c:Expr}{es:List Expr}{pos:Pos}
theorem PE.wk{t t':TE}(h:PE X e t)(w:∀O H Q,t' O H Q->t O H Q):PE X e t':=λw5 s O H Q I q=>h w5 s O H Q I (w O H Q q)
theorem RE.wk{m:Sl->M D}{t:TE}(h:PE X e t)(w:∀O H Q,tE X.kw m O H Q->t O H Q):RE X e m:=⟨PE.wk h w⟩
theorem PT.wk{t t':TT}(h:PT X e t)(w:∀O H Q,t' O H Q->t O H Q):PT X e t':=λw5 s O H Q I q=>h w5 s O H Q I (w O H Q q)
theorem RT.wk{m:Sl->M Bool}{t:TT}(h:PT X e t)(w:∀O H Q,tT X.kw m O H Q->t O H Q):RT X e m:=⟨PT.wk h w⟩
theorem PW.wk{t t':TT}(h:PW X e t)(w:∀O H Q,t' O H Q->t O H Q):PW X e t':=λwh w5 s O H Q I q=>h wh w5 s O H Q I (w O H Q q)
theorem RW.wk{m:Sl->M Bool}{t:TT}(h:PW X e t)(w:∀O H Q,tT X.kw m O H Q->t O H Q):RW X e m:=⟨PW.wk h w⟩
theorem PA.wk{t t':TA}(h:PA X es t)(w:∀O H Q,t' O H Q->t O H Q):PA X es t':=λp w5 s O H Q I q=>h p w5 s O H Q I (w O H Q q)
theorem RA.wk{m:Sl->M (List D)}{t:TA}(h:PA X es t)(w:∀O H Q,tL X.kw m O H Q->t O H Q):RA X es m:=⟨PA.wk h w⟩
theorem PS.wk{st:Stmt}{t t':TS}(h:PS X st t)(w:∀D O H,t' D O H->t D O H):PS X st t':=λw5 s O H D I q=>h w5 s O H D I (w D O H q)
theorem RS.wk{m:Sl->M (Fl×Sl)}{st:Stmt}{t:TS}(h:PS X st t)(w:∀D O H,tSt X.kw m D O H->t D O H):RS X st m:=⟨PS.wk h w⟩
theorem PSs.wk{st:List Stmt}{t t':TS}(h:PSs X st t)(w:∀D O H,t' D O H->t D O H):PSs X st t':=λw5 s O H D I q=>h w5 s O H D I (w D O H q)
theorem RSs.wk{m:Sl->M (Fl×Sl)}{st:List Stmt}{t:TS}(h:PSs X st t)(w:∀D O H,tSt X.kw m D O H->t D O H):RSs X st m:=⟨PSs.wk h w⟩
theorem OpR.wk{f:Value->Value->Sem Value}{r r':R2}(h:OpR X f r)(w:∀x y H Q,r' x y H Q->r x y H Q):OpR X f r':=λw5 s O H x y v u Q I rx ry q=>h w5 s O H x y v u Q I rx ry (w x y H Q q)
noncomputable def HN:Expr->Bool
 | .Starred _ _=>true
 |_=>false
theorem BE{e:Expr}{es:List Expr}{env:Env}(h:HN e=false):starEach (e::es) env=(false,eval e env)::starEach es env:=by
 cases e<;>first|rfl|cases h
theorem DT{pos:Pos}{env:Env}:∀{es:List Expr},(es.all λe=>!HN e)=true->(backTo pos (starEach es env)).any (·.1)=false
 |[],_=>rfl
 |e::es,h=>by
  rw[List.all_cons,Bool.and_eq_true] at h;have h1:HN e=false:=by simpa using h.1
  have ih:=DT (pos:=pos) (env:=env) h.2;rw[BE h1];unfold backTo at ih ⊢;simpa using ih
noncomputable def AA(i:Nat):Sl->M D:=λB Z=>match B[i]? with
 |some (some d)=>some (d,Z)
 |_=>none
noncomputable def mC(d:D):Sl->M D:=λ_=>ret d
theorem AB(i:Nat){x:Str}(hN:X.N[i]?=some x:=by rfl)(hv:Vis X.env.scope x:=by first|exact Or.inl rfl|exact Or.inr (Or.inl rfl)|exact Or.inr (Or.inr rfl))(hd:(x==("__debug__" : Str))=false:=by decide)
  (hcd:(x==("__classdict__" : Str))=false:=by decide):RE X (.Name x pos) (AA i):=RE.wk (Xn hN hv hd hcd) λO H Q h=>by
 obtain⟨Y,Z,B,d,Z',R,S,e,q⟩:=h;unfold AA at e;split at e
 ·rename_i d' ed;cases e;obtain⟨v,e1,h1⟩:=S.get i _ ed;exact⟨v,e1,q Y H R.ext0 R v h1⟩
 ·cases e
theorem Pi{t:TE}{d:D}{v:V}(h:PE X e (tC v))(hd:∀Y k H,Is X.kw Y k H d v):RE X e (mC d):=RE.wk h λO H Q h=>by
 obtain⟨Y,Z,B,d,Z',R,S,e,q⟩:=h;cases e;exact q Y H R.ext0 R v (hd _ _ _)
theorem AE{i j}:RE X (.Constant (.int i) j pos) (mC (.int i)):=Pi (t:=λ_ _ _=>True) Xu λ_ _ _=>by unfold Is;rfl
theorem DQ{i j}:RE X (.Constant (.bool i) j pos) (mC (.bl i)):=Pi (t:=λ_ _ _=>True) Zk λ_ _ _=>by unfold Is;rfl
theorem CB{j}:RE X (.Constant .none j pos) (mC .non):=Pi (t:=λ_ _ _=>True) Xs λ_ _ _=>by unfold Is;rfl
theorem BC{i j}:RE X (.Constant (.str i) j pos) (mC (.str i)):=Pi (t:=λ_ _ _=>True) Xp λ_ _ _=>by unfold Is;rfl
theorem Uu{x:Str}{v:V}{u:Value}{d:D}(hm:X.mg x=some u)(r:RelV v u)(hd:∀Y k H,Is X.kw Y k H d v)(hg:Gl X x:=by rfl)(hdb:(x==("__debug__" : Str))=false:=by decide):RE X (.Name x pos) (mC d):=
 Pi (t:=λ_ _ _=>True) (U8 hg hm r hdb) hd
noncomputable def mOp(g:D->D->M D)(ma mb:Sl->M D):Sl->M D:=λB=>bnd (ma B) λx=>bnd (mb B) λy=>g x y
noncomputable def mUn(g:D->M D)(ma:Sl->M D):Sl->M D:=λB=>bnd (ma B) g
noncomputable def rM(K:KW)(g:D->D->M D):R2:=λx y H Q=>∃Y Z a b d Z',RelH K Y Z H/\Is K Y Z.length H a x/\Is K Y Z.length H b y/\g a b Z=some (d,Z') /\
 Aft K Y Z H Z' λY' H'=>∀v,Is K Y' Z'.length H' d v->Q v H'
noncomputable def rM1(K:KW)(g:D->M D):V->Hp->VK->Prop:=λx H Q=>∃Y Z a d Z',RelH K Y Z H/\Is K Y Z.length H a x/\g a Z=some (d,Z') /\
 Aft K Y Z H Z' λY' H'=>∀v,Is K Y' Z'.length H' d v->Q v H'
noncomputable def rMA(K:KW)(g:List D->M D):List V->Hp->VK->Prop:=λxs H Q=>∃Y Z as d Z',RelH K Y Z H/\IsL K Y Z.length H as xs/\g as Z=some (d,Z') /\
 Aft K Y Z H Z' λY' H'=>∀v,Is K Y' Z'.length H' d v->Q v H'
theorem OH{K:KW}{g:D->D->M D}{ma mb:Sl->M D}{O:St}{H:Hp}{Q:VK}(h:tE K (mOp g ma mb) O H Q):tOp (rM K g) (tE K ma) (tE K mb) O H Q:=by
 obtain⟨Y,Z,B,d,Z',R,S,e,q⟩:=h;obtain⟨x,w6,e1,e⟩:=AF e;obtain⟨y,w9,e2,e3⟩:=AF e;refine⟨Y,Z,B,x,w6,R,S,e1,λx4 H1 E1 R1 v1 i1=>?_⟩;refine⟨x4,w6,B,y,w9,R1,S.ext E1,e2,λx5 H2 E2 R2 v2 i2=>?_⟩;exact⟨x5,w9,x,y,d,Z',R2,i1.ext E2,i2,e3,λx9 H3 E3 R3 v3 i3=>q x9 H3 ((E1.trans E2).trans E3) R3 v3 i3⟩
theorem ZF{K:KW}{g:D->M D}{ma:Sl->M D}{O:St}{H:Hp}{Q:VK}(h:tE K (mUn g ma) O H Q):tUn (rM1 K g) (tE K ma) O H Q:=by
 obtain⟨Y,Z,B,d,Z',R,S,e,q⟩:=h;obtain⟨x,w6,e1,e⟩:=AF e;refine⟨Y,Z,B,x,w6,R,S,e1,λx4 H1 E1 R1 v1 i1=>?_⟩;exact⟨x4,w6,x,d,Z',R1,i1,e,λx9 H3 E3 R3 v3 i3=>q x9 H3 (E1.trans E3) R3 v3 i3⟩
theorem Ag{op:Operator}{g:D->D->M D}{ma mb:Sl->M D}(ho:OpR X (binaryOp op) (rM X.kw g))(ha:RE X a ma)(hb:RE X b mb):RE X (.BinOp a op b pos) (mOp g ma mb):=RE.wk (Zh ho ha.pe hb.pe) λ_ _ _ h=>OH h
theorem RY{op:UnaryOp}{g:D->M D}{ma:Sl->M D}(ho:UnR X (unaryOp op) (rM1 X.kw g))(ha:RE X a ma):RE X (.UnaryOp op a pos) (mUn g ma):=RE.wk (Zg ho ha.pe) λ_ _ _ h=>ZF h
theorem DV{op:CmpOp}{g:D->D->M D}{ma mb:Sl->M D}(ho:OpR X (compareOp op) (rM X.kw g))(ha:RE X a ma)(hb:RE X b mb)(hm:behindInMarks op b=false:=by first|exact SK _|rfl):RE X (.Compare a [op] [b] pos) (mOp g ma mb):=
 RE.wk (VA ho ha.pe hb.pe hm) λ_ _ _ h=>OH h
theorem AR{g:D->D->M D}{ma mb:Sl->M D}(ho:IxR X (rM X.kw g))(ha:RE X a ma)(hb:RE X b mb)(hs:PR b:=by exact λ_ _=>rfl):RE X (.Subscript a b pos) (mOp g ma mb):=RE.wk (Zi ho ha.pe hb.pe hs) λ_ _ _ h=>OH h
noncomputable def asB:D->M Bool
 | .bl b=>ret b
 |_=>Bb
noncomputable def AN(m:Sl->M D):Sl->M Bool:=λB=>bnd (m B) asB
theorem Kk{K:KW}{m:Sl->M D}{O:St}{H:Hp}{Q:Bool->Hp->Prop}(h:tT K (AN m) O H Q):tE K m O H λx H'=>∃k,x=.bl k/\Q k H':=by
 obtain⟨Y,Z,B,b,Z',R,S,e,q⟩:=h;obtain⟨x,w6,e1,e⟩:=AF e;refine⟨Y,Z,B,x,w6,R,S,e1,λx4 H1 E1 R1 v1 i1=>?_⟩;cases x with
 |bl k=>
  cases e;unfold Is at i1;exact⟨b,i1,q x4 H1 E1 R1⟩
 |_=>cases e
theorem AY{op:CmpOp}{g:D->D->M D}{ma mb:Sl->M D}(ho:OpR X (compareOp op) (rM X.kw g))(ha:RE X a ma)(hb:RE X b mb)(hm:behindInMarks op b=false:=by first|exact SK _|rfl):RT X (.Compare a [op] [b] pos) (AN (mOp g ma mb)):=
 RT.wk (Uz ho ha.pe hb.pe hm) λO H Q h=>OH (Q:=λx H'=>∃k,x=.bl k/\Q k H') (Kk h)
theorem FB{m:Sl->M D}(h:RE X e m)(he:∀whole,isTrue e X.env whole=(do let v ←whole;standAt e.pos;holding [v] (truthy v)):=by intro _;rfl):RT X e (AN m):=
 RT.wk (Xf h.pe he) λ_ _ _ q=>Kk q
noncomputable def Co(ma mb:Sl->M Bool):Sl->M Bool:=λB=>bnd (ma B) λx=>if x=true then mb B else ret false
noncomputable def mOr(ma mb:Sl->M Bool):Sl->M Bool:=λB=>bnd (ma B) λx=>if x=true then ret true else mb B
noncomputable def Du(ma:Sl->M Bool):Sl->M Bool:=λB=>bnd (ma B) λx=>ret (!x)
theorem EW{ma:Sl->M Bool}(ha:RT X a ma):RT X (.UnaryOp .Not a pos) (Du ma):=RT.wk (Xg ha.pe) λO H Q h=>by
 obtain⟨Y,Z,B,b,Z',R,S,e,q⟩:=h;obtain⟨x,w6,e1,e⟩:=AF e;cases e;exact⟨Y,Z,B,x,_,R,S,e1,q⟩
theorem C2{ma:Sl->M Bool}(ha:RT X a ma):RW X (.BoolOp .And [a] pos) ma:=⟨Uy ha.pe⟩
theorem RM{ma:Sl->M Bool}(ha:RT X a ma):RW X (.BoolOp .Or [a] pos) ma:=⟨Xd ha.pe⟩
theorem DE{rest:List Expr}{ma mb:Sl->M Bool}(ha:RT X a ma)(hb:RW X (.BoolOp .And (b::rest) pos) mb):RW X (.BoolOp .And (a::b::rest) pos) (Co ma mb):=RW.wk (Xe ha.pe hb.pe) λO H Q h=>by
 obtain⟨Y,Z,B,z,Z',R,S,e,q⟩:=h;obtain⟨x,w6,e1,e⟩:=AF e;refine⟨Y,Z,B,x,w6,R,S,e1,λx4 H1 E1 R1=>?_⟩;cases x with
 |true=>exact⟨x4,w6,B,z,Z',R1,S.ext E1,e,λx5 H2 E2 R2=>q x5 H2 (E1.trans E2) R2⟩
 |false=>cases e;exact q x4 H1 E1 R1
theorem RN{rest:List Expr}{ma mb:Sl->M Bool}(ha:RT X a ma)(hb:RW X (.BoolOp .Or (b::rest) pos) mb):RW X (.BoolOp .Or (a::b::rest) pos) (mOr ma mb):=RW.wk (Zc ha.pe hb.pe) λO H Q h=>by
 obtain⟨Y,Z,B,z,Z',R,S,e,q⟩:=h;obtain⟨x,w6,e1,e⟩:=AF e;refine⟨Y,Z,B,x,w6,R,S,e1,λx4 H1 E1 R1=>?_⟩;cases x with
 |true=>cases e;exact q x4 H1 E1 R1
 |false=>exact⟨x4,w6,B,z,Z',R1,S.ext E1,e,λx5 H2 E2 R2=>q x5 H2 (E1.trans E2) R2⟩
theorem RW.rt{m:Sl->M Bool}(h:RW X e m):RT X e m:=⟨h.pe.pt⟩
noncomputable def mIf(mc:Sl->M Bool)(ma mb:Sl->M D):Sl->M D:=λB=>bnd (mc B) λx=>if x=true then ma B else mb B
theorem Ra{mc:Sl->M Bool}{ma mb:Sl->M D}(hc:RT X c mc)(ha:RE X a ma)(hb:RE X b mb):RE X (.IfExp c a b pos) (mIf mc ma mb):=RE.wk (Ru hc.pe ha.pe hb.pe) λO H Q h=>by
 obtain⟨Y,Z,B,z,Z',R,S,e,q⟩:=h;obtain⟨x,w6,e1,e⟩:=AF e;refine⟨Y,Z,B,x,w6,R,S,e1,λx4 H1 E1 R1=>?_⟩;cases x with
 |true=>exact⟨x4,w6,B,z,Z',R1,S.ext E1,e,λx5 H2 E2 R2=>q x5 H2 (E1.trans E2) R2⟩
 |false=>exact⟨x4,w6,B,z,Z',R1,S.ext E1,e,λx5 H2 E2 R2=>q x5 H2 (E1.trans E2) R2⟩
noncomputable def Ce(ma mb:Sl->M D):Sl->M D:=λB=>bnd (ma B) λx=>bnd (asB x) λc=>if c=true then mb B else ret (.bl false)
noncomputable def Hf(ma:Sl->M D):Sl->M D:=λB=>bnd (ma B) λx=>bnd (asB x) λc=>ret (.bl (!c))
theorem JW{x:D}{Z w6:Mh}{c:Bool}(h:asB x Z=some (c,w6)):x=.bl c/\w6=Z:=by
 cases x with
 |bl k=>cases h;exact⟨rfl,rfl⟩
 |_=>cases h
theorem Fa{op}{m:Sl->M D}(h:RE X a m):RE X (.BoolOp op [a] pos) m:=⟨Xq h.pe⟩
theorem DW{rest:List Expr}{ma mb:Sl->M D}(ha:RE X a ma)(hb:RE X (.BoolOp .And (b::rest) pos) mb):RE X (.BoolOp .And (a::b::rest) pos) (Ce ma mb):=RE.wk (Xx ha.pe hb.pe) λO H Q h=>by
 obtain⟨Y,Z,B,z,Z',R,S,e,q⟩:=h;obtain⟨x,w6,e1,e⟩:=AF e;obtain⟨c,w9,e2,e⟩:=AF e;obtain⟨rfl,rfl⟩:=JW e2;refine⟨Y,Z,B,_,w9,R,S,e1,λx4 H1 E1 R1 v1 i1=>⟨c,by unfold Is at i1;exact i1,?_⟩⟩;cases c with
 |true=>exact⟨x4,w9,B,z,Z',R1,S.ext E1,e,λx5 H2 E2 R2=>q x5 H2 (E1.trans E2) R2⟩
 |false=>cases e;exact q x4 H1 E1 R1 _ (by unfold Is;rfl)
theorem Xa{ma:Sl->M D}(ha:RE X a ma):RE X (.UnaryOp .Not a pos) (Hf ma):=RE.wk (Xr ha.pe) λO H Q h=>by
 obtain⟨Y,Z,B,z,Z',R,S,e,q⟩:=h;obtain⟨x,w6,e1,e⟩:=AF e;obtain⟨c,w9,e2,e⟩:=AF e;obtain⟨rfl,rfl⟩:=JW e2;cases e;exact⟨Y,Z,B,_,_,R,S,e1,λx4 H1 E1 R1 v1 i1=>⟨c,by unfold Is at i1;exact i1,q x4 H1 E1 R1 _ (by unfold Is;rfl)⟩⟩
noncomputable def Db(g g':D->D->M D)(ma mb mc:Sl->M D):Sl->M D:=λB=>bnd (ma B) λx=>bnd (mb B) λy=>bnd (g x y) λz=>bnd (asB z) λk=>if k=true then bnd (mc B) λw=>g' y w else ret (.bl false)
noncomputable def AL:Sl->M (List D):=λ_=>ret []
noncomputable def AC(m:Sl->M D)(r:Sl->M (List D)):Sl->M (List D):=λB=>bnd (m B) λx=>bnd (r B) λxs=>ret (x::xs)
theorem AI:RA X [] AL:=RA.wk HK λO H Q h=>by
 obtain⟨Y,Z,B,z,Z',R,S,e,q⟩:=h;cases e;exact q Y H R.ext0 R [] .nil
theorem AD{m:Sl->M D}{r:Sl->M (List D)}(h:RE X e m)(hr:RA X es r)(hs:starEach (e::es) X.env=(false,eval e X.env)::starEach es X.env:=by exact BE rfl):RA X (e::es) (AC m r):=RA.wk (Fv h.pe hr.pe hs) λO H Q h=>by
 obtain⟨Y,Z,B,z,Z',R,S,e,q⟩:=h;obtain⟨x,w6,e1,e⟩:=AF e;obtain⟨xs,w9,e2,e⟩:=AF e;cases e;exact⟨Y,Z,B,x,w6,R,S,e1,λx4 H1 E1 R1 v1 i1=>⟨x4,w6,B,xs,_,R1,S.ext E1,e2,λx5 H2 E2 R2 vs i2=>q x5 H2 (E1.trans E2) R2 _ (.cons (i1.ext E2) i2)⟩⟩
noncomputable def lim(n:Nat):M Unit:=λZ=>if n<=sizeLine then some ((),Z) else none
theorem Eo{n:Nat}{Z w6:Mh}{u:Unit}(h:lim n Z=some (u,w6)):n<=sizeLine/\w6=Z:=by
 unfold lim at h;split at h
 ·rename_i hn;cases h;exact⟨hn,rfl⟩
 ·cases h
theorem GH{n:Nat}(h:n<=sizeLine)(Z:Mh):lim n Z=some ((),Z):=if_pos h
noncomputable def Bf(ds:List D):M D:=bnd (lim ds.length) λ_=>ret (.tup ds)
noncomputable def Bn(ds:List D):M D:=bnd (lim ds.length) λ_=>ret (.lst ds)
noncomputable def DJ(ds:List D):M D:=bnd (lim ds.length) λ_=>λZ=>some (.ref Z.length,Z++[.lst ds])
noncomputable def AG(f:List D->M D)(m:Sl->M (List D)):Sl->M D:=λB=>bnd (m B) f
theorem Oc{K:KW}{Y:Nat->Addr}{Z Z':Mh}{H:Hp}{ds:List D}{vs:List V}{d:D}{Q:VK}(R:RelH K Y Z H)(i:IsL K Y Z.length H ds vs)(e:Bf ds Z=some (d,Z'))(q:Aft K Y Z H Z' λY' H'=>∀v,Is K Y' Z'.length H' d v->Q v H'):
  vs.length<=sizeLine/\∀p,H p=none->Q (.ref p) (upd H p (.tup vs)):=by
 obtain⟨u,w6,e1,e2⟩:=AF e;clear e;obtain⟨hl,e3⟩:=Eo e1;cases e2;cases e3;refine⟨by rw[i.length];exact hl,λp hp=>?_⟩;obtain⟨E1,R1⟩:=R.laid (.tup vs) hp;exact q Y _ E1 R1 _ (by unfold Is;exact⟨p,vs,rfl,SqT.of Bw,i.ext E1⟩)
theorem Hy{K:KW}{Y:Nat->Addr}{Z Z':Mh}{H:Hp}{ds:List D}{vs:List V}{d:D}{Q:VK}(R:RelH K Y Z H)(i:IsL K Y Z.length H ds vs)(e:Bn ds Z=some (d,Z'))(q:Aft K Y Z H Z' λY' H'=>∀v,Is K Y' Z'.length H' d v->Q v H'):
  vs.length<=sizeLine/\∀p,H p=none->Q (.ref p) (upd H p (.lst vs)):=by
 obtain⟨u,w6,e1,e2⟩:=AF e;clear e;obtain⟨hl,e3⟩:=Eo e1;cases e2;cases e3;refine⟨by rw[i.length];exact hl,λp hp=>?_⟩;obtain⟨E1,R1⟩:=R.laid (.lst vs) hp;have ho:∀n,n<Z.length->Y n≠p:=λn hn z=>by
  obtain⟨o,e,_⟩:=R.muts n hn;rw[z,hp] at e;cases e
 exact q Y _ E1 R1 _ (by unfold Is;exact⟨p,vs,rfl,Bw,ho,i.ext E1⟩)
theorem Og{K:KW}{Y:Nat->Addr}{Z Z':Mh}{H:Hp}{ds:List D}{vs:List V}{d:D}{Q:VK}(R:RelH K Y Z H)(i:IsL K Y Z.length H ds vs)(e:DJ ds Z=some (d,Z'))(q:Aft K Y Z H Z' λY' H'=>∀v,Is K Y' Z'.length H' d v->Q v H'):
  vs.length<=sizeLine/\∀p,H p=none->Q (.ref p) (upd H p (.lst vs)):=by
 obtain⟨u,w6,e1,e2⟩:=AF e;clear e;obtain⟨hl,e3⟩:=Eo e1;cases e2;cases e3;refine⟨by rw[i.length];exact hl,λp hp=>?_⟩;obtain⟨Y',E1,R1,e0⟩:=R.grown (m:=.lst ds) hp ⟨vs,rfl,i⟩;exact q Y' _ E1 R1 _ (by unfold Is;exact⟨by simp,by rw[e0]⟩)
theorem Ft{K:KW}{f:List D->M D}{m:Sl->M (List D)}{O:St}{H:Hp}{Q:VK}{R:List V->Hp->Prop}(h:tE K (AG f m) O H Q)
  (hf:∀Y Z Z' H ds vs d,RelH K Y Z H->IsL K Y Z.length H ds vs->f ds Z=some (d,Z')->(Aft K Y Z H Z' λY' H'=>∀v,Is K Y' Z'.length H' d v->Q v H')->R vs H):tL K m O H R:=by
 obtain⟨Y,Z,B,z,Z',S1,S,e,q⟩:=h;obtain⟨ds,w6,e1,e⟩:=AF e;exact⟨Y,Z,B,ds,w6,S1,S,e1,λx4 H1 E1 R1 vs iv=>hf x4 w6 Z' H1 ds vs z R1 iv e λx5 H2 E2 R2=>q x5 H2 (E1.trans E2) R2⟩
theorem Bg{x1}{m:Sl->M (List D)}(h:RA X es m):RE X (.Tuple es x1 pos) (AG Bf m):=RE.wk (Xo h.pe) λ_ _ _ q=>Ft q λ_ _ _ _ _ _ _ R i e q=>Oc R i e q
theorem CY{m:Sl->M (List D)}(h:RA X es m):RE X (.List es pos) (AG Bn m):=RE.wk (Rt h.pe) λ_ _ _ q=>Ft q λ_ _ _ _ _ _ _ R i e q=>Hy R i e q
theorem C4{m:Sl->M (List D)}(h:RA X es m):RE X (.List es pos) (AG DJ m):=RE.wk (Rt h.pe) λ_ _ _ q=>Ft q λ_ _ _ _ _ _ _ R i e q=>Og R i e q
theorem Ac{id:String}{x:Str}{g:List D->M D}{m:Sl->M (List D)}{p:Pos}(hc:Bo X (.builtin id) (rMA X.kw g))(hm:X.mg x=none)(hv:bootBuiltins x=some (.builtin id))(ha:RA X (e::es) m)(hg:Gl X x:=by rfl)(hn:x ≠ "__name__" := by decide)(hdb:(x==("__debug__" : Str))=false:=by decide)
  (he:starEach (e::es) X.env=(false,eval e X.env)::starEach es X.env:=by exact BE rfl) (hpl:(backTo pos (starEach es X.env)).any (·.1)=false:=by exact DT rfl):RE X (.Call (.Name x p) (e::es) [] pos) (AG g m):=
 RE.wk (MA hc hg hm hv ha.pe hn hdb he hpl) λ_ _ _ q=>Ft q λY Z Z' H ds vs d R i e q=>⟨Y,Z,ds,d,Z',R,i,e,q⟩
theorem CV{T:String}{x:Str}{g:List D->M D}{m:Sl->M (List D)}{p:Pos}(hc:Bo X (.type T) (rMA X.kw g))(hm:X.mg x=none)(hv:bootBuiltins x=some (.type T))(ha:RA X (e::es) m)(hg:Gl X x:=by rfl)(hn:x ≠ "__name__" := by decide)(hdb:(x==("__debug__" : Str))=false:=by decide)
  (he:starEach (e::es) X.env=(false,eval e X.env)::starEach es X.env:=by exact BE rfl) (hpl:(backTo pos (starEach es X.env)).any (·.1)=false:=by exact DT rfl):RE X (.Call (.Name x p) (e::es) [] pos) (AG g m):=
 RE.wk (Ej hc hg hm hv ha.pe hn hdb he hpl) λ_ _ _ q=>Ft q λY Z Z' H ds vs d R i e q=>⟨Y,Z,ds,d,Z',R,i,e,q⟩
noncomputable def spM(K:KW)(n:Nat)(φ:List D->M D):Sp:=λvs H Q _=>vs.length=n/\rMA K φ vs H Q
theorem Uw{n k:Nat}{φ:List D->M D}{f:Addr}{fd:FuncData}{ps:List Str}{x:Str}{m:Sl->M (List D)}{p:Pos}(F:FnOk X.prog X.w X.kw X.mg X.base CX0 k f fd ps (spM X.kw n φ))(hr:Room k X.A)(hm:X.mg x=some (.ref f))(hk:PySem.W.keepIn X.kw (.ref f)=true)(hb:Binds X.kw fd ps [])
  (hφ:∀ds Z r,φ ds Z=some r->ds.length=n) (ha:RA X (e::es) m) (hg:Gl X x:=by rfl) (hdb:(x==("__debug__" : Str))=false:=by decide) (he:starEach (e::es) X.env=(false,eval e X.env)::starEach es X.env:=by exact BE rfl) (hpl:(backTo pos (starEach es X.env)).any (·.1)=false:=by exact DT rfl) :
  RE X (.Call (.Name x p) (e::es) [] pos) (AG φ m):=
 RE.wk (VB F hr hg hm hk hb .nil Zl ha.pe hdb he hpl) λ_ _ _ q=>Ft q λY Z Z' H ds vs d R i e q=>by
  rw[AAa];exact⟨by rw[i.length];exact hφ ds Z _ e,Y,Z,ds,d,Z',R,i,e,q⟩
end
section
variable{X:Cx}{e a c tg iter:Expr}{es:List Expr}{pos:Pos}{st:Stmt}{rest body:List Stmt}
noncomputable def BP:Sl->M (Fl×Sl):=λB=>ret (.next,B)
noncomputable def AS(m1 m2:Sl->M (Fl×Sl)):Sl->M (Fl×Sl):=λB=>bnd (m1 B) λr=>match r.1 with
 | .next=>m2 r.2
 |f=>ret (f,r.2)
theorem Aw:RSs X [] BP:=RSs.wk U1 λDn O H h=>by
 obtain⟨Y,Z,B,f,B',Z',R,S,e,q⟩:=h;cases e;exact q Y H R.ext0 R O S
theorem AH(h1:RS X st m1)(h2:RSs X rest m2):RSs X (st::rest) (AS m1 m2):=RSs.wk (Rl h1.pe h2.pe) λDn O H h=>by
 obtain⟨Y,Z,B,f,B',Z',R,S,e,q⟩:=h;obtain⟨⟨f1,x3⟩,w6,e1,e⟩:=AF e;refine⟨Y,Z,B,f1,x3,w6,R,S,e1,λx4 H1 E1 R1 u9 S1=>?_⟩;cases f1 with
 |next=>exact⟨x4,w6,x3,f,B',Z',R1,S1,e,λx5 H2 E2 R2=>q x5 H2 (E1.trans E2) R2⟩
 |brk=>cases e;exact q x4 H1 E1 R1 u9 S1
 |cont=>cases e;exact q x4 H1 E1 R1 u9 S1
 |rt d=>cases e;exact q x4 H1 E1 R1 u9 S1
 |xc x=>cases e;exact q x4 H1 E1 R1 u9 S1
theorem AM(h:RS X st m):RSs X [st] m:=⟨U0 h.pe⟩
noncomputable def BI(m:Sl->M D):Sl->M (Fl×Sl):=λB=>bnd (m B) λ_=>ret (.next,B)
theorem BX(h:RE X e m)(hs:swapsWith e none pos.line X.env=pure false:=by rfl):RS X (.Expr e pos) (BI m):=RS.wk (U2 h.pe hs) λDn O H h=>by
 obtain⟨Y,Z,B,f,B',Z',R,S,e,q⟩:=h;obtain⟨x,w6,e1,e⟩:=AF e;cases e;exact⟨Y,Z,_,x,_,R,S,e1,λx4 H1 E1 R1 v i1=>q x4 H1 E1 R1 O (S.ext E1)⟩
noncomputable def Az(m:Sl->M D):Sl->M (Fl×Sl):=λB=>bnd (m B) λd=>ret (.rt d,B)
theorem Ak(h:RE X e m):RS X (.Return (some e) pos) (Az m):=RS.wk (Xi h.pe) λDn O H h=>by
 obtain⟨Y,Z,B,f,B',Z',R,S,e,q⟩:=h;obtain⟨x,w6,e1,e⟩:=AF e;cases e;exact⟨Y,Z,_,x,_,R,S,e1,λx4 H1 E1 R1 v i1=>q x4 H1 E1 R1 O (S.ext E1) v i1⟩
noncomputable def sIf(mc:Sl->M Bool)(m1 m2:Sl->M (Fl×Sl)):Sl->M (Fl×Sl):=λB=>bnd (mc B) λx=>if x=true then m1 B else m2 B
theorem BA(hc:RT X c mc)(h1:RSs X body m1)(h2:RSs X rest m2):RS X (.If c body rest pos) (sIf mc m1 m2):=RS.wk (Zd hc.pe h1.pe h2.pe) λDn O H h=>by
 obtain⟨Y,Z,B,f,B',Z',R,S,e,q⟩:=h;obtain⟨x,w6,e1,e⟩:=AF e;refine⟨Y,Z,B,x,w6,R,S,e1,λx4 H1 E1 R1=>?_⟩;cases x with
 |true=>exact⟨x4,w6,B,f,B',Z',R1,S.ext E1,e,λx5 H2 E2 R2=>q x5 H2 (E1.trans E2) R2⟩
 |false=>exact⟨x4,w6,B,f,B',Z',R1,S.ext E1,e,λx5 H2 E2 R2=>q x5 H2 (E1.trans E2) R2⟩
noncomputable def ED:Sl->M (Fl×Sl):=λ_=>Bb
theorem Ic:RS X st ED:=RS.wk Rn λDn O H h=>by
 obtain⟨Y,Z,B,f,B',Z',R,S,e,q⟩:=h;cases e
noncomputable def tG(K:KW)(bf:D->Sl->M Sl):TG:=λv O H Q=>∃Y Z B d B' Z',RelH K Y Z H/\RelS K Y Z.length H B O/\Is K Y Z.length H d v/\bf d B Z=some (B',Z') /\
 Aft K Y Z H Z' λY' H'=>∀O',RelS K Y' Z'.length H' B' O'->Q O' H'
structure RG(X:Cx)(tg:Expr)(bf:D->Sl->M Sl):Prop where
 pe:PG X tg (tG X.kw bf)
theorem PG.wk(h:PG X tg t)(w:∀v O H Q,t' v O H Q->t v O H Q):PG X tg t':=λw5 s O H v u Q I r q=>h w5 s O H v u Q I r (w v O H Q q)
theorem RG.wk(h:PG X tg t)(w:∀v O H Q,tG X.kw bf v O H Q->t v O H Q):RG X tg bf:=⟨PG.wk h w⟩
noncomputable def AO(i:Nat):D->Sl->M Sl:=λd B=>ret (B.set i (some d))
theorem Kl(h:tG K (AO i) v O H Q):Hi i v O H Q:=by
 obtain⟨Y,Z,B,d,B',Z',R,S,i1,e,q⟩:=h;cases e;exact q Y H R.ext0 R _ (S.set i i1)
theorem FD(i:Nat)(hN:X.N.Nodup)(hi:X.N[i]?=some x:=by rfl)(hx:Loc X.env.scope x:=by first|exact Or.inl rfl|exact Or.inr rfl)(hf:X.fn x=true∨X.env.scope.names.lookup x=some .local:=by first|exact .inl rfl|exact .inr rfl|assumption):RG X (.Name x pos) (AO i):=
 RG.wk (Aq hN hi hx hf) λ_ _ _ _ h=>Kl h
noncomputable def GO:List Nat->List D->Sl->M Sl
 |[],[],B=>ret B
 |i::is,d::ds,B=>bnd (AO i d B) λx3=>GO is ds x3
 |_,_,_=>Bb
noncomputable def CA(is:List Nat):D->Sl->M Sl
 | .tup ds,B=>if ds.length=is.length then GO is ds B else Bb
 |_,_=>Bb
noncomputable def Fi:List Nat->TGs
 |[]=>aA
 |i::is=>WM (Hi i) (Fi is)
theorem HR:∀{is:List Nat} {ds:List D} {vs:List V} {B B':Sl} {O:St} {Y:Nat->Addr} {Z Z':Mh} {H:Hp} {Q:St->Hp->Prop},RelH K Y Z H->RelS K Y Z.length H B O->IsL K Y Z.length H ds vs->GO is ds B Z=some (B',Z')->
  (Z'=Z->∀O',RelS K Y Z.length H B' O'->Q O' H)->Fi is vs O H Q
 |[],[],_,_,_,_,_,_,_,_,_,R,S,i,e,q=>by
  cases e;unfold IsL at i;subst i;exact⟨rfl,q rfl _ S⟩
 |_::is,_::ds,_,B,B',O,Y,Z,Z',H,Q,R,S,i,e,q=>by
  unfold IsL at i;obtain⟨v,vs',rfl,i1,i2⟩:=i;exact⟨v,vs',rfl,HR (is:=is) (ds:=ds) R (S.set _ i1) i2 e q⟩
 |[],_::_,_,_,_,_,_,_,_,_,_,_,_,_,e,_=>by cases e
 |_::_,[],_,_,_,_,_,_,_,_,_,_,_,_,e,_=>by cases e
theorem KY:∀{is:List Nat} {ds:List D} {B B':Sl} {Z Z':Mh},GO is ds B Z=some (B',Z')->Z'=Z
 |[],[],_,_,_,_,e=>by cases e;rfl
 |_::is,_::ds,_,_,_,_,e=>KY (is:=is) (ds:=ds) e
 |[],_::_,_,_,_,_,e=>by cases e
 |_::_,[],_,_,_,_,e=>by cases e
theorem FC(hc:X.calm=true)(h:PGs X es (Fi is))(hn:(assignEach es X.env).length=is.length:=by rfl)(hst:(assignEach es X.env).findIdx? (·.1)=none:=by rfl):RG X (.Tuple es k pos) (CA is):=
 RG.wk (HJ hc h hn hst) λv O H Q h=>by
  obtain⟨Y,Z,B,d,B',Z',R,S,i1,e,q⟩:=h;cases d with
  |tup ds=>
   unfold Is at i1;obtain⟨p,vs,rfl,h1,h2⟩:=i1;have e':(if ds.length=is.length then GO is ds B else Bb) Z=some (B',Z'):=e;by_cases hl:ds.length=is.length
   ·rw[if_pos hl] at e';have e:=e';refine⟨p,vs,rfl,h1,by rw[h2.length,hl],HR R S h2 e λz O' S'=>?_⟩;subst z;exact q Y H R.ext0 R O' S'
   ·rw[if_neg hl] at e';cases e'
  |_=>cases e
noncomputable def AW(m:Sl->M D)(bf:D->Sl->M Sl):Sl->M (Fl×Sl):=λB=>bnd (m B) λd=>bnd (bf d B) λB'=>ret (.next,B')
theorem OG(hg:∀v H Q,tG K bf v O H Q->g v O H Q)(h:tSt K (AW m bf) Dn O H):Ug (tE K m) g Dn O H:=by
 obtain⟨Y,Z,B,f,B',Z',R,S,e,q⟩:=h;obtain⟨x,w6,e1,e⟩:=AF e;obtain⟨x3,w9,e2,e⟩:=AF e;cases e;exact⟨Y,Z,B,x,w6,R,S,e1,λx4 H1 E1 R1 v i1=>hg _ _ _ ⟨x4,w6,B,x,_,_,R1,S.ext E1,i1,e2,λx5 H2 E2 R2 O' S'=>q x5 H2 (E1.trans E2) R2 O' S'⟩⟩
theorem AU(i:Nat)(hN:X.N.Nodup)(he:RE X e m)(hi:X.N[i]?=some x:=by rfl)(hx:Loc X.env.scope x:=by first|exact Or.inl rfl|exact Or.inr rfl)(hs:swapsWith e (some (.Name x pos')) pos.line X.env=pure false:=by rfl)(hf:X.fn x=true∨X.env.scope.names.lookup x=some .local:=by first|exact .inl rfl|exact .inr rfl|assumption):
  RS X (.Assign [.Name x pos'] e pos) (AW m (AO i)):=RS.wk (Xh hN hi hx he.pe hs hf) λ_ _ _ h=>OG (λ_ _ _ q=>Kl q) h
theorem Ie(he:RE X e m)(hg:RG X tg bf)(hs:swapsWithSole [tg] e pos.line X.env=pure false:=by rfl)(hw:swappedStores [tg] e X.env=pure none:=by rfl)
  (h1:(assignEach [tg] X.env).map (·.2)=[assign tg X.env]:=by rfl):RS X (.Assign [tg] e pos) (AW m bf):=RS.wk (Xk he.pe hg.pe hs hw h1) λ_ _ _ h=>OG (λ_ _ _ q=>q) h
noncomputable def GP(mc:Sl->M Bool)(mb:Sl->M (Fl×Sl)):Nat->Sl->M (Fl×Sl)
 |0,_=>Bb
 |n+1,B=>bnd (mc B) λx=>if x=true then bnd (mb B) λr=>match r.1 with
   | .next=>GP mc mb n r.2
   | .cont=>GP mc mb n r.2
   | .brk=>ret (.next,r.2)
   | .rt d=>ret (.rt d,r.2)
   | .xc x=>ret (.xc x,r.2)
  else ret (.next,B)
noncomputable def FY(n:Nat)(mc:Sl->M Bool)(mb:Sl->M (Fl×Sl)):Sl->M (Fl×Sl):=GP mc mb n
theorem Ib(n:Nat)(hp:PassesOwn (model X.prog X.w) X.A X.env X.xe)(hc:RT X c mc)(hb:RSs X body mb):RS X (.While c body [] pos) (FY n mc mb):=RS.wk (Rm hp hc.pe hb.pe) λDn O H h=>by
 refine⟨λn O H=>tSt X.kw (GP mc mb n) Dn O H,⟨n,h⟩,?_⟩;intro n O H h;obtain⟨Y,Z,B,f,B',Z',R,S,e,q⟩:=h;cases n with
 |zero=>cases e
 |succ n=>
  obtain⟨x,w6,e1,e⟩:=AF e;refine⟨Y,Z,B,x,w6,R,S,e1,λx4 H1 E1 R1=>?_⟩;cases x with
  |false=>cases e;exact q x4 H1 E1 R1 O (S.ext E1)
  |true=>
   obtain⟨⟨f2,x6⟩,w9,e2,e⟩:=AF e;refine⟨λO' H'=>tSt X.kw (GP mc mb n) Dn O' H',λO' H' z=>⟨n,Nat.lt_succ_self n,z⟩,?_⟩;refine⟨x4,w6,B,f2,x6,w9,R1,S.ext E1,e2,λx5 H2 E2 R2 u6 S2=>?_⟩;have E12:=E1.trans E2;cases f2 with
   |next=>exact⟨x5,w9,x6,f,B',Z',R2,S2,e,λx9 H3 E3 R3=>q x9 H3 (E12.trans E3) R3⟩
   |cont=>exact⟨x5,w9,x6,f,B',Z',R2,S2,e,λx9 H3 E3 R3=>q x9 H3 (E12.trans E3) R3⟩
   |brk=>cases e;exact q x5 H2 E12 R2 u6 S2
   |rt d=>cases e;exact q x5 H2 E12 R2 u6 S2
   |xc x=>cases e;exact q x5 H2 E12 R2 u6 S2
def ItM(K:KW)(J:It)(ds:List D)(Y:Nat->Addr)(Z:Mh)(H:Hp):Prop:=∀Y' (Z':Mh) H',Ext Y Z.length H Y' Z'.length H'->RelH K Y' Z' H'->
 (∀i,i<ds.length->J.go i H')/\J.stop ds.length H'/\∀(i:Nat) x H2 d,ds[i]?=some d->J.yld i H' x H2->Ext Y' Z'.length H' Y' Z'.length H2/\RelH K Y' Z' H2/\Is K Y' Z'.length H2 d x
theorem ItM.ext(h:ItM K J ds Y Z H)(E:Ext Y Z.length H Y' Z'.length H'):ItM K J ds Y' Z' H':=λx5 w9 H2 E2 R2=>h x5 w9 H2 (E.trans E2) R2
noncomputable def tI(K:KW)(m:Sl->M (List D)):TI:=λO H R=>∃Y Z B ds Z',RelH K Y Z H/\RelS K Y Z.length H B O/\m B Z=some (ds,Z') /\
 Aft K Y Z H Z' λY' H'=>∀J,ItM K J ds Y' Z' H'->R J H'
structure RI(X:Cx)(tg iter:Expr)(m:Sl->M (List D)):Prop where
 pe:PI X tg iter (tI X.kw m)
theorem PI.wk(h:PI X tg iter t)(w:∀O H R,t' O H R->t O H R):PI X tg iter t':=λw5 s O H R I q=>h w5 s O H R I (w O H R q)
theorem RI.wk(h:PI X tg iter t)(w:∀O H R,tI X.kw m O H R->t O H R):RI X tg iter m:=⟨PI.wk h w⟩
theorem PI.or(h:PI X tg iter t)(h':PI X tg iter t'):PI X tg iter (λO H R=>t O H R∨t' O H R):=λw5 s O H R I q=>q.elim (h w5 s O H R I) (h' w5 s O H R I)
noncomputable def PP:D->M (List D)
 | .lst ds=>ret ds
 | .tup ds=>ret ds
 | .scr ns=>ret (ns.map D.int)
 |_=>Bb
noncomputable def DO(m:Sl->M D):Sl->M (List D):=λB=>bnd (m B) PP
theorem MM(st:∀Y' (Z':Mh) H',Ext Y Z.length H Y' Z'.length H'->RelH K Y' Z' H'->SqL K H' p vs)(i:IsL K Y Z.length H ds vs):ItM K (Itl K p) ds Y Z H:=by
 intro Y' Z' H' E R;have h:=st Y' Z' H' E R;have hl:=i.length;refine⟨λj hj=>⟨vs,vs[j],h,by simp⟩,⟨vs,h,by omega⟩,λj x H2 d hd y=>?_⟩;obtain⟨e,y⟩:=y;subst e;obtain⟨v,ev,iv⟩:=(i.ext E).get hd;have:=y vs h;rw[ev] at this;cases this;exact⟨R.ext0,R,iv⟩
theorem VR{K:KW}{Y:Nat->Addr}{Z:Mh}(h:SqT K H p vs)(i:IsL K Y Z.length H ds vs):ItM K (Itt K p) ds Y Z H:=by
 intro Y' Z' H' E R;have h:=Km E h;have hl:=i.length;refine⟨λj hj=>⟨vs,vs[j],h,by simp⟩,⟨vs,h,by omega⟩,λj x H2 d hd y=>?_⟩;obtain⟨e,y⟩:=y;subst e;obtain⟨v,ev,iv⟩:=(i.ext E).get hd;have:=y vs h;rw[ev] at this;cases this;exact⟨R.ext0,R,iv⟩
theorem Us(q:tI K (DO m) O H R):WK K (tE K m) O H R∨Z8 K (tE K m) O H R:=by
 obtain⟨Y,Z,B,ds,Z',R0,S,e,q⟩:=q;obtain⟨x,w6,e1,e⟩:=AF e;cases x with
 |lst es=>
  cases e;refine .inl ⟨Y,Z,B,_,_,R0,S,e1,λx4 H1 E1 R1 v i1=>?_⟩;unfold Is at i1;obtain⟨p,vs,rfl,h1,hn,h2⟩:=i1;exact⟨p,rfl,⟨vs,SqL.of h1⟩,q x4 H1 E1 R1 _ (MM (λY' Z' H' E _=>SqL.of (E.keep p _ h1 hn)) h2)⟩
 |tup es=>
  cases e;refine .inr ⟨Y,Z,B,_,_,R0,S,e1,λx4 H1 E1 R1 v i1=>?_⟩;unfold Is at i1;obtain⟨p,vs,rfl,h1,h2⟩:=i1;exact⟨p,rfl,⟨vs,h1⟩,q x4 H1 E1 R1 _ (VR h1 h2)⟩
 |scr ns=>
  cases e;refine .inl ⟨Y,Z,B,_,_,R0,S,e1,λx4 H1 E1 R1 v i1=>?_⟩;unfold Is at i1;obtain⟨p,rfl,h1⟩:=i1;exact⟨p,rfl,⟨_,h1.sq⟩,q x4 H1 E1 R1 _ (MM (λY' Z' H' E _=>(Kq E h1).sq) (IsL.ofInts ns))⟩
 |non=>cases e
 |bl _=>cases e
 |int _=>cases e
 |str _=>cases e
 |ty _=>cases e
 |ref _=>cases e
theorem DF(h:RE X e m):RI X tg e (DO m):=RI.wk (PI.or (OT h.pe) (Xl h.pe)) λ_ _ _ q=>Us q
noncomputable def L0(lo hi:Int):List D:=(List.range (hi-lo).toNat).map λ(j:Nat)=>D.int (lo+(j:Int))
noncomputable def ON:List D->M (List D)
 |[.int j]=>λZ=>if -(2 ^ 62)<=j/\j<2 ^ 62 then some (L0 0 j,Z) else none
 |_=>Bb
noncomputable def Jy(m:Sl->M (List D)):Sl->M (List D):=λB=>bnd (m B) ON
theorem VS:ItM K (Itr lo (hi-lo).toNat) (L0 lo hi) Y Z H:=by
 intro Y' Z' H' E R;have hl:(L0 lo hi).length=(hi-lo).toNat:=by simp[L0]
 rw[hl];refine⟨λj hj=>hj,AAE _,λj x H2 d hd y=>?_⟩;obtain⟨e,y⟩:=y;subst e;unfold L0 at hd;rw[AAV] at hd;cases q:(List.range (hi-lo).toNat)[j]? with
 |none=>rw[q] at hd;cases hd
 |some z=>
  rw[q] at hd;have hz:z=j:=by
   have:=(AAT.mp q).2;simpa using this.symm
  subst hz;cases hd;exact⟨R.ext0,R,by unfold Is;exact y⟩
theorem Ph(hm:X.mg "range" = none)(ha:RA X [a] m)(hg:Gl X "range" := by rfl)(hs:starEach [a] X.env=[(false,eval a X.env)]:=by rfl):RI X tg (.Call (.Name "range" p) [a] [] pos) (Jy m):=
 RI.wk (Pn hg hm ha.pe hs) λO H R q=>by
  obtain⟨Y,Z,B,ds,Z',R0,S,e,q⟩:=q;obtain⟨xs,w6,e1,e⟩:=AF e;refine⟨Y,Z,B,xs,w6,R0,S,e1,λx4 H1 E1 R1 vs i1=>?_⟩;unfold ON at e;split at e
  ·rename_i j;split at e
   ·rename_i hb;cases e;unfold IsL Is at i1;obtain⟨v,vs',rfl,rfl,i2⟩:=i1;unfold IsL at i2;subst i2;refine⟨j,rfl,hb.1,hb.2,q x4 H1 E1 R1 _ ?_⟩;have:=VS (K:=X.kw) (Y:=x4) (Z:=Z') (H:=H1) (lo:=0) (hi:=j);rw[Int.sub_zero] at this;exact this
   ·cases e
  ·cases e
noncomputable def B1(bf:D->Sl->M Sl)(mb:Sl->M (Fl×Sl)):List D->Sl->M (Fl×Sl)
 |[],B=>ret (.next,B)
 |x::xs,B=>bnd (bf x B) λx3=>bnd (mb x3) λr=>match r.1 with
  | .next=>B1 bf mb xs r.2
  | .cont=>B1 bf mb xs r.2
  | .brk=>ret (.next,r.2)
  | .rt d=>ret (.rt d,r.2)
  | .xc x=>ret (.xc x,r.2)
noncomputable def EO(src:Sl->M (List D))(bf:D->Sl->M Sl)(mb:Sl->M (Fl×Sl)):Sl->M (Fl×Sl):=λB=>bnd (src B) λds=>B1 bf mb ds B
theorem DU(hp:PassesOwn (model X.prog X.w) X.A X.env X.xe)(hc:X.calm=true)(hi:RI X tg iter src)(hg:RG X tg bf)(hb:RSs X body mb)
  (hs:∀x,foldedSetIterable iter X.env x=pure x:=by intro _;rfl):RS X (.For tg iter body [] pos) (EO src bf mb):=RS.wk (NH hp hc hi.pe hg.pe hb.pe hs) λDn O H h=>by
 obtain⟨Y,Z,B,f,B',Z',R,S,e,q⟩:=h;obtain⟨ds,w6,e1,e⟩:=AF e;refine⟨Y,Z,B,ds,w6,R,S,e1,λx4 H1 E1 R1 J it=>?_⟩
 let W:Nat->Nat->St->Hp->Prop:=λi m O H=>m=ds.length-i/\i<=ds.length/\∃Y Z B f B' Z',RelH X.kw Y Z H/\RelS X.kw Y Z.length H B O/\ItM X.kw J ds Y Z H/\B1 bf mb (ds.drop i) B Z=some ((f,B'),Z') /\
  Aft X.kw Y Z H Z' λY' H'=>∀O',RelS X.kw Y' Z'.length H' B' O'->FlP X.kw Dn Y' Z'.length H' B' O' f
 refine⟨W,⟨ds.length,by simp,AAk _,x4,w6,B,f,B',Z',R1,S.ext E1,it,e,λx5 H2 E2 R2=>q x5 H2 (E1.trans E2) R2⟩,?_⟩;rintro i m O H ⟨hm,hil,Y,Z,B,f,B',Z',R,S,it,e,q⟩;obtain⟨go,stop,yl⟩:=it Y Z H R.ext0 R;by_cases hlt:i<ds.length
 ·refine .inr ⟨go i hlt,λO' H'=>W (i+1) (ds.length-(i+1)) O' H',λO' H' z=>⟨_,by omega,z⟩,λx H2 y=>?_⟩;have hd:ds[i]?=some ds[i]:=by simp[hlt]
  obtain⟨E2,R2,ix⟩:=yl i x H2 _ hd y;rw[List.drop_eq_getElem_cons hlt] at e;obtain⟨x3,w6,e1,e⟩:=AF e;obtain⟨⟨f2,x6⟩,w9,e2,e⟩:=AF e;refine⟨Y,Z,B,_,x3,w6,R2,S.ext E2,ix,e1,λx9 H3 E3 R3 u8 S3=>?_⟩;refine⟨x9,w6,x3,f2,x6,w9,R3,S3,e2,λu4 H4 E4 R4 v9 S4=>?_⟩;have E14:=(E2.trans E3).trans E4;cases f2 with
  |next=>exact⟨rfl,hlt,u4,w9,x6,f,B',Z',R4,S4,it.ext E14,e,λu7 H5 E5 R5=>q u7 H5 (E14.trans E5) R5⟩
  |cont=>exact⟨rfl,hlt,u4,w9,x6,f,B',Z',R4,S4,it.ext E14,e,λu7 H5 E5 R5=>q u7 H5 (E14.trans E5) R5⟩
  |brk=>cases e;exact q u4 H4 E14 R4 v9 S4
  |rt d=>cases e;exact q u4 H4 E14 R4 v9 S4
  |xc x=>cases e;exact q u4 H4 E14 R4 v9 S4
 ·have hi':i=ds.length:=by omega
  subst hi';rw[List.drop_length] at e;cases e;exact .inl ⟨stop,q Y H R.ext0 R O S⟩
end
section
variable{tgs:List Str}{ix:List Nat}
noncomputable def Rp(ix:List Nat)(B:Sl):Sl:=ix.map λj=>(B[j]?).getD none
noncomputable def Dl(n:Nat)(ix:List Nat)(B:Sl):Sl:=List.replicate n none++Rp ix B
noncomputable def EZ(bf:D->Sl->M Sl)(mc:Sl->M Bool)(me:Sl->M D)(u5:Sl):List D->List D->M (List D)
 |[],ys=>ret ys
 |x::xs,ys=>bnd (bf x u5) λx3=>bnd (mc x3) λc=>if c=true then bnd (me x3) λy=>EZ bf mc me u5 xs (ys++[y]) else EZ bf mc me u5 xs ys
noncomputable def Cd(n:Nat)(ix:List Nat)(src:Sl->M (List D))(bf:D->Sl->M Sl)(mc:Sl->M Bool)(me:Sl->M D)(fin:List D->M D):Sl->M D:=λB=>bnd (src B) λds=>bnd (lim ds.length) λ_=>bnd (EZ bf mc me (Dl n ix B) ds []) fin
noncomputable def En:Sl->M Bool:=λ_=>ret true
theorem RelS.block(S:RelS K Y k H B O):RelS K Y k H (Dl tgs.length ix B) (DS tgs ix O):=by
 refine⟨by simp[Dl,DS,Rp,Jw],λi d e=>?_⟩;unfold Dl at e;have hk:tgs.length<=i:=by
  rcases Nat.lt_or_ge i tgs.length with z|z
  ·rw[AAS (by simpa using z),List.getElem?_replicate,if_pos z] at e;cases e
  ·exact z
 rw[AAR (by simpa using hk),AAn] at e;unfold Rp at e;rw[AAV] at e;cases q:ix[i-tgs.length]? with
 |none=>rw[q] at e;cases e
 |some j=>
  rw[q] at e;have e':(B[j]?).getD none=some d:=Option.some.inj e;cases q2:B[j]? with
  |none=>rw[q2] at e';cases e'
  |some o=>
   rw[q2] at e';have e'':o=some d:=e';subst e'';obtain⟨v,ev,iv⟩:=S.get j d q2;refine⟨v,?_,iv⟩;unfold DS;rw[AAR (by simpa using hk),AAn];unfold Jw;rw[AAV,q,Option.map_some,ev];rfl
mutual
def Cl(k:Nat):D->Prop
 | .tup ds=>ClL k ds
 | .lst ds=>ClL k ds
 | .ref n=>n<k
 |_=>True
def ClL(k:Nat):List D->Prop
 |[]=>True
 |d::ds=>Cl k d/\ClL k ds
end
noncomputable def ClO(k:Nat):MO->Prop
 | .lst ds=>ClL k ds
 | .dK l=>ClL k (l.map (·.2))
 | .dC l=>ClL k (l.map (·.2))
 | .ins _ l=>ClL k (l.map (·.2))
 | .dP l=>ClL k (l.map (·.1))/\ClL k (l.map (·.2))
 | .exc _ _=>True
section
variable{K:KW}{Y:Nat->Addr}{k k':Nat}{H:Hp}
mutual
theorem Is.down(hk:k<=k'):∀{d:D} {v:V},Cl k d->Is K Y k' H d v->Is K Y k H d v
 | .non,_,_,h=>by unfold Is at h ⊢;exact h
 | .bl _,_,_,h=>by unfold Is at h ⊢;exact h
 | .int _,_,_,h=>by unfold Is at h ⊢;exact h
 | .str _,_,_,h=>by unfold Is at h ⊢;exact h
 | .ty _,_,_,h=>by unfold Is at h ⊢;exact h
 | .scr _,_,_,h=>by unfold Is at h ⊢;exact h
 | .tup ds,_,c,h=>by
  unfold Is at h ⊢;obtain⟨p,vs,e,h1,h2⟩:=h;exact⟨p,vs,e,h1,IsL.down hk (by unfold Cl at c;exact c) h2⟩
 | .lst ds,_,c,h=>by
  unfold Is at h ⊢;obtain⟨p,vs,e,h1,hn,h2⟩:=h;exact⟨p,vs,e,h1,λn z=>hn n (AAM z hk),IsL.down hk (by unfold Cl at c;exact c) h2⟩
 | .ref n,_,c,h=>by
  unfold Is at h ⊢;exact⟨by unfold Cl at c;exact c,h.2⟩
theorem IsL.down(hk:k<=k'):∀{ds:List D} {vs:List V},ClL k ds->IsL K Y k' H ds vs->IsL K Y k H ds vs
 |[],_,_,h=>by unfold IsL at h ⊢;exact h
 |_::_,_,c,h=>by
  unfold IsL at h ⊢;unfold ClL at c;obtain⟨v,vs',e,h1,h2⟩:=h;exact⟨v,vs',e,Is.down hk c.1 h1,IsL.down hk c.2 h2⟩
end
mutual
theorem Is.cl:∀{d:D} {v:V},Is K Y k H d v->Cl k d
 | .non,_,_=>by unfold Cl;trivial
 | .bl _,_,_=>by unfold Cl;trivial
 | .int _,_,_=>by unfold Cl;trivial
 | .str _,_,_=>by unfold Cl;trivial
 | .ty _,_,_=>by unfold Cl;trivial
 | .scr _,_,_=>by unfold Cl;trivial
 | .tup ds,_,h=>by
  unfold Is at h;unfold Cl;obtain⟨p,vs,e,h1,h2⟩:=h;exact IsL.cl h2
 | .lst ds,_,h=>by
  unfold Is at h;unfold Cl;obtain⟨p,vs,e,h1,hn,h2⟩:=h;exact IsL.cl h2
 | .ref n,_,h=>by
  unfold Is at h;unfold Cl;exact h.1
theorem IsL.cl:∀{ds:List D} {vs:List V},IsL K Y k H ds vs->ClL k ds
 |[],_,_=>by unfold ClL;trivial
 |_::_,_,h=>by
  unfold IsL at h;unfold ClL;obtain⟨v,vs',e,h1,h2⟩:=h;exact⟨Is.cl h1,IsL.cl h2⟩
end
theorem KVs.cl:∀{l:List (Key×D)} {r:List (Key×V)},KVs K Y k H l r->ClL k (l.map (·.2))
 |[],_,_=>by unfold List.map ClL;trivial
 |(_,_)::_,_,h=>by
  obtain⟨v,r',e,h1,h2⟩:=h;rw[AAW];unfold ClL;exact⟨h1.cl,KVs.cl h2⟩
theorem KVs.down(hk:k<=k'):∀{l:List (Key×D)} {r:List (Key×V)},ClL k (l.map (·.2))->KVs K Y k' H l r->KVs K Y k H l r
 |[],_,_,h=>h
 |(_,_)::_,_,c,h=>by
  rw[AAW] at c;unfold ClL at c;obtain⟨v,r',e,h1,h2⟩:=h;exact⟨v,r',e,h1.down hk c.1,KVs.down hk c.2 h2⟩
theorem PB:∀l:List Int,ClL k (l.map D.int)
 |[]=>by unfold List.map ClL;trivial
 |_::l=>by unfold List.map ClL;exact⟨by unfold Cl;trivial,PB l⟩
theorem Gv(c:Nk.Cs):Cl k (csD c):=by
 unfold csD Cl ClL;refine⟨by unfold Cl;trivial,?_⟩;unfold ClL;refine⟨by unfold Cl;trivial,?_⟩;unfold ClL;exact⟨by unfold Cl;exact PB _,by unfold ClL;trivial⟩
theorem CVs.cl:∀{l:List (Nk.Cs×D)} {r:List (Nk.Cs×Addr×V)},CVs K Y k H l r->ClL k (l.map (·.2))
 |[],_,_=>by unfold List.map ClL;trivial
 |(_,_)::_,_,h=>by
  obtain⟨a,v,r',rfl,_,h1,h2⟩:=h;rw[AAW];unfold ClL;exact⟨h1.cl,CVs.cl h2⟩
theorem CVs.down(hk:k<=k'):∀{l:List (Nk.Cs×D)} {r:List (Nk.Cs×Addr×V)},ClL k (l.map (·.2))->CVs K Y k' H l r->CVs K Y k H l r
 |[],_,_,h=>h
 |(_,_)::_,_,c,h=>by
  rw[AAW] at c;unfold ClL at c;obtain⟨a,v,r',e,h0,h1,h2⟩:=h;exact⟨a,v,r',e,h0.down hk (Gv _),h1.down hk c.1,CVs.down hk c.2 h2⟩
theorem FVs.cl:∀{l:List (Str×D)} {r:List (Str×V)},FVs K Y k H l r->ClL k (l.map (·.2))
 |[],_,_=>by unfold List.map ClL;trivial
 |(_,_)::_,_,h=>by
  obtain⟨v,r',rfl,h1,h2⟩:=h;rw[AAW];unfold ClL;exact⟨h1.cl,FVs.cl h2⟩
theorem FVs.down(hk:k<=k'):∀{l:List (Str×D)} {r:List (Str×V)},ClL k (l.map (·.2))->FVs K Y k' H l r->FVs K Y k H l r
 |[],_,_,h=>h
 |(_,_)::_,_,c,h=>by
  rw[AAW] at c;unfold ClL at c;obtain⟨v,r',e,h1,h2⟩:=h;exact⟨v,r',e,h1.down hk c.1,FVs.down hk c.2 h2⟩
theorem PVs.cl:∀{l:List (D×D)} {r:List (D×Addr×V)},PVs K Y k H l r->ClL k (l.map (·.1))/\ClL k (l.map (·.2))
 |[],_,_=>by unfold List.map ClL;exact⟨trivial,trivial⟩
 |(_,_)::_,_,h=>by
  obtain⟨a,v,r',_,h1,h2,h3⟩:=h;rw[AAW,AAW];unfold ClL;exact⟨⟨h1.2.2.cl,(PVs.cl h3).1⟩,h2.cl,(PVs.cl h3).2⟩
theorem PVs.down(hk:k<=k'):∀{l:List (D×D)} {r:List (D×Addr×V)},ClL k (l.map (·.1))->ClL k (l.map (·.2))->PVs K Y k' H l r->PVs K Y k H l r
 |[],_,_,_,h=>h
 |(_,_)::_,_,b,c,h=>by
  rw[AAW] at b c;unfold ClL at b c;obtain⟨a,v,r',e,h1,h2,h3⟩:=h;exact⟨a,v,r',e,⟨h1.1,h1.2.1,h1.2.2.down hk b.1⟩,h2.down hk c.1,PVs.down hk b.2 c.2 h3⟩
theorem ObjIs.cl(h:ObjIs K Y k H p o u):ClO k o:=by
 cases o with
 |lst ds=>obtain⟨vs,_,h⟩:=h;exact h.cl
 |dK l=>obtain⟨r,_,h⟩:=h;exact h.cl
 |dC l=>obtain⟨r,_,h⟩:=h;exact h.cl
 |ins c l=>obtain⟨C,dx,r,_,_,_,h⟩:=h;exact h.cl
 |dP l=>obtain⟨r,_,h⟩:=h;exact h.cl
 |exc c n=>exact trivial
theorem ObjIs.down(hk:k<=k')(c:ClO k o)(h:ObjIs K Y k' H p o u):ObjIs K Y k H p o u:=by
 cases o with
 |lst ds=>obtain⟨vs,e,h⟩:=h;exact⟨vs,e,h.down hk c⟩
 |dK l=>obtain⟨r,e,h⟩:=h;exact⟨r,e,h.down hk c⟩
 |dC l=>obtain⟨r,e,h⟩:=h;exact⟨r,e,h.down hk c⟩
 |ins n l=>obtain⟨C,dx,r,e,h0,h1,h⟩:=h;exact⟨C,dx,r,e,h0,h1,h.down hk c⟩
 |dP l=>obtain⟨r,e,h⟩:=h;exact⟨r,e,h.down hk c.1 c.2⟩
 |exc c n=>exact h
end
def bU(w9 Z':Mh)(d' d:D):Prop:=(d'=d/\Cl Z'.length d)∨∃n ds,d'=.ref n/\w9[n]?=some (.lst ds)/\Z'.length<=n/\d=.lst ds/\ClL Z'.length ds
structure E6(Z w9 Z':Mh)(d' d:D):Prop where
 grow:∃g,w9=Z'++g
 le:Z.length<=Z'.length
 old:∀(n:Nat) (o:MO),Z'[n]?=some o->Z[n]?=some o∨ClO Z'.length o
 conv:bU w9 Z' d' d
noncomputable def D5:Fl->D
 | .rt d=>d
 |_=>.non
theorem FS(R:RelH K Y Z H)(E:Ext Y Z.length H x5 w9.length H2)(R2:RelH K x5 w9 H2)(t:E6 Z w9 Z' d' d):
  Ext Y Z.length H x5 Z'.length H2/\RelH K x5 Z' H2/\∀v,Is K x5 w9.length H2 d' v->Is K x5 Z'.length H2 d v:=by
 obtain⟨⟨g,hg⟩,le,old,conv⟩:=t;have hle:Z'.length<=w9.length:=by rw[hg];simp
 have hget:∀(n:Nat) (o:MO),Z'[n]?=some o->w9[n]?=some o:=λn o e=>by
  rw[hg,AAS (AAT.mp e).1];exact e
 refine⟨⟨le,E.agree,λn h1 h2=>E.fresh n h1 (AAM h2 hle),E.keep,E.was,E.there⟩,⟨λi j hi hj=>R2.inj i j (AAM hi hle) (AAM hj hle),λn o e=>?_⟩,λv iv=>?_⟩
 ·obtain⟨u,q,hq⟩:=R2.obj n o (hget n o e);refine⟨u,q,hq.down hle ?_⟩;rcases old n o e with z|z
  ·obtain⟨u0,_,h0⟩:=R.obj n o z;have c:=h0.cl;cases o with
   |lst ds=>exact clL_mono le c
   |dK l=>exact clL_mono le c
   |dC l=>exact clL_mono le c
   |ins n l=>exact clL_mono le c
   |dP l=>exact⟨clL_mono le c.1,clL_mono le c.2⟩
   |exc c n=>exact trivial
  ·exact z
 ·rcases conv with ⟨rfl,c⟩|⟨n,ds,rfl,hn,hle2,rfl,c⟩
  ·exact iv.down hle c
  ·obtain⟨u,q,vs,rfl,il⟩:=R2.obj n _ hn;have hn2:n<w9.length:=(AAT.mp hn).1;unfold Is at iv ⊢;refine⟨x5 n,vs,iv.2,q,λm hm z=>?_,il.down hle c⟩;have:=R2.inj m n (AAM hm hle) hn2 z;omega
where
 cl_mono {k k':Nat} (h:k<=k'):∀{d:D},Cl k d->Cl k' d
  | .non,_=>by unfold Cl;trivial
  | .bl _,_=>by unfold Cl;trivial
  | .int _,_=>by unfold Cl;trivial
  | .str _,_=>by unfold Cl;trivial
  | .ty _,_=>by unfold Cl;trivial
  | .scr _,_=>by unfold Cl;trivial
  | .tup ds,c=>by unfold Cl at c ⊢;exact clL_mono h c
  | .lst ds,c=>by unfold Cl at c ⊢;exact clL_mono h c
  | .ref n,c=>by unfold Cl at c ⊢;exact AAM c h
 clL_mono {k k':Nat} (h:k<=k'):∀{ds:List D},ClL k ds->ClL k' ds
  |[],_=>by unfold ClL;trivial
  |_::_,c=>by unfold ClL at c ⊢;exact⟨cl_mono h c.1,clL_mono h c.2⟩
noncomputable def BR(n:Nat)(ds:List D):Sl:=ds.map some++List.replicate (n-ds.length) none
theorem RelS.start(i:IsL K Y k H ds vs):RelS K Y k H (BR N.length ds) (L2.start N vs):=by
 have hl:=i.length;refine⟨by simp[BR,L2.start,hl],λj d e=>?_⟩;unfold BR at e;unfold L2.start;rcases Nat.lt_or_ge j ds.length with z|z
 ·rw[AAS (by simpa using z),AAV] at e;rw[AAS (by simpa[hl] using z),AAV];cases q:ds[j]? with
  |none=>rw[q] at e;cases e
  |some d0=>
   rw[q] at e;cases e;obtain⟨v,ev,iv⟩:=i.get q;exact⟨v,by rw[ev];rfl,iv⟩
 ·rw[AAR (by simpa using z),List.getElem?_replicate] at e;split at e<;>cases e
theorem KD(F:Fun K x qual st f fd)(S:Af N ps (AQ st))(hn:ps.length=n:=by rfl)
  (body:∀(cdv:Value) (A:Around) (outer:List Env) (s:Shared) (H:Hp) (E:XK),Room k (A.deeper (PyProof.Rows.envOfC qual (AQ st) s.heap.objs.size f cdv))->RSs (Gu CX0 P w K mg base N qual (AQ st) f cdv A outer s H E).nox (Ch st) mb)
  (run:∀ds Z d Z',φ ds Z=some (d,Z')->∃fl x6 w9,mb (BR N.length ds) Z=some ((fl,x6),w9)/\(fl=.next∨∃d,fl=.rt d)/\E6 Z w9 Z' (D5 fl) d):FnOk P w K mg base CX0 (k+1) f fd ps (spM ⟨K,w⟩ n φ):=by
 refine F.ok S (λvs H Q E h=>by rw[hn];exact h.1) (λcdv A outer s H vs Q E hr h=>⟨_,(body cdv A outer s H E hr).pe,?_⟩);obtain⟨hl,Y,Z,ds,d,Z',R,i,e,q⟩:=h;obtain⟨fl,x6,w9,e2,hfl,t⟩:=run ds Z d Z' e;refine⟨Y,Z,_,fl,x6,w9,R,RelS.start i,e2,λx5 H2 E2 R2 u6 S2=>?_⟩;obtain⟨E3,R3,c⟩:=FS R E2 R2 t;rcases hfl with rfl|⟨d0,rfl⟩
 ·exact q x5 H2 E3 R3 _ (c _ (by unfold D5 Is;rfl))
 ·exact λv iv=>q x5 H2 E3 R3 v (c v iv)
end
noncomputable def Ca:D->M (List D)
 | .lst ds=>ret ds
 | .scr ns=>ret (ns.map D.int)
 | .ref n=>λZ=>match Z[n]? with
  |some (.lst ds)=>some (ds,Z)
  |_=>none
 |_=>Bb
section
variable{K:KW}{Y:Nat->Addr}{Z Z':Mh}{H:Hp}{d:D}{v:V}{ds:List D}
theorem C9(R:RelH K Y Z H)(i:Is K Y Z.length H d v)(e:Ca d Z=some (ds,Z')):Z'=Z/\∃p vs,v=.ref p/\SqL K H p vs/\IsL K Y Z.length H ds vs:=by
 cases d with
 |lst es=>
  cases e;unfold Is at i;obtain⟨p,vs,rfl,h1,hn,h2⟩:=i;exact⟨rfl,p,vs,rfl,SqL.of h1,h2⟩
 |scr ns=>
  cases e;unfold Is at i;obtain⟨p,rfl,h1⟩:=i;exact⟨rfl,p,_,rfl,h1.sq,IsL.ofInts ns⟩
 |ref n=>
  unfold Is at i;obtain⟨hn,rfl⟩:=i;have e':(match Z[n]? with|some (.lst ds)=>some (ds,Z)|_=>none)=some (ds,Z'):=e;split at e'
  ·rename_i es hq;cases e';obtain⟨u,h1,vs,rfl,h2⟩:=R.obj n _ hq;exact⟨rfl,_,vs,rfl,SqL.of h1,h2⟩
  ·cases e'
 |_=>cases e
theorem B0(h:Is K Y Z.length H (.int i) v):v=.int i:=by unfold Is at h;exact h
theorem D1(h:Is K Y Z.length H (.str i) v):v=.str i:=by unfold Is at h;exact h
theorem Sg(h:Is K Y Z.length H (.bl i) v):v=.bl i:=by unfold Is at h;exact h
theorem LD(h:Is K Y Z.length H .non v):v=.non:=by unfold Is at h;exact h
theorem Z7(h:Is K Y Z.length H (.ty n) v):v=.ty n:=by unfold Is at h;exact h
theorem ofI(i:Int):Is K Y k H (.int i) (.int i):=by unfold Is;rfl
theorem ofS(i:Str):Is K Y k H (.str i) (.str i):=by unfold Is;rfl
theorem ofB(i:Bool):Is K Y k H (.bl i) (.bl i):=by unfold Is;rfl
theorem ofN:Is K Y k H .non .non:=by unfold Is;rfl
theorem Dv(h:IsL K Y k H [d] vs):∃v,vs=[v]/\Is K Y k H d v:=by
 unfold IsL at h;obtain⟨v,vs',rfl,h1,h2⟩:=h;unfold IsL at h2;subst h2;exact⟨v,rfl,h1⟩
theorem Si(h:IsL K Y k H [d,d'] vs):∃v v',vs=[v,v']/\Is K Y k H d v/\Is K Y k H d' v':=by
 unfold IsL at h;obtain⟨v,vs',rfl,h1,h2⟩:=h;obtain⟨v',rfl,h3⟩:=Dv h2;exact⟨v,v',rfl,h1,h3⟩
theorem Yu(h:IsL K Y k H ds vs)(e:atI ds i=some d):∃v,atI vs i=some v/\Is K Y k H d v:=by
 unfold atI at e ⊢;rw[h.length];cases q:ixN ds.length i with
 |none=>rw[q] at e;cases e
 |some j=>
  rw[q] at e;exact h.get e
theorem TV(h:IsL K Y k H ds vs):IsL K Y k H ((ds.drop (HT.sIx ds.length 0 lo)).take (HT.sIx ds.length ds.length hi-HT.sIx ds.length 0 lo)) (Mc vs lo hi):=by
 unfold Mc;rw[h.length];exact(h.drop _).take _
end
noncomputable def LF(C:Int->Int->Prop)[∀i j,Decidable (C i j)](g:Int->Int->D):D->D->M D
 | .int i,.int j=>λZ=>if C i j then some (g i j,Z) else none
 |_,_=>Bb
noncomputable def Ef:D->D->M D:=LF (λ_ _=>True) λi j=>.int (i-j)
noncomputable def Bm:D->D->M D:=LF (λ_ j=>0<j/\j<1073741824) λi j=>.int (i / j)
noncomputable def BS:D->D->M D:=LF (λ_ j=>0<j) λi j=>.int (i % j)
noncomputable def FN:D->D->M D:=LF (λi j=>0<=j/\j<=1000000/\i.natAbs<2 ^ 64) λi j=>.int (i ^ j.toNat)
noncomputable def EF:D->D->M D:=LF (λ_ _=>True) λi j=>.bl (decide (i<j))
noncomputable def Gg:D->D->M D:=LF (λ_ _=>True) λi j=>.bl (decide (i<=j))
noncomputable def L6:D->D->M D:=LF (λ_ _=>True) λi j=>.bl (decide (j<i))
noncomputable def Rh:D->D->M D:=LF (λ_ _=>True) λi j=>.bl (decide (j<=i))
section
variable{X:Cx}
theorem Fe[∀i j,Decidable (C i j)](hg:∀i j Y k H,Is X.kw Y k H (g i j) (gv i j))(ho:OpR X f (rI C gv)):OpR X f (rM X.kw (LF C g)):=OpR.wk ho λx y H Q h=>by
 obtain⟨Y,Z,a,b,d,Z',R,ia,ib,e,q⟩:=h;cases a with
 |int i=>
  cases b with
  |int j=>
   have e':(if C i j then some (g i j,Z) else none)=some (d,Z'):=e;split at e'
   ·rename_i hc;cases e';exact⟨i,j,B0 ia,B0 ib,hc,q Y H R.ext0 R _ (hg i j _ _ _)⟩
   ·cases e'
  |_=>cases e
 |_=>cases e
theorem OpR.ofI0(ho:OpR X f (rI0 gv)):OpR X f (rI (λ_ _=>True) gv):=OpR.wk ho λx y H Q h=>by
 obtain⟨i,j,h1,h2,_,q⟩:=h;exact⟨i,j,h1,h2,q⟩
theorem Jx:OpR X (binaryOp .Sub) (rM X.kw Ef):=Fe (λ_ _ _ _ _=>ofI _) (OpR.ofI0 X2)
theorem DH:OpR X (binaryOp .FloorDiv) (rM X.kw Bm):=Fe (λ_ _ _ _ _=>ofI _) VH
theorem Cj:OpR X (binaryOp .Mod) (rM X.kw BS):=Fe (λ_ _ _ _ _=>ofI _) X7
theorem SF:OpR X (binaryOp .Pow) (rM X.kw FN):=Fe (λ_ _ _ _ _=>ofI _) X4
theorem Je:OpR X (compareOp .Lt) (rM X.kw EF):=Fe (λ_ _ _ _ _=>ofB _) (OpR.ofI0 Zm)
theorem SH:OpR X (compareOp .LtE) (rM X.kw Gg):=Fe (λ_ _ _ _ _=>ofB _) (OpR.ofI0 Zn)
theorem Zv:OpR X (compareOp .Gt) (rM X.kw L6):=Fe (λ_ _ _ _ _=>ofB _) (OpR.ofI0 Zo)
theorem bC:OpR X (compareOp .GtE) (rM X.kw Rh):=Fe (λ_ _ _ _ _=>ofB _) (OpR.ofI0 Zp)
noncomputable def L5:D->M D
 | .int i=>ret (.int (-i))
 |_=>Bb
theorem SG:UnR X (unaryOp .USub) (rM1 X.kw L5):=λw5 s O H x v Q I r h=>by
 obtain⟨Y,Z,a,d,Z',R,ia,e,q⟩:=h;cases a with
 |int i=>
  cases e;have z:=B0 ia;subst z;exact XE w5 s O H _ v Q I r ⟨i,rfl,q Y H R.ext0 R _ (ofI _)⟩
 |_=>cases e
noncomputable def Ri:D->D->M D
 | .int i,.int j=>ret (.int (i+j))
 | .str i,.str j=>bnd (lim (i.length+j.length)) λ_=>ret (.str (i++j))
 | .lst a,.lst b=>Bn (a++b)
 | .tup [],.tup b=>Bb
 | .tup (a::as),.tup b=>Bf (a::as++b)
 |_,_=>Bb
theorem Zx:OpR X (binaryOp .Add) (rM X.kw Ri):=λw5 s O H x y v u Q I rx ry h=>by
 obtain⟨Y,Z,a,b,d,Z',R,ia,ib,e,q⟩:=h;unfold Ri at e;split at e
 ·cases e;cases B0 ia;cases B0 ib;exact YB w5 s O H _ _ v u Q I rx ry ⟨_,_,rfl,rfl,q Y H R.ext0 R _ (ofI _)⟩
 ·obtain⟨_,w6,e1,e2⟩:=AF e;obtain⟨hl,rfl⟩:=Eo e1;cases e2;cases D1 ia;cases D1 ib;exact NM w5 s O H _ _ v u Q I rx ry ⟨_,_,rfl,rfl,hl,q Y H R.ext0 R _ (ofS _)⟩
 ·unfold Is at ia ib;obtain⟨p,vs,rfl,h1,hn,h2⟩:=ia;obtain⟨p',vs',rfl,h1',hn',h2'⟩:=ib;obtain⟨hl,w⟩:=Hy R (h2.append h2') e q;exact YA w5 s O H _ _ v u Q I rx ry ⟨p,p',vs,vs',rfl,rfl,h1,h1',by rw[←AAG];exact hl,w⟩
 ·cases e
 ·rename_i a as bs;unfold Is at ia ib;obtain⟨p,vs,rfl,h1,h2⟩:=ia;obtain⟨p',vs',rfl,h1',h2'⟩:=ib;obtain⟨hl,w⟩:=Oc R (h2.append h2') e q;refine VI w5 s O H _ _ v u Q I rx ry ⟨p,p',vs,vs',rfl,rfl,h1,h1',λz=>?_,by rw[←AAG];exact hl,λz=>?_,λ_=>w⟩
  ·have:=h2.length;rw[z] at this;cases this
  ·subst z;have hb:bs=[]:=by
    have:=h2'.length;cases bs with
    |nil=>rfl
    |cons _ _=>cases this
   subst hb;obtain⟨_,w6,e1,e2⟩:=AF e;obtain⟨hl,rfl⟩:=Eo e1;cases e2;exact q Y H R.ext0 R _ (by unfold Is;exact⟨p,vs,rfl,h1,by rw[AAa];exact h2⟩)
 ·cases e
noncomputable def Eg:D->D->M D
 | .int i,.int j=>λZ=>if (-(2 ^ 64)<i/\i<2 ^ 64)∨(-(2 ^ 64)<j/\j<2 ^ 64) then some (.int (i * j),Z) else none
 | .lst a,.int j=>λZ=>if -(2 ^ 63)<=j/\j<2 ^ 63/\a.length * j.toNat<=sizeLine then Bn (List.replicate j.toNat a).flatten Z else none
 |_,_=>Bb
theorem IsL.rep(h:IsL K Y k H ds vs):∀n:Nat,IsL K Y k H (List.replicate n ds).flatten (List.replicate n vs).flatten
 |0=>.nil
 |n+1=>by
  rw[AAl,AAl,List.flatten_cons,List.flatten_cons];exact h.append (IsL.rep h n)
theorem OX:OpR X (binaryOp .Mult) (rM X.kw Eg):=λw5 s O H x y v u Q I rx ry h=>by
 obtain⟨Y,Z,a,b,d,Z',R,ia,ib,e,q⟩:=h;unfold Eg at e;split at e
 ·split at e
  ·rename_i hc;cases e;cases B0 ia;cases B0 ib;exact X6 w5 s O H _ _ v u Q I rx ry ⟨_,_,rfl,rfl,hc,q Y H R.ext0 R _ (ofI _)⟩
  ·cases e
 ·split at e
  ·rename_i hc;cases B0 ib;unfold Is at ia;obtain⟨p,vs,rfl,h1,hn,h2⟩:=ia;obtain⟨hl,w⟩:=Hy R (h2.rep _) e q;exact X3 w5 s O H _ _ v u Q I rx ry ⟨p,_,vs,rfl,rfl,h1,hc.1,hc.2.1,by rw[h2.length];exact hc.2.2,w⟩
  ·cases e
 ·cases e
mutual
def toP(Z:Mh):D->Option PyData
 | .non=>some .none
 | .bl b=>some (.bool b)
 | .int i=>some (.int i)
 | .str x=>some (.str x)
 | .ty _=>none
 | .scr ns=>some (.list (ns.map PyData.int))
 | .tup ds=>(DD Z ds).map PyData.tuple
 | .lst ds=>(DD Z ds).map PyData.list
 | .ref _=>none
def DD(Z:Mh):List D->Option (List PyData)
 |[]=>some []
 |d::ds=>(toP Z d).bind λp=>(DD Z ds).map (p::·)
end
noncomputable def HF(Z:Mh):D->Option PyData
 | .ref n=>match Z[n]? with
  |some (.lst ds)=>(DD Z ds).map PyData.list
  |_=>none
 |d=>toP Z d
section
variable{K:KW}{Y:Nat->Addr}{Z:Mh}{H:Hp}{k:Nat}
theorem O5:∀(ns:List Int),DatVs K H (ns.map V.int) (ns.map PyData.int)
 |[]=>.nil
 |n::r=>.cons (.int n) (O5 r)
mutual
theorem Is.dat:∀{d:D} {v:V} {p:PyData},Is K Y k H d v->toP Z d=some p->DatV K H v p
 | .non,_,_,h,e=>by unfold Is at h;unfold toP at e;cases e;subst h;exact .non
 | .bl b,_,_,h,e=>by unfold Is at h;unfold toP at e;cases e;subst h;exact .bl b
 | .int b,_,_,h,e=>by unfold Is at h;unfold toP at e;cases e;subst h;exact .int b
 | .str b,_,_,h,e=>by unfold Is at h;unfold toP at e;cases e;subst h;exact .str b
 | .ty b,_,_,h,e=>by unfold toP at e;cases e
 | .scr ns,_,_,h,e=>by
  unfold Is at h;unfold toP at e;cases e;obtain⟨p,rfl,h⟩:=h;exact .lst h.sq (O5 ns)
 | .tup ds,_,_,h,e=>by
  unfold Is at h;unfold toP at e;obtain⟨p,vs,rfl,h1,h2⟩:=h;cases q:DD Z ds with
  |none=>rw[q] at e;cases e
  |some ps=>rw[q] at e;cases e;exact .tup h1 (IsL.dat h2 q)
 | .lst ds,_,_,h,e=>by
  unfold Is at h;unfold toP at e;obtain⟨p,vs,rfl,h1,_,h2⟩:=h;cases q:DD Z ds with
  |none=>rw[q] at e;cases e
  |some ps=>rw[q] at e;cases e;exact .lst (SqL.of h1) (IsL.dat h2 q)
 | .ref n,_,_,h,e=>by unfold toP at e;cases e
theorem IsL.dat:∀{ds:List D} {vs:List V} {ps:List PyData},IsL K Y k H ds vs->DD Z ds=some ps->DatVs K H vs ps
 |[],_,_,h,e=>by unfold IsL at h;unfold DD at e;cases e;subst h;exact .nil
 |d::ds,_,_,h,e=>by
  unfold IsL at h;unfold DD at e;obtain⟨v,vs',rfl,h1,h2⟩:=h;cases q:toP Z d with
  |none=>rw[q] at e;cases e
  |some p=>
   rw[q] at e;cases q2:DD Z ds with
   |none=>rw[q2] at e;cases e
   |some ps=>rw[q2] at e;cases e;exact .cons (Is.dat h1 q) (IsL.dat h2 q2)
end
theorem TK(R:RelH K Y Z H)(h:Is K Y Z.length H d v)(e:HF Z d=some p):DatV K H v p:=by
 cases d with
 |ref n=>
  unfold Is at h;obtain⟨_,rfl⟩:=h;have e':(match Z[n]? with|some (.lst ds)=>(DD Z ds).map PyData.list|_=>none)=some p:=e;split at e'
  ·rename_i ds hq;obtain⟨u,h1,vs,rfl,h2⟩:=R.obj n _ hq;cases q:DD Z ds with
   |none=>rw[q] at e';cases e'
   |some ps=>rw[q] at e';cases e';exact .lst (SqL.of h1) (IsL.dat h2 q)
  ·cases e'
 |_=>exact Is.dat (Z:=Z) h e
end
noncomputable def Fb(neg:Bool)(a b:D):M D:=λZ=>match HF Z a,HF Z b with
 |some p,some q=>if SeqAt.shaped p=true/\SeqAt.shaped q=true then some (.bl (if neg then !PyData.eqv p q else PyData.eqv p q),Z) else none
 |_,_=>none
noncomputable def Ah:D->D->M D:=Fb false
noncomputable def FE:D->D->M D:=Fb true
theorem Im(e:Fb neg a b Z=some (d,Z')):∃p q,HF Z a=some p/\HF Z b=some q/\SeqAt.shaped p=true/\SeqAt.shaped q=true/\d=.bl (if neg then !PyData.eqv p q else PyData.eqv p q)/\Z'=Z:=by
 unfold Fb at e;split at e
 ·rename_i p q e1 e2;split at e
  ·rename_i h;cases e;exact⟨p,q,e1,e2,h.1,h.2,rfl,rfl⟩
  ·cases e
 ·cases e
theorem CU(hr:Room k X.A):OpR X (compareOp .Eq) (rM X.kw Ah):=OpR.wk (X9 (Kr hr)) λx y H Q h=>by
 obtain⟨Y,Z,a,b,d,Z',R,ia,ib,e,q⟩:=h;obtain⟨p,p',e1,e2,s1,s2,rfl,rfl⟩:=Im e;exact⟨p,p',TK R ia e1,TK R ib e2,s1,s2,q Y H R.ext0 R _ (ofB _)⟩
theorem NN(hr:Room k X.A):OpR X (compareOp .NotEq) (rM X.kw FE):=OpR.wk (X5 (Kr hr)) λx y H Q h=>by
 obtain⟨Y,Z,a,b,d,Z',R,ia,ib,e,q⟩:=h;obtain⟨p,p',e1,e2,s1,s2,rfl,rfl⟩:=Im e;exact⟨p,p',TK R ia e1,TK R ib e2,s1,s2,q Y H R.ext0 R _ (ofB _)⟩
noncomputable def isN:D->Bool
 | .non=>true
 |_=>false
noncomputable def Ci(neg:Bool):D->D->M D
 |a,.non=>ret (.bl (if neg then !isN a else isN a))
 |_,_=>Bb
theorem Oq(h:Is K Y k H a x):decide (x=V.non)=isN a:=by
 cases a with
 |non=>unfold Is at h;subst h;rfl
 |bl b=>unfold Is at h;subst h;rfl
 |int b=>unfold Is at h;subst h;rfl
 |str b=>unfold Is at h;subst h;rfl
 |ty b=>unfold Is at h;subst h;rfl
 |scr ns=>unfold Is at h;obtain⟨p,rfl,_⟩:=h;rfl
 |tup ns=>unfold Is at h;obtain⟨p,o,rfl,_⟩:=h;rfl
 |lst ns=>unfold Is at h;obtain⟨p,o,rfl,_⟩:=h;rfl
 |ref ns=>unfold Is at h;obtain⟨_,rfl⟩:=h;rfl
theorem bB:OpR X (compareOp .Is) (rM X.kw (Ci false)):=OpR.wk X8 λx y H Q h=>by
 obtain⟨Y,Z,a,b,d,Z',R,ia,ib,e,q⟩:=h;cases b with
 |non=>cases e;exact⟨LD ib,by rw[Oq ia];exact q Y H R.ext0 R _ (ofB _)⟩
 |_=>cases e
theorem Do:OpR X (compareOp .IsNot) (rM X.kw (Ci true)):=OpR.wk VG λx y H Q h=>by
 obtain⟨Y,Z,a,b,d,Z',R,ia,ib,e,q⟩:=h;cases b with
 |non=>cases e;exact⟨LD ib,by rw[Oq ia];exact q Y H R.ext0 R _ (ofB _)⟩
 |_=>cases e
noncomputable def Gp:D->Option V
 | .non=>some .non
 | .bl b=>some (.bl b)
 | .int i=>some (.int i)
 | .str x=>some (.str x)
 |_=>none
noncomputable def Dd:List D->Option (List V)
 |[]=>some []
 |d::ds=>(Gp d).bind λv=>(Dd ds).map (v::·)
section
variable{K:KW}{Y:Nat->Addr}{H:Hp}{k:Nat}
theorem Go(h:Is K Y k H d x)(e:Gp d=some v):x=v/\Dw v=true:=by
 cases d with
 |non=>cases e;unfold Is at h;exact⟨h,rfl⟩
 |bl b=>cases e;unfold Is at h;exact⟨h,rfl⟩
 |int b=>cases e;unfold Is at h;exact⟨h,rfl⟩
 |str b=>cases e;unfold Is at h;exact⟨h,rfl⟩
 |_=>cases e
theorem Fz:∀{ds:List D} {vs xs:List V},IsL K Y k H ds xs->Dd ds=some vs->xs=vs/\vs.all Dw=true
 |[],_,_,h,e=>by cases e;unfold IsL at h;exact⟨h,rfl⟩
 |d::ds,_,_,h,e=>by
  unfold IsL at h;obtain⟨v,vs',rfl,h1,h2⟩:=h;unfold Dd at e;cases q:Gp d with
  |none=>rw[q] at e;cases e
  |some w=>
   rw[q] at e;cases q2:Dd ds with
   |none=>rw[q2] at e;cases e
   |some ws=>
    rw[q2] at e;cases e;obtain⟨rfl,f1⟩:=Go h1 q;obtain⟨rfl,f2⟩:=Fz h2 q2;exact⟨rfl,by rw[List.all_cons,f1,f2];rfl⟩
end
noncomputable def B4:D->M (List D)
 | .tup ds=>ret ds
 |d=>Ca d
theorem Dk(R:RelH K Y Z H)(i:Is K Y Z.length H d v)(e:B4 d Z=some (ds,Z')):Z'=Z/\∃p vs,v=.ref p/\(SqL K H p vs∨SqT K H p vs)/\IsL K Y Z.length H ds vs:=by
 cases d with
 |tup es=>
  cases e;unfold Is at i;obtain⟨p,vs,rfl,h1,h2⟩:=i;exact⟨rfl,p,vs,rfl,.inr h1,h2⟩
 |lst es=>obtain⟨h,p,vs,a,b,c⟩:=C9 R i e;exact⟨h,p,vs,a,.inl b,c⟩
 |scr es=>obtain⟨h,p,vs,a,b,c⟩:=C9 R i e;exact⟨h,p,vs,a,.inl b,c⟩
 |ref es=>obtain⟨h,p,vs,a,b,c⟩:=C9 R i e;exact⟨h,p,vs,a,.inl b,c⟩
 |_=>cases e
noncomputable def Gk(neg:Bool)(a b:D):M D:=bnd (B4 b) λds=>λZ=>match Gp a,Dd ds with
 |some x,some xs=>some (.bl (if neg then !inV x xs else inV x xs),Z)
 |_,_=>none
noncomputable def FR(neg:Bool):D->D->M D
 | .str i,.str j=>ret (.bl (if neg then !(!(Builtin.Str.occurrences j i 0 j.length 1).isEmpty) else !(Builtin.Str.occurrences j i 0 j.length 1).isEmpty))
 |a,b=>Gk neg a b
theorem Rg(R:RelH K Y Z H)(ia:Is K Y Z.length H a x)(ib:Is K Y Z.length H b y)(e:Gk neg a b Z=some (d,Z'))(q:Aft K Y Z H Z' λY' H'=>∀v,Is K Y' Z'.length H' d v->Q v H'):rIn K neg x y H Q:=by
 obtain⟨ds,w6,e1,e2⟩:=AF e;obtain⟨hm,p,vs,rfl,h1,h2⟩:=Dk R ib e1;subst hm;split at e2
 ·rename_i w ws q1 q2;cases e2;obtain⟨rfl,f1⟩:=Go ia q1;obtain⟨rfl,f2⟩:=Fz h2 q2;exact⟨p,_,rfl,h1,f1,f2,q Y H R.ext0 R _ (ofB _)⟩
 ·cases e2
theorem Zu:OpR X (compareOp .In) (rM X.kw (FR false)):=λw5 s O H x y v u Q I rx ry h=>by
 obtain⟨Y,Z,a,b,d,Z',R,ia,ib,e,q⟩:=h;unfold FR at e;split at e
 ·cases e;cases D1 ia;cases D1 ib;exact Pq w5 s O H _ _ v u Q I rx ry ⟨_,_,rfl,rfl,q Y H R.ext0 R _ (ofB _)⟩
 ·exact Ps w5 s O H _ _ v u Q I rx ry (Rg R ia ib e q)
theorem K3:OpR X (compareOp .NotIn) (rM X.kw (FR true)):=λw5 s O H x y v u Q I rx ry h=>by
 obtain⟨Y,Z,a,b,d,Z',R,ia,ib,e,q⟩:=h;unfold FR at e;split at e
 ·cases e;cases D1 ia;cases D1 ib;exact Kx w5 s O H _ _ v u Q I rx ry ⟨_,_,rfl,rfl,q Y H R.ext0 R _ (ofB _)⟩
 ·exact Ky w5 s O H _ _ v u Q I rx ry (Rg R ia ib e q)
noncomputable def ixD(ds:List D)(i:Int):M D:=λZ=>(atI ds i).map λd=>(d,Z)
noncomputable def AJ:D->D->M D
 | .str z,.int i=>λZ=>if z.length<=sizeLine then (atI z.cps.toList i).map λc=>(.str ⟨#[c]⟩,Z) else none
 |a,.int i=>bnd (B4 a) λds=>ixD ds i
 |_,_=>Bb
theorem AZ:IxR X (rM X.kw AJ):=λva sl w5 s O H x y v u Q I rx ry h hsl=>by
 obtain⟨Y,Z,a,b,d,Z',R,ia,ib,e,q⟩:=h;unfold AJ at e;split at e
 ·split at e
  ·rename_i z i hl;cases D1 ia;cases B0 ib;cases qq:atI z.cps.toList i with
   |none=>rw[qq] at e;cases e
   |some c=>
    rw[qq] at e;cases e;exact NY va sl w5 s O H _ _ v u Q I rx ry (.inr (.inr ⟨z,i,c,rfl,rfl,hl,qq,q Y H R.ext0 R _ (ofS _)⟩)) hsl
  ·cases e
 ·cases B0 ib;obtain⟨ds,w6,e1,e2⟩:=AF e;obtain⟨hm,p,vs,rfl,h1,h2⟩:=Dk R ia e1;subst hm;rename_i i _;unfold ixD at e2;cases qq:atI ds i with
  |none=>rw[qq] at e2;cases e2
  |some c=>
   rw[qq] at e2;cases e2;obtain⟨w,ew,iw⟩:=Yu h2 qq;rcases h1 with h1|h1
   ·exact NY va sl w5 s O H _ _ v u Q I rx ry (.inl ⟨p,vs,i,w,rfl,rfl,h1,ew,q Y H R.ext0 R _ iw⟩) hsl
   ·exact NY va sl w5 s O H _ _ v u Q I rx ry (.inr (.inl ⟨p,vs,i,w,rfl,rfl,h1,ew,q Y H R.ext0 R _ iw⟩)) hsl
 ·cases e
noncomputable def Bh:List D->M D
 |[.str z]=>λZ=>if z.length<=sizeLine then some (.int z.length,Z) else none
 |[.ref n]=>λZ=>match Z[n]? with
  |some (.lst ds)=>some (.int ds.length,Z)
  |_=>none
 |[d]=>bnd (B4 d) λds=>ret (.int ds.length)
 |_=>Bb
theorem CK:Bo X (.builtin "len") (rMA X.kw Bh):=λw5 s O H xs us Q I r h=>by
 obtain⟨Y,Z,as,d,Z',R,ia,e,q⟩:=h;refine Tb w5 s O H xs us Q I r ?_;unfold Bh at e;split at e
 ·rename_i z;obtain⟨v,rfl,i1⟩:=Dv ia;split at e
  ·rename_i hl;cases e;cases D1 i1;exact⟨_,_,rfl,⟨hl,rfl⟩,q Y H R.ext0 R _ (ofI _)⟩
  ·cases e
 ·rename_i n;obtain⟨v,rfl,i1⟩:=Dv ia;unfold Is at i1;obtain⟨_,rfl⟩:=i1;split at e
  ·rename_i ds hq;cases e;obtain⟨u,h1,vs,rfl,h2⟩:=R.obj n _ hq;exact⟨_,_,rfl,.inl ⟨vs,SqL.of h1,rfl⟩,by rw[h2.length];exact q Y H R.ext0 R _ (ofI _)⟩
  ·cases e
 ·obtain⟨v,rfl,i1⟩:=Dv ia;obtain⟨ds,w6,e1,e2⟩:=AF e;obtain⟨hm,p,vs,rfl,h1,h2⟩:=Dk R i1 e1;subst hm;cases e2;rw[←h2.length] at q;rcases h1 with h1|h1
  ·exact⟨_,_,rfl,.inl ⟨vs,h1,rfl⟩,q Y H R.ext0 R _ (ofI _)⟩
  ·exact⟨_,_,rfl,.inr ⟨vs,h1,rfl⟩,q Y H R.ext0 R _ (ofI _)⟩
 ·cases e
noncomputable def DP(ds:List D)(lo hi:Option Int):List D:=(ds.drop (HT.sIx ds.length 0 lo)).take (HT.sIx ds.length ds.length hi-HT.sIx ds.length 0 lo)
noncomputable def Zb(lo hi:Option Int):D->M D
 | .tup ds=>if HT.sIx ds.length 0 lo=0/\HT.sIx ds.length ds.length hi=ds.length then Bb else ret (.tup (DP ds lo hi))
 |d=>bnd (Ca d) λds=>ret (.lst (DP ds lo hi))
noncomputable def rMS(K:KW):V->Option Int->Option Int->Hp->VK->Prop:=λx lo hi H Q=>∃Y Z a d Z',RelH K Y Z H/\Is K Y Z.length H a x/\Zb lo hi a Z=some (d,Z') /\
 Aft K Y Z H Z' λY' H'=>∀v,Is K Y' Z'.length H' d v->Q v H'
theorem J4{K:KW}{Y:Nat->Addr}{Z:Mh}{vs:List V}{Q:VK}(R:RelH K Y Z H)(i:IsL K Y Z.length H ds vs)(q:Aft K Y Z H Z λY' H'=>∀v,Is K Y' Z.length H' (.lst ds) v->Q v H')(p:Addr)(hp:H p=none):Q (.ref p) (upd H p (.lst vs)):=by
 obtain⟨E1,R1⟩:=R.laid (.lst vs) hp;have ho:∀n,n<Z.length->Y n≠p:=λn hn z=>by
  obtain⟨o,e,_⟩:=R.muts n hn;rw[z,hp] at e;cases e
 exact q Y _ E1 R1 _ (by unfold Is;exact⟨p,vs,rfl,Bw,ho,i.ext E1⟩)
theorem SY{K:KW}{Y:Nat->Addr}{Z:Mh}{vs:List V}{Q:VK}(R:RelH K Y Z H)(i:IsL K Y Z.length H ds vs)(q:Aft K Y Z H Z λY' H'=>∀v,Is K Y' Z.length H' (.tup ds) v->Q v H')(p:Addr)(hp:H p=none):Q (.ref p) (upd H p (.tup vs)):=by
 obtain⟨E1,R1⟩:=R.laid (.tup vs) hp;exact q Y _ E1 R1 _ (by unfold Is;exact⟨p,vs,rfl,SqT.of Bw,i.ext E1⟩)
theorem bA:SlR X (rMS X.kw):=λw5 s O H x v vl vu lo hi sl Q I rx hs pl pu h=>by
 obtain⟨Y,Z,a,d,Z',R,ia,e,q⟩:=h;refine(SlR.or Ul XT) w5 s O H x v vl vu lo hi sl Q I rx hs pl pu ?_;unfold Zb at e;split at e
 ·rename_i ds;unfold Is at ia;obtain⟨p,vs,rfl,h1,h2⟩:=ia;split at e
  ·cases e
  ·rename_i hc;cases e;exact .inr ⟨p,vs,rfl,h1,by rw[h2.length];exact hc,λp hp=>SY R (TV h2) q p hp⟩
 ·obtain⟨ds,w6,e1,e2⟩:=AF e;obtain⟨hm,p,vs,rfl,h1,h2⟩:=C9 R ia e1;subst hm;cases e2;exact .inl ⟨p,vs,rfl,h1,λp hp=>J4 R (TV h2) q p hp⟩
noncomputable def DI:Sl->M (Option Int):=λ_=>ret none
noncomputable def asI:D->M (Option Int)
 | .int i=>ret (some i)
 |_=>Bb
noncomputable def Cv(m:Sl->M D):Sl->M (Option Int):=λB=>bnd (m B) asI
noncomputable def tPt(K:KW)(m:Sl->M (Option Int)):TO:=λO H Q=>∃Y Z B b Z',RelH K Y Z H/\RelS K Y Z.length H B O/\m B Z=some (b,Z')/\Aft K Y Z H Z' λ_ H'=>Q b H'
structure RO(X:Cx)(e:Option Expr)(m:Sl->M (Option Int)):Prop where
 pe:PO X e (tPt X.kw m)
theorem PO.wk(h:PO X e t)(w:∀O H Q,t' O H Q->t O H Q):PO X e t':=λw5 s O H Q I q=>h w5 s O H Q I (w O H Q q)
theorem RO.wk(h:PO X e t)(w:∀O H Q,tPt X.kw m O H Q->t O H Q):RO X e m:=⟨PO.wk h w⟩
theorem Fu:RO X none DI:=RO.wk U7 λO H Q h=>by
 obtain⟨Y,Z,B,b,Z',R,S,e,q⟩:=h;cases e;exact q Y H R.ext0 R
theorem Dm(h:RE X e m):RO X (some e) (Cv m):=RO.wk (U6 h.pe) λO H Q h=>by
 obtain⟨Y,Z,B,b,Z',R,S,e,q⟩:=h;obtain⟨x,w6,e1,e⟩:=AF e;refine⟨Y,Z,B,x,w6,R,S,e1,λx4 H1 E1 R1 v i1=>?_⟩;cases x with
 |int i=>cases e;exact⟨i,B0 i1,q x4 H1 E1 R1⟩
 |_=>cases e
noncomputable def tyD(Z:Mh):D->Option String
 | .non=>some "NoneType"
 | .bl _=>some "bool"
 | .int _=>some "int"
 | .str _=>some "str"
 | .tup _=>some "tuple"
 | .lst _=>some "list"
 | .scr _=>none
 | .ref n=>match Z[n]? with
  |some (.lst _)=>some "list"
  |some (.dK _)=>some "dict"
  |some (.dC _)=>none
  |some (.ins _ _)=>none
  |some (.dP _)=>none
  |some (.exc _ _)=>none
  |none=>none
 | .ty _=>none
noncomputable def DL(t T:String):Option Bool:=
 if t∈["NoneType", "bool", "int", "str", "tuple", "list", "dict"]/\T∈["bool", "int", "str", "tuple", "list", "dict"] then some (t==T||(t == "bool" && T == "int")) else none
theorem VQ(h:DL t T=some b):PySem.W.kitOne K (.type t) (.type T)=some b:=by
 unfold DL at h;split at h
 ·rename_i hm;obtain⟨h1,h2⟩:=hm;simp only[AAI,List.not_mem_nil,or_false] at h1 h2;rcases h1 with rfl|rfl|rfl|rfl|rfl|rfl|rfl<;>rcases h2 with rfl|rfl|rfl|rfl|rfl|rfl<;>(cases h;kernel_rfl)
 ·cases h
noncomputable def Cg:List D->M D
 |[a,.ty T]=>λZ=>match tyD Z a with
  |some t=>(DL t T).map λb=>(.bl b,Z)
  |none=>none
 |_=>Bb
theorem FK:Bo X (.builtin "isinstance") (rMA X.kw Cg):=λw5 s O H xs us Q I r h=>by
 obtain⟨Y,Z,as,d,Z',R,ia,e,q⟩:=h;unfold Cg at e;split at e
 ·rename_i a T;obtain⟨v,v',rfl,i1,i2⟩:=Si ia;cases Z7 i2;split at e
  ·rename_i t ht;cases hk:DL t T with
   |none=>rw[hk] at e;cases e
   |some b=>
    rw[hk] at e;cases e;have kit:=VQ (K:=X.kw) hk;have fin:=q Y H R.ext0 R _ (ofB b);have byTy:G7 X.kw H v (.type t)->wpAny (model X.prog X.w) X.A (call (.builtin "isinstance") us) (EP X w5 O Q) X.xe s:=λty=>
     Ml w5 s O H _ us Q I r ⟨v,T,_,b,rfl,ty,kit,fin⟩
    cases a with
    |non=>cases ht;cases LD i1;exact byTy .non
    |bl x=>cases ht;cases Sg i1;exact byTy (.bl x)
    |int x=>cases ht;cases B0 i1;exact byTy (.int x)
    |str x=>cases ht;cases D1 i1;exact byTy (.str x)
    |ty n=>cases ht
    |lst ds=>cases ht;unfold Is at i1;obtain⟨p,vs,rfl,h1,_⟩:=i1;exact byTy (.lst h1)
    |scr ns=>cases ht
    |ref n=>
     unfold Is at i1;obtain⟨_,rfl⟩:=i1;have ht:(match Z[n]? with|some (.lst _)=>some "list" |some (.dK _)=>some "dict" |some (.dC _)=>none|some (.ins _ _)=>none|some (.dP _)=>none|some (.exc _ _)=>none|none=>none)=some t:=ht;split at ht
     ·rename_i ds hq;cases ht;obtain⟨u,h1,vs,rfl,h2⟩:=R.obj n _ hq;exact byTy (.lst h1)
     ·rename_i ds hq;cases ht;obtain⟨u,h1,vs,rfl,h2⟩:=R.obj n _ hq;exact byTy (.dK h1)
     ·cases ht
     ·cases ht
     ·cases ht
     ·cases ht
     ·cases ht
    |tup ds=>
     cases ht;unfold Is at i1;obtain⟨p,vs,rfl,h1,h2⟩:=i1;obtain⟨its,_,⟨o,g1,g2,_⟩,_⟩:=I.tuple h1;obtain⟨u1,u2,rfl,r1,r2⟩:=Vals.two r;cases r1;cases r2;exact PySem.W.kia_one PySem.W.kitx_tuple I.kIn ⟨o,g1,g2⟩ kit (λz=>nomatch z) λtk=>⟨.bl b,H,I.tok _,rfl,fin⟩
  ·cases e
 ·cases e
noncomputable def Nc:List D->M D
 |[.int i]=>ret (.int i)
 |[.bl b]=>ret (.int (if b then 1 else 0))
 |_=>Bb
theorem WW:Bo X (.type "int") (rMA X.kw Nc):=λw5 s O H xs us Q I r h=>by
 obtain⟨Y,Z,as,d,Z',R,ia,e,q⟩:=h;refine QU w5 s O H xs us Q I r ?_;unfold Nc at e;split at e
 ·obtain⟨v,rfl,i1⟩:=Dv ia;cases e;cases B0 i1;exact .inl ⟨_,rfl,q Y H R.ext0 R _ (ofI _)⟩
 ·obtain⟨v,rfl,i1⟩:=Dv ia;cases e;cases Sg i1;exact .inr ⟨_,rfl,q Y H R.ext0 R _ (ofI _)⟩
 ·cases e
noncomputable def SO:List D->M D
 |[.int i,.int j]=>ret (.int (if j > i then j else i))
 |_=>Bb
theorem aM(hc:X.calm=true):Bo X (.builtin "max") (rMA X.kw SO):=λw5 s O H xs us Q I r h=>by
 obtain⟨Y,Z,as,d,Z',R,ia,e,q⟩:=h;refine QQ hc w5 s O H xs us Q I r ?_;unfold SO at e;split at e
 ·obtain⟨v,w,rfl,i1,i2⟩:=Si ia;cases e;cases B0 i1;cases B0 i2;exact⟨_,_,rfl,q Y H R.ext0 R _ (ofI _)⟩
 ·cases e
noncomputable def IP:List D->M D
 |[.tup ds]=>ret (.tup ds)
 |[d]=>bnd (Ca d) λds=>ret (.tup ds)
 |_=>Bb
theorem PD:Bo X (.type "tuple") (rMA X.kw IP):=λw5 s O H xs us Q I r h=>by
 obtain⟨Y,Z,as,d,Z',R,ia,e,q⟩:=h;unfold IP at e;split at e
 ·obtain⟨v,rfl,i1⟩:=Dv ia;cases e;have i2:=i1;unfold Is at i1;obtain⟨p,vs,rfl,h1,h2⟩:=i1;exact Mj w5 s O H _ us Q I r ⟨p,vs,rfl,h1,q Y H R.ext0 R _ i2⟩
 ·obtain⟨v,rfl,i1⟩:=Dv ia;obtain⟨ds,w6,e1,e2⟩:=AF e;obtain⟨hm,p,vs,rfl,h1,h2⟩:=C9 R i1 e1;subst hm;cases e2;obtain⟨u,rfl,ru⟩:=Vals.one r;cases ru;obtain⟨its,rv,pl,hz⟩:=I.list h1;refine PySem.call_tuple_list pl.isList (λh' hk=>?_) (by rw[List.size_toArray,←rv.length];exact hz);have I1:Inv X w5 O H { s with heap:=h' }:=I.kept (t':=s.toks) hk;have I2:Inv X w5 O (upd H h'.objs.size (.tup vs)) { s with heap:=h'.push { cls:=.type "tuple",data:=.seq its.toArray } }:=I1.laid (t':=s.toks) (o:=.tup vs) (λb ob q=>AAC _ q) (AAE _) ⟨hz,its,rv,PyProof.Rows.IsTup.new _ _⟩;exact⟨.ref h'.objs.size,_,I2,rfl,SY R h2 q _ (I1.hok.fresh (AAE _))⟩
 ·cases e
end
section
variable{X:Cx}{e a b c o i f:Expr}{es:List Expr}{pos apos cpos:Pos}
theorem Lr(h:tE K (Db g g' ma mb mc) O H Q):M9 (rM K g) (rM K g') (tE K ma) (tE K mb) (tE K mc) O H Q:=by
 obtain⟨Y,Z,B,d,Z',R,S,e,q⟩:=h;obtain⟨x,w6,e1,ee1⟩:=AF e;obtain⟨y,w9,e2,ee2⟩:=AF ee1;obtain⟨z,x8,e3,ee3⟩:=AF ee2;obtain⟨k,u3,e4,ee4⟩:=AF ee3;obtain⟨hz,hm⟩:=JW e4;subst hm;subst hz;refine⟨Y,Z,B,x,w6,R,S,e1,λx4 H1 E1 R1 v1 i1=>⟨x4,w6,B,y,w9,R1,S.ext E1,e2,λx5 H2 E2 R2 v2 i2=>?_⟩⟩;refine⟨x5,w9,x,y,_,_,R2,i1.ext E2,i2,e3,λx9 H3 E3 R3 v3 i3=>⟨k,Sg i3,?_⟩⟩;have E13:=(E1.trans E2).trans E3;cases k with
 |false=>cases ee4;exact q x9 H3 E13 R3 _ (ofB _)
 |true=>
  obtain⟨w,j0,e5,ee5⟩:=AF ee4;exact⟨x9,_,B,w,j0,R3,S.ext E13,e5,λu4 H4 E4 R4 v4 i4=>⟨u4,j0,y,w,d,Z',R4,i2.ext (E3.trans E4),i4,ee5,λu7 H5 E5 R5=>q u7 H5 ((E13.trans E4).trans E5) R5⟩⟩
theorem L3(ho:OpR X (compareOp op) (rM X.kw g))(ho':OpR X (compareOp op') (rM X.kw g'))(ha:RE X a ma)(hb:RE X b mb)(hc:RE X c mc)(hm:lastMarks [op,op'] [b,c]=false:=by with_unfolding_all rfl):
  RE X (.Compare a [op,op'] [b,c] pos) (Db g g' ma mb mc):=RE.wk (R6 ho ho' ha.pe hb.pe hc.pe hm) λ_ _ _ h=>Lr h
theorem RP(ho:OpR X (compareOp op) (rM X.kw g))(ho':OpR X (compareOp op') (rM X.kw g'))(ha:RE X a ma)(hb:RE X b mb)(hc:RE X c mc)(hm:lastMarks [op,op'] [b,c]=false:=by with_unfolding_all rfl):
  RT X (.Compare a [op,op'] [b,c] pos) (AN (Db g g' ma mb mc)):=RT.wk (Rk ho ho' ha.pe hb.pe hc.pe hm) λO H Q h=>Lr (Q:=λx H'=>∃k,x=.bl k/\Q k H') (Kk h)
theorem D6(hm:X.mg x=none)(hv:bootBuiltins x=some (.type n))(hg:Gl X x:=by rfl)(hn:x ≠ "__name__" := by decide)(hdb:(x==("__debug__" : Str))=false:=by decide):RE X (.Name x pos) (mC (.ty n)):=
 Pi (t:=λ_ _ _=>True) (VC (v:=.ty n) hg hm hv rfl hn hdb) λ_ _ _=>by unfold Is;rfl
noncomputable def Dc(d:D):M Unit:=bnd (Ca d) λ_=>ret ()
noncomputable def Aj(g:D->List D->M D)(mo:Sl->M D)(ma:Sl->M (List D)):Sl->M D:=λB=>bnd (mo B) λx=>bnd (Dc x) λ_=>bnd (ma B) λxs=>g x xs
noncomputable def rMM(K:KW)(g:D->List D->M D):V->List V->Hp->VK->Prop:=λx xs H Q=>∃Y Z a as d Z',RelH K Y Z H/\Is K Y Z.length H a x/\IsL K Y Z.length H as xs/\g a as Z=some (d,Z') /\
 Aft K Y Z H Z' λY' H'=>∀v,Is K Y' Z'.length H' d v->Q v H'
theorem Hh(R:RelH K Y Z H)(i:Is K Y Z.length H d v)(e:Dc d Z=some (u,Z')):Z'=Z/\tyV K "list" v H:=by
 obtain⟨ds,w6,e1,ee1⟩:=AF e;cases ee1;obtain⟨hm,p,vs,rfl,h1,h2⟩:=C9 R i e1;exact⟨hm,.inl ⟨rfl,vs,h1⟩⟩
theorem HQ(e:Dc d Z=some (u,Z')):Z'=Z:=by
 obtain⟨ds,w6,e1,ee1⟩:=AF e;cases ee1;cases d with
 |lst _=>cases e1;rfl
 |scr _=>cases e1;rfl
 |ref n=>
  have e1:(match Z[n]? with|some (.lst ds)=>some (ds,Z)|_=>none)=some (ds,Z'):=e1;split at e1
  ·cases e1;rfl
  ·cases e1
 |_=>cases e1
theorem Q9(h:tE K (Aj g mo ma) O H Q):tBM K "list" (rMM K g) (tE K mo) (tL K ma) O H Q:=by
 obtain⟨Y,Z,B,d,Z',R,S,e,q⟩:=h;obtain⟨x,w6,e1,ee1⟩:=AF e;obtain⟨u,w9,e2,ee2⟩:=AF ee1;obtain⟨as,x8,e3,ee3⟩:=AF ee2;have hm:=HQ e2;subst hm;refine⟨Y,Z,B,x,_,R,S,e1,λx4 H1 E1 R1 v1 i1=>⟨(Hh R1 i1 e2).2,?_⟩⟩;refine⟨x4,_,B,as,x8,R1,S.ext E1,e3,λx5 H2 E2 R2 vs i2=>?_⟩;exact⟨x5,x8,x,as,d,Z',R2,i1.ext E2,i2,ee3,λx9 H3 E3 R3=>q x9 H3 ((E1.trans E2).trans E3) R3⟩
theorem BB{name:Str}{id:String}(slot:Slot "list" name id)(hty:typeOf (.builtin id)=pure (.type "method_descriptor"))(hm:MtR X id (rMM X.kw g))(ho:RE X o mo)(ha:RA X (e::es) ma)
  (hbase:attributeBase o name X.env (eval o X.env)=eval o X.env:=by rfl)
  (hfew:((backTo cpos (starEach (e::es) X.env)).all (λx=>!x.1)&&(backToKw cpos (keywordEach [] X.env)).all (λx=>x.1.isSome)
   && decide ((e::es).length+([]:List Keyword).length+(if ([]:List Keyword).isEmpty then 0 else 1)<30))=true:=by rfl)
  (hline:(apos.endLine==cpos.line)=true:=by rfl) (hs:starEach (e::es) X.env=(false,eval e X.env)::starEach es X.env:=by exact BE rfl) (hplain:(backTo cpos (starEach es X.env)).any (·.1)=false:=by exact DT rfl) :
  RE X (.Call (.Attribute o name apos) (e::es) [] cpos) (Aj g mo ma):=RE.wk (Zj PySem.F.plainAttrs_list slot hty hm ho.pe ha.pe hbase hfew hline hs hplain) λ_ _ _ h=>Q9 h
noncomputable def EC(n:Nat)(k:List D->Option (D×List D)):M D:=λZ=>match Z[n]? with
 |some (.lst ds)=>(k ds).map λr=>(r.1,Z.set n (.lst r.2))
 |_=>none
theorem EA(e:EC n k Z=some (d,Z')):∃ds es,Z[n]?=some (.lst ds)/\k ds=some (d,es)/\Z'=Z.set n (.lst es):=by
 unfold EC at e;split at e
 ·rename_i ds hq;cases hk:k ds with
  |none=>rw[hk] at e;cases e
  |some r=>rw[hk] at e;cases e;exact⟨ds,r.2,hq,hk,rfl⟩
 ·cases e
theorem Fs{K:KW}{Y:Nat->Addr}{Z:Mh}{H:Hp}{n:Nat}{d:D}{es:List D}{ws:List V}{v:V}{Q:VK}{ds:List D}(R:RelH K Y Z H)(hn:Z[n]?=some (.lst ds))(iw:IsL K Y Z.length H es ws)(iv:Is K Y Z.length H d v)
  (q:Aft K Y Z H (Z.set n (.lst es)) λY' H'=>∀v,Is K Y' (Z.set n (.lst es)).length H' d v->Q v H'):Q v (upd H (Y n) (.lst ws)):=by
 have hlt:n<Z.length:=(AAT.mp hn).1;obtain⟨E1,R1⟩:=R.changed (m:=.lst es) (o:=.lst ws) hlt ⟨ws,rfl,iw⟩;exact q Y _ E1 R1 v (iv.ext E1)
noncomputable def Cw:D->List D->M D
 | .ref n,[d]=>EC n λds=>if ds.length<sizeLine then some (.non,ds++[d]) else none
 |_,_=>Bb
theorem B6:MtR X "list.append" (rMM X.kw Cw):=λw5 s O H x xs v us Q I rx rs h=>by
 obtain⟨Y,Z,a,as,d,Z',R,ia,ib,e,q⟩:=h;unfold Cw at e;split at e
 ·rename_i n y;obtain⟨ds,es,h1,h2,rfl⟩:=EA e;split at h2
  ·rename_i hl;cases h2;obtain⟨w,rfl,iw⟩:=Dv ib;unfold Is at ia;obtain⟨_,rfl⟩:=ia;obtain⟨u,g1,vs,rfl,g2⟩:=R.obj n _ h1;exact Py w5 s O H _ _ v us Q I rx rs ⟨_,vs,w,rfl,rfl,g1,by rw[g2.length];exact hl,Fs R h1 (g2.append (.one iw)) ofN q⟩
  ·cases h2
 ·cases e
noncomputable def bY:D->List D->M D
 | .ref n,[.lst zs]=>EC n λds=>if ds.length+zs.length<=sizeLine then some (.non,ds++zs) else none
 |_,_=>Bb
noncomputable def Nd:D->List D->M D
 | .ref n,[.int i,d]=>EC n λds=>if 0<=i/\i<2 ^ 62/\ds.length<sizeLine then some (.non,ds.take i.toNat++d::ds.drop i.toNat) else none
 |_,_=>Bb
theorem Nu(xs:List Value)(k:Nat)(y:Value)(hk:k<=xs.length):(xs.toArray.extract 0 k).push y++xs.toArray.extract k=(xs.take k++y::xs.drop k).toArray:=by
 apply Array.toList_inj.mp;simp[Array.toList_extract,List.extract_eq_take_drop,AAm];exact List.take_of_length_le (by simp)
theorem Yc{i:Int}(h0:0<=i)(h:i<2 ^ 62):Builtin.List.listFitsIndex i=true:=fitsIndex_both (by omega) (by omega)
theorem Gi:MtR X "list.insert" (rMM X.kw Nd):=λw5 s O H x xs v us Q I rx rs h=>by
 obtain⟨Y,Z,a,as,d,Z',R,ia,ib,e,q⟩:=h;unfold Nd at e;split at e
 ·rename_i n i y;obtain⟨ds,es,h1,h2,rfl⟩:=EA e;split at h2
  ·rename_i hl;cases h2;obtain⟨w,w',rfl,iw,iw'⟩:=Si ib;cases B0 iw;unfold Is at ia;obtain⟨_,rfl⟩:=ia;obtain⟨u,g1,vs,rfl,g2⟩:=R.obj n _ h1;cases rx;obtain⟨u1,u2,rfl,r1,r2⟩:=Vals.two rs;obtain⟨t,rfl⟩:=r1;obtain⟨z,its,nn,r,hl2,e2⟩:=I.lstM g1;refine call_meets PySem.F.slot_list_insert ⟨_,e2,rfl⟩ PySem.F.entry_list_insert (PySem.F.args_list_insert_3 _ _ _) (PySem.AutoSeq1.list_insert_list_int_val_1 _ its.toArray nn i t u2 (by simp[Yc hl.1 hl.2.1]) (by rw[List.size_toArray,←hl2];exact z)) ⟨e2,?_⟩;have hk:(if i<0 then (i+((its.toArray.size:Nat):Int)).toNat else min i.toNat its.toArray.size)=min i.toNat its.length:=by rw[if_neg (by omega),List.size_toArray]
   have ht:its.take (min i.toNat its.length)=its.take i.toNat:=by
    rcases Nat.le_total i.toNat its.length with z|z
    ·rw[Nat.min_eq_left z]
    ·rw[Nat.min_eq_right z,List.take_length,List.take_of_length_le z]
   have hd:its.drop (min i.toNat its.length)=its.drop i.toNat:=by
    rcases Nat.le_total i.toNat its.length with z|z
    ·rw[Nat.min_eq_left z]
    ·rw[Nat.min_eq_right z,List.drop_length,List.drop_of_length_le z]
   refine⟨.non,_,I.lset (its':=its.take i.toNat++u2::its.drop i.toNat) (ys:=vs.take i.toNat++w'::vs.drop i.toNat) g1 e2 ?_ ((r.take _).append (.cons r2 (r.drop _))) ?_,rfl,Fs R h1 ((g2.take _).append (.cons iw' (g2.drop _))) ofN q⟩
   ·show (its.toArray.extract 0 _).push u2++its.toArray.extract _=_;rw[hk,Nu _ _ _ (Nat.min_le_right _ _),ht,hd]
   ·have h3:=g2.length;rw[AAG,AAH,List.length_take,List.length_drop];omega
  ·cases h2
 ·cases e
noncomputable def RK:D->D->D->M Unit
 | .ref n,.int k,d=>λZ=>match Z[n]? with
  |some (.lst ds)=>(ixN ds.length k).map λj=>((),Z.set n (.lst (ds.set j d)))
  |_=>none
 |_,_,_=>Bb
noncomputable def F7(mo mi:Sl->M D):D->Sl->M Sl:=λd B=>bnd (mo B) λx=>bnd (mi B) λy=>bnd (RK x y d) λ_=>ret B
theorem Pe(e:RK x y d Z=some (u,Z')):∃n k ds j,x=.ref n/\y=.int k/\Z[n]?=some (.lst ds)/\ixN ds.length k=some j/\Z'=Z.set n (.lst (ds.set j d)):=by
 unfold RK at e;split at e
 ·rename_i n k;split at e
  ·rename_i ds hq;cases hk:ixN ds.length k with
   |none=>rw[hk] at e;cases e
   |some j=>rw[hk] at e;cases e;exact⟨n,k,ds,j,rfl,rfl,hq,hk,rfl⟩
  ·cases e
 ·cases e
theorem HG(ho:RE X o mo)(hi:RE X i mi)
  (ha:∀v,assign (.Subscript o i pos) X.env v=(do
   let ov ←holding [v] (eval o X.env)
   let iv ←holding [v,ov] (eval i X.env)
   standAt pos
   holding [v,ov,iv] (setItem ov iv v)
   release [v,ov,iv] []):=by intro _;rfl):RG X (.Subscript o i pos) (F7 mo mi):=RG.wk (Xm ho.pe hi.pe RJ ha) λv O H Q h=>by
 obtain⟨Y,Z,B,d,B',Z',R,S,i1,e,q⟩:=h;obtain⟨x,w6,e1,ee1⟩:=AF e;obtain⟨y,w9,e2,ee2⟩:=AF ee1;obtain⟨u,x8,e3,ee3⟩:=AF ee2;cases ee3;refine⟨Y,Z,_,x,w6,R,S,e1,λx4 H1 E1 R1 v1 j1=>⟨x4,w6,_,y,w9,R1,S.ext E1,e2,λx5 H2 E2 R2 v2 j2=>?_⟩⟩;obtain⟨n,k,ds,j,rfl,rfl,g1,g2,rfl⟩:=Pe e3;have E12:=E1.trans E2;have j1':=j1.ext E2;unfold Is at j1';obtain⟨hlt,rfl⟩:=j1';cases B0 j2;obtain⟨w,k1,vs,rfl,k2⟩:=R2.obj n _ g1;obtain⟨E3,R3⟩:=R2.changed (m:=.lst (ds.set j d)) (o:=.lst (vs.set j v)) hlt ⟨_,rfl,k2.set (i1.ext E12) j⟩;exact⟨_,vs,k,j,rfl,rfl,k1,by rw[k2.length];exact g2,q x5 _ (E12.trans E3) R3 O (S.ext (E12.trans E3))⟩
noncomputable def LC:D->Option Key
 | .int i=>some (.inl i)
 | .str x=>some (.inr x)
 |_=>none
noncomputable def FL:D->M (Nat×List (Key×D))
 | .ref n=>λZ=>match Z[n]? with
  |some (.dK l)=>some ((n,l),Z)
  |_=>none
 |_=>Bb
def CW(l:List (Key×D))(k:Key):Option D:=(l.find? λkv=>decide (kv.1=k)).map (·.2)
noncomputable def Cy(l:List (Key×D))(k:Key)(d:D):List (Key×D):=
 if (l.any λkv=>decide (kv.1=k))=true then l.map (λkv=>if kv.1=k then (kv.1,d) else kv) else l++[(k,d)]
noncomputable def NP:Sl->M D:=λ_ Z=>some (.ref Z.length,Z++[.dK []])
theorem Gd:RE X (.Dict [] [] pos) NP:=RE.wk Rw λO H Q h=>by
 obtain⟨Y,Z,B,d,Z',R,S,e,q⟩:=h;cases e;intro p hp;obtain⟨Y',E1,R1,e0⟩:=R.grown (m:=.dK []) (o:=.dK []) hp ⟨[],rfl,rfl⟩;exact q Y' _ E1 R1 _ (by unfold Is;exact⟨by simp,by rw[e0]⟩)
section
variable{K:KW}{Y:Nat->Addr}{k:Nat}{H:Hp}
theorem KVs.val:∀{l:List (Key×D)} {r:List (Key×V)} (y:Key),KVs K Y k H l r->(CW l y=none/\FQ r y=none)∨∃d v,CW l y=some d/\FQ r y=some v/\Is K Y k H d v
 |[],_,y,h=>by cases h;exact .inl ⟨rfl,rfl⟩
 |(z,d)::l,_,y,h=>by
  obtain⟨v,r',rfl,h1,h2⟩:=h;by_cases hz:z=y
  ·subst hz;exact .inr ⟨d,v,by simp[CW],by simp[FQ],h1⟩
  ·have:=KVs.val y h2;simpa[CW,FQ,List.find?_cons,hz] using this
theorem KVs.any:∀{l:List (Key×D)} {r:List (Key×V)} (y:Key),KVs K Y k H l r->(l.any λkv=>decide (kv.1=y))=(r.any λkv=>decide (kv.1=y))
 |[],_,y,h=>by cases h;rfl
 |(z,d)::l,_,y,h=>by
  obtain⟨v,r',rfl,h1,h2⟩:=h;rw[List.any_cons,List.any_cons,KVs.any y h2]
theorem KVs.length:∀{l:List (Key×D)} {r:List (Key×V)},KVs K Y k H l r->r.length=l.length
 |[],_,h=>by cases h;rfl
 |(z,d)::l,_,h=>by
  obtain⟨v,r',rfl,h1,h2⟩:=h;rw[AAH,AAH,KVs.length h2]
theorem KVs.app:∀{l:List (Key×D)} {r:List (Key×V)} {y:Key} {d:D} {v:V},KVs K Y k H l r->Is K Y k H d v->KVs K Y k H (l++[(y,d)]) (r++[(y,v)])
 |[],_,y,d,v,h,h1=>by cases h;exact⟨v,[],rfl,h1,rfl⟩
 |(z,e)::l,_,y,d,v,h,h1=>by
  obtain⟨w,r',rfl,h2,h3⟩:=h;exact⟨w,_,rfl,h2,KVs.app h3 h1⟩
theorem KVs.mapPut:∀{l:List (Key×D)} {r:List (Key×V)} {y:Key} {d:D} {v:V},KVs K Y k H l r->Is K Y k H d v->KVs K Y k H (l.map λkv=>if kv.1=y then (kv.1,d) else kv) (r.map λkv=>if kv.1=y then (kv.1,v) else kv)
 |[],_,y,d,v,h,h1=>by cases h;rfl
 |(z,e)::l,_,y,d,v,h,h1=>by
  obtain⟨w,r',rfl,h2,h3⟩:=h;rw[AAW,AAW];by_cases hz:z=y
  ·subst hz;simp only[if_true];exact⟨v,_,rfl,h1,KVs.mapPut h3 h1⟩
  ·simp only[hz,if_false];exact⟨w,_,rfl,h2,KVs.mapPut h3 h1⟩
theorem KVs.put(h:KVs K Y k H l r)(h1:Is K Y k H d v):KVs K Y k H (Cy l y d) (Gh r y v):=by
 unfold Cy Gh;rw[h.any y];split
 ·exact h.mapPut h1
 ·exact h.app h1
theorem IB(h:Is K Y k H d v)(e:LC d=some y):v=kV y:=by
 cases d with
 |int i=>cases e;unfold Is at h;exact h
 |str i=>cases e;unfold Is at h;exact h
 |_=>cases e
theorem Dz(R:RelH K Y Z H)(i:Is K Y Z.length H d v)(e:FL d Z=some (r,Z')):Z'=Z/\d=.ref r.1/\Z[r.1]?=some (.dK r.2)/\v=.ref (Y r.1)/\∃kvs,H (Y r.1)=some (.dK kvs)/\KVs K Y Z.length H r.2 kvs:=by
 cases d with
 |ref n=>
  have e:(match Z[n]? with|some (.dK l)=>some ((n,l),Z)|_=>none)=some (r,Z'):=e;split at e
  ·rename_i l hq;cases e;unfold Is at i;obtain⟨u,h1,kvs,rfl,h2⟩:=R.obj n _ hq;exact⟨rfl,rfl,hq,i.2,kvs,h1,h2⟩
  ·cases e
 |_=>cases e
end
noncomputable def D3(d y:D):M D:=bnd (FL d) λr=>λZ=>((LC y).bind (CW r.2)).map λv=>(v,Z)
theorem Ks(hr:Room k X.A)(ho:RE X o mo)(hi:RE X i mi)(hs:Vr i:=by exact λ_ _=>rfl):RE X (.Subscript o i pos) (mOp D3 mo mi):=RE.wk (U9 (Sm hr) ho.pe hi.pe hs) λO H Q h=>by
 obtain⟨Y,Z,B,d,Z',R,S,e,q⟩:=h;obtain⟨x,w6,e1,ee1⟩:=AF e;obtain⟨y,w9,e2,ee2⟩:=AF ee1;obtain⟨r,x8,e3,ee3⟩:=AF ee2;refine⟨Y,Z,B,x,w6,R,S,e1,λx4 H1 E1 R1 v1 i1=>⟨x4,w6,B,y,w9,R1,S.ext E1,e2,λx5 H2 E2 R2 v2 i2=>?_⟩⟩;obtain⟨hm,_,g1,rfl,kvs,g2,g3⟩:=Dz R2 (i1.ext E2) e3;subst hm;cases hk:LC y with
 |none=>rw[hk] at ee3;cases ee3
 |some ky=>
  rw[hk] at ee3;cases IB i2 hk;rcases g3.val ky with ⟨z1,_⟩|⟨dd,vv,z1,z2,z3⟩
  ·rw[Option.bind_some,z1] at ee3;cases ee3
  ·rw[Option.bind_some,z1] at ee3;cases ee3;exact⟨_,vv,rfl,by rw[←z2];exact DGet.k g2,q x5 H2 (E1.trans E2) R2 vv z3⟩
noncomputable def LI(d:D):M Unit:=bnd (FL d) λ_=>ret ()
theorem QA(e:LI d Z=some (u,Z')):Z'=Z/\∃r,FL d Z=some (r,Z):=by
 obtain⟨r,w6,e1,ee1⟩:=AF e;cases ee1;cases d with
 |ref n=>
  have e2:(match Z[n]? with|some (.dK l)=>some ((n,l),Z)|_=>none)=some (r,Z'):=e1;split at e2
  ·cases e2;exact⟨rfl,_,e1⟩
  ·cases e2
 |_=>cases e1
noncomputable def Ji(neg:Bool)(y d:D):M D:=bnd (FL d) λr=>λZ=>(LC y).map λk=>(.bl (if neg then !(CW r.2 k).isSome else (CW r.2 k).isSome),Z)
theorem XQ(h:tE K (mOp (Ji false) mi mo) O H Q):ZH (tE K mi) (tE K mo) O H Q:=by
 obtain⟨Y,Z,B,d,Z',R,S,e,q⟩:=h;obtain⟨y,w6,e1,ee1⟩:=AF e;obtain⟨x,w9,e2,ee2⟩:=AF ee1;obtain⟨r,x8,e3,ee3⟩:=AF ee2;refine⟨Y,Z,B,y,w6,R,S,e1,λx4 H1 E1 R1 v1 i1=>⟨x4,w6,B,x,w9,R1,S.ext E1,e2,λx5 H2 E2 R2 v2 i2=>?_⟩⟩;obtain⟨hm,_,g1,rfl,kvs,g2,g3⟩:=Dz R2 i2 e3;subst hm;cases hk:LC y with
 |none=>rw[hk] at ee3;cases ee3
 |some ky=>
  rw[hk] at ee3;cases ee3;cases IB (i1.ext E2) hk;refine⟨_,FQ kvs ky,rfl,DGet.k g2,?_⟩;rcases g3.val ky with ⟨z1,z2⟩|⟨dd,vv,z1,z2,z3⟩
  ·rw[z2];rw[z1] at q;exact q x5 H2 (E1.trans E2) R2 _ (ofB _)
  ·rw[z2];rw[z1] at q;exact q x5 H2 (E1.trans E2) R2 _ (ofB _)
theorem Rb(hr:Room k X.A)(hi:RE X i mi)(ho:RE X o mo)(h1:behindInMarks .In o=false:=by first|exact nobehind _ (by decide) (by decide)|rfl):RE X (.Compare i [.In] [o] pos) (mOp (Ji false) mi mo):=RE.wk (Xv (X0 (Sm hr) hi.pe ho.pe) h1) λ_ _ _ h=>XQ h
noncomputable def ER(mo mi mv:Sl->M D):Sl->M (Fl×Sl):=λB=>bnd (mv B) λv=>bnd (mo B) λx=>bnd (mi B) λy=>bnd (FL x) λr=>λZ=>match LC y with
 |some k=>if r.2.length<sizeLine then some ((.next,B),Z.set r.1 (.dK (Cy r.2 k v))) else none
 |none=>none
theorem Hv(hr:Room k X.A)(ho:RE X o mo)(hi:RE X i mi)(hv:RE X value mv)(hs:swapsWith value (some (.Subscript o i pos')) pos.line X.env=pure false:=by rfl):RS X (.Assign [.Subscript o i pos'] value pos) (ER mo mi mv):=RS.wk (U3 (Sm hr) ho.pe hi.pe hv.pe hs) λDn O H h=>by
 obtain⟨Y,Z,B,f,B',Z',R,S,e,q⟩:=h;obtain⟨v,w6,e1,ee1⟩:=AF e;obtain⟨x,w9,e2,ee2⟩:=AF ee1;obtain⟨y,x8,e3,ee3⟩:=AF ee2;obtain⟨r,u3,e4,ee4⟩:=AF ee3;refine⟨Y,Z,B,v,w6,R,S,e1,λx4 H1 E1 R1 v1 i1=>⟨x4,w6,B,x,w9,R1,S.ext E1,e2,λx5 H2 E2 R2 v2 i2=>⟨x5,w9,B,y,x8,R2,S.ext (E1.trans E2),e3,λx9 H3 E3 R3 v3 i3=>?_⟩⟩⟩;obtain⟨hm,hx,g1,hv2,kvs,g2,g3⟩:=Dz R3 (i2.ext E3) e4;subst hm;have E13:=(E1.trans E2).trans E3;cases hk:LC y with
 |none=>rw[hk] at ee4;cases ee4
 |some ky=>
  rw[hk] at ee4;have ee4:(if r.2.length<sizeLine then some ((Fl.next,B),List.set u3 r.1 (MO.dK (Cy r.2 ky v))) else none)=some ((f,B'),Z'):=ee4;split at ee4
  ·rename_i hl;cases ee4;cases IB i3 hk;have hlt:r.1<List.length u3:=(AAT.mp g1).1;obtain⟨E4,R4⟩:=R3.changed (m:=.dK (Cy r.2 ky v)) (o:=.dK (Gh kvs ky v1)) hlt ⟨_,rfl,g3.put (i1.ext (E2.trans E3))⟩;exact⟨_,_,hv2,DPut.k g2 (by rw[g3.length];exact hl),q x9 _ (E13.trans E4) R4 O (S.ext (E13.trans E4))⟩
  ·cases ee4
noncomputable def B9:Nat->List D->List D
 |_,[]=>[]
 |k,d::ds=>.tup [.int k,d]::B9 (k+1) ds
theorem KK:∀(k:Nat) (ds:List D),(B9 k ds).length=ds.length
 |_,[]=>rfl
 |k,_::ds=>by unfold B9;simp[KK (k+1) ds]
theorem F0:∀(k:Nat) (ds:List D) (j:Nat),(B9 k ds)[j]?=(ds[j]?).map λd=>.tup [.int ((k+j:Nat):Int),d]
 |_,[],j=>by simp[B9]
 |k,d::ds,0=>by simp[B9]
 |k,d::ds,j+1=>by
  unfold B9;rw[List.getElem?_cons_succ,List.getElem?_cons_succ,F0 (k+1) ds j];have:k+1+j=k+(j+1):=by omega
  rw[this]
noncomputable def Ow:List D->M (List D)
 |[.lst ds]=>ret ds
 |[.scr ns]=>ret (ns.map D.int)
 |_=>Bb
noncomputable def ET(m:Sl->M (List D)):Sl->M (List D):=λB=>bnd (m B) λas=>bnd (Ow as) λds=>ret (B9 0 ds)
theorem JA(st:∀Y' (Z':Mh) H',Ext Y Z.length H Y' Z'.length H'->RelH K Y' Z' H'->Cond K H')(i:IsL K Y Z.length H ds vs):
  ItM K (ItP K vs.length (Fj vs) Cond) (B9 0 ds) Y Z H:=by
 intro Y' Z' H' E R;have h:=st Y' Z' H' E R;rw[KK,←i.length];refine⟨λj hj=>⟨hj,h⟩,⟨rfl,h⟩,λj x H2 d hd y=>?_⟩;obtain⟨T,hT,rfl,rfl⟩:=y;obtain⟨E2,R2⟩:=R.laid (.tup (Fj vs j)) hT;refine⟨E2,R2,?_⟩;rw[F0] at hd;cases q:ds[j]? with
 |none=>rw[q] at hd;cases hd
 |some d0=>
  rw[q] at hd;cases hd;obtain⟨w,ew,iw⟩:=(i.ext E).get q;have e0:vs.getD j V.non=w:=by simp[List.getD,ew]
  have es:Fj vs j=[.int j,w]:=by unfold Fj;rw[e0]
  have key:IsL K Y' (List.length Z') (upd H' T (.tup (Fj vs j))) [.int ((0+j:Nat):Int),d0] [.int j,w]:=.cons (by unfold Is;simp) (.one (iw.ext E2));unfold Is;exact⟨T,_,rfl,SqT.of Bw,(congrArg (IsL K Y' (List.length Z') (upd H' T (.tup (Fj vs j))) [.int ((0+j:Nat):Int),d0]) es).mpr key⟩
theorem Ds(hm:X.mg "enumerate" = none)(ha:RA X [a] m)(hg:Gl X "enumerate" := by rfl)(hs:starEach [a] X.env=[(false,eval a X.env)]:=by rfl):RI X (.Tuple es k0 tpos) (.Call (.Name "enumerate" p) [a] [] pos) (ET m):=
 RI.wk (Rr hg hm ha.pe hs) λO H R q=>by
  obtain⟨Y,Z,B,ds,Z',R0,S,e,q⟩:=q;obtain⟨xs,w6,e1,ee1⟩:=AF e;obtain⟨zs,w9,e2,ee2⟩:=AF ee1;cases ee2;refine⟨Y,Z,B,xs,w6,R0,S,e1,λx4 H1 E1 R1 vs i1=>?_⟩;unfold Ow at e2;split at e2
  ·cases e2;obtain⟨v,rfl,i2⟩:=Dv i1;unfold Is at i2;obtain⟨p,ws,rfl,h1,hn,h2⟩:=i2;exact⟨p,ws,rfl,SqL.of h1,q x4 H1 E1 R1 _ (JA (λY' Z' H' E _=>SqL.of (E.keep p _ h1 hn)) h2)⟩
  ·cases e2;obtain⟨v,rfl,i2⟩:=Dv i1;unfold Is at i2;obtain⟨p,rfl,h1⟩:=i2;exact⟨p,_,rfl,h1.sq,q x4 H1 E1 R1 _ (JA (λY' Z' H' E _=>(Kq E h1).sq) (IsL.ofInts _))⟩
  ·cases e2
noncomputable def Jj:List D->Option (List Bool)
 |[]=>some []
 | .bl b::ds=>(Jj ds).map (b::·)
 |_=>none
theorem PH:∀{ds:List D} {vs:List V} {bs:List Bool},IsL K Y k H ds vs->Jj ds=some bs->vs=bs.map V.bl
 |[],_,_,h,e=>by cases e;unfold IsL at h;exact h
 | .bl b::ds,_,_,h,e=>by
  unfold IsL at h;obtain⟨v,vs',rfl,h1,h2⟩:=h;unfold Jj at e;cases q:Jj ds with
  |none=>rw[q] at e;cases e
  |some bs=>
   rw[q] at e;cases e;unfold Is at h1;rw[h1,PH h2 q];rfl
 | .non::_,_,_,_,e=>by cases e
 | .int _::_,_,_,_,e=>by cases e
 | .str _::_,_,_,_,e=>by cases e
 | .ty _::_,_,_,_,e=>by cases e
 | .scr _::_,_,_,_,e=>by cases e
 | .tup _::_,_,_,_,e=>by cases e
 | .lst _::_,_,_,_,e=>by cases e
 | .ref _::_,_,_,_,e=>by cases e
noncomputable def QY:List D->M D
 |[.lst ds]=>λZ=>(Jj ds).map λbs=>(.bl (bs.all id),Z)
 |_=>Bb
theorem WX(hc:X.calm=true):Bo X (.builtin "all") (rMA X.kw QY):=λw5 s O H xs us Q I r h=>by
 obtain⟨Y,Z,as,d,Z',R,ia,e,q⟩:=h;refine QV hc w5 s O H xs us Q I r ?_;unfold QY at e;split at e
 ·rename_i ds;cases hb:Jj ds with
  |none=>rw[hb] at e;cases e
  |some bs=>
   rw[hb] at e;cases e;obtain⟨v,rfl,i1⟩:=Dv ia;unfold Is at i1;obtain⟨p,vs,rfl,h1,_,h2⟩:=i1;exact⟨p,bs,rfl,SqL.of (by rw[←PH h2 hb];exact h1),q Y H R.ext0 R _ (ofB _)⟩
 ·cases e
end
theorem Av:bootBuiltins "len" = some (.builtin "len"):=by decide +kernel
theorem BF:bootBuiltins "isinstance" = some (.builtin "isinstance"):=by decide +kernel
theorem Th:bootBuiltins "max" = some (.builtin "max"):=by decide +kernel
theorem Mn:bootBuiltins "all" = some (.builtin "all"):=by decide +kernel
theorem G3:bootBuiltins "int" = some (.type "int"):=by decide +kernel
theorem Mm:bootBuiltins "str" = some (.type "str"):=by decide +kernel
theorem HX:bootBuiltins "bool" = some (.type "bool"):=by decide +kernel
theorem GM:bootBuiltins "tuple" = some (.type "tuple"):=by decide +kernel
theorem Cu:bootBuiltins "list" = some (.type "list"):=by decide +kernel
theorem Tf:bootBuiltins "set" = some (.type "set"):=by decide +kernel
noncomputable def Ep:Nat:=1048576
structure Fn(P:Program)(w:World)(K:PySem.W.Frag)(mg:Str->Option Value)(base:Heap)(x:Str)(ps:List Str)(k:Nat)(φ:List D->M D):Prop where
 len:∀ds Z r,φ ds Z=some r->ds.length=ps.length
 ex:∃f fd,FnOk P w K mg base CX0 k f fd ps (spM ⟨K,w⟩ ps.length φ)/\mg x=some (.ref f)/\PySem.W.keepIn K (.ref f)=true/\Binds K fd ps []
def Glo(K:PySem.W.Frag)(mg:Str->Option Value)(x:Str)(d:D):Prop:=∃u v,mg x=some u/\RelV v u/\∀w Y k H,Is ⟨K,w⟩ Y k H d v
section
variable{X:Cx}{e:Expr}{es:List Expr}{pos p:Pos}
theorem Be(F:Fn X.prog X.w X.kw X.mg X.base x ps k φ)(hr:Room j X.A)(ha:RA X (e::es) m)(hkj:k<=j:=by decide)(hg:Gl X x:=by rfl)(hdb:(x==("__debug__" : Str))=false:=by decide)
  (he:starEach (e::es) X.env=(false,eval e X.env)::starEach es X.env:=by exact BE rfl) (hpl:(backTo pos (starEach es X.env)).any (·.1)=false:=by exact DT rfl):RE X (.Call (.Name x p) (e::es) [] pos) (AG φ m):=by
 obtain⟨len,f,fd,F,hm,hk,hb⟩:=F;exact Uw F (hr.mono hkj) hm hk hb len ha hg hdb he hpl
theorem Gc(h:Glo X.kw X.mg x d)(hg:Gl X x:=by rfl)(hdb:(x==("__debug__" : Str))=false:=by decide):RE X (.Name x pos) (mC d):=by
 obtain⟨u,v,hm,r,hd⟩:=h;exact Uu hm r (hd _) hg hdb
end
theorem Ya(F:Fun K x qual st f fd)(S:Af N ps (AQ st))(hm:mg x=some (.ref f))(hb:Binds K fd ps [])
  (body:∀(cdv:Value) (A:Around) (outer:List Env) (s:Shared) (H:Hp) (E:XK),Room k (A.deeper (PyProof.Rows.envOfC qual (AQ st) s.heap.objs.size f cdv))->RSs (Gu CX0 P w K mg base N qual (AQ st) f cdv A outer s H E).nox (Ch st) mb)
  (len:∀ds Z r,φ ds Z=some r->ds.length=ps.length)
  (run:∀ds Z d Z',φ ds Z=some (d,Z')->∃fl x6 w9,mb (BR N.length ds) Z=some ((fl,x6),w9)/\(fl=.next∨∃d,fl=.rt d)/\E6 Z w9 Z' (D5 fl) d):Fn P w K mg base x ps (k+1) φ:=
 ⟨len,f,fd,KD F S rfl body run,hm,F.kp,hb⟩
theorem DR(h:Cl Z.length d):E6 Z (Z++g) Z d d:=⟨⟨g,rfl⟩,AAE _,λ_ _ e=>.inl e,.inl ⟨rfl,h⟩⟩
end Mi
namespace L2
open PySem PySem.Spec PyProof.Rows Sem
section
variable{prog:Program}{w:World}{A:Around}{E:Value->Shared->Prop}{s:Shared}
theorem GC[Decidable c](h:¬c)(hb:wpAny M A b Q E s):wpAny M A (if c then a else b) Q E s:=by
 rw[if_neg h];exact hb
theorem Ll(hh:A.handled=none)(hit:s.heap.IsTupleIter it t i)(ht:s.heap.IsTuple t items)
  (more:∀x h',items[i]?=some x->h'.IsTupleIter it t (i+1)->Heap.SameBut it s.heap h'->Q x { s with heap:=h' })
  (over:items[i]?=none->∀h' e,Heap.ExtBut it s.heap h'->(∃o,h'.get? e=some o/\o.cls=.type "StopIteration")->E (.ref e) { s with heap:=h' }) :
  wpAny (model prog w) A (Builtin.SmallTypes.nextOf (.ref it)) Q E s:=by
 have ty:=hit.typeIs;obtain⟨o,at_it,hc,hd⟩:=hit;obtain⟨ot,at_t,_,n,hdt⟩:=ht;have put:∀(k:Nat) (v:Value),(s.heap.update it (Obj.mapFields (λfs=>fs.set! k v))).get? it=some (Obj.mapFields (λfs=>fs.set! k v) o):=λk v=>Heap.get?_update_self _ at_it (Obj.isFreed_of_fields (Obj.data_mapFields hd _));unfold Builtin.SmallTypes.nextOf;refine AAA (wpAny_callSpecial?_slot ty F.slot_tuple_iterator_next (AAd F.slot_tuple_iterator_next ty F.entry_tuple_iterator_next ?_ (F.args_tuple_iterator_next_1 _)));have notNone:¬(Value.ref t==Value.none)=true:=AAh;refine AAA (m:=field (.ref it) 0) (AAv at_it hd (x:=.ref t) rfl ?_);refine GC notNone ?_;refine AAA (m:=field (.ref it) 1) (AAv at_it hd (x:=.int i 0) rfl (AAA (m:=seqItems? (.ref t)) (wpAny_seqItems at_t hdt ?_)));have ei:((i:Int)).toNat=i:=Int.toNat_natCast i;cases hx:items[i]? with
 |some x=>
  dsimp only;rw[ei,hx];refine AAA (wpAny_setField at_it hd (by simp) (AAB ⟨x,rfl,AAB (more x _ hx ⟨_,put _ _,?_,?_⟩ (Heap.SameBut.update ..))⟩))
  ·exact(Obj.cls_mapFields ..).trans hc
  ·rw[Obj.data_mapFields hd];rfl
 |none=>
  dsimp only;rw[ei,hx];refine AAA (wpAny_rule (AAA (wpAny_setField at_it hd (by simp) ?_)));have first:firstArgMember (.type "StopIteration") []=pure Value.none:=by first|rfl|(unfold firstArgMember;rfl)
  unfold Builtin.SmallTypes.stopIteration newExc newTuple;refine AAA (AAA (AAr (AAA (wpAny_of_eq first (AAr (wpAny_raiseNew_none hh ?_) (by size_fits)))) (by size_fits)));exact over hx _ _ (((Heap.SameBut.update ..).extBut.push _).push _) ⟨_,AAD _ rfl,rfl⟩
theorem QG(hh:A.handled=none)(it t:Addr)(hne:t≠it)(items:Array Value):
  Draws prog w A it [it,t] items.size (λi v=>items[i]?=some v) (λi h=>h.IsTupleIter it t i/\h.IsTuple t items):=by
 refine⟨λi h st=>?_,λi h h' st k=>⟨?_,?_⟩,λi s Q E hi st q=>?_,λs Q E st q=>?_⟩
 ·obtain⟨⟨o,e,_⟩,_⟩:=st;exact⟨o,e⟩
 ·obtain⟨⟨o,e,r⟩,_⟩:=st;exact⟨o,k it (by simp) o e,r⟩
 ·obtain⟨_,⟨o,e,r⟩⟩:=st;exact⟨o,k t (by simp) o e,r⟩
 ·exact Ll hh st.1 st.2 (λx h' hx st' sb=>q x h' s.toks hx ⟨st',st.2.extBut sb.extBut hne⟩ sb) λno=>absurd no (by simp[hi])
 ·exact Ll hh st.1 st.2 (λx h' hx=>absurd hx (by simp)) λ_ h' e eb so=>q h' e eb so
noncomputable abbrev Gq(it:Addr):Obj:={ cls:=.type "enumerate",data:=.fields #[.none,.bool false,.ref it,rawInt 0,.none,.none] }
theorem S8(v:Value)(ob:Obj)(good:Heap->Prop)(hv:∀(prog:Program) (w:World) (A:Around) (E:Value->Shared->Prop) (s:Shared) (Q:Value->Shared->Prop),good s.heap->Q (.ref s.heap.objs.size) { s with heap:=s.heap.push ob }->wpAny (model prog w) A (pyIter v) Q E s):
  Meets (Builtin.«enumerate.__new__» ⟨[.type "enumerate",v],[]⟩) (λ_ R s=>good s.heap/\R (.ok (.ret (.ref (s.heap.push ob).objs.size))) { s with heap:=(s.heap.push ob).push (Gq s.heap.objs.size) }):=by
 refine .of_wp λprog w A R s ⟨g,q⟩=>?_;have own:=sub_enumerate;have walk:∀(A:Around) (E:Value->Shared->Prop) (Q:Value->Shared->Prop),Q (.ref s.heap.objs.size) { s with heap:=s.heap.push ob }->wpAny (model prog w) A (pyIter v) Q E s:=λA E Q z=>hv prog w A E s Q g z;obtain⟨hp,gs,dr,tk,os⟩:=s
 wp_walk
 refine wpAny_stack_any λst=>AAB ?_;split
 ·rename_i c _ _ _ _ _;cases (c==Value.type "enumerate")<;>(wp_walk using walk;exact⟨_,rfl,q⟩)
 ·wp_walk using walk
  exact⟨_,rfl,q⟩
end
end L2
namespace L2
open PySem PySem.Spec PyProof.Rows
theorem M5{P:Program}{w:World}{K:PySem.W.Frag}(a e it:Addr)(xs:List V)(hei:e≠it)(hea:e≠a)(hai:a≠it):
  LX P w K (.Tuple es k0 pos) (ItP K xs.length (Fj xs) λK H=>SqT K H a xs) [e,it] e (λi h=>(∃old,IsEnum h e it i old)/\h.IsTupleIter it a i):=by
 refine IN (Y:=List Value) (fp:=[e,it,a]) (Mid:=λits i T h=>(∃x,IsEnumOut h e it ((i:Int)+1) x T)/\(h.IsTupleIter it a (i+1)/\h.IsTuple a its.toArray)/\T≠e/\T≠it) (good:=λits=>Vals xs its) (Pt:=λits i vals=>∃t x,its.toArray[i]?=some x/\vals=#[.int i t,x]) (Sw:=λits i h=>(∃old,IsEnum h e it i old)/\h.IsTupleIter it a i/\h.IsTuple a its.toArray)
  (λA hA its r=>?walk) AAP (λits i vals r h=>JP r h) (λi=>(by show 2<=sizeLine;decide)) (λi h st=>?obj) (λi h h' st k=>?keep) (λX w5 O H s i hP hw hK I hc st=>?into) (λz i h st=>⟨st.1,st.2.1⟩) (λA i s Q E st h=>?self)
 case walk=>
  have hl:xs.length=its.toArray.size:=by rw[List.size_toArray];exact r.length
  have D:=QG (prog:=P) (w:=w) (A:=A.in1) hA it a hai its.toArray;rw[hl];exact WalksT.enumerateD D e hei (by simp[hei,hea]) (by simp)
 case obj=>
  obtain⟨o,ho,_,hd⟩:=st.2;exact S9 st.1 ho ⟨_,hd⟩
 case keep=>
  obtain⟨⟨old,q⟩,o,ho,r⟩:=st;exact⟨⟨old,k e (by simp) _ q⟩,o,k it (by simp) o ho,r⟩
 case into=>
  subst hK;obtain⟨its,r,p,_⟩:=I.tuple hc;exact⟨its,r,st.1,st.2,p⟩
 case self=>exact O2 (f:=λi h=>h.IsTupleIter it a i) A i s Q E st h
section
variable{X:Cx}{es:List Expr}{k0:Nat}{tpos:Pos}
noncomputable def YS(K:PySem.W.Frag)(ta:TA):TI:=λO H R=>ta O H λvs H1=>∃a xs,vs=[.ref a]/\SqT K H1 a xs/\R (ItP K xs.length (Fj xs) λK H=>SqT K H a xs) H1
theorem Rq(hg:Gl X "enumerate")(hm:X.mg "enumerate" = none)(ha:PA X [a] ta)(hs:starEach [a] X.env=[(false,eval a X.env)]:=by rfl):PI X (.Tuple es k0 tpos) (.Call (.Name "enumerate" p) [a] [] pos) (YS X.kw ta):=by
 intro w5 s O H R I h;refine Call_ (HM I hg hm KO (PyProof.Rows.callWith_type1 (thn (ha pos w5 s O H _ I h) λus s1 ⟨vs,H1,I1,r1,q1⟩=>?_) hs rfl));obtain⟨l,xs,ev,hq,q⟩:=q1;subst ev;obtain⟨u,eu,ru⟩:=DC r1;subst eu;cases ru;obtain⟨its,rv,pl,hz⟩:=I1.tuple hq;have lt:l<s1.heap.objs.size:=by obtain⟨o,e,_⟩:=pl;exact Heap.lt_size e
 have new:=S8 (.ref l) { cls:=.type "tuple_iterator",data:=.fields #[.ref l,.int 0 0] } (λh=>h.IsTuple l its.toArray) (λ_ _ _ _ _ _ g z=>wpAny_pyIter_tuple g z);refine callType_new F.called_enumerate (by decide) (F.typeCall_enumerate_1 _) (F.newCall_enumerate_1 _) (λobj=>F.args_object_init_2 obj _) F.entry_enumerate_new new ⟨pl,?_⟩;generalize hG:s1.heap.push { cls:=.type "tuple_iterator",data:=.fields #[.ref l,.int 0 0] }=G;have hsz:G.objs.size=s1.heap.objs.size+1:=by rw[←hG];exact Heap.size_push ..
 have at_e:(G.push (Gq s1.heap.objs.size)).get? (s1.heap.objs.size+1)=some (Gq s1.heap.objs.size):=by rw[←hsz];exact AAD _ rfl
 have he:IsEnum (G.push (Gq s1.heap.objs.size)) (s1.heap.objs.size+1) s1.heap.objs.size 0 .none:=at_e;have at_i:(G.push (Gq s1.heap.objs.size)).IsTupleIter s1.heap.objs.size l 0:=⟨_,AAC _ (hG ▸ AAD _ rfl),rfl,rfl⟩;show _/\_;rw[hsz];refine⟨⟨_,at_e,rfl⟩,wpAny_pyIter_enum he ?_⟩;refine⟨s1.heap.objs.size+1,[s1.heap.objs.size+1,s1.heap.objs.size],λi h=>(∃old,IsEnum h (s1.heap.objs.size+1) s1.heap.objs.size i old)/\h.IsTupleIter s1.heap.objs.size l i,_,H1,rfl,I1.kept (t':=s1.toks) λb o x=>AAC _ (hG ▸ AAC _ x),?_,⟨⟨_,he⟩,at_i⟩,Q4 I1,q⟩;exact M5 l _ _ xs (Nat.succ_ne_self _) (Nat.ne_of_gt (AAi lt)) (AAe lt)
end
end L2
namespace Mi
open PySem L2
section
variable{X:Cx}{a:Expr}{es:List Expr}{pos:Pos}
noncomputable def Q5:List D->M (List D)
 |[.tup ds]=>ret ds
 |_=>Bb
noncomputable def SU(m:Sl->M (List D)):Sl->M (List D):=λB=>bnd (m B) λas=>bnd (Q5 as) λds=>ret (B9 0 ds)
theorem RU(hm:X.mg "enumerate" = none)(ha:RA X [a] m)(hg:Gl X "enumerate" := by rfl)(hs:starEach [a] X.env=[(false,eval a X.env)]:=by exact BE rfl):RI X (.Tuple es k0 tpos) (.Call (.Name "enumerate" p) [a] [] pos) (SU m):=
 RI.wk (Rq hg hm ha.pe hs) λO H R q=>by
  obtain⟨Y,Z,B,ds,Z',R0,S,e,q⟩:=q;obtain⟨xs,w6,e1,e2⟩:=AF e;obtain⟨zs,w9,e3,e4⟩:=AF e2;cases e4;refine⟨Y,Z,B,xs,w6,R0,S,e1,λx4 H1 E1 R1 vs i1=>?_⟩;unfold Q5 at e3;split at e3
  ·cases e3;obtain⟨v,rfl,i2⟩:=Dv i1;unfold Is at i2;obtain⟨p,ws,rfl,h1,h2⟩:=i2;exact⟨p,ws,rfl,h1,q x4 H1 E1 R1 _ (JA (λY' Z' H' E _=>Km E h1) h2)⟩
  ·cases e3
end
end Mi
namespace L2
open PySem PySem.Spec PyProof.Rows Sem
section
variable{prog:Program}{w:World}{A:Around}{E:Value->Shared->Prop}{s:Shared}
set_option maxHeartbeats 2000000 in
theorem VN(ft:TypeCalled T nid iid)(ok:checkTypeCall T ⟨args,[]⟩=pure ())
  (new:codeAny (model prog w) A.in1 (.call (.builtin nid) ⟨.type T::args,[]⟩) (wants Q₁ E) s)
  (init:∀x s₁,Q₁ x s₁->s₁.TypeIs x T/\codeAny (model prog w) A.in1 (.call (.builtin iid) ⟨x::args,[]⟩) (wants (λr s₂=>r=.none/\Q x s₂) E) s₁) :
  wpAny (model prog w) A (call (.type T) args) Q E s:=by
 have a1:=ft.notType;have a2:=ft.canCreate;have a3:=ft.made;have a4:=ft.sub;obtain⟨c,tl,a5⟩:=ft.mro;have step:codeAny (model prog w) A (.builtin "type.__call__" ⟨.type T::args,[]⟩) (wants Q E) s:=by
  refine codeAny_builtin F.entry_type_call ?_;rw[Around.under_plain (weight_type_call_type T args []) rfl];unfold Builtin.«type.__call__»
  iterate 3 (any_goals (first|assumption|wp_step))
  first|refine wpAny_of_eq ok ?_|refine AAA (wpAny_of_eq ok ?_)
  repeat (any_goals (first|assumption|wp_step))
  refine codeAny_mono new λr s₁ hr=>?_
  match r,hr with
  | .error e,hr=>exact hr
  | .ok (.ret x),hr=>
   obtain⟨ty,run⟩:=init x s₁ hr;have b1:=ft.init.lookup;have b2:=ft.init.bind x
   repeat (any_goals (first|assumption|wp_step))
   refine codeAny_mono run λr₂ s₂ hr₂=>?_
   match r₂,hr₂ with
   | .error e,hr₂=>exact hr₂
   | .ok (.ret y),hr₂=>
    obtain⟨ey,hq⟩:=hr₂;subst ey
    repeat (any_goals (first|assumption|wp_step))
 exact wpAny_call (codeAny_of_tree (AAB ⟨Code.quiet_builtin _ (by decide +kernel),step⟩))
noncomputable abbrev C1(led:Bool):Obj:={ cls:=.type "set",data:=.set #[] 0 (.fresh 0 0 led) }
end
end L2
namespace Mi
open PySem L2
inductive How where
 |all|drop|frz
noncomputable def R8(w9:Mh):How->D->D
 | .frz,.ref n=>match w9[n]? with
  |some (.lst ds)=>.lst ds
  |_=>.ref n
 |_,d=>d
noncomputable def Pp(Z w9:Mh):How->Mh
 | .all=>w9
 |_=>w9.take Z.length
open Classical in
noncomputable def Ay(hw:How)(n ps:Nat)(mb:Sl->M (Fl×Sl)):List D->M D:=λds Z=>match mb (BR n ds) Z with
 |some ((fl,_),w9)=>if ds.length=ps/\(fl=.next∨∃d,fl=.rt d)/\E6 Z w9 (Pp Z w9 hw) (D5 fl) (R8 w9 hw (D5 fl)) then some (R8 w9 hw (D5 fl),Pp Z w9 hw) else none
 |none=>none
theorem EM(h:Ay hw n ps mb ds Z=some (d,Z')):
  ds.length=ps/\∃fl x6 w9,mb (BR n ds) Z=some ((fl,x6),w9)/\(fl=.next∨∃d,fl=.rt d)/\E6 Z w9 Z' (D5 fl) d:=by
 unfold Ay at h;split at h
 ·rename_i fl x6 w9 e;split at h
  ·rename_i c;cases h;exact⟨c.1,fl,x6,w9,e,c.2.1,c.2.2⟩
  ·cases h
 ·cases h
theorem JU(e:mb (BR n ds) Z=some ((fl,x6),w9))(hl:ds.length=ps)(hf:fl=.next∨∃d,fl=.rt d)(t:E6 Z w9 (Pp Z w9 hw) (D5 fl) (R8 w9 hw (D5 fl))):
  Ay hw n ps mb ds Z=some (R8 w9 hw (D5 fl),Pp Z w9 hw):=by
 unfold Ay;rw[e];exact if_pos ⟨hl,hf,t⟩
theorem Au(e:mb (BR n ds) Z=some ((.rt d,x6),Z++g))(hl:ds.length=ps)(c:Cl Z.length d):Ay .drop n ps mb ds Z=some (d,Z):=by
 have t:Pp Z (Z++g) .drop=Z:=by show (Z++g).take Z.length=Z;rw[List.take_left]
 have h:=JU (hw:=.drop) e hl (.inr ⟨d,rfl⟩) (by rw[t];exact DR c);rw[t] at h;exact h
theorem KN(e:mb (BR n ds) Z=some ((.rt (.ref k),x6),Z++g))(hl:ds.length=ps)(hk:Z.length<=k)(hg:(Z++g)[k]?=some (.lst es))(c:ClL Z.length es):Ay .frz n ps mb ds Z=some (.lst es,Z):=by
 have t:Pp Z (Z++g) .frz=Z:=by show (Z++g).take Z.length=Z;rw[List.take_left]
 have o:R8 (Z++g) .frz (D5 (.rt (.ref k)))=.lst es:=by
  show (match (Z++g)[k]? with|some (.lst ds)=>D.lst ds|_=>.ref k)=_;rw[hg]
 have h:=JU (hw:=.frz) e hl (.inr ⟨_,rfl⟩) (by rw[t,o];exact⟨⟨g,rfl⟩,AAE _,λ_ _ z=>.inl z,.inr ⟨k,es,rfl,hg,hk,rfl,c⟩⟩);rw[t,o] at h;exact h
theorem BV(hw:How)(F:Fun K x qual st f fd)(S:Af N ps (AQ st))(hm:mg x=some (.ref f))(hb:Binds K fd ps [])
  (body:∀(cdv:Value) (A:Around) (outer:List Env) (s:Shared) (H:Hp) (E:XK),Room k (A.deeper (PyProof.Rows.envOfC qual (AQ st) s.heap.objs.size f cdv))->RSs (Gu CX0 P w K mg base N qual (AQ st) f cdv A outer s H E).nox (Ch st) mb) :
  Fn P w K mg base x ps (k+1) (Ay hw N.length ps.length mb):=
 Ya F S hm hb body (λds Z r h=>(EM (d:=r.1) (Z':=r.2) h).1) (λds Z d Z' h=>(EM h).2)
section
variable{P:Program}{w:World}{K:PySem.W.Frag}{mg:Str->Option Value}{base h:Heap}{x:Str}
theorem ID(X:K.In h)(G:h.Ns mainGlobals mg)(a:PySem.W.nsIn K mainGlobals x=some (some (.int i t))):Glo K mg x (.int i):=
 ⟨_,.int i,PySem.W.mg_of X G a,⟨t,rfl⟩,λ_ _ _ _=>by unfold Is;rfl⟩
structure Df(K:PySem.W.Frag)(x:Str)(st:Stmt)(f:Addr)(fd:FuncData):Prop where
 a:PySem.W.nsIn K mainGlobals x=some (some (.ref f))
 F:Fun K x x st f fd
theorem aE{st:Stmt}{f:Addr}{oc:Value}{osl:Array (Option Value)}{kV doc pm cdv ct:Value}(a:PySem.W.nsIn K mainGlobals x=some (some (.ref f)))(l:K.lookup f=some ⟨oc,od,.func (PySem.W.fnOf x x (Gr st) (Ch st) (AQ st) .none kV doc pm an cdv ct),osl⟩)
  (c:PySem.W.codeIn K cdv x=true) (k:PySem.W.keepIn K (.ref f)=true):∃f fd,Df K x st f fd:=⟨f,_,a,YY l c k⟩
theorem Sz(hw:How)(F:Fun K x qual st f fd)(S:Af N ps (AQ st))
  (body:∀(cdv:Value) (A:Around) (outer:List Env) (s:Shared) (H:Hp) (E:XK),Room k (A.deeper (PyProof.Rows.envOfC qual (AQ st) s.heap.objs.size f cdv))->RSs (Gu CX0 P w K mg base N qual (AQ st) f cdv A outer s H E).nox (Ch st) mb) :
  FnOk P w K mg base CX0 (k+1) f fd ps (spM ⟨K,w⟩ ps.length (Ay hw N.length ps.length mb)):=
 KD F S rfl body (λds Z d Z' h=>(EM h).2)
noncomputable def OK(K:PySem.W.Frag):Sp:=λvs H Q _=>∃(a:Addr) (ns:List Int),vs=[.ref a]/\ScrAt K H a (ns.map V.int)/\ns.length<=63/\∀H',Q (.bl true) H'
theorem XH(F:FnOk P w K mg base CX0 k f fd ["_law_script"] (spM ⟨K,w⟩ 1 φ))(hφ:∀ns:List Int,ns.length<=63->∃Z',φ [.scr ns] []=some (.bl true,Z')):FnOk P w K mg base CX0 k f fd ["_law_script"] (OK K):=
 F.imp λvs H Q E q=>by
  obtain⟨a,ns,rfl,s,hl,q⟩:=q;obtain⟨Z',e⟩:=hφ ns hl;refine⟨rfl,λ_=>a,[],[.scr ns],.bl true,Z',⟨λi j h=>absurd h (Nat.not_lt_zero _),λn o e=>by simp at e⟩,.one (by unfold Is;exact⟨a,rfl,s⟩),e,λx5 H2 E2 R2 v i=>?_⟩;unfold Is at i;rw[i];exact q H2
theorem Lu(o:Vq H)(s:SqL K H a xs):ScrAt K H a xs:=by
 rcases s with z|z
 ·rcases z with z|⟨p,z⟩
  ·rcases o a with q|⟨p,ys,q⟩
   ·rw[q] at z;cases z
   ·rw[q] at z;cases z
  ·exact .inl ⟨p,z⟩
 ·exact .inr z
end
theorem Y7{l:PySem.W.OpenLaw}{q:Program}{loose:List Str}{XP:(Str->Option Value)->Heap->Prop}{K:Params->PySem.W.Frag}{k:Nat}(hn:l.most=some 63)(hdf:d.params.defaults=[])(hk:k<=60)
  (hY:∀(w:World) (h:Heap),YP w h->(K w.params).In h)
  (F:∀(w:World) (mg:Str->Option Value) (fa:Addr) (h:Heap),(K w.params).In h->h.Ns mainGlobals mg->mg d.name=some (.ref fa)->
   ∃fd:FuncData,(∀(s:Shared) (u:Value),BindsTo s fd ⟨[u],[]⟩ [("_law_script",u)])/\∀base:Heap,(K w.params).In base->base.Ns mainGlobals mg->FnOk l.prog w (K w.params) mg base CX0 k fa fd ["_law_script"] (OK (K w.params))) :
  PySem.W.WalkO q loose XP YP l.row.toRowW d [] (λf vs=>PySem.call f vs):=
 L2.UZ (n:=63) (k:=k) (x := "_law_script") (CX:=λ_=>CX0) (sp:=λw=>OK (K w.params)) hn (by decide) hdf (Room.mono (j:=k) (k:=60) ⟨rfl,by decide,by decide,rfl⟩ hk) hY F (λ_ _ a ns hl o hS=>⟨a,ns,rfl,Lu o hS,hl,λ_=>rfl⟩) λ_ _ _ _ _ z=>z
open PyProof.Rows
section
variable{X:Cx}{e a b c:Expr}{pos:Pos}
theorem SA:OpR X (binaryOp .Add) (λx y H Q=>∃a b ys,x=.ref a/\y=.ref b/\SqT X.kw H a []/\SqT X.kw H b ys/\Q (.ref b) H):=by
 intro w5 s O H x y v u Q I rx ry h;obtain⟨a,b,ys,rfl,rfl,ha,hb,q⟩:=h;cases rx;cases ry;obtain⟨its,r1,p1,_⟩:=I.tuple ha;obtain⟨its2,r2,p2,_⟩:=I.tuple hb;cases r1;obtain⟨⟨cls,dd,data,sl⟩,ho,hc,n,hd⟩:=p1;obtain⟨⟨cls2,dd2,data2,sl2⟩,ho2,hc2,n2,hd2⟩:=p2;simp only at hc hd hc2 hd2;subst hc hd hc2 hd2;exact concat_meets ⟨_,ho,rfl⟩ ⟨_,ho2,rfl⟩ noFill_tuple_add seq_tuple_add PySem.F.slot_tuple_add PySem.F.entry_tuple_add (PySem.F.args_tuple_add_2 _ _) (tuple_addW0 a b _ _ n n2 dd dd2 sl sl2 rfl) ⟨ho,ho2,⟨.ref b,H,I,rfl,q⟩⟩
noncomputable def As(a b:D):M D:=match a,b with
 | .tup [],.tup ds=>ret (.tup ds)
 |a,b=>Ri a b
theorem CL:OpR X (binaryOp .Add) (rM X.kw As):=λw5 s O H x y v u Q I rx ry h=>by
 obtain⟨Y,Z,a,b,d,Z',R,ia,ib,e,q⟩:=h;unfold As at e;split at e
 ·rename_i ds;cases e;unfold Is at ia;obtain⟨p,vs,rfl,h1,h2⟩:=ia;unfold IsL at h2;subst h2;have ib2:=ib;unfold Is at ib;obtain⟨p',vs',rfl,h1',h2'⟩:=ib;exact SA w5 s O H _ _ v u Q I rx ry ⟨p,p',vs',rfl,rfl,h1,h1',q Y H R.ext0 R _ ib2⟩
 ·exact Zx w5 s O H x y v u Q I rx ry ⟨Y,Z,_,_,d,Z',R,ia,ib,e,q⟩
theorem Jg{prog:Program}{w:World}{A:Around}{E:Value->Shared->Prop}{s:Shared}{vl vu:Value}{lo hi:Option Int}{Q:Value->Shared->Prop}(ht:IsTup s.heap t items)(hs:s.heap.IsSliceOf sl vl vu .none)(pl:IsPart vl lo)(pu:IsPart vu hi)
  (h1:HT.sIx items.size 0 lo=0) (h2:HT.sIx items.size items.size hi=items.size) (h:Q (.ref t) s):wpAny (model prog w) A (getItem (.ref t) (.ref sl)) Q E s:=by
 obtain⟨os,hos,hcs,hds⟩:=id hs;have hTs:s.TypeIs (.ref sl) "slice" := ⟨os,hos,hcs⟩;unfold getItem
 try with_reducible refine AAp ?_
 first|refine AAA (AAB ?_)|skip
 refine AAA (wpAny_sequenceKey ht.typeIs (by decide) ?_);refine AAA (wpAny_callSpecial?_slot (name:=Str.ofString "__getitem__") ht.typeIs PyProof.Rows.slot_tuple_getitem
  (AAd PyProof.Rows.slot_tuple_getitem ht.typeIs entry_tuple_getitem ?_ (args_tuple_getitem _ _)))
 show wpAny _ _ (Builtin.Tuple.tupleItemsOf (.ref t) >>= _) _ _ s;refine AAA (tupleItemsOf_ ht ?_);refine AAA (wpAny_typeOf hTs ?_);rw[if_pos (by decide)];refine AAA (HT.Eb hs pl pu ?_);have hyes:((((HT.sIx items.size 0 lo:Nat):Int)==0&&(1:Int)==1&&(HT.sIx items.size items.size hi-HT.sIx items.size 0 lo)==items.size)=true):=by rw[h1,h2];simp
 show wpAny _ _ (if (((HT.sIx items.size 0 lo:Nat):Int)==0&&(1:Int)==1&&(HT.sIx items.size items.size hi-HT.sIx items.size 0 lo)==items.size)=true then _ else _) _ _ s;rw[if_pos hyes];refine AAA (m:=Builtin.Tuple.tupleIsExact (.ref t)) ?_;unfold Builtin.Tuple.tupleIsExact;refine AAA (wpAny_typeOf ht.typeIs (AAB ?_));rw[if_pos (by decide)];refine AAA (wpAny_rule ?_);exact AAB ⟨_,rfl,AAB h⟩
theorem Uk:SlR X (λx lo hi H Q=>∃a xs,x=.ref a/\SqT X.kw H a xs/\HT.sIx xs.length 0 lo=0/\HT.sIx xs.length xs.length hi=xs.length/\Q (.ref a) H):=by
 intro w5 s O H x v vl vu lo hi sl Q I rx hs pl pu h;obtain⟨a,xs,rfl,hx,h1,h2,q⟩:=h;cases rx;obtain⟨its,r,ht,hz⟩:=I.tuple hx;have hlen:its.toArray.size=xs.length:=by rw[List.size_toArray];exact r.length.symm
 refine⟨"tuple",_,PyProof.Rows.slot_tuple_getitem.lookup,ht.typeIs,?_⟩;exact Jg ht hs pl pu (by rw[hlen];exact h1) (by rw[hlen];exact h2) ⟨.ref a,H,I,rfl,q⟩
theorem TX{ds:List D}{lo hi:Option Int}(h1:HT.sIx ds.length 0 lo=0)(h2:HT.sIx ds.length ds.length hi=ds.length):DP ds lo hi=ds:=by
 unfold DP;rw[h1,h2];simp
noncomputable def Ik(lo hi:Option Int):D->M D
 | .tup ds=>ret (.tup (DP ds lo hi))
 |d=>bnd (Ca d) λds=>ret (.lst (DP ds lo hi))
noncomputable def ay(K:KW):V->Option Int->Option Int->Hp->VK->Prop:=λx lo hi H Q=>∃Y Z a d Z',RelH K Y Z H/\Is K Y Z.length H a x/\Ik lo hi a Z=some (d,Z') /\
 Aft K Y Z H Z' λY' H'=>∀v,Is K Y' Z'.length H' d v->Q v H'
theorem Zt:SlR X (ay X.kw):=λw5 s O H x v vl vu lo hi sl Q I rx hs pl pu h=>by
 obtain⟨Y,Z,a,d,Z',R,ia,e,q⟩:=h;by_cases c:∃ds,a=.tup ds/\HT.sIx ds.length 0 lo=0/\HT.sIx ds.length ds.length hi=ds.length
 ·obtain⟨ds,rfl,h1,h2⟩:=c;have e:some (D.tup (DP ds lo hi),Z)=some (d,Z'):=e;rw[TX h1 h2] at e;cases e;have ia2:=ia;unfold Is at ia;obtain⟨p,vs,rfl,g1,g2⟩:=ia;exact Uk w5 s O H _ v vl vu lo hi sl Q I rx hs pl pu ⟨p,vs,rfl,g1,by rw[g2.length];exact h1,by rw[g2.length];exact h2,q Y H R.ext0 R _ ia2⟩
 ·refine bA w5 s O H x v vl vu lo hi sl Q I rx hs pl pu ⟨Y,Z,a,d,Z',R,ia,?_,q⟩;cases a with
  |tup ds=>
   show (if HT.sIx ds.length 0 lo=0/\HT.sIx ds.length ds.length hi=ds.length then (Bb:M D) else ret (D.tup (DP ds lo hi))) Z=_;rw[if_neg (λz=>c ⟨ds,rfl,z.1,z.2⟩)];exact e
  |_=>exact e
noncomputable def EX(me:Sl->M D)(ml mh:Sl->M (Option Int)):Sl->M D:=λB=>bnd (me B) λx=>bnd (ml B) λl=>bnd (mh B) λh=>Ik l h x
theorem FZ{e:Expr}{lo hi:Option Expr}(he:RE X e me)(hl:RO X lo ml)(hh:RO X hi mh):RE X (.Subscript e (.Slice lo hi none p2) pos) (EX me ml mh):=RE.wk (Rs Zt he.pe hl.pe hh.pe) λO H Q h=>by
 obtain⟨Y,Z,B,z,Z',R,S,e,q⟩:=h;obtain⟨x,w6,e1,e⟩:=AF e;obtain⟨l,w9,e2,e⟩:=AF e;obtain⟨u,x8,e3,e⟩:=AF e;refine⟨Y,Z,B,x,w6,R,S,e1,λx4 H1 E1 R1 v i1=>⟨x4,w6,B,l,w9,R1,S.ext E1,e2,λx5 H2 E2 R2=>⟨x5,w9,B,u,x8,R2,S.ext (E1.trans E2),e3,λx9 H3 E3 R3=>?_⟩⟩⟩;have E23:=E2.trans E3;exact⟨x9,x8,x,z,Z',R3,i1.ext E23,e,λu4 H4 E4 R4=>q u4 H4 ((E1.trans E23).trans E4) R4⟩
end
end Mi
namespace Mi
open PySem L2
open PyProof.Rows hiding St
section
variable{X:Cx}{e o:Expr}{apos cpos:Pos}
noncomputable def Oj:List D->M D
 |[d]=>bnd (B4 d) DJ
 |_=>Bb
theorem Yo:Bo X (.type "list") (rMA X.kw Oj):=λw5 s O H xs us Q I r h=>by
 obtain⟨Y,Z,as,d,Z',R,ia,e,q⟩:=h;unfold Oj at e;split at e
 ·rename_i y;obtain⟨ds,w6,e1,e2⟩:=AF e;obtain⟨v,rfl,i1⟩:=Dv ia;obtain⟨hm,p,vs,rfl,h1,h2⟩:=Dk R i1 e1;subst hm;obtain⟨hl,w⟩:=Og R h2 e2 q;exact Gz w5 s O H _ us Q I r ⟨p,vs,rfl,h1,w⟩
 ·cases e
noncomputable def FF(g:D->List D->M D)(mo:Sl->M D):Sl->M D:=λB=>bnd (mo B) λx=>bnd (Dc x) λ_=>g x []
theorem Pa{K:KW}{g:D->List D->M D}{mo:Sl->M D}(h:tE K (FF g mo) O H Q):ZM K "list" (rMM K g) (tE K mo) O H Q:=by
 obtain⟨Y,Z,B,d,Z',R,S,e,q⟩:=h;obtain⟨x,w6,e1,ee1⟩:=AF e;obtain⟨u,w9,e2,ee2⟩:=AF ee1;have hm:=HQ e2;subst hm;refine⟨Y,Z,B,x,_,R,S,e1,λx4 H1 E1 R1 v1 i1=>⟨(Hh R1 i1 e2).2,?_⟩⟩;exact⟨x4,_,x,[],d,Z',R1,i1,IsL.nil,ee2,λx9 H3 E3 R3=>q x9 H3 (E1.trans E3) R3⟩
theorem Ju{name:Str}{id:String}(slot:Slot "list" name id)(hty:typeOf (.builtin id)=pure (.type "method_descriptor"))(hm:MtR X id (rMM X.kw g))(ho:RE X o mo)
  (hbase:attributeBase o name X.env (eval o X.env)=eval o X.env:=by rfl) (hline:(apos.endLine==cpos.line)=true:=by rfl) :
  RE X (.Call (.Attribute o name apos) [] [] cpos) (FF g mo):=RE.wk (Xw PySem.F.plainAttrs_list slot hty hm ho.pe hbase hline) λ_ _ _ h=>Pa h
end
section
variable{X:Cx}{e a o:Expr}
noncomputable def bF:List Int->Int
 |[]=>0
 |i::r=>r.foldl max i
noncomputable def WJ:List D->Option (List Int)
 |[]=>some []
 | .int i::ds=>(WJ ds).map (i::·)
 |_=>none
noncomputable def bX:List D->M D
 |[d]=>bnd (Ca d) λds=>λZ=>match WJ ds with
  |some (i::r)=>some (.int (bF (i::r)),Z)
  |_=>none
 |_=>Bb
theorem JK:∀{ys:List V} {us:List Value} {j:Nat},Vals ys us->ys.all Dw=true->ys.findIdx? (λz=>eqV z y)=some j->∃hj:j<us.length,eqU y us[j]=true/\∀m (hm:m<us.length),m<j->eqU y us[m]=false
 |_,_,j,.nil,_,e=>by simp at e
 |z::ys,u::us,j,.cons r t,f,e=>by
  rw[List.all_cons,Bool.and_eq_true] at f;rw[List.findIdx?_cons] at e;cases hz:eqV z y with
  |true=>
   rw[hz] at e;simp at e;subst e;exact⟨by simp,by show eqU y u=true;rw[LJ r f.1,hz],λm hm h=>by omega⟩
  |false=>
   rw[hz] at e;cases q:ys.findIdx? (λz=>eqV z y) with
   |none=>rw[q] at e;simp at e
   |some k=>
    rw[q] at e;simp at e;subst e;obtain⟨hk,h1,h2⟩:=JK t f.2 q;refine⟨by simp;omega,by simpa using h1,λm hm h=>?_⟩;cases m with
    |zero=>show eqU y u=false;rw[LJ r f.1,hz]
    |succ m=>simpa using h2 m (by simpa using hm) (by omega)
noncomputable abbrev az(Sq:Hp->Addr->List V->Prop):V->List V->Hp->VK->Prop:=λx xs H Q=>∃p ys y j,x=.ref p/\xs=[y]/\Sq H p ys/\Dw y=true/\ys.all Dw=true/\ys.findIdx? (λz=>eqV z y)=some j/\Q (.int j) H
theorem Jf:MtR X "list.index" (az λH p ys=>SqL X.kw H p ys):=by
 intro w5 s O H x xs v us Q I rx rs h;obtain⟨p,ys,y,j,rfl,rfl,hp,fy,fys,hj,q⟩:=h;cases rx;obtain⟨u,rfl,ru⟩:=DC rs;obtain⟨its,rv,pl,hz⟩:=I.list hp;have hl:=rv.length;obtain⟨⟨cls,dd,data,sl⟩,ho,hc,n,hd⟩:=pl.isList;simp only at hc hd;subst hc hd;obtain⟨hj2,e1,e2⟩:=JK rv fys hj;have hn:=GG;refine call_meets PySem.F.slot_list_index ⟨_,ho,rfl⟩ PySem.F.entry_list_index (PySem.F.args_list_index_2 _ _) (SeqAt.list_indexAt _ its.toArray n dd sl u (eqU y) j (by rw[List.size_toArray];exact hj2) (by omega) (by simpa using e1) (λm hm h=>by simpa using e2 m (by simpa using hm) h)) ⟨ho,λw hw=>EG ru fy rv fys w (by simpa using hw),?_⟩;exact⟨.int j,H,I.tok _,⟨_,rfl⟩,q⟩
noncomputable def YR:D->List D->M D
 |d,[y]=>bnd (B4 d) λds=>λZ=>match Gp y,Dd ds with
  |some y,some xs=>(xs.findIdx? λz=>eqV z y).map λ(j:Nat)=>(D.int (j:Int),Z)
  |_,_=>none
 |_,_=>Bb
theorem P8{d r:D}{Z Z':Mh}{K:KW}{Y:Nat->Addr}(R:RelH K Y Z H)(ia:Is K Y Z.length H d x)(ib:IsL K Y Z.length H as xs)(e:YR d as Z=some (r,Z')):
  ∃p ys y j,x=.ref p/\xs=[y]/\(SqL K H p ys∨SqT K H p ys)/\Dw y=true/\ys.all Dw=true/\ys.findIdx? (λz=>eqV z y)=some j/\r=.int j/\Z'=Z:=by
 unfold YR at e;split at e
 ·rename_i y0;obtain⟨ds,w6,e1,e2⟩:=AF e;obtain⟨hm,p,vs,rfl,h1,h2⟩:=Dk R ia e1;subst hm;obtain⟨v,rfl,i1⟩:=Dv ib;split at e2
  ·rename_i w ws q1 q2;obtain⟨rfl,f1⟩:=Go i1 q1;obtain⟨rfl,f2⟩:=Fz h2 q2;cases hj:vs.findIdx? (λz=>eqV z v) with
   |none=>rw[hj] at e2;cases e2
   |some j=>rw[hj] at e2;cases e2;exact⟨p,vs,v,j,rfl,rfl,h1,f1,f2,hj,rfl,rfl⟩
  ·cases e2
 ·cases e
noncomputable def JC(d:D)(as:List D):M D:=bnd (Dc d) λ_=>YR d as
theorem SS:MtR X "list.index" (rMM X.kw JC):=λw5 s O H x xs v us Q I rx rs h=>by
 obtain⟨Y,Z,a,as,d,Z',R,ia,ib,e,q⟩:=h;obtain⟨u,w6,e1,e2⟩:=AF e;have hm:=HQ e1;subst hm;obtain⟨ds,w9,g1,g2⟩:=AF e1;obtain⟨_,p0,vs0,hx,hq,_⟩:=C9 R ia g1;obtain⟨p,ys,y,j,rfl,rfl,h1,f1,f2,hj,rfl,rfl⟩:=P8 R ia ib e2;cases hx;have hs:SqL X.kw H p0 ys:=by
  rcases h1 with z|z
  ·exact z
  ·obtain⟨its,_,pl,_⟩:=I.list hq;obtain⟨its2,_,pt,_⟩:=I.tuple z;obtain⟨o,e1,c1,_⟩:=pl.isList;obtain⟨o2,e2,c2,_⟩:=pt;rw[e1] at e2;cases e2;rw[c1] at c2;exact absurd c2 (by decide)
 exact Jf w5 s O H _ _ v us Q I rx rs ⟨p0,ys,y,j,rfl,rfl,hs,f1,f2,hj,q Y H R.ext0 R _ (ofI _)⟩
end
end Mi
namespace Ht
open PySem PySem.SetTable
theorem Ek[DecidableEq α]:∀{l r:List α},l.Nodup->(∀x∈l,x∈r)->l.length<=r.length
 |[],_,_,_=>AAk _
 |a::l,r,hn,hs=>by
  obtain⟨h1,h2⟩:=List.nodup_cons.mp hn;have ha:=hs a (AAP ..);have:=Ek (r:=r.erase a) h2 λx hx=>(List.mem_erase_of_ne (λz=>h1 (by rw[←z];exact hx))).mpr (hs x (AAQ _ hx));rw[List.length_erase_of_mem ha] at this;have hp:=List.length_pos_of_mem ha;simp only[AAH];omega
noncomputable def CD(xs:List Int):List Int:=xs.foldl (λys x=>if x∈ys then ys else ys++[x]) []
theorem Fx(xs:List Int)(x:Int):CD (xs++[x])=if x∈CD xs then CD xs else CD xs++[x]:=by
 unfold CD;rw[List.foldl_append];rfl
theorem Ls{p:List Int->Prop}(h0:p [])(h1:∀xs x,p xs->p (xs++[x]))(xs:List Int):p xs:=by
 rw[←List.reverse_reverse xs]
 induction xs.reverse with
 |nil=>exact h0
 |cons a l ih=>rw[List.reverse_cons];exact h1 _ _ ih
theorem Ir(xs:List Int)(k:Int):k∈CD xs↔k∈xs:=by
 refine Ls (p:=λxs=>k∈CD xs↔k∈xs) (by simp[CD]) (λxs x ih=>?_) xs;rw[Fx];split
 ·rename_i h;simp only[AAJ,AAK,←ih];exact⟨.inl,λz=>z.elim id λe=>e ▸ h⟩
 ·simp only[AAJ,AAK,ih]
theorem Iq(xs:List Int):(CD xs).Nodup:=by
 refine Ls (p:=λxs=>(CD xs).Nodup) (by simp[CD]) (λxs x ih=>?_) xs;rw[Fx];split
 ·exact ih
 ·rename_i h;rw[List.nodup_append];refine⟨ih,by simp,λa ha b hb=>?_⟩;simp at hb;subst hb;exact λe=>h (e ▸ ha)
open PyProof.Rows
open L2 PySem.Spec Sem
section
variable{prog:Program}{w:World}{A:Around}{E:Value->Shared->Prop}{s:Shared}
theorem GD(hh:A.handled=none)(h:∀a h',(∀b o,s.heap.get? b=some o->h'.get? b=some o)->Shared.TypeIs { s with heap:=h' } (.ref a) "StopIteration" -> E (.ref a) { s with heap:=h' }):
  wpAny (model prog w) A (newExc (.type "StopIteration") [] >>= λe=>(raiseNew e:Sem α)) Q E s:=by
 unfold newExc newTuple;refine AAA (AAA (AAr ?_ (by size_fits)));refine AAA (m:=firstArgMember _ _) (wpAny_of_eq (a:=Value.none) (by kernel_rfl) ?_);refine AAr ?_ (by size_fits);unfold raiseNew;refine AAA (wpAny_handled ?_);rw[hh];refine AAA (AAB (wpAny_throw (h _ _ (λb o e=>AAC _ (AAC _ e)) ⟨_,AAD _ rfl,rfl⟩)))
end
end Ht
namespace Mi
open PySem L2 Ht
theorem MN:∀ns:List Int,IsL K Y k H (ns.map D.int) (ns.map V.int)
 |[]=>IsL.nil
 |n::r=>by
  rw[AAW,AAW];unfold IsL;exact⟨_,_,rfl,ofI _,MN r⟩
end Mi
namespace L2
open PySem PySem.Spec PyProof.Rows Sem Ht
section
theorem RH{n:Nat}:Builtin.Range.rangeSize 0 n 1=(n:Int):=by rw[rangeSize_one];split<;>omega
theorem Pb{n:Nat}(h:n<=1000):Builtin.Range.small 0 n 1=true:=small_one (by omega) (by omega) (by omega) (by omega)
end
section
variable{X:Cx}
theorem QP:Bo X (.type "range") (λxs H Q=>∃n:Nat,xs=[.int n]/\∀p,H p=none->Q (.ref p) (upd H p (.rng 0 n))):=by
 intro w5 s O H xs us Q I r h;obtain⟨n,rfl,q⟩:=h;obtain⟨u,rfl,t,rfl⟩:=Vals.one r;refine call_range_1 ⟨.ref s.heap.objs.size,_,I.laid (o:=.rng 0 n) (λb o e=>AAC _ e) (AAE _) ⟨_,_,_,AAD _ rfl⟩,rfl,q _ (I.hok.fresh (AAE _))⟩
noncomputable abbrev Oh(n:Nat):List V:=((List.range n).map Int.ofNat).map V.int
theorem Px(n:Nat):(Oh n).length=n:=by simp
theorem LO(hc:X.calm=true):Bo X (.type "list") (λxs H Q=>∃p n,xs=[.ref p]/\H p=some (.rng 0 (n:Nat))/\n<=1000/\∀l,H l=none->Q (.ref l) (upd H l (.lst (Oh n)))):=by
 intro w5 s O H xs us Q I r h;obtain⟨p,n,rfl,hp,hn,q⟩:=h;obtain⟨u,rfl,ru⟩:=Vals.one r;cases ru;obtain⟨t,u,v,e⟩:=I.hok p _ hp;refine call_list_range (I.ok.hd hc) e (Pb hn) RH (by omega) λh' tk acc c k e it=>?_;have im:=intsAre_map acc.toList λv hv=>by
  obtain⟨i,hi,rfl⟩:=List.getElem_of_mem hv;obtain⟨t,e⟩:=it.2 i _ (Array.getElem?_eq_getElem (by simpa using hi));exact⟨_,t,by simpa using e⟩
 have en:acc.toList.map numOf=(List.range n).map Int.ofNat:=by
  refine List.ext_getElem? λi=>?_;rw[AAV,AAV];by_cases hi:i<n
  ·have hi':i<acc.size:=by rw[it.1];exact hi
   obtain⟨t,e⟩:=it.2 i _ (Array.getElem?_eq_getElem hi');rw[Array.getElem?_toList,Array.getElem?_eq_getElem hi',e,List.getElem?_range hi];simp[numOf]
  ·rw[List.getElem?_eq_none (by rw[Array.length_toList,it.1];omega),List.getElem?_eq_none (by simp;omega)];rfl
 rw[en] at im;exact⟨.ref s.heap.objs.size,_,I.laid (t':=tk) (o:=.lst (Oh n)) k (AAE _) ⟨by rw[Px,sizeLine_eq];omega,acc.toList,c,HA im,e⟩,rfl,q _ (I.hok.fresh (AAE _))⟩
end
end L2
namespace Mi
open PySem L2 Ht
noncomputable def Oi(n:Nat):List D:=((List.range n).map Int.ofNat).map D.int
noncomputable def RQ(how:List D->D)(d:D):M D:=match d with
 | .int j=>λZ=>if 0<=j/\j<=1000 then some (how (Oi j.toNat),Z) else none
 |_=>Bb
section
variable{X:Cx}{e:Expr}{pos p p2 pos2:Pos}
theorem Ut{T:String}{f:List D->D}{how:List V->HO}{m:Sl->M D}(call:X.calm=true->Bo X (.type T) (λxs H Q=>∃p n,xs=[.ref p]/\H p=some (.rng 0 (n:Nat))/\n<=1000/\∀l,H l=none->Q (.ref l) (upd H l (how (Oh n)))))
  (fin:∀{Y:Nat->Addr} {Z:Mh} {H:Hp} {Q:VK} {ds:List D} {vs:List V},RelH X.kw Y Z H->IsL X.kw Y Z.length H ds vs->(Aft X.kw Y Z H Z λY' H'=>∀v,Is X.kw Y' Z.length H' (f ds) v->Q v H')->∀l,H l=none->Q (.ref l) (upd H l (how vs)))
  (yl:X.mg T=none) (ys:X.mg "range" = none) (bt:bootBuiltins T=some (.type T)) (he:RE X e m) (hc:X.calm=true:=by rfl) (hgl:Gl X T:=by rfl) (hgs:Gl X "range" := by rfl) (hst:HN e=false:=by rfl) (n1:(T:Str) ≠ "__name__" := by decide) (n2:((T:Str)==("__debug__" : Str))=false:=by decide) :
  RE X (.Call (.Name T p) [.Call (.Name "range" p2) [e] [] pos2] [] pos) (mUn (RQ f) m):=by
 have hs:PE X (.Call (.Name "range" p2) [e] [] pos2) _:=Ej QP hgs ys PyProof.Rows.boot_range (Fv he.pe HK (BE hst)) (by decide) (by decide) (BE hst) rfl;refine RE.wk (Ej (call hc) hgl yl bt (Fv hs HK (BE rfl)) n1 n2 (BE rfl) rfl) λO H Q h=>?_;obtain⟨Y,Z,B,d,Z',R,S,ev,q⟩:=h;obtain⟨x,w6,e1,e2⟩:=AF ev;refine⟨Y,Z,B,x,w6,R,S,e1,λx4 H1 E1 R1 v1 i1=>?_⟩;cases x with
 |int j=>
  have e3:(if 0<=j/\j<=1000 then some (f (Oi j.toNat),w6) else none)=some (d,Z'):=e2;split at e3
  ·rename_i hj;cases e3;have z:=B0 i1;subst z;have ej:j=((j.toNat:Nat):Int):=by omega
   refine⟨j.toNat,by rw[←ej],λp hp=>?_⟩;obtain⟨E2,R2⟩:=R1.laid (.rng 0 (j.toNat:Nat)) hp;exact⟨p,j.toNat,rfl,Bw,by omega,λl hl=>fin R2 (MN _) (λY' H' E' R'=>q Y' H' ((E1.trans E2).trans E') R') l hl⟩
  ·cases e3
 |_=>cases e2
theorem NF(yl:X.mg "list" = none)(ys:X.mg "range" = none)(he:RE X e m)(hc:X.calm=true:=by rfl)(hgl:Gl X "list" := by rfl)(hgs:Gl X "range" := by rfl)(hst:HN e=false:=by rfl):
  RE X (.Call (.Name "list" p) [.Call (.Name "range" p2) [e] [] pos2] [] pos) (mUn (RQ D.lst) m):=Ut (T := "list") (how:=HO.lst) LO J4 yl ys Mi.Cu he hc hgl hgs hst
noncomputable def NU:List D->M D
 |[d]=>bnd (B4 d) λds=>ret (.lst ds)
 |_=>Bb
theorem Vl:Bo X (.type "list") (rMA X.kw NU):=λw5 s O H xs us Q I r h=>by
 obtain⟨Y,Z,as,d,Z',R,ia,e,q⟩:=h;unfold NU at e;split at e
 ·rename_i y;obtain⟨ds,w6,e1,e2⟩:=AF e;obtain⟨v,rfl,i1⟩:=Dv ia;obtain⟨hm,p,vs,rfl,h1,h2⟩:=Dk R i1 e1;subst hm;cases e2;exact Gz w5 s O H _ us Q I r ⟨p,vs,rfl,h1,J4 R h2 q⟩
 ·cases e
noncomputable def Et(l:List (Key×D))(k:Key):List (Key×D):=l.filter λkv=>decide (kv.1≠k)
theorem KVs.drop:∀{l:List (Key×D)} {r:List (Key×V)} (y:Key),KVs K Y k H l r->KVs K Y k H (Et l y) (Hj r y)
 |[],_,y,h=>by cases h;rfl
 |(z,d)::l,_,y,h=>by
  obtain⟨v,r',rfl,h1,h2⟩:=h;have ih:=KVs.drop y h2;unfold Et Hj at ih ⊢;by_cases hz:z=y
  ·rw[List.filter_cons_of_neg (by simp[hz]),List.filter_cons_of_neg (by simp[hz])];exact ih
  ·rw[List.filter_cons_of_pos (by simp[hz]),List.filter_cons_of_pos (by simp[hz])];exact⟨v,_,rfl,h1,ih⟩
noncomputable def WO(d y:D):M D:=bnd (FL d) λr=>λZ=>(LC y).bind λk=>(CW r.2 k).map λv=>(v,Z.set r.1 (.dK (Et r.2 k)))
noncomputable def Jz(mo mi:Sl->M D):Sl->M D:=λB=>bnd (mo B) λx=>bnd (LI x) λ_=>bnd (mi B) λy=>WO x y
theorem Uv(ho:RE X o mo)(hi:RE X e mi)(m:M1 X o "pop" apos e cpos:=by exact⟨rfl,rfl,rfl,rfl⟩):RE X (.Call (.Attribute o "pop" apos) [e] [] cpos) (Jz mo mi):=RE.wk (Rv ho.pe hi.pe m) λO H Q h=>by
 obtain⟨Y,Z,B,d,Z',R,S,e,q⟩:=h;obtain⟨x,w6,e1,ee1⟩:=AF e;obtain⟨u,u3,e4,ee2⟩:=AF ee1;obtain⟨y,w9,e2,ee3⟩:=AF ee2;obtain⟨r,x8,e3,ee4⟩:=AF ee3;obtain⟨hm,r0,e5⟩:=QA e4;subst hm;refine⟨Y,Z,B,x,_,R,S,e1,λx4 H1 E1 R1 v1 i1=>?_⟩;obtain⟨_,_,_,rfl,kvs0,g0,_⟩:=Dz R1 i1 e5;refine⟨_,rfl,.inl ⟨kvs0,.inl g0⟩,x4,_,B,y,w9,R1,S.ext E1,e2,λx5 H2 E2 R2 v2 i2=>?_⟩;obtain⟨hm,hx,g1,hv,kvs,g2,g3⟩:=Dz R2 (i1.ext E2) e3;subst hm;cases hk:LC y with
 |none=>rw[hk] at ee4;cases ee4
 |some ky=>
  rw[hk] at ee4;cases IB i2 hk;have hv':x4 r0.1=x5 r.1:=V.ref.inj hv;rw[hv'];rcases g3.val ky with ⟨z1,z2⟩|⟨dd,vv,z1,z2,z3⟩
  ·have ee5:(CW r.2 ky).map (λv=>(v,x8.set r.1 (MO.dK (Et r.2 ky))))=some (d,Z'):=ee4;rw[z1] at ee5;cases ee5
  ·have ee5:(CW r.2 ky).map (λv=>(v,x8.set r.1 (MO.dK (Et r.2 ky))))=some (d,Z'):=ee4;rw[z1] at ee5;cases ee5;have hlt:r.1<List.length x8:=(AAT.mp g1).1;obtain⟨E4,R4⟩:=R2.changed (m:=.dK (Et r.2 ky)) (o:=.dK (Hj kvs ky)) hlt ⟨_,rfl,g3.drop ky⟩;exact⟨kvs,ky,vv,g2,rfl,z2,q x5 _ ((E1.trans E2).trans E4) R4 vv (z3.ext E4)⟩
theorem Iu:MtR X "list.remove" (λx xs H Q=>∃p ys y j,x=.ref p/\xs=[y]/\H p=some (.lst ys)/\Dw y=true/\ys.all Dw=true/\ys.findIdx? (λz=>eqV z y)=some j/\Q .non (upd H p (.lst (ys.eraseIdx j)))):=by
 intro w5 s O H x xs v us Q I rx rs h;obtain⟨p,ys,y,j,rfl,rfl,hp,fy,fys,hj,q⟩:=h;cases rx;obtain⟨u,rfl,ru⟩:=DC rs;obtain⟨z,its,n,r,hl,e⟩:=I.lstM hp;obtain⟨hj2,e1,e2⟩:=JK r fys hj;refine call_meets PySem.F.slot_list_remove ⟨_,e,rfl⟩ PySem.F.entry_list_remove (PySem.F.args_list_remove_2 _ _) (MeetsSeq.list_remove p its.toArray n u (eqU y) (λw hw prog w' A E s Q hq=>EG (A:=A) (s:=s) ru fy r fys w (by simpa using hw) prog w' E Q hq) j (by rw[List.size_toArray];exact hj2) (by simpa using e1) (λm hm h=>by simpa using e2 m (by simpa using hm) h) (by rw[List.size_toArray];omega)) ⟨e,?_⟩;refine⟨.non,_,I.lset (its':=its.eraseIdx j) (ys:=ys.eraseIdx j) hp e ?_ (r.eraseIdx j) ?_,rfl,q⟩
 ·show its.toArray.eraseIdxIfInBounds j=(its.eraseIdx j).toArray;rw[List.eraseIdxIfInBounds_toArray]
 ·have:=J3 ys j;omega
theorem IsL.erase:∀{ds:List D} {vs:List V} (j:Nat),IsL K Y k H ds vs->IsL K Y k H (ds.eraseIdx j) (vs.eraseIdx j)
 |[],_,j,h=>by unfold IsL at h;subst h;simpa using IsL.nil
 |d::ds,_,j,h=>by
  unfold IsL at h;obtain⟨v,vs',rfl,h1,h2⟩:=h;cases j with
  |zero=>exact h2
  |succ j=>
   rw[List.eraseIdx_cons_succ,List.eraseIdx_cons_succ];unfold IsL;exact⟨v,_,rfl,h1,IsL.erase j h2⟩
noncomputable def RX:D->List D->M D
 | .ref n,[y]=>EC n λds=>match Gp y,Dd ds with
  |some y,some xs=>(xs.findIdx? λz=>eqV z y).map λj=>(.non,ds.eraseIdx j)
  |_,_=>none
 |_,_=>Bb
theorem SQ:MtR X "list.remove" (rMM X.kw RX):=λw5 s O H x xs v us Q I rx rs h=>by
 obtain⟨Y,Z,a,as,d,Z',R,ia,ib,e,q⟩:=h;unfold RX at e;split at e
 ·rename_i n y;obtain⟨ds,es,h1,h2,rfl⟩:=EA e;obtain⟨w,rfl,iw⟩:=Dv ib;unfold Is at ia;obtain⟨_,rfl⟩:=ia;obtain⟨u,g1,vs,rfl,g2⟩:=R.obj n _ h1;split at h2
  ·rename_i y' xs' q1 q2;obtain⟨rfl,f1⟩:=Go iw q1;obtain⟨rfl,f2⟩:=Fz g2 q2;cases hj:vs.findIdx? (λz=>eqV z w) with
   |none=>rw[hj] at h2;cases h2
   |some j=>
    rw[hj] at h2;cases h2;exact Iu w5 s O H _ _ v us Q I rx rs ⟨_,vs,w,j,rfl,rfl,g1,f1,f2,hj,Fs R h1 (g2.erase j) ofN q⟩
  ·cases h2
 ·cases e
end
end Mi
namespace L2
open PySem PySem.Spec PyProof.Rows Sem Ht
theorem Ue:fillsNumberSlot (.type "tuple") "mul" = Pure.pure false:=PySem.fillsNumberSlot_seq (id := "tuple.__mul__") (r:=some (.builtin "tuple.__rmul__")) PySem.F.slot_tuple_mul.lookup (by decide +kernel) PySem.F.slot_tuple_rmul.lookup (by decide +kernel)
theorem XI:seqRepeat? (.type "tuple")=Pure.pure (some (.builtin "tuple.__mul__")):=by
 unfold seqRepeat?;rw[PySem.seqSlot_of (T := "tuple") (name := "__mul__") PySem.F.slot_tuple_mul.lookup (by decide +kernel),PySem.seqSlot_of (T := "tuple") (name := "__rmul__") PySem.F.slot_tuple_rmul.lookup (by decide +kernel)];rfl
section
variable{w:World}{A:Around}{s:Shared}
theorem XL(a:Int)(t:Tok)(l:Addr)(items:Array Value):Meets (Builtin.«int.__rmul__» ⟨[.int a t,.ref l],[]⟩) (λ_ R s=>IsTup s.heap l items/\R (.ok (.ret Value.notImplemented)) s):=
 .of_wp λprog w A R s h=>by
  obtain⟨⟨o,ho,hc,n,hd⟩,h⟩:=h;have hT:s.TypeIs (.ref l) "tuple" := ⟨o,ho,hc⟩;have z:=PySem.F.sub_tuple_int
  wp_walk
  rw[hd]
  wp_walk
  exact⟨_,rfl,h⟩
theorem XJ(l:Addr)(items:Array Value)(k:Int)(t:Tok)(h0:items.isEmpty=false)(h1:1<=k)(h2:k<=1000)(h3:items.size<=1000):
  Meets (Builtin.«tuple.__mul__» ⟨[.ref l,.int k t],[]⟩) (λ_ R s=>IsTup s.heap l items/\(k=1->R (.ok (.ret (.ref l))) s)/\(k≠1->R (.ok (.ret (.ref s.heap.objs.size))) { s with heap:=s.heap.push { cls:=.type "tuple",data:=.seq ((List.replicate k.toNat items).foldl (·++·) #[]) } })):=
 .of_wp λprog w A R s h=>by
  obtain⟨⟨o,ho,hc,n,hd⟩,q1,q2⟩:=h;have hT:s.TypeIs (.ref l) "tuple" := ⟨o,ho,hc⟩;have b1:(items.size:Int) * k<=1000000:=by
   have:=Int.mul_le_mul (show (items.size:Int)<=1000 by omega) h2 (by omega) (by omega);omega
  have c1:(decide (k < -2 ^ 63)||decide (k ≥ 2 ^ 63))=false:=by simp;omega
  have c3:(decide (k<=0)||items.isEmpty)=false:=by rw[h0];simp;omega
  have c5:Builtin.Tuple.tupleTooMany ((items.size:Int) * k)=false:=by
   unfold Builtin.Tuple.tupleTooMany;simp[sizeLine_eq];omega
  unfold Builtin.«tuple.__mul__»
  wp_walk
  rw[c1,if_neg AAh];refine AAA ?_;unfold Builtin.Tuple.tupleItemsOf;refine AAA (wpAny_seqItems ho hd (AAB ?_));rw[h0];by_cases hk:k=1
  ·have c2:(false||k==1)=true:=by simp[hk]
   rw[c2];simp only[↓reduceIte]
   wp_walk
   exact⟨_,rfl,q1 hk⟩
  ·have c2:(false||k==1)=false:=by simp[hk]
   rw[c2];simp only[Bool.false_eq_true,↓reduceIte];rw[Bool.or_false,AAN (show ¬k<=0 by omega)];simp only[Bool.false_eq_true,↓reduceIte];rw[if_neg (show ¬(items.size:Int) * k > (2 ^ 63-1) / 8 by omega),c5];simp only[Bool.false_eq_true,↓reduceIte];unfold Builtin.Tuple.tupleExact;refine AAA (AAr (AAB ⟨_,rfl,q2 hk⟩) ?_);show ((List.replicate k.toNat items).foldl (·++·) #[]).size<=sizeLine;have sz:∀(m:Nat) (z:Array Value),((List.replicate m items).foldl (·++·) z).size=z.size+m * items.size:=by
    intro m
    induction m with
    |zero=>intro z;simp
    |succ m ih=>intro z;rw[AAl,List.foldl_cons,ih,Array.size_append,Nat.succ_mul];omega
   rw[sz,sizeLine_eq];have:((k.toNat * items.size:Nat):Int)=(items.size:Int) * k:=by
    rw[Int.natCast_mul,Int.toNat_of_nonneg (by omega),Int.mul_comm]
   simp;omega
end
theorem JG(its:List Value):∀(m:Nat) (z:List Value),(List.replicate m its.toArray).foldl (·++·) z.toArray=(z++(List.replicate m its).flatten).toArray
 |0,z=>by simp
 |m+1,z=>by
  rw[AAl,List.foldl_cons,List.append_toArray,JG its m,AAl,List.flatten_cons,AAm]
theorem Vals.reps(r:Vals vs us):∀m:Nat,Vals (List.replicate m vs).flatten (List.replicate m us).flatten
 |0=>.nil
 |m+1=>by
  rw[AAl,List.flatten_cons,AAl,List.flatten_cons];exact r.append (Vals.reps r m)
section
variable{X:Cx}
theorem VF:OpR X (binaryOp .Mult) (λx y H Q=>∃l k xs,x=.ref l/\y=.int k/\SqT X.kw H l xs/\xs≠[]/\xs.length<=1000/\1<=k/\k<=1000/\(k=1->Q (.ref l) H)/\(k≠1->∀p,H p=none->Q (.ref p) (upd H p (.tup (List.replicate k.toNat xs).flatten)))):=by
 intro w5 s O H x y v u Q I rx ry h;obtain⟨l,k,xs,rfl,rfl,ha,hx,hz,k1,k2,q1,q2⟩:=h;cases rx;obtain⟨t,rfl⟩:=ry;obtain⟨its,r,p,_⟩:=I.tuple ha;have hlen:=r.length;have hT:s.TypeIs (.ref l) "tuple" := by obtain⟨o,e,c,_⟩:=p;exact⟨o,e,c⟩
 have he:its.toArray.isEmpty=false:=by
  cases its with
  |nil=>exact absurd (List.length_eq_zero_iff.mp (by simpa using hlen)) hx
  |cons a b=>rfl
 refine wpAny_binaryOp_repeat_ref (T := "tuple") (U := "int") (by decide) hT (λs'=>typeIs_int s' k t) Ue PySem.F.fills_int_mul PySem.F.slot_int_rmul XI PySem.F.slot_int_index.lookup ?_;refine call_meets PySem.F.slot_int_rmul (typeIs_int s k t) PySem.F.entry_int_rmul (PySem.F.args_int_rmul_2 _ _) (XL k t l its.toArray) ⟨p,rfl,hT,?_⟩;refine call_meets PySem.F.slot_tuple_mul hT PySem.F.entry_tuple_mul (PySem.F.args_tuple_mul_2 _ _) (XJ l its.toArray k t he k1 k2 (by rw[List.size_toArray];omega)) ⟨p,λz=>⟨.ref l,H,I,rfl,q1 z⟩,λz=>?_⟩;have ef:=JG its k.toNat [];rw[List.nil_append] at ef;rw[ef];refine⟨.ref s.heap.objs.size,_,I.laid (t':=s.toks) (o:=.tup (List.replicate k.toNat xs).flatten) (λb ob q=>AAC _ q) (AAE _) ⟨?_,_,r.reps _,IsTup.new _ _⟩,rfl,q2 z _ (I.hok.fresh (AAE _))⟩;rw[Ol,sizeLine_eq];have:k.toNat * xs.length<=1000 * 1000:=Nat.mul_le_mul (by omega) hz;omega
end
end L2
namespace Mi
open PySem L2 Ht
noncomputable def Il(a b:D):M D:=match a,b with
 | .tup ds,.int k=>λZ=>if ds≠[]/\ds.length<=1000/\1<=k/\k<=1000 then some (.tup (List.replicate k.toNat ds).flatten,Z) else none
 |a,b=>Eg a b
section
variable{X:Cx}
theorem YD:OpR X (binaryOp .Mult) (rM X.kw Il):=λw5 s O H x y v u Q I rx ry h=>by
 obtain⟨Y,Z,a,b,d,Z',R,ia,ib,e,q⟩:=h;unfold Il at e;split at e
 ·rename_i ds k;split at e
  ·rename_i hc;obtain⟨c1,c2,c3,c4⟩:=hc;cases e;have zb:=B0 ib;subst zb;unfold Is at ia;obtain⟨p,vs,rfl,h1,h2⟩:=ia;have hl:=h2.length;refine VF w5 s O H _ _ v u Q I rx ry ⟨p,k,vs,rfl,rfl,h1,λz=>c1 (List.length_eq_zero_iff.mp (by rw[←hl,z];rfl)),by omega,c3,c4,λz=>?_,λz=>?_⟩
   ·subst z;refine q Y H R.ext0 R _ ?_;unfold Is;exact⟨p,vs,rfl,h1,by simpa using h2⟩
   ·exact SY R (h2.rep _) q
  ·cases e
 ·exact OX w5 s O H _ _ v u Q I rx ry ⟨Y,Z,a,b,d,Z',R,ia,ib,e,q⟩
end
noncomputable def Ku:D->D->M D
 | .int i,.int j=>ret (.int (i+j))
 |_,_=>Bb
section
variable{X:Cx}{e:Expr}{pos pos':Pos}
theorem XW(i:Nat)(hN:X.N.Nodup)(he:RE X e m)(hi:X.N[i]?=some x:=by rfl)(hx:Loc X.env.scope x:=by first|exact Or.inl rfl|exact Or.inr rfl)(hf:X.fn x=true∨X.env.scope.names.lookup x=some .local:=by first|exact .inl rfl|exact .inr rfl|assumption):
  RS X (.AugAssign (.Name x pos') .Add e pos) (AW (mOp Ku (AA i) m) (AO i)):=RS.wk (Xj hN hi hx he.pe YQ hf) λDn O H h=>by
 obtain⟨Y,Z,B,f,B',Z',R,S,ev,q⟩:=h;obtain⟨d,w6,e1,ev⟩:=AF ev;obtain⟨x3,w9,e2,ev⟩:=AF ev;cases ev;cases e2;obtain⟨a,x8,e3,ev⟩:=AF e1;obtain⟨b,u3,e4,e5⟩:=AF ev;unfold AA at e3;split at e3
 ·rename_i d' ed;cases e3;obtain⟨v,s1,h1⟩:=S.get i _ ed;refine⟨v,s1,Y,Z,B,b,u3,R,S,e4,λx4 H1 E1 R1 v1 i1=>?_⟩;cases a with
  |int k=>
   cases b with
   |int j=>
    cases e5;have z1:=B0 h1;have z2:=B0 i1;subst z1 z2;exact⟨k,j,rfl,rfl,q x4 H1 E1 R1 _ ((S.ext E1).set i (ofI _))⟩
   |_=>cases e5
  |_=>cases e5
 ·cases e3
end
end Mi
namespace K13
open PySem L2 Mi
noncomputable def A6:D:=.int (-1)
noncomputable def A8  : Sl->M (Fl×Sl):=
  (Az (mOp As (mOp As (EX (AA 0) DI (Cv (AA 1))) (AG Bf (AC (AA 2) AL))) (EX (AA 0) (Cv (mOp As (AA 1) (mC (.int 1)))) DI)))
noncomputable def BG  : Sl->M (Fl×Sl):=
  (Az (Ce (AG Cg (AC (AA 0) (AC (mC (.ty "int")) AL))) (Ce (Hf (AG Cg (AC (AA 0) (AC (mC (.ty "bool")) AL)))) (Db Gg Gg (AA 1) (AA 0) (AA 2)))))
noncomputable def BY  : Sl->M (Fl×Sl):=
  (Az (Ce (AG Cg (AC (AA 0) (AC (mC (.ty "tuple")) AL))) (Db Gg Gg (AA 1) (AG Bh (AC (AA 0) AL)) (AA 2))))
noncomputable def Bt(OR:List D->M D):Sl->M (Fl×Sl):=
  (AS (sIf (Du (AN (AG Cg (AC (AA 1) (AC (mC (.ty "list")) AL))))) ED BP)
  (AS (AW (Cd 1 [] (DO (mOp AJ (AA 0) (mC (.int 4)))) (AO 0) En (mOp AJ (AA 0) (mC (.int 0))) Bn) (AO 2))
  (AS (AW NP (AO 3))
  (AS (AW (AG DJ AL) (AO 4))
  (AS (AW (mC (.int 0)) (AO 5))
  (AS (EO (ET (AC (AA 1) AL)) (CA [6,7]) (AS (sIf (Du (AN (AG OR (AC (AA 7) (AC (AA 2) (AC (mOp AJ (AA 0) (mC (.int 1))) AL)))))) ED BP)
  (AS (AW (Aj JC (AA 2) (AC (mOp AJ (AA 7) (mC (.int 1))) AL)) (AO 8))
  (AS (sIf (AN (mOp Ah (mOp Ah (mOp AJ (AA 7) (mC (.int 0))) (mC (.str "begin"))) (mOp (Ji false) (AA 8) (AA 3)))) ED BP)
  (AS (sIf (AN (mOp Ah (mOp AJ (AA 7) (mC (.int 0))) (mC (.str "begin")))) (AS (ER (AA 3) (AA 8) (AA 5))
  (AW (mOp Ku (AA 5) (mC (.int 1))) (AO 5))) BP)
  (AS (BI (Aj Cw (AA 4) (AC (AG Bf (AC (mOp AJ (AA 7) (mC (.int 0))) (AC (AA 8) (AC (mIf (AN (mOp Ah (AG Bh (AC (AA 7) AL)) (mC (.int 3)))) (mOp AJ (AA 7) (mC (.int 2))) (mC A6)) (AC (mOp D3 (AA 3) (AA 8)) AL))))) AL)))
  (sIf (AN (mOp Ah (mOp AJ (AA 7) (mC (.int 0))) (mC (.str "end")))) (BI (Jz (AA 3) (AA 8))) BP)))))))
  (Az (AA 4))))))))
noncomputable def BZ(Mk:List D->M D)(LT:List D->M D):Sl->M (Fl×Sl):=
  (AS (sIf (mOr (Du (AN (AG Mk (AC (AA 0) (AC (mC (.int 2)) (AC (mC (.int 3)) AL)))))) (mOr (AN (mOp (FR true) (mOp AJ (AA 0) (mC (.int 0))) (AG Bf (AC (mC (.str "begin")) (AC (mC (.str "end")) AL))))) (AN (mOp (FR true) (mOp AJ (AA 0) (mC (.int 1))) (AA 1))))) (Az (mC (.bl false))) BP)
  (AS (sIf (AN (mOp Ah (mOp Ah (mOp AJ (AA 0) (mC (.int 0))) (mC (.str "begin"))) (mOp Ah (mOp AJ (AA 0) (mC (.int 1))) (mOp AJ (AA 1) (mC (.int 0)))))) (Az (Ce (mOp Ah (AG Bh (AC (AA 0) AL)) (mC (.int 3))) (AG LT (AC (mOp AJ (AA 0) (mC (.int 2))) (AC (mC (.int 0)) (AC (mOp Ef (AA 2) (mC (.int 1))) AL)))))) BP)
  (Az (mOp Ah (AG Bh (AC (AA 0) AL)) (mC (.int 2))))))
noncomputable def By  : Sl->M (Fl×Sl):=
  (AS (sIf (AN (mOp EF (AA 1) (AG Bh (AC (AA 0) AL)))) (Az (mOp AJ (AA 0) (AA 1))) BP)
  (Az (mC (.int 0))))
noncomputable def Ba  : Sl->M (Fl×Sl):=
  (AS (AW (AG DJ AL) (AO 2))
  (AS (AW (mOp Bm (AA 0) (mC (.int 2))) (AO 3))
  (AS (FY Ep (Co (AN (mOp Ah (mOp BS (AA 0) (mC (.int 2))) (mC (.int 0)))) (Co (AN (mOp L6 (AA 3) (mC (.int 0)))) (AN (mOp EF (AG Bh (AC (AA 2) AL)) (AA 1))))) (AS (BI (Aj Cw (AA 2) (AC (mOp BS (AA 3) (mOp FN (mC (.int 10)) (mC (.int 9)))) AL)))
  (AW (mOp Bm (AA 3) (mOp FN (mC (.int 10)) (mC (.int 9)))) (AO 3))))
  (AS (AW (mOp BS (mOp Eg (mOp As (mOp Bm (AA 0) (mC (.int 2))) (mC (.int 7919))) (mC (.int 48271))) (mC (.int 2147483647))) (AO 3))
  (AS (EO (Jy (AC (AA 1) AL)) (AO 4) (AS (AW (mOp BS (mOp Eg (AA 3) (mOp As (mOp As (mOp Bm (AA 3) (mC (.int 1009))) (mC (.int 69621))) (AA 4))) (mC (.int 2147483647))) (AO 3))
  (AS (BI (Aj Cw (AA 2) (AC (mOp BS (mOp Eg (AA 3) (mOp As (mOp Bm (AA 3) (mC (.int 127))) (mC (.int 40009)))) (mC (.int 2147483629))) AL)))
  (AW (mOp As (AA 3) (mC (.int 1))) (AO 3)))))
  (Az (EX (AA 2) DI (Cv (AA 1)))))))))
noncomputable def Bu  : Sl->M (Fl×Sl):=
  (AS (AW (mOp As (mC (.int 2)) (mOp BS (mOp Bm (AA 0) (mC (.int 4))) (mC (.int 9)))) (AO 2))
  (AS (AW (mOp AJ (AG Bn (AC (AG Bn (AC (mC (.str "w")) (AC (mC (.str "r")) (AC (mC (.str "s")) (AC (mC (.str "t")) AL))))) (AC (AG Bn (AC (mC (.str "writer")) (AC (mC (.str "a")) (AC (mC (.str "ab")) (AC (mC (.str "b")) AL))))) (AC (AG Bn (AC (mC (.str "z")) (AC (mC (.str "zz")) (AC (mC (.str "zzzzzzzz")) (AC (mC (.str "begin")) AL))))) AL)))) (mOp BS (mOp Bm (AA 0) (mC (.int 36))) (mC (.int 3)))) (AO 3))
  (AS (AW (mOp As (mC (.int 1)) (mOp BS (mOp Bm (AA 0) (mC (.int 108))) (mC (.int 3)))) (AO 4))
  (AS (AW (Cd 1 [] (DO (EX (AA 3) DI (Cv (mOp As (mC (.int 1)) (AA 4))))) (AO 0) En (AG Bf (AC (AA 0) (AC (mC (.int 0)) (AC (AG Bf AL) AL)))) Bn) (AO 5))
  (Az (AG Bf (AC (AA 1) (AC (AA 2) (AC (mOp BS (mOp Bm (AA 0) (mC (.int 324))) (AA 2)) (AC (AG Bf AL) (AC (AG IP (AC (AA 5) AL)) AL)))))))))))
noncomputable def CH  : Sl->M (Fl×Sl):=
  (AS (AW (mOp As (EX (AA 1) (Cv (mUn L5 (mC (.int 3)))) DI) (AG Bn (AC (mOp BS (mOp Bm (AA 2) (mC (.int 5))) (mOp AJ (AA 0) (mC (.int 1)))) (AC (mOp AJ (AA 0) (mC (.int 2))) AL)))) (AO 3))
  (Az (mOp AJ (AA 3) (mOp BS (AA 2) (AG Bh (AC (AA 3) AL))))))
noncomputable def Bv(bZ:List D->M D)(cC:List D->M D):Sl->M (Fl×Sl):=
  (AS (AW (AG DJ AL) (AO 2))
  (AS (AW (AG DJ AL) (AO 3))
  (AS (AW (AG DJ (AC (mOp AJ (AA 0) (mC (.int 2))) AL)) (AO 4))
  (AS (AW (Cd 1 [] (DO (mOp AJ (AA 0) (mC (.int 4)))) (AO 0) En (mOp AJ (AA 0) (mC (.int 0))) Bn) (AO 5))
  (AS (EO (DO (AA 1)) (AO 6) (AS (AW (mOp AJ (AG bZ (AC (AA 6) (AC (mC (.int 1)) AL))) (mC (.int 0))) (AO 7))
  (AS (AW (mOp AJ (AA 5) (mOp BS (AA 7) (AG Bh (AC (AA 5) AL)))) (AO 8))
  (AS (sIf (AN (mOp Ah (mOp BS (mOp Bm (AA 7) (mC (.int 4))) (mC (.int 3))) (mC (.int 0)))) (AW (mOp AJ (AA 5) (mC (.int 0))) (AO 8)) BP)
  (AS (AW (mOp BS (mOp Bm (AA 7) (mC (.int 60))) (mOp AJ (AA 0) (mC (.int 1)))) (AO 9))
  (AS (AW (AG Bf (AC (mOp AJ (AG Bn (AC (mC (.str "begin")) (AC (mC (.str "end")) AL))) (AG Nc (AC (mOp (FR false) (AA 8) (AA 2)) AL))) (AC (AA 8) AL))) (AO 10))
  (AS (sIf (Co (AN (mOp Ah (AA 8) (mOp AJ (AA 5) (mC (.int 0))))) (AN (mOp Ah (mOp AJ (AA 10) (mC (.int 0))) (mC (.str "begin"))))) (AS (AW (mOp As (AA 10) (AG Bf (AC (AA 9) AL))) (AO 10))
  (BI (Aj Cw (AA 4) (AC (AA 9) AL)))) BP)
  (AS (sIf (Co (AN (mOp FE (AA 8) (mOp AJ (AA 5) (mC (.int 0))))) (AN (mOp Ah (mOp AJ (AA 10) (mC (.int 0))) (mC (.str "end"))))) (AW (mOp As (AA 10) (AG Bf (AC (AG cC (AC (AA 0) (AC (AA 4) (AC (mOp Bm (AA 7) (mC (.int 60))) AL)))) AL))) (AO 10)) BP)
  (AS (BI (Aj Cw (AA 3) (AC (AA 10) AL)))
  (sIf (AN (mOp (FR false) (AA 8) (AA 2))) (BI (Aj RX (AA 2) (AC (AA 8) AL))) (BI (Aj Cw (AA 2) (AC (AA 8) AL)))))))))))))
  (Az (AA 3)))))))
noncomputable def BW:List D->M D:=Ay .drop 2 2 (By)
noncomputable def BM:List D->M D:=Ay .drop 6 2 (Bu)
noncomputable def Ax:List D->M D:=Ay .drop 5 2 (Ba)
noncomputable def B3:List D->M D:=Ay .drop 4 3 (CH)
noncomputable def BN:List D->M D:=Ay .frz 11 2 (Bv Ax B3)
noncomputable def BD:List D->M D:=Ay .drop 3 3 (BY)
noncomputable def Ae:List D->M D:=Ay .drop 3 3 (BG)
noncomputable def A5:List D->M D:=Ay .drop 3 3 (BZ BD Ae)
noncomputable def Ai:List D->M D:=Ay .frz 9 2 (Bt A5)
noncomputable def Ad:List D->M D:=Ay .drop 3 3 (A8)
end K13
namespace L2
open PySem PySem.Spec PyProof.Rows
section
variable{X:Cx}{scope:Scope}{tgs:List Str}{ix:List Nat}
noncomputable def Lm(P:Program)(w:World)(A:Around):Option Expr->Env->(Bool->Shared->Prop)->(Value->Shared->Prop)->Shared->Prop
 |none,_,Q,_,s=>Q true s
 |some c,env,Q,E,s=>wpAny (model P w) A (isTrue c env (eval c env)) Q E s
theorem Q6:∀{co:Option Expr},Lm P w A co env Q (λ_ _=>False) s->(∀b s,Q b s->Q' b s)->Lm P w A co env Q' E s
 |none,h,k=>k _ _ h
 |some _,h,k=>Nl h k
def XF(P:Program)(w:World)(A:Around)(tg elt:Expr)(co:Option Expr)(it acc:Value)(env:Env)(R:Result->Shared->Prop)(G:Shared->Prop)(r:Option Value)(s1:Shared):Prop:=match r with
 |none=>R (.ok .next) s1
 |some v=>wpAny (model P w) A (letOwnedTupleGo tg it v) (λ_ s0=>wpAny (model P w) A (assign tg env v) (λ_ s2=>
   Lm P w A co env (λok s3=>if ok=true then wpAny (model P w) A (eval elt env) (λx s4=>wpAny (model P w) A (call (.builtin "list.append") [acc,x]) (λ_ s5=>G s5) (notedBy (model P w) A env λe s'=>R (.error e) s') s4) (notedBy (model P w) A env λe s'=>R (.error e) s') s3 else G s3)
    (notedBy (model P w) A env λe s'=>R (.error e) s') s2) (notedBy (model P w) A env λe s'=>R (.error e) s') s0) (notedBy (model P w) A env λe s'=>R (.error e) s') s1
theorem SW(I:Nat->Shared->Prop):∀(co:Option Expr),
  (∀n s,I n s->wpAny (model P w) A (pyNext it) (XF P w A tg elt co it acc env R λs5=>∃m,m<n/\I m s5) (notedBy (model P w) A env λe s'=>R (.error e) s') s)->∀n,I n s->
  codeAny (model P w) A (.compLoop (.ListComp elt [⟨tg,iter,co.toList,0⟩] scope pos) 0 it acc env) R s
 |none,turn,n,h=>PySem.W.kcp_loop I (λn s hI=>AAj (turn n s hI) (λr s1 q=>match r,q with
   |none,q=>q
   |some v,q=>AAj q (λ_ _ q=>AAj q (λ_ _ q=>by
     have q':=q;dsimp only[Lm] at q';rw[if_pos rfl] at q';exact q') λ_ _ x=>x) λ_ _ x=>x) λ_ _ x=>x) n h
 |some c,turn,n,h=>PySem.W.kct_loop I (λn s hI=>AAj (turn n s hI) (λr s1 q=>match r,q with
   |none,q=>q
   |some v,q=>q) λ_ _ x=>x) n h
def QZ(X:Cx)(co:Option Expr)(tc:TT):Prop:=
 ∀(w5:List (Addr×Obj)) (s:Shared) (O:St) (H:Hp) (Q:Bool->Hp->Prop),Inv X w5 O H s->tc O H Q->Lm X.prog X.w X.A co X.env (TP X w5 O Q) X.xe s
theorem MR:∀{is:List Nat},(∀i∈is,i<n)->∀vs O H (Q:St->Hp->Prop),Mi.Fi is vs O H Q->Mi.Fi is vs O H λu6 H2=>Q u6 H2/\u6.length=O.length/\u6.drop n=O.drop n
 |[],_,vs,O,H,Q,h=>⟨h.1,h.2,rfl,rfl⟩
 |i::is,hi,vs,O,H,Q,h=>by
  obtain⟨v,vr,rfl,h⟩:=h;refine⟨v,vr,rfl,?_⟩;have z:=MR (is:=is) (λj hj=>hi j (AAQ _ hj)) vr _ H Q h;have e1:(O.set i (some v)).length=O.length:=by simp
  have e2:(O.set i (some v)).drop n=O.drop n:=by rw[List.drop_set_of_lt (hi i (by simp))]
  rw[e1,e2] at z;exact z
theorem YW{n k:Nat}{K:PySem.W.Frag}(h:∀i∈is,i<n):GK n (VX K k (Mi.Fi is)):=λx O H Q q=>by
 obtain⟨a,xs,e,h1,h2,h3⟩:=q;exact⟨a,xs,e,h1,h2,MR h _ _ _ _ h3⟩
theorem Hl{elt tg iter:Expr}{co:Option Expr}{pos:Pos}{g:TG}{tc:TT}{te:TE}{w5:List (Addr×Obj)}{fp:List Addr}{tn:Nat->Heap->Prop}{J:It}{Q:VK}
  (S:BScope X scope tgs ix) (hc:X.calm=true) (hg:∀fp C s H,PG (cxB X scope tgs fp C s H) tg g) (hgk:GK tgs.length g) (hi:∀fp C s H,QZ (cxB X scope tgs fp C s H) co tc) (he:∀fp C s H,PE (cxB X scope tgs fp C s H) elt te)
  (I2:Inv X w5 O H2 s2) (T:LX X.prog X.w X.kw tg J fp it tn) (t0:tn 0 s2.heap) (hf:∀b∈fp,G8 X w5 H2 b)
  (W:Nat->Nat->List V->Hp->Prop) (w0:∃m,W 0 m [] H2)
  (turn:∀i m ys H,W i m ys H->(J.stop i H/\ys.length<=sizeLine/\∀p,H p=none->Q (.ref p) (upd H p (.lst ys))) ∨
   (J.go i H/\ys.length<sizeLine/\∃N:List V->Hp->Prop,(∀ys' H',N ys' H'->∃m',m'<m/\W (i+1) m' ys' H')/\∀x H',J.yld i H x H'->g x (DS tgs ix O) H' λu6 H2=>tc u6 H2 λb H3=>
    if b=true then te u6 H3 λv H4=>N (ys++[v]) H4 else N ys H3))
  {RR:Value->Addr->Result->Shared->Prop}
  (fin:∀(D C:Addr) (s':Shared) (H':Hp) (m:Str->Option Value),Inv X w5 O H' s'->Q (.ref D) H'->s'.heap.Ns C m->G8 X w5 H' C->RR (.ref D) C (.ok .next) s') :
  wpAny (model X.prog X.w) X.A (newList []) (λacc s₃=>wpAny (model X.prog X.w) X.A (newFunctionEnv scope X.env.globals (Fo X.env scope.names []) [] X.env.qual none .none (some X.env)) (λcenv s₄=>
   codeAny (model X.prog X.w) X.A (.compStart (.ListComp elt [⟨tg,iter,co.toList,0⟩] scope pos) 0 (.ref it) acc { cenv with scope:=relabel scope X.env }) (RR acc cenv.locals) s₄) X.xe s₃) X.xe s2:=by
 refine AAr (wpAny_newFunctionEnv S.nocell (by intro y hy;simp at hy) (λh₁ hns₁ hsb₁=>?_) S.kind);dsimp only at hns₁ hsb₁ ⊢;generalize hH2:s2.heap.push { cls:=.type "list",dict:=none,data:=.seq ([]:List Value).toArray }=G2 at hns₁ hsb₁ ⊢;have hC:G2.objs.size=s2.heap.objs.size+1:=by rw[←hH2,Heap.size_push]
 have hCle:s2.heap.objs.size<=G2.objs.size:=by rw[hC];exact Nat.le_succ _
 have hDC:s2.heap.objs.size≠G2.objs.size:=by rw[hC];exact AAe (Nat.lt_succ_self _)
 have below:∀b,b<s2.heap.objs.size->b≠G2.objs.size/\b≠s2.heap.objs.size:=λb hb=>⟨by rw[hC];exact AAe (AAi hb),AAe hb⟩;have old:∀b o,s2.heap.get? b=some o->h₁.get? b=some o:=λb o e=>hsb₁.extBut b o (below b (Heap.lt_size e)).1 (AAC _ (hH2 ▸ AAC _ e));have hacc:h₁.get? s2.heap.objs.size=some (K6 [] 0):=hsb₁.extBut _ _ hDC (AAC _ (hH2 ▸ AAD _ rfl));have hfo:∀b∈fp,b<s2.heap.objs.size:=λb hb=>let ⟨o,e,_⟩:=T.obj 0 _ t0 b hb;Heap.lt_size e
 have ok:=TU (tgs:=tgs) (ix:=ix) (C:=G2.objs.size) S I2 hf hfo hCle;have sub:∀x c,(Fo X.env scope.names []).lookup x=some c->X.env.cells.lookup x=some c:=Fm scope.names [] (λ_ _ z=>by simp at z);have nDfs:s2.heap.objs.size∉frs X.stack:=λhz=>by
  rcases AAI.mp (I2.stkSub _ hz) with z|z
  ·exact absurd I2.lt (by rw[←z];exact AAy _)
  ·exact I2.nofs (AAE _) z
 have nDcell:∀x c,(Fo X.env scope.names []).lookup x=some c->c≠s2.heap.objs.size:=λx c e=>AAe (I2.cellLt (sub x c e));have ncell:∀(its:List Value) (k:Nat) (v:Option Value),(K6 its k).data≠.cell v:=λits k v z=>by cases z
 have stat:∀{Hx:Hp} {o:Obj},(∀b∈fp,Hx b=none)->∀b∈fp,G8 (cxB X scope tgs fp G2.objs.size s2 H2) [(s2.heap.objs.size,o)] Hx b:=λ{Hx o} hn b hb=>
  ⟨hn b hb,(ok.exf b hb).1,ok.exfs b hb,.inl hb,(ok.exf b hb).2,λp hp z=>by
   have e:p=(s2.heap.objs.size,o):=by simpa[cxB] using hp
   subst e;exact absurd (hfo b hb) (by rw[←z];exact AAy _)⟩
 have loop:∀s₃:Shared,s₃={ s2 with heap:=h₁,toks:=s2.toks+([]:List (Str×Value)).length }->
   codeAny (model X.prog X.w) X.A (.compLoop (.ListComp elt [⟨tg,iter,co.toList,0⟩] scope pos) 0 (.ref it) (.ref s2.heap.objs.size) (compEnvC scope (Fo X.env scope.names []) G2.objs.size X.env)) (RR (.ref s2.heap.objs.size) G2.objs.size) s₃:=by
  rintro s₃ rfl;obtain⟨m0,w0⟩:=w0;refine SW (λn s=>∃i ys its k H,Inv (cxB X scope tgs fp G2.objs.size s2 H2) [(s2.heap.objs.size,K6 its k)] (DS tgs ix O) H s/\tn i s.heap/\(∀b∈fp,H b=none)/\Vals ys its/\W i n ys H) co ?_ m0
   ⟨0,[],[],0,H2,Nb S I2 hf hfo hCle (AAE _) hDC hns₁ old rfl rfl hacc (ncell _ _),T.keep 0 _ _ t0 λb _ o e=>old b o e,λb hb=>(hf b hb).1,.nil,w0⟩
  rintro n s ⟨i,ys,its,k,H,I,st,fr,rv,w⟩;rcases turn i n ys H w with ⟨stop,hz,q⟩|⟨go,hz8,N,hN,step⟩
  ·refine thn (T.done (cxB X scope tgs fp G2.objs.size s2 H2) rfl rfl rfl hc i _ s _ H _ I (stat fr) st stop) λr s1 ⟨hr,I1⟩=>?_;subst hr;obtain⟨pe,pn,_⟩:=I1.pin (s2.heap.objs.size,K6 its k) (AAb _ (by simp));have J0:Inv X w5 O H s1:=I2.call' I1.os I1.base I1.hok I1.bare λb hb=>⟨(hf b hb).2.2.2.1,(hf b hb).2.1,(hf b hb).2.2.2.2.1,(hf b hb).2.2.2.2.2⟩;have J1:Inv X w5 O (upd H s2.heap.objs.size (.lst ys)) s1:=J0.track (I2.fpOk (AAE _) pn) ⟨hz,its,k,rv,pe⟩;obtain⟨m,hn,_⟩:=I1.loc;exact fin _ _ s1 _ m J1 (q _ pn) hn (I2.fpOk hCle (by rw[upd_ne (Ne.symm hDC)];exact I1.free))
  ·refine thn (T.item (cxB X scope tgs fp G2.objs.size s2 H2) rfl rfl rfl hc i _ s _ H _ I (stat fr) st go) λr s1 ⟨u,hr,h1⟩=>?_;subst hr;refine thn h1 λ_ s5 ⟨x,H5,I5,r5,y5,st5,fr5⟩=>?_;have I5':=I5.pinned (stat fr5) (T.obj _ _ st5);refine Nl (hg fp G2.objs.size s2 H2 _ s5 _ H5 x u _ I5' r5 (hgk _ _ _ _ (step x H5 y5))) λ_ s6 ⟨v7,H6,I6,q6,l6,d6⟩=>?_;refine Q6 (hi fp G2.objs.size s2 H2 _ s6 v7 H6 _ I6 q6) λokb s7 ⟨H7,I7,q7⟩=>?_;cases okb with
   |false=>
    rw[if_neg AAh] at q7 ⊢;obtain⟨m',hm,w7⟩:=hN _ _ q7;refine⟨m',hm,i+1,ys,its,k,H7,Vx I7.unpinned l6 d6,T.keep _ _ _ st5 λb hb o e=>(I7.pin (b,o) (AAb _ (AAb _ (DZ hb e)))).1,λb hb=>?_,rv,w7⟩;obtain⟨o,e,_⟩:=T.obj _ _ st5 b hb;exact(I7.pin (b,o) (AAb _ (AAb _ (DZ hb e)))).2.1
   |true=>
    rw[if_pos rfl] at q7 ⊢;refine Nl (he fp G2.objs.size s2 H2 _ s7 v7 H7 _ I7 q7) λxv s8 ⟨v,H8,I8,rv8,q8⟩=>?_;obtain⟨m',hm,w8⟩:=hN _ _ q8;obtain⟨pe,pn,_⟩:=I8.pin (s2.heap.objs.size,K6 its k) (AAb _ (AAc _ (by simp)));have hlen:=rv.length;refine call_meets PySem.F.slot_list_append ⟨_,pe,rfl⟩ PySem.F.entry_list_append (PySem.F.args_list_append_2 _ _) (PySem.list_append s2.heap.objs.size its.toArray k xv (by rw[List.size_toArray];omega)) ⟨pe,?_⟩;have hp:its.toArray.push xv=(its++[xv]).toArray:=by simp
    have q':∃k',(s8.heap.update s2.heap.objs.size (Obj.mapSeq (λa=>a.push xv))).get? s2.heap.objs.size=some (K6 (its++[xv]) k'):=⟨_,by
     unfold K6;rw[←hp];exact PySem.IsL.update pe (λa=>a.push xv)⟩
    obtain⟨k',q'⟩:=q';have I9:Inv (cxB X scope tgs fp G2.objs.size s2 H2) [] v7 H8 { s8 with heap:=s8.heap.update s2.heap.objs.size (Obj.mapSeq (λa=>a.push xv)) }:=
     (I8.pins_of (pins':=[]) (λp hp=>absurd hp (by simp))).turned (t':=s8.toks) (λb o hb e=>(Heap.get?_update_other s8.heap (Obj.mapSeq (λa=>a.push xv)) (Ne.symm hb)).trans e) pn hDC (.inr (AAE _)) nDcell (λp hp=>absurd hp (by simp[cxB]))
    have I10:Inv (cxB X scope tgs fp G2.objs.size s2 H2) [(s2.heap.objs.size,K6 (its++[xv]) k')] v7 H8 { s8 with heap:=s8.heap.update s2.heap.objs.size (Obj.mapSeq (λa=>a.push xv)) }:=
     I9.pins_of λp hp=>by
      have e:p=(s2.heap.objs.size,K6 (its++[xv]) k'):=by simpa using hp
      subst e;exact⟨q',pn,hDC,nDfs,ncell _ _⟩
    refine⟨m',hm,i+1,ys++[v],its++[xv],k',H8,Vx I10 l6 d6,T.keep _ _ _ st5 λb hb o e=>?_,λb hb=>?_,rv.append (.cons rv8 .nil),w8⟩
    ·exact(Heap.get?_update_other s8.heap (Obj.mapSeq (λa=>a.push xv)) (Ne.symm (below b (hfo b hb)).2)).trans (I8.pin (b,o) (AAb _ (AAb _ (DZ hb e)))).1
    ·obtain⟨o,e,_⟩:=T.obj _ _ st5 b hb;exact(I8.pin (b,o) (AAb _ (AAb _ (DZ hb e)))).2.1
 exact codeAny_compStart_list (loop _ rfl) (T.self _ 0 _ _ _ (T.keep 0 _ _ t0 λb _ o e=>old b o e) (loop _ rfl))
theorem Rz{elt tg iter:Expr}(co:Option Expr){pos:Pos}{wi:TI}{tc:TT}{te:TE}(S:BScope X scope tgs ix)(hc:X.calm=true)(hi:PI X tg iter wi)(hg:∀fp C s H,PG (cxB X scope tgs fp C s H) tg g)(hgk:GK tgs.length g)
  (hif:∀fp C s H,QZ (cxB X scope tgs fp C s H) co tc) (he:∀fp C s H,PE (cxB X scope tgs fp C s H) elt te) (hs:∀x,foldedSetIterable iter X.env x=pure x:=by intro _;rfl) :
  PE X (.ListComp elt [⟨tg,iter,co.toList,0⟩] scope pos) (RB tgs ix wi g tc te):=by
 intro w5 s O H Q I h;rw[eval_ListComp];refine wpAny_comprehension_free (use:=none) rfl hs (Ew (S.cells I.ok)) S.kind S.loc ?_;show wpAny _ _ (eval iter X.env) _ _ s;refine thn (hi w5 s O H _ I h) λv s1 h1=>thn h1 λitv s2 h2=>?_;obtain⟨it,fp,tn,J,H2,e,I2,T,t0,f2,W,w0,turn⟩:=h2;subst e;refine Hl (RR:=λacc C=>compPost (model X.prog X.w) X.A X.xe none (EP X w5 O Q) acc C) S hc hg hgk hif he I2 T t0 f2 W w0 turn ?_;intro D C s' H' m J1 q hn fC;obtain⟨f0,f1,f2,f3,f4,f5⟩:=fC;exact⟨m,hn,λh' sb=>⟨.ref D,H',J1.turned (t':=s'.toks) (λb o hb e=>(sb.2 b hb).trans e) f0 f1 f3 f4 f5,rfl,q⟩⟩
end
end L2
namespace Mi
open PySem L2
section
variable{X:Cx}
theorem Ei:QZ X none (tT K En):=λw5 s O H Q I h=>by
 obtain⟨Y,Z,B,b,Z',R,S,e,q⟩:=h;cases e;exact⟨H,I,q Y H R.ext0 R⟩
theorem Eh(h:RT X c mc):QZ X (some c) (tT X.kw mc):=λw5 s O H Q I hq=>h.pe w5 s O H Q I hq
theorem XO(h:tG K (CA is) v O H Q):VX K is.length (Fi is) v O H Q:=by
 obtain⟨Y,Z,B,d,B',Z',R,S,i1,e,q⟩:=h;cases d with
 |tup ds=>
  unfold Is at i1;obtain⟨p,vs,rfl,h1,h2⟩:=i1;have e':(if ds.length=is.length then GO is ds B else Bb) Z=some (B',Z'):=e;by_cases hl:ds.length=is.length
  ·rw[if_pos hl] at e';refine⟨p,vs,rfl,h1,by rw[h2.length,hl],HR R S h2 e' λz O' S'=>?_⟩;subst z;exact q Y H R.ext0 R O' S'
  ·rw[if_neg hl] at e';cases e'
 |_=>cases e
theorem Vn(d:D)(B B':Sl)(Z Z':Mh)(e:CA is d B Z=some (B',Z')):Z'=Z:=by
 cases d with
 |tup ds=>
  have e':(if ds.length=is.length then GO is ds B else Bb) Z=some (B',Z'):=e;by_cases hl:ds.length=is.length
  ·rw[if_pos hl] at e';exact KY e'
  ·rw[if_neg hl] at e';cases e'
 |_=>cases e
end
open Ht
section
variable{X:Cx}{e tg iter:Expr}{body:List Stmt}{pos:Pos}
noncomputable def bG(ks:List Key)(m:Sl->M (List D)):Sl->M D:=λB Z=>match m B (Z++[.dK []]) with
 |some (ds,w6)=>match w6[Z.length]? with
  |some (.dK [])=>if ds.length=ks.length then some (.ref Z.length,w6.set Z.length (.dK (ks.zip ds))) else none
  |_=>none
 |none=>none
noncomputable def HS(n:Nat)(bf:D->Sl->M Sl)(mb:Sl->M (Fl×Sl)):Nat->Nat->Sl->M (Fl×Sl)
 |0,_,_=>Bb
 |f+1,i,B=>λZ=>match Z[n]? with
  |some (.lst ds)=>match ds[i]? with
   |some x=>(bnd (bf x B) λx3=>bnd (mb x3) λr=>match r.1 with
    | .next=>HS n bf mb f (i+1) r.2
    | .cont=>HS n bf mb f (i+1) r.2
    | .brk=>ret (.next,r.2)
    | .rt d=>ret (.rt d,r.2)
    | .xc x=>ret (.xc x,r.2)) Z
   |none=>some ((.next,B),Z)
  |_=>none
noncomputable def OL(Ep:Nat)(m:Sl->M D)(bf:D->Sl->M Sl)(mb:Sl->M (Fl×Sl)):Sl->M (Fl×Sl):=λB=>bnd (m B) λx=>match x with
 | .ref n=>HS n bf mb Ep 0 B
 |_=>Bb
theorem Ur(Ep:Nat)(hp:PassesOwn (model X.prog X.w) X.A X.env X.xe)(hc:X.calm=true)(hi:RE X iter m)(hg:RG X tg bf)(hb:RSs X body mb)
  (hs:∀x,foldedSetIterable iter X.env x=pure x:=by intro _;rfl):RS X (.For tg iter body [] pos) (OL Ep m bf mb):=RS.wk (NH hp hc (OT hi.pe) hg.pe hb.pe hs) λDn O H h=>by
 obtain⟨Y,Z,B,f,B',Z',R,S,e,q⟩:=h;obtain⟨x,w6,e1,e2⟩:=AF e;refine⟨Y,Z,B,x,w6,R,S,e1,λx4 H1 E1 R1 v i1=>?_⟩;cases x with
 |ref n=>
  unfold Is at i1;obtain⟨hk,rfl⟩:=i1;have hn0:∃ds,w6[n]?=some (.lst ds):=by
   cases Ep with
   |zero=>cases e2
   |succ f=>
    have e3:HS n bf mb (f+1) 0 B w6=some ((_,B'),Z'):=e2;unfold HS at e3;split at e3
    ·rename_i ds hd;exact⟨ds,hd⟩
    ·cases e3
  obtain⟨ds0,hn0⟩:=hn0;obtain⟨u,hu,o⟩:=R1.obj n _ hn0;obtain⟨vs0,rfl,iv0⟩:=o;refine⟨_,rfl,⟨vs0,SqL.of hu⟩,?_⟩
  let W:Nat->Nat->St->Hp->Prop:=λi m O H=>∃Y Z B f B' Z',RelH X.kw Y Z H/\RelS X.kw Y Z.length H B O/\n<Z.length/\Y n=x4 n/\HS n bf mb m i B Z=some ((f,B'),Z') /\
   Aft X.kw Y Z H Z' λY' H'=>∀O',RelS X.kw Y' Z'.length H' B' O'->FlP X.kw Dn Y' Z'.length H' B' O' f
  refine⟨W,⟨Ep,x4,w6,B,f,B',Z',R1,S.ext E1,hk,rfl,e2,λx5 H2 E2 R2=>q x5 H2 (E1.trans E2) R2⟩,?_⟩;rintro i m O H ⟨Y,Z,B,f,B',Z',R,S,hn,en,e,q⟩;cases m with
  |zero=>cases e
  |succ m=>
   unfold HS at e;split at e
   ·rename_i ds hd;obtain⟨u,hu,o⟩:=R.obj n _ hd;obtain⟨vs,rfl,iv⟩:=o;rw[en] at hu;have hl:=iv.length;split at e
    ·rename_i x hx;obtain⟨xv,hxv,ixv⟩:=iv.get hx;refine .inr ⟨⟨vs,xv,SqL.of hu,hxv⟩,λO' H'=>W (i+1) m O' H',λO' H' z=>⟨_,Nat.lt_succ_self _,z⟩,λy H2 yl=>?_⟩;obtain⟨z,yl⟩:=yl;subst z;have:=yl vs (SqL.of hu);rw[hxv] at this;cases this;obtain⟨x3,w9,e1,ea⟩:=AF e;obtain⟨⟨f2,x6⟩,x8,e2,eb⟩:=AF ea;refine⟨Y,Z,B,_,x3,w9,R,S,ixv,e1,λx9 H3 E3 R3 u8 S3=>?_⟩;refine⟨x9,w9,x3,f2,x6,x8,R3,S3,e2,λu4 H4 E4 R4 v9 S4=>?_⟩;have E14:=E3.trans E4;have hn4:n<x8.length:=AAM hn E14.le;have en4:u4 n=x4 n:=(E14.agree n hn).trans en;cases f2 with
     |next=>exact⟨u4,x8,x6,f,B',Z',R4,S4,hn4,en4,eb,λu7 H5 E5 R5=>q u7 H5 (E14.trans E5) R5⟩
     |cont=>exact⟨u4,x8,x6,f,B',Z',R4,S4,hn4,en4,eb,λu7 H5 E5 R5=>q u7 H5 (E14.trans E5) R5⟩
     |brk=>cases eb;exact q u4 H4 E14 R4 v9 S4
     |rt d=>cases eb;exact q u4 H4 E14 R4 v9 S4
     |xc x=>cases eb;exact q u4 H4 E14 R4 v9 S4
    ·rename_i hx;cases e;have hle:ds.length<=i:=by simpa using hx
     exact .inl ⟨⟨vs,SqL.of hu,by omega⟩,q Y H R.ext0 R O S⟩
   ·cases e
 |_=>cases e2
end
end Mi
namespace Sq
open PySem PySem.W PyProof.Rows
noncomputable def run{α:Type}(lt:Nat->Nat->Bool):KasT α->α
 | .ret a=>a
 | .ask i j k=>run lt (k (lt i j))
theorem Ee:∀t:KasT α,run lt (t.bind f)=run lt (f (run lt t))
 | .ret _=>rfl
 | .ask i j k=>Ee (k (lt i j))
structure Ord(N:Nat)(lt:Nat->Nat->Bool):Prop where
 tot:∀i j,i<N->j<N->i≠j->lt i j=true∨lt j i=true
 tr:∀i j k,lt i j=true->lt j k=true->lt i k=true
 irr:∀i,lt i i=false
abbrev Pm(N:Nat)(p:Array Nat):Prop:=p.toList.Perm (List.range N)
section
variable{N:Nat}{lt:Nat->Nat->Bool}{p:Array Nat}
theorem Pm.size(h:Pm N p):p.size=N:=by
 have:=h.length_eq;simpa using this
theorem Pm.bd(h:Pm N p)(hi:i<N):p.getD i 0<N:=by
 have hs:=h.size;have:p.getD i 0∈p.toList:=by
  have e:p.getD i 0=p[i]'(by omega):=by simp[Array.getD,hs,hi]
  rw[e];exact Array.mem_toList_iff.mpr (Array.getElem_mem _)
 exact List.mem_range.mp (h.mem_iff.mp this)
theorem Pm.inj(h:Pm N p)(hi:i<N)(hj:j<N)(e:p.getD i 0=p.getD j 0):i=j:=by
 have hs:=h.size;have nd:p.toList.Nodup:=h.nodup_iff.mpr List.nodup_range;have e1:p.getD i 0=p.toList[i]'(by simp[hs,hi]):=by simp[Array.getD,hs,hi]
 have e2:p.getD j 0=p.toList[j]'(by simp[hs,hj]):=by simp[Array.getD,hs,hj]
 rw[e1,e2] at e;exact(List.getElem_inj nd).mp e
theorem Pm.tot(h:Pm N p)(o:Ord N lt)(hi:i<N)(hj:j<N)(hne:i≠j):lt (p.getD i 0) (p.getD j 0)=true∨lt (p.getD j 0) (p.getD i 0)=true:=o.tot _ _ (Pm.bd h hi) (Pm.bd h hj) λe=>hne (h.inj hi hj e)
theorem Pm.not(h:Pm N p)(o:Ord N lt)(hi:i<N)(hj:j<N)(hne:i≠j)(e:lt (p.getD i 0) (p.getD j 0)=false):lt (p.getD j 0) (p.getD i 0)=true:=(h.tot o hi hj hne).elim (λz=>by rw[e] at z;cases z) id
def Up(lt:Nat->Nat->Bool)(p:Array Nat)(n:Nat):Prop:=∀i j,i<j->j<n->lt (p.getD i 0) (p.getD j 0)=true
theorem Up.more(o:Ord N lt)(h:Up lt p n)(hn:1<=n)(e:lt (p.getD (n-1) 0) (p.getD n 0)=true):Up lt p (n+1):=λi j hij hj=>by
 rcases Nat.lt_or_ge j n with z|z
 ·exact h i j hij z
 ·have:j=n:=by omega
  subst this;rcases Nat.lt_or_ge i (j-1) with y|y
  ·exact o.tr _ _ _ (h i (j-1) y (by omega)) e
  ·have:i=j-1:=by omega
   subst this;exact e
theorem IH(o:Ord N lt)(P:Pm N p):∀(f n:Nat),1<=n->n+f<=N->Up lt p n->n<=run lt (kas_asc p f n)/\run lt (kas_asc p f n)<=n+f/\Up lt p (run lt (kas_asc p f n))/\(run lt (kas_asc p f n)<n+f->lt (p.getD (run lt (kas_asc p f n)) 0) (p.getD (run lt (kas_asc p f n)-1) 0)=true)
 |0,n,h1,h2,u=>⟨AAE _,AAE _,u,λz=>absurd z (AAy _)⟩
 |f+1,n,h1,h2,u=>by
  unfold kas_asc;show n<=run lt (if lt (p.getD n 0) (p.getD (n-1) 0)=true then .ret n else kas_asc p f (n+1))/\_;cases e:lt (p.getD n 0) (p.getD (n-1) 0) with
  |true=>
   rw[show run lt (KasT.ask (p.getD n 0) (p.getD (n-1) 0) λc=>if c=true then .ret n else kas_asc p f (n+1))=n from by show run lt (if lt (p.getD n 0) (p.getD (n-1) 0)=true then KasT.ret n else kas_asc p f (n+1))=n;rw[e];rfl];exact⟨AAE _,by omega,u,λ_=>e⟩
  |false=>
   rw[show run lt (KasT.ask (p.getD n 0) (p.getD (n-1) 0) λc=>if c=true then .ret n else kas_asc p f (n+1))=run lt (kas_asc p f (n+1)) from by show run lt (if lt (p.getD n 0) (p.getD (n-1) 0)=true then KasT.ret n else kas_asc p f (n+1))=_;rw[e];rfl];rw[if_neg (by decide)];obtain⟨a,b,c,d⟩:=IH o P f (n+1) (by omega) (by omega) (u.more o h1 (P.not o (by omega) (by omega) (by omega) e));exact⟨by omega,by omega,c,λz=>d (by omega)⟩
def Dn(lt:Nat->Nat->Bool)(p:Array Nat)(n:Nat):Prop:=∀i j,i<j->j<n->lt (p.getD j 0) (p.getD i 0)=true
theorem JQ(o:Ord N lt)(P:Pm N p):∀(f n:Nat),1<=n->n+f<=N->Dn lt p n->∃m,run lt (kas_desc f p n 0)=(p,m,0)/\n<=m/\m<=n+f/\Dn lt p m
 |0,n,h1,h2,u=>⟨n,rfl,AAE _,AAE _,u⟩
 |f+1,n,h1,h2,u=>by
  cases e:lt (p.getD n 0) (p.getD (n-1) 0) with
  |true=>
   have u':Dn lt p (n+1):=λi j hij hj=>by
    rcases Nat.lt_or_ge j n with z|z
    ·exact u i j hij z
    ·have:j=n:=by omega
     subst this;rcases Nat.lt_or_ge i (j-1) with y|y
     ·exact o.tr _ _ _ e (u i (j-1) y (by omega))
     ·have:i=j-1:=by omega
      subst this;exact e
   obtain⟨m,a,b,c,d⟩:=JQ o P f (n+1) (by omega) (by omega) u';refine⟨m,?_,by omega,by omega,d⟩;unfold kas_desc;show run lt (if lt (p.getD n 0) (p.getD (n-1) 0)=true then _ else _)=_;rw[e,if_pos rfl,if_neg (by omega)];exact a
  |false=>
   have e2:=P.not o (i:=n) (j:=n-1) (by omega) (by omega) (by omega) e;refine⟨n,?_,AAE _,by omega,u⟩;unfold kas_desc;show run lt (if lt (p.getD n 0) (p.getD (n-1) 0)=true then _ else KasT.ask (p.getD (n-1) 0) (p.getD n 0) _)=_;rw[e,if_neg (by decide)];show run lt (if lt (p.getD (n-1) 0) (p.getD n 0)=true then _ else _)=_;rw[e2];rfl
theorem IE{xs ys:Array Nat}(h:xs[i]?=ys[j]?):xs.getD i 0=ys.getD j 0:=by
 rw[Array.getD_eq_getD_getElem?,Array.getD_eq_getD_getElem?,h]
theorem Ih(P:Pm N p)(i j:Nat):Pm N (kas_rev p i j):=(mirror_perm p i j _).toList.trans P
theorem XY(P:Pm N p){m:Nat}(hm:m<=N)(d:Dn lt p m):Up lt (kas_rev p 0 m) m:=λi j hij hj=>by
 have hs:=P.size;have g:∀k,k<m->(kas_rev p 0 m).getD k 0=p.getD (m-1-k) 0:=λk hk=>IE (by
  unfold kas_rev;rw[getElem?_mirror_all (by omega) k,if_pos ⟨AAk _,hk⟩];congr 1;omega)
 rw[g i (by omega),g j hj];exact d (m-1-j) (m-1-i) (by omega) (by omega)
theorem KL(o:Ord N lt)(P:Pm N p)(hN:2<=N):∃n p',run lt (kas_count N p)=(n,p')/\1<=n/\n<=N/\Pm N p'/\Up lt p' n:=by
 have u1:Up lt p 1:=λi j hij hj=>by omega
 obtain⟨a,b,c,d⟩:=IH o P (N-1) 1 (AAE _) (by omega) u1;generalize hm:run lt (kas_asc p (N-1) 1)=m at a b c d;unfold kas_count;rw[Ee,hm];by_cases e:m=N
 ·rw[if_pos (by simp[e])];exact⟨m,p,rfl,a,by omega,P,c⟩
 ·rw[if_neg (by simp[e])];by_cases h1:m > 1
  ·rw[if_pos h1];have z:lt (p.getD 0 0) (p.getD (m-1) 0)=true:=c 0 (m-1) (by omega) (by omega);refine⟨m,p,?_,a,by omega,P,c⟩;show run lt (if lt (p.getD 0 0) (p.getD (m-1) 0)=true then _ else _)=_;rw[z];rfl
  ·rw[if_neg h1];have m1:m=1:=by omega
   subst m1;have dd:=d (by omega);have dn:Dn lt p 2:=λi j hij hj=>by
    have:i=0/\j=1:=by omega
    obtain⟨rfl,rfl⟩:=this;exact dd
   obtain⟨m,r,b1,b2,d2⟩:=JQ o P (N-2) 2 (by omega) (by omega) dn;have P':=Ih P 0 m;have u':=XY P (m:=m) (by omega) d2;obtain⟨a3,b3,c3,_⟩:=IH o P' (N-m) m (by omega) (by omega) u';refine⟨run lt (kas_asc (kas_rev p 0 m) (N-m) m),kas_rev p 0 m,?_,by omega,by omega,P',c3⟩;unfold kas_descPart;rw[Ee,show N-(1+1)=N-2 from rfl,show 1+1=2 from rfl,r];show run lt (if (0:Nat) > 0 then _ else kas_tail3 m N p)=_;rw[if_neg (by omega)];unfold kas_tail3;rw[Ee];rfl
theorem HI(o:Ord N lt)(P:Pm N p)(hk:k<N)(u:Up lt p k):∀(f l r:Nat),l<=r->r<=k->r-l<=f->(∀i,i<l->lt (p.getD i 0) (p.getD k 0)=true)->(∀i,r<=i->i<k->lt (p.getD k 0) (p.getD i 0)=true)->
  ∃m,run lt (kas_place p k f l r)=m/\m<=k/\(∀i,i<m->lt (p.getD i 0) (p.getD k 0)=true)/\(∀i,m<=i->i<k->lt (p.getD k 0) (p.getD i 0)=true)
 |0,l,r,h1,h2,h3,a,b=>⟨l,rfl,by omega,a,λi hi=>b i (by omega)⟩
 |f+1,l,r,h1,h2,h3,a,b=>by
  unfold kas_place;by_cases e:l ≥ r
  ·rw[if_pos e];exact⟨l,rfl,by omega,a,λi hi=>b i (by omega)⟩
  ·rw[if_neg e];have hmid:l<=(l+r) / 2/\(l+r) / 2<r:=by omega
   show ∃m,run lt (if lt (p.getD k 0) (p.getD ((l+r) / 2) 0)=true then _ else _)=m/\_;cases c:lt (p.getD k 0) (p.getD ((l+r) / 2) 0) with
   |true=>
    rw[if_pos rfl];refine HI o P hk u f l ((l+r) / 2) (by omega) (by omega) (by omega) a λi hi hik=>?_;rcases Nat.lt_or_ge ((l+r) / 2) i with z|z
    ·exact o.tr _ _ _ c (u _ _ z hik)
    ·have:i=(l+r) / 2:=by omega
     subst this;exact c
   |false=>
    rw[if_neg (by decide)];have c':=P.not o hk (show (l+r) / 2<N by omega) (by omega) c;refine HI o P hk u f ((l+r) / 2+1) r (by omega) (by omega) (by omega) (λi hi=>?_) b;rcases Nat.lt_or_ge i ((l+r) / 2) with z|z
    ·exact o.tr _ _ _ (u _ _ z (by omega)) c'
    ·have:i=(l+r) / 2:=by omega
     subst this;exact c'
theorem PJ(o:Ord N lt):∀(f k:Nat) (p:Array Nat),Pm N p->1<=k->k+f=N->Up lt p k->Pm N (run lt (kas_bin f p k))/\Up lt (run lt (kas_bin f p k)) N
 |0,k,p,P,h1,h2,u=>⟨P,(show k=N by omega) ▸ u⟩
 |f+1,k,p,P,h1,h2,u=>by
  unfold kas_bin;rw[Ee];obtain⟨m,e,hm,a,b⟩:=HI o P (k:=k) (by omega) u k 0 k (AAk _) (AAE _) (by omega) (λi hi=>by omega) (λi h1 h2=>by omega);rw[e];have hs:=P.size;have g:∀j,(bubble p k (k-m)).getD j 0=if j=m then p.getD k 0 else if m<j/\j<=k then p.getD (j-1) 0 else p.getD j 0:=λj=>by
   have:=getElem?_bubble (xs:=p) (src:=k) (by omega) (k-m) (by omega) j;rw[show k-(k-m)=m by omega] at this;by_cases z:j=m
   ·rw[if_pos z] at this ⊢;exact IE this
   ·rw[if_neg z] at this ⊢;by_cases y:m<j/\j<=k
    ·rw[if_pos y] at this ⊢;exact IE this
    ·rw[if_neg y] at this ⊢;exact IE this
  refine PJ o f (k+1) _ ((bubble_perm p k _).toList.trans P) (by omega) (by omega) λi j hij hj=>?_;by_cases ji:j=m
  ·have gi:(bubble p k (k-m)).getD i 0=p.getD i 0:=by rw[g i,if_neg (by omega),if_neg (by omega)]
   have gj:(bubble p k (k-m)).getD j 0=p.getD k 0:=by rw[g j,if_pos ji]
   rw[gi,gj];exact a i (by omega)
  ·by_cases jj:m<j
   ·have gj:(bubble p k (k-m)).getD j 0=p.getD (j-1) 0:=by rw[g j,if_neg ji,if_pos ⟨jj,by omega⟩]
    rw[gj];by_cases ii:i=m
    ·have gi:(bubble p k (k-m)).getD i 0=p.getD k 0:=by rw[g i,if_pos ii]
     rw[gi];exact b (j-1) (by omega) (by omega)
    ·by_cases i2:m<i
     ·have gi:(bubble p k (k-m)).getD i 0=p.getD (i-1) 0:=by rw[g i,if_neg ii,if_pos ⟨i2,by omega⟩]
      rw[gi];exact u (i-1) (j-1) (by omega) (by omega)
     ·have gi:(bubble p k (k-m)).getD i 0=p.getD i 0:=by rw[g i,if_neg ii,if_neg (by omega)]
      rw[gi];exact u i (j-1) (by omega) (by omega)
   ·have gi:(bubble p k (k-m)).getD i 0=p.getD i 0:=by rw[g i,if_neg (by omega),if_neg (by omega)]
    have gj:(bubble p k (k-m)).getD j 0=p.getD j 0:=by rw[g j,if_neg ji,if_neg (by omega)]
    rw[gi,gj];exact u i j hij (by omega)
theorem sort_run(o:Ord N lt)(hN:2<=N):Pm N (run lt (kas_sort N))/\Up lt (run lt (kas_sort N)) N:=by
 unfold kas_sort;rw[Ee];obtain⟨n,p',e,h1,h2,P,u⟩:=KL (p:=List.toArray (List.range N)) o (List.Perm.refl _) hN;rw[e];by_cases z:n<N
 ·rw[if_pos z];rw[show max n 1=n by omega];exact PJ o (N-n) n p' P h1 (by omega) u
 ·rw[if_neg z];have:n=N:=by omega
  subst this;exact⟨P,u⟩
end
noncomputable def Bd{α:Type}(N:Nat)(lt:Nat->Nat->Bool):KasT α->Prop
 | .ret _=>True
 | .ask i j k=>i<N/\j<N/\Bd N lt (k (lt i j))
theorem wp_of(hc:∀i j (C:Bool->Shared->Prop),i<N->j<N->C (lt i j) s->cmp i j C s):∀t:KasT α,Bd N lt t->Q (run lt t) s->t.kasWp cmp Q s
 | .ret _,_,h=>h
 | .ask i j k,b,h=>hc i j _ b.1 b.2.1 (wp_of hc (k (lt i j)) b.2.2 h)
theorem F5:∀t:KasT α,Bd N lt t->Bd N lt (f (run lt t))->Bd N lt (t.bind f)
 | .ret _,_,h=>h
 | .ask i j k,b,h=>⟨b.1,b.2.1,F5 (k (lt i j)) b.2.2 h⟩
section
variable{N:Nat}{lt:Nat->Nat->Bool}{p:Array Nat}
theorem Nt(P:Pm N p):∀(f n:Nat),1<=n->n+f<=N->Bd N lt (kas_asc p f n)
 |0,n,h1,h2=>trivial
 |f+1,n,h1,h2=>by
  refine⟨Pm.bd P (by omega),Pm.bd P (by omega),?_⟩;dsimp only;split
  ·trivial
  ·exact Nt P f (n+1) (by omega) (by omega)
theorem IG:∀(f n q:Nat) {p:Array Nat},Pm N p->1<=n->n+f<=N->Bd N lt (kas_desc f p n q)
 |0,n,q,p,P,h1,h2=>trivial
 |f+1,n,q,p,P,h1,h2=>by
  refine⟨Pm.bd P (by omega),Pm.bd P (by omega),?_⟩;dsimp only;split
  ·split
   ·exact IG f (n+1) 0 (Ih P _ _) (by omega) (by omega)
   ·exact IG f (n+1) 0 P (by omega) (by omega)
  ·refine⟨Pm.bd P (by omega),Pm.bd P (by omega),?_⟩;dsimp only;split
   ·trivial
   ·exact IG f (n+1) (q+1) P (by omega) (by omega)
theorem TZ(o:Ord N lt)(P:Pm N p)(hN:2<=N):Bd N lt (kas_count N p):=by
 have u1:Up lt p 1:=λi j hij hj=>by omega
 obtain⟨a,b,c,d⟩:=IH o P (N-1) 1 (AAE _) (by omega) u1;unfold kas_count;refine F5 _ (Nt P (N-1) 1 (AAE _) (by omega)) ?_;generalize hm:run lt (kas_asc p (N-1) 1)=m at a b c d;by_cases e:m=N
 ·rw[if_pos (by simp[e])];trivial
 ·rw[if_neg (by simp[e])];by_cases h1:m > 1
  ·rw[if_pos h1];have z:lt (p.getD 0 0) (p.getD (m-1) 0)=true:=c 0 (m-1) (by omega) (by omega);refine⟨Pm.bd P (by omega),Pm.bd P (by omega),?_⟩;rw[z];trivial
  ·rw[if_neg h1];have m1:m=1:=by omega
   subst m1;have dd:=d (by omega);have dn:Dn lt p 2:=λi j hij hj=>by
    have:i=0/\j=1:=by omega
    obtain⟨rfl,rfl⟩:=this;exact dd
   obtain⟨m,r,b1,b2,d2⟩:=JQ o P (N-2) 2 (by omega) (by omega) dn;unfold kas_descPart;refine F5 _ (IG (N-(1+1)) (1+1) 0 P (by omega) (by omega)) ?_;rw[show N-(1+1)=N-2 from rfl,show 1+1=2 from rfl,r];show Bd N lt (if (0:Nat) > 0 then _ else kas_tail3 m N p);rw[if_neg (by omega)];unfold kas_tail3;exact F5 _ (Nt (Ih P 0 m) (N-m) m (by omega) (by omega)) trivial
theorem Ip(P:Pm N p)(hk:k<N):∀(f l r:Nat),r<=k->Bd N lt (kas_place p k f l r)
 |0,l,r,h=>trivial
 |f+1,l,r,h=>by
  unfold kas_place;by_cases e:l ≥ r
  ·rw[if_pos e];trivial
  ·rw[if_neg e];refine⟨Pm.bd P hk,Pm.bd P (by omega),?_⟩;dsimp only;split
   ·exact Ip P hk f l ((l+r) / 2) (by omega)
   ·exact Ip P hk f ((l+r) / 2+1) r h
theorem Ti:∀(f k:Nat) (p:Array Nat),Pm N p->k+f=N->Bd N lt (kas_bin f p k)
 |0,k,p,P,h=>trivial
 |f+1,k,p,P,h=>by
  unfold kas_bin;exact F5 _ (Ip P (by omega) k 0 k (AAE _)) (Ti f (k+1) _ ((bubble_perm p k _).toList.trans P) (by omega))
theorem sort_bd(o:Ord N lt)(hN:2<=N):Bd N lt (kas_sort N):=by
 have P0:Pm N (List.toArray (List.range N)):=List.Perm.refl _;unfold kas_sort;refine F5 _ (TZ o P0 hN) ?_;obtain⟨n,p',e,h1,h2,P,u⟩:=KL (p:=List.toArray (List.range N)) o P0 hN;rw[e];by_cases z:n<N
 ·rw[if_pos z];exact Ti _ _ p' P (by omega)
 ·rw[if_neg z];trivial
end
end Sq
namespace Nk
open PySem PySem.Spec PyProof.Rows HT
theorem LK(h:csK a=csK b):a=b:=by
 obtain⟨a1,a2,a3⟩:=a;obtain⟨b1,b2,b3⟩:=b;unfold csK at h;simp only[NK.tup.injEq,List.cons.injEq,NK.int.injEq,and_true] at h;obtain⟨h1,h2,h3⟩:=h;have:a3=b3:=by
  have inj:∀(x y:List Int),x.map NK.int=y.map NK.int->x=y:=by
   intro x
   induction x with
   |nil=>intro y h;cases y with
    |nil=>rfl
    |cons _ _=>cases h
   |cons u x ih=>intro y h;cases y with
    |nil=>cases h
    |cons v y=>
     rw[AAW,AAW,List.cons.injEq,NK.int.injEq] at h;rw[h.1,ih y h.2]
  exact inj a3 b3 h3
 rw[h1,h2,this]
theorem K8:∀a:List Int,F9 a a=false
 |[]=>rfl
 |x::a=>by rw[Cq,if_pos rfl];exact K8 a
theorem K7:∀{a b:List Int},a≠b->F9 a b=true∨F9 b a=true
 |[],[],h=>absurd rfl h
 |[],_::_,_=>.inl rfl
 |_::_,[],_=>.inr rfl
 |x::a,y::b,h=>by
  by_cases e:x=y
  ·subst e;rw[Cq,Cq,if_pos rfl,if_pos rfl];exact K7 λz=>h (by rw[z])
  ·rw[Cq,Cq,if_neg e,if_neg (Ne.symm e)];rcases Int.lt_or_gt_of_ne e with z|z
   ·exact .inl (AAO z)
   ·exact .inr (AAO z)
theorem NW:∀{a b c:List Int},F9 a b=true->F9 b c=true->F9 a c=true
 |[],[],_,h,_=>by cases h
 |[],_::_,[],_,h=>by cases h
 |[],_::_,_::_,_,_=>rfl
 |_::_,[],_,h,_=>by cases h
 |_::_,_::_,[],_,h=>by cases h
 |x::a,y::b,z::c,h,g=>by
  rw[Cq] at h g ⊢;by_cases e:x=y
  ·subst e;rw[if_pos rfl] at h;by_cases e2:x=z
   ·subst e2;rw[if_pos rfl] at g ⊢;exact NW h g
   ·rw[if_neg e2] at g ⊢;exact g
  ·rw[if_neg e] at h;have h':=of_decide_eq_true h;by_cases e2:y=z
   ·subst e2;rw[if_neg e];exact h
   ·rw[if_neg e2] at g;have g':=of_decide_eq_true g;rw[if_neg (by omega)];exact AAO (by omega)
theorem Ats.get:∀{ks:List NK} {vs:List Value},Ats h ks vs->∀(i:Nat) (k:NK),ks[i]?=some k->∃v,vs[i]?=some v/\At h k v
 |[],_,_,i,k,e=>by simp at e
 |k0::ks,_,a,i,k,e=>by
  unfold Ats at a;obtain⟨v,vs',rfl,a1,a2⟩:=a;cases i with
  |zero=>simp at e;subst e;exact⟨v,rfl,a1⟩
  |succ i=>
   obtain⟨u,e1,e2⟩:=Ats.get a2 i k (by simpa using e);exact⟨u,by simpa using e1,e2⟩
theorem Ats.of_get:∀{ks:List NK} {vs:List Value},vs.length=ks.length->(∀(i:Nat) (k:NK) (v:Value),ks[i]?=some k->vs[i]?=some v->At h k v)->Ats h ks vs
 |[],[],_,_=>by unfold Ats;rfl
 |[],_::_,e,_=>by simp at e
 |_::_,[],e,_=>by simp at e
 |k::ks,v::vs,e,f=>by
  unfold Ats;exact⟨v,vs,rfl,f 0 k v rfl rfl,Ats.of_get (by simpa using e) λi k' v' h1 h2=>f (i+1) k' v' (by simpa using h1) (by simpa using h2)⟩
end Nk
namespace Nk
open PySem PySem.Spec PyProof.Rows Ht
noncomputable def itK(d:Addr)(i n ep:Nat):Obj:={ cls:=.type "dict_keyiterator",data:=.fields #[.ref d,.int i 0,.int n 0,.int ep 0] }
section
variable{prog:Program}{w:World}{A:Around}{E:Value->Shared->Prop}{s:Shared}{d I:Addr}{o:Obj}{es:Array DictEntry}{ep:Nat}
theorem OZ(hh:A.handled=none)(hI:s.heap.get? I=some (itK d i es.size ep))(ho:s.heap.get? d=some o)(hd:o.data=.dict es ep)
  (more:∀(hi:i<es.size) (h':Heap),h'.get? I=some (itK d (i+1) es.size ep)->Heap.SameBut I s.heap h'->Q (some es[i].key) { s with heap:=h' })
  (done:es.size<=i->∀h',Heap.ExtBut I s.heap h'->Q none { s with heap:=h' }):wpAny (model prog w) A (pyNext (.ref I)) Q E s:=by
 have hT:s.TypeIs (.ref I) "dict_keyiterator" := ⟨_,hI,rfl⟩;have nm:∀{A:Around} {s:Shared} {E:Value->Shared->Prop} {R:String->Shared->Prop},s.TypeIs (.ref I) "dict_keyiterator" -> R "dict_keyiterator" s->wpAny (model prog w) A (typeNameOfWhole (.ref I)) R E s:=λty r=>wpAny_typeNameOfWhole_keyiter ty r;unfold pyNext;refine AAA (wpAny_attempt (wpAny_callSpecial?_slot (name:=Str.ofString "__next__") hT PySem.F.slot_dict_keyiterator_next (AAd PySem.F.slot_dict_keyiterator_next hT PySem.F.entry_dict_keyiterator_next ?_ (PySem.F.args_dict_keyiterator_next_1 _))))
 wp_walk
 rw[hd]
 wp_walk
 rw[hd];refine AAB ?_;rw[if_neg (by simp)];refine AAB ?_;have key:(if (i:Int)<0 then none else es[(i:Int).toNat]?)=es[i]?:=by rw[if_neg (by omega),Int.toNat_natCast]
 dsimp only;rw[key];cases e:es[i]? with
 |some x=>
  wp_walk
  have hi:i<es.size:=(Array.getElem?_eq_some_iff.mp e).1;have ex:es[i]=x:=(Array.getElem?_eq_some_iff.mp e).2;refine⟨_,rfl,AAB ?_⟩;rw[←ex];refine more hi _ ?_ (Heap.SameBut.update ..);rw[if_neg (by decide +kernel),if_neg (by decide +kernel)];rw[Heap.get?_update_self _ hI (by rfl)];simp[itK,rawInt,Obj.mapFields]
 |none=>
  refine AAA (AAA (nm hT (AAB ?_)));rw[if_neg (by decide +kernel)];refine AAA (AAq hI (by simp) λh1 g1 s1=>?_);refine GD (A:=A.in1) (s:={ s with heap:=h1 }) hh λa h' k ty=>?_;refine AAA (wpAny_isInstance (T := "StopIteration") (b:=true) ty isSubtype_stop ?_);exact AAB (done (by simpa using e) h' λb o hb e=>k b o (s1.extBut b o hb e))
theorem VU(lo:(d==sysModules)=false)(ho:s.heap.get? d=some o)(ex:o.ExactDict)(hd:o.data=.dict es ep)(q:Q (.ref s.heap.objs.size) { s with heap:=s.heap.push (itK d 0 es.size ep) }):wpAny (model prog w) A (pyIter (.ref d)) Q E s:=by
 have hT:s.TypeIs (.ref d) "dict" := ⟨o,ho,ex.1⟩;refine wpAny_pyIter_slot hT PySem.F.slot_dict_iter (AAd PySem.F.slot_dict_iter hT PySem.F.entry_dict_iter ?_ (PySem.F.args_dict_iter_1 _))
 wp_walk
 rw[if_neg (by rw[ex.1];decide)]
 wp_walk
 rw[hd]
 wp_walk
 rw[hd]
 wp_walk
 exact⟨_,rfl, "dict_keyiterator",_,⟨_,AAD _ rfl,rfl⟩,PySem.F.slot_dict_keyiterator_next.lookup,q⟩
theorem Pf(hI:s.heap.get? I=some (itK d i es.size ep))(q:Q (.ref I) s):wpAny (model prog w) A (pyIter (.ref I)) Q E s:=wpAny_pyIter_keyiter (d:=d) (i:=i) (n:=es.size) (ep:=ep) ⟨_,hI,rfl,rfl⟩ q
theorem My(hh:A.handled=none)(hne:d≠I)(hd:o.data=.dict es ep):Walks prog w A I [I,d] [I] es.size (λi v=>∃e,es[i]?=some e/\v=e.key) (λi h=>h.get? I=some (itK d i es.size ep)/\h.get? d=some o):=by
 refine⟨λb hb=>?_,λi h h' st k=>⟨k I (by simp) _ st.1,k d (by simp) _ st.2⟩,λi s Q E hi st q=>?_,λs Q E st q=>?_,λi s Q E st q=>Pf st.1 q⟩
 ·rw[AAK] at hb;rw[hb];simp
 ·refine OZ hh st.1 st.2 hd (λhi' h' g sb=>?_) λz=>absurd hi (Nat.not_lt.mpr z);refine q _ h' s.toks ⟨es[i],Array.getElem?_eq_getElem hi',rfl⟩ ⟨g,(sb.2 d hne).trans st.2⟩ λb o hb e=>?_;exact(sb.2 b λz=>hb (by rw[z];simp)).trans e
 ·refine OZ hh st.1 st.2 hd (λhi'=>absurd hi' (AAy _)) λ_ h' k=>?_;exact q h' s.toks λb o hb e=>k b o (λz=>hb (by rw[z];simp)) e
theorem RF(lo:(d==sysModules)=false)(ex:o.ExactDict)(hd:o.data=.dict es ep):PySem.W.KdlSrc prog w "dict" d d es.size (λi v=>∃e,es[i]?=some e/\v=e.key) (λh=>h.get? d=some o):=by
 refine⟨λs h=>⟨_,h,ex.1⟩,λh e=>⟨Heap.lt_size e,Heap.lt_size e⟩,λh h' e k=>k d (.inl rfl) _ e,by decide,by decide,λA E s Q e q=>PySem.W.kdl_hint_dict ⟨_,e,ex.1⟩ q,λA s hh e=>?_⟩;exact⟨itK d 0 es.size ep,_,λE Q q=>VU lo e ex hd q,My hh (AAe (Heap.lt_size e)) hd,AAD _ rfl,AAC _ e⟩
theorem NZ(it:ItemsOf (λi v=>∃e,es[i]?=some e/\v=e.key) vs es.size):vs.toList=es.toList.map (·.key):=by
 have h1:=it.1;refine List.ext_getElem (by simp[h1]) λi a b=>?_;have hi:i<vs.size:=by simpa using a
 obtain⟨e,g1,g2⟩:=it.2 i vs[i] (Array.getElem?_eq_getElem hi);have he:es[i]'(by omega)=e:=(Array.getElem?_eq_some_iff.mp g1).2;simp[g2,←he]
end
section
variable{prog:Program}{w:World}{A:Around}{E:Value->Shared->Prop}{s:Shared}{d a:Addr}{o:Obj}{es:Array DictEntry}{ep:Nat}{K:Type}[DecidableEq K]{kd:HeapKind prog w K}{xs:List (K×Addr×Value)}{k:K}{v:Value}
theorem V4(hu:kd.room A)(hk:kd.is s.heap k a)(ho:s.heap.get? d=some o)(hc:o.ExactDict)(hd:o.data=.dict es ep)(he:es.toList=xs.map (entryOfKey kd))(hi:∀x∈xs,kd.is s.heap x.1 x.2.1)(hn:(xs.map (·.1)).Nodup)(no:atKey xs k=none)(hz:xs.length<sizeLine)
  (q:∀h' o',h'.get? d=some o'->o'.ExactDict->o'.data=.dict (es.push ⟨kd.hash k,.ref a,v⟩) (ep+1)->Heap.SameBut d s.heap h'->Q () { s with heap:=h',toks:=s.toks+kd.draws k }):wpAny (model prog w) A (dictSet d (.ref a) v) Q E s:=by
 have fits:es.size<=sizeLine:=by rw[size_of_entries he];omega
 unfold dictSet dictSetHashed;refine AAp (AAA (kd.pyHash hu hk (AAp (AAA (wpAny_dictFind_heap (s:={ s with toks:=s.toks+kd.draws k }) hu hk ho hd he hi hn (λ_=>?_) λj p z=>?_)))))
 ·refine AAA (wpAny_rule (wpAny_updateDictKeys ho hd ?_ fits));exact q _ _ (Heap.get?_update_self _ ho (Obj.isFreed_of_dict (Obj.data_mapDictKeys hd _))) (hc.mapDictKeys _) (Obj.data_mapDictKeys hd _) (Heap.SameBut.update ..)
 ·rw[atKey_of_get hn z] at no;cases no
theorem put_c(hu:kd.room A.in1)(hk:kd.is s.heap k a)(ho:s.heap.get? d=some o)(hc:o.ExactDict)(hd:o.data=.dict es ep)(he:es.toList=xs.map (entryOfKey kd))(hi:∀x∈xs,kd.is s.heap x.1 x.2.1)(hn:(xs.map (·.1)).Nodup)(no:atKey xs k=none)(hz:xs.length<sizeLine)
  (q:∀h' o',h'.get? d=some o'->o'.ExactDict->o'.data=.dict (es.push ⟨kd.hash k,.ref a,v⟩) (ep+1)->Heap.SameBut d s.heap h'->Q () { s with heap:=h',toks:=s.toks+kd.draws k }):wpAny (model prog w) A (setItem (.ref d) (.ref a) v) Q E s:=by
 have hT:s.TypeIs (.ref d) "dict" := ⟨o,ho,hc.1⟩;unfold setItem;refine AAp (AAA (wpAny_sequenceKey hT (by decide) ?_));refine AAA (wpAny_callSpecial?_slot (name:=Str.ofString "__setitem__") hT slot_dict_setitem (AAd slot_dict_setitem hT entry_dict_setitem ?_ (args_dict_setitem _ _ _)));unfold Builtin.«dict.__setitem__»;refine AAA (wpAny_notOrdered_dict hT ?_);show wpAny _ _ (dictSet d (.ref a) v >>= _) _ _ s;exact AAA (V4 hu hk ho hc hd he hi hn no hz λh' o' a1 a2 a3 a4=>AAB ⟨.none,rfl,AAB (q h' o' a1 a2 a3 a4)⟩)
end
end Nk
namespace Nk
open PySem PySem.Spec PyProof.Rows L2 Mi
theorem TY(c:Cs):(csK c).deep<=8:=by
 have h:∀ns:List Int,NK.deeps (ns.map NK.int)=0:=λns=>by
  induction ns with
  |nil=>rfl
  |cons n r ih=>unfold List.map NK.deeps;rw[ih];rfl
 have:(csK c).deep=max 0 (max 0 (max (NK.deeps (c.2.2.map NK.int)+1) 0))+1:=rfl;rw[this,h]
 decide
theorem Mp:∀{ns:List Int} {its:List Value},Vals (ns.map V.int) its->Ats h (ns.map NK.int) its
 |[],_,r=>by cases r;unfold List.map Ats;rfl
 |n::ns,_,r=>by
  cases r with
  |cons e t=>
   obtain⟨tk,rfl⟩:=e;unfold List.map Ats;exact⟨_,_,rfl,by unfold At;exact⟨tk,rfl⟩,Mp t⟩
section
variable{X:Cx}{w5:List (Addr×Obj)}{O:L2.St}{H:Hp}{s:Shared}{Y:Nat->Addr}{k:Nat}
theorem aN(I:Inv X w5 O H s)(i:Is X.kw Y k H (csD c) v)(r:RelV v u):At s.heap (csK c) u:=by
 unfold csD Is at i;obtain⟨p,vs,rfl,h1,h2⟩:=i;cases r;obtain⟨its,rv,⟨o,g1,g2,n,g3⟩,_⟩:=I.tuple h1;unfold Mi.IsL at h2;obtain⟨v1,_,rfl,i1,h2⟩:=h2;unfold Mi.IsL at h2;obtain⟨v2,_,rfl,i2,h2⟩:=h2;unfold Mi.IsL at h2;obtain⟨v3,_,rfl,i3,h2⟩:=h2;unfold Mi.IsL at h2;subst h2;unfold Is at i1 i2 i3;subst i1 i2;obtain⟨p3,vs3,rfl,j1,j2⟩:=i3;have e3:=j2.ints;subst e3;obtain⟨its3,rv3,⟨o3,k1,k2,n3,k3⟩,_⟩:=I.tuple j1;cases rv with
 |cons a1 rv=>
  cases rv with
  |cons a2 rv=>
   cases rv with
   |cons a3 rv=>
    cases rv;obtain⟨t1,rfl⟩:=a1;obtain⟨t2,rfl⟩:=a2;cases a3;unfold csK At;refine⟨p,o,_,n,rfl,g1,g2,g3,?_⟩;unfold Ats;refine⟨_,_,rfl,by unfold At;exact⟨t1,rfl⟩,?_⟩;unfold Ats;refine⟨_,_,rfl,by unfold At;exact⟨t2,rfl⟩,?_⟩;unfold Ats;refine⟨_,_,rfl,?_,by unfold Ats;rfl⟩;unfold At;exact⟨p3,o3,_,n3,rfl,k1,k2,k3,Mp rv3⟩
theorem isC(I:Inv X w5 O H s)(i:Is X.kw Y k H (csD c) (.ref a)):(kind X.prog X.w).is s.heap (csK c) a:=⟨aN I i rfl,TY c⟩
end
noncomputable def FP(l:List (Cs×Addr×V))(us:List Value):List (NK×Addr×Value):=(l.zip us).map λx=>(csK x.1.1,x.1.2.1,x.2)
theorem N3(h:l.length=us.length):(FP l us).map (·.1)=(l.map (·.1)).map csK:=by
 unfold FP;rw[List.map_map,List.map_map];have:(λx:(Cs×Addr×V)×Value=>csK x.1.1)=(λy:Cs×Addr×V=>csK y.1) ∘ Prod.fst:=rfl;show (l.zip us).map (λx=>csK x.1.1)=_;rw[this,←List.map_map,List.map_fst_zip (by omega)];rfl
theorem Pw{ks:List Cs}(h:ks.Nodup):(ks.map csK).Nodup:=by
 refine List.Pairwise.map _ ?_ h;intro a b hne e;exact hne (LK e)
theorem G4(h:l.length=us.length):(atKey (FP l us) (csK c)).isSome=l.any λy=>decide (y.1=c):=by
 have e:(atKey (FP l us) (csK c)).isSome=((FP l us).map (·.1)).any λy=>decide (y=csK c):=by
  unfold atKey;rw[Option.isSome_map,List.any_map];rw[Bool.eq_iff_iff,List.find?_isSome,List.any_eq_true];rfl
 rw[e,N3 h,List.any_map,List.any_map];congr 1
 funext y
 show decide (csK y.1=csK c)=decide (y.1=c);by_cases z:y.1=c
 ·rw[z];simp
 ·rw[AAN z,AAN λq=>z (LK q)]
theorem Fk(hk:HOk P w H h)(e:H p=some (CC p l)):∃(us:List Value) (o:Obj) (es:Array DictEntry) (ep:Nat),Vals (l.map (·.2.2)) us/\h.get? p=some o/\o.ExactDict/\o.data=.dict es ep /\
  es.toList=(l.zip us).map (λx=>{ key:=.ref x.1.2.1,hash:=(csK x.1.1).hash,val:=x.2 })/\(l.map (·.1)).Nodup/\l.length<=sizeLine/\(p==sysModules)=false/\ep=l.length:=(hk p _ e).1
theorem O7 (x:∃(us:List Value) (o:Obj) (es:Array DictEntry) (ep:Nat),Vals (l.map (·.2.2)) us/\h.get? p=some o/\o.ExactDict/\o.data=.dict es ep /\
  es.toList=(l.zip us).map (λx=>{ key:=.ref x.1.2.1,hash:=(csK x.1.1).hash,val:=x.2 })/\(l.map (·.1)).Nodup/\l.length<=sizeLine/\(p==sysModules)=false/\ep=l.length):ObjOk P w H h p (CC p l):=by
 refine⟨x,?_,?_⟩
 ·obtain⟨us,o,es,ep,_,h1,_⟩:=x;exact⟨o,h1⟩
 ·rintro h1 h2 ⟨us,o,es,ep,a1,a2,a3⟩ k;exact⟨us,o,es,ep,a1,k o a2,a3⟩
theorem Mb{P:Program}{w:World}{h:Heap}{us:List Value}{es:Array DictEntry}(hl:l.length=us.length)
  (h4:es.toList=(l.zip us).map (λx=>{ key:=.ref x.1.2.1,hash:=(csK x.1.1).hash,val:=x.2 })) (h5:(l.map (·.1)).Nodup) (hi:∀y∈l,(kind P w).is h (csK y.1) y.2.1):es.toList=(FP l us).map (entryOfKey (kind P w))/\(∀x∈FP l us,(kind P w).is h x.1 x.2.1)/\((FP l us).map (·.1)).Nodup:=by
 refine⟨?_,?_,?_⟩
 ·rw[h4];unfold FP;rw[List.map_map];rfl
 ·intro x hx;unfold FP at hx;obtain⟨y,hy,rfl⟩:=AAL.mp hx;exact hi y.1 (List.of_mem_zip (a:=y.1) (b:=y.2) hy).1
 ·rw[N3 hl];exact Pw h5
end Nk
namespace Mi
open PySem L2 Ht Nk
theorem CVs.keys:∀{l:List (Cs×D)} {r:List (Cs×Addr×V)},CVs K Y k H l r->r.map (·.1)=l.map (·.1)
 |[],_,h=>by cases h;rfl
 |(y,d)::l,_,h=>by
  obtain⟨a,v,r',rfl,_,_,h3⟩:=h;rw[AAW,AAW,CVs.keys h3]
theorem CVs.at:∀{l:List (Cs×D)} {r:List (Cs×Addr×V)},CVs K Y k H l r->∀y∈r,Is K Y k H (csD y.1) (.ref y.2.1)
 |[],_,h,y,hy=>by cases h;cases hy
 |(z,d)::l,_,h,y,hy=>by
  obtain⟨a,v,r',rfl,h1,_,h3⟩:=h;rcases AAI.mp hy with rfl|hy
  ·exact h1
  ·exact CVs.at h3 y hy
theorem CVs.isL:∀{l:List (Cs×D)} {r:List (Cs×Addr×V)},CVs K Y k H l r->IsL K Y k H (l.map λy=>csD y.1) (r.map λy=>.ref y.2.1)
 |[],_,h=>by cases h;exact .nil
 |(z,d)::l,_,h=>by
  obtain⟨a,v,r',rfl,h1,_,h3⟩:=h;exact .cons h1 (CVs.isL h3)
theorem CVs.app(h1:Is K Y k H (csD c) (.ref a))(h2:Is K Y k H d v):∀{l:List (Cs×D)} {r:List (Cs×Addr×V)},CVs K Y k H l r->CVs K Y k H (l++[(c,d)]) (r++[(c,a,v)])
 |[],_,h=>by cases h;exact⟨a,v,[],rfl,h1,h2,rfl⟩
 |(z,e)::l,_,h=>by
  obtain⟨b,w,r',rfl,g1,g2,g3⟩:=h;exact⟨b,w,_,rfl,g1,g2,CVs.app h1 h2 g3⟩
theorem Mq{α β:Type}{l:List (Cs×α)}{r:List (Cs×β)}(h:r.map (·.1)=l.map (·.1))(c:Cs):(r.any λy=>decide (y.1=c))=l.any λy=>decide (y.1=c):=by
 have e1:(r.any λy=>decide (y.1=c))=(r.map (·.1)).any λy=>decide (y=c):=by rw[List.any_map];rfl
 have e2:(l.any λy=>decide (y.1=c))=(l.map (·.1)).any λy=>decide (y=c):=by rw[List.any_map];rfl
 rw[e1,e2,h]
noncomputable def C7:List D->Option (List Int)
 |[]=>some []
 | .int i::r=>(C7 r).map (i::·)
 |_::_=>none
theorem Fh:∀{ds:List D} {ns:List Int},C7 ds=some ns->ds=ns.map D.int
 |[],ns,e=>by cases e;rfl
 | .int i::r,ns,e=>by
  unfold C7 at e;cases h:C7 r with
  |none=>rw[h] at e;cases e
  |some m=>rw[h] at e;cases e;rw[Fh h];rfl
 | .non::_,_,e | .bl _::_,_,e | .str _::_,_,e | .ty _::_,_,e | .scr _::_,_,e | .tup _::_,_,e | .lst _::_,_,e | .ref _::_,_,e=>by cases e
noncomputable def Ha:D->Option Cs
 | .tup [.int a,.int b,.tup ds]=>(C7 ds).map λns=>(a,b,ns)
 |_=>none
theorem F6(e:Ha d=some c):d=csD c:=by
 unfold Ha at e;split at e
 ·rename_i a b ds;cases h:C7 ds with
  |none=>rw[h] at e;cases e
  |some ns=>rw[h] at e;cases e;rw[Fh h];rfl
 ·cases e
noncomputable def G5:D->M (Nat×List (Cs×D))
 | .ref n=>λZ=>match Z[n]? with
  |some (.dC l)=>some ((n,l),Z)
  |_=>none
 |_=>Bb
theorem DA(R:RelH K Y Z H)(i:Is K Y Z.length H d v)(e:G5 d Z=some (r,Z')):Z'=Z/\d=.ref r.1/\Z[r.1]?=some (.dC r.2)/\v=.ref (Y r.1)/\∃kvs,H (Y r.1)=some (CC (Y r.1) kvs)/\CVs K Y Z.length H r.2 kvs:=by
 cases d with
 |ref n=>
  have e:(match Z[n]? with|some (.dC l)=>some ((n,l),Z)|_=>none)=some (r,Z'):=e;split at e
  ·rename_i l hq;cases e;unfold Is at i;obtain⟨u,h1,kvs,rfl,h2⟩:=R.obj n _ hq;exact⟨rfl,rfl,hq,i.2,kvs,h1,h2⟩
  ·cases e
 |_=>cases e
section
variable{X:Cx}{e o i:Expr}{pos pos':Pos}
noncomputable def Of:Sl->M D:=λ_ Z=>some (.ref Z.length,Z++[.dC []])
theorem Rx:PE X (.Dict [] [] pos) (λ_ H Q=>∀p,H p=none->Q (.ref p) (upd H p (CC p []))):=λw5 s O H Q I h=>
 wpAny_Dict_empty ⟨.ref s.heap.objs.size,_,I.laid (a:=s.heap.objs.size) (o:=CC s.heap.objs.size []) (t':=s.toks) (λ_ _ q=>AAC _ q) (AAE _)
  (O7 ⟨[],_,#[],0,.nil,AAD _ rfl,⟨rfl,rfl,rfl⟩,rfl,rfl,List.nodup_nil,AAk _,AAf.mpr (Ne.symm (AAe I.big)),rfl⟩),rfl,h _ (I.hok.fresh (AAE _))⟩
theorem Ij:RE X (.Dict [] [] pos) Of:=RE.wk Rx λO H Q h=>by
 obtain⟨Y,Z,B,d,Z',R,S,e,q⟩:=h;cases e;intro p hp;obtain⟨Y',E1,R1,e0⟩:=R.grown (m:=.dC []) (o:=CC p []) hp ⟨[],rfl,rfl⟩;exact q Y' _ E1 R1 _ (by unfold Is;exact⟨by simp,by rw[e0]⟩)
theorem Ig(hr:Room k X.A):(Nk.kind X.prog X.w).room X.A.in1:=by
 have:=hr.units;show X.A.units+1+8<cLine;omega
theorem Ma{w5:List (Addr×Obj)}{O:St}{H:Hp}{s:Shared}{p:Addr}{l:List (Cs×Addr×V)}(I:Inv X w5 O H s)(h:H p=some (CC p l))(hi:∀y∈l,Is X.kw Y k H (csD y.1) (.ref y.2.1)):
  ∃us,l.length=us.length/\Vals (l.map (·.2.2)) us/\s.heap.DictOfH (Nk.kind X.prog X.w) p (FP l us)/\(l.map (·.1)).Nodup/\l.length<=sizeLine/\(p==sysModules)=false:=by
 obtain⟨us,o,es,ep,h0,h1,h2,h3,h4,h5,h6,h7,h8⟩:=Fk I.hok h;have hl:l.length=us.length:=by have:=h0.length;simpa using this
 exact⟨us,hl,h0,⟨o,es,ep,h1,h2,h3,Mb hl h4 h5 λy hy=>isC I (hi y hy)⟩,h5,h6,h7⟩
noncomputable def QM(neg:Bool)(y d:D):M D:=bnd (G5 d) λr=>λZ=>(Ha y).map λc=>(.bl (if neg then !(r.2.any λz=>decide (z.1=c)) else r.2.any λz=>decide (z.1=c)),Z)
theorem SI{k:Nat}(hr:Room k X.A):OpR X (compareOp .NotIn) (rM X.kw (QM true)):=λw5 s O H x y v u Q I rx ry h=>by
 obtain⟨Y,Z,a,b,d,Z',R,ia,ib,e,q⟩:=h;obtain⟨r,w6,e1,e2⟩:=AF e;obtain⟨hm,_,g1,rfl,kvs,g2,g3⟩:=DA R ib e1;subst hm;cases hc:Ha a with
 |none=>rw[hc] at e2;cases e2
 |some c=>
  rw[hc] at e2;cases e2;cases F6 hc;have ia':=ia;unfold csD Is at ia';obtain⟨pa,_,rfl,_⟩:=ia';cases rx;cases ry;obtain⟨us,hl,_,dd,_,_,lo⟩:=Ma I g2 g3.at;refine PyProof.Rows.wpAny_notIn_heap (Ig hr) (isC I ia) lo dd ?_;rw[G4 hl,Mq g3.keys];exact⟨.bl _,H,I.tok _,rfl,q Y H R.ext0 R _ (ofB _)⟩
noncomputable def Ed(mo mi mv:Sl->M D):Sl->M (Fl×Sl):=λB=>bnd (mv B) λv=>bnd (mo B) λx=>bnd (mi B) λy=>bnd (G5 x) λr=>λZ=>match Ha y with
 |some c=>if r.2.length<sizeLine/\(r.2.any λz=>decide (z.1=c))=false then some ((.next,B),Z.set r.1 (.dC (r.2++[(c,v)]))) else none
 |none=>none
noncomputable def ZL(td ty tv:TE)(K:KW):TS:=λDn O H=>tv O H λv H1=>td O H1 λx H2=>ty O H2 λy H3=>∃p l c a Y k,x=.ref p/\y=.ref a/\H3 p=some (CC p l)/\(∀z∈l,Is K Y k H3 (csD z.1) (.ref z.2.1))/\Is K Y k H3 (csD c) (.ref a)/\l.length<sizeLine/\(l.any λz=>decide (z.1=c))=false/\Dn.nx O (upd H3 p (CC p (l++[(c,a,v)])))
theorem U4{value:Expr}{k0:Nat}(hr:Room k0 X.A)(ho:PE X o td)(hi:PE X i ty)(hv:PE X value tv)(hs:swapsWith value (some (.Subscript o i pos')) pos.line X.env=pure false):
  PS X (.Assign [.Subscript o i pos'] value pos) (ZL td ty tv X.kw):=by
 intro w5 s O H D I h;refine wpAny_Assign_Subscript (thn (hv w5 s O H _ I h) λr s1 ⟨v,H1,I1,rv,q1⟩=>thn (ho w5 s1 O H1 _ I1 q1) λu s2 ⟨x,H2,I2,rx,q2⟩=>thn (hi w5 s2 O H2 _ I2 q2) λiv s3 ⟨y,H3,I3,ry,p,l,c,a,Y,k,ex,ey,e,hl,hc,hz,hn,q3⟩=>?_) hs;subst ex ey;cases rx;cases ry;obtain⟨us,o,es,ep,hvs,h1,h2,h3,h4,nd,_,lo,h8⟩:=Fk I3.hok e;have hlen:l.length=us.length:=by have:=hvs.length;simpa using this
 have hx:(FP l us).length=l.length:=by unfold FP;rw[AAF,List.length_zip];omega
 have no:atKey (FP l us) (csK c)=none:=by
  have:=G4 (c:=c) hlen;rw[hn] at this;cases z:atKey (FP l us) (csK c) with
  |none=>rfl
  |some _=>rw[z] at this;cases this
 obtain⟨p1,p2,p3⟩:=Mb hlen h4 nd λy hy=>isC I3 (hl y hy);refine Nk.put_c (Ig hr) (isC I3 hc) h1 h2 h3 p1 p2 p3 no (by omega) λh' o' d1 d2 d3 sb=>⟨O,_,?_,q3⟩;refine Gs I3 (by rw[e];exact True.intro) sb ⟨o',d1⟩ (O7 ⟨us++[r],o',_,_,?_,d1,d2,d3,?_,?_,?_,lo,?_⟩)
 ·rw[AAX];exact hvs.append (.cons rv .nil)
 ·rw[Array.toList_push,h4,List.zip_append hlen,AAX];rfl
 ·rw[AAX];refine List.nodup_append.mpr ⟨nd,by simp,?_⟩;intro z hz' w hw;have hw':w=c:=by simpa using hw
  intro hzc;obtain⟨t,ht,et⟩:=AAL.mp hz';have et':t.1=c:=et.trans (hzc.trans hw');have:(l.any λz=>decide (z.1=c))=true:=List.any_eq_true.mpr ⟨t,ht,by simp[et']⟩;rw[hn] at this;cases this
 ·rw[AAG];simp;omega
 ·rw[h8,AAG];rfl
theorem Ga{value:Expr}{k:Nat}(hr:Room k X.A)(ho:RE X o mo)(hi:RE X i mi)(hv:RE X value mv)(hs:swapsWith value (some (.Subscript o i pos')) pos.line X.env=pure false:=by rfl):RS X (.Assign [.Subscript o i pos'] value pos) (Ed mo mi mv):=RS.wk (U4 hr ho.pe hi.pe hv.pe hs) λDn O H h=>by
 obtain⟨Y,Z,B,f,B',Z',R,S,e,q⟩:=h;obtain⟨v,w6,e1,ee1⟩:=AF e;obtain⟨x,w9,e2,ee2⟩:=AF ee1;obtain⟨y,x8,e3,ee3⟩:=AF ee2;obtain⟨r,u3,e4,ee4⟩:=AF ee3;refine⟨Y,Z,B,v,w6,R,S,e1,λx4 H1 E1 R1 v1 i1=>⟨x4,w6,B,x,w9,R1,S.ext E1,e2,λx5 H2 E2 R2 v2 i2=>⟨x5,w9,B,y,x8,R2,S.ext (E1.trans E2),e3,λx9 H3 E3 R3 v3 i3=>?_⟩⟩⟩;obtain⟨hm,hx,g1,hv2,kvs,g2,g3⟩:=DA R3 (i2.ext E3) e4;subst hm;have E13:=(E1.trans E2).trans E3;cases hk:Ha y with
 |none=>rw[hk] at ee4;cases ee4
 |some c=>
  rw[hk] at ee4;have ee4:(if r.2.length<sizeLine/\(r.2.any λz=>decide (z.1=c))=false then some ((Fl.next,B),List.set u3 r.1 (MO.dC (r.2++[(c,v)]))) else none)=some ((f,B'),Z'):=ee4;split at ee4
  ·rename_i hl;cases ee4;cases F6 hk;have i3':=i3;unfold csD Is at i3';obtain⟨a,_,rfl,_⟩:=i3';have hlt:r.1<List.length u3:=(AAT.mp g1).1;have hkl:kvs.length=r.2.length:=by have:=congrArg List.length g3.keys;simpa using this
   obtain⟨E4,R4⟩:=R3.changed (m:=.dC (r.2++[(c,v)])) (o:=CC (x9 r.1) (kvs++[(c,a,v1)])) hlt ⟨_,rfl,CVs.app i3 (i1.ext (E2.trans E3)) g3⟩;exact⟨_,kvs,c,a,x9,_,hv2,rfl,g2,g3.at,i3,by omega,by rw[Mq g3.keys];exact hl.2,q x9 _ (E13.trans E4) R4 O (S.ext (E13.trans E4))⟩
  ·cases ee4
theorem Vh{l:List (Cs×Addr×V)}{es:Array DictEntry}(hl:l.length=us.length)(h4:es.toList=(l.zip us).map (λx=>{ key:=.ref x.1.2.1,hash:=(csK x.1.1).hash,val:=x.2 })):es.toList.map (·.key)=l.map λy=>Value.ref y.2.1:=by
 rw[h4,List.map_map];have:((λx:DictEntry=>x.key) ∘ λx:(Cs×Addr×V)×Value=>({ key:=.ref x.1.2.1,hash:=(csK x.1.1).hash,val:=x.2 }:DictEntry))=(λy:Cs×Addr×V=>Value.ref y.2.1) ∘ Prod.fst:=rfl;rw[this,←List.map_map,List.map_fst_zip (by omega)]
theorem Jl:∀l:List (Cs×Addr×V),Vals (l.map λy=>V.ref y.2.1) (l.map λy=>Value.ref y.2.1)
 |[]=>.nil
 |y::r=>.cons rfl (Jl r)
theorem JS(hc:X.calm=true):Bo X (.type "list") (λxs H Q=>∃p l,xs=[.ref p]/\H p=some (CC p l)/\∀q,H q=none->Q (.ref q) (upd H q (.lst (l.map λy=>.ref y.2.1)))):=by
 intro w5 s O H xs us Q I r h;obtain⟨p,l,rfl,hp,q⟩:=h;obtain⟨u,rfl,ru⟩:=DC r;cases ru;obtain⟨us,o,es,ep,h0,h1,h2,h3,h4,h5,h6,h7,h8⟩:=Fk I.hok hp;have hl:l.length=us.length:=by have:=h0.length;simpa using this
 have hsz:es.size=l.length:=by rw[←Array.length_toList,h4,AAF,List.length_zip];omega
 refine PySem.W.kdl_call (RF h7 h2 h3) (I.ok.hd hc) h1 (by omega) λh' tk acc c kp e it=>?_;have ek:=(NZ it).trans (Vh hl h4);refine⟨.ref s.heap.objs.size,_,I.laid (t':=tk) kp (AAE _) (show ObjOk X.prog X.w _ h' _ (.lst (l.map λy=>.ref y.2.1)) from ⟨by simpa using h6,acc.toList,c,?_,by rw[Array.toArray_toList];exact e⟩),rfl,q _ (I.hok.fresh (AAE _))⟩;rw[ek];exact Jl l
noncomputable def NV:List D->M D
 |[d]=>bnd (G5 d) λr=>λZ=>some (.ref Z.length,Z++[.lst (r.2.map λy=>csD y.1)])
 |_=>Bb
theorem Vm(hc:X.calm=true):Bo X (.type "list") (rMA X.kw NV):=λw5 s O H xs us Q I r h=>by
 obtain⟨Y,Z,as,d,Z',R,ia,e,q⟩:=h;unfold NV at e;split at e
 ·obtain⟨rr,w6,e1,e2⟩:=AF e;obtain⟨v,rfl,i1⟩:=Dv ia;obtain⟨hm,_,g1,rfl,kvs,g2,g3⟩:=DA R i1 e1;subst hm;cases e2;refine JS hc w5 s O H _ us Q I r ⟨_,kvs,rfl,g2,λp hp=>?_⟩;obtain⟨Y',E1,R1,e0⟩:=R.grown (m:=.lst (rr.2.map λy=>csD y.1)) hp ⟨_,rfl,g3.isL⟩;exact q Y' _ E1 R1 _ (by unfold Is;exact⟨by simp,by rw[e0]⟩)
 ·cases e
end
section
variable{X:Cx}{e:Expr}
noncomputable def U5:D->List D->M D
 | .ref n,[]=>EC n λds=>(ds[ds.length-1]?).map λd=>(d,ds.dropLast)
 |_,_=>Bb
theorem IsL.dropLast(h:IsL K Y k H ds vs):IsL K Y k H ds.dropLast vs.dropLast:=by
 rw[List.dropLast_eq_take,List.dropLast_eq_take,h.length];exact h.take _
theorem Z0:MtR X "list.pop" (rMM X.kw U5):=λw5 s O H x xs v us Q I rx rs h=>by
 obtain⟨Y,Z,a,as,d,Z',R,ia,ib,e,q⟩:=h;unfold U5 at e;split at e
 ·rename_i n;obtain⟨ds,es,h1,h2,rfl⟩:=EA e;cases hd:ds[ds.length-1]? with
  |none=>rw[hd] at h2;cases h2
  |some d0=>
   rw[hd] at h2;cases h2;unfold IsL at ib;subst ib;unfold Is at ia;obtain⟨_,rfl⟩:=ia;obtain⟨u,g1,vs,rfl,g2⟩:=R.obj n _ h1;obtain⟨w,ew,iw⟩:=g2.get hd;refine YE w5 s O H _ _ v us Q I rx rs ⟨_,vs,w,rfl,rfl,g1,by rw[g2.length];exact ew,?_⟩;exact Fs R h1 g2.dropLast iw q
 ·cases e
noncomputable def MI(m:Sl->M D):Sl->M Bool:=λB=>bnd (m B) λd=>bnd (B4 d) λds=>ret (!ds.isEmpty)
theorem Uo(h:RE X e m)(he:∀whole,isTrue e X.env whole=(do let v ←whole;standAt e.pos;holding [v] (truthy v)):=by intro _;rfl):RT X e (MI m):=RT.wk (Rj h.pe he) λO H Q q=>by
 obtain⟨Y,Z,B,b,Z',R,S,e,q⟩:=q;obtain⟨x,w6,e1,ee1⟩:=AF e;obtain⟨ds,w9,e2,ee2⟩:=AF ee1;cases ee2;refine⟨Y,Z,B,x,w6,R,S,e1,λx4 H1 E1 R1 v1 i1=>?_⟩;obtain⟨hm,p,vs,rfl,g1,g2⟩:=Dk R1 i1 e2;subst hm;have hl:=g2.length;have he:vs.isEmpty=ds.isEmpty:=by
  cases vs<;>cases ds<;>first|rfl|(simp at hl)
 refine⟨!vs.isEmpty,?_,by rw[he];exact q x4 H1 E1 R1⟩;rcases g1 with g1|g1
 ·exact .inl ⟨vs,g1,rfl⟩
 ·exact .inr (.inl ⟨vs,g1,rfl⟩)
end
end Mi
namespace K16
open PySem L2 Mi
noncomputable def d_NONE:D:=.int (-1)
noncomputable def A6:D:=.int (-1)
noncomputable def EL:D:=.int (-2)
noncomputable def CT:D:=.int (-2)
noncomputable def A8  : Sl->M (Fl×Sl):=
  (Az (mOp As (mOp As (EX (AA 0) DI (Cv (AA 1))) (AG Bf (AC (AA 2) AL))) (EX (AA 0) (Cv (mOp As (AA 1) (mC (.int 1)))) DI)))
noncomputable def BU(LE:List D->M D):Sl->M (Fl×Sl):=
  (AS (sIf (AN (mOp Ah (AA 1) (mC (.int 0)))) (Az (AG Bf (AC (mOp AJ (AA 0) (mC (.int 0))) (AC (AA 2) (AC (mOp AJ (AA 0) (mC (.int 2))) AL))))) BP)
  (Az (AG Bf (AC (mOp AJ (AA 0) (mC (.int 0))) (AC (mOp AJ (AA 0) (mC (.int 1))) (AC (AG LE (AC (mOp AJ (AA 0) (mC (.int 2))) (AC (mOp Ef (AA 1) (mC (.int 1))) (AC (mC CT) AL)))) AL))))))
noncomputable def BT(LE:List D->M D):Sl->M (Fl×Sl):=
  (AS (sIf (AN (mOp Ah (AA 1) (mC (.int 0)))) (Az (mIf (AN (mOp Ah (mOp AJ (AA 0) (mC (.int 1))) (mC EL))) (AG Bf (AC (mOp AJ (AA 0) (mC (.int 0))) (AC (mC d_NONE) (AC (mOp AJ (AA 0) (mC (.int 2))) AL)))) (mC .non))) BP)
  (Az (mIf (AN (mOp Ah (mOp AJ (mOp AJ (AA 0) (mC (.int 2))) (mOp Ef (AA 1) (mC (.int 1)))) (AA 2))) (AG Bf (AC (mOp AJ (AA 0) (mC (.int 0))) (AC (mOp AJ (AA 0) (mC (.int 1))) (AC (AG LE (AC (mOp AJ (AA 0) (mC (.int 2))) (AC (mOp Ef (AA 1) (mC (.int 1))) (AC (mC d_NONE) AL)))) AL)))) (mC .non))))
noncomputable def CF(bb:List D->M D):Sl->M (Fl×Sl):=
  (AS (AW Of (AO 1))
  (AS (EO (DO (AA 0)) (AO 2) (Ed (AA 1) (AA 2) (mC .non)))
  (AS (AW (AG NV (AC (AA 1) AL)) (AO 3))
  (AS (FY Ep (MI (AA 3)) (AS (AW (FF U5 (AA 3)) (AO 2))
  (OL 1000 (AG bb (AC (AA 2) AL)) (CA [4,5]) (sIf (AN (mOp (QM true) (AA 5) (AA 1))) (AS (Ed (AA 1) (AA 5) (AG Bf (AC (AA 4) (AC (AA 2) AL))))
  (BI (Aj Cw (AA 3) (AC (AA 5) AL)))) BP))))
  (Az (AA 1))))))
noncomputable def A2(LE:List D->M D):Sl->M (Fl×Sl):=
  (AS (AW (AG DJ AL) (AO 1))
  (AS (sIf (AN (mOp Rh (mOp AJ (AA 0) (mC (.int 1))) (mC (.int 0)))) (BI (Aj Cw (AA 1) (AC (AG Bf (AC (mC (.int 0)) (AC (AG Bf (AC (mOp AJ (AA 0) (mC (.int 1))) (AC (mC EL) (AC (mOp AJ (AA 0) (mC (.int 2))) AL)))) AL))) AL))) BP)
  (AS (EO (SU (AC (mOp AJ (AA 0) (mC (.int 2))) AL)) (CA [2,3]) (sIf (AN (mOp Ah (AA 3) (mC CT))) (BI (Aj Cw (AA 1) (AC (AG Bf (AC (mOp As (AA 2) (mC (.int 1))) (AC (AG Bf (AC (mOp AJ (AA 0) (mC (.int 0))) (AC (mOp AJ (AA 0) (mC (.int 1))) (AC (AG LE (AC (mOp AJ (AA 0) (mC (.int 2))) (AC (AA 2) (AC (mOp AJ (AA 0) (mC (.int 0))) AL)))) AL)))) AL))) AL))) BP))
  (Az (AA 1)))))
noncomputable def BG  : Sl->M (Fl×Sl):=
  (Az (Ce (AG Cg (AC (AA 0) (AC (mC (.ty "int")) AL))) (Ce (Hf (AG Cg (AC (AA 0) (AC (mC (.ty "bool")) AL)))) (Db Gg Gg (AA 1) (AA 0) (AA 2)))))
noncomputable def BY  : Sl->M (Fl×Sl):=
  (Az (Ce (AG Cg (AC (AA 0) (AC (mC (.ty "tuple")) AL))) (Db Gg Gg (AA 1) (AG Bh (AC (AA 0) AL)) (AA 2))))
noncomputable def Bt(OR:List D->M D):Sl->M (Fl×Sl):=
  (AS (sIf (Du (AN (AG Cg (AC (AA 1) (AC (mC (.ty "list")) AL))))) ED BP)
  (AS (AW (Cd 1 [] (DO (mOp AJ (AA 0) (mC (.int 4)))) (AO 0) En (mOp AJ (AA 0) (mC (.int 0))) Bn) (AO 2))
  (AS (AW NP (AO 3))
  (AS (AW (AG DJ AL) (AO 4))
  (AS (AW (mC (.int 0)) (AO 5))
  (AS (EO (ET (AC (AA 1) AL)) (CA [6,7]) (AS (sIf (Du (AN (AG OR (AC (AA 7) (AC (AA 2) (AC (mOp AJ (AA 0) (mC (.int 1))) AL)))))) ED BP)
  (AS (AW (Aj JC (AA 2) (AC (mOp AJ (AA 7) (mC (.int 1))) AL)) (AO 8))
  (AS (sIf (AN (mOp Ah (mOp Ah (mOp AJ (AA 7) (mC (.int 0))) (mC (.str "begin"))) (mOp (Ji false) (AA 8) (AA 3)))) ED BP)
  (AS (sIf (AN (mOp Ah (mOp AJ (AA 7) (mC (.int 0))) (mC (.str "begin")))) (AS (ER (AA 3) (AA 8) (AA 5))
  (AW (mOp Ku (AA 5) (mC (.int 1))) (AO 5))) BP)
  (AS (BI (Aj Cw (AA 4) (AC (AG Bf (AC (mOp AJ (AA 7) (mC (.int 0))) (AC (AA 8) (AC (mIf (AN (mOp Ah (AG Bh (AC (AA 7) AL)) (mC (.int 3)))) (mOp AJ (AA 7) (mC (.int 2))) (mC A6)) (AC (mOp D3 (AA 3) (AA 8)) AL))))) AL)))
  (sIf (AN (mOp Ah (mOp AJ (AA 7) (mC (.int 0))) (mC (.str "end")))) (BI (Jz (AA 3) (AA 8))) BP)))))))
  (Az (AA 4))))))))
noncomputable def BZ(Mk:List D->M D)(LT:List D->M D):Sl->M (Fl×Sl):=
  (AS (sIf (mOr (Du (AN (AG Mk (AC (AA 0) (AC (mC (.int 2)) (AC (mC (.int 3)) AL)))))) (mOr (AN (mOp (FR true) (mOp AJ (AA 0) (mC (.int 0))) (AG Bf (AC (mC (.str "begin")) (AC (mC (.str "end")) AL))))) (AN (mOp (FR true) (mOp AJ (AA 0) (mC (.int 1))) (AA 1))))) (Az (mC (.bl false))) BP)
  (AS (sIf (AN (mOp Ah (mOp Ah (mOp AJ (AA 0) (mC (.int 0))) (mC (.str "begin"))) (mOp Ah (mOp AJ (AA 0) (mC (.int 1))) (mOp AJ (AA 1) (mC (.int 0)))))) (Az (Ce (mOp Ah (AG Bh (AC (AA 0) AL)) (mC (.int 3))) (AG LT (AC (mOp AJ (AA 0) (mC (.int 2))) (AC (mC (.int 0)) (AC (mOp Ef (AA 2) (mC (.int 1))) AL)))))) BP)
  (Az (mOp Ah (AG Bh (AC (AA 0) AL)) (mC (.int 2))))))
noncomputable def Ba  : Sl->M (Fl×Sl):=
  (AS (AW (AG DJ AL) (AO 2))
  (AS (AW (mOp Bm (AA 0) (mC (.int 2))) (AO 3))
  (AS (FY Ep (Co (AN (mOp Ah (mOp BS (AA 0) (mC (.int 2))) (mC (.int 0)))) (Co (AN (mOp L6 (AA 3) (mC (.int 0)))) (AN (mOp EF (AG Bh (AC (AA 2) AL)) (AA 1))))) (AS (BI (Aj Cw (AA 2) (AC (mOp BS (AA 3) (mOp FN (mC (.int 10)) (mC (.int 9)))) AL)))
  (AW (mOp Bm (AA 3) (mOp FN (mC (.int 10)) (mC (.int 9)))) (AO 3))))
  (AS (AW (mOp BS (mOp Eg (mOp As (mOp Bm (AA 0) (mC (.int 2))) (mC (.int 7919))) (mC (.int 48271))) (mC (.int 2147483647))) (AO 3))
  (AS (EO (Jy (AC (AA 1) AL)) (AO 4) (AS (AW (mOp BS (mOp Eg (AA 3) (mOp As (mOp As (mOp Bm (AA 3) (mC (.int 1009))) (mC (.int 69621))) (AA 4))) (mC (.int 2147483647))) (AO 3))
  (AS (BI (Aj Cw (AA 2) (AC (mOp BS (mOp Eg (AA 3) (mOp As (mOp Bm (AA 3) (mC (.int 127))) (mC (.int 40009)))) (mC (.int 2147483629))) AL)))
  (AW (mOp As (AA 3) (mC (.int 1))) (AO 3)))))
  (Az (EX (AA 2) DI (Cv (AA 1)))))))))
noncomputable def Ax:List D->M D:=Ay .drop 5 2 (Ba)
noncomputable def BD:List D->M D:=Ay .drop 3 3 (BY)
noncomputable def Ae:List D->M D:=Ay .drop 3 3 (BG)
noncomputable def A5:List D->M D:=Ay .drop 3 3 (BZ BD Ae)
noncomputable def Ai:List D->M D:=Ay .frz 9 2 (Bt A5)
noncomputable def Ad:List D->M D:=Ay .drop 3 3 (A8)
noncomputable def Ap:List D->M D:=Ay .drop 3 3 (BU Ad)
noncomputable def An:List D->M D:=Ay .all 4 1 (A2 Ad)
noncomputable def BK:List D->M D:=Ay .all 6 1 (CF An)
noncomputable def Ao:List D->M D:=Ay .drop 3 3 (BT Ad)
end K16
namespace L2
open PySem PySem.Spec PyProof.Rows
section
variable{X:Cx}{scope:Scope}{tgs:List Str}{ix:List Nat}
theorem L7(co:Option Expr)(hN:X.N.Nodup)(hiN:X.N[i]?=some y)(hy:X.env.scope.names.lookup y=some .local)
  (S:BScope X scope tgs ix) (hc:X.calm=true) (hi:PI X tg iter wi) (hg:∀fp C s H,PG (cxB X scope tgs fp C s H) tg g) (hgk:GK tgs.length g)
  (hif:∀fp C s H,QZ (cxB X scope tgs fp C s H) co tc) (he:∀fp C s H,PE (cxB X scope tgs fp C s H) elt te)
  (hsw:swapsWith (.ListComp elt [⟨tg,iter,co.toList,0⟩] scope pos) (some (.Name y py)) spos.line X.env=pure true:=by rfl) (hs:∀x,foldedSetIterable iter X.env x=pure x:=by intro _;rfl) :
  PS X (.Assign [.Name y py] (.ListComp elt [⟨tg,iter,co.toList,0⟩] scope pos) spos) (Ug (RB tgs ix wi g tc te) (Hi i)):=by
 intro w5 s O H D0 I h;rw[exec_Assign_Name_used _ _ _ _ hsw];refine AAA (wpAny_standAt (AAA ?_));show wpAny _ X.A (do let _ ←comprehension (.ListComp elt [⟨tg,iter,co.toList,0⟩] scope pos) scope X.env _ (newList []) false (eval iter X.env) (some (assign (.Name y py) X.env))) _ _ s;refine AAA (AAj (wpAny_comprehension_free (use:=some (assign (.Name y py) X.env)) (Q:=λ_ s'=>SP X w5 D0 .next s') rfl hs (Ew (S.cells I.ok)) S.kind S.loc ?_) (λ_ s' hq=>AAB (AAB hq)) λ_ _ e=>e);refine thn (hi w5 s O H _ I h) λv s1 h1=>thn h1 λitv s2 h2=>?_;obtain⟨it,fp,tn,J,H2,e,I2,T,t0,f2,W,w0,turn⟩:=h2;subst e;refine Hl (Q:=λx H1=>Hi i x O H1 D0.nx) (RR:=λacc C=>compPost (model X.prog X.w) X.A X.xe (some (assign (.Name y py) X.env)) (λ_ s'=>SP X w5 D0 .next s') acc C) S hc hg hgk hif he I2 T t0 f2 W w0 turn ?_;intro D C s' H' m J1 q hn fC;obtain⟨f0,f1,f2,f3,f4,f5⟩:=fC;show wpAny _ X.A (assign (.Name y py) X.env (.ref D)) _ _ _;refine wpAny_assign_Name (Jo (v:=.ref D) J1 hN hiN (.inl hy) rfl (λs'' I'' hsb=>?_) (.inr hy));obtain⟨a,sb,ha⟩:=hsb;have hCa:C≠a:=by
  rcases ha with z|z
  ·rw[z];exact f1
  ·exact Ne.symm (f4 y a z)
 exact⟨m,hn.sameBut sb hCa,λh' sb'=>⟨_,H',I''.turned (t':=s''.toks) (λb o hb e=>(sb'.2 b hb).trans e) f0 f1 f3 f4 f5,q⟩⟩
end
end L2
namespace Mi
open PySem L2
section
variable{X:Cx}{K:KW}{scope:Scope}{tgs:List Str}{ix:List Nat}{elt tg iter:Expr}{pos:Pos}{bf:D->Sl->M Sl}{g:TG}{src:Sl->M (List D)}{mc:Sl->M Bool}{me:Sl->M D}{fin:List D->M D}{n:Nat}
structure Tg(n:Nat)(K:KW)(bf:D->Sl->M Sl)(g:TG):Prop where
 gk:GK n g
 gb:∀v O H Q,tG K bf v O H Q->g v O H Q
 mu:∀d B B' Z Z',bf d B Z=some (B',Z')->Z'=Z
theorem E7(h:i<n:=by decide):Tg n K (AO i) (Hi i):=⟨VW h,λ_ _ _ _ h=>Kl h,λd B B' Z Z' e=>by cases e;rfl⟩
theorem Kj(h:∀i∈is,i<n:=by decide):Tg n K (CA is) (VX K is.length (Fi is)):=⟨YW h,λ_ _ _ _ h=>XO h,Vn⟩
def KZ(K:KW)(fin:List D->M D):Prop:=∀Y Z Z' H ds vs d (Q:VK),RelH K Y Z H->IsL K Y Z.length H ds vs->fin ds Z=some (d,Z')->(Aft K Y Z H Z' λY' H'=>∀v,Is K Y' Z'.length H' d v->Q v H')->
 vs.length<=sizeLine/\∀p,H p=none->Q (.ref p) (upd H p (.lst vs))
theorem JH:KZ K Bn:=λ_ _ _ _ _ _ _ _ R i e q=>Hy R i e q
def ItX(C:Mh->Mh->Prop)(K:KW)(J:It)(ds:List D)(Y:Nat->Addr)(Z:Mh)(H:Hp):Prop:=∀Y' (Z':Mh) H',C Z Z'->Ext Y Z.length H Y' Z'.length H'->RelH K Y' Z' H'->
 (∀i,i<ds.length->J.go i H')/\J.stop ds.length H'/\∀(i:Nat) x H2 d,ds[i]?=some d->J.yld i H' x H2->Ext Y' Z'.length H' Y' Z'.length H2/\RelH K Y' Z' H2/\Is K Y' Z'.length H2 d x
noncomputable def tIX(C:Mh->Mh->Prop)(K:KW)(m:Sl->M (List D)):TI:=λO H R=>∃Y Z B ds Z',RelH K Y Z H/\RelS K Y Z.length H B O/\m B Z=some (ds,Z') /\
 Aft K Y Z H Z' λY' H'=>∀J,ItX C K J ds Y' Z' H'->R J H'
theorem Zf(h:RI X tg iter src):PI X tg iter (tIX (λ_ _=>True) X.kw src):=PI.wk h.pe λO H R q=>by
 obtain⟨Y,Z,B,ds,Z',R0,S,e,q⟩:=q;exact⟨Y,Z,B,ds,Z',R0,S,e,λx4 H1 E1 R1 J it=>q x4 H1 E1 R1 J λx5 w9 H2 _ E2 R2=>it x5 w9 H2 E2 R2⟩
theorem V3(rf:∀a,C a a)(tr:∀a b c,C a b->C b c->C a c)(T:Tg tgs.length K bf g)(pc:∀B Z b Z',mc B Z=some (b,Z')->C Z Z')(pm:∀B Z b Z',me B Z=some (b,Z')->C Z Z')(hn:tgs.length=n)(hf:KZ K fin)
  (h:tE K (Cd n ix src bf mc me fin) O H Q):RB tgs ix (tIX C K src) g (tT K mc) (tE K me) O H Q:=by
 subst hn;obtain⟨Y,Z,B,d,Z',R,S,e,q⟩:=h;obtain⟨ds,w6,e1,e5⟩:=AF e;obtain⟨u,w9,e2,e6⟩:=AF e5;obtain⟨zs,x8,e3,e7⟩:=AF e6;obtain⟨hl,e4⟩:=Eo e2;clear e e5 e6;subst e4;refine⟨Y,Z,B,ds,_,R,S,e1,λx4 H1 E1 R1 J it=>?_⟩
 let W:Nat->List V->Hp->Prop:=λi' ys H=>ys.length<=i'/\∃(Y:Nat->Addr) (Z:Mh) (as:List D),RelH K Y Z H/\RelS K Y Z.length H B O/\ItX C K J ds Y Z H/\IsL K Y Z.length H as ys/\EZ bf mc me (Dl tgs.length ix B) (ds.drop i') as Z=some (zs,x8) /\
  Aft K Y Z H Z' λY' H'=>∀v,Is K Y' Z'.length H' d v->Q v H'
 refine⟨λi' m ys H=>m=ds.length-i'/\i'<=ds.length/\W i' ys H,⟨ds.length,by simp,AAk _,AAE _,x4,_,[],R1,S.ext E1,it,.nil,e3,λx5 H2 E2 R2=>q x5 H2 (E1.trans E2) R2⟩,?_⟩;rintro i' m ys H ⟨hm,hil,hyl,Y,Z,as,R,S,it,ia,e3,q⟩;obtain⟨go,stop,yl⟩:=it Y Z H (rf _) R.ext0 R;by_cases hlt:i'<ds.length
 ·refine .inr ⟨go i' hlt,by omega,W (i'+1),λys' H' z=>⟨_,(by omega:ds.length-(i'+1)<m),rfl,hlt,z⟩,λx H2 y=>?_⟩;obtain⟨E2,R2,ix2⟩:=yl i' x H2 _ (AAu hlt) y;rw[List.drop_eq_getElem_cons hlt] at e3;obtain⟨x3,w6,e1,e5⟩:=AF e3;obtain⟨cc,w9,e2,e6⟩:=AF e5;cases T.mu _ _ _ _ _ e1;have c2:=pc _ _ _ _ e2;have S2:=(S.ext E2).block (tgs:=tgs) (ix:=ix);refine T.gb _ _ _ _ ⟨Y,_,_,_,x3,_,R2,S2,ix2,e1,λj3 H0 E0 R0 σ0 S0=>⟨j3,_,_,cc,w9,R0,S0,e2,λx9 H3 E3 R3=>?_⟩⟩;have E13:=(E2.trans E0).trans E3;have ex:∀{u4 u3 H4},C Z u3->Ext Y Z.length H u4 u3.length H4->ItX C K J ds u4 u3 H4:=λc E u7 j0 H5 c5 E5 R5=>it u7 j0 H5 (tr _ _ _ c c5) (E.trans E5) R5;cases cc with
  |false=>exact⟨by omega,x9,w9,as,R3,S.ext E13,ex c2 E13,ia.ext E13,e6,λu7 H5 E5 R5=>q u7 H5 (E13.trans E5) R5⟩
  |true=>
   obtain⟨y',u3,e4,e8⟩:=AF e6;refine⟨x9,w9,_,y',u3,R3,S0.ext E3,e4,λu4 H4 E4 R4 v iv=>?_⟩;have E14:=E13.trans E4;exact⟨by simp;omega,u4,u3,as++[y'],R4,S.ext E14,ex (tr _ _ _ c2 (pm _ _ _ _ e4)) E14,(ia.ext E14).append (.one iv),e8,λu7 H5 E5 R5=>q u7 H5 (E14.trans E5) R5⟩
 ·have hi':i'=ds.length:=by omega
  subst hi';rw[List.drop_length] at e3;cases e3;obtain⟨z1,z2⟩:=hf Y _ Z' H _ ys d Q R ia e7 q;exact .inl ⟨stop,z1,z2⟩
structure Cp(X:Cx)(scope:Scope)(tgs:List Str)(ix:List Nat)(tg elt:Expr)(co:Option Expr)(bf:D->Sl->M Sl)(mc:Sl->M Bool)(me:Sl->M D):Prop where
 S:BScope X scope tgs ix
 hc:X.calm=true
 T:∃g,Tg tgs.length X.kw bf g/\∀fp C s H,PG (cxB X scope tgs fp C s H) tg g
 t:∀fp C s H,QZ (cxB X scope tgs fp C s H) co (tT X.kw mc)
 e:∀fp C s H,RE (cxB X scope tgs fp C s H) elt me
theorem ZV(rf:∀a,C a a)(tr:∀a b c,C a b->C b c->C a c)(pc:∀B Z b Z',mc B Z=some (b,Z')->C Z Z')(pm:∀B Z b Z',me B Z=some (b,Z')->C Z Z')(c:Cp X scope tgs ix tg elt co bf mc me)(hi:PI X tg iter (tIX C X.kw src))(hf:KZ X.kw fin)(hn:tgs.length=n)(hs:∀x,foldedSetIterable iter X.env x=pure x):RE X (.ListComp elt [⟨tg,iter,co.toList,0⟩] scope pos) (Cd n ix src bf mc me fin):=by
 obtain⟨g,T,hg⟩:=c.T;exact RE.wk (Rz co (te:=tE X.kw me) c.S c.hc hi hg T.gk c.t (λfp C s H=>(c.e fp C s H).pe) hs) λ_ _ _ h=>V3 rf tr T pc pm hn hf h
theorem ZU(rf:∀a,C a a)(tr:∀a b c,C a b->C b c->C a c)(pc:∀B Z b Z',mc B Z=some (b,Z')->C Z Z')(pm:∀B Z b Z',me B Z=some (b,Z')->C Z Z')(c:Cp X scope tgs ix tg elt co bf mc me)(hi:PI X tg iter (tIX C X.kw src))(hf:KZ X.kw fin)(hN:X.N.Nodup)(hiN:X.N[k]?=some y)(hy:X.env.scope.names.lookup y=some .local)(hn:tgs.length=n)
  (hsw:swapsWith (.ListComp elt [⟨tg,iter,co.toList,0⟩] scope pos) (some (.Name y py)) spos.line X.env=pure true) (hs:∀x,foldedSetIterable iter X.env x=pure x):RS X (.Assign [.Name y py] (.ListComp elt [⟨tg,iter,co.toList,0⟩] scope pos) spos) (AW (Cd n ix src bf mc me fin) (AO k)):=by
 obtain⟨g,T,hg⟩:=c.T;refine RS.wk (L7 co (te:=tE X.kw me) hN hiN hy c.S c.hc hi hg T.gk c.t (λfp C s H=>(c.e fp C s H).pe) hsw hs) λDn O H h=>?_;obtain⟨Y,Z,B,f,B',Z',R,S,e,q⟩:=h;obtain⟨x,w6,e1,e⟩:=AF e;obtain⟨x3,w9,e2,e⟩:=AF e;cases e2;cases e;exact V3 rf tr T pc pm hn hf ⟨Y,Z,B,x,_,R,S,e1,λx4 H1 E1 R1 v i1=>q x4 H1 E1 R1 _ ((S.ext E1).set k i1)⟩
theorem L4(c:Cp X scope tgs ix tg elt co bf mc me)(hi:RI X tg iter src)(hf:KZ X.kw fin)(hn:tgs.length=n:=by rfl)(hs:∀x,foldedSetIterable iter X.env x=pure x:=by intro _;rfl):RE X (.ListComp elt [⟨tg,iter,co.toList,0⟩] scope pos) (Cd n ix src bf mc me fin):=
 ZV (λ_=>trivial) (λ_ _ _ _ _=>trivial) (λ_ _ _ _ _=>trivial) (λ_ _ _ _ _=>trivial) c (Zf hi) hf hn hs
theorem Xb(c:Cp X scope tgs ix tg elt co bf mc me)(hi:RI X tg iter src)(hf:KZ X.kw fin)(hN:X.N.Nodup)(hiN:X.N[k]?=some y:=by rfl)(hy:X.env.scope.names.lookup y=some .local:=by rfl)(hn:tgs.length=n:=by rfl)
  (hsw:swapsWith (.ListComp elt [⟨tg,iter,co.toList,0⟩] scope pos) (some (.Name y py)) spos.line X.env=pure true:=by rfl) (hs:∀x,foldedSetIterable iter X.env x=pure x:=by intro _;rfl):RS X (.Assign [.Name y py] (.ListComp elt [⟨tg,iter,co.toList,0⟩] scope pos) spos) (AW (Cd n ix src bf mc me fin) (AO k)):=
 ZU (λ_=>trivial) (λ_ _ _ _ _=>trivial) (λ_ _ _ _ _=>trivial) (λ_ _ _ _ _=>trivial) c (Zf hi) hf hN hiN hy hn hsw hs
end
mutual
def clB(k:Nat):D->Bool
 | .tup ds=>Gx k ds
 | .lst ds=>Gx k ds
 | .ref n=>Nat.blt n k
 |_=>true
def Gx(k:Nat):List D->Bool
 |[]=>true
 |d::ds=>match clB k d with
  |true=>Gx k ds
  |false=>false
end
noncomputable def aK(k:Nat):MO->Bool
 | .lst ds=>Gx k ds
 | .dK l=>Gx k (l.map (·.2))
 | .dC l=>Gx k (l.map (·.2))
 | .ins _ l=>Gx k (l.map (·.2))
 | .dP l=>Gx k (l.map (·.1))&&Gx k (l.map (·.2))
 | .exc _ _=>true
mutual
theorem Ta:∀{d:D},clB k d=true->Cl k d
 | .tup ds,h=>by unfold clB at h;unfold Cl;exact Dq h
 | .lst ds,h=>by unfold clB at h;unfold Cl;exact Dq h
 | .ref n,h=>by unfold clB at h;unfold Cl;exact Nat.blt_eq.mp h
 | .non,_ | .bl _,_ | .int _,_ | .str _,_ | .ty _,_ | .scr _,_=>by unfold Cl;trivial
theorem Dq:∀{ds:List D},Gx k ds=true->ClL k ds
 |[],_=>by unfold ClL;trivial
 |d::ds,h=>by
  unfold Gx at h;unfold ClL;cases e:clB k d with
  |true=>rw[e] at h;exact⟨Ta e,Dq h⟩
  |false=>rw[e] at h;cases h
end
theorem Vi(h:aK k o=true):ClO k o:=by
 cases o with
 |lst ds=>exact Dq h
 |dK l=>exact Dq h
 |dC l=>exact Dq h
 |ins _ l=>exact Dq h
 |dP l=>
  have h:(Gx k (l.map (·.1))&&Gx k (l.map (·.2)))=true:=h;rw[Bool.and_eq_true] at h;exact⟨Dq h.1,Dq h.2⟩
 |exc c n=>exact trivial
noncomputable def GJ(k:Nat):Nat->Mh->Option Mh
 |0,_=>some []
 |_+1,[]=>none
 |n+1,o::Z=>match aK k o with
  |true=>match GJ k n Z with
   |some r=>some (o::r)
   |none=>none
  |false=>none
theorem HU:∀{n:Nat} {Z r:Mh},GJ k n Z=some r->(∃g,Z=r++g)/\List.length r=n/\∀o∈r,ClO k o
 |0,Z,r,h=>by cases h;exact⟨⟨Z,rfl⟩,rfl,λo ho=>by cases ho⟩
 |_+1,[],r,h=>by cases h
 |n+1,o::Z,r,h=>by
  unfold GJ at h;split at h
  ·rename_i hc;split at h
   ·rename_i r' hr;cases h;obtain⟨⟨g,rfl⟩,h2,h3⟩:=HU hr;refine⟨⟨g,rfl⟩,by rw[AAH,h2],λp hp=>?_⟩;rcases AAI.mp hp with rfl|hp
    ·exact Vi hc
    ·exact h3 p hp
   ·cases h
  ·cases h
noncomputable def X1(Z:Mh)(hw:How)(d:D)(w9:Mh):Option (D×Mh):=match hw with
 | .all=>some (d,w9)
 | .drop=>match clB (List.length Z) d with
  |true=>match GJ (List.length Z) (List.length Z) w9 with
   |some r=>some (d,r)
   |none=>none
  |false=>none
 | .frz=>match d with
  | .ref n=>match Nat.ble (List.length Z) n with
   |true=>match w9[n]? with
    |some (.lst ds)=>match Gx (List.length Z) ds with
     |true=>match GJ (List.length Z) (List.length Z) w9 with
      |some r=>some (.lst ds,r)
      |none=>none
     |false=>none
    |_=>none
   |false=>none
  |d=>match clB (List.length Z) d with
   |true=>match GJ (List.length Z) (List.length Z) w9 with
    |some r=>some (d,r)
    |none=>none
   |false=>none
theorem VE(h:X1 Z hw d' w9=some (d,Z')):(Z'=w9/\d=d')∨E6 Z w9 Z' d' d:=by
 have dr:∀{d' d:D} {Z':Mh},(match clB (List.length Z) d' with|true=>(match GJ (List.length Z) (List.length Z) w9 with|some r=>some (d',r)|none=>none)|false=>none)=some (d,Z')->E6 Z w9 Z' d' d:=by
  intro d' d Z' h;split at h
  ·rename_i hc;split at h
   ·rename_i r hr;cases h;obtain⟨g,hl,ho⟩:=HU hr;exact⟨g,by rw[hl];exact AAE _,λn o e=>.inr (by rw[hl];exact ho o (AAU e)),.inl ⟨rfl,by rw[hl];exact Ta hc⟩⟩
   ·cases h
  ·cases h
 unfold X1 at h;split at h
 ·cases h;exact .inl ⟨rfl,rfl⟩
 ·exact .inr (dr h)
 ·split at h
  ·split at h
   ·rename_i n hn;split at h
    ·rename_i ds hq;split at h
     ·rename_i hc;split at h
      ·rename_i r hr;cases h;obtain⟨g,hl,ho⟩:=HU hr;exact .inr ⟨g,by rw[hl];exact AAE _,λn o e=>.inr (by rw[hl];exact ho o (AAU e)),.inr ⟨_,ds,rfl,hq,by rw[hl];exact Nat.le_of_ble_eq_true hn,rfl,by rw[hl];exact Dq hc⟩⟩
      ·cases h
     ·cases h
    ·cases h
   ·cases h
  ·exact .inr (dr h)
noncomputable def WI:Fl->Bool
 | .next=>true
 | .rt _=>true
 |_=>false
theorem Sj(h:WI f=true):f=.next∨∃d,f=.rt d:=by
 cases f with
 |next=>exact .inl rfl
 |rt d=>exact .inr ⟨d,rfl⟩
 |_=>cases h
noncomputable def G1(hw:How)(n ps:Nat)(mb:Sl->M (Fl×Sl)):List D->M D:=λds Z=>match Nat.beq (List.length ds) ps with
 |true=>match mb (BR n ds) Z with
  |some ((fl,_),w9)=>match WI fl with
   |true=>X1 Z hw (D5 fl) w9
   |false=>none
  |none=>none
 |false=>none
theorem JT(h:G1 hw n ps mb ds Z=some (d,Z')):
  ds.length=ps/\∃fl x6 w9,mb (BR n ds) Z=some ((fl,x6),w9)/\(fl=.next∨∃d,fl=.rt d)/\((Z'=w9/\d=D5 fl)∨E6 Z w9 Z' (D5 fl) d):=by
 unfold G1 at h;split at h
 ·rename_i hl;split at h
  ·rename_i fl x6 w9 e;split at h
   ·rename_i hf;exact⟨Nat.eq_of_beq_eq_true hl,fl,x6,w9,e,Sj hf,VE h⟩
   ·cases h
  ·cases h
 ·cases h
section
variable{P:Program}{w:World}{K:PySem.W.Frag}{mg:Str->Option Value}{base:Heap}
theorem QF(hw:How)(F:Fun K x qual st f fd)(S:Af N ps (AQ st))
  (body:∀(cdv:Value) (A:Around) (outer:List Env) (s:Shared) (H:Hp) (E:XK),Room k (A.deeper (PyProof.Rows.envOfC qual (AQ st) s.heap.objs.size f cdv))->RSs (Gu CX0 P w K mg base N qual (AQ st) f cdv A outer s H E).nox (Ch st) mb) :
  FnOk P w K mg base CX0 (k+1) f fd ps (spM ⟨K,w⟩ ps.length (G1 hw N.length ps.length mb)):=by
 refine F.ok S (λvs H Q E h=>h.1) (λcdv A outer s H vs Q E hr h=>⟨_,(body cdv A outer s H E hr).pe,?_⟩);obtain⟨hl,Y,Z,ds,d,Z',R,i,e,q⟩:=h;obtain⟨_,fl,x6,w9,e2,hfl,t⟩:=JT e;refine⟨Y,Z,_,fl,x6,w9,R,RelS.start i,e2,λx5 H2 E2 R2 u6 S2=>?_⟩;have z:Ext Y Z.length H x5 Z'.length H2/\RelH ⟨K,w⟩ x5 Z' H2/\∀v,Is ⟨K,w⟩ x5 w9.length H2 (D5 fl) v->Is ⟨K,w⟩ x5 Z'.length H2 d v:=by
  rcases t with ⟨rfl,rfl⟩|t
  ·exact⟨E2,R2,λv iv=>iv⟩
  ·exact FS R E2 R2 t
 obtain⟨E3,R3,c⟩:=z;rcases hfl with rfl|⟨d0,rfl⟩
 ·exact q x5 H2 E3 R3 _ (c _ (by unfold D5 Is;rfl))
 ·exact λv iv=>q x5 H2 E3 R3 v (c v iv)
theorem JJ(hw:How)(F:Fun K x qual st f fd)(S:Af N ps (AQ st))(hm:mg x=some (.ref f))(hb:Binds K fd ps [])
  (body:∀(cdv:Value) (A:Around) (outer:List Env) (s:Shared) (H:Hp) (E:XK),Room k (A.deeper (PyProof.Rows.envOfC qual (AQ st) s.heap.objs.size f cdv))->RSs (Gu CX0 P w K mg base N qual (AQ st) f cdv A outer s H E).nox (Ch st) mb) :
  Fn P w K mg base x ps (k+1) (G1 hw N.length ps.length mb):=⟨λds Z r h=>(JT (d:=r.1) (Z':=r.2) h).1,f,fd,QF hw F S body,hm,F.kp,hb⟩
end
noncomputable def CO(w9:Mh)(k:Nat):Nat->D->D
 |0,d=>d
 |n+1,.ref j=>match Nat.ble k j with
  |true=>match w9[j]? with
   |some (.lst ds)=>.lst (ds.map (CO w9 k n))
   |_=>.ref j
  |false=>.ref j
 |n+1,.tup ds=>.tup (ds.map (CO w9 k n))
 |n+1,.lst ds=>.lst (ds.map (CO w9 k n))
 |_+1,d=>d
theorem IC(h:∀d v,Is K Y k H d v->Cl k' (f d)->Is K Y k' H (f d) v):∀{ds:List D} {vs:List V},IsL K Y k H ds vs->ClL k' (ds.map f)->IsL K Y k' H (ds.map f) vs
 |[],_,i,_=>by unfold IsL at i;subst i;unfold List.map IsL;rfl
 |d::ds,_,i,c=>by
  unfold IsL at i;obtain⟨v,vs',rfl,i1,i2⟩:=i;rw[AAW] at c ⊢;unfold ClL at c;unfold IsL;exact⟨v,vs',rfl,h d v i1 c.1,IC h i2 c.2⟩
theorem JF(hk:k<=w9.length)(R:RelH K Y w9 H):∀(n:Nat) (d:D) (v:V),Is K Y w9.length H d v->Cl k (CO w9 k n d)->Is K Y k H (CO w9 k n d) v
 |0,d,v,i,c=>i.down hk c
 |n+1,.tup ds,v,i,c=>by
  unfold CO at c ⊢;unfold Is at i ⊢;unfold Cl at c;obtain⟨p,vs,e,q,il⟩:=i;exact⟨p,vs,e,q,IC (JF hk R n) il c⟩
 |n+1,.lst ds,v,i,c=>by
  unfold CO at c ⊢;unfold Is at i ⊢;unfold Cl at c;obtain⟨p,vs,e,q,nf,il⟩:=i;exact⟨p,vs,e,q,λm hm=>nf m (AAM hm hk),IC (JF hk R n) il c⟩
 |n+1,.ref j,v,i,c=>by
  unfold CO at c ⊢;split
  ·rename_i hj;rw[hj] at c;have hj:=Nat.le_of_ble_eq_true hj;dsimp only at c;split
   ·rename_i ds e;rw[e] at c;obtain⟨u,q,vs,rfl,il⟩:=R.obj j _ e;have hn2:j<w9.length:=(AAT.mp e).1;unfold Is at i ⊢;dsimp only at c;unfold Cl at c;refine⟨Y j,vs,i.2,q,λm hm z=>?_,IC (JF hk R n) il c⟩;have:=R.inj m j (AAM hm hk) hn2 z;omega
   ·rename_i hne;have c:Cl k (.ref j):=by
     revert c
     split
     ·rename_i ds e;exact absurd e (hne ds)
     ·exact id
    exact i.down hk c
  ·rename_i hj;rw[hj] at c;exact i.down hk c
 |n+1,.non,v,i,c=>by unfold CO at c ⊢;exact i.down hk c
 |n+1,.bl _,v,i,c=>by unfold CO at c ⊢;exact i.down hk c
 |n+1,.int _,v,i,c=>by unfold CO at c ⊢;exact i.down hk c
 |n+1,.str _,v,i,c=>by unfold CO at c ⊢;exact i.down hk c
 |n+1,.ty _,v,i,c=>by unfold CO at c ⊢;exact i.down hk c
 |n+1,.scr _,v,i,c=>by unfold CO at c ⊢;exact i.down hk c
open Classical in
noncomputable def EV(n ps:Nat)(mb:Sl->M (Fl×Sl)):List D->M D:=λds Z=>match mb (BR n ds) Z with
 |some ((fl,_),w9)=>if ds.length=ps/\(fl=.next∨∃d,fl=.rt d)/\E6 Z w9 (w9.take Z.length) .non .non/\Cl Z.length (CO w9 Z.length 8 (D5 fl)) then some (CO w9 Z.length 8 (D5 fl),w9.take Z.length) else none
 |none=>none
theorem FJ(h:EV n ps mb ds Z=some (d,Z')):
  ds.length=ps/\∃fl x6 w9,mb (BR n ds) Z=some ((fl,x6),w9)/\(fl=.next∨∃d,fl=.rt d)/\Z'.length=Z.length/\E6 Z w9 Z' .non .non/\d=CO w9 Z'.length 8 (D5 fl)/\Cl Z'.length d:=by
 unfold EV at h;split at h
 ·rename_i fl x6 w9 e;split at h
  ·rename_i c;cases h;have hl:(w9.take Z.length).length=Z.length:=by
    have:=c.2.2.1.le;have h2:=List.length_take_le Z.length w9;omega
   exact⟨c.1,fl,x6,w9,e,c.2.1,hl,c.2.2.1,by rw[hl],by rw[hl];exact c.2.2.2⟩
  ·cases h
 ·cases h
theorem Fp(e:mb (BR n ds) Z=some ((.rt d,x6),w6++g))(hl:ds.length=ps)(t:E6 Z (w6++g) w6 .non .non)(hm:w6.length=Z.length)(c:Cl Z.length (CO (w6++g) Z.length 8 d)):
  EV n ps mb ds Z=some (CO (w6++g) Z.length 8 d,w6):=by
 have ht:(w6++g).take Z.length=w6:=by rw[←hm,List.take_left]
 unfold EV;rw[e];dsimp only;rw[if_pos ⟨hl,.inr ⟨d,rfl⟩,by rw[ht];exact t,c⟩,ht];rfl
section
variable{P:Program}{w:World}{K:PySem.W.Frag}{mg:Str->Option Value}{base:Heap}
theorem JI(F:Fun K x qual st f fd)(S:Af N ps (AQ st))(hm:mg x=some (.ref f))(hb:Binds K fd ps [])
  (body:∀(cdv:Value) (A:Around) (outer:List Env) (s:Shared) (H:Hp) (E:XK),Room k (A.deeper (PyProof.Rows.envOfC qual (AQ st) s.heap.objs.size f cdv))->RSs (Gu CX0 P w K mg base N qual (AQ st) f cdv A outer s H E).nox (Ch st) mb) :
  Fn P w K mg base x ps (k+1) (EV N.length ps.length mb):=by
 refine⟨λds Z r h=>(FJ (d:=r.1) (Z':=r.2) h).1,f,fd,?_,hm,F.kp,hb⟩;refine F.ok S (λvs H Q E h=>h.1) (λcdv A outer s H vs Q E hr h=>⟨_,(body cdv A outer s H E hr).pe,?_⟩);obtain⟨hl,Y,Z,ds,d,Z',R,i,e,q⟩:=h;obtain⟨_,fl,x6,w9,e2,hfl,hlen,t,ed,c⟩:=FJ e;refine⟨Y,Z,_,fl,x6,w9,R,RelS.start i,e2,λx5 H2 E2 R2 u6 S2=>?_⟩;obtain⟨E3,R3,_⟩:=FS R E2 R2 t;have hle:Z'.length<=w9.length:=by
  obtain⟨⟨g,hg⟩,_⟩:=t;rw[hg];simp
 have cv:∀v,Is ⟨K,w⟩ x5 w9.length H2 (D5 fl) v->Is ⟨K,w⟩ x5 Z'.length H2 d v:=λv iv=>by
  rw[ed] at c ⊢;exact JF hle R2 8 _ v iv c
 rcases hfl with rfl|⟨d0,rfl⟩
 ·exact q x5 H2 E3 R3 _ (cv _ (by unfold D5 Is;rfl))
 ·exact λv iv=>q x5 H2 E3 R3 v (cv v iv)
end
end Mi
namespace Nk
open PySem PySem.Spec PyProof.Rows Ht
section
variable{prog:Program}{w:World}{A:Around}{E:Value->Shared->Prop}{s:Shared}{d I:Addr}{o:Obj}{es:Array DictEntry}{ep:Nat}
theorem MB(hh:A.handled=none)(hI:IsItemIter s.heap I d i es.size ep ok ov)(ho:s.heap.get? d=some o)(hd:o.data=.dict es ep)
  (more:∀(hi:i<es.size) (h':Heap),IsItemIterOut h' I d (i+1) es.size ep es[i].key es[i].val s.heap.objs.size->h'.get? s.heap.objs.size=some { cls:=.type "tuple",data:=.seq #[es[i].key,es[i].val] }->(∀b o,b≠I->s.heap.get? b=some o->h'.get? b=some o)->Q (some (.ref s.heap.objs.size)) { s with heap:=h' })
  (done:es.size<=i->∀h',Heap.ExtBut I s.heap h'->Q none { s with heap:=h' }):wpAny (model prog w) A (pyNext (.ref I)) Q E s:=by
 have hT:s.TypeIs (.ref I) "dict_itemiterator" := ⟨_,hI,rfl⟩;have nm:∀{A:Around} {s:Shared} {E:Value->Shared->Prop} {R:String->Shared->Prop},s.TypeIs (.ref I) "dict_itemiterator" -> R "dict_itemiterator" s->wpAny (model prog w) A (typeNameOfWhole (.ref I)) R E s:=λty r=>wpAny_typeNameOfWhole_itemiter ty r;unfold pyNext;refine AAA (wpAny_attempt (wpAny_callSpecial?_slot (name:=Str.ofString "__next__") hT PySem.F.slot_dict_itemiterator_next (AAd PySem.F.slot_dict_itemiterator_next hT PySem.F.entry_dict_itemiterator_next ?_ (PySem.F.args_dict_itemiterator_next_1 _))))
 wp_walk
 rw[hd]
 wp_walk
 rw[hd];refine AAB ?_;rw[if_neg (by simp)];refine AAB ?_;have key:(if (i:Int)<0 then none else es[(i:Int).toNat]?)=es[i]?:=by rw[if_neg (by omega),Int.toNat_natCast]
 dsimp only;rw[key];cases e:es[i]? with
 |some x=>
  have hi:i<es.size:=(Array.getElem?_eq_some_iff.mp e).1;have ex:es[i]=x:=(Array.getElem?_eq_some_iff.mp e).2;refine AAA (AAA (nm hT (AAB ?_)));refine AAA (wpAny_isOneOf_itemiter hT ?_);rw[if_pos (by decide),if_neg (by decide +kernel)];refine AAA (AAq hI (by simp) λh1 g1 s1=>?_);have T1:Shared.TypeIs { s with heap:=h1 } (.ref I) "dict_itemiterator" := ⟨_,g1,rfl⟩;refine AAA (AAp (AAA (wpAny_isOneOf_itemiter T1 ?_)));rw[if_neg (by decide)];refine AAA (wpAny_isOneOf_itemiter T1 ?_);rw[if_neg (by decide)];unfold Builtin.Dict_items.pairFromOwner Builtin.Dict_items.ownedTupleIsFree;refine AAA (wpAny_newTuple ?_);have gp:∀{b:Addr} {ob:Obj},h1.get? b=some ob->(h1.push { cls:=.type "tuple",data:=.seq #[x.key,x.val] }).get? b=some ob:=λz=>AAC _ z;have sz:h1.objs.size=s.heap.objs.size:=s1.1;have g2:(h1.push { cls:=.type "tuple",data:=.seq #[x.key,x.val] }).get? I=some { cls:=.type "dict_itemiterator",dict:=none,data:=.fields #[.none,.bool false,.ref d,.int ((i+1:Nat):Int) 0,.int es.size 0,.int ep 0,ok,ov],slots:=#[] }:=gp (by simpa[rawInt] using g1);have gt:(h1.push { cls:=.type "tuple",data:=.seq #[x.key,x.val] }).get? s.heap.objs.size=some { cls:=.type "tuple",data:=.seq #[x.key,x.val] }:=by rw[←sz];exact AAD _ rfl
  have hIs:I<s.heap.objs.size:=Heap.lt_size hI;have ol:∀b ob,b≠I->s.heap.get? b=some ob->(h1.push { cls:=.type "tuple",data:=.seq #[x.key,x.val] }).get? b=some ob:=λb ob hb z=>gp ((s1.2 b hb).trans z);dsimp only;rw[sz];generalize h1.push { cls:=.type "tuple",data:=.seq #[x.key,x.val] }=h2 at g2 gt ol ⊢;refine AAA (AAA (AAv g2 rfl (x:=.none) rfl (AAB ?_)));rw[if_pos rfl];refine AAA (AAv g2 rfl (x:=ok) rfl (AAA (AAv g2 rfl (x:=ov) rfl ?_)));refine AAA (AAq g2 (by simp) λh3 g3 s3=>AAA (AAq g3 (by simp) λh4 g4 s4=>AAA (AAq g4 (by simp) λh5 g5 s5=>AAA (AAq g5 (by simp) λh6 g6 s6=>AAA (wpAny_letGo (AAB ?_))))));refine AAB ⟨_,rfl,AAB ?_⟩;have hk:∀b,b≠I->h6.get? b=h2.get? b:=λb hb=>(s6.2 b hb).trans ((s5.2 b hb).trans ((s4.2 b hb).trans (s3.2 b hb)));subst ex;refine more hi h6 (by show h6.get? I=_;simpa[rawInt] using g6) ((hk _ (Nat.ne_of_gt hIs)).trans gt) λb ob hb z=>(hk b hb).trans (ol b ob hb z)
 |none=>
  refine AAA (AAA (nm hT (AAB ?_)));rw[if_pos (by decide)];refine AAA (AAq hI (by simp) λh1 g1 s1=>?_);refine GD (A:=A.in1) (s:={ s with heap:=h1 }) hh λa h' k ty=>?_;refine AAA (wpAny_isInstance (T := "StopIteration") (b:=true) ty isSubtype_stop ?_);exact AAB (done (by simpa using e) h' λb o hb e=>k b o (s1.extBut b o hb e))
theorem Hc(hh:A.handled=none)(hne:d≠I)(hd:o.data=.dict es ep):WalksT prog w A I [I,d] [I] es.size (λi vals=>∃e,es[i]?=some e/\vals=#[e.key,e.val]) (λi h=>(∃ok ov,IsItemIter h I d i es.size ep ok ov)/\h.get? d=some o)
  (λi T h=>T≠I/\(∃ok ov,IsItemIterOut h I d (i+1) es.size ep ok ov T)/\h.get? d=some o) where
 sub:=λb hb=>by rw[AAK.mp hb];exact AAP
 frame:=λi h h' st k=>by
  obtain⟨⟨ok,ov,st⟩,st2⟩:=st;exact⟨⟨ok,ov,k I AAP _ st⟩,k d (by simp) _ st2⟩
 item:=λi s Q E hi st q=>by
  obtain⟨⟨ok,ov,st⟩,st2⟩:=st;refine MB hh st st2 hd (λhi' h' g1 g2 k=>?_) λz=>absurd hi (Nat.not_lt.mpr z);exact q _ _ h' s.toks ⟨es[i],Array.getElem?_eq_getElem hi',rfl⟩ (AAE _) ⟨_,g2,rfl,_,rfl⟩ ⟨Nat.ne_of_gt (Heap.lt_size st),⟨_,_,g1⟩,k d o hne st2⟩ λb o hb e=>k b o (λz=>hb (by rw[z];exact List.mem_singleton_self _)) e
 go:=λelts k pos i T s Q E hm q=>by
  obtain⟨hT,⟨ok,ov,g⟩,hd2⟩:=hm;exact wpAny_letOwnedTupleGo_items g λh' he hs=>q h' ⟨⟨ok,ov,he⟩,(hs.2 d hne).trans hd2⟩ λb o hb e=>(hs.2 b λz=>hb (by rw[z];exact List.mem_singleton_self _)).trans e
 apart:=λi T h hm z=>hm.1 (AAK.mp z)
 done:=λs Q E st q=>by
  obtain⟨⟨ok,ov,st⟩,st2⟩:=st;exact MB hh st st2 hd (λhi'=>absurd hi' (AAy _)) λ_ h' k=>q h' s.toks λb o hb e=>k b o (λz=>hb (by rw[z];exact List.mem_singleton_self _)) e
 self:=λi s Q E st q=>by
  obtain⟨⟨ok,ov,st⟩,st2⟩:=st;exact PySem.W.kcp_self st q
end
open L2
section
variable{prog:Program}{w:World}{A:Around}{E:Value->Shared->Prop}{s:Shared}{d vw:Addr}{o:Obj}{es:Array DictEntry}{ep:Nat}
noncomputable abbrev vwO(n:String)(d:Addr):Obj:={ cls:=.type n,data:=.fields #[.ref d] }
theorem No(lo:(d==sysModules)=false)(ho:s.heap.get? d=some o)(ex:o.ExactDict)(q:Q (.ref s.heap.objs.size) { s with heap:=s.heap.push (vwO "dict_items" d) }):wpAny (model prog w) A (call (.builtin "dict.items") [.ref d]) Q E s:=by
 have hT:s.TypeIs (.ref d) "dict" := ⟨o,ho,ex.1⟩;refine AAd PySem.F.slot_dict_items hT PySem.F.entry_dict_items ?_ (PySem.F.args_dict_items_1 _)
 wp_walk
 rw[if_neg (by rw[ex.1];decide)]
 wp_walk
 exact⟨_,rfl,q⟩
theorem Sf(hv:s.heap.get? vw=some (vwO "dict_items" d))(ho:s.heap.get? d=some o)(hd:o.data=.dict es ep)
  (q:Q (.ref s.heap.objs.size) { s with heap:=s.heap.push { cls:=.type "dict_itemiterator",data:=.fields #[.none,.bool false,.ref d,.int 0 0,.int es.size 0,.int ep 0,.none,.none] } }):wpAny (model prog w) A (pyIter (.ref vw)) Q E s:=by
 have hT:s.TypeIs (.ref vw) "dict_items" := ⟨_,hv,rfl⟩;refine wpAny_pyIter_slot hT PySem.F.slot_dict_items_iter (AAd PySem.F.slot_dict_items_iter hT PySem.F.entry_dict_items_iter ?_ (PySem.F.args_dict_items_iter_1 _))
 wp_walk
 rw[hd]
 wp_walk
 rw[hd]
 wp_walk
 rw[if_pos (by decide)];exact⟨_,rfl, "dict_itemiterator",_,⟨_,AAD _ rfl,rfl⟩,PySem.F.slot_dict_itemiterator_next.lookup,q⟩
end
noncomputable def itI(p:Addr)(n:Nat):It:=⟨λi H=>i<n/\∃r,r.length=n/\H p=some (CC p r),λi H v H'=>∃T a x,H T=none/\v=.ref T/\H'=upd H T (.tup [.ref a,x])/\∀r,H p=some (CC p r)->∃c,r[i]?=some (c,a,x),λi H=>i=n/\∃r,r.length=n/\H p=some (CC p r)⟩
theorem ND{l:List (Cs×Addr×V)}{us:List Value}{es:Array DictEntry}{i:Nat}{e:DictEntry}(hl:l.length=us.length)(h4:es.toList=(l.zip us).map (λx=>{ key:=.ref x.1.2.1,hash:=(csK x.1.1).hash,val:=x.2 }))(he:es[i]?=some e):∃c a x,l[i]?=some (c,a,x)/\us[i]?=some e.val/\e.key=.ref a:=by
 have h:es.toList[i]?=some e:=by rw[Array.getElem?_toList];exact he
 rw[h4,AAV] at h;cases z:(l.zip us)[i]? with
 |none=>rw[z] at h;cases h
 |some y=>
  rw[z] at h;cases h;obtain⟨z1,z2⟩:=List.getElem?_zip_eq_some.mp z;exact⟨_,_,_,z1,z2,rfl⟩
theorem M4{P:Program}{w:World}{K:PySem.W.Frag}{es:List Expr}{k0:Nat}{I0 p:Addr}{n:Nat}(hne:p≠I0):
  LX P w K (.Tuple es k0 pos) (itI p n) [I0] I0 (λi h=>∃ok ov,IsItemIter h I0 p i n n ok ov) where
 mem:=List.mem_singleton_self _
 obj:=λi h st b hb=>by
  obtain⟨ok,ov,st⟩:=st;rw[AAK.mp hb];exact⟨_,st,λv z=>by cases z⟩
 keep:=λi h h' st k=>by
  obtain⟨ok,ov,st⟩:=st;exact⟨ok,ov,k I0 (List.mem_singleton_self _) _ st⟩
 item:=by
  intro X hP hw hK hc i w5 s O H E I hf st hg;obtain⟨hi,r,hr,hp⟩:=hg;obtain⟨ok,ov,st⟩:=st;obtain⟨us,o,es,ep,h0,h1,h2,h3,h4,h5,h6,h7,h8⟩:=Fk I.hok hp;have hl:r.length=us.length:=by have:=h0.length;simpa using this
  have hsz:es.size=n:=by rw[←Array.length_toList,h4,AAF,List.length_zip];omega
  have hep:ep=n:=h8.trans hr;subst hep;have W:=Hc (prog:=P) (w:=w) (A:=X.A) (I:=I0) (I.ok.hd hc) hne h3;rw[hsz] at W;refine W.item i s _ _ hi ⟨⟨ok,ov,st⟩,h1⟩ λT vals h' tk hpt hT ht hm kk=>⟨_,rfl,?_⟩;have I1:Inv X w5 O H { s with heap:=h',toks:=tk }:=I.turnedL kk hf;refine W.go _ k0 pos i T _ _ _ hm λh2' st2 kk2=>?_;have I2:Inv X w5 O H { s with heap:=h2',toks:=tk }:=I1.turnedL (t':=tk) kk2 hf;have hn:H T=none:=I.hok.fresh hT;have ht2:IsTup h2' T vals:=by
   obtain⟨o,e,r⟩:=ht;exact⟨o,kk2 T o (W.apart i T _ hm) e,r⟩
  obtain⟨e,he,rfl⟩:=hpt;obtain⟨c,a,x,e1,e2,e3⟩:=ND hl h4 he;obtain⟨u,e4,rx⟩:=h0.get (x:=x) (i:=i) (by rw[AAV,e1];rfl);rw[e2] at e4;cases e4;refine⟨.ref T,upd H T (.tup [.ref a,x]),I2.track (I.fpOk hT hn) ⟨by show 2<=sizeLine;decide,#[e.key,e.val].toList,.cons e3 (.cons rx .nil),by simpa using ht2⟩,rfl,⟨T,a,x,hn,rfl,rfl,λr' hp'=>?_⟩,?_,λb hb=>?_⟩
  ·obtain⟨us',o',es',ep',g0,g1,g2,g3,g4,g5,g6,g7,g8⟩:=Fk I.hok hp';rw[h1] at g1;cases g1;rw[h3] at g3;cases g3;have gl:r'.length=us'.length:=by have:=g0.length;simpa using this
   obtain⟨c',a',x',f1,f2,f3⟩:=ND gl g4 he;obtain⟨u',f4,rx'⟩:=g0.get (x:=x') (i:=i) (by rw[AAV,f1];rfl);rw[f2] at f4;cases f4;rw[e3] at f3;cases f3;exact⟨c',by rw[f1,rx.inj rx']⟩
  ·obtain⟨st2,_⟩:=st2;exact st2
  ·rw[AAK.mp hb];have hbT:I0≠T:=λz=>W.apart i T _ hm (by rw[←z];exact List.mem_singleton_self _);rw[upd_ne hbT];exact(hf I0 (List.mem_singleton_self _)).1
 done:=by
  intro X hP hw hK hc i w5 s O H E I hf st hg;obtain⟨hi,r,hr,hp⟩:=hg;obtain⟨ok,ov,st⟩:=st;subst hi;obtain⟨us,o,es,ep,h0,h1,h2,h3,h4,h5,h6,h7,h8⟩:=Fk I.hok hp;have hl:r.length=us.length:=by have:=h0.length;simpa using this
  have hsz:es.size=i:=by rw[←Array.length_toList,h4,AAF,List.length_zip];omega
  have hep:ep=i:=h8.trans hr;subst hep;have W:=Hc (prog:=P) (w:=w) (A:=X.A) (I:=I0) (I.ok.hd hc) hne h3;rw[hsz] at W;exact W.done s _ _ ⟨⟨ok,ov,st⟩,h1⟩ λh' tk kk=>⟨rfl,I.turnedL kk hf⟩
 self:=λA i s Q E st q=>by
  obtain⟨ok,ov,st⟩:=st;exact PySem.W.kcp_self st q
section
variable{X:Cx}{es:List Expr}{k0:Nat}{tpos apos cpos:Pos}{o:Expr}
noncomputable def bI(to:TE):TI:=λO H R=>to O H λx H1=>∃p l,x=.ref p/\H1 p=some (CC p l)/\R (itI p l.length) H1
theorem Po(ho:PE X o to)(hbase:attributeBase o "items" X.env (eval o X.env)=eval o X.env:=by rfl)(hline:(apos.endLine==cpos.line)=true:=by rfl):PI X (.Tuple es k0 tpos) (.Call (.Attribute o "items" apos) [] [] cpos) (bI to):=by
 intro w5 s O H R I h;refine wpAny_Call_method0_late hbase hline (thn (ho w5 s O H _ I h) λv s1 ⟨x,H1,I1,r1,q1⟩=>?_);obtain⟨p,l,rfl,hp,q⟩:=q1;cases r1;obtain⟨us,o,es,ep,h0,h1,h2,h3,h4,h5,h6,h7,h8⟩:=Fk I1.hok hp;have hl:l.length=us.length:=by have:=h0.length;simpa using this
 have hsz:es.size=l.length:=by rw[←Array.length_toList,h4,AAF,List.length_zip];omega
 refine⟨"dict", "dict.items",PySem.F.plainAttrs_dict,PySem.F.slot_dict_items,PySem.F.type_dict_items,⟨o,h1,h2.1⟩,λa e=>?_,Calls.callWith_builtin rfl (PySem.evalArgs_none (No h7 h1 h2 ?_))⟩
 ·cases e;exact⟨o,h1,h2.2.1⟩
 subst h8;have hp1:p<s1.heap.objs.size:=Heap.lt_size h1;have sz:(s1.heap.push (vwO "dict_items" p)).objs.size=s1.heap.objs.size+1:=Heap.size_push ..;refine Sf (s:={ s1 with heap:=s1.heap.push (vwO "dict_items" p) }) (AAD _ rfl) (AAC _ h1) h3 ?_;have le:s1.heap.objs.size<=(s1.heap.push (vwO "dict_items" p)).objs.size:=by rw[sz];exact Nat.le_succ _
 refine⟨_,[_],_,_,H1,rfl,I1.kept (t':=s1.toks) λb o e=>AAC _ (AAC _ e),M4 (I0:=(s1.heap.push (vwO "dict_items" p)).objs.size) (p:=p) (n:=l.length) (by rw[sz];exact AAe (AAi hp1)),⟨.none,.none,?_⟩,λb hb=>?_,q⟩
 ·rw[←hsz];exact AAD _ rfl
 ·rw[AAK.mp hb];exact I1.fpOk le (I1.hok.fresh le)
end
end Nk
namespace Mi
open PySem L2 Ht Nk
noncomputable def FT(n:Nat)(l:List (Cs×D)):M Unit:=λZ=>match Z[n]? with
 |some (.dC l')=>if l'=l then some ((),Z) else none
 |_=>none
theorem NB(e:FT n l Z=some (u,Z')):Z'=Z/\Z[n]?=some (.dC l):=by
 unfold FT at e;split at e
 ·rename_i l' h;split at e
  ·rename_i z;cases e;exact⟨rfl,by rw[h,z]⟩
  ·cases e
 ·cases e
noncomputable def MS(n:Nat)(l:List (Cs×D))(bf:D->Sl->M Sl)(mb:Sl->M (Fl×Sl)):List (Cs×D)->Sl->M (Fl×Sl)
 |[],B=>bnd (FT n l) λ_=>ret (.next,B)
 |y::r,B=>bnd (FT n l) λ_=>bnd (bf (.tup [csD y.1,y.2]) B) λx3=>bnd (mb x3) λr2=>match r2.1 with
   | .next=>MS n l bf mb r r2.2
   | .cont=>MS n l bf mb r r2.2
   | .brk=>ret (.next,r2.2)
   | .rt d=>ret (.rt d,r2.2)
   | .xc x=>ret (.xc x,r2.2)
noncomputable def RL(m:Sl->M D)(bf:D->Sl->M Sl)(mb:Sl->M (Fl×Sl)):Sl->M (Fl×Sl):=λB=>bnd (m B) λx=>bnd (G5 x) λr=>MS r.1 r.2 bf mb r.2 B
theorem CVs.row:∀{l:List (Cs×D)} {r:List (Cs×Addr×V)} {i:Nat} {y:Cs×D},CVs K Y k H l r->l[i]?=some y->∃a x,r[i]?=some (y.1,a,x)/\Is K Y k H (csD y.1) (.ref a)/\Is K Y k H y.2 x
 |[],_,_,_,_,e=>by cases e
 |z::l,r,0,y,h,e=>by
  cases e;obtain⟨a,x,r',rfl,h1,h2,_⟩:=h;exact⟨a,x,rfl,h1,h2⟩
 |z::l,r,i+1,y,h,e=>by
  obtain⟨a,x,r',rfl,_,_,h3⟩:=h;exact CVs.row (i:=i) h3 e
theorem CVs.len(h:CVs K Y k H l r):r.length=l.length:=by
 have:=congrArg List.length h.keys;rw[AAF,AAF] at this;exact this
section
variable{X:Cx}{es:List Expr}{k0:Nat}{tpos apos cpos pos:Pos}{o:Expr}{body:List Stmt}
theorem OM(hp:PassesOwn (model X.prog X.w) X.A X.env X.xe)(hc:X.calm=true)(hi:RE X o m)(hg:RG X (.Tuple es k0 tpos) bf)(hb:RSs X body mb)
  (hs:∀x,foldedSetIterable (.Call (.Attribute o "items" apos) [] [] cpos) X.env x=pure x:=by intro _;rfl) (hbase:attributeBase o "items" X.env (eval o X.env)=eval o X.env:=by rfl) (hline:(apos.endLine==cpos.line)=true:=by rfl):RS X (.For (.Tuple es k0 tpos) (.Call (.Attribute o "items" apos) [] [] cpos) body [] pos) (RL m bf mb):=RS.wk (NH hp hc (Po hi.pe hbase hline) hg.pe hb.pe hs) λDn O H h=>by
 obtain⟨Y,Z,B,f,B',Z',R,S,e,q⟩:=h;obtain⟨x,w6,e1,e2⟩:=AF e;obtain⟨⟨n,l⟩,w9,e3,e4⟩:=AF e2;refine⟨Y,Z,B,x,w6,R,S,e1,λx4 H1 E1 R1 v i1=>?_⟩;obtain⟨hm,rfl,g1,rfl,r0,g2,g3⟩:=DA R1 i1 e3;subst hm;have hk:n<w9.length:=(AAT.mp g1).1;refine⟨_,r0,rfl,g2,?_⟩;have el:r0.length=l.length:=g3.len
 let W:Nat->Nat->St->Hp->Prop:=λi m O H=>m+i=l.length/\∃Y Z B f B' Z',RelH X.kw Y Z H/\RelS X.kw Y Z.length H B O/\n<Z.length/\Y n=x4 n/\MS n l bf mb (l.drop i) B Z=some ((f,B'),Z') /\
  Aft X.kw Y Z H Z' λY' H'=>∀O',RelS X.kw Y' Z'.length H' B' O'->FlP X.kw Dn Y' Z'.length H' B' O' f
 refine⟨W,⟨l.length,rfl,x4,w9,B,f,B',Z',R1,S.ext E1,hk,rfl,by rw[List.drop_zero];exact e4,λx5 H2 E2 R2=>q x5 H2 (E1.trans E2) R2⟩,?_⟩;rintro i m O H ⟨hmi,Y,Z,B,f,B',Z',R,S,hn,en,e,q⟩;have at_:∀{u:Unit} {x8:Mh},FT n l Z=some (u,x8)->x8=Z/\∃r,H (x4 n)=some (CC (x4 n) r)/\CVs X.kw Y Z.length H l r:=λ{u x8} z=>by
  obtain⟨z1,z2⟩:=NB z;obtain⟨w,hw,r,rfl,hr⟩:=R.obj n _ z2;rw[en] at hw;exact⟨z1,r,hw,hr⟩
 cases m with
 |zero=>
  rw[List.drop_eq_nil_of_le (by omega)] at e;obtain⟨u,x8,z,ee⟩:=AF e;obtain⟨rfl,r,z2,z3⟩:=at_ z;cases ee;exact .inl ⟨⟨by omega,r,by rw[z3.len,el],z2⟩,q Y H R.ext0 R O S⟩
 |succ m=>
  have hlt:i<l.length:=by omega
  rw[List.drop_eq_getElem_cons hlt] at e;obtain⟨u,x8,z,ee⟩:=AF e;obtain⟨rfl,r,z2,z3⟩:=at_ z;refine .inr ⟨⟨by omega,r,by rw[z3.len,el],z2⟩,λO' H'=>W (i+1) m O' H',λO' H' z=>⟨_,Nat.lt_succ_self _,z⟩,λy H2 yl=>?_⟩;obtain⟨T,a,x,hT,rfl,rfl,yl⟩:=yl;obtain⟨c,hc2⟩:=yl r z2;obtain⟨a',x',f1,f2,f3⟩:=z3.row (AAu hlt);rw[f1] at hc2;cases hc2;obtain⟨E2,R2⟩:=R.laid (.tup [.ref a,x]) hT;have it:Is X.kw Y x8.length (upd H T (.tup [.ref a,x])) (.tup [csD l[i].1,l[i].2]) (.ref T):=by
   unfold Is;exact⟨T,[.ref a,x],rfl,SqT.of Bw,.cons (f2.ext E2) (.one (f3.ext E2))⟩
  obtain⟨x3,u3,e1,ea⟩:=AF ee;obtain⟨⟨f2',x6⟩,j0,e2,eb⟩:=AF ea;refine⟨Y,_,B,_,x3,u3,R2,S.ext E2,it,e1,λx9 H3 E3 R3 u8 S3=>?_⟩;refine⟨x9,u3,x3,f2',x6,j0,R3,S3,e2,λu4 H4 E4 R4 v9 S4=>?_⟩;have E14:=(E2.trans E3).trans E4;have hn4:n<j0.length:=AAM hn E14.le;have en4:u4 n=x4 n:=(E14.agree n hn).trans en;cases f2' with
  |next=>exact⟨by omega,u4,j0,x6,f,B',Z',R4,S4,hn4,en4,eb,λu7 H5 E5 R5=>q u7 H5 (E14.trans E5) R5⟩
  |cont=>exact⟨by omega,u4,j0,x6,f,B',Z',R4,S4,hn4,en4,eb,λu7 H5 E5 R5=>q u7 H5 (E14.trans E5) R5⟩
  |brk=>cases eb;exact q u4 H4 E14 R4 v9 S4
  |rt d=>cases eb;exact q u4 H4 E14 R4 v9 S4
  |xc x=>cases eb;exact q u4 H4 E14 R4 v9 S4
end
end Mi
namespace Nk
open PySem PySem.Spec PyProof.Rows Ht L2
section
variable{prog:Program}{w:World}{A:Around}{E:Value->Shared->Prop}{s:Shared}{env:Env}
noncomputable abbrev SL:Obj:={ cls:=.type "dict",data:=.dict #[] }
theorem TJ(h:wpAny (model prog w) A (eval k env) (λkv s1=>wpAny (model prog w) A (eval v env) (λvv s2=>wpAny (model prog w) A (dictSet s.heap.objs.size kv vv) (λ_ s3=>Q (.ref s.heap.objs.size) s3) E s2) E s1) E { s with heap:=s.heap.push SL }):
  wpAny (model prog w) A (eval (.Dict [some k] [v] pos) env) Q E s:=by
 rw[arm_eval_Dict,zip_pairTrees [some k] [v] env pos rfl rfl,dictDisplay_pairs _ (by exact λz=>by cases z) (by show 1<17;decide)];refine AAA (wpAny_standAt (AAA ?_));unfold subDict;refine AAA (wpAny_alloc (AAA (AAp ?_)));rw[if_pos (by show 1<=15;decide)];refine AAA (pairTrees_cons_walk (AAj h (λkv s1 h1=>AAj h1 (λvv s2 h2=>pairTrees_nil_walk ?_) λ_ _ e=>e) λ_ _ e=>e));refine AAp ?_;refine AAA ?_;rw[List.forIn_cons];refine AAA (AAA (AAj h2 (λ_ s3 q=>AAB ?_) λ_ _ e=>e));dsimp only;rw[List.forIn_nil];exact AAB (AAB (AAB (AAB q)))
theorem Q7(lo:(d==sysModules)=false)(ho:s.heap.get? d=some o)(ex:o.ExactDict)(hd:o.data=.dict es ep)(hz:es.size<=16777216)(q:∀tk,Q (es.size != 0) { s with toks:=tk }):wpAny (model prog w) A (truthy (.ref d)) Q E s:=by
 have hT:s.TypeIs (.ref d) "dict" := ⟨o,ho,ex.1⟩;unfold truthy
 wp_walk
 rw[noBool_dict]
 wp_walk
 rw[PySem.F.slot_dict_len.lookup];refine AAB ?_;rw[if_neg (by decide)];refine AAA (wpAny_runValue (codeAny_builtin entry_len ?_));rw[Around.under_plainId plain_len _];unfold Builtin.«len»;refine AAA (m:=oneArg "len" _) (AAB (AAA (wpAny_callSpecial?_slot (name:=Str.ofString "__len__") hT PySem.F.slot_dict_len (AAd PySem.F.slot_dict_len hT PySem.F.entry_dict_len ?_ (PySem.F.args_dict_len_1 _)))))
 wp_walk
 rw[hd]
 wp_walk
 refine⟨_,rfl,?_⟩;refine AAA (AAp (AAB (AAA (wpAny_letGo ?_))));rw[if_neg (by omega),if_neg (by omega)];refine AAA (wpAny_mkInt (AAB ?_));refine AAB ?_;have e:((es.size:Int)+((0:Nat):Int) != 0)=(es.size != 0):=by cases es.size<;>simp<;>omega
 rw[e];exact q _
end
end Nk
namespace Mi
open PySem PySem.Spec PyProof.Rows L2 Ht Nk
section
variable{X:Cx}{k v o e:Expr}{pos:Pos}
noncomputable def aj(tk tv:TE)(K:KW):TE:=λO H Q=>∀p,H p=none->tk O (upd H p (CC p [])) λy H1=>tv O H1 λx H2=>∃c a Y k,y=.ref a/\H2 p=some (CC p [])/\Is K Y k H2 (csD c) (.ref a)/\Q (.ref p) (upd H2 p (CC p [(c,a,x)]))
theorem Ry(hr:Room k0 X.A)(hk:PE X k tk)(hv:PE X v tv):PE X (.Dict [some k] [v] pos) (aj tk tv X.kw):=by
 intro w5 s O H Q I q;have hn:=I.hok.fresh (AAE s.heap.objs.size);have I1:Inv X w5 O (upd H s.heap.objs.size (CC s.heap.objs.size [])) { s with heap:=s.heap.push SL }:=I.laid (a:=s.heap.objs.size) (o:=CC s.heap.objs.size []) (t':=s.toks) (λ_ _ q=>AAC _ q) (AAE _)
  (O7 ⟨[],_,#[],0,.nil,AAD _ rfl,⟨rfl,rfl,rfl⟩,rfl,rfl,List.nodup_nil,AAk _,AAf.mpr (Ne.symm (AAe I.big)),rfl⟩)
 refine TJ (thn (hk w5 _ O _ _ I1 (q _ hn)) λu s1 ⟨y,H1,I2,ry,q1⟩=>thn (hv w5 s1 O H1 _ I2 q1) λr s2 zq=>?_);obtain⟨x,H2,I3,rx,c,a,Y,k,rfl,e,ic,q2⟩:=zq;cases ry;obtain⟨us,o,es,ep,hvs,h1,h2,h3,h4,nd,_,lo,h8⟩:=Fk I3.hok e;cases hvs;have room:(kind X.prog X.w).room X.A:=by
  have:=hr.units;show X.A.units+8<cLine;omega
 refine V4 (kd:=kind X.prog X.w) (xs:=[]) room (isC I3 ic) h1 h2 h3 h4 (λx hx=>by cases hx) List.nodup_nil rfl (by rw[sizeLine_eq];decide) λh' o' d1 d2 d3 sb=>⟨.ref s.heap.objs.size,_,?_,rfl,q2⟩;refine Gs I3 (by rw[e];exact True.intro) sb ⟨o',d1⟩ (O7 ⟨[r],o',_,_,.cons rx .nil,d1,d2,d3,?_,?_,?_,lo,?_⟩)
 ·rw[Array.toList_push,h4];rfl
 ·exact List.nodup_cons.mpr ⟨by simp,List.nodup_nil⟩
 ·rw[sizeLine_eq];show 1<=16777216;decide
 ·rw[h8];rfl
noncomputable def K5(mk mv:Sl->M D):Sl->M D:=λB Z=>match (bnd (mk B) λy=>bnd (mv B) λx=>ret (y,x)) (Z++[.dC []]) with
 |some ((y,x),w6)=>match w6[Z.length]?,Ha y with
  |some (.dC []),some c=>some (.ref Z.length,w6.set Z.length (.dC [(c,x)]))
  |_,_=>none
 |none=>none
theorem Rc(hr:Room k0 X.A)(hk:RE X k mk)(hv:RE X v mv):RE X (.Dict [some k] [v] pos) (K5 mk mv):=RE.wk (Ry hr hk.pe hv.pe) λO H Q h=>by
 obtain⟨Y,Z,B,d,Z',R,S,e,q⟩:=h;intro p hp;obtain⟨j3,E0,R0,e0⟩:=R.grown (m:=.dC []) (o:=CC p []) hp ⟨[],rfl,rfl⟩;unfold K5 at e;split at e
 ·rename_i y x w6 em;split at e
  ·rename_i c en ec;cases e;obtain⟨y',w9,e1,ee1⟩:=AF em;obtain⟨x',x8,e2,ee2⟩:=AF ee1;cases ee2;refine⟨j3,Z++[.dC []],B,y,w9,R0,S.ext E0,e1,λx4 H1 E1 R1 v1 i1=>⟨x4,w9,B,x,_,R1,S.ext (E0.trans E1),e2,λx5 H2 E2 R2 v2 i2=>?_⟩⟩;have hn:Z.length<w6.length:=(AAT.mp en).1;obtain⟨u,hu,r,rfl,hr⟩:=R2.obj Z.length _ en;have hr':r=[]:=hr;subst hr';have E02:=(E0.trans E1).trans E2;have ei:x5 Z.length=p:=by rw[(E1.trans E2).agree Z.length (by simp),e0]
   rw[ei] at hu;have iy:=i1.ext E2;rw[F6 ec] at iy;have ref:∃a,v1=.ref a:=by
    unfold csD Is at iy;obtain⟨a,vs,rfl,_⟩:=iy;exact⟨a,rfl⟩
   obtain⟨a,rfl⟩:=ref;refine⟨c,a,x5,w6.length,rfl,hu,iy,?_⟩;obtain⟨E3,R3⟩:=R2.changed (n:=Z.length) (o:=CC p [(c,a,v2)]) (m:=.dC [(c,x)]) hn (by rw[ei];exact⟨_,rfl,a,v2,[],rfl,iy,i2,rfl⟩);rw[ei] at E3 R3;refine q x5 _ (E02.trans E3) R3 _ ?_;unfold Is;exact⟨by simpa using hn,by rw[ei]⟩
  ·cases e
 ·cases e
end
noncomputable def Hm(l:List (Cs×D))(c:Cs):Option D:=(l.find? λz=>decide (z.1=c)).map (·.2)
theorem CVs.val{K:KW}{Y:Nat->Addr}:∀{l:List (Cs×D)} {r:List (Cs×Addr×V)} {d:D} {us:List Value},CVs K Y k H l r->Vals (r.map (·.2.2)) us->Hm l c=some d->∃v u p,Is K Y k H d v/\RelV v u/\atKey (FP r us) (csK c)=some (p,u)
 |[],_,d,us,h,_,e=>by cases e
 |(z,x)::l,_,d,us,h,vs,e=>by
  obtain⟨b,v,r',rfl,g1,g2,g3⟩:=h;rw[AAW] at vs;cases vs with
  |@cons _ u _ us' rv t=>
   by_cases hz:z=c
   ·subst hz;have:d=x:=by simpa[Hm] using e.symm
    subst this;exact⟨v,u,b,g2,rv,by simp[atKey,FP]⟩
   ·have e':Hm l c=some d:=by simpa[Hm,hz] using e
    obtain⟨v',u',p,i1,i2,i3⟩:=CVs.val g3 t e';refine⟨v',u',p,i1,i2,?_⟩;have hz':¬csK z=csK c:=λq=>hz (LK q);simpa[atKey,FP,hz'] using i3
section
variable{X:Cx}{o i e:Expr}{pos:Pos}
noncomputable def Gy(d y:D):M D:=bnd (G5 d) λr=>λZ=>((Ha y).bind (Hm r.2)).map λv=>(v,Z)
theorem OO{mo mi:Sl->M D}(hr:Room k X.A)(ho:RE X o mo)(hi:RE X i mi)(hs:Vr i:=by exact λ_ _=>rfl):RE X (.Subscript o i pos) (mOp Gy mo mi):=by
 refine RE.wk (t:=λO H Q=>tE X.kw mo O H λx H1=>tE X.kw mi O H1 λy H2=>∃(p:Addr) (l:List (Cs×D)×List (Cs×Addr×V)) (c:Cs) (d:D) (a:Addr) (Y:Nat->Addr) (k:Nat),x=.ref p/\y=.ref a/\H2 p=some (CC p l.2)/\CVs X.kw Y k H2 l.1 l.2/\Is X.kw Y k H2 (csD c) (.ref a)/\Hm l.1 c=some d/\∀v,Is X.kw Y k H2 d v->Q v H2) (λw5 s O H Q I h=>?_) λO H Q h=>?_
 ·refine OI PySem.F.slot_dict_getitem.lookup hs (thn (ho.pe w5 s O H _ I h) λu s1 ⟨x,H1,I1,rx,q1⟩=>thn (hi.pe w5 s1 O H1 _ I1 q1) λiv s2 zq=>?_);obtain⟨y,H2,I2,ry,p,l,c,d,a,Y,k,ex,ey,e,pv,ic,vd,q2⟩:=zq;subst ex ey;cases rx;cases ry;obtain⟨us,hl,hvs,dd,_,_,lo⟩:=Ma I2 e pv.at;obtain⟨v,uu,pp,iv,rv,at_⟩:=pv.val hvs vd;refine⟨dd.typeIs,wpAny_getItem_heap (Ig hr) (isC I2 ic) dd at_ ?_⟩;exact⟨v,H2,I2.tok _,rv,q2 v iv⟩
 ·obtain⟨Y,Z,B,d,Z',R,S,e,q⟩:=h;obtain⟨x,w6,e1,ee1⟩:=AF e;obtain⟨y,w9,e2,ee2⟩:=AF ee1;obtain⟨r,x8,e3,ee3⟩:=AF ee2;refine⟨Y,Z,B,x,w6,R,S,e1,λx4 H1 E1 R1 v1 i1=>⟨x4,w6,B,y,w9,R1,S.ext E1,e2,λx5 H2 E2 R2 v2 i2=>?_⟩⟩;obtain⟨hm,_,g1,rfl,kvs,g2,g3⟩:=DA R2 (i1.ext E2) e3;subst hm;cases hc:Ha y with
  |none=>rw[hc] at ee3;cases ee3
  |some c=>
   rw[hc,Option.bind_some] at ee3;cases hv:Hm r.2 c with
   |none=>rw[hv] at ee3;cases ee3
   |some dv=>
    rw[hv] at ee3;cases ee3;rw[F6 hc] at i2;have i2':=i2;unfold csD Is at i2';obtain⟨pa,_,rfl,_⟩:=i2';exact⟨_,(r.2,kvs),c,_,pa,x5,_,rfl,rfl,g2,g3,i2,hv,λv iv=>q x5 H2 (E1.trans E2) R2 v iv⟩
noncomputable def MJ(m:Sl->M D):Sl->M Bool:=λB=>bnd (m B) λd=>bnd (G5 d) λr=>ret (!r.2.isEmpty)
theorem Uq(h:RE X e m)(he:∀whole,isTrue e X.env whole=(do let v ←whole;standAt e.pos;holding [v] (truthy v)):=by intro _;rfl):RT X e (MJ m):=by
 refine RT.wk (t:=λO H Q=>tE X.kw m O H λx H'=>∃p l,x=.ref p/\H' p=some (CC p l)/\Q (!l.isEmpty) H') (λw5 s O H Q I h2=>isTrue_plain (thn (h.pe w5 s O H _ I h2) λv s1 ⟨x,H1,I1,r1,p,l,ex,hp,q1⟩=>?_) (he _)) λO H Q q=>?_
 ·subst ex;cases r1;obtain⟨us,o,es,ep,h0,h1,h2,h3,h4,h5,h6,h7,h8⟩:=Fk I1.hok hp;have hl:l.length=us.length:=by have:=h0.length;simpa using this
  have hsz:es.size=l.length:=by rw[←Array.length_toList,h4,AAF,List.length_zip];omega
  refine Q7 h7 h1 h2 h3 (by rw[sizeLine_eq] at h6;omega) λtk=>⟨H1,I1.kept (t':=tk) λ_ _ z=>z,?_⟩;rw[hsz];cases l with
  |nil=>exact q1
  |cons a l=>exact q1
 ·obtain⟨Y,Z,B,b,Z',R,S,e,q⟩:=q;obtain⟨x,w6,e1,ee1⟩:=AF e;obtain⟨r,w9,e2,ee2⟩:=AF ee1;cases ee2;refine⟨Y,Z,B,x,w6,R,S,e1,λx4 H1 E1 R1 v1 i1=>?_⟩;obtain⟨hm,_,g1,rfl,kvs,g2,g3⟩:=DA R1 i1 e2;subst hm;refine⟨_,kvs,rfl,g2,?_⟩;have em:∀{a:List (Cs×Addr×V)} {b:List (Cs×D)},a.length=b.length->a.isEmpty=b.isEmpty:=λ{a b} h=>by cases a<;>cases b<;>first|rfl|cases h
  rw[em g3.len];exact q x4 H1 E1 R1
end
end Mi
namespace Nk
open PySem PySem.Spec PyProof.Rows Ht L2
noncomputable def itV(d:Addr)(i n ep:Nat):Obj:={ cls:=.type "dict_valueiterator",data:=.fields #[.ref d,.int i 0,.int n 0,.int ep 0] }
section
variable{prog:Program}{w:World}{A:Around}{E:Value->Shared->Prop}{s:Shared}{d I vw:Addr}{o:Obj}{es:Array DictEntry}{ep:Nat}
theorem OY(hh:A.handled=none)(hI:s.heap.get? I=some (itV d i es.size ep))(ho:s.heap.get? d=some o)(hd:o.data=.dict es ep)
  (more:∀(hi:i<es.size) (h':Heap),h'.get? I=some (itV d (i+1) es.size ep)->Heap.SameBut I s.heap h'->Q (some es[i].val) { s with heap:=h' })
  (done:es.size<=i->∀h',Heap.ExtBut I s.heap h'->Q none { s with heap:=h' }):wpAny (model prog w) A (pyNext (.ref I)) Q E s:=by
 have hT:s.TypeIs (.ref I) "dict_valueiterator" := ⟨_,hI,rfl⟩;unfold pyNext;refine AAA (wpAny_attempt (wpAny_callSpecial?_slot (name:=Str.ofString "__next__") hT PySem.F.slot_dict_valueiterator_next (AAd PySem.F.slot_dict_valueiterator_next hT PySem.F.entry_dict_valueiterator_next ?_ (PySem.F.args_dict_valueiterator_next_1 _))))
 wp_walk
 rw[hd]
 wp_walk
 rw[hd];refine AAB ?_;rw[if_neg (by simp)];refine AAB ?_;have key:(if (i:Int)<0 then none else es[(i:Int).toNat]?)=es[i]?:=by rw[if_neg (by omega),Int.toNat_natCast]
 dsimp only;rw[key];cases e:es[i]? with
 |some x=>
  wp_walk
  have hi:i<es.size:=(Array.getElem?_eq_some_iff.mp e).1;have ex:es[i]=x:=(Array.getElem?_eq_some_iff.mp e).2;refine⟨_,rfl,AAB ?_⟩;rw[←ex];refine more hi _ ?_ (Heap.SameBut.update ..);rw[if_neg (by decide +kernel),if_neg (by decide +kernel)];rw[Heap.get?_update_self _ hI (by rfl)];simp[itV,rawInt,Obj.mapFields]
 |none=>
  refine AAA (AAA (wpAny_typeNameOfWhole_valiter hT (AAB ?_)));rw[if_neg (by decide +kernel)];refine AAA (AAq hI (by simp) λh1 g1 s1=>?_);refine GD (A:=A.in1) (s:={ s with heap:=h1 }) hh λa h' k ty=>?_;refine AAA (wpAny_isInstance (T := "StopIteration") (b:=true) ty isSubtype_stop ?_);exact AAB (done (by simpa using e) h' λb o hb e=>k b o (s1.extBut b o hb e))
theorem Mg(lo:(d==sysModules)=false)(ho:s.heap.get? d=some o)(ex:o.ExactDict)(q:Q (.ref s.heap.objs.size) { s with heap:=s.heap.push (vwO "dict_values" d) }):wpAny (model prog w) A (call (.builtin "dict.values") [.ref d]) Q E s:=by
 have hT:s.TypeIs (.ref d) "dict" := ⟨o,ho,ex.1⟩;refine AAd PySem.F.slot_dict_values hT PySem.F.entry_dict_values ?_ (PySem.F.args_dict_values_1 _)
 wp_walk
 rw[if_neg (by rw[ex.1];decide)]
 wp_walk
 exact⟨_,rfl,q⟩
theorem VT(hv:s.heap.get? vw=some (vwO "dict_values" d))(ho:s.heap.get? d=some o)(hd:o.data=.dict es ep)(q:Q (.ref s.heap.objs.size) { s with heap:=s.heap.push (itV d 0 es.size ep) }):wpAny (model prog w) A (pyIter (.ref vw)) Q E s:=by
 have hT:s.TypeIs (.ref vw) "dict_values" := ⟨_,hv,rfl⟩;refine wpAny_pyIter_slot hT PySem.F.slot_dict_values_iter (AAd PySem.F.slot_dict_values_iter hT PySem.F.entry_dict_values_iter ?_ (PySem.F.args_dict_values_iter_1 _))
 wp_walk
 rw[hd]
 wp_walk
 rw[hd]
 wp_walk
 rw[if_neg (by decide)];exact⟨_,rfl, "dict_valueiterator",_,⟨_,AAD _ rfl,rfl⟩,PySem.F.slot_dict_valueiterator_next.lookup,q⟩
theorem Mx(hh:A.handled=none)(hne:d≠I)(hd:o.data=.dict es ep):Walks prog w A I [I,d] [I] es.size (λi v=>∃e,es[i]?=some e/\v=e.val) (λi h=>h.get? I=some (itV d i es.size ep)/\h.get? d=some o):=by
 refine⟨λb hb=>?_,λi h h' st k=>⟨k I (by simp) _ st.1,k d (by simp) _ st.2⟩,λi s Q E hi st q=>?_,λs Q E st q=>?_,λi s Q E st q=>wpAny_pyIter_valiter (d:=d) (i:=i) (n:=es.size) (ep:=ep) ⟨_,st.1,rfl,rfl⟩ q⟩
 ·rw[AAK] at hb;rw[hb];simp
 ·refine OY hh st.1 st.2 hd (λhi' h' g sb=>?_) λz=>absurd hi (Nat.not_lt.mpr z);refine q _ h' s.toks ⟨es[i],Array.getElem?_eq_getElem hi',rfl⟩ ⟨g,(sb.2 d hne).trans st.2⟩ λb o hb e=>?_;exact(sb.2 b λz=>hb (by rw[z];simp)).trans e
 ·refine OY hh st.1 st.2 hd (λhi'=>absurd hi' (AAy _)) λ_ h' k=>?_;exact q h' s.toks λb o hb e=>k b o (λz=>hb (by rw[z];simp)) e
theorem RD(ex:o.ExactDict)(hd:o.data=.dict es ep):PySem.W.KdlSrc prog w "dict_values" vw d es.size (λi v=>∃e,es[i]?=some e/\v=e.val) (λh=>h.get? vw=some (vwO "dict_values" d)/\h.get? d=some o):=by
 refine⟨λs h=>⟨_,h.1,rfl⟩,λh e=>⟨Heap.lt_size e.1,Heap.lt_size e.2⟩,λh h' e k=>⟨k vw (.inl rfl) _ e.1,k d (.inr rfl) _ e.2⟩,by decide,by decide,λA E s Q e q=>PySem.W.kdl_hint_values ⟨_,e.1,rfl⟩ q,λA s hh e=>?_⟩;exact⟨itV d 0 es.size ep,_,λE Q q=>VT e.1 e.2 hd q,Mx hh (AAe (Heap.lt_size e.2)) hd,AAD _ rfl,AAC _ e.2⟩
end
end Nk
namespace Mi
open PySem PySem.Spec PyProof.Rows L2 Ht Nk
section
variable{X:Cx}{o:Expr}{apos cpos pos p2:Pos}
noncomputable def vwC(p vw:Addr):HO:=.ext λh=>h.get? vw=some (vwO "dict_values" p)
theorem NL(ho:PE X o to)(hbase:attributeBase o "values" X.env (eval o X.env)=eval o X.env:=by rfl)(hline:(apos.endLine==cpos.line)=true:=by rfl):PE X (.Call (.Attribute o "values" apos) [] [] cpos) (λO H Q=>to O H λx H1=>∃p l,x=.ref p/\H1 p=some (CC p l)/\∀q,H1 q=none->Q (.ref q) (upd H1 q (vwC p q))):=by
 intro w5 s O H Q I h;refine wpAny_Call_method0_late hbase hline (thn (ho w5 s O H _ I h) λv s1 ⟨x,H1,I1,r1,q1⟩=>?_);obtain⟨p,l,rfl,hp,q⟩:=q1;cases r1;obtain⟨us,o,es,ep,h0,h1,h2,h3,h4,h5,h6,h7,h8⟩:=Fk I1.hok hp;refine⟨"dict", "dict.values",PySem.F.plainAttrs_dict,PySem.F.slot_dict_values,PySem.F.type_dict_values,⟨o,h1,h2.1⟩,λa e=>?_,Calls.callWith_builtin rfl (PySem.evalArgs_none (Mg h7 h1 h2 ⟨.ref s1.heap.objs.size,_,I1.laid (a:=s1.heap.objs.size) (o:=vwC p s1.heap.objs.size) (t':=s1.toks) (λ_ _ q=>AAC _ q) (AAE _) ?_,rfl,q _ (I1.hok.fresh (AAE _))⟩))⟩
 ·cases e;exact⟨o,h1,h2.2.1⟩
 ·exact⟨AAD _ rfl,⟨_,AAD _ rfl⟩,λh1 h2 z k=>k _ z⟩
theorem Nn(hc:X.calm=true):Bo X (.type "list") (λxs H Q=>∃p vw l,xs=[.ref vw]/\H vw=some (vwC p vw)/\H p=some (CC p l)/\∀q,H q=none->Q (.ref q) (upd H q (.lst (l.map λy=>y.2.2)))):=by
 intro w5 s O H xs us Q I r h;obtain⟨p,vw,l,rfl,hv,hp,q⟩:=h;obtain⟨u,rfl,ru⟩:=DC r;cases ru;obtain⟨us,o,es,ep,h0,h1,h2,h3,h4,h5,h6,h7,_⟩:=Fk I.hok hp;have gv:s.heap.get? vw=some (vwO "dict_values" p):=(I.hok vw _ hv).1;have hl:l.length=us.length:=by have:=h0.length;simpa using this
 have hsz:es.size=l.length:=by rw[←Array.length_toList,h4,AAF,List.length_zip];omega
 refine PySem.W.kdl_call (RD h2 h3) (I.ok.hd hc) ⟨gv,h1⟩ (by omega) λh' tk acc c kp e it=>?_;have ea:acc.toList=us:=by
  have z1:=it.1;refine List.ext_getElem (by rw[Array.length_toList];omega) λi a b=>?_;have hi:i<acc.size:=by simpa using a
  obtain⟨e,g1,g2⟩:=it.2 i acc[i] (Array.getElem?_eq_getElem hi);obtain⟨c,a',x,f1,f2,f3⟩:=ND hl h4 g1;rw[AAu b] at f2;rw[Array.getElem_toList,g2];exact(Option.some.inj f2).symm
 refine⟨.ref s.heap.objs.size,_,I.laid (t':=tk) kp (AAE _) (show ObjOk X.prog X.w _ h' _ (.lst (l.map λy=>y.2.2)) from ⟨by rw[AAF];exact h6,acc.toList,c,?_,by rw[Array.toArray_toList];exact e⟩),rfl,q _ (I.hok.fresh (AAE _))⟩;rw[ea];exact h0
theorem CVs.vals{K:KW}{Y:Nat->Addr}:∀{l:List (Cs×D)} {r:List (Cs×Addr×V)},CVs K Y k H l r->IsL K Y k H (l.map (·.2)) (r.map λy=>y.2.2)
 |[],_,h=>by cases h;unfold List.map IsL;rfl
 |(y,d)::l,_,h=>by
  obtain⟨a,v,r',rfl,_,h2,h3⟩:=h;rw[AAW,AAW];exact .cons h2 (CVs.vals h3)
noncomputable def NT(d:D):M D:=bnd (G5 d) λr=>λZ=>some (.lst (r.2.map (·.2)),Z)
theorem RZ(yl:X.mg "list" = none)(ho:RE X o m)(hc:X.calm=true:=by rfl)(hgl:Gl X "list" := by rfl)
  (hbase:attributeBase o "values" X.env (eval o X.env)=eval o X.env:=by rfl) (hline:(apos.endLine==cpos.line)=true:=by rfl):RE X (.Call (.Name "list" p2) [.Call (.Attribute o "values" apos) [] [] cpos] [] pos) (mUn NT m):=by
 have hs:PE X (.Call (.Attribute o "values" apos) [] [] cpos) _:=NL ho.pe hbase hline;refine RE.wk (Ej (Nn hc) hgl yl Mi.Cu (Fv hs HK (BE rfl)) (by decide) (by decide) (BE rfl) rfl) λO H Q h=>?_;obtain⟨Y,Z,B,d,Z',R,S,ev,q⟩:=h;obtain⟨x,w6,e1,e2⟩:=AF ev;obtain⟨r,w9,e3,e4⟩:=AF e2;refine⟨Y,Z,B,x,w6,R,S,e1,λx4 H1 E1 R1 v1 i1=>?_⟩;obtain⟨hm,_,g1,rfl,kvs,g2,g3⟩:=DA R1 i1 e3;subst hm;cases e4;refine⟨_,kvs,rfl,g2,λvw hv=>?_⟩;obtain⟨E2,R2⟩:=R1.laid (vwC (x4 r.1) vw) hv;have hne:x4 r.1≠vw:=λz=>by rw[z,hv] at g2;cases g2
 refine⟨x4 r.1,vw,kvs,rfl,Bw,by rw[upd_ne hne];exact g2,?_⟩;exact J4 R2 (g3.ext E2).vals λx9 H3 E3 R3=>q x9 H3 ((E1.trans E2).trans E3) R3
end
end Mi
namespace Mi
open PySem L2
section
variable{X:Cx}
noncomputable def XZ:D->List D->M D
 | .ref n,[]=>EC n λds=>some (.non,ds.reverse)
 |_,_=>Bb
theorem IsL.rev:∀{ds:List D} {vs:List V},IsL K Y k H ds vs->IsL K Y k H ds.reverse vs.reverse
 |[],_,h=>by unfold IsL at h;subst h;exact IsL.nil
 |d::ds,_,h=>by
  unfold IsL at h;obtain⟨v,vs',rfl,h1,h2⟩:=h;rw[List.reverse_cons,List.reverse_cons];exact(IsL.rev h2).append (.one h1)
theorem Lf:∀{xs:List V} {us:List Value},Vals xs us->Vals xs.reverse us.reverse
 |_,_,.nil=>.nil
 |_,_,.cons r t=>by
  rw[List.reverse_cons,List.reverse_cons];exact(Lf t).append (.cons r .nil)
theorem P1:MtR X "list.reverse" (rMM X.kw XZ):=λw5 s O H x xs v us Q I rx rs h=>by
 obtain⟨Y,Z,a,as,d,Z',R,ia,ib,e,q⟩:=h;unfold XZ at e;split at e
 ·rename_i n;obtain⟨ds,es,h1,h2,rfl⟩:=EA e;cases h2;unfold IsL at ib;subst ib;cases rs;unfold Is at ia;obtain⟨_,rfl⟩:=ia;obtain⟨u,g1,vs,rfl,g2⟩:=R.obj n _ h1;cases rx;obtain⟨z,its,nn,r,hl2,e2⟩:=I.lstM g1;refine call_meets PySem.F.slot_list_reverse ⟨_,e2,rfl⟩ PySem.F.entry_list_reverse (PySem.F.args_list_reverse_1 _) (PySem.AutoSeq1.list_reverse_list_0 _ its.toArray nn (by rw[List.size_toArray,←hl2];exact z)) ⟨e2,?_⟩;exact⟨.non,_,I.lset (its':=its.reverse) (ys:=vs.reverse) g1 e2 (by rw[List.reverse_toArray]) (Lf r) (by rw[List.length_reverse];exact z),rfl,Fs R h1 g2.rev ofN q⟩
 ·cases e
end
end Mi
namespace L2
open PySem PySem.Spec PyProof.Rows Sem Ht
theorem Oa(xs:List Int):(CD xs).length<=xs.length:=Ek (Iq xs) λx hx=>(Ir xs x).mp hx
section
variable{prog:Program}{w:World}{A:Around}{E:Value->Shared->Prop}{s:Shared}
theorem Pc(hS:s.heap.SetOf (intKind prog w) S (λk=>decide (k∈CD xs)) (CD xs).length)(room:xs.length+2<scanBound)
  (q:∀b h' tk,Heap.SameBut S s.heap h'->h'.SetOf (intKind prog w) S (λk=>decide (k∈CD (xs++[x]))) (CD (xs++[x])).length->Q b { s with heap:=h',toks:=tk }) :
  wpAny (model prog w) A (setAdd S (.int x t)) Q E s:=by
 unfold setAdd;refine AAp (AAA ((intKind prog w).pyHash (intKind_is prog w x t) ?_));have le:=Oa xs;refine wpAny_setAddHashed_of (knd:=intKind prog w) (s:={ s with toks:=s.toks+1 }) (intKind_is prog w x t) rfl hS (by omega) λh' sb hS'=>q _ h' _ sb ?_;have e1:(λk':Int=>decide (k'∈CD xs)||decide (k'=x))=λk'=>decide (k'∈CD (xs++[x])):=by
  funext k'
  rw[Fx];split
  ·rename_i hx;by_cases e:k'=x
   ·subst e;simp[hx]
   ·simp[e]
  ·simp
 have e2:(if decide (x∈CD xs)=true then (CD xs).length else (CD xs).length+1)=(CD (xs++[x])).length:=by
  rw[Fx];by_cases hx:x∈CD xs<;>simp[hx]
 rw[e1,e2] at hS';exact hS'
theorem Pd(hh:A.in1.handled=none)(hlI:l≠I)(hSI:S≠I)(hSl:S≠l)(rv:Vals (ss.map V.int) its)(room:ss.length+2<scanBound):
  ∀(m i:Nat) (s:Shared),ss.length-i=m->i<=ss.length->s.heap.IsListIter I l i->s.heap.IsList l its.toArray->s.heap.SetOf (intKind prog w) S (λk=>decide (k∈CD (ss.take i))) (CD (ss.take i)).length->
   (∀h' tk,(∀c o,c≠S->c≠I->s.heap.get? c=some o->h'.get? c=some o)->h'.SetOf (intKind prog w) S (λk=>decide (k∈CD ss)) (CD ss).length->R (.ok (.ret .none)) { s with heap:=h',toks:=tk })->
   codeAny (model prog w) A (.builtin "set.update.loop" ⟨[.ref S,.ref I],[]⟩) R s:=by
 have hl:its.length=ss.length:=by have:=rv.length;simpa using this.symm
 have W:=Walks.list (prog:=prog) (w:=w) hh I l hlI its.toArray;intro m
 induction m with
 |zero=>
  intro i s hm hi hit hls hS q;have ei:i=ss.length:=by omega
  subst ei;refine codeAny_builtin PyProof.Rows.F.entry_set_update_loop ?_;rw[Around.under_plainId PyProof.Rows.F.plain_set_update_loop _];refine AAA (m:=pyNext (.ref I)) (W.done s _ _ ⟨by rw[List.size_toArray,hl];exact hit,hls⟩ λh' tk kp=>AAB ?_);rw[List.take_length] at hS;obtain⟨o,es,ep,tb,ho,rest⟩:=hS;exact q h' tk (λc o _ c2 e=>kp c o (by simpa using c2) e) ⟨o,es,ep,tb,kp S o (by simpa using hSI) ho,rest⟩
 |succ m ih=>
  intro i s hm hi hit hls hS q;have lt:i<ss.length:=by omega
  refine codeAny_builtin PyProof.Rows.F.entry_set_update_loop ?_;rw[Around.under_plainId PyProof.Rows.F.plain_set_update_loop _];refine AAA (m:=pyNext (.ref I)) (W.item i s _ _ (by rw[List.size_toArray,hl];exact lt) ⟨hit,hls⟩ λv h' tk hv st kp=>?_);obtain⟨u,eu,ru⟩:=rv.get (show (ss.map V.int)[i]?=some (V.int ss[i]) by simp[lt]);have hv':its[i]?=some v:=by simpa using hv
  rw[eu] at hv';cases hv';obtain⟨t,rfl⟩:=ru;obtain⟨o,es,ep,tb,ho,rest⟩:=hS;have hS1:h'.SetOf (intKind prog w) S (λk=>decide (k∈CD (ss.take i))) (CD (ss.take i)).length:=⟨o,es,ep,tb,kp S o (by simpa using hSI) ho,rest⟩;refine AAA (AAp (Pc (s:={ s with heap:=h',toks:=tk }) hS1 (by rw[List.length_take];omega) λb h2 t2 sb hS2=>?_));have tk1:ss.take i++[ss[i]]=ss.take (i+1):=by rw[List.take_succ,AAu lt];rfl
  rw[tk1] at hS2;have k2:∀c o,c≠S->h'.get? c=some o->h2.get? c=some o:=λc o hc e=>(sb.2 c hc).trans e;refine AAB ⟨plainId_quiet PyProof.Rows.F.plain_set_update_loop _,ih (i+1) _ (by omega) lt (st.1.at λo e=>k2 I o hSI.symm e) (st.2.at λo e=>k2 l o hSl.symm e) hS2 λh3 t3 kp3 hS3=>?_⟩;exact q h3 t3 (λc o c1 c2 e=>kp3 c o c1 c2 (k2 c o c1 (kp c o (by simpa using c2) e))) hS3
set_option maxHeartbeats 2000000 in
theorem QN(hh:A.handled=none)(hl:s.heap.IsList l its.toArray)(rv:Vals (ss.map V.int) its)(room:ss.length+2<scanBound)
  (q:∀h' tk,(∀c o,s.heap.get? c=some o->h'.get? c=some o)->h'.SetOf (intKind prog w) s.heap.objs.size (λk=>decide (k∈CD ss)) (CD ss).length->Q (.ref s.heap.objs.size) { s with heap:=h',toks:=tk }) :
  wpAny (model prog w) A (call (.type "set") [.ref l]) Q E s:=by
 refine VN F.called_set (F.typeCall_set_1 _) (code_set_new_1 (.ref l) (Q₁:=λx s₁=>∃led:Bool,x=.ref s.heap.objs.size/\s₁={ s with heap:=s.heap.push (C1 led) }) λled=>⟨led,rfl,rfl⟩) ?_;rintro x s₁ ⟨led,rfl,rfl⟩;have at_S:(s.heap.push (C1 led)).get? s.heap.objs.size=some (C1 led):=AAD _ rfl;have ty:Shared.TypeIs { s with heap:=s.heap.push (C1 led) } (.ref s.heap.objs.size) "set" := ⟨_,at_S,rfl⟩;have lt:l<s.heap.objs.size:=by obtain⟨o,e,_⟩:=hl;exact Heap.lt_size e
 have hl1:(s.heap.push (C1 led)).IsList l its.toArray:=hl.push _;have tyl:Shared.TypeIs { s with heap:=s.heap.push (C1 led) } (.ref l) "list" := hl1.typeIs;refine⟨ty,codeAny_call_builtin F.called_set.init.plain F.entry_set_init (check_set_init_1 ty ?_)⟩;have c1:=F.sub_list_set;have c2:=F.sub_list_frozenset;unfold Builtin.«set.__init__» noKeywords Builtin.Frozenset.updateFrom;have walk:∀(A:Around) (E:Value->Shared->Prop) (Q:Value->Shared->Prop),Q (.ref (s.heap.push (C1 led)).objs.size) { s with heap:=(s.heap.push (C1 led)).push { cls:=.type "list_iterator",data:=.fields #[.ref l,.int 0 0] } }->wpAny (model prog w) A (pyIter (.ref l)) Q E { s with heap:=s.heap.push (C1 led) }:=λA E Q z=>wpAny_pyIter_list hl1 z
 wp_walk using walk
 have sz:(s.heap.push (C1 led)).objs.size=s.heap.objs.size+1:=Heap.size_push ..;refine Pd (l:=l) (ss:=ss) (A:=A.in1.in1) (by simp[hh]) (by rw[sz];exact AAe (AAi lt)) (by rw[sz];exact AAe (Nat.lt_succ_self _)) (Nat.ne_of_gt lt) rv room ss.length 0 _ (Nat.sub_zero _) (AAk _) ⟨_,AAD _ rfl,rfl,rfl⟩ (hl1.push _) ?start λh' tk kp hS=>?fin
 case start=>
  exact(setObjOf_fresh (knd:=intKind prog w) led).setOf (AAC _ at_S) (by decide)
 case fin=>
  have ltS:∀{c:Addr} {o:Obj},s.heap.get? c=some o->c<s.heap.objs.size:=λe=>Heap.lt_size e;exact AAB (AAB ⟨rfl,q h' tk (λc o e=>kp c o (AAe (ltS e)) (by rw[sz];exact AAe (AAi (ltS e))) (AAC _ (AAC _ e))) hS⟩)
end
noncomputable def Um(P:Program)(w:World)(p:Addr)(ss:List Int):HO:=.ext λh=>h.SetOf (intKind P w) p (λk=>decide (k∈CD ss)) (CD ss).length
section
variable{X:Cx}
theorem Nm(hc:X.calm=true):Bo X (.type "set") (λxs H Q=>∃a ss,xs=[.ref a]/\SqL X.kw H a (ss.map V.int)/\ss.length+2<scanBound/\∀p,H p=none->Q (.ref p) (upd H p (Um X.prog X.w p ss))):=by
 intro w5 s O H xs us Q I r h;obtain⟨a,ss,rfl,ha,room,q⟩:=h;obtain⟨u,rfl,ru⟩:=Vals.one r;cases ru;obtain⟨its,rv,pl,hz⟩:=I.list ha;refine QN (I.ok.hd hc) pl.isList rv room λh' tk kp hS=>?_;refine⟨.ref s.heap.objs.size,_,I.laid (o:=Um X.prog X.w s.heap.objs.size ss) kp (AAE _) ?_,rfl,q _ (I.hok.fresh (AAE _))⟩;obtain⟨o,es,ep,t,e,rest⟩:=id hS;refine⟨hS,⟨o,e⟩,λh1 h2 z k=>?_⟩;obtain⟨o,es,ep,t,e,rest⟩:=z;exact⟨o,es,ep,t,k o e,rest⟩
theorem QR:Bo X (.builtin "len") (λxs H Q=>∃p ss,xs=[.ref p]/\H p=some (Um X.prog X.w p ss)/\Q (.int (CD ss).length) H):=by
 intro w5 s O H xs us Q I r h;obtain⟨p,ss,rfl,hp,q⟩:=h;obtain⟨u,rfl,ru⟩:=Vals.one r;cases ru;obtain⟨hS,_⟩:=I.hok p _ hp;obtain⟨o,es,ep,t,e,ex,hd,_,_,hb,hf,hn⟩:=hS;refine call_len_set e ex hd hf (by unfold scanBound at hb;omega) ?_;rw[hn];exact⟨.int (CD ss).length,H,I.tok _,⟨_,rfl⟩,q⟩
end
end L2
namespace Mi
open PySem L2 Ht Nk
noncomputable def FG(d:D):M D:=bnd (Ca d) λds=>λZ=>match C7 ds with
 |some ss=>if ss.length+2<scanBound then some (.int (CD ss).length,Z) else none
 |none=>none
section
variable{X:Cx}{e:Expr}{pos p p2 pos2:Pos}
theorem Ii(yl:X.mg "len" = none)(ys:X.mg "set" = none)(he:RE X e m)(hc:X.calm=true:=by rfl)(hgl:Gl X "len" := by rfl)(hgs:Gl X "set" := by rfl)(hst:HN e=false:=by rfl):
  RE X (.Call (.Name "len" p) [.Call (.Name "set" p2) [e] [] pos2] [] pos) (mUn FG m):=by
 have hs:PE X (.Call (.Name "set" p2) [e] [] pos2) _:=Ej (Nm hc) hgs ys Mi.Tf (Fv he.pe HK (BE hst)) (by decide) (by decide) (BE hst) rfl;refine RE.wk (MA QR hgl yl Mi.Av (Fv hs HK (BE rfl)) (by decide) (by decide) (BE rfl) rfl) λO H Q h=>?_;obtain⟨Y,Z,B,d,Z',R,S,ev,q⟩:=h;obtain⟨x,w6,e1,e2⟩:=AF ev;obtain⟨ds,w9,e3,e4⟩:=AF e2;refine⟨Y,Z,B,x,w6,R,S,e1,λx4 H1 E1 R1 v1 i1=>?_⟩;obtain⟨hm,a,vs,rfl,h1,h2⟩:=C9 R1 i1 e3;subst hm;cases hx:C7 ds with
 |none=>rw[hx] at e4;cases e4
 |some ss=>
  rw[hx] at e4;have e5:(if ss.length+2<scanBound then some (D.int (CD ss).length,w9) else none)=some (d,Z'):=e4;split at e5
  ·rename_i room;cases e5;refine⟨a,ss,rfl,by rw[←IsL.ints (by rw[←Fh hx];exact h2)];exact h1,room,λp hp=>?_⟩;obtain⟨E2,R2⟩:=R1.laid (Um X.prog X.w p ss) hp;exact⟨p,ss,rfl,Bw,q x4 _ (E1.trans E2) R2 _ (ofI _)⟩
  ·cases e5
end
section
variable{X:Cx}
noncomputable def Gj:List D->M D
 |[d]=>bnd (G5 d) λr=>λZ=>some (.lst (r.2.map λy=>csD y.1),Z)
 |_=>Bb
theorem Td(hc:X.calm=true):Bo X (.type "list") (rMA X.kw Gj):=λw5 s O H xs us Q I r h=>by
 obtain⟨Y,Z,as,d,Z',R,ia,e,q⟩:=h;unfold Gj at e;split at e
 ·obtain⟨rr,w6,e1,e2⟩:=AF e;obtain⟨v,rfl,i1⟩:=Dv ia;obtain⟨hm,_,g1,rfl,kvs,g2,g3⟩:=DA R i1 e1;subst hm;cases e2;exact JS hc w5 s O H _ us Q I r ⟨_,kvs,rfl,g2,J4 R g3.isL q⟩
 ·cases e
end
end Mi
namespace Mi
open PySem L2 PySem.Builtin.Str
noncomputable def NA:List D->M D
 |[.int i]=>λZ=>if i.natAbs.log2<1920 then some (.str (Str.ofString (toString i)),Z) else none
 |[.str x]=>ret (.str x)
 |_=>Bb
section
variable{X:Cx}
theorem aL:Bo X (.type "str") (rMA X.kw NA):=λw5 s O H xs us Q I r h=>by
 obtain⟨Y,Z,as,d,Z',R,ia,e,q⟩:=h;unfold NA at e;split at e
 ·split at e
  ·rename_i hl;obtain⟨v,rfl,i1⟩:=Dv ia;cases e;cases B0 i1;exact LN w5 s O H _ us Q I r ⟨_,rfl,hl,q Y H R.ext0 R _ (ofS _)⟩
  ·cases e
 ·obtain⟨v,rfl,i1⟩:=Dv ia;cases e;cases D1 i1;obtain⟨u,rfl,t,rfl⟩:=DC r;exact PySem.P.str_of_str ⟨.str _,H,I,⟨_,rfl⟩,q Y H R.ext0 R _ (ofS _)⟩
 ·cases e
end
end Mi
namespace K18
open PySem L2 Mi Nk
open K13 (A8 BG BY Bt BZ By Ba Bu CH Bv Ad Ae BD Ai A5 BW Ax BM B3 BN)
open K16 (BU BT CF A2 Ap Ao BK An d_NONE A6 EL CT)
noncomputable def m_are_unlike  : Sl->M (Fl×Sl):=
  (Az (mOp Ah (mUn FG (AA 0)) (AG Bh (AC (AA 0) AL))))
noncomputable def CJ(ST:List D->M D)(b5:List D->M D)(bx:List D->M D)(ba:List D->M D)(bj:List D->M D)(bh:List D->M D):Sl->M (Fl×Sl):=
  (AS (AW (AG b5 (AC (AG ST (AC (AA 0) (AC (AA 1) AL))) AL)) (AO 3))
  (AS (sIf (Du (AN (AG bx (AC (AA 2) (AC (AG Bh (AC (AA 3) AL)) AL))))) (Az (mC (.bl false))) BP)
  (Az (Ce (AG ba (AC (AA 3) (AC (AA 2) AL))) (Ce (AG bj (AC (AA 3) (AC (AA 2) AL))) (AG bh (AC (AA 3) (AC (AA 2) (AC (mOp AJ (AA 0) (mC (.int 2))) AL)))))))))
noncomputable def Da  : Sl->M (Fl×Sl):=
  (AS (AW (AG DJ AL) (AO 1))
  (AS (EO (ET (AC (AA 0) AL)) (CA [2,3]) (sIf (AN (mOp Ah (mOp AJ (AA 3) (mC (.int 0))) (mC (.str "begin")))) (BI (Aj Cw (AA 1) (AC (AG DJ (AC (mOp AJ (AA 3) (mC (.int 1))) (AC (mOp AJ (AA 3) (mC (.int 2))) (AC (AA 2) (AC (mC .non) AL))))) AL))) (AS (AW (mOp AJ (AA 1) (mOp AJ (AA 3) (mC (.int 3)))) (AO 4))
  (AS (AW (AA 2) (F7 (AA 4) (mC (.int 3))))
  (sIf (AN (mOp L6 (mOp AJ (AA 3) (mC (.int 1))) (mC (.int 0)))) (AW (mOp AJ (AA 3) (mC (.int 2))) (F7 (AA 4) (mC (.int 1)))) BP)))))
  (Az (AA 1))))
noncomputable def m_is_order(LT:List D->M D)(bn:List D->M D):Sl->M (Fl×Sl):=
  (Az (Ce (AG Cg (AC (AA 0) (AC (mC (.ty "list")) AL))) (Ce (AG QY (AC (Cd 1 [1] (DO (AA 0)) (AO 0) En (AG LT (AC (AA 0) (AC (mC (.int 0)) (AC (mOp Ef (AA 1) (mC (.int 1))) AL)))) Bn) AL)) (AG bn (AC (AA 0) AL)))))
noncomputable def CG  : Sl->M (Fl×Sl):=
  (AS (AW NP (AO 2))
  (AS (EO (DO (AA 1)) (AO 3) (ER (AA 2) (AA 3) (mC (.bl true))))
  (Az (AG QY (AC (Cd 2 [2] (ET (AC (AA 0) AL)) (CA [0,1]) (AN (mOp (Ci true) (mOp AJ (AA 1) (mC (.int 3))) (mC .non))) (mOp (Ji false) (AA 0) (AA 2)) Bn) AL)))))
noncomputable def Cz  : Sl->M (Fl×Sl):=
  (AS (AW (mUn L5 (mC (.int 1))) (AO 2))
  (AS (EO (DO (AA 1)) (AO 3) (AS (AW (mOp AJ (AA 0) (AA 3)) (AO 4))
  (AS (sIf (Co (AN (mOp (Ci true) (mOp AJ (AA 4) (mC (.int 3))) (mC .non))) (AN (mOp EF (mOp AJ (AA 4) (mC (.int 3))) (AA 2)))) (Az (mC (.bl false))) BP)
  (AW (AG SO (AC (AA 2) (AC (mOp AJ (AA 4) (mC (.int 2))) AL))) (AO 2)))))
  (Az (mC (.bl true)))))
noncomputable def Cn  : Sl->M (Fl×Sl):=
  (AS (AW (AA 2) (AO 3))
  (AS (EO (DO (AA 1)) (AO 4) (AS (AW (mOp AJ (AA 0) (AA 4)) (AO 5))
  (sIf (AN (mOp Ah (mOp AJ (AA 5) (mC (.int 0))) (mC (.int 0)))) (AW (mOp AJ (AA 5) (mC (.int 1))) (AO 3)) (sIf (Co (AN (mOp (Ci true) (mOp AJ (AA 5) (mC (.int 3))) (mC .non))) (AN (mOp FE (mOp AJ (AA 5) (mC (.int 1))) (AA 3)))) (Az (mC (.bl false))) BP))))
  (Az (mC (.bl true)))))
noncomputable def B5(ST:List D->M D)(bi:List D->M D)(bc:List D->M D)(b6:List D->M D):Sl->M (Fl×Sl):=
  (AS (AW (mOp Ef (AG Bh (AC (mOp AJ (AA 0) (mC (.int 4))) AL)) (mC (.int 1))) (AO 2))
  (AS (AW (K5 (AG Bf (AC (mOp AJ (AA 0) (mC (.int 2))) (AC (mC d_NONE) (AC (mOp Il (AG Bf (AC (mC d_NONE) AL)) (AA 2)) AL)))) (mC .non)) (AO 3))
  (AS (AW NP (AO 4))
  (AS (EO (DO (AG ST (AC (AA 0) (AC (AA 1) AL)))) (AO 5) (AS (ER (AA 4) (mOp AJ (AA 5) (mC (.int 1))) (mOp AJ (AA 5) (mC (.int 3))))
  (AW (AG bc (AC (AG bi (AC (AA 3) (AC (AA 5) AL))) (AC (AA 4) AL))) (AO 3))))
  (AS (sIf (Du (MJ (AA 3))) (Az (mC .non)) BP)
  (Az (AG b6 (AC (mOp AJ (mUn NT (AA 3)) (mC (.int 0))) AL))))))))
noncomputable def Cm(bm:List D->M D)(bq:List D->M D):Sl->M (Fl×Sl):=
  (AS (AW Of (AO 2))
  (AS (RL (AA 0) (CA [3,4]) (AS (sIf (AN (mOp Ah (mOp AJ (AA 1) (mC (.int 0))) (mC (.str "begin")))) (AW (AG bm (AC (AA 3) (AC (mOp AJ (AA 1) (mC (.int 1))) (AC (mOp AJ (AA 1) (mC (.int 2))) AL)))) (AO 5)) (AW (AG bq (AC (AA 3) (AC (mOp AJ (AA 1) (mC (.int 1))) (AC (mOp AJ (AA 1) (mC (.int 2))) AL)))) (AO 5)))
  (sIf (AN (mOp (Ci true) (AA 5) (mC .non))) (Ed (AA 2) (AA 5) (AA 4)) BP)))
  (Az (AA 2))))
noncomputable def Ck(b9:List D->M D):Sl->M (Fl×Sl):=
  (AS (AW Of (AO 2))
  (AS (RL (AG b9 (AC (AG Gj (AC (AA 0) AL)) AL)) (CA [3,4]) (sIf (AN (mOp (Ci false) (AA 4) (mC .non))) (Ed (AA 2) (AA 3) (mOp Gy (AA 0) (AA 3))) (Ed (AA 2) (AA 3) (AG Bf (AC (mOp D3 (AA 1) (mOp AJ (AA 4) (mC (.int 0)))) (AC (mOp Gy (AA 2) (mOp AJ (AA 4) (mC (.int 1)))) AL))))))
  (Az (AA 2))))
noncomputable def EH  : Sl->M (Fl×Sl):=
  (AS (AW (AG DJ AL) (AO 1))
  (AS (FY Ep (AN (mOp (Ci true) (AA 0) (mC .non))) (AS (BI (Aj Cw (AA 1) (AC (mOp AJ (AA 0) (mC (.int 0))) AL)))
  (AW (mOp AJ (AA 0) (mC (.int 1))) (AO 0))))
  (AS (BI (FF XZ (AA 1)))
  (Az (AA 1)))))
noncomputable def El  : Sl->M (Fl×Sl):=
  (AS (AW (AG DJ AL) (AO 2))
  (AS (AW NP (AO 3))
  (AS (EO (ET (AC (AA 1) AL)) (CA [4,5]) (sIf (AN (mOp Ah (mOp AJ (AA 5) (mC (.int 0))) (mC (.str "begin")))) (AS (ER (AA 3) (mOp AJ (AA 5) (mC (.int 1))) (AG Bh (AC (AA 2) AL)))
  (BI (Aj Cw (AA 2) (AC (AG DJ (AC (AA 4) (AC (mC .non) (AC (mOp AJ (AG Bn (AC (mC (.str "reads")) (AC (mC (.str "writes")) AL))) (AG Nc (AC (mOp Ah (AG Bh (AC (AA 5) AL)) (mC (.int 3))) AL))) (AC (mOp AJ (mOp As (AA 5) (AG Bf (AC (mC .non) AL))) (mC (.int 2))) AL))))) AL)))) (AS (AW (mOp AJ (AA 2) (mOp D3 (AA 3) (mOp AJ (AA 5) (mC (.int 1))))) (AO 6))
  (AS (AW (AA 4) (F7 (AA 6) (mC (.int 1))))
  (sIf (AN (mOp Ah (AG Bh (AC (AA 5) AL)) (mC (.int 3)))) (AW (mOp AJ (AA 5) (mC (.int 2))) (F7 (AA 6) (mC (.int 3)))) BP)))))
  (Az (AA 2)))))
noncomputable def Em  : Sl->M (Fl×Sl):=
  (AS (sIf (AN (mOp FE (Cd 2 [2] (ET (AC (AA 1) AL)) (CA [0,1]) (Co (AN (mOp (Ci true) (mOp AJ (AA 1) (mC (.int 1))) (mC .non))) (AN (mOp (FR true) (AA 0) (AA 2)))) (AA 0) Bn) (AG Bn AL))) (Az (mC (.bl false))) BP)
  (AS (AW (mOp AJ (AA 0) (mC (.int 2))) (AO 3))
  (AS (EO (ET (AC (AA 2) AL)) (CA [4,5]) (AS (sIf (AN (mOp FE (Cd 1 [1,5] (DO (EX (AA 2) DI (Cv (AA 4)))) (AO 0) (Co (AN (mOp (Ci true) (mOp AJ (mOp AJ (AA 1) (AA 2)) (mC (.int 1))) (mC .non))) (AN (mOp EF (mOp AJ (mOp AJ (AA 1) (AA 2)) (mC (.int 1))) (mOp AJ (mOp AJ (AA 1) (AA 0)) (mC (.int 0)))))) (AA 0) Bn) (AG Bn AL))) (Az (mC (.bl false))) BP)
  (sIf (AN (mOp Ah (mOp AJ (mOp AJ (AA 1) (AA 5)) (mC (.int 2))) (mC (.str "writes")))) (AW (mOp AJ (mOp AJ (AA 1) (AA 5)) (mC (.int 3))) (AO 3)) (sIf (Co (AN (mOp (Ci true) (mOp AJ (mOp AJ (AA 1) (AA 5)) (mC (.int 1))) (mC .non))) (AN (mOp FE (mOp AJ (mOp AJ (AA 1) (AA 5)) (mC (.int 3))) (AA 3)))) (Az (mC (.bl false))) BP))))
  (Az (mC (.bl true))))))
noncomputable def Dy:List D->M D:=EV 7 2 (El)
noncomputable def A4:List D->M D:=G1 .all 6 2 (Cm Ap Ao)
noncomputable def A3:List D->M D:=G1 .all 5 2 (Ck BK)
noncomputable def B2:List D->M D:=G1 .all 2 1 (EH)
noncomputable def CQ:List D->M D:=EV 5 1 (Da)
noncomputable def Bp:List D->M D:=Ay .drop 1 1 (m_are_unlike)
noncomputable def BH:List D->M D:=Ay .drop 2 2 (m_is_order Ae Bp)
noncomputable def BL:List D->M D:=Ay .drop 4 2 (CG)
noncomputable def Br:List D->M D:=Ay .drop 5 2 (Cz)
noncomputable def Bi:List D->M D:=Ay .drop 6 3 (Cn)
end K18
namespace Mi
open PySem L2
section
variable{X:Cx}
noncomputable def L9:D->List D->M D
 | .ref n,[.int i]=>EC n λds=>if 0<=i/\i<1000000 then (match ds[i.toNat]? with
  |some d=>some (d,ds.eraseIdx i.toNat)
  |none=>none) else none
 |_,_=>Bb
theorem SR:MtR X "list.pop" (rMM X.kw L9):=λw5 s O H x xs v us Q I rx rs h=>by
 obtain⟨Y,Z,a,as,d,Z',R,ia,ib,e,q⟩:=h;unfold L9 at e;split at e
 ·rename_i n i;obtain⟨ds,es,h1,h2,rfl⟩:=EA e;split at h2
  ·rename_i c;obtain⟨c1,c2⟩:=c;cases hd:ds[i.toNat]? with
   |none=>rw[hd] at h2;cases h2
   |some d0=>
    rw[hd] at h2;cases h2;obtain⟨w,rfl,iw⟩:=Dv ib;cases B0 iw;obtain⟨u1,rfl,t,rfl⟩:=DC rs;unfold Is at ia;obtain⟨_,rfl⟩:=ia;obtain⟨u,g1,vs,rfl,g2⟩:=R.obj n _ h1;cases rx;obtain⟨z,its,nn,r,hl2,e2⟩:=I.lstM g1;obtain⟨w,ew,iw⟩:=g2.get hd;obtain⟨u2,hu2,ru2⟩:=r.get ew;have hy:its.toArray[i.toNat]?=some u2:=by rw[←Array.getElem?_toList];exact hu2
    have hlt:=(AAT.mp hu2).1;have hk:seqIndex? i its.toArray.size=some i.toNat:=by
     have n0:¬i<0:=by omega
     have lt:i<((its.toArray.size:Nat):Int):=by rw[List.size_toArray];omega
     unfold seqIndex?;simp only[if_neg n0];rw[if_pos (by rw[Bool.and_eq_true];exact⟨AAO c1,AAO lt⟩)]
    refine call_meets PySem.F.slot_list_pop ⟨_,e2,rfl⟩ PySem.F.entry_list_pop (PySem.F.args_list_pop_2 _ _) (MeetsSeq.list_pop_at _ its.toArray nn i t i.toNat u2 ?_ hk hy (by rw[List.size_toArray];omega)) ⟨e2,?_⟩
    ·unfold Builtin.List.listFitsIndex;simp;omega
    ·refine⟨w,_,I.lset (its':=its.eraseIdx i.toNat) (ys:=vs.eraseIdx i.toNat) g1 e2 (by rw[List.eraseIdxIfInBounds_toArray]) (r.eraseIdx _) ?_,ru2,Fs R h1 (IsL.erase _ g2) iw q⟩;have:=List.length_eraseIdx_le vs i.toNat;omega
  ·cases h2
 ·cases e
end
section
variable{X:Cx}{e1 e2:Expr}{pos:Pos}{k:Nat}
noncomputable def Yr(b1 b2:D->Sl->M Sl):D->Sl->M Sl
 | .tup [x,y],B=>bnd (b1 x B) λx3=>b2 y x3
 |_,_=>Bb
theorem XX(hc:X.calm=true)(h1:RG X e1 b1)(h2:RG X e2 b2)(hs1:(assignEach [e1,e2] X.env).map (·.2)=assign e1 X.env::(assignEach [e2] X.env).map (·.2):=by rfl)(hs2:(assignEach [e2] X.env).map (·.2)=assign e2 X.env::(assignEach [] X.env).map (·.2):=by rfl)
  (hn:(assignEach [e1,e2] X.env).length=2:=by rfl) (hst:(assignEach [e1,e2] X.env).findIdx? (·.1)=none:=by rfl):RG X (.Tuple [e1,e2] k pos) (Yr b1 b2):=
 RG.wk (HJ hc (Ar h1.pe (Ar h2.pe Cb hs2) hs1) hn hst) λv O H Q h=>by
  obtain⟨Y,Z,B,d,B',Z',R,S,i1,e,q⟩:=h;unfold Yr at e;split at e
  ·rename_i x y;unfold Is at i1;obtain⟨p,vs,rfl,hq,i2⟩:=i1;obtain⟨v1,v2,rfl,ix,iy⟩:=Si i2;obtain⟨x3,w6,ea,eb⟩:=AF e;exact⟨p,[v1,v2],rfl,hq,rfl,v1,[v2],rfl,Y,Z,B,x,x3,w6,R,S,ix,ea,λx4 H1 E1 R1 u9 S1=>⟨v2,[],rfl,x4,w6,x3,y,B',Z',R1,S1,iy.ext E1,eb,λx5 H2 E2 R2 u6 S2=>⟨rfl,q x5 H2 (E1.trans E2) R2 u6 S2⟩⟩⟩
  ·cases e
end
section
variable{X:Cx}
noncomputable def ap:PyData->Bool
 | .list _=>true
 | .tuple _=>true
 |_=>false
noncomputable def GQ:List D->M D
 |[d]=>λZ=>match HF Z d with
  |some p=>if ap p=true/\p.showable=true/\p.hasDict=false/\p.depth<=60/\p.shown.length<=sizeLine then some (.str p.shown,Z) else none
  |none=>none
 |_=>Bb
theorem Yn(hr:Room k X.A)(hg:X.A.guards=some []):Bo X (.type "str") (rMA X.kw GQ):=λw5 s O H xs us Q I r h=>by
 obtain⟨Y,Z,as,d,Z',R,ia,e,q⟩:=h;unfold GQ at e;split at e
 ·rename_i d0;obtain⟨v,rfl,i1⟩:=Dv ia;split at e
  ·rename_i p e1;split at e
   ·rename_i c;cases e;obtain⟨c1,c2,c3,c4,c5⟩:=c;obtain⟨u,rfl,ru⟩:=DC r;have dv:=TK R i1 e1;obtain⟨bs,rd⟩:=dv.reads I ru;have hu:=Kr hr;obtain⟨a,rfl⟩:∃a,u=.ref a:=by
     cases rd with
     |list=>exact⟨_,rfl⟩
     |tuple=>exact⟨_,rfl⟩
     |_=>cases c1
    exact str_of_reads rd c2 (λz=>by rw[c3] at z;cases z) hg (by omega) (λ_ _ z=>z) (λh' t tk hk=>⟨.str _,H,I.kept hk,⟨_,rfl⟩,q Y H R.ext0 R _ (ofS _)⟩) c5
   ·cases e
  ·cases e
 ·cases e
end
section
variable{X:Cx}
noncomputable def GR:List D->M D
 |[.non]=>ret (.str "None")
 |[.int i]=>NA [.int i]
 |[.str x]=>NA [.str x]
 |[.ref n]=>λZ=>match Z[n]? with
  |some (.dK [])=>some (.str "{}",Z)
  |_=>GQ [.ref n] Z
 |ds=>GQ ds
theorem Tc(hr:Room k X.A):Bo X (.type "str") (rMA X.kw GR):=λw5 s O H xs us Q I r h=>by
 obtain⟨Y,Z,as,d,Z',R,ia,e,q⟩:=h;have old:NA as Z=some (d,Z')∨GQ as Z=some (d,Z')->wpAny (model X.prog X.w) X.A (call (.type "str") us) (EP X w5 O Q) X.xe s:=λz=>z.elim (λe=>aL w5 s O H xs us Q I r ⟨Y,Z,as,d,Z',R,ia,e,q⟩) λe=>Yn hr hr.gd w5 s O H xs us Q I r ⟨Y,Z,as,d,Z',R,ia,e,q⟩;unfold GR at e;split at e
 ·obtain⟨v,rfl,i1⟩:=Dv ia;cases e;cases LD i1;obtain⟨u,rfl,ru⟩:=DC r;cases ru;exact PySem.P.str_of_none ⟨.str _,H,I.tok _,⟨_,rfl⟩,q Y H R.ext0 R _ (ofS _)⟩
 ·exact old (.inl e)
 ·exact old (.inl e)
 ·rename_i n;split at e
  ·rename_i hq;cases e;obtain⟨v,rfl,i1⟩:=Dv ia;unfold Is at i1;obtain⟨_,rfl⟩:=i1;obtain⟨u0,rfl,ru⟩:=DC r;cases ru;obtain⟨u,h1,kvs,rfl,h2⟩:=R.obj n _ hq;have h2':kvs=[]:=h2;subst h2';obtain⟨_,hsm,vs,kv,o,es,ep,g1,g2,g3,_,g5,_⟩:=TD I.hok h1;cases kv;have he:es.toList=[]:=by cases hes:es.toList with
    |nil=>rfl
    |cons a b=>rw[hes] at g5;cases g5
   have rd:Reads s.heap (.ref (Y n)) (.dict []) [Y n]:=Reads.dict (as:=[]) (bs:=[]) g1 g2.1 g3 (by rw[he];exact .nil) (by rw[he];exact .nil);have hu:=Kr hr;exact str_of_reads rd (by decide) (λ_ z=>by rw[AAK] at z;rw[←z] at hsm;cases hsm) hr.gd (by
    have:(PyData.dict []).depth<=60:=by decide
    omega) (λ_ _ z=>z) (λh' t tk hk=>⟨.str _,H,I.kept (t':=tk) hk,⟨_,rfl⟩,q Y H R.ext0 R _ (ofS _)⟩)
  ·exact old (.inr e)
 ·exact old (.inr e)
end
end Mi
namespace Nk
open PySem PySem.Spec PyProof.Rows HT
noncomputable abbrev Pr:=Int×Int
noncomputable def prK(p:Pr):NK:=.tup [.int p.1,.int p.2]
noncomputable def KH(p:Pr):List Int:=[p.1,p.2]
noncomputable def pLt(a b:Pr):Bool:=F9 (KH a) (KH b)
theorem KG(h:KH a=KH b):a=b:=by
 obtain⟨a1,a2⟩:=a;obtain⟨b1,b2⟩:=b;simp only[KH,List.cons.injEq] at h;rw[h.1,h.2.1]
theorem Io(x:At h (prK c) v):∃a o items n t u,v=.ref a/\h.get? a=some o/\o.cls=.type "tuple" /\ o.data=.seq items n/\items.toList=[.int c.1 t,.int c.2 u]:=by
 unfold prK At at x;obtain⟨a,o,items,n,rfl,h1,h2,h3,h4⟩:=x;unfold Ats at h4;obtain⟨v1,r1,e1,a1,h4⟩:=h4;unfold Ats at h4;obtain⟨v2,r2,e2,a2,h4⟩:=h4;unfold Ats at h4;unfold At at a1 a2;obtain⟨t,rfl⟩:=a1;obtain⟨u,rfl⟩:=a2;subst h4 e2;exact⟨a,o,items,n,t,u,rfl,h1,h2,h3,e1⟩
section
variable{prog:Program}{w:World}{A:Around}{E:Value->Shared->Prop}{s:Shared}
theorem Ze(hu:A.units+8<cLine)(hx:At s.heap (prK a) x)(hy:At s.heap (prK b) y)(q:Q (pLt a b) s):wpAny (model prog w) A (keyLt' (tuples' true) x y) Q E s:=by
 obtain⟨x,ox,xs,n,t,u,rfl,h1,h2,h3,h4⟩:=Io hx;obtain⟨y,oy,ys,n',t',u',rfl,g1,g2,g3,g4⟩:=Io hy;refine PySem.W.kat_lt h1 h3 g1 g3 ?_;rw[h4,g4];unfold pLt KH at q;rw[Cq] at q;refine PySem.W.kat_cons (SeqAt.EqAt.int_int a.1 t b.1 t' prog w _ _ ?_);by_cases e1:a.1=b.1
 ·rw[beq_iff_eq.mpr e1];rw[if_pos e1,Cq] at q;refine PySem.W.kat_yes (PySem.W.kat_cons (SeqAt.EqAt.int_int a.2 u b.2 u' prog w _ _ ?_));by_cases e2:a.2=b.2
  ·rw[beq_iff_eq.mpr e2];rw[if_pos e2] at q;refine PySem.W.kat_yes (PySem.W.kat_nil ?_);have z1:xs.size=2:=by rw[←Array.length_toList,h4];rfl
   have z2:ys.size=2:=by rw[←Array.length_toList,g4];rfl
   rw[z1,z2];exact q
  ·rw[AAf.mpr e2];rw[if_neg e2] at q;refine PySem.W.kat_no ?_;exact PySem.W.kat_one _ _ (lt_int q)
 ·rw[AAf.mpr e1];rw[if_neg e1] at q;refine PySem.W.kat_no ?_;exact oneLt_int q
end
noncomputable abbrev Eu:Pr:=(0,0)
noncomputable def ltP(ks:List Pr)(i j:Nat):Bool:=pLt (ks.getD i Eu) (ks.getD j Eu)
theorem a8(nd:ks.Nodup):Sq.Ord ks.length (ltP ks) where
 tot:=λi j hi hj hne=>K7 λz=>hne (by
  have e:=KG z;have e1:ks.getD i Eu=ks[i]:=by simp[hi]
  have e2:ks.getD j Eu=ks[j]:=by simp[hj]
  rw[e1,e2] at e;exact(List.getElem_inj nd).mp e)
 tr:=λi j k h g=>NW h g
 irr:=λi=>K8 _
theorem Ui(P:Sq.Pm ks.length p)(u:Sq.Up (ltP ks) p ks.length):(p.toList.map λi=>ks.getD i Eu).Perm ks/\(p.toList.map λi=>ks.getD i Eu).Pairwise λx y=>pLt x y=true:=by
 constructor
 ·have h1:=P.map λi=>ks.getD i Eu;have h2:(List.range ks.length).map (λi=>ks.getD i Eu)=ks:=by
   apply List.ext_getElem
   ·simp
   ·intro i h1 h2;simp at h1;simp[h1]
  rw[h2] at h1;exact h1
 ·have hs:=P.size;rw[List.pairwise_map,List.pairwise_iff_getElem];intro i j hi hj hij;have hi':i<p.size:=by simpa using hi
  have hj':j<p.size:=by simpa using hj
  have:=u i j hij (by omega);have e1:p.getD i 0=p.toList[i]:=by simp[Array.getD,hi']
  have e2:p.getD j 0=p.toList[j]:=by simp[Array.getD,hj']
  rw[e1,e2] at this;exact this
section
variable{prog:Program}{w:World}{A:Around}{E:Value->Shared->Prop}{s:Shared}
theorem Ox:∀{ks:List Pr} {vs:List Value},Ats s.heap (ks.map prK) vs->∃fs:List Value,fs.length=vs.length/\PySem.W.KatTups s.heap vs fs/\∀v∈fs,∃i t,v=.int i t
 |[],_,a=>by
  unfold List.map Ats at a;subst a;exact⟨[],rfl,trivial,λv h=>by cases h⟩
 |k::ks,_,a=>by
  unfold List.map Ats at a;obtain⟨v,vs',rfl,a1,a2⟩:=a;obtain⟨fs,e,t,f⟩:=Ox a2;obtain⟨x,o,items,n,t1,u,rfl,h1,h2,h3,h4⟩:=Io a1;refine⟨.int k.1 t1::fs,by simp[e],PySem.W.KatTups.cons h1 h2 h3 ?_ t,λw hw=>(AAI.mp hw).elim (λz=>⟨_,_,z⟩) (f w)⟩;rw[←Array.getElem?_toList,h4];rfl
theorem Uj(hu:A.units+8<cLine)(ho:s.heap.get? a=some (seqObj "list" vs.toArray n))(hk:Ats s.heap (ks.map prK) vs)(nd:ks.Nodup)(h64:vs.length<64)
  (h:∀(out:List Value) (ks':List Pr),Ats s.heap (ks'.map prK) out->ks'.Perm ks->ks'.Pairwise (λx y=>pLt x y=true)->(∀v∈out,v∈vs)->P (.done (.ret .none)) { s with heap:=sortedHeap s.heap a vs out.toArray }) :
  wpAny (model prog w) A (Builtin.«list.sort» ⟨[.ref a],[]⟩) P E s:=by
 have hlen:vs.length=ks.length:=by have:=hk.len;simpa using this
 have ha:a<s.heap.objs.size:=Heap.lt_size ho;have ho1:=get?_update_seq ho (λ_=>(#[]:Array Value));rw[list_sort_plain];refine AAA (listItems_at ho rfl (AAA (listUpdate_at ho rfl ?_ (by rw[List.size_toArray,sizeLine_eq];omega) (AAk _))));refine AAA (seqEpoch_at ho1 rfl (AAA (wpAny_newTuple ?_ (by show vs.length<=_;rw[sizeLine_eq];omega))));refine AAA (wpAny_newList ?_ (AAk _));refine AAp ?_;show wpAny (model prog w) A _ P E { s with heap:=((s.heap.update a (Obj.mapSeq λ_=>(#[]:Array Value))).push (seqObj "tuple" vs.toArray 0)).push (seqObj "list" #[] 0) };generalize hG:((s.heap.update a (Obj.mapSeq λ_=>(#[]:Array Value))).push (seqObj "tuple" vs.toArray 0)).push (seqObj "list" #[] 0)=G;have ho6:G.get? a=(s.heap.update a (Obj.mapSeq λ_=>(#[]:Array Value))).get? a:=by
  rw[←hG,Heap.get?_push_ne _ _ _ (by rw[size_push',Heap.size_update];exact AAe (AAi ha)),Heap.get?_push_ne _ _ _ (by rw[Heap.size_update];exact AAe ha)]
 rw[ho1] at ho6;have kp:∀b o items m,s.heap.get? b=some o->o.cls=.type "tuple" -> o.data=.seq items m->G.get? b=some o:=λb o items m e c _=>by
  have hb:b<s.heap.objs.size:=Heap.lt_size e;have hne:b≠a:=λz=>by
   subst z;rw[ho] at e;cases e;exact absurd (show (Value.type "list")=.type "tuple" from c) (by decide)
  rw[←hG,Heap.get?_push_ne _ _ _ (by rw[size_push',Heap.size_update];exact AAe (AAi hb)),Heap.get?_push_ne _ _ _ (by rw[Heap.size_update];exact AAe hb),Heap.get?_update_ne _ _ _ _ hne];exact e
 have hkG:Ats G (ks.map prK) vs:=hk.kept kp;have fin:∀out:List Value,out.length=vs.length->(∀ks':List Pr,Ats s.heap (ks'.map prK) out->True)->sortedHeap s.heap a vs out.toArray=G.update a (Obj.mapSeq λ_=>out.toArray):=λout _ _=>by rw[←hG];rfl
 dsimp only;by_cases h2:vs.toArray.size<2
 ·rw[if_pos h2,if_pos h2];have h2':vs.length<2:=by simpa using h2
  refine AAA (AAB ?_);rw[StateT.run_pure];refine AAA (AAB ?_);dsimp only;have ex:(arrOf (SortSt.mk' general' (vs.toArray.zip vs.toArray) #[] 7 none)).map (·.2)=vs.toArray:=by
   show (vs.toArray.zip vs.toArray).map (·.2)=vs.toArray;apply Array.toList_inj.mp;rw[Array.toList_map,Array.toList_zip];exact List.map_snd_zip (by simp)
  refine AAA (seqEpoch_at ho6 rfl (AAA (listUpdate_at ho6 rfl ?_ (AAk _) (by rw[ex,List.size_toArray,sizeLine_eq];omega))));simp only[bne_self_eq_false,Bool.false_eq_true,if_false];have:=h vs ks hk (List.Perm.refl _) (by
   match ks,hlen with
   |[],_=>exact List.Pairwise.nil
   |[x],_=>exact List.pairwise_singleton _ _
   |_::_::_,e=>simp at e;omega) (λ_ z=>z)
  rw[fin vs rfl λ_ _=>trivial] at this;refine AAB ?_;rw[ex];exact this
 ·rw[if_neg h2,if_neg h2];have h2':2<=vs.length:=by simpa using h2
  obtain⟨fs,fl,ft,fi⟩:=Ox (s:={ s with heap:=G }) hkG;refine AAA (PySem.W.kat_kind (T:=.type "int") ft (by omega) (λv hv=>by
   obtain⟨i,t,rfl⟩:=fi v hv;exact PySem.W.Looks.of_pure rfl) rfl ?_)
  have ord:=a8 nd;have hN:2<=ks.length:=by omega
  obtain⟨pm,up⟩:=Sq.sort_run ord hN;have ask:(PySem.W.kas_sort vs.length).kasWp (PySem.W.kas_ask prog w A (tuples' (Value.type "int" != Value.type "tuple")) vs) (λp s''=>p=Sq.run (ltP ks) (PySem.W.kas_sort ks.length)/\s''={ s with heap:=G }) { s with heap:=G }:=by
   rw[hlen];refine Sq.wp_of (N:=ks.length) (lt:=ltP ks) (λi j C hi hj hC=>?_) _ (Sq.sort_bd ord hN) ⟨rfl,rfl⟩;obtain⟨v,e1,a1⟩:=hkG.get i (prK ks[i]) (by simp[hi]);obtain⟨v',e2,a2⟩:=hkG.get j (prK ks[j]) (by simp[hj]);unfold PySem.W.kas_ask;have g1:vs.getD i Value.none=v:=by rw[List.getD_eq_getElem?_getD,e1];rfl
   have g2:vs.getD j Value.none=v':=by rw[List.getD_eq_getElem?_getD,e2];rfl
   rw[g1,g2];refine Ze (s:={ s with heap:=G }) hu a1 a2 ?_;unfold ltP at hC;have k1:ks.getD i Eu=ks[i]:=by simp[hi]
   have k2:ks.getD j Eu=ks[j]:=by simp[hj]
   rw[k1,k2] at hC;exact hC
  refine AAA (AAj (PySem.W.kat_run (ks:=vs) (Q:=λst' s'=>(arrOf st').map (·.2)=List.toArray ((Sq.run (ltP ks) (PySem.W.kas_sort ks.length)).toList.map λi=>vs.getD i Value.none)/\failedOf st'=none/\s'={ s with heap:=G }) rfl h2' h64 (λp' st' s' b1 b2 b3 b4=>⟨by rw[PySem.W.kat_snds rfl b2,b4.1],b3,b4.2⟩) ask) ?_ λ_ _ e=>e);rintro⟨⟨⟩,st'⟩ s' ⟨har,hf,rfl⟩;dsimp only;have hsz:((arrOf st').map (·.2)).size=vs.length:=by rw[har,List.size_toArray,AAF,Array.length_toList,pm.size,hlen]
  refine AAA (seqEpoch_at ho6 rfl (AAA (listUpdate_at ho6 rfl ?_ (AAk _) (by rw[hsz,sizeLine_eq];omega))));rw[hf];simp only[bne_self_eq_false,Bool.false_eq_true,if_false];obtain⟨s1,s2⟩:=Ui pm up;have oa:Ats s.heap ((((Sq.run (ltP ks) (PySem.W.kas_sort ks.length)).toList.map λi=>ks.getD i Eu)).map prK) ((Sq.run (ltP ks) (PySem.W.kas_sort ks.length)).toList.map λi=>vs.getD i Value.none):=by
   refine Ats.of_get (by simp) λi k v e1 e2=>?_;rw[AAV,AAV] at e1;rw[AAV] at e2;cases e:(Sq.run (ltP ks) (PySem.W.kas_sort ks.length)).toList[i]? with
   |none=>rw[e] at e2;cases e2
   |some j=>
    rw[e] at e1 e2;cases e1;cases e2;have hj:j<ks.length:=List.mem_range.mp (pm.mem_iff.mp (AAU e));obtain⟨v,g1,g2⟩:=hk.get j (prK ks[j]) (by simp[hj]);show At s.heap (prK (ks.getD j Eu)) (vs.getD j Value.none);rw[show ks.getD j Eu=ks[j] by simp[hj],List.getD_eq_getElem?_getD,g1];exact g2
  have sub:∀v∈(Sq.run (ltP ks) (PySem.W.kas_sort ks.length)).toList.map (λi=>vs.getD i Value.none),v∈vs:=λv hv=>by
   obtain⟨j,hj,rfl⟩:=AAL.mp hv;have hj:j<vs.length:=by rw[hlen];exact List.mem_range.mp (pm.mem_iff.mp hj)
   rw[List.getD_eq_getElem?_getD,AAu hj];exact List.getElem_mem hj
  have:=h _ _ oa s1 s2 sub;rw[fin _ (by rw[AAF,Array.length_toList,pm.size,hlen]) λ_ _=>trivial,←har] at this;exact AAB this
end
end Nk
namespace Nk
open PySem PySem.Spec PyProof.Rows PySem.SeqAt
noncomputable def Ho(ks:List Pr):List Pr:=ks.mergeSort λa b=>!pLt b a
theorem Q1{α:Type}{R:α->α->Prop}(tr:∀a b c,R a b->R b c->R a c)(irr:∀a,¬R a a):∀{xs ys:List α},xs.Pairwise R->ys.Pairwise R->xs.Perm ys->xs=ys
 |[],ys,_,_,p=>by cases p.symm.eq_nil;rfl
 |x::xs,[],_,_,p=>by cases p.eq_nil
 |x::xs,y::ys,hx,hy,p=>by
  obtain⟨x1,x2⟩:=List.pairwise_cons.mp hx;obtain⟨y1,y2⟩:=List.pairwise_cons.mp hy;have e:x=y:=by
   rcases AAI.mp (p.mem_iff.mp AAP) with e|e
   ·exact e
   ·rcases AAI.mp (p.symm.mem_iff.mp AAP) with e' | e'
    ·exact e'.symm
    ·exact(irr _ (tr _ _ _ (y1 x e) (x1 y e'))).elim
  subst e;rw[Q1 tr irr x2 y2 (List.Perm.cons_inv p)]
theorem Ea(ks:List Pr):(Ho ks).Perm ks:=List.mergeSort_perm _ _
theorem Kw(h:pLt a b=true)(g:pLt b c=true):pLt a c=true:=NW h g
theorem Hw(a:Pr):pLt a a=false:=K8 _
theorem OU(h:a≠b):pLt a b=true∨pLt b a=true:=K7 λz=>h (KG z)
theorem pLe(a b:Pr):(!pLt b a)=true↔a=b∨pLt a b=true:=by
 by_cases e:a=b
 ·subst e;simp[Hw]
 ·rcases OU e with h|h
  ·cases q:pLt b a
   ·simp[h]
   ·have:=Kw h q;rw[Hw] at this;cases this
  ·cases q:pLt a b
   ·simp[h,e]
   ·have:=Kw h q;rw[Hw] at this;cases this
theorem Uh{ks l:List Pr}(nd:l.Nodup)(p:ks.Perm l)(u:ks.Pairwise λx y=>pLt x y=true):ks=Ho l:=by
 refine Q1 (R:=λx y=>pLt x y=true) (λa b c=>Kw) (λa h=>by rw[Hw] at h;cases h) u ?_ (p.trans (Ea l).symm);have s:=List.pairwise_mergeSort (le:=λa b:Pr=>!pLt b a) (λa b c h g=>by
  rw[pLe] at h g ⊢;rcases h with rfl|h
  ·exact g
  ·rcases g with rfl|g
   ·exact .inr h
   ·exact .inr (Kw h g)) (λa b=>by
  rw[Bool.or_eq_true,pLe,pLe];by_cases e:a=b
  ·exact .inl (.inl e)
  ·exact(OU e).imp .inr .inr) l
 have n:(Ho l).Nodup:=(Ea l).nodup_iff.mpr nd;exact(List.pairwise_and_iff.mpr ⟨s,n⟩).imp λ{a b} h=>((pLe a b).mp h.1).resolve_left h.2
section
variable{prog:Program}{w:World}{A:Around}{E:Value->Shared->Prop}{s:Shared}
theorem NC(hu:A.units+16<cLine)(hl:s.heap.IsList l vs.toArray)(hk:Ats s.heap (ks.map prK) vs)(nd:ks.Nodup)(h64:vs.length<64)
  (q:∀(h1 h':Heap) tk c (out:List Value) (ks':List Pr),(∀b o,s.heap.get? b=some o->h1.get? b=some o)->(∀b o,h1.get? b=some o->h'.get? b=some o)->h'.get? h1.objs.size=some (seqObj "list" out.toArray c)->Ats h1 (ks'.map prK) out->ks'=Ho ks->(∀v∈out,v∈vs)->Q (.ref h1.objs.size) { s with heap:=h',toks:=tk }) :
  wpAny (model prog w) A (call (.builtin "sorted") [.ref l]) Q E s:=by
 refine Calls.call_function_entry kind_sorted plain_sorted entry_sorted (args_sorted1 _) ?_;unfold Builtin.«sorted»;refine AAA (wpAny_of_eq (a:=()) rfl ?_);refine AAA (collect_list hl ?_ (by rw[sizeLine_eq];omega));generalize hh1:(s.heap.push (seqObj "list" #[] 0)).update s.heap.objs.size (Obj.mapSeq (·++vs.toArray))=h1;have k1:∀b o,s.heap.get? b=some o->h1.get? b=some o:=λb o e=>by
  have hb:b≠s.heap.objs.size:=AAe (Heap.lt_size e);rw[←hh1,Heap.get?_update_ne _ _ _ _ hb];exact AAC _ e
 refine AAA (wpAny_newList ?_ (by rw[sizeLine_eq];omega));have hL:(h1.push (seqObj "list" vs.toArray 0)).get? h1.objs.size=some (seqObj "list" vs.toArray 0):=AAD _ rfl;have kL:∀b o,h1.get? b=some o->(h1.push (seqObj "list" vs.toArray 0)).get? b=some o:=λb o e=>AAC _ e;have hk1:Ats h1 (ks.map prK) vs:=hk.kept λb o items n e _ _=>k1 b o e;have hkL:Ats (h1.push (seqObj "list" vs.toArray 0)) (ks.map prK) vs:=hk1.kept λb o items n e _ _=>kL b o e;refine AAA (AAp (AAd slot_list_sort ⟨_,hL,rfl⟩ entry_list_sort (Uj (s:={ s with heap:=h1.push (seqObj "list" vs.toArray 0) }) (by show A.units+1+1+8<cLine;omega) hL hkL nd (by omega) λout ks' a1 a2 a3 a4=>⟨_,rfl,?_⟩) (args_list_sort _)));obtain⟨c,hc⟩:=sortedHeap_at (out:=out.toArray) hL;have em:=Uh nd a2 a3;have a1':Ats h1 (ks'.map prK) out:=by
  refine Ats.of_get (by have:=a1.len;simpa using this) λi k v e1 e2=>?_;obtain⟨v',f1,f2⟩:=a1.get i k e1;rw[e2] at f1;cases f1;have hv:v∈vs:=a4 v (AAU e2);obtain⟨j,hj,ej⟩:=List.getElem_of_mem hv;have hjk:j<ks.length:=by have:=hk1.len;simp at this;omega
  obtain⟨v2,g1,g2⟩:=hk1.get j (prK ks[j]) (by simp[hjk]);rw[AAu hj,ej] at g1;cases g1;have same:=At.inj (At.kept g2 λb o items n e _ _=>kL b o e) f2;rw[←same];exact g2
 exact AAB ⟨_,rfl,q h1 _ _ c out ks' k1 (λb o e=>by rw[sortedHeap_old (AAe (Heap.lt_size e)) (Heap.lt_size (kL b o e))];exact kL b o e) hc a1' em a4⟩
end
end Nk
namespace Mi
open PySem L2 Ht Nk
noncomputable def prD(p:Pr):D:=.tup [.int p.1,.int p.2]
noncomputable def NI:List D->Option (List Pr)
 |[]=>some []
 | .tup [.int a,.int b]::r=>(NI r).map ((a,b)::·)
 |_=>none
theorem Jv:∀{ds:List D} {ks:List Pr},NI ds=some ks->ds=ks.map prD
 |[],_,h=>by cases h;rfl
 |d::r,ks,h=>by
  unfold NI at h;split at h
  ·rename_i z;cases z
  ·rename_i a b r' z;cases z;cases q:NI r with
   |none=>rw[q] at h;cases h
   |some ks'=>rw[q] at h;cases h;rw[Jv q];rfl
  ·cases h
theorem L8:∀ks:List Pr,NI (ks.map prD)=some ks
 |[]=>rfl
 |k::ks=>by rw[AAW];show (NI (ks.map prD)).map (k::·)=_;rw[L8 ks];rfl
section
variable{X:Cx}{w5:List (Addr×Obj)}{O:St}{H:Hp}{s:Shared}{Y:Nat->Addr}{k:Nat}
theorem WZ(I:Inv X w5 O H s)(i:Is X.kw Y k H (prD c) v)(r:RelV v u):At s.heap (prK c) u:=by
 unfold prD Is at i;obtain⟨p,vs,rfl,h1,h2⟩:=i;cases r;obtain⟨its,rv,⟨o,g1,g2,n,g3⟩,_⟩:=I.tuple h1;obtain⟨v1,v2,rfl,i1,i2⟩:=Si h2;unfold Is at i1 i2;subst i1 i2;obtain⟨u1,u2,rfl,⟨t1,rfl⟩,⟨t2,rfl⟩⟩:=Qy rv;unfold prK At;refine⟨p,o,_,n,rfl,g1,g2,g3,?_⟩;unfold Ats At;exact⟨_,_,rfl,⟨t1,rfl⟩,by unfold Ats At;exact⟨_,_,rfl,⟨t2,rfl⟩,by unfold Ats;rfl⟩⟩
theorem PL(I:Inv X w5 O H s):∀{ks:List Pr} {vs:List V} {us:List Value},IsL X.kw Y k H (ks.map prD) vs->Vals vs us->Ats s.heap (ks.map prK) us
 |[],_,_,i,r=>by
  unfold List.map IsL at i;subst i;cases r;unfold List.map Ats;rfl
 |c::ks,_,_,i,r=>by
  unfold List.map IsL at i;obtain⟨v,vs',rfl,i1,i2⟩:=i;cases r with
  |cons r1 r2=>
   unfold List.map Ats;exact⟨_,_,rfl,WZ I i1 r1,PL I i2 r2⟩
theorem OV{h1:Heap}(I:Inv X w5 O H s)(kp:∀b o,s.heap.get? b=some o->h1.get? b=some o){ks:List Pr}(hi:IsL X.kw Y k H (ks.map prD) vs)(hr:Vals vs us):
  ∀{out:List Value} {ks':List Pr},Ats h1 (ks'.map prK) out->(∀v∈out,v∈us)->∃ws,Vals ws out/\IsL X.kw Y k H (ks'.map prD) ws
 |_,[],a,_=>by
  unfold List.map Ats at a;subst a;exact⟨[],.nil,.nil⟩
 |_,c::ks',a,m=>by
  unfold List.map Ats at a;obtain⟨v,out',rfl,a1,a2⟩:=a;obtain⟨ws,r,i⟩:=OV I kp hi hr a2 λv hv=>m v (AAQ _ hv);obtain⟨j,hj,ej⟩:=List.getElem_of_mem (m v AAP);have hjk:j<ks.length:=by have:=hi.length;have:=hr.length;simp at *;omega
  obtain⟨w,e1,i1⟩:=hi.get (i:=j) (d:=prD ks[j]) (by simp[hjk]);obtain⟨u,e2,r2⟩:=hr.get e1;rw[AAu hj,ej] at e2;cases e2;have a3:=(WZ I i1 r2).kept (h':=h1) λb o items n e _ _=>kp b o e;have ec:ks[j]=c:=by
   have:=At.inj a3 a1;unfold prK at this;cases c;injection this with this
   injection this with z1 z2
   injection z2 with z2
   injection z1 with z1
   injection z2 with z2
   exact Prod.ext z1 z2
  exact⟨w::ws,.cons r2 r,.cons (by rw[←ec];exact i1) i⟩
noncomputable def Kn:List D->M D
 |[.lst ds]=>λZ=>match NI ds with
  |some ks=>if ks.Nodup/\ks.length<64 then some (.lst ((Ho ks).map prD),Z) else none
  |none=>none
 |_=>Bb
theorem Vk(hr:Room k0 X.A):Bo X (.builtin "sorted") (rMA X.kw Kn):=λw5 s O H xs us Q I r h=>by
 obtain⟨Y,Z,as,d,Z',R,ia,e,q⟩:=h;unfold Kn at e;split at e
 ·rename_i ds;split at e
  ·rename_i ks ek;split at e
   ·rename_i c;cases e;cases Jv ek;obtain⟨v,rfl,i1⟩:=Dv ia;unfold Is at i1;obtain⟨p,vs,rfl,h1,hn,h2⟩:=i1;obtain⟨u,rfl,ru⟩:=DC r;cases ru;obtain⟨its,rv,pl,hz⟩:=I.list (SqL.of h1);have hlen:its.length=ks.length:=by have:=rv.length;have:=h2.length;simp at this;omega
    refine NC (ks:=ks) (vs:=its) (by have:=hr.units;omega) pl.isList (PL I h2 rv) c.1 (by omega) λg1 h' tk cc out ks' k1 k2 e1 at' em sub=>?_;subst em;obtain⟨ws,rw',iw⟩:=OV I k1 h2 rv at' sub;have I1:=I.kept (t':=tk) k1;have hzz:ws.length<=sizeLine:=by
     have:=iw.length;rw[this,AAF,(Ea _).length_eq];have:sizeLine=16777216:=rfl;omega
    exact⟨.ref g1.objs.size,_,I1.laid (t':=tk) (o:=.lst ws) k2 (AAE _) ⟨hzz,out,cc,rw',e1⟩,rfl,J4 R iw q _ (I1.hok.fresh (AAE _))⟩
   ·cases e
  ·cases e
 ·cases e
end
end Mi
namespace Mi
open PySem L2
noncomputable def orF(φ ψ:List D->M D):List D->M D:=λds Z=>match φ ds Z with
 |some r=>some r
 |none=>ψ ds Z
section
variable{P:Program}{w:World}{K:PySem.W.Frag}{mg:Str->Option Value}{base:Heap}
theorem S5(F:Fun K x qual st f fd)(S:Af N ps (AQ st))(hm:mg x=some (.ref f))(hb:Binds K fd ps [])
  (body:∀(cdv:Value) (A:Around) (outer:List Env) (s:Shared) (H:Hp) (E:XK),Room k (A.deeper (PyProof.Rows.envOfC qual (AQ st) s.heap.objs.size f cdv))->RSs (Gu CX0 P w K mg base N qual (AQ st) f cdv A outer s H E).nox (Ch st) mb) :
  Fn P w K mg base x ps (k+1) (orF (EV N.length ps.length mb) (Ay .all N.length ps.length mb)):=by
 have two:∀{ds Z d Z'},orF (EV N.length ps.length mb) (Ay .all N.length ps.length mb) ds Z=some (d,Z')->EV N.length ps.length mb ds Z=some (d,Z')∨Ay .all N.length ps.length mb ds Z=some (d,Z'):=λ{ds Z d Z'} h=>by
  unfold orF at h;split at h
  ·rename_i r e;cases h;exact .inl e
  ·exact .inr h
 refine⟨λds Z r h=>(two (d:=r.1) (Z':=r.2) h).elim (λe=>(FJ e).1) λe=>(EM e).1,f,fd,?_,hm,F.kp,hb⟩;refine F.ok S (λvs H Q E h=>h.1) (λcdv A outer s H vs Q E hr h=>⟨_,(body cdv A outer s H E hr).pe,?_⟩);obtain⟨hl,Y,Z,ds,d,Z',R,i,e,q⟩:=h;obtain⟨fl,x6,w9,e2,hfl,key⟩:∃fl x6 w9,mb (BR N.length ds) Z=some ((fl,x6),w9)/\(fl=.next∨∃d,fl=.rt d)/\∀x5 H2,Ext Y Z.length H x5 w9.length H2->RelH ⟨K,w⟩ x5 w9 H2->Ext Y Z.length H x5 Z'.length H2/\RelH ⟨K,w⟩ x5 Z' H2/\∀v,Is ⟨K,w⟩ x5 w9.length H2 (D5 fl) v->Is ⟨K,w⟩ x5 Z'.length H2 d v:=by
  rcases two e with e|e
  ·obtain⟨_,fl,x6,w9,e2,hfl,hlen,t,ed,c⟩:=FJ e;refine⟨fl,x6,w9,e2,hfl,λx5 H2 E2 R2=>?_⟩;obtain⟨E3,R3,_⟩:=FS R E2 R2 t;refine⟨E3,R3,λv iv=>?_⟩;have hle:Z'.length<=w9.length:=by
    obtain⟨⟨g,hg⟩,_⟩:=t;rw[hg];simp
   rw[ed] at c ⊢;exact JF hle R2 8 _ v iv c
  ·obtain⟨_,fl,x6,w9,e2,hfl,t⟩:=EM e;exact⟨fl,x6,w9,e2,hfl,λx5 H2 E2 R2=>FS R E2 R2 t⟩
 refine⟨Y,Z,_,fl,x6,w9,R,RelS.start i,e2,λx5 H2 E2 R2 u6 S2=>?_⟩;obtain⟨E3,R3,cv⟩:=key x5 H2 E2 R2;rcases hfl with rfl|⟨d0,rfl⟩
 ·exact q x5 H2 E3 R3 _ (cv _ (by unfold D5 Is;rfl))
 ·exact λv iv=>q x5 H2 E3 R3 v (cv v iv)
end
noncomputable def OS:D->D->M D
 | .str x,.str y=>ret (.bl (x==y))
 |_,_=>Bb
theorem Zw:OpR X (compareOp .Eq) (rM X.kw OS):=OpR.wk Zq λx y H Q h=>by
 obtain⟨Y,Z,a,b,d,Z',R,ia,ib,e,q⟩:=h;unfold OS at e;split at e
 ·cases e;cases D1 ia;cases D1 ib;exact⟨rfl,by rw[O4];exact q Y H R.ext0 R _ (ofB _)⟩
 ·cases e
end Mi
namespace K17
open PySem L2 Mi Nk
open K13 (A8 BG BY Bt BZ By Ba Bu CH Bv Ad Ae BD Ai A5 BW Ax BM B3 BN)
open K16 (BU BT CF A2 Ap Ao BK An d_NONE A6 EL CT)
open K18 (El Cm Ck EH Da m_are_unlike m_is_order CG Cz Cn B5 CJ Em Dy A4 A3 B2 CQ Bp BH BL Br Bi)
noncomputable def DK  : Sl->M (Fl×Sl):=
  (AS (AW (AG Oj (AC (AA 0) AL)) (AO 3))
  (AS (AW (mOp BS (mOp AJ (AA 2) (mC (.int 0))) (mC (.int 8))) (AO 4))
  (AS (AW (mOp BS (mOp AJ (AA 2) (mC (.int 1))) (mOp As (AG Bh (AC (AA 0) AL)) (mC (.int 1)))) (AO 5))
  (AS (AW (mOp BS (mOp AJ (AA 2) (mC (.int 2))) (mOp As (AG Bh (AC (AA 0) AL)) (mC (.int 1)))) (AO 6))
  (AS (sIf (Co (AN (mOp Ah (AA 4) (mC (.int 0)))) (Co (AN (mOp EF (AA 5) (AG Bh (AC (AA 0) AL)))) (AN (mOp EF (AA 6) (AG Bh (AC (AA 0) AL)))))) (AW (AG Bf (AC (mOp AJ (AA 3) (AA 6)) (AC (mOp AJ (AA 3) (AA 5)) AL))) (Yr (F7 (AA 3) (AA 5)) (F7 (AA 3) (AA 6)))) (sIf (Co (AN (mOp Ah (AA 4) (mC (.int 1)))) (AN (mOp EF (AA 5) (AG Bh (AC (AA 0) AL))))) (BI (Aj L9 (AA 3) (AC (AA 5) AL))) (sIf (Co (AN (mOp Ah (AA 4) (mC (.int 2)))) (AN (mOp FE (AA 0) (AG Bn AL)))) (BI (Aj Nd (AA 3) (AC (AA 5) (AC (mOp AJ (AA 0) (mOp BS (mOp AJ (AA 2) (mC (.int 3))) (AG Bh (AC (AA 0) AL)))) AL)))) (sIf (Co (AN (mOp EF (AA 4) (mC (.int 5)))) (AN (mOp EF (AA 5) (AG Bh (AC (AA 0) AL))))) (BI (Aj Nd (AA 3) (AC (AA 6) (AC (Aj L9 (AA 3) (AC (AA 5) AL)) AL)))) (sIf (AN (mOp Ah (AA 4) (mC (.int 5)))) (BI (Aj Nd (AA 3) (AC (AA 5) (AC (mOp AJ (AG Bn (AC (AA 1) (AC (mUn L5 (mC (.int 1))) (AC (mOp FN (mC (.int 10)) (mC (.int 30))) AL)))) (mOp BS (mOp AJ (AA 2) (mC (.int 3))) (mC (.int 3)))) AL)))) (sIf (AN (mOp Ah (AA 4) (mC (.int 6)))) (BI (Aj Nd (AA 3) (AC (AA 5) (AC (mOp AJ (AG Bn (AC (mC (.bl true)) (AC (mC (.bl false)) (AC (mC .non) (AC (mC (.str "0")) (AC (AG Bf (AC (mC (.int 0)) AL)) (AC (AG Bn (AC (mC (.int 0)) AL)) AL))))))) (mOp BS (mOp AJ (AA 2) (mC (.int 3))) (mC (.int 6)))) AL)))) (sIf (AN (mOp Ah (AA 4) (mC (.int 7)))) (Az (mOp AJ (AG Bn (AC (AG IP (AC (AA 0) AL)) (AC (mC .non) (AC (mC (.str "")) (AC NP (AC (mC (.int 0)) AL)))))) (mOp BS (mOp AJ (AA 2) (mC (.int 3))) (mC (.int 5))))) BP)))))))
  (Az (AA 3)))))))
noncomputable def Ff  : Sl->M (Fl×Sl):=
  (AS (sIf (Du (AN (AG Cg (AC (AA 0) (AC (mC (.ty "list")) AL))))) (Az (mC (.bl false))) BP)
  (AS (sIf (AN (mOp FE (Cd 1 [] (DO (AA 0)) (AO 0) (mOr (Du (AN (AG Cg (AC (AA 0) (AC (mC (.ty "int")) AL))))) (AN (AG Cg (AC (AA 0) (AC (mC (.ty "bool")) AL))))) (AA 0) Bn) (AG Bn AL))) (Az (mC (.bl false))) BP)
  (Az (Ce (mOp Ah (mUn FG (AA 0)) (AG Bh (AC (AA 0) AL))) (mOp Ah (Cd 1 [1] (DO (AA 0)) (AO 0) (Du (AN (Db Gg EF (mC (.int 0)) (AA 0) (AA 1)))) (AA 0) Bn) (AG Bn AL))))))
noncomputable def MH(bv:List D->M D)(cB:List D->M D)(bw:List D->M D):Sl->M (Fl×Sl):=
  (AS (AW (Ce (AG bv (AC (AA 3) (AC (AG Bh (AC (AA 2) AL)) AL))) (AG cB (AC (AA 0) (AC (AA 2) (AC (AA 3) AL))))) (AO 4))
  (AS (AW (AG NU (AC (AA 1) AL)) (AO 5))
  (AS (AW (AG GR (AC (AA 3) AL)) (AO 6))
  (AS (AW (AG bw (AC (AA 0) (AC (AA 1) (AC (AA 3) AL)))) (AO 7))
  (Az (Ce (AG Cg (AC (AA 7) (AC (mC (.ty "bool")) AL))) (Ce (mOp Ah (AA 7) (AA 4)) (Ce (mOp Ah (AA 1) (AA 5)) (mOp OS (AG GR (AC (AA 3) AL)) (AA 6))))))))))
noncomputable def WB(b7:List D->M D)(b8:List D->M D)(cA:List D->M D)(cD:List D->M D)(br:List D->M D)(bo:List D->M D)(bZ:List D->M D)(bp:List D->M D):Sl->M (Fl×Sl):=
  (AS (AW (AG b7 (AC (AA 0) (AC (mC (.int 0)) AL))) (AO 1))
  (AS (AW (AG b8 (AC (mOp Bm (AA 1) (mC (.int 3))) (AC (mOp AJ (AG Bn (AC (mC (.str "safe")) (AC (mC (.str "steady")) (AC (mC (.str "whole")) AL)))) (mOp BS (AA 1) (mC (.int 3)))) AL))) (AO 2))
  (AS (AW (AG cA (AC (AA 2) (AC (EX (AA 0) (Cv (mC (.int 1))) (Cv (mC (.int 19)))) AL))) (AO 3))
  (AS (AW (AG cD (AC (AA 2) (AC (AA 3) AL))) (AO 4))
  (AS (AW (AG DJ (AC (mUn (RQ D.lst) (AG Bh (AC (AA 4) AL))) AL)) (AO 5))
  (AS (AW (AG Kn (AC (Cd 2 [] (ET (AC (AA 4) AL)) (CA [0,1]) (AN (mOp (Ci true) (mOp AJ (AA 1) (mC (.int 1))) (mC .non))) (AG Bf (AC (mOp AJ (AA 1) (mC (.int 1))) (AC (AA 0) AL))) Bn) AL)) (AO 6))
  (AS (BI (Aj Cw (AA 5) (AC (Cd 2 [] (DO (AA 6)) (CA [0,1]) En (AA 1) Bn) AL)))
  (AS (AW (AG br (AC (AA 2) (AC (AA 3) AL))) (AO 7))
  (AS (sIf (AN (mOp (Ci true) (AA 7) (mC .non))) (BI (Aj Cw (AA 5) (AC (AA 7) AL))) BP)
  (AS (EO (ET (AC (mOp As (EX (AA 0) (Cv (mC (.int 1))) (Cv (mC (.int 15)))) (AG Bn (AC (mC (.int 0)) (AC (mC (.int 1)) AL)))) AL)) (CA [8,9]) (AS (AW (mOp AJ (AA 5) (mOp BS (AA 8) (AG Bh (AC (AA 5) AL)))) (AO 10))
  (AS (sIf (Du (AN (AG bo (AC (AA 2) (AC (AA 3) (AC (AA 4) (AC (AA 10) AL))))))) (Az (mC (.bl false))) BP)
  (sIf (Du (AN (AG bo (AC (AA 2) (AC (AA 3) (AC (AA 4) (AC (AG bp (AC (AA 10) (AC (AG Bh (AC (AA 4) AL)) (AC (AG bZ (AC (AA 9) (AC (mC (.int 4)) AL))) AL)))) AL))))))) (Az (mC (.bl false))) BP))))
  (Az (mC (.bl true)))))))))))))
noncomputable def top(i:Nat):Stmt:=PySem.Challenge.pw_strongboxes_k17_orders_that_bear_events.main.body.getD i (.Pass ⟨0,0,0,0⟩)
section
noncomputable abbrev GU:Stmt:=top 4
theorem sc_with_thing:Af ["things", "place", "thing"] ["things", "place", "thing"] (AQ GU):=⟨rfl,rfl,rfl,by decide +kernel,rfl,by decide +kernel,by decide +kernel⟩
noncomputable abbrev GX:Stmt:=top 5
theorem sc_case_begun:Af ["case", "hand", "worth"] ["case", "hand", "worth"] (AQ GX):=⟨rfl,rfl,rfl,by decide +kernel,rfl,by decide +kernel,by decide +kernel⟩
noncomputable abbrev GW:Stmt:=top 6
theorem sc_case_ended:Af ["case", "hand", "worth"] ["case", "hand", "worth"] (AQ GW):=⟨rfl,rfl,rfl,by decide +kernel,rfl,by decide +kernel,by decide +kernel⟩
noncomputable abbrev Jp:Stmt:=top 7
theorem sc_reached:Af ["cases", "ways", "case", "waiting", "hand", "later"] ["cases"] (AQ Jp):=⟨rfl,rfl,rfl,by decide +kernel,rfl,by decide +kernel,by decide +kernel⟩
noncomputable abbrev FW:Stmt:=top 8
theorem sc_moments_from:Af ["case", "later", "reader", "told"] ["case"] (AQ FW):=⟨rfl,rfl,rfl,by decide +kernel,rfl,by decide +kernel,by decide +kernel⟩
noncomputable abbrev IV:Stmt:=top 10
theorem sc_is_whole:Af ["thing", "least", "most"] ["thing", "least", "most"] (AQ IV):=⟨rfl,rfl,rfl,by decide +kernel,rfl,by decide +kernel,by decide +kernel⟩
noncomputable abbrev IW:Stmt:=top 15
theorem sc_is_tuple:Af ["thing", "least", "most"] ["thing", "least", "most"] (AQ IW):=⟨rfl,rfl,rfl,by decide +kernel,rfl,by decide +kernel,by decide +kernel⟩
noncomputable abbrev GY:Stmt:=top 16
theorem sc_are_unlike:Af ["names"] ["names"] (AQ GY):=⟨rfl,rfl,rfl,by decide +kernel,rfl,by decide +kernel,by decide +kernel⟩
noncomputable abbrev Jq:Stmt:=top 19
theorem sc_acts_of:Af ["making", "events", "names", "going", "acts", "begun", "number", "event", "hand"] ["making", "events"] (AQ Jq):=⟨rfl,rfl,rfl,by decide +kernel,rfl,by decide +kernel,by decide +kernel⟩
noncomputable abbrev IY:Stmt:=top 20
theorem sc_is_event:Af ["thing", "names", "size"] ["thing", "names", "size"] (AQ IY):=⟨rfl,rfl,rfl,by decide +kernel,rfl,by decide +kernel,by decide +kernel⟩
noncomputable abbrev Hd:Stmt:=top 22
theorem sc_bears_out:Af ["making", "events", "order", "deeds"] ["making", "events", "order"] (AQ Hd):=⟨rfl,rfl,rfl,by decide +kernel,rfl,by decide +kernel,by decide +kernel⟩
noncomputable abbrev IZ:Stmt:=top 23
theorem sc_deeds_of:Af ["acts", "deeds", "place", "act", "deed"] ["acts"] (AQ IZ):=⟨rfl,rfl,rfl,by decide +kernel,rfl,by decide +kernel,by decide +kernel⟩
noncomputable abbrev IX:Stmt:=top 24
theorem sc_is_order:Af ["thing", "count"] ["thing", "count"] (AQ IX):=⟨rfl,rfl,rfl,by decide +kernel,rfl,by decide +kernel,by decide +kernel⟩
noncomputable abbrev Ec:Stmt:=top 25
theorem sc_has_ended_ones:Af ["deeds", "order", "there", "number"] ["deeds", "order"] (AQ Ec):=⟨rfl,rfl,rfl,by decide +kernel,rfl,by decide +kernel,by decide +kernel⟩
noncomputable abbrev F8:Stmt:=top 26
theorem sc_keeps_times:Af ["deeds", "order", "latest", "number", "deed"] ["deeds", "order"] (AQ F8):=⟨rfl,rfl,rfl,by decide +kernel,rfl,by decide +kernel,by decide +kernel⟩
noncomputable abbrev FX:Stmt:=top 27
theorem sc_keeps_worths:Af ["deeds", "order", "begin", "worth", "number", "deed"] ["deeds", "order", "begin"] (AQ FX):=⟨rfl,rfl,rfl,by decide +kernel,rfl,by decide +kernel,by decide +kernel⟩
noncomputable abbrev GV:Stmt:=top 28
theorem sc_moments_of:Af ["making", "events", "readers", "paths", "going", "act"] ["making", "events"] (AQ GV):=⟨rfl,rfl,rfl,by decide +kernel,rfl,by decide +kernel,by decide +kernel⟩
noncomputable abbrev FV:Stmt:=top 29
theorem sc_paths_behind:Af ["paths", "act", "later", "case", "path", "behind"] ["paths", "act"] (AQ FV):=⟨rfl,rfl,rfl,by decide +kernel,rfl,by decide +kernel,by decide +kernel⟩
noncomputable abbrev FU:Stmt:=top 30
theorem sc_with_moments:Af ["paths", "going", "found", "case", "way"] ["paths", "going"] (AQ FU):=⟨rfl,rfl,rfl,by decide +kernel,rfl,by decide +kernel,by decide +kernel⟩
noncomputable abbrev IU:Stmt:=top 31
theorem sc_order_of:Af ["path", "order"] ["path"] (AQ IU):=⟨rfl,rfl,rfl,by decide +kernel,rfl,by decide +kernel,by decide +kernel⟩
noncomputable abbrev Ia:Stmt:=top 33
theorem sc_Lcell_at:Af ["_law_script", "_law_k"] ["_law_script", "_law_k"] (AQ Ia):=⟨rfl,rfl,rfl,by decide +kernel,rfl,by decide +kernel,by decide +kernel⟩
noncomputable abbrev Jr:Stmt:=top 34
theorem sc_Lstream:Af ["_law_cell", "_law_many", "_law_found", "_law_number", "_law_k"] ["_law_cell", "_law_many"] (AQ Jr):=⟨rfl,rfl,rfl,by decide +kernel,rfl,by decide +kernel,by decide +kernel⟩
noncomputable abbrev Js:Stmt:=top 35
theorem sc_Lmaking:Af ["_law_x", "_law_kind", "_law_size", "_law_names", "_law_readers", "_law_hands"] ["_law_x", "_law_kind"] (AQ Js):=⟨rfl,rfl,rfl,by decide +kernel,rfl,by decide +kernel,by decide +kernel⟩
noncomputable abbrev Lv:Stmt:=top 36
theorem sc_Lworth:Af ["_law_making_here", "_law_written", "_law_x", "_law_some"] ["_law_making_here", "_law_written", "_law_x"] (AQ Lv):=⟨rfl,rfl,rfl,by decide +kernel,rfl,by decide +kernel,by decide +kernel⟩
noncomputable abbrev Jt:Stmt:=top 37
theorem sc_Levents:Af ["_law_making_here", "_law_cells", "_law_busy", "_law_events_here", "_law_written", "_law_names", "_law_cell", "_law_x", "_law_name", "_law_worth_here", "_law_event"] ["_law_making_here", "_law_cells"] (AQ Jt):=⟨rfl,rfl,rfl,by decide +kernel,rfl,by decide +kernel,by decide +kernel⟩
noncomputable abbrev Lx:Stmt:=top 38
theorem sc_Ldeeds:Af ["_law_making_here", "_law_events_here", "_law_found", "_law_at", "_law_k", "_law_event", "_law_deed"] ["_law_making_here", "_law_events_here"] (AQ Lx):=⟨rfl,rfl,rfl,by decide +kernel,rfl,by decide +kernel,by decide +kernel⟩
noncomputable abbrev Ly:Stmt:=top 39
theorem sc_Lbears:Af ["_law_making_here", "_law_deeds_here", "_law_order", "_law_worth_here", "_law_place", "_law_k"] ["_law_making_here", "_law_deeds_here", "_law_order"] (AQ Ly):=⟨rfl,rfl,rfl,by decide +kernel,rfl,by decide +kernel,by decide +kernel⟩
noncomputable abbrev GZ:Stmt:=top 40
theorem sc_Lotherwise:Af ["_law_order", "_law_many", "_law_xs", "_law_found", "_law_way", "_law_at", "_law_other"] ["_law_order", "_law_many", "_law_xs"] (AQ GZ):=⟨rfl,rfl,rfl,by decide +kernel,rfl,by decide +kernel,by decide +kernel⟩
noncomputable abbrev He:Stmt:=top 41
theorem sc_Lis_order:Af ["_law_order", "_law_many"] ["_law_order", "_law_many"] (AQ He):=⟨rfl,rfl,rfl,by decide +kernel,rfl,by decide +kernel,by decide +kernel⟩
noncomputable abbrev Lw:Stmt:=top 42
theorem sc_Lright:Af ["_law_making_here", "_law_events_here", "_law_deeds_here", "_law_order", "_law_due", "_law_kept", "_law_order_kept", "_law_found"] ["_law_making_here", "_law_events_here", "_law_deeds_here", "_law_order"] (AQ Lw):=⟨rfl,rfl,rfl,by decide +kernel,rfl,by decide +kernel,by decide +kernel⟩
noncomputable abbrev V5:Stmt:=top 43
theorem sc_law:Af ["_law_script", "_law_first", "_law_making_here", "_law_events_here", "_law_deeds_here", "_law_orders", "_law_ended", "_law_told", "_law_k", "_law_cell", "_law_order"] ["_law_script"] (AQ V5):=⟨rfl,rfl,rfl,by decide +kernel,rfl,by decide +kernel,by decide +kernel⟩
end
noncomputable def D8:List D->M D:=EV 6 2 (B5 Ai A4 A3 B2)
noncomputable def Cr:List D->M D:=Ay .drop 2 2 (Ff)
noncomputable def JL:List D->M D:=Ay .drop 6 3 (Em)
noncomputable def Dx:List D->M D:=Ay .drop 4 3 (CJ Ai CQ BH BL Br Bi)
noncomputable def EJ:List D->M D:=Ay .drop 8 4 (MH Cr JL Dx)
noncomputable def CS:List D->M D:=orF (EV 7 3 (DK)) (Ay .all 7 3 (DK))
noncomputable def KJ:List D->M D:=Ay .drop 11 1 (WB BW BM BN Dy D8 EJ Ax CS)
end K17
namespace Mi
section
variable{α:Type}{P:List α->Prop}
theorem lq1(h:∀a,P [a]):∀us:List α,us.length=1->P us:=λus e=>by
 rcases us with _|⟨a,us⟩
 ·cases e
 ·cases List.eq_nil_of_length_eq_zero (Nat.succ.inj e);exact h a
theorem lqs(h:∀a,∀us:List α,us.length=n->P (a::us)):∀us:List α,us.length=n+1->P us:=λus e=>by
 rcases us with _|⟨a,us⟩
 ·cases e
 ·exact h a us (Nat.succ.inj e)
theorem lq2(h:∀a b,P [a,b]):∀us:List α,us.length=2->P us:=lqs λa=>lq1 (P:=λl=>P (a::l)) (h a)
theorem lq3(h:∀a b c,P [a,b,c]):∀us:List α,us.length=3->P us:=lqs λa=>lq2 (P:=λl=>P (a::l)) (h a)
theorem lq4(h:∀a b c d,P [a,b,c,d]):∀us:List α,us.length=4->P us:=lqs λa=>lq3 (P:=λl=>P (a::l)) (h a)
end
end Mi
namespace K17
open PySem L2 Mi Nk
open K13 (A8 BG BY Bt BZ By Ba Bu CH Bv Ad Ae BD Ai A5 BW Ax BM B3 BN)
open K16 (BU BT CF A2 Ap Ao BK An d_NONE A6 EL CT)
open K18 (El Cm Ck EH Da m_are_unlike m_is_order CG Cz Cn B5 CJ Em Dy A4 A3 B2 CQ Bp BH BL Br Bi)
structure Al(w:World)(K:PySem.W.Frag)(mg:Str->Option Value)(h:Heap):Prop where
 X:K.In h
 G:h.Ns mainGlobals mg
 e0:∃f fd,Df K "_law_cell_at" Ia f fd
 e1:∃f fd,Df K "_law_making" Js f fd
 e2:∃f fd,Df K "_law_stream" Jr f fd
 e3:∃f fd,Df K "_law_worth" Lv f fd
 e4:∃f fd,Df K "_law_events" Jt f fd
 e5:∃f fd,Df K "_law_deeds" Lx f fd
 e6:∃f fd,Df K "is_tuple" IW f fd
 e7:∃f fd,Df K "is_whole" IV f fd
 e8:∃f fd,Df K "is_event" IY f fd
 e9:∃f fd,Df K "acts_of" Jq f fd
 e10:∃f fd,Df K "with_thing" GU f fd
 e11:∃f fd,Df K "case_begun" GX f fd
 e12:∃f fd,Df K "case_ended" GW f fd
 e13:∃f fd,Df K "paths_behind" FV f fd
 e14:∃f fd,Df K "moments_from" FW f fd
 e15:∃f fd,Df K "reached" Jp f fd
 e16:∃f fd,Df K "with_moments" FU f fd
 e17:∃f fd,Df K "order_of" IU f fd
 e18:∃f fd,Df K "moments_of" GV f fd
 e19:∃f fd,Df K "_law_is_order" He f fd
 e20:∃f fd,Df K "_law_bears" Ly f fd
 e21:∃f fd,Df K "deeds_of" IZ f fd
 e22:∃f fd,Df K "are_unlike" GY f fd
 e23:∃f fd,Df K "is_order" IX f fd
 e24:∃f fd,Df K "has_ended_ones" Ec f fd
 e25:∃f fd,Df K "keeps_times" F8 f fd
 e26:∃f fd,Df K "keeps_worths" FX f fd
 e27:∃f fd,Df K "bears_out" Hd f fd
 e28:∃f fd,Df K "_law_right" Lw f fd
 e29:∃f fd,Df K "_law_otherwise" GZ f fd
 e30:∃f fd,Df K "law" V5 f fd
 y0:mg "all" = none
 y1:mg "bool" = none
 y2:mg "enumerate" = none
 y3:mg "int" = none
 y4:mg "isinstance" = none
 y5:mg "len" = none
 y6:mg "list" = none
 y7:mg "max" = none
 y8:mg "range" = none
 y9:mg "set" = none
 y10:mg "sorted" = none
 y11:mg "str" = none
 y12:mg "tuple" = none
 g0:Glo K mg "HAD" EL
 g1:Glo K mg "NONE" d_NONE
 g2:Glo K mg "NO_WORTH" A6
 g3:Glo K mg "WAITS" CT
section
variable{P:Program}{w:World}{K:PySem.W.Frag}{mg:Str->Option Value}{base h:Heap}(a:Al w K mg h)
include a
theorem N2:Fn P w K mg base "_law_cell_at" ["_law_script", "_law_k"] 1 (BW):=by
 obtain⟨f,fd,d⟩:=a.e0;exact BV (k:=0) .drop d.F sc_Lcell_at (PySem.W.mg_of a.X a.G d.a) (d.F.binds λ_ _ _ _ _ _=>lq2 λ_ _=>rfl) (λ_ _ _ _ _ _ hr=>have nd:=sc_Lcell_at.nd;(AH (BA (AY Je (AB 1) (Ac CK a.y5 Mi.Av (AD (AB 0) AI))) (AM (Ak (AR AZ (AB 0) (AB 1)))) Aw) (AM (Ak AE))))
theorem Qb:Fn P w K mg base "_law_making" ["_law_x", "_law_kind"] 1 (BM):=by
 obtain⟨f,fd,d⟩:=a.e1;exact BV (k:=0) .drop d.F sc_Lmaking (PySem.W.mg_of a.X a.G d.a) (d.F.binds λ_ _ _ _ _ _=>lq2 λ_ _=>rfl) (λ_ _ _ _ _ _ hr=>have nd:=sc_Lmaking.nd;(AH (AU 2 nd (Ag CL AE (Ag Cj (Ag DH (AB 0) AE) AE))) (AH (AU 3 nd (AR AZ (CY (AD (CY (AD BC (AD BC (AD BC (AD BC AI))))) (AD (CY (AD BC (AD BC (AD BC (AD BC AI))))) (AD (CY (AD BC (AD BC (AD BC (AD BC AI))))) AI)))) (Ag Cj (Ag DH (AB 0) AE) AE))) (AH (AU 4 nd (Ag CL AE (Ag Cj (Ag DH (AB 0) AE) AE))) (AH (Xb (co:=none) (tgs:=["_law_name"]) ⟨⟨rfl,by decide +kernel,by decide +kernel,trivial,rfl,by decide +kernel⟩,rfl,⟨_,E7,λ_ _ _ _=>Aq (i:=0) (show List.Nodup (["_law_name"]:List Str) from by decide +kernel) rfl (Or.inl rfl)⟩,λ_ _ _ _=>Ei,λ_ _ _ _=>(Bg (AD (AB 0) (AD AE (AD (Bg AI) AI))))⟩ (DF (FZ (AB 3) Fu (Dm (Ag CL AE (AB 4))))) JH nd) (AM (Ak (Bg (AD (AB 1) (AD (AB 2) (AD (Ag Cj (Ag DH (AB 0) AE) (AB 2)) (AD (Bg AI) (AD (CV PD a.y12 Mi.GM (AD (AB 5) AI)) AI)))))))))))))
theorem Kb:Fn P w K mg base "_law_stream" ["_law_cell", "_law_many"] 1 (Ax):=by
 obtain⟨f,fd,d⟩:=a.e2;exact BV (k:=0) .drop d.F sc_Lstream (PySem.W.mg_of a.X a.G d.a) (d.F.binds λ_ _ _ _ _ _=>lq2 λ_ _=>rfl) (λ_ _ _ _ _ _ hr=>have nd:=sc_Lstream.nd;(AH (AU 2 nd (C4 AI)) (AH (AU 3 nd (Ag DH (AB 0) AE)) (AH (Ib Ep PassesOwn.never (RW.rt (DE (AY (CU hr) (Ag Cj (AB 0) AE) AE) (DE (AY Zv (AB 3) AE) (C2 (AY Je (Ac CK a.y5 Mi.Av (AD (AB 2) AI)) (AB 1)))))) (AH (BX (BB PySem.F.slot_list_append PySem.F.type_list_append B6 (AB 2) (AD (Ag Cj (AB 3) (Ag SF AE AE)) AI))) (AM (AU 3 nd (Ag DH (AB 3) (Ag SF AE AE)))))) (AH (AU 3 nd (Ag Cj (Ag OX (Ag CL (Ag DH (AB 0) AE) AE) AE) AE)) (AH (DU PassesOwn.never rfl (Ph a.y8 (AD (AB 1) AI)) (FD 4 nd) (AH (AU 3 nd (Ag Cj (Ag OX (AB 3) (Ag CL (Ag CL (Ag DH (AB 3) AE) AE) (AB 4))) AE)) (AH (BX (BB PySem.F.slot_list_append PySem.F.type_list_append B6 (AB 2) (AD (Ag Cj (Ag OX (AB 3) (Ag CL (Ag DH (AB 3) AE) AE)) AE) AI))) (AM (AU 3 nd (Ag CL (AB 3) AE)))))) (AM (Ak (FZ (AB 2) Fu (Dm (AB 1)))))))))))
theorem To:Fn P w K mg base "_law_worth" ["_law_making_here", "_law_written", "_law_x"] 1 (B3):=by
 obtain⟨f,fd,d⟩:=a.e3;exact BV (k:=0) .drop d.F sc_Lworth (PySem.W.mg_of a.X a.G d.a) (d.F.binds λ_ _ _ _ _ _=>lq3 λ_ _ _=>rfl) (λ_ _ _ _ _ _ hr=>have nd:=sc_Lworth.nd;(AH (AU 3 nd (Ag CL (FZ (AB 1) (Dm (RY SG AE)) Fu) (CY (AD (Ag Cj (Ag DH (AB 2) AE) (AR AZ (AB 0) AE)) (AD (AR AZ (AB 0) AE) AI))))) (AM (Ak (AR AZ (AB 3) (Ag Cj (AB 2) (Ac CK a.y5 Mi.Av (AD (AB 3) AI))))))))
theorem Qc:Fn P w K mg base "_law_events" ["_law_making_here", "_law_cells"] 2 (BN):=by
 obtain⟨f,fd,d⟩:=a.e4;exact BV (k:=1) .frz d.F sc_Levents (PySem.W.mg_of a.X a.G d.a) (d.F.binds λ_ _ _ _ _ _=>lq2 λ_ _=>rfl) (λ_ _ _ _ _ _ hr=>have nd:=sc_Levents.nd;(AH (AU 2 nd (C4 AI)) (AH (AU 3 nd (C4 AI)) (AH (AU 4 nd (C4 (AD (AR AZ (AB 0) AE) AI))) (AH (Xb (co:=none) (tgs:=["_law_hand"]) ⟨⟨rfl,by decide +kernel,by decide +kernel,trivial,rfl,by decide +kernel⟩,rfl,⟨_,E7,λ_ _ _ _=>Aq (i:=0) (show List.Nodup (["_law_hand"]:List Str) from by decide +kernel) rfl (Or.inl rfl)⟩,λ_ _ _ _=>Ei,λ_ _ _ _=>(AR AZ (AB 0) AE)⟩ (DF (AR AZ (AB 0) AE)) JH nd) (AH (DU PassesOwn.never rfl (DF (AB 1)) (FD 6 nd) (AH (AU 7 nd (AR AZ (Be (Kb a) hr (AD (AB 6) (AD AE AI))) AE)) (AH (AU 8 nd (AR AZ (AB 5) (Ag Cj (AB 7) (Ac CK a.y5 Mi.Av (AD (AB 5) AI))))) (AH (BA (AY (CU hr) (Ag Cj (Ag DH (AB 7) AE) AE) AE) (AM (AU 8 nd (AR AZ (AB 5) AE))) Aw) (AH (AU 9 nd (Ag Cj (Ag DH (AB 7) AE) (AR AZ (AB 0) AE))) (AH (AU 10 nd (Bg (AD (AR AZ (CY (AD BC (AD BC AI))) (CV WW a.y3 Mi.G3 (AD (DV Zu (AB 8) (AB 2)) AI))) (AD (AB 8) AI)))) (AH (BA (RW.rt (DE (AY (CU hr) (AB 8) (AR AZ (AB 5) AE)) (C2 (AY (CU hr) (AR AZ (AB 10) AE) BC)))) (AH (AU 10 nd (Ag CL (AB 10) (Bg (AD (AB 9) AI)))) (AM (BX (BB PySem.F.slot_list_append PySem.F.type_list_append B6 (AB 4) (AD (AB 9) AI))))) Aw) (AH (BA (RW.rt (DE (AY (NN hr) (AB 8) (AR AZ (AB 5) AE)) (C2 (AY (CU hr) (AR AZ (AB 10) AE) BC)))) (AM (AU 10 nd (Ag CL (AB 10) (Bg (AD (Be (To a) hr (AD (AB 0) (AD (AB 4) (AD (Ag DH (AB 7) AE) AI)))) AI))))) Aw) (AH (BX (BB PySem.F.slot_list_append PySem.F.type_list_append B6 (AB 3) (AD (AB 10) AI))) (AM (BA (AY Zu (AB 8) (AB 2)) (AM (BX (BB PySem.F.slot_list_remove PySem.F.type_list_remove SQ (AB 2) (AD (AB 8) AI)))) (AM (BX (BB PySem.F.slot_list_append PySem.F.type_list_append B6 (AB 2) (AD (AB 8) AI))))))))))))))) (AM (Ak (AB 3)))))))))
theorem Tp:Fn P w K mg base "_law_deeds" ["_law_making_here", "_law_events_here"] 1 (Dy):=by
 obtain⟨f,fd,d⟩:=a.e5;exact JI (k:=0) d.F sc_Ldeeds (PySem.W.mg_of a.X a.G d.a) (d.F.binds λ_ _ _ _ _ _=>lq2 λ_ _=>rfl) (λ_ _ _ _ _ _ hr=>have nd:=sc_Ldeeds.nd;(AH (AU 2 nd (C4 AI)) (AH (AU 3 nd Gd) (AH (DU PassesOwn.never rfl (Ds a.y2 (AD (AB 1) AI)) (FC (is:=[4,5]) rfl (Ar (Aq (i:=4) nd rfl (by first|exact Or.inl rfl|exact Or.inr rfl)) (Ar (Aq (i:=5) nd rfl (by first|exact Or.inl rfl|exact Or.inr rfl)) Cb))) (AM (BA (AY (CU hr) (AR AZ (AB 5) AE) BC) (AH (Hv hr (AB 3) (AR AZ (AB 5) AE) (Ac CK a.y5 Mi.Av (AD (AB 2) AI))) (AM (BX (BB PySem.F.slot_list_append PySem.F.type_list_append B6 (AB 2) (AD (C4 (AD (AB 4) (AD CB (AD (AR AZ (CY (AD BC (AD BC AI))) (CV WW a.y3 Mi.G3 (AD (DV (CU hr) (Ac CK a.y5 Mi.Av (AD (AB 5) AI)) AE) AI))) (AD (AR AZ (Ag CL (AB 5) (Bg (AD CB AI))) AE) AI))))) AI))))) (AH (AU 6 nd (AR AZ (AB 2) (Ks hr (AB 3) (AR AZ (AB 5) AE)))) (AH (Ie (AB 4) (HG (AB 6) AE)) (AM (BA (AY (CU hr) (Ac CK a.y5 Mi.Av (AD (AB 5) AI)) AE) (AM (Ie (AR AZ (AB 5) AE) (HG (AB 6) AE))) Aw))))))) (AM (Ak (AB 2)))))))
theorem Ny:Fn P w K mg base "is_tuple" ["thing", "least", "most"] 1 (BD):=by
 obtain⟨f,fd,d⟩:=a.e6;exact BV (k:=0) .drop d.F sc_is_tuple (PySem.W.mg_of a.X a.G d.a) (d.F.binds λ_ _ _ _ _ _=>lq3 λ_ _ _=>rfl) (λ_ _ _ _ _ _ hr=>have nd:=sc_is_tuple.nd;(AM (Ak (DW (Ac FK a.y4 Mi.BF (AD (AB 0) (AD (D6 a.y12 Mi.GM) AI))) (Fa (L3 SH SH (AB 1) (Ac CK a.y5 Mi.Av (AD (AB 0) AI)) (AB 2)))))))
theorem Jc:Fn P w K mg base "is_whole" ["thing", "least", "most"] 1 (Ae):=by
 obtain⟨f,fd,d⟩:=a.e7;exact BV (k:=0) .drop d.F sc_is_whole (PySem.W.mg_of a.X a.G d.a) (d.F.binds λ_ _ _ _ _ _=>lq3 λ_ _ _=>rfl) (λ_ _ _ _ _ _ hr=>have nd:=sc_is_whole.nd;(AM (Ak (DW (Ac FK a.y4 Mi.BF (AD (AB 0) (AD (D6 a.y3 Mi.G3) AI))) (DW (Xa (Ac FK a.y4 Mi.BF (AD (AB 0) (AD (D6 a.y1 Mi.HX) AI)))) (Fa (L3 SH SH (AB 1) (AB 0) (AB 2))))))))
theorem N0:Fn P w K mg base "is_event" ["thing", "names", "size"] 2 (A5):=by
 obtain⟨f,fd,d⟩:=a.e8;exact BV (k:=1) .drop d.F sc_is_event (PySem.W.mg_of a.X a.G d.a) (d.F.binds λ_ _ _ _ _ _=>lq3 λ_ _ _=>rfl) (λ_ _ _ _ _ _ hr=>have nd:=sc_is_event.nd;(AH (BA (RW.rt (RN (EW (FB (Be (Ny a) hr (AD (AB 0) (AD AE (AD AE AI)))))) (RN (AY K3 (AR AZ (AB 0) AE) (Bg (AD BC (AD BC AI)))) (RM (AY K3 (AR AZ (AB 0) AE) (AB 1)))))) (AM (Ak DQ)) Aw) (AH (BA (AY (CU hr) (DV (CU hr) (AR AZ (AB 0) AE) BC) (DV (CU hr) (AR AZ (AB 0) AE) (AR AZ (AB 1) AE))) (AM (Ak (DW (DV (CU hr) (Ac CK a.y5 Mi.Av (AD (AB 0) AI)) AE) (Fa (Be (Jc a) hr (AD (AR AZ (AB 0) AE) (AD AE (AD (Ag Jx (AB 2) AE) AI)))))))) Aw) (AM (Ak (DV (CU hr) (Ac CK a.y5 Mi.Av (AD (AB 0) AI)) AE))))))
theorem Ka:Fn P w K mg base "acts_of" ["making", "events"] 3 (Ai):=by
 obtain⟨f,fd,d⟩:=a.e9;exact BV (k:=2) .frz d.F sc_acts_of (PySem.W.mg_of a.X a.G d.a) (d.F.binds λ_ _ _ _ _ _=>lq2 λ_ _=>rfl) (λ_ _ _ _ _ _ hr=>have nd:=sc_acts_of.nd;(AH (BA (EW (FB (Ac FK a.y4 Mi.BF (AD (AB 1) (AD (D6 a.y6 Mi.Cu) AI))))) (AM Ic) Aw) (AH (Xb (co:=none) (tgs:=["hand"]) ⟨⟨rfl,by decide +kernel,by decide +kernel,trivial,rfl,by decide +kernel⟩,rfl,⟨_,E7,λ_ _ _ _=>Aq (i:=0) (show List.Nodup (["hand"]:List Str) from by decide +kernel) rfl (Or.inl rfl)⟩,λ_ _ _ _=>Ei,λ_ _ _ _=>(AR AZ (AB 0) AE)⟩ (DF (AR AZ (AB 0) AE)) JH nd) (AH (AU 3 nd Gd) (AH (AU 4 nd (C4 AI)) (AH (AU 5 nd AE) (AH (DU PassesOwn.never rfl (Ds a.y2 (AD (AB 1) AI)) (FC (is:=[6,7]) rfl (Ar (Aq (i:=6) nd rfl (by first|exact Or.inl rfl|exact Or.inr rfl)) (Ar (Aq (i:=7) nd rfl (by first|exact Or.inl rfl|exact Or.inr rfl)) Cb))) (AH (BA (EW (FB (Be (N0 a) hr (AD (AB 7) (AD (AB 2) (AD (AR AZ (AB 0) AE) AI)))))) (AM Ic) Aw) (AH (AU 8 nd (BB PySem.F.slot_list_index PySem.F.type_list_index SS (AB 2) (AD (AR AZ (AB 7) AE) AI))) (AH (BA (AY (CU hr) (DV (CU hr) (AR AZ (AB 7) AE) BC) (Rb hr (AB 8) (AB 3))) (AM Ic) Aw) (AH (BA (AY (CU hr) (AR AZ (AB 7) AE) BC) (AH (Hv hr (AB 3) (AB 8) (AB 5)) (AM (XW 5 nd AE))) Aw) (AH (BX (BB PySem.F.slot_list_append PySem.F.type_list_append B6 (AB 4) (AD (Bg (AD (AR AZ (AB 7) AE) (AD (AB 8) (AD (Ra (AY (CU hr) (Ac CK a.y5 Mi.Av (AD (AB 7) AI)) AE) (AR AZ (AB 7) AE) (Gc a.g2)) (AD (Ks hr (AB 3) (AB 8)) AI))))) AI))) (AM (BA (AY (CU hr) (AR AZ (AB 7) AE) BC) (AM (BX (Uv (AB 3) (AB 8)))) Aw)))))))) (AM (Ak (AB 4))))))))))
theorem FM:Fn P w K mg base "with_thing" ["things", "place", "thing"] 1 (Ad):=by
 obtain⟨f,fd,d⟩:=a.e10;exact BV (k:=0) .drop d.F sc_with_thing (PySem.W.mg_of a.X a.G d.a) (d.F.binds λ_ _ _ _ _ _=>lq3 λ_ _ _=>rfl) (λ_ _ _ _ _ _ hr=>have nd:=sc_with_thing.nd;(AM (Ak (Ag CL (Ag CL (FZ (AB 0) Fu (Dm (AB 1))) (Bg (AD (AB 2) AI))) (FZ (AB 0) (Dm (Ag CL (AB 1) AE)) Fu)))))
theorem La:Fn P w K mg base "case_begun" ["case", "hand", "worth"] 2 (Ap):=by
 obtain⟨f,fd,d⟩:=a.e11;exact BV (k:=1) .drop d.F sc_case_begun (PySem.W.mg_of a.X a.G d.a) (d.F.binds λ_ _ _ _ _ _=>lq3 λ_ _ _=>rfl) (λ_ _ _ _ _ _ hr=>have nd:=sc_case_begun.nd;(AH (BA (AY (CU hr) (AB 1) AE) (AM (Ak (Bg (AD (AR AZ (AB 0) AE) (AD (AB 2) (AD (AR AZ (AB 0) AE) AI)))))) Aw) (AM (Ak (Bg (AD (AR AZ (AB 0) AE) (AD (AR AZ (AB 0) AE) (AD (Be (FM a) hr (AD (AR AZ (AB 0) AE) (AD (Ag Jx (AB 1) AE) (AD (Gc a.g3) AI)))) AI))))))))
theorem LZ:Fn P w K mg base "case_ended" ["case", "hand", "worth"] 2 (Ao):=by
 obtain⟨f,fd,d⟩:=a.e12;exact BV (k:=1) .drop d.F sc_case_ended (PySem.W.mg_of a.X a.G d.a) (d.F.binds λ_ _ _ _ _ _=>lq3 λ_ _ _=>rfl) (λ_ _ _ _ _ _ hr=>have nd:=sc_case_ended.nd;(AH (BA (AY (CU hr) (AB 1) AE) (AM (Ak (Ra (AY (CU hr) (AR AZ (AB 0) AE) (Gc a.g0)) (Bg (AD (AR AZ (AB 0) AE) (AD (Gc a.g1) (AD (AR AZ (AB 0) AE) AI)))) CB))) Aw) (AM (Ak (Ra (AY (CU hr) (AR AZ (AR AZ (AB 0) AE) (Ag Jx (AB 1) AE)) (AB 2)) (Bg (AD (AR AZ (AB 0) AE) (AD (AR AZ (AB 0) AE) (AD (Be (FM a) hr (AD (AR AZ (AB 0) AE) (AD (Ag Jx (AB 1) AE) (AD (Gc a.g1) AI)))) AI)))) CB)))))
theorem JZ:Fn P w K mg base "paths_behind" ["paths", "act"] 3 (A4):=by
 obtain⟨f,fd,d⟩:=a.e13;exact JJ (k:=2) .all d.F sc_paths_behind (PySem.W.mg_of a.X a.G d.a) (d.F.binds λ_ _ _ _ _ _=>lq2 λ_ _=>rfl) (λ_ _ _ _ _ _ hr=>have nd:=sc_paths_behind.nd;(AH (AU 2 nd Ij) (AH (OM PassesOwn.never rfl (AB 0) (FC (is:=[3,4]) rfl (Ar (Aq (i:=3) nd rfl (by first|exact Or.inl rfl|exact Or.inr rfl)) (Ar (Aq (i:=4) nd rfl (by first|exact Or.inl rfl|exact Or.inr rfl)) Cb))) (AH (BA (AY (CU hr) (AR AZ (AB 1) AE) BC) (AM (AU 5 nd (Be (La a) hr (AD (AB 3) (AD (AR AZ (AB 1) AE) (AD (AR AZ (AB 1) AE) AI)))))) (AM (AU 5 nd (Be (LZ a) hr (AD (AB 3) (AD (AR AZ (AB 1) AE) (AD (AR AZ (AB 1) AE) AI))))))) (AM (BA (AY Do (AB 5) CB) (AM (Ga hr (AB 2) (AB 5) (AB 4))) Aw)))) (AM (Ak (AB 2))))))
theorem Ja:Fn P w K mg base "moments_from" ["case"] 2 (An):=by
 obtain⟨f,fd,d⟩:=a.e14;exact BV (k:=1) .all d.F sc_moments_from (PySem.W.mg_of a.X a.G d.a) (d.F.binds λ_ _ _ _ _ _=>lq1 λ_=>rfl) (λ_ _ _ _ _ _ hr=>have nd:=sc_moments_from.nd;(AH (AU 1 nd (C4 AI)) (AH (BA (AY bC (AR AZ (AB 0) AE) AE) (AM (BX (BB PySem.F.slot_list_append PySem.F.type_list_append B6 (AB 1) (AD (Bg (AD AE (AD (Bg (AD (AR AZ (AB 0) AE) (AD (Gc a.g0) (AD (AR AZ (AB 0) AE) AI)))) AI))) AI)))) Aw) (AH (DU PassesOwn.never rfl (RU a.y2 (AD (AR AZ (AB 0) AE) AI)) (FC (is:=[2,3]) rfl (Ar (Aq (i:=2) nd rfl (by first|exact Or.inl rfl|exact Or.inr rfl)) (Ar (Aq (i:=3) nd rfl (by first|exact Or.inl rfl|exact Or.inr rfl)) Cb))) (AM (BA (AY (CU hr) (AB 3) (Gc a.g3)) (AM (BX (BB PySem.F.slot_list_append PySem.F.type_list_append B6 (AB 1) (AD (Bg (AD (Ag CL (AB 2) AE) (AD (Bg (AD (AR AZ (AB 0) AE) (AD (AR AZ (AB 0) AE) (AD (Be (FM a) hr (AD (AR AZ (AB 0) AE) (AD (AB 2) (AD (AR AZ (AB 0) AE) AI)))) AI)))) AI))) AI)))) Aw))) (AM (Ak (AB 1)))))))
theorem Qa:Fn P w K mg base "reached" ["cases"] 3 (BK):=by
 obtain⟨f,fd,d⟩:=a.e15;exact BV (k:=2) .all d.F sc_reached (PySem.W.mg_of a.X a.G d.a) (d.F.binds λ_ _ _ _ _ _=>lq1 λ_=>rfl) (λ_ _ _ _ _ _ hr=>have nd:=sc_reached.nd;(AH (AU 1 nd Ij) (AH (DU PassesOwn.never rfl (DF (AB 0)) (FD 2 nd) (AM (Ga hr (AB 1) (AB 2) CB))) (AH (AU 3 nd (CV (Vm rfl) a.y6 Mi.Cu (AD (AB 1) AI))) (AH (Ib Ep PassesOwn.never (Uo (AB 3)) (AH (AU 2 nd (Ju PySem.F.slot_list_pop PySem.F.type_list_pop Z0 (AB 3))) (AM (Ur 1000 PassesOwn.never rfl (Be (Ja a) hr (AD (AB 2) AI)) (FC (is:=[4,5]) rfl (Ar (Aq (i:=4) nd rfl (by first|exact Or.inl rfl|exact Or.inr rfl)) (Ar (Aq (i:=5) nd rfl (by first|exact Or.inl rfl|exact Or.inr rfl)) Cb))) (AM (BA (AY (SI hr) (AB 5) (AB 1)) (AH (Ga hr (AB 1) (AB 5) (Bg (AD (AB 4) (AD (AB 2) AI)))) (AM (BX (BB PySem.F.slot_list_append PySem.F.type_list_append B6 (AB 3) (AD (AB 5) AI))))) Aw)))))) (AM (Ak (AB 1))))))))
theorem JY:Fn P w K mg base "with_moments" ["paths", "going"] 4 (A3):=by
 obtain⟨f,fd,d⟩:=a.e16;exact JJ (k:=3) .all d.F sc_with_moments (PySem.W.mg_of a.X a.G d.a) (d.F.binds λ_ _ _ _ _ _=>lq2 λ_ _=>rfl) (λ_ _ _ _ _ _ hr=>have nd:=sc_with_moments.nd;(AH (AU 2 nd Ij) (AH (OM PassesOwn.never rfl (Be (Qa a) hr (AD (CV (Td rfl) a.y6 Mi.Cu (AD (AB 0) AI)) AI)) (FC (is:=[3,4]) rfl (Ar (Aq (i:=3) nd rfl (by first|exact Or.inl rfl|exact Or.inr rfl)) (Ar (Aq (i:=4) nd rfl (by first|exact Or.inl rfl|exact Or.inr rfl)) Cb))) (AM (BA (AY bB (AB 4) CB) (AM (Ga hr (AB 2) (AB 3) (OO hr (AB 0) (AB 3)))) (AM (Ga hr (AB 2) (AB 3) (Bg (AD (Ks hr (AB 1) (AR AZ (AB 4) AE)) (AD (OO hr (AB 2) (AR AZ (AB 4) AE)) AI)))))))) (AM (Ak (AB 2))))))
theorem Nx:Fn P w K mg base "order_of" ["path"] 1 (B2):=by
 obtain⟨f,fd,d⟩:=a.e17;exact JJ (k:=0) .all d.F sc_order_of (PySem.W.mg_of a.X a.G d.a) (d.F.binds λ_ _ _ _ _ _=>lq1 λ_=>rfl) (λ_ _ _ _ _ _ hr=>have nd:=sc_order_of.nd;(AH (AU 1 nd (C4 AI)) (AH (Ib Ep PassesOwn.never (AY Do (AB 0) CB) (AH (BX (BB PySem.F.slot_list_append PySem.F.type_list_append B6 (AB 1) (AD (AR AZ (AB 0) AE) AI))) (AM (AU 0 nd (AR AZ (AB 0) AE))))) (AH (BX (Ju PySem.F.slot_list_reverse PySem.F.type_list_reverse P1 (AB 1))) (AM (Ak (AB 1)))))))
theorem LY:Fn P w K mg base "moments_of" ["making", "events"] 5 (D8):=by
 obtain⟨f,fd,d⟩:=a.e18;exact JI (k:=4) d.F sc_moments_of (PySem.W.mg_of a.X a.G d.a) (d.F.binds λ_ _ _ _ _ _=>lq2 λ_ _=>rfl) (λ_ _ _ _ _ _ hr=>have nd:=sc_moments_of.nd;(AH (AU 2 nd (Ag Jx (Ac CK a.y5 Mi.Av (AD (AR AZ (AB 0) AE) AI)) AE)) (AH (AU 3 nd (Rc hr (Bg (AD (AR AZ (AB 0) AE) (AD (Gc a.g1) (AD (Ag YD (Bg (AD (Gc a.g1) AI)) (AB 2)) AI)))) CB)) (AH (AU 4 nd Gd) (AH (DU PassesOwn.never rfl (DF (Be (Ka a) hr (AD (AB 0) (AD (AB 1) AI)))) (FD 5 nd) (AH (Hv hr (AB 4) (AR AZ (AB 5) AE) (AR AZ (AB 5) AE)) (AM (AU 3 nd (Be (JY a) hr (AD (Be (JZ a) hr (AD (AB 3) (AD (AB 5) AI))) (AD (AB 4) AI))))))) (AH (BA (EW (Uq (AB 3))) (AM (Ak CB)) Aw) (AM (Ak (Be (Nx a) hr (AD (AR AZ (RZ a.y6 (AB 3)) AE) AI))))))))))
theorem Mt:Fn P w K mg base "_law_is_order" ["_law_order", "_law_many"] 1 (Cr):=by
 obtain⟨f,fd,d⟩:=a.e19;exact BV (k:=0) .drop d.F sc_Lis_order (PySem.W.mg_of a.X a.G d.a) (d.F.binds λ_ _ _ _ _ _=>lq2 λ_ _=>rfl) (λ_ _ _ _ _ _ hr=>have nd:=sc_Lis_order.nd;(AH (BA (EW (FB (Ac FK a.y4 Mi.BF (AD (AB 0) (AD (D6 a.y6 Mi.Cu) AI))))) (AM (Ak DQ)) Aw) (AH (BA (AY (NN hr) (L4 (co:=(some _)) (tgs:=["_law_k"]) ⟨⟨rfl,by decide +kernel,by decide +kernel,trivial,rfl,by decide +kernel⟩,rfl,⟨_,E7,λ_ _ _ _=>Aq (i:=0) (show List.Nodup (["_law_k"]:List Str) from by decide +kernel) rfl (Or.inl rfl)⟩,λ_ _ _ _=>Eh (RW.rt (RN (EW (FB (Ac FK a.y4 Mi.BF (AD (AB 0) (AD (D6 a.y3 Mi.G3) AI))))) (RM (FB (Ac FK a.y4 Mi.BF (AD (AB 0) (AD (D6 a.y1 Mi.HX) AI))))))),λ_ _ _ _=>(AB 0)⟩ (DF (AB 0)) JH) (CY AI)) (AM (Ak DQ)) Aw) (AM (Ak (DW (DV (CU hr) (Ii a.y5 a.y9 (AB 0)) (Ac CK a.y5 Mi.Av (AD (AB 0) AI))) (Fa (DV (CU hr) (L4 (co:=(some _)) (tgs:=["_law_k"]) ⟨⟨rfl,by decide +kernel,by decide +kernel,⟨Or.inl rfl,trivial⟩,rfl,by decide +kernel⟩,rfl,⟨_,E7,λ_ _ _ _=>Aq (i:=0) (show List.Nodup (["_law_k", "_law_many"]:List Str) from by decide +kernel) rfl (Or.inl rfl)⟩,λ_ _ _ _=>Eh (EW (RP SH Je AE (AB 0) (AB 1))),λ_ _ _ _=>(AB 0)⟩ (DF (AB 0)) JH) (CY AI)))))))))
theorem Tq:Fn P w K mg base "_law_bears" ["_law_making_here", "_law_deeds_here", "_law_order"] 1 (JL):=by
 obtain⟨f,fd,d⟩:=a.e20;exact BV (k:=0) .drop d.F sc_Lbears (PySem.W.mg_of a.X a.G d.a) (d.F.binds λ_ _ _ _ _ _=>lq3 λ_ _ _=>rfl) (λ_ _ _ _ _ _ hr=>have nd:=sc_Lbears.nd;(AH (BA (AY (NN hr) (L4 (co:=(some _)) (tgs:=["_law_k", "_law_deed"]) ⟨⟨rfl,by decide +kernel,by decide +kernel,⟨Or.inl rfl,trivial⟩,rfl,by decide +kernel⟩,rfl,⟨_,Kj,λ_ _ _ _=>HJ rfl (Ar (Aq (i:=0) (show List.Nodup (["_law_k", "_law_deed", "_law_order"]:List Str) from by decide +kernel) rfl (Or.inl rfl)) (Ar (Aq (i:=1) (show List.Nodup (["_law_k", "_law_deed", "_law_order"]:List Str) from by decide +kernel) rfl (Or.inl rfl)) Cb)) rfl rfl⟩,λ_ _ _ _=>Eh (RW.rt (DE (AY Do (AR AZ (AB 1) AE) CB) (C2 (AY K3 (AB 0) (AB 2))))),λ_ _ _ _=>(AB 0)⟩ (Ds a.y2 (AD (AB 1) AI)) JH) (CY AI)) (AM (Ak DQ)) Aw) (AH (AU 3 nd (AR AZ (AB 0) AE)) (AH (DU PassesOwn.never rfl (Ds a.y2 (AD (AB 2) AI)) (FC (is:=[4,5]) rfl (Ar (Aq (i:=4) nd rfl (by first|exact Or.inl rfl|exact Or.inr rfl)) (Ar (Aq (i:=5) nd rfl (by first|exact Or.inl rfl|exact Or.inr rfl)) Cb))) (AH (BA (AY (NN hr) (L4 (co:=(some _)) (tgs:=["_law_j"]) ⟨⟨rfl,by decide +kernel,by decide +kernel,⟨Or.inl rfl,Or.inl rfl,trivial⟩,rfl,by decide +kernel⟩,rfl,⟨_,E7,λ_ _ _ _=>Aq (i:=0) (show List.Nodup (["_law_j", "_law_deeds_here", "_law_k"]:List Str) from by decide +kernel) rfl (Or.inl rfl)⟩,λ_ _ _ _=>Eh (RW.rt (DE (AY Do (AR AZ (AR AZ (AB 1) (AB 2)) AE) CB) (C2 (AY Je (AR AZ (AR AZ (AB 1) (AB 2)) AE) (AR AZ (AR AZ (AB 1) (AB 0)) AE))))),λ_ _ _ _=>(AB 0)⟩ (DF (FZ (AB 2) Fu (Dm (AB 4)))) JH) (CY AI)) (AM (Ak DQ)) Aw) (AM (BA (AY (CU hr) (AR AZ (AR AZ (AB 1) (AB 5)) AE) BC) (AM (AU 3 nd (AR AZ (AR AZ (AB 1) (AB 5)) AE))) (AM (BA (RW.rt (DE (AY Do (AR AZ (AR AZ (AB 1) (AB 5)) AE) CB) (C2 (AY (NN hr) (AR AZ (AR AZ (AB 1) (AB 5)) AE) (AB 3))))) (AM (Ak DQ)) Aw)))))) (AM (Ak DQ))))))
theorem N1:Fn P w K mg base "deeds_of" ["acts"] 1 (CQ):=by
 obtain⟨f,fd,d⟩:=a.e21;exact JI (k:=0) d.F sc_deeds_of (PySem.W.mg_of a.X a.G d.a) (d.F.binds λ_ _ _ _ _ _=>lq1 λ_=>rfl) (λ_ _ _ _ _ _ hr=>have nd:=sc_deeds_of.nd;(AH (AU 1 nd (C4 AI)) (AH (DU PassesOwn.never rfl (Ds a.y2 (AD (AB 0) AI)) (FC (is:=[2,3]) rfl (Ar (Aq (i:=2) nd rfl (by first|exact Or.inl rfl|exact Or.inr rfl)) (Ar (Aq (i:=3) nd rfl (by first|exact Or.inl rfl|exact Or.inr rfl)) Cb))) (AM (BA (AY (CU hr) (AR AZ (AB 3) AE) BC) (AM (BX (BB PySem.F.slot_list_append PySem.F.type_list_append B6 (AB 1) (AD (C4 (AD (AR AZ (AB 3) AE) (AD (AR AZ (AB 3) AE) (AD (AB 2) (AD CB AI))))) AI)))) (AH (AU 4 nd (AR AZ (AB 1) (AR AZ (AB 3) AE))) (AH (Ie (AB 2) (HG (AB 4) AE)) (AM (BA (AY Zv (AR AZ (AB 3) AE) AE) (AM (Ie (AR AZ (AB 3) AE) (HG (AB 4) AE))) Aw))))))) (AM (Ak (AB 1))))))
theorem Lb:Fn P w K mg base "are_unlike" ["names"] 1 (Bp):=by
 obtain⟨f,fd,d⟩:=a.e22;exact BV (k:=0) .drop d.F sc_are_unlike (PySem.W.mg_of a.X a.G d.a) (d.F.binds λ_ _ _ _ _ _=>lq1 λ_=>rfl) (λ_ _ _ _ _ _ hr=>have nd:=sc_are_unlike.nd;(AM (Ak (DV (CU hr) (Ii a.y5 a.y9 (AB 0)) (Ac CK a.y5 Mi.Av (AD (AB 0) AI))))))
theorem Nz:Fn P w K mg base "is_order" ["thing", "count"] 2 (BH):=by
 obtain⟨f,fd,d⟩:=a.e23;exact BV (k:=1) .drop d.F sc_is_order (PySem.W.mg_of a.X a.G d.a) (d.F.binds λ_ _ _ _ _ _=>lq2 λ_ _=>rfl) (λ_ _ _ _ _ _ hr=>have nd:=sc_is_order.nd;(AM (Ak (DW (Ac FK a.y4 Mi.BF (AD (AB 0) (AD (D6 a.y6 Mi.Cu) AI))) (DW (Ac (WX rfl) a.y0 Mi.Mn (AD (L4 (co:=none) (tgs:=["part"]) ⟨⟨rfl,by decide +kernel,by decide +kernel,⟨Or.inl rfl,trivial⟩,rfl,by decide +kernel⟩,rfl,⟨_,E7,λ_ _ _ _=>Aq (i:=0) (show List.Nodup (["part", "count"]:List Str) from by decide +kernel) rfl (Or.inl rfl)⟩,λ_ _ _ _=>Ei,λ_ _ _ _=>(Be (Jc a) hr (AD (AB 0) (AD AE (AD (Ag Jx (AB 1) AE) AI))))⟩ (DF (AB 0)) JH) AI)) (Fa (Be (Lb a) hr (AD (AB 0) AI))))))))
theorem Hb:Fn P w K mg base "has_ended_ones" ["deeds", "order"] 1 (BL):=by
 obtain⟨f,fd,d⟩:=a.e24;exact BV (k:=0) .drop d.F sc_has_ended_ones (PySem.W.mg_of a.X a.G d.a) (d.F.binds λ_ _ _ _ _ _=>lq2 λ_ _=>rfl) (λ_ _ _ _ _ _ hr=>have nd:=sc_has_ended_ones.nd;(AH (AU 2 nd Gd) (AH (DU PassesOwn.never rfl (DF (AB 1)) (FD 3 nd) (AM (Hv hr (AB 2) (AB 3) DQ))) (AM (Ak (Ac (WX rfl) a.y0 Mi.Mn (AD (L4 (co:=(some _)) (tgs:=["number", "deed"]) ⟨⟨rfl,by decide +kernel,by decide +kernel,⟨Or.inl rfl,trivial⟩,rfl,by decide +kernel⟩,rfl,⟨_,Kj,λ_ _ _ _=>HJ rfl (Ar (Aq (i:=0) (show List.Nodup (["number", "deed", "there"]:List Str) from by decide +kernel) rfl (Or.inl rfl)) (Ar (Aq (i:=1) (show List.Nodup (["number", "deed", "there"]:List Str) from by decide +kernel) rfl (Or.inl rfl)) Cb)) rfl rfl⟩,λ_ _ _ _=>Eh (AY Do (AR AZ (AB 1) AE) CB),λ_ _ _ _=>(Rb hr (AB 0) (AB 2))⟩ (Ds a.y2 (AD (AB 0) AI)) JH) AI)))))))
theorem Jk:Fn P w K mg base "keeps_times" ["deeds", "order"] 1 (Br):=by
 obtain⟨f,fd,d⟩:=a.e25;exact BV (k:=0) .drop d.F sc_keeps_times (PySem.W.mg_of a.X a.G d.a) (d.F.binds λ_ _ _ _ _ _=>lq2 λ_ _=>rfl) (λ_ _ _ _ _ _ hr=>have nd:=sc_keeps_times.nd;(AH (AU 2 nd (RY SG AE)) (AH (DU PassesOwn.never rfl (DF (AB 1)) (FD 3 nd) (AH (AU 4 nd (AR AZ (AB 0) (AB 3))) (AH (BA (RW.rt (DE (AY Do (AR AZ (AB 4) AE) CB) (C2 (AY Je (AR AZ (AB 4) AE) (AB 2))))) (AM (Ak DQ)) Aw) (AM (AU 2 nd (Ac (aM rfl) a.y7 Mi.Th (AD (AB 2) (AD (AR AZ (AB 4) AE) AI)))))))) (AM (Ak DQ)))))
theorem Jb:Fn P w K mg base "keeps_worths" ["deeds", "order", "begin"] 1 (Bi):=by
 obtain⟨f,fd,d⟩:=a.e26;exact BV (k:=0) .drop d.F sc_keeps_worths (PySem.W.mg_of a.X a.G d.a) (d.F.binds λ_ _ _ _ _ _=>lq3 λ_ _ _=>rfl) (λ_ _ _ _ _ _ hr=>have nd:=sc_keeps_worths.nd;(AH (AU 3 nd (AB 2)) (AH (DU PassesOwn.never rfl (DF (AB 1)) (FD 4 nd) (AH (AU 5 nd (AR AZ (AB 0) (AB 4))) (AM (BA (AY (CU hr) (AR AZ (AB 5) AE) AE) (AM (AU 3 nd (AR AZ (AB 5) AE))) (AM (BA (RW.rt (DE (AY Do (AR AZ (AB 5) AE) CB) (C2 (AY (NN hr) (AR AZ (AB 5) AE) (AB 3))))) (AM (Ak DQ)) Aw)))))) (AM (Ak DQ)))))
theorem Mr:Fn P w K mg base "bears_out" ["making", "events", "order"] 4 (Dx):=by
 obtain⟨f,fd,d⟩:=a.e27;exact BV (k:=3) .drop d.F sc_bears_out (PySem.W.mg_of a.X a.G d.a) (d.F.binds λ_ _ _ _ _ _=>lq3 λ_ _ _=>rfl) (λ_ _ _ _ _ _ hr=>have nd:=sc_bears_out.nd;(AH (AU 3 nd (Be (N1 a) hr (AD (Be (Ka a) hr (AD (AB 0) (AD (AB 1) AI))) AI))) (AH (BA (EW (FB (Be (Nz a) hr (AD (AB 2) (AD (Ac CK a.y5 Mi.Av (AD (AB 3) AI)) AI))))) (AM (Ak DQ)) Aw) (AM (Ak (DW (Be (Hb a) hr (AD (AB 3) (AD (AB 2) AI))) (DW (Be (Jk a) hr (AD (AB 3) (AD (AB 2) AI))) (Fa (Be (Jb a) hr (AD (AB 3) (AD (AB 2) (AD (AR AZ (AB 0) AE) AI))))))))))))
theorem Ms:Fn P w K mg base "_law_right" ["_law_making_here", "_law_events_here", "_law_deeds_here", "_law_order"] 5 (EJ):=by
 obtain⟨f,fd,d⟩:=a.e28;exact BV (k:=4) .drop d.F sc_Lright (PySem.W.mg_of a.X a.G d.a) (d.F.binds λ_ _ _ _ _ _=>lq4 λ_ _ _ _=>rfl) (λ_ _ _ _ _ _ hr=>have nd:=sc_Lright.nd;(AH (AU 4 nd (DW (Be (Mt a) hr (AD (AB 3) (AD (Ac CK a.y5 Mi.Av (AD (AB 2) AI)) AI))) (Fa (Be (Tq a) hr (AD (AB 0) (AD (AB 2) (AD (AB 3) AI))))))) (AH (AU 5 nd (CV Vl a.y6 Mi.Cu (AD (AB 1) AI))) (AH (AU 6 nd (CV (Tc hr) a.y11 Mi.Mm (AD (AB 3) AI))) (AH (AU 7 nd (Be (Mr a) hr (AD (AB 0) (AD (AB 1) (AD (AB 3) AI))))) (AM (Ak (DW (Ac FK a.y4 Mi.BF (AD (AB 7) (AD (D6 a.y1 Mi.HX) AI))) (DW (DV (CU hr) (AB 7) (AB 4)) (DW (DV (CU hr) (AB 1) (AB 5)) (Fa (DV Zw (CV (Tc hr) a.y11 Mi.Mm (AD (AB 3) AI)) (AB 6)))))))))))))
theorem Lc:Fn P w K mg base "_law_otherwise" ["_law_order", "_law_many", "_law_xs"] 1 (CS):=by
 obtain⟨f,fd,d⟩:=a.e29;exact S5 (k:=0) d.F sc_Lotherwise (PySem.W.mg_of a.X a.G d.a) (d.F.binds λ_ _ _ _ _ _=>lq3 λ_ _ _=>rfl) (λ_ _ _ _ _ _ hr=>have nd:=sc_Lotherwise.nd;(AH (AU 3 nd (CV Yo a.y6 Mi.Cu (AD (AB 0) AI))) (AH (AU 4 nd (Ag Cj (AR AZ (AB 2) AE) AE)) (AH (AU 5 nd (Ag Cj (AR AZ (AB 2) AE) (Ag CL (Ac CK a.y5 Mi.Av (AD (AB 0) AI)) AE))) (AH (AU 6 nd (Ag Cj (AR AZ (AB 2) AE) (Ag CL (Ac CK a.y5 Mi.Av (AD (AB 0) AI)) AE))) (AH (BA (RW.rt (DE (AY (CU hr) (AB 4) AE) (DE (AY Je (AB 5) (Ac CK a.y5 Mi.Av (AD (AB 0) AI))) (C2 (AY Je (AB 6) (Ac CK a.y5 Mi.Av (AD (AB 0) AI))))))) (AM (Ie (Bg (AD (AR AZ (AB 3) (AB 6)) (AD (AR AZ (AB 3) (AB 5)) AI))) (XX rfl (HG (AB 3) (AB 5)) (HG (AB 3) (AB 6))))) (AM (BA (RW.rt (DE (AY (CU hr) (AB 4) AE) (C2 (AY Je (AB 5) (Ac CK a.y5 Mi.Av (AD (AB 0) AI)))))) (AM (BX (BB PySem.F.slot_list_pop PySem.F.type_list_pop SR (AB 3) (AD (AB 5) AI)))) (AM (BA (RW.rt (DE (AY (CU hr) (AB 4) AE) (C2 (AY (NN hr) (AB 0) (CY AI))))) (AM (BX (BB PySem.F.slot_list_insert PySem.F.type_list_insert Gi (AB 3) (AD (AB 5) (AD (AR AZ (AB 0) (Ag Cj (AR AZ (AB 2) AE) (Ac CK a.y5 Mi.Av (AD (AB 0) AI)))) AI))))) (AM (BA (RW.rt (DE (AY Je (AB 4) AE) (C2 (AY Je (AB 5) (Ac CK a.y5 Mi.Av (AD (AB 0) AI)))))) (AM (BX (BB PySem.F.slot_list_insert PySem.F.type_list_insert Gi (AB 3) (AD (AB 6) (AD (BB PySem.F.slot_list_pop PySem.F.type_list_pop SR (AB 3) (AD (AB 5) AI)) AI))))) (AM (BA (AY (CU hr) (AB 4) AE) (AM (BX (BB PySem.F.slot_list_insert PySem.F.type_list_insert Gi (AB 3) (AD (AB 5) (AD (AR AZ (CY (AD (AB 1) (AD (RY SG AE) (AD (Ag SF AE AE) AI)))) (Ag Cj (AR AZ (AB 2) AE) AE)) AI))))) (AM (BA (AY (CU hr) (AB 4) AE) (AM (BX (BB PySem.F.slot_list_insert PySem.F.type_list_insert Gi (AB 3) (AD (AB 5) (AD (AR AZ (CY (AD DQ (AD DQ (AD CB (AD BC (AD (Bg (AD AE AI)) (AD (CY (AD AE AI)) AI))))))) (Ag Cj (AR AZ (AB 2) AE) AE)) AI))))) (AM (BA (AY (CU hr) (AB 4) AE) (AM (Ak (AR AZ (CY (AD (CV PD a.y12 Mi.GM (AD (AB 0) AI)) (AD CB (AD BC (AD Gd (AD AE AI)))))) (Ag Cj (AR AZ (AB 2) AE) AE)))) Aw))))))))))))) (AM (Ak (AB 3)))))))))
end
theorem all_mk{l:PySem.W.OpenLaw}{w:World}{K:PySem.W.Frag}{h:Heap}{mg:Str->Option Value}{fa:Addr}(hφ:∀ns:List Int,ns.length<=63->∃Z',KJ [.scr ns] []=some (.bl true,Z'))(a:Al w K mg h)(hfa:mg "law" = some (.ref fa)):
  ∃fd:FuncData,(∀(s:Shared) (v:Value),BindsTo s fd ⟨[v],[]⟩ [("_law_script",v)])/\∀base:Heap,K.In base->base.Ns mainGlobals mg->FnOk l.prog w K mg base CX0 6 fa fd ["_law_script"] (OK K):=by
 obtain⟨fa_law,fd_law,d⟩:=a.e30;have e:=hfa.symm.trans (PySem.W.mg_of a.X a.G d.a);cases e;refine⟨fd_law,λs v=>?_,λbase _ _=>?_⟩
 ·obtain⟨oc,od,kV,doc,pm,an,cdv,ct,osl,rfl,lk,hcd⟩:=d.F.ex;exact .of_eq rfl
 exact XH (φ:=KJ) (Sz (k:=5) .drop d.F sc_law (λ_ _ _ _ _ _ hr=>have nd:=sc_law.nd;(AH (AU 1 nd (Be (N2 a) hr (AD (AB 0) (AD AE AI)))) (AH (AU 2 nd (Be (Qb a) hr (AD (Ag DH (AB 1) AE) (AD (AR AZ (CY (AD BC (AD BC (AD BC AI)))) (Ag Cj (AB 1) AE)) AI)))) (AH (AU 3 nd (Be (Qc a) hr (AD (AB 2) (AD (FZ (AB 0) (Dm AE) (Dm AE)) AI)))) (AH (AU 4 nd (Be (Tp a) hr (AD (AB 2) (AD (AB 3) AI)))) (AH (AU 5 nd (C4 (AD (NF a.y6 a.y8 (Ac CK a.y5 Mi.Av (AD (AB 4) AI))) AI))) (AH (AU 6 nd (Ac (Vk hr) a.y10 PyProof.Rows.boot_sorted (AD (L4 (co:=(some _)) (tgs:=["_law_k", "_law_deed"]) ⟨⟨rfl,by decide +kernel,by decide +kernel,trivial,rfl,by decide +kernel⟩,rfl,⟨_,Kj,λ_ _ _ _=>HJ rfl (Ar (Aq (i:=0) (show List.Nodup (["_law_k", "_law_deed"]:List Str) from by decide +kernel) rfl (Or.inl rfl)) (Ar (Aq (i:=1) (show List.Nodup (["_law_k", "_law_deed"]:List Str) from by decide +kernel) rfl (Or.inl rfl)) Cb)) rfl rfl⟩,λ_ _ _ _=>Eh (AY Do (AR AZ (AB 1) AE) CB),λ_ _ _ _=>(Bg (AD (AR AZ (AB 1) AE) (AD (AB 0) AI)))⟩ (Ds a.y2 (AD (AB 4) AI)) JH) AI))) (AH (BX (BB PySem.F.slot_list_append PySem.F.type_list_append B6 (AB 5) (AD (L4 (co:=none) (tgs:=["_law_at", "_law_k"]) ⟨⟨rfl,by decide +kernel,by decide +kernel,trivial,rfl,by decide +kernel⟩,rfl,⟨_,Kj,λ_ _ _ _=>HJ rfl (Ar (Aq (i:=0) (show List.Nodup (["_law_at", "_law_k"]:List Str) from by decide +kernel) rfl (Or.inl rfl)) (Ar (Aq (i:=1) (show List.Nodup (["_law_at", "_law_k"]:List Str) from by decide +kernel) rfl (Or.inl rfl)) Cb)) rfl rfl⟩,λ_ _ _ _=>Ei,λ_ _ _ _=>(AB 1)⟩ (DF (AB 6)) JH) AI))) (AH (AU 7 nd (Be (LY a) hr (AD (AB 2) (AD (AB 3) AI)))) (AH (BA (AY Do (AB 7) CB) (AM (BX (BB PySem.F.slot_list_append PySem.F.type_list_append B6 (AB 5) (AD (AB 7) AI)))) Aw) (AH (DU PassesOwn.never rfl (Ds a.y2 (AD (Ag CL (FZ (AB 0) (Dm AE) (Dm AE)) (CY (AD AE (AD AE AI)))) AI)) (FC (is:=[8,9]) rfl (Ar (Aq (i:=8) nd rfl (by first|exact Or.inl rfl|exact Or.inr rfl)) (Ar (Aq (i:=9) nd rfl (by first|exact Or.inl rfl|exact Or.inr rfl)) Cb))) (AH (AU 10 nd (AR AZ (AB 5) (Ag Cj (AB 8) (Ac CK a.y5 Mi.Av (AD (AB 5) AI))))) (AH (BA (EW (FB (Be (Ms a) hr (AD (AB 2) (AD (AB 3) (AD (AB 4) (AD (AB 10) AI))))))) (AM (Ak DQ)) Aw) (AM (BA (EW (FB (Be (Ms a) hr (AD (AB 2) (AD (AB 3) (AD (AB 4) (AD (Be (Lc a) hr (AD (AB 10) (AD (Ac CK a.y5 Mi.Av (AD (AB 4) AI)) (AD (Be (Kb a) hr (AD (AB 9) (AD AE AI))) AI)))) AI))))))) (AM (Ak DQ)) Aw))))) (AM (Ak DQ)))))))))))))) hφ
end K17
set_option maxHeartbeats 2000000
set_option maxHeartbeats 2000000
namespace Mi
open PySem L2
section
variable{B x3:Sl}{Z w6 w9 x8 u3:Mh}{d x y z:D}{ds:List D}{ma mb mc:Sl->M D}{tc tb:Sl->M Bool}{b:Bool}{m1 m2:Sl->M (Fl×Sl)}{g g':D->D->M D}{r:Fl×Sl}
theorem A1(h:B[i]?=some (some d)):AA i B Z=some (d,Z):=by unfold AA;rw[h]
theorem WN(h1:ma B Z=some (x,w6))(h2:mb B w6=some (y,w9))(h3:g x y w9=some (d,x8)):mOp g ma mb B Z=some (d,x8):=by unfold mOp;rw[AK h1,AK h2,h3]
theorem Es(h1:ma B Z=some (x,w6))(h2:as B w6=some (ds,w9)):AC ma as B Z=some (x::ds,w9):=by unfold AC;rw[AK h1,AK h2];rfl
theorem B8(h1:as B Z=some (ds,w6))(h2:f ds w6=some (d,w9)):AG f as B Z=some (d,w9):=by unfold AG;rw[AK h1,h2]
theorem D9(h1:ma B Z=some (x,w6))(h0:Dc x w6=some (u,w9))(h2:as B w9=some (ds,x8))(h3:f x ds x8=some (d,u3)):Aj f ma as B Z=some (d,u3):=by unfold Aj;rw[AK h1,AK h0,AK h2,h3]
theorem Aa(h:ma B Z=some (.bl b,w6)):AN ma B Z=some (b,w6):=by unfold AN;rw[AK h];rfl
theorem HV(h:tc B Z=some (b,w6)):Du tc B Z=some (!b,w6):=by unfold Du;rw[AK h];rfl
theorem DN(h1:tc B Z=some (true,w6))(h2:tb B w6=some (b,w9)):Co tc tb B Z=some (b,w9):=by unfold Co;rw[AK h1,if_pos rfl,h2]
theorem EU(h1:tc B Z=some (false,w6)):Co tc tb B Z=some (false,w6):=by unfold Co;rw[AK h1];rfl
theorem Ng(h1:tc B Z=some (false,w6))(h2:tb B w6=some (b,w9)):mOr tc tb B Z=some (b,w9):=by unfold mOr;rw[AK h1,if_neg (by decide),h2]
theorem DM(h1:ma B Z=some (.bl true,w6))(h2:mb B w6=some (d,w9)):Ce ma mb B Z=some (d,w9):=by
 unfold Ce;rw[AK h1,AK (show asB (.bl true) w6=some (true,w6) from rfl),if_pos rfl,h2]
theorem JO(h1:ma B Z=some (.bl false,w6)):Ce ma mb B Z=some (.bl false,w6):=by
 unfold Ce;rw[AK h1,AK (show asB (.bl false) w6=some (false,w6) from rfl)];rfl
theorem VY(h:ma B Z=some (.bl b,w6)):Hf ma B Z=some (.bl (!b),w6):=by
 unfold Hf;rw[AK h,AK (show asB (.bl b) w6=some (b,w6) from rfl)];rfl
theorem HW(h1:ma B Z=some (x,w6))(h2:mb B w6=some (y,w9))(h3:g x y w9=some (.bl true,x8))(h4:mc B x8=some (z,u3))(h5:g' y z u3=some (d,u3)):Db g g' ma mb mc B Z=some (d,u3):=by
 unfold Db;rw[AK h1,AK h2,AK h3,AK (show asB (.bl true) x8=some (true,x8) from rfl),if_pos rfl,AK h4,h5]
theorem AX(h1:m1 B Z=some ((.next,x3),w6))(h2:m2 x3 w6=some (r,w9)):AS m1 m2 B Z=some (r,w9):=by unfold AS;rw[AK h1];exact h2
theorem C5(h1:m1 B Z=some ((.rt d,x3),w6)):AS m1 m2 B Z=some ((.rt d,x3),w6):=by unfold AS;rw[AK h1];rfl
theorem Dp(h1:ma B Z=some (d,w6)):BI ma B Z=some ((.next,B),w6):=by unfold BI;rw[AK h1];rfl
theorem De(h1:ma B Z=some (d,w6)):Az ma B Z=some ((.rt d,B),w6):=by unfold Az;rw[AK h1];rfl
theorem Dg(h1:tc B Z=some (true,w6))(h2:m1 B w6=some (r,w9)):sIf tc m1 m2 B Z=some (r,w9):=by unfold sIf;rw[AK h1,if_pos rfl,h2]
theorem Dh(h1:tc B Z=some (false,w6))(h2:m2 B w6=some (r,w9)):sIf tc m1 m2 B Z=some (r,w9):=by unfold sIf;rw[AK h1,if_neg (by decide),h2]
theorem CZ(h1:ma B Z=some (d,w6))(h2:bf d B w6=some (x3,w9)):AW ma bf B Z=some ((.next,x3),w9):=by unfold AW;rw[AK h1,AK h2];rfl
theorem JN(h1:ma B Z=some (x,w6))(h2:mb B w6=some (y,w9))(h3:RK x y d w9=some (u,x8)):F7 ma mb d B Z=some (B,x8):=by unfold F7;rw[AK h1,AK h2,AK h3];rfl
theorem EK(h1:src B Z=some (ds,w6))(h2:B1 bf m1 ds B w6=some (r,w9)):EO src bf m1 B Z=some (r,w9):=by unfold EO;rw[AK h1,h2]
theorem Sa(h:i<=j):Gg (.int i) (.int j) Z=some (.bl true,Z):=by show some (D.bl (decide (i<=j)),Z)=_;rw[AAO h]
theorem Iw(h:0<j):BS (.int i) (.int j) Z=some (.int (i % j),Z):=by show (if 0<j then some (D.int (i % j),Z) else none)=_;rw[if_pos h]
theorem GI(h:0<j)(h2:j<1073741824):Bm (.int i) (.int j) Z=some (.int (i / j),Z):=by show (if 0<j/\j<1073741824 then some (D.int (i / j),Z) else none)=_;rw[if_pos ⟨h,h2⟩]
theorem MK(h:(-(2 ^ 64)<i/\i<2 ^ 64)∨(-(2 ^ 64)<j/\j<2 ^ 64)):Eg (.int i) (.int j) Z=some (.int (i * j),Z):=by show (if (-(2 ^ 64)<i/\i<2 ^ 64)∨(-(2 ^ 64)<j/\j<2 ^ 64) then some (D.int (i * j),Z) else none)=_;rw[if_pos h]
theorem J7:Cg [.int i,.ty "int"] Z=some (.bl true,Z):=by
 show (DL "int" "int").map (λb=>(D.bl b,Z))=_;rw[show DL "int" "int" = some true from by decide];rfl
theorem J8:Cg [.int i,.ty "bool"] Z=some (.bl false,Z):=by
 show (DL "int" "bool").map (λb=>(D.bl b,Z))=_;rw[show DL "int" "bool" = some false from by decide];rfl
theorem J6:Cg [.tup ds,.ty "tuple"] Z=some (.bl true,Z):=by
 show (DL "tuple" "tuple").map (λb=>(D.bl b,Z))=_;rw[show DL "tuple" "tuple" = some true from by decide];rfl
theorem K9(h:Z[n]?=some (.lst ds))(h2:atI ds i=some d):AJ (.ref n) (.int i) Z=some (d,Z):=by
 show bnd (B4 (.ref n)) (λds=>ixD ds i) Z=_;rw[AK (show B4 (.ref n) Z=some (ds,Z) from by show (match Z[n]? with|some (.lst ds)=>some (ds,Z)|_=>none)=_;rw[h])];unfold ixD;rw[h2];rfl
theorem Oo(h2:atI ds i=some d):AJ (.tup ds) (.int i) Z=some (d,Z):=by
 show bnd (B4 (.tup ds)) (λds=>ixD ds i) Z=_;rw[AK (show B4 (.tup ds) Z=some (ds,Z) from rfl)];unfold ixD;rw[h2];rfl
theorem Iy(h2:atI ds i=some d):AJ (.lst ds) (.int i) Z=some (d,Z):=by
 show bnd (B4 (.lst ds)) (λds=>ixD ds i) Z=_;rw[AK (show B4 (.lst ds) Z=some (ds,Z) from rfl)];unfold ixD;rw[h2];rfl
theorem J5(h:Z[n]?=some (.lst ds))(h2:ixN ds.length k=some j):RK (.ref n) (.int k) d Z=some ((),Z.set n (.lst (ds.set j d))):=by
 show (match Z[n]? with|some (.lst ds)=>(ixN ds.length k).map λj=>((),Z.set n (.lst (ds.set j d)))|_=>none)=_;rw[h];show (ixN ds.length k).map _=_;rw[h2];rfl
end
end Mi
local macro_rules | `(tactic| wtm_at "p")=>`(tactic| first|rfl|assumption)
local macro_rules | `(tactic| wtm_at "g")=>`(tactic| first|assumption|decide|omega)
local macro_rules | `(tactic| wtm_at "p")=>`(tactic| first
 |((with_reducible apply Mi.Sa);wtm_at "g")|((with_reducible apply Mi.l_leF);wtm_at "g")|((with_reducible apply Mi.l_lt);wtm_at "g")|((with_reducible apply Mi.l_ltF);wtm_at "g")|((with_reducible apply Mi.l_gt);wtm_at "g")|((with_reducible apply Mi.l_gtF);wtm_at "g")
 |(with_reducible apply Mi.J7)|(with_reducible apply Mi.J8)|(with_reducible apply Mi.l_inst_ss)|(with_reducible apply Mi.J6)|(with_reducible apply Mi.l_add)|(with_reducible apply Mi.l_sub)|((with_reducible apply Mi.Iw);wtm_at "g")|((with_reducible apply Mi.GI);(wtm_at "g");(wtm_at "g"))|((with_reducible apply Mi.MK);first|(left;omega)|(right;omega))
 |((with_reducible apply Mi.Oo);rfl)|((with_reducible apply Mi.Iy);rfl)|((with_reducible apply Mi.K9);(first|assumption|rfl);(rfl))|((with_reducible apply Mi.J5);(first|assumption|rfl);(rfl)))
namespace K13
open PySem L2 Mi Ht
noncomputable def hdD(n:Str):D:=.tup [.str n,.int 0,.tup []]
theorem BO{α:Type}{f:α->D}{k:Nat}(h:∀a,Cl k (f a)):∀xs:List α,ClL k (xs.map f)
 |[]=>by unfold ClL;trivial
 |x::xs=>by
  rw[AAW];unfold ClL;exact⟨h x,BO h xs⟩
theorem Bc(k:Nat)(i:Int):Cl k (.int i):=by unfold Cl;trivial
section
variable{Z w6 w9 x8 u3:Mh}{B x3:Sl}{x0 d:D}{ds es:List D}
theorem A0(h:ds.length<=sizeLine):Bf ds Z=some (.tup ds,Z):=by
 unfold Bf;rw[AK (show lim ds.length Z=some ((),Z) from by unfold lim;rw[if_pos h])];rfl
theorem A7(h:ds.length<=sizeLine):Bn ds Z=some (.lst ds,Z):=by
 unfold Bn;rw[AK (show lim ds.length Z=some ((),Z) from by unfold lim;rw[if_pos h])];rfl
theorem Nf{ma:Sl->M D}{l h:Sl->M (Option Int)}{a b:Option Int}(h1:ma B Z=some (x0,w6))(h2:l B w6=some (a,w9))(h3:h B w9=some (b,x8))(h4:Ik a b x0 x8=some (d,u3)):EX ma l h B Z=some (d,u3):=by unfold EX;rw[AK h1,AK h2,AK h3,h4]
theorem IA(h:ds.length+es.length<=sizeLine):As (.tup ds) (.tup es) Z=some (.tup (ds++es),Z):=by
 cases ds with
 |nil=>rfl
 |cons a as=>exact A0 (by simp at h ⊢;omega)
theorem FA{x:Str}(h:PyData.strOk x=true):SeqAt.shaped (.str x)=true:=by
 show (PyData.strOk x&&decide ((PyData.str x).depth<=64))=true;rw[h];rfl
theorem FO{x y:Str}(h1:PyData.strOk x=true)(h2:PyData.strOk y=true):Ah (.str x) (.str y) Z=some (.bl (x==y),Z):=by
 show (if SeqAt.shaped (.str x)=true/\SeqAt.shaped (.str y)=true then some (D.bl (x==y),Z) else none)=_;rw[if_pos ⟨FA h1,FA h2⟩]
theorem A9:sizeLine=16777216:=by decide
section
variable{ma mb:Sl->M D}{x y:D}{g:D->D->M D}{as:Sl->M (List D)}{tc:Sl->M Bool}{b:Bool}{m1 m2:Sl->M (Fl×Sl)}{r:Fl×Sl}
theorem po(h1:ma B Z=some (x,Z))(h2:mb B Z=some (y,Z))(h3:g x y Z=some (d,Z)):mOp g ma mb B Z=some (d,Z):=WN h1 h2 h3
theorem pc(h1:ma B Z=some (x,Z))(h2:as B Z=some (ds,Z)):AC ma as B Z=some (x::ds,Z):=Es h1 h2
theorem pd{f:List D->M D}(h1:as B Z=some (ds,Z))(h2:f ds Z=some (d,Z)):AG f as B Z=some (d,Z):=B8 h1 h2
theorem p2{l h:Sl->M (Option Int)}{a b:Option Int}(h1:ma B Z=some (x,Z))(h2:l B Z=some (a,Z))(h3:h B Z=some (b,Z))(h4:Ik a b x Z=some (d,Z)):EX ma l h B Z=some (d,Z):=Nf h1 h2 h3 h4
theorem pq(h1:m1 B Z=some ((.next,x3),Z))(h2:m2 x3 Z=some (r,Z)):AS m1 m2 B Z=some (r,Z):=AX h1 h2
theorem pa{bf:D->Sl->M Sl}(h1:ma B Z=some (d,Z))(h2:bf d B Z=some (x3,Z)):AW ma bf B Z=some ((.next,x3),Z):=CZ h1 h2
theorem piT(h1:tc B Z=some (true,Z))(h2:m1 B Z=some (r,Z)):sIf tc m1 m2 B Z=some (r,Z):=Dg h1 h2
theorem piF(h1:tc B Z=some (false,Z))(h2:m2 B Z=some (r,Z)):sIf tc m1 m2 B Z=some (r,Z):=Dh h1 h2
theorem pr(h1:ma B Z=some (d,Z)):Az ma B Z=some ((.rt d,B),Z):=De h1
theorem peT(h1:tc B Z=some (true,Z))(h2:ma B Z=some (d,Z)):mIf tc ma mb B Z=some (d,Z):=by unfold mIf;rw[AK h1,if_pos rfl,h2]
theorem peF(h1:tc B Z=some (false,Z))(h2:mb B Z=some (d,Z)):mIf tc ma mb B Z=some (d,Z):=by unfold mIf;rw[AK h1,if_neg (by decide),h2]
end
theorem EY{α:D}{j:Nat}(h:j<=ds.length):DP ds none (some (j:Int))=ds.take j:=by
 unfold DP;rw[HT.Lz,HT.Hu,Nat.min_eq_left h];simp
theorem TW{j:Nat}(h:j<=ds.length):DP ds (some (j:Int)) none=ds.drop j:=by
 unfold DP;rw[HT.Lz,HT.Hu,Nat.min_eq_left h];exact List.take_of_length_le (by simp)
theorem HC{j:Nat}{x:D}(hj:j<ds.length)(hl:ds.length<=1000)(hc:∀k,ClL k ds)(hx:∀k,Cl k x):Ad [.tup ds,.int j,x] Z=some (.tup (ds.set j x),Z):=by
 have hz:=A9;have hcs:∀(k j:Nat) (ds:List D),ClL k ds->ClL k (ds.set j x):=by
  intro k j ds
  induction ds generalizing j with
  |nil=>intro h;exact h
  |cons a as ih=>
   intro h;unfold ClL at h;cases j with
   |zero=>show ClL k (x::as);unfold ClL;exact⟨hx k,h.2⟩
   |succ j=>show ClL k (a::as.set j x);unfold ClL;exact⟨h.1,ih j h.2⟩
 refine Au (g:=[]) (x6:=BR 3 [.tup ds,.int j,x]) ?_ rfl (by unfold Cl;exact hcs _ _ _ (hc _));rw[AAa];refine pr (po (x:=.tup (ds.take j++[x])) (y:=.tup (ds.drop (j+1))) (po (x:=.tup (ds.take j)) (y:=.tup [x]) (p2 (x:=.tup ds) (a:=none) (b:=some (j:Int)) rfl rfl rfl ?_) rfl (IA (by simp;omega))) (p2 (x:=.tup ds) (a:=some ((j:Int)+1)) (b:=none) rfl rfl rfl ?_) ?_)
 ·show some (D.tup (DP ds none (some (j:Int))),Z)=_;rw[EY (α:=x) (by omega)]
 ·show some (D.tup (DP ds (some ((j:Int)+1)) none),Z)=_;rw[show ((j:Int)+1)=((j+1:Nat):Int) by omega,TW (by omega)]
 ·rw[IA (by simp;omega),AAm];rw[List.set_eq_take_append_cons_drop,if_pos hj];rfl
end
section
variable{Z Z':Mh}{B:Sl}{d:D}{ds es:List D}
theorem Ct:∀{xs:List α} {ys:List D},(∀a∈xs,mc (u5.set 0 (some (f a))) Z=some (p a,Z))->(∀a∈xs,p a=true->me (u5.set 0 (some (f a))) Z=some (F a,Z))->EZ (AO 0) mc me u5 (xs.map f) ys Z=some (ys++(xs.filter p).map F,Z)
 |[],ys,_,_=>by show some (ys,Z)=_;simp
 |z::xs,ys,hc,h=>by
  show bnd (AO 0 (f z) u5) _ Z=_;rw[AK (show AO 0 (f z) u5 Z=some (u5.set 0 (some (f z)),Z) from rfl),AK (hc z (by simp))];cases q:p z with
  |true=>
   rw[if_pos rfl,AK (h z (by simp) q),Ct (λw hw=>hc w (by simp[hw])) (λw hw=>h w (by simp[hw]))];simp[q]
  |false=>
   rw[if_neg (by decide),Ct (λw hw=>hc w (by simp[hw])) (λw hw=>h w (by simp[hw]))];simp[q]
theorem Bq(h1:src B Z=some (ds,Z))(hl:ds.length<=sizeLine)(h2:EZ bf mc me (Dl N ix B) ds [] Z=some (es,Z))(h3:fin es Z=some (d,Z')):Cd N ix src bf mc me fin B Z=some (d,Z'):=by
 unfold Cd;rw[AK h1,AK (show lim ds.length Z=some ((),Z) from by unfold lim;rw[if_pos hl]),AK h2,h3]
theorem Bk(xs:List α):xs.filter (λ_=>true)=xs:=by simp
theorem E8(h:ma B Z=some (.tup ds,Z)):DO ma B Z=some (ds,Z):=by unfold DO;rw[AK h];rfl
theorem Bl(h:ma B Z=some (.lst ds,Z)):DO ma B Z=some (ds,Z):=by unfold DO;rw[AK h];rfl
theorem Gn(a:α):∀k:Nat,(List.replicate k [a]).flatten=List.replicate k a
 |0=>rfl
 |k+1=>by rw[AAl,List.flatten_cons,Gn a k];rfl
theorem Bj{ds:List D}{r:Nat}{x:D}(h:ds[r]?=some x):atI ds (r:Int)=some x:=by
 have hr:r<ds.length:=(AAT.mp h).1;unfold atI ixN;rw[if_pos (by omega),if_pos (by omega)];simpa using h
end
inductive Ev where
 |wb (v:Int)|we|rb (r:Nat)|re (r:Nat) (v:Int)
deriving DecidableEq
noncomputable def Ev.beg:Ev->Bool
 | .wb _=>true
 | .we=>false
 | .rb _=>true
 | .re _ _=>false
noncomputable def Ev.hand:Ev->Nat
 | .wb _=>0
 | .we=>0
 | .rb r=>r+1
 | .re r _=>r+1
noncomputable def Ev.val:Ev->Option Int
 | .wb v=>some v
 | .re _ v=>some v
 |_=>none
abbrev nm(ns:List Str)(h:Nat):Str:=ns.getD h "w"
noncomputable def bS:Bool->Str
 |true => "begin"
 |false => "end"
noncomputable def evD(ns:List Str)(e:Ev):D:=.tup (D.str (bS e.beg)::.str (nm ns e.hand)::(match e.val with|some v=>[.int v]|none=>[]))
noncomputable def Am(e:Ev)(g:Int):D:=.tup [.str (bS e.beg),.int e.hand,.int (e.val.getD (-1)),.int g]
structure Ns(ns:List Str):Prop where
 ok:∀n∈ns,PyData.strOk n=true
 nd:ns.Nodup
 lo:2<=ns.length
 hi:ns.length<=4
structure Ev.Ok(ns:List Str)(sz:Int)(e:Ev):Prop where
 h:e.hand<ns.length
 v:∀v,e.val=some v->0<=v/\v<sz
theorem Ns.nok(N:Ns ns)(hh:h<ns.length):PyData.strOk (nm ns h)=true:=N.ok _ (by simp[nm,hh])
theorem Ns.mem(hh:h<ns.length):nm ns h∈ns:=by simp[nm,hh]
theorem Ns.inj(N:Ns ns)(hh:h<ns.length)(hk:k<ns.length)(e:nm ns h=nm ns k):h=k:=by
 have e':ns[h]=ns[k]:=by simpa[nm,hh,hk] using e
 exact(List.getElem_inj N.nd).mp e'
section
variable{Z w6 w9 x8:Mh}{ds:List D}
variable{sz:Int}{ns:List Str}
theorem JV:∀b,PyData.strOk (bS b)=true:=by decide +kernel
theorem Yt:∀b,(bS b==("begin" : Str))=b:=by decide +kernel
theorem Ys:∀b,(bS b==("end" : Str))=!b:=by decide +kernel
theorem GA:Ah (.str (bS b)) (.str "begin") Z=some (.bl b,Z):=by rw[FO (JV b) (by decide +kernel),Yt]
theorem Z6:Ah (.str (bS b)) (.str "end") Z=some (.bl (!b),Z):=by rw[FO (JV b) (by decide +kernel),Ys]
theorem Iz:Ah (.bl a) (.bl b) Z=some (.bl (a==b),Z):=by cases a<;>cases b<;>rfl
theorem Cf:Ah (.int i) (.int j) Z=some (.bl (i==j),Z):=rfl
theorem NX(N:Ns ns)(hh:h<ns.length)(hk:k<ns.length):Ah (.str (nm ns h)) (.str (nm ns k)) Z=some (.bl (h==k),Z):=by
 rw[FO (N.nok hh) (N.nok hk)];by_cases e:h=k
 ·subst e;simp
 ·rw[AAf.mpr e,AAf.mpr λz=>e (N.inj hh hk z)]
theorem Fy:∀xs:List Str,Dd (xs.map D.str)=some (xs.map V.str)
 |[]=>rfl
 |x::r=>by show (Gp (.str x)).bind _=_;rw[Fy r];rfl
theorem MQ:∀xs:List Str,inV (.str x) (xs.map V.str)=decide (x∈xs)
 |[]=>rfl
 |y::r=>by
  have h:=MQ (x:=x) r;unfold inV at h ⊢;rw[AAW,List.any_cons,h];show ((y==x)||decide (x∈r))=_;by_cases e:x=y
  ·subst e;simp
  ·have:(y==x)=false:=AAf.mpr λz=>e z.symm;rw[this,Bool.false_or];simp[e]
theorem Sb{neg:Bool}{c:D}{xs:List Str}(h:B4 c Z=some (xs.map D.str,Z)):Gk neg (.str x) c Z=some (.bl (if neg then !decide (x∈xs) else decide (x∈xs)),Z):=by
 unfold Gk;rw[AK h];simp only[Fy];show some (D.bl (if neg then !inV (.str x) (xs.map V.str) else inV (.str x) (xs.map V.str)),Z)=_;rw[MQ]
theorem Ke(h0:lo<=v)(h1:v<=hi):Ae [.int v,.int lo,.int hi] Z=some (.bl true,Z):=by
 refine Au (g:=[]) (x6:=[some (.int v),some (.int lo),some (.int hi)]) ?_ rfl (by unfold Cl;trivial);rw[AAa];exact pr (DM (w6:=Z) (pd (ds:=[.int v,.ty "int"]) rfl J7) (DM (w6:=Z) (VY (b:=false) (pd (ds:=[.int v,.ty "bool"]) rfl J8)) (HW (w6:=Z) (w9:=Z) (x8:=Z) (x:=.int lo) (y:=.int v) (z:=.int hi) rfl rfl (Sa h0) rfl (Sa h1))))
theorem Ua{lo hi:Int}(h0:lo<=ds.length)(h1:ds.length<=hi):BD [.tup ds,.int lo,.int hi] Z=some (.bl true,Z):=by
 refine Au (g:=[]) (x6:=[some (.tup ds),some (.int lo),some (.int hi)]) ?_ rfl (by unfold Cl;trivial);rw[AAa];exact pr (DM (w6:=Z) (pd (ds:=[.tup ds,.ty "tuple"]) rfl J6) (HW (w6:=Z) (w9:=Z) (x8:=Z) (x:=.int lo) (y:=.int ds.length) (z:=.int hi) rfl (pd (ds:=[.tup ds]) rfl rfl) (Sa h0) rfl (Sa h1)))
noncomputable def evL(ns:List Str)(e:Ev):List D:=D.str (bS e.beg)::.str (nm ns e.hand)::(match e.val with|some v=>[.int v]|none=>[])
theorem Yf:evD ns e=.tup (evL ns e):=rfl
theorem O0:(evL ns e).length=if e.val.isSome then 3 else 2:=by cases e<;>rfl
theorem Ud(N:Ns ns){e:Ev}(h:e.Ok ns sz):A5 [evD ns e,.lst (ns.map D.str),.int sz] Z=some (.bl true,Z):=by
 have hz:=A9;have hlo:=N.lo;refine Au (g:=[]) (x6:=[some (evD ns e),some (.lst (ns.map D.str)),some (.int sz)]) ?_ rfl (by unfold Cl;trivial);rw[AAa];have len:=O0 (ns:=ns) (e:=e);have i0:mOp AJ (AA 0) (mC (.int 0)) [some (evD ns e),some (.lst (ns.map D.str)),some (.int sz)] Z=some (.str (bS e.beg),Z):=by cases e<;>rfl
 have i1:mOp AJ (AA 0) (mC (.int 1)) [some (evD ns e),some (.lst (ns.map D.str)),some (.int sz)] Z=some (.str (nm ns e.hand),Z):=by cases e<;>rfl
 have t1:Du (AN (AG BD (AC (AA 0) (AC (mC (.int 2)) (AC (mC (.int 3)) AL))))) [some (evD ns e),some (.lst (ns.map D.str)),some (.int sz)] Z=some (false,Z):=
  HV (b:=true) (Aa (pd (ds:=[evD ns e,.int 2,.int 3]) rfl (by rw[Yf];exact Ua (by rw[len];split<;>decide) (by rw[len];split<;>decide))))
 have t2:AN (mOp (FR true) (mOp AJ (AA 0) (mC (.int 0))) (AG Bf (AC (mC (.str "begin")) (AC (mC (.str "end")) AL)))) [some (evD ns e),some (.lst (ns.map D.str)),some (.int sz)] Z=some (false,Z):=by
  refine Aa (po (x:=.str (bS e.beg)) (y:=.tup [.str "begin",.str "end"]) i0 (pd (ds:=[.str "begin",.str "end"]) rfl (A0 (by simp;omega))) ?_);show Gk true (.str (bS e.beg)) (.tup ((["begin", "end"]:List Str).map D.str)) Z=_;rw[Sb rfl];cases e.beg<;>rfl
 have t3:AN (mOp (FR true) (mOp AJ (AA 0) (mC (.int 1))) (AA 1)) [some (evD ns e),some (.lst (ns.map D.str)),some (.int sz)] Z=some (false,Z):=by
  refine Aa (po (x:=.str (nm ns e.hand)) (y:=.lst (ns.map D.str)) i1 rfl ?_);show Gk true (.str (nm ns e.hand)) (.lst (ns.map D.str)) Z=_;rw[Sb rfl,AAO (Ns.mem h.h)];rfl
 have t4:AN (mOp Ah (mOp Ah (mOp AJ (AA 0) (mC (.int 0))) (mC (.str "begin"))) (mOp Ah (mOp AJ (AA 0) (mC (.int 1))) (mOp AJ (AA 1) (mC (.int 0))))) [some (evD ns e),some (.lst (ns.map D.str)),some (.int sz)] Z=some (e.val.isSome,Z):=by
  refine Aa ?_;have n0:(ns.map D.str)[0]?=some (D.str (nm ns 0)):=by
   rw[AAV,AAu (by omega)];simp[nm,show 0<ns.length by omega]
  refine po (x:=.bl e.beg) (y:=.bl (e.hand==0)) (po (x:=.str (bS e.beg)) (y:=.str "begin") i0 rfl GA) (po (x:=.str (nm ns e.hand)) (y:=.str (nm ns 0)) i1 (po (x:=.lst (ns.map D.str)) (y:=.int 0) rfl rfl (Iy (Bj (r:=0) n0))) (NX N h.h (by omega))) ?_;rw[Iz];cases e<;>rfl
 refine pq (piF (Ng t1 (Ng t2 t3)) rfl) ?_;cases hv:e.val with
 |none=>
  rw[hv] at t4 len;refine pq (piF t4 rfl) (pr (po (x:=.int 2) (y:=.int 2) (pd (ds:=[.tup (evL ns e)]) rfl ?_) rfl rfl));show some (D.int (((evL ns e).length:Nat):Int),Z)=_;rw[len];rfl
 |some v=>
  rw[hv] at t4 len;obtain⟨v0,v1⟩:=h.v v hv;have i2:mOp AJ (AA 0) (mC (.int 2)) [some (evD ns e),some (.lst (ns.map D.str)),some (.int sz)] Z=some (.int v,Z):=by cases e<;>cases hv<;>rfl
  refine C5 (piT t4 (pr (DM (w6:=Z) (po (x:=.int 3) (y:=.int 3) (pd (ds:=[.tup (evL ns e)]) rfl ?_) rfl rfl) (pd (ds:=[.int v,.int 0,.int (sz-1)]) (pc i2 rfl) (Ke v0 (by omega))))));show some (D.int (((evL ns e).length:Nat):Int),Z)=_;rw[len];rfl
end
noncomputable def wfG:(Nat->Bool)->List Ev->Prop
 |_,[]=>True
 |G,e::es=>G e.hand=!e.beg/\wfG (λh=>if h=e.hand then e.beg else G h) es
def DG(L:List (Key×D))(G:Nat->Bool):Prop:=∀h:Nat,(CW L (.inl (h:Int))=none/\G h=false)∨∃g:Int,CW L (.inl (h:Int))=some (.int g)/\G h=true
theorem D4(L:List (Key×D))(k k':Key)(d:D):CW (Cy L k d) k'=if k'=k then some d else CW L k':=by
 unfold Cy;split
 ·rename_i h
  induction L with
  |nil=>simp at h
  |cons a L ih=>
   unfold CW at ih ⊢;rw[AAW,List.find?_cons,List.find?_cons];by_cases ha:a.1=k
   ·rw[if_pos ha];by_cases hk:k'=k
    ·subst hk;simp[ha]
    ·have:¬a.1=k':=λz=>hk (z.symm.trans ha);simp only[this,decide_false,hk,if_false];by_cases hany:(L.any λkv=>decide (kv.1=k))=true
     ·have:=ih hany;simpa[hk] using this
     ·have hm:L.map (λkv=>if kv.1=k then (kv.1,d) else kv)=L:=by
       conv=>rhs;rw[←List.map_id L]
       refine List.map_congr_left λb hb=>?_;rw[if_neg λz=>hany (List.any_eq_true.mpr ⟨b,hb,by simpa using z⟩)];rfl
      rw[hm]
   ·rw[if_neg ha];have hany:(L.any λkv=>decide (kv.1=k))=true:=by simpa[ha] using h
    have:=ih hany;by_cases hk:a.1=k'
    ·have hne:¬k'=k:=λz=>ha (hk.trans z);simp[hk,hne]
    ·simp only[hk,decide_false];exact this
 ·rename_i h;unfold CW;rw[List.find?_append];by_cases hk:k'=k
  ·subst hk;have:L.find? (λkv=>decide (kv.1=k'))=none:=by
    rw[List.find?_eq_none];intro b hb z;exact h (List.any_eq_true.mpr ⟨b,hb,z⟩)
   rw[this];simp
  ·rw[if_neg hk];have:¬k=k':=λz=>hk z.symm;cases L.find? (λkv=>decide (kv.1=k'))<;>simp[this]
theorem Lg(L:List (Key×D))(k k':Key):CW (Et L k) k'=if k'=k then none else CW L k':=by
 unfold Et CW
 induction L with
 |nil=>simp
 |cons a L ih=>
  by_cases ha:a.1=k
  ·rw[List.filter_cons_of_neg (by simp[ha]),ih];by_cases hk:k'=k
   ·simp[hk]
   ·have:¬a.1=k':=λz=>hk (z.symm.trans ha);simp[hk,List.find?_cons,this]
  ·rw[List.filter_cons_of_pos (by simp[ha]),List.find?_cons,List.find?_cons];by_cases hk:a.1=k'
   ·have:¬k'=k:=λz=>ha (hk.trans z);simp[hk,this]
   ·simp only[hk,decide_false];exact ih
theorem D7(L:List (Key×D))(k:Key)(d:D):(Cy L k d).length<=L.length+1:=by unfold Cy;split<;>simp
theorem TB(L:List (Key×D))(k:Key):(Et L k).length<=L.length:=List.length_filter_le _ _
theorem DG.put(h:DG L G)(k:Nat)(g:Int):DG (Cy L (.inl (k:Int)) (.int g)) (λh=>if h=k then true else G h):=λj=>by
 rw[D4];by_cases e:j=k
 ·subst e;exact .inr ⟨g,by simp,by simp⟩
 ·have:¬(Sum.inl (j:Int):Key)=.inl (k:Int):=λz=>e (by have:=Sum.inl.inj z;omega);simp only[this,if_false,e];exact h j
theorem DG.drop(h:DG L G)(k:Nat):DG (Et L (.inl (k:Int))) (λh=>if h=k then false else G h):=λj=>by
 rw[Lg];by_cases e:j=k
 ·subst e;exact .inl ⟨by simp,by simp⟩
 ·have:¬(Sum.inl (j:Int):Key)=.inl (k:Int):=λz=>e (by have:=Sum.inl.inj z;omega);simp only[this,if_false,e];exact h j
section
variable{Z w6 w9 x8:Mh}{B x3:Sl}{d:D}{ds:List D}{n:Nat}
variable{sz:Int}{ns:List Str}
theorem g2a:(Z++[a,b])[Z.length]?=some a:=by rw[AAR (AAE _)];simp
theorem g2b:(Z++[a,b])[Z.length+1]?=some b:=by rw[AAR (by omega)];simp
theorem s2a:(Z++[a,b]).set Z.length c=Z++[c,b]:=by rw[AAg _ _ (AAE _)];simp
theorem s2b:(Z++[a,b]).set (Z.length+1) c=Z++[a,c]:=by rw[AAg _ _ (by omega)];simp
theorem Dr(h:Z[n]?=some (.dK L)):FL (.ref n) Z=some ((n,L),Z):=by unfold FL;dsimp only;rw[h]
theorem LA(h:Z[n]?=some (.dK L)):Ji false (.int k) (.ref n) Z=some (.bl (CW L (.inl k)).isSome,Z):=by
 unfold Ji;rw[AK (Dr h)];rfl
theorem H9(h:Z[n]?=some (.dK L))(hv:CW L (.inl k)=some d):D3 (.ref n) (.int k) Z=some (d,Z):=by
 unfold D3;rw[AK (Dr h)];show (CW L (.inl k)).map (λv=>(v,Z))=_;rw[hv];rfl
theorem Er(h1:mv B Z=some (v,Z))(h2:mo B Z=some (.ref n,Z))(h3:mi B Z=some (.int k,Z))(h:Z[n]?=some (.dK L))(hl:L.length<sizeLine):ER mo mi mv B Z=some ((.next,B),Z.set n (.dK (Cy L (.inl k) v))):=by
 unfold ER;rw[AK h1,AK h2,AK h3,AK (Dr h)];show (if L.length<sizeLine then some ((Fl.next,B),Z.set n (.dK (Cy L (.inl k) v))) else none)=_;rw[if_pos hl]
theorem VZ(h2:mo B Z=some (.ref n,Z))(h3:mi B Z=some (.int k,Z))(h:Z[n]?=some (.dK L))(hv:CW L (.inl k)=some d):Jz mo mi B Z=some (d,Z.set n (.dK (Et L (.inl k)))):=by
 unfold Jz;rw[AK h2,AK (show LI (.ref n) Z=some ((),Z) from by unfold LI;rw[AK (Dr h)];rfl),AK h3];unfold WO;rw[AK (Dr h)];show (CW L (.inl k)).map (λv=>(v,Z.set n (MO.dK (Et L (.inl k)))))=_;rw[hv];rfl
theorem BJ(h:Z[n]?=some (.lst ds)):Dc (.ref n) Z=some ((),Z):=by
 unfold Dc;rw[AK (show Ca (.ref n) Z=some (ds,Z) from by unfold Ca;dsimp only;rw[h])];rfl
theorem CN(h:Z[n]?=some (.lst ds))(hl:ds.length<sizeLine):Cw (.ref n) [d] Z=some (.non,Z.set n (.lst (ds++[d]))):=by
 show EC n _ Z=_;unfold EC;rw[h];show Option.map _ (if ds.length<sizeLine then some (D.non,ds++[d]) else none)=_;rw[if_pos hl];rfl
theorem Oy:∀{ns:List Str} {h:Nat},ns.Nodup->h<ns.length->(ns.map V.str).findIdx? (λz=>eqV z (V.str (nm ns h)))=some h
 |[],h,_,hh=>absurd hh (by simp)
 |n::ns,0,_,_=>by
  rw[AAW,List.findIdx?_cons];show (if (n==n)=true then some 0 else _)=_;simp
 |n::ns,h+1,nd,hh=>by
  obtain⟨h1,h2⟩:=List.nodup_cons.mp nd;have hh':h<ns.length:=by simpa using hh
  have e:nm (n::ns) (h+1)=nm ns h:=by simp[nm]
  rw[AAW,List.findIdx?_cons,e];have:eqV (V.str n) (V.str (nm ns h))=false:=by
   show (n==nm ns h)=false;exact AAf.mpr λz=>h1 (z ▸ Ns.mem hh')
  rw[this,Oy h2 hh'];rfl
theorem Z4(N:Ns ns)(hh:h<ns.length):JC (.lst (ns.map D.str)) [.str (nm ns h)] Z=some (.int h,Z):=by
 unfold JC;rw[AK (show Dc (.lst (ns.map D.str)) Z=some ((),Z) from rfl)];show bnd (B4 (.lst (ns.map D.str))) (λds=>λZ=>match Gp (.str (nm ns h)),Dd ds with
  |some y,some xs=>(xs.findIdx? λz=>eqV z y).map λ(j:Nat)=>(D.int (j:Int),Z)
  |_,_=>none) Z=_
 rw[AK (show B4 (.lst (ns.map D.str)) Z=some (ns.map D.str,Z) from rfl)];simp only[Fy];show Option.map _ ((ns.map V.str).findIdx? λz=>eqV z (V.str (nm ns h)))=_;rw[Oy N.nd hh];rfl
noncomputable abbrev bN:Sl->M (Fl×Sl):=(AS (sIf (Du (AN (AG A5 (AC (AA 7) (AC (AA 2) (AC (mOp AJ (AA 0) (mC (.int 1))) AL)))))) ED BP)
  (AS (AW (Aj JC (AA 2) (AC (mOp AJ (AA 7) (mC (.int 1))) AL)) (AO 8))
  (AS (sIf (AN (mOp Ah (mOp Ah (mOp AJ (AA 7) (mC (.int 0))) (mC (.str "begin"))) (mOp (Ji false) (AA 8) (AA 3)))) ED BP)
  (AS (sIf (AN (mOp Ah (mOp AJ (AA 7) (mC (.int 0))) (mC (.str "begin")))) (AS (ER (AA 3) (AA 8) (AA 5))
  (AW (mOp Ku (AA 5) (mC (.int 1))) (AO 5))) BP)
  (AS (BI (Aj Cw (AA 4) (AC (AG Bf (AC (mOp AJ (AA 7) (mC (.int 0))) (AC (AA 8) (AC (mIf (AN (mOp Ah (AG Bh (AC (AA 7) AL)) (mC (.int 3)))) (mOp AJ (AA 7) (mC (.int 2))) (mC A6)) (AC (mOp D3 (AA 3) (AA 8)) AL))))) AL)))
  (sIf (AN (mOp Ah (mOp AJ (AA 7) (mC (.int 0))) (mC (.str "end")))) (BI (Jz (AA 3) (AA 8))) BP))))))
theorem AV(h1:bf x B Z=some (x3,w6))(h2:m1 x3 w6=some ((.next,x6),w9))(h3:B1 bf m1 ds x6 w9=some (r,x8)):B1 bf m1 (x::ds) B Z=some (r,x8):=by
 show bnd (bf x B) _ Z=_;rw[AK h1,AK h2];exact h3
theorem Tj{e:Ev}{S:Sl}{M:Mh}{o:D}{g:Int}(he:e.Ok ns sz)(h7:S[7]?=some (some (evD ns e)))(h8:S[8]?=some (some (.int e.hand)))(h3:S[3]?=some (some o))(hg:D3 o (.int e.hand) M=some (.int g,M)):
  AG Bf (AC (mOp AJ (AA 7) (mC (.int 0))) (AC (AA 8) (AC (mIf (AN (mOp Ah (AG Bh (AC (AA 7) AL)) (mC (.int 3)))) (mOp AJ (AA 7) (mC (.int 2))) (mC A6)) (AC (mOp D3 (AA 3) (AA 8)) AL)))) S M=some (Am e g,M):=by
 have hz:=A9;have s7:=A1 (Z:=M) h7;have len:=O0 (ns:=ns) (e:=e);have tl:AN (mOp Ah (AG Bh (AC (AA 7) AL)) (mC (.int 3))) S M=some (e.val.isSome,M):=by
  refine Aa (po (x:=.int ((evL ns e).length:Nat)) (y:=.int 3) (pd (ds:=[.tup (evL ns e)]) (pc s7 rfl) rfl) rfl ?_);rw[Cf,len];cases e<;>rfl
 have iv:mIf (AN (mOp Ah (AG Bh (AC (AA 7) AL)) (mC (.int 3)))) (mOp AJ (AA 7) (mC (.int 2))) (mC A6) S M=some (.int (e.val.getD (-1)),M):=by
  cases hv:e.val with
  |none=>rw[hv] at tl;exact peF tl rfl
  |some v=>
   rw[hv] at tl;refine peT tl (po (x:=evD ns e) (y:=.int 2) s7 rfl ?_);cases e<;>cases hv<;>rfl
 exact pd (ds:=[.str (bS e.beg),.int e.hand,.int (e.val.getD (-1)),.int g]) (pc (po (x:=evD ns e) (y:=.int 0) s7 rfl (by cases e<;>rfl)) (pc (A1 h8) (pc iv (pc (po (x:=o) (y:=.int e.hand) (A1 h3) (A1 h8) hg) rfl)))) (A0 (by simp;omega))
end
section
variable{Z w6 w9:Mh}{B x3:Sl}{d:D}{ds:List D}
theorem Ym(p:Ev×Int):Cl k (Am p.1 p.2):=by simp[Am,Cl,ClL]
theorem CI(h1:bf x B Z=some (x3,w6))(h2:m1 x3 w6=some ((.rt d,x6),w9)):B1 bf m1 (x::ds) B Z=some ((.rt d,x6),w9):=by
 show bnd (bf x B) _ Z=_;rw[AK h1,AK h2];rfl
end
section
variable{ns:List Str}
theorem NO(N:Ns ns)(hh:h<ns.length)(hk:k<ns.length):(nm ns h==nm ns k)=(h==k):=by
 by_cases e:h=k
 ·subst e;simp
 ·rw[AAf.mpr e,AAf.mpr λz=>e (N.inj hh hk z)]
end
noncomputable def gS(G:Nat->Bool)(e:Ev):Nat->Bool:=λh=>if h=e.hand then e.beg else G h
noncomputable def gA(G:Nat->Bool)(es:List Ev):Nat->Bool:=es.foldl gS G
theorem wf_app:∀{G:Nat->Bool} {es fs:List Ev},wfG G (es++fs)↔wfG G es/\wfG (gA G es) fs
 |G,[],fs=>by simp[wfG,gA]
 |G,e::es,fs=>by
  show (G e.hand=!e.beg/\wfG (gS G e) (es++fs))↔((G e.hand=!e.beg/\wfG (gS G e) es)/\wfG (gA (gS G e) es) fs);rw[wf_app,and_assoc]
theorem Ov:gA G (es++[e])=gS (gA G es) e:=by unfold gA;rw[List.foldl_append];rfl
noncomputable abbrev G0:Nat->Bool:=λ_=>false
section
variable{Z w9 x8:Mh}{B:Sl}{ds:List D}{n:Nat}
theorem SZ:FN (.int 10) (.int 9) Z=some (.int 1000000000,Z):=by
 show (if (0:Int)<=9/\(9:Int)<=1000000/\(10:Int).natAbs<2 ^ 64 then some (D.int ((10:Int) ^ (9:Int).toNat),Z) else none)=_;rw[if_pos (by decide)];rfl
theorem Ix(h:Z[n]?=some (.lst ds)):Bh [.ref n] Z=some (.int ds.length,Z):=by
 unfold Bh;simp only[h]
theorem JM(h1:mc B Z=some (true,Z))(h2:mb B Z=some ((.next,x6),w9))(h3:GP mc mb k x6 w9=some (r,x8)):GP mc mb (k+1) B Z=some (r,x8):=by
 unfold GP;rw[AK h1,if_pos rfl,AK h2];exact h3
theorem GL(h1:mc B Z=some (false,Z)):GP mc mb (k+1) B Z=some ((.next,B),Z):=by
 unfold GP;rw[AK h1];rfl
noncomputable abbrev ZO:Sl->M Bool:=(Co (AN (mOp Ah (mOp BS (AA 0) (mC (.int 2))) (mC (.int 0)))) (Co (AN (mOp L6 (AA 3) (mC (.int 0)))) (AN (mOp EF (AG Bh (AC (AA 2) AL)) (AA 1)))))
noncomputable abbrev ZP:Sl->M (Fl×Sl):=(AS (BI (Aj Cw (AA 2) (AC (mOp BS (AA 3) (mOp FN (mC (.int 10)) (mC (.int 9)))) AL)))
  (AW (mOp Bm (AA 3) (mOp FN (mC (.int 10)) (mC (.int 9)))) (AO 3)))
end
section
variable{n:Nat}
noncomputable abbrev nL0:List Str:=["w", "r", "s", "t"]
noncomputable abbrev nL1:List Str:=["writer", "a", "ab", "b"]
noncomputable abbrev nL2:List Str:=["z", "zz", "zzzzzzzz", "begin"]
theorem Ob{L:List Str}(h1:∀n∈L,PyData.strOk n=true)(h2:L.Nodup)(h3:L.length=4)(a:2<=j)(b:j<=4):Ns (L.take j):=
 ⟨λn hn=>h1 n (List.mem_of_mem_take hn),h2.sublist (List.take_sublist _ _),by rw[List.length_take];omega,by rw[List.length_take];omega⟩
end
end K13
namespace K11
open PySem L2 Mi Ht K13
section
variable{Z w6 w9:Mh}{B x3 x6:Sl}{n:Nat}{ds:List D}
theorem QC(hn:Z[n]?=some (.lst ds))(hx:ds[i]?=some y)(h1:bf y B Z=some (x3,w6))(h2:mb x3 w6=some ((.next,x6),w9))(h3:HS n bf mb k (i+1) x6 w9=some r):HS n bf mb (k+1) i B Z=some r:=by
 unfold HS;simp only[hn,hx];rw[AK h1,AK h2];exact h3
theorem QE(hn:Z[n]?=some (.lst ds))(hx:ds[i]?=none):HS n bf mb (k+1) i B Z=some ((.next,B),Z):=by
 unfold HS;simp only[hn,hx]
end
end K11
namespace Wb
open PySem Nk
noncomputable def mvR(c:Cs)(i:Nat):Cs:=(c.1,c.2.1,c.2.2.set i c.1)
noncomputable def rdF:Nat->List Int->List Nat
 |_,[]=>[]
 |k,t::r=>if t=-2 then k::rdF (k+1) r else rdF (k+1) r
noncomputable def Re(c:Cs):List Nat:=rdF 0 c.2.2
theorem mem_rdF:∀{ts:List Int} {k:Nat},i∈rdF k ts↔k<=i/\ts[i-k]?=some (-2)
 |[],k=>by simp[rdF]
 |t::r,k=>by
  have ih:=mem_rdF (i:=i) (ts:=r) (k:=k+1);unfold rdF;by_cases hk:i=k
  ·subst hk;split
   ·rename_i h;subst h;simp
   ·rename_i h;rw[ih];constructor
    ·intro z;omega
    ·intro z;simp at z;exact absurd z h
  ·have e:k<=i/\(t::r)[i-k]?=some (-2)↔k+1<=i/\r[i-(k+1)]?=some (-2):=by
    constructor
    ·rintro⟨a,b⟩;have:i-k=(i-(k+1))+1:=by omega
     rw[this] at b;exact⟨by omega,by simpa using b⟩
    ·rintro⟨a,b⟩;have:i-k=(i-(k+1))+1:=by omega
     rw[this];exact⟨by omega,by simpa using b⟩
   rw[e,←ih];split
   ·simp[hk]
   ·rfl
theorem OP:∀(ts:List Int) (k:Nat),(rdF k ts).length<=ts.length
 |[],k=>by simp[rdF]
 |t::r,k=>by
  have:=OP r (k+1);unfold rdF;split<;>simp<;>omega
noncomputable def Dt(c:Cs):List (Nat×Cs):=(if 0<=c.2.1 then [(0,(c.2.1,-2,c.2.2))] else [])++(Re c).map λi=>(i+1,mvR c i)
noncomputable def nxt(c:Cs):List Cs:=(Dt c).map (·.2)
noncomputable def Fd(v:Int):List Int->List (List Int)
 |[]=>[[]]
 |t::r=>if t=-2 then (Fd v r).map (-2::·)++(Fd v r).map (v::·) else (Fd v r).map (t::·)
noncomputable def rch(c:Cs):List Cs:=(Fd c.1 c.2.2).map (λt=>(c.1,c.2.1,t))++if 0<=c.2.1 then ((Fd c.1 c.2.2).flatMap (Fd c.2.1)).map (λt=>(c.2.1,-2,t)) else []
theorem HL(v:Int):∀ts,ts∈Fd v ts
 |[]=>by simp[Fd]
 |t::r=>by
  unfold Fd;have:=HL v r;split
  ·rename_i e;subst e;simp[this]
  ·simp[this]
theorem Fc:∀{ts us:List Int} {i:Nat},us∈Fd v ts->us[i]?=some (-2)->us.set i v∈Fd v ts
 |[],us,i,h,e=>by simp[Fd] at h;subst h;simp at e
 |t::r,us,i,h,e=>by
  unfold Fd at h ⊢;split at h
  ·rename_i ht;rw[if_pos ht];rcases AAJ.mp h with h|h
   ·obtain⟨x,hx,rfl⟩:=AAL.mp h;cases i with
    |zero=>exact AAb _ (AAL.mpr ⟨x,hx,rfl⟩)
    |succ i=>exact AAc _ (AAL.mpr ⟨x.set i v,Fc hx (by simpa using e),rfl⟩)
   ·obtain⟨x,hx,rfl⟩:=AAL.mp h;cases i with
    |zero=>exact AAb _ (AAL.mpr ⟨x,hx,rfl⟩)
    |succ i=>exact AAb _ (AAL.mpr ⟨x.set i v,Fc hx (by simpa using e),rfl⟩)
  ·rename_i ht;rw[if_neg ht];obtain⟨x,hx,rfl⟩:=AAL.mp h;cases i with
   |zero=>simp at e;exact absurd e ht
   |succ i=>exact AAL.mpr ⟨x.set i v,Fc hx (by simpa using e),rfl⟩
theorem mem_rdrs:i∈Re c↔c.2.2[i]?=some (-2):=by
 unfold Re;rw[mem_rdF];simp
theorem mem_nxt:x∈nxt c↔(0<=c.2.1/\x=(c.2.1,-2,c.2.2))∨∃i,c.2.2[i]?=some (-2)/\x=mvR c i:=by
 unfold nxt Dt;rw[AAX,AAJ,List.map_map];constructor
 ·rintro(h|h)
  ·split at h
   ·rename_i h0;simp at h;exact .inl ⟨h0,h⟩
   ·simp at h
  ·obtain⟨i,hi,rfl⟩:=AAL.mp h;exact .inr ⟨i,mem_rdrs.mp hi,rfl⟩
 ·rintro(⟨h0,rfl⟩|⟨i,hi,rfl⟩)
  ·left;rw[if_pos h0];simp
  ·right;exact AAL.mpr ⟨i,mem_rdrs.mpr hi,rfl⟩
theorem Ge(c:Cs):c∈rch c:=AAc _ (AAL.mpr ⟨_,HL _ _,rfl⟩)
theorem OQ(h:x∈rch c)(hy:y∈nxt x):y∈rch c:=by
 unfold rch at h ⊢;rcases AAJ.mp h with h|h
 ·obtain⟨ts,ht,rfl⟩:=AAL.mp h;rcases mem_nxt.mp hy with ⟨h0,rfl⟩|⟨i,hi,rfl⟩
  ·refine AAb _ ?_;rw[if_pos h0];exact AAL.mpr ⟨ts,List.mem_flatMap.mpr ⟨ts,ht,HL _ _⟩,rfl⟩
  ·exact AAc _ (AAL.mpr ⟨_,Fc ht hi,rfl⟩)
 ·split at h
  ·rename_i h0;obtain⟨ts,ht,rfl⟩:=AAL.mp h;obtain⟨us,hu,hv⟩:=List.mem_flatMap.mp ht;rcases mem_nxt.mp hy with ⟨h1,rfl⟩|⟨i,hi,rfl⟩
   ·exact absurd h1 (show ¬(0:Int)<=-2 by decide)
   ·refine AAb _ ?_;rw[if_pos h0];exact AAL.mpr ⟨_,List.mem_flatMap.mpr ⟨us,hu,Fc hv hi⟩,rfl⟩
  ·cases h
inductive Rch:Cs->Cs->Prop
 |refl (c:Cs):Rch c c
 |step {a b c:Cs}:Rch a b->c∈nxt b->Rch a c
theorem Rch.trans(h:Rch a b)(g:Rch b c):Rch a c:=by
 induction g with
 |refl=>exact h
 |step _ s ih=>exact .step ih s
theorem Gf:∀{ts us:List Int} (pre:List Int),us∈Fd v ts->Rch (v,c,pre++ts) (v,c,pre++us)
 |[],us,pre,h=>by simp[Fd] at h;subst h;exact .refl _
 |t::r,us,pre,h=>by
  unfold Fd at h;have go:∀(a:Int) {x:List Int},x∈Fd v r->Rch (v,c,pre++a::r) (v,c,pre++a::x):=λa x hx=>by
   have:=Gf (c:=c) (pre++[a]) hx;simpa using this
  split at h
  ·rename_i ht;subst ht;rcases AAJ.mp h with h|h
   ·obtain⟨x,hx,rfl⟩:=AAL.mp h;exact go _ hx
   ·obtain⟨x,hx,rfl⟩:=AAL.mp h;refine Rch.trans (.step (.refl _) (mem_nxt.mpr (.inr ⟨pre.length,by simp,rfl⟩))) ?_;have:mvR (v,c,pre++-2::r) pre.length=(v,c,pre++v::r):=by simp[mvR]
    rw[this];exact go v hx
  ·obtain⟨x,hx,rfl⟩:=AAL.mp h;exact go _ hx
theorem rch_iff:x∈rch c↔Rch c x:=by
 constructor
 ·intro h;unfold rch at h;rcases AAJ.mp h with h|h
  ·obtain⟨ts,ht,rfl⟩:=AAL.mp h;exact Gf [] ht
  ·split at h
   ·rename_i h0;obtain⟨ts,ht,rfl⟩:=AAL.mp h;obtain⟨us,hu,hv⟩:=List.mem_flatMap.mp ht;exact(Rch.step (Gf (c:=c.2.1) [] hu) (mem_nxt.mpr (.inl ⟨h0,rfl⟩))).trans (Gf [] hv)
   ·cases h
 ·intro h
  induction h with
  |refl=>exact Ge _
  |step _ s ih=>exact OQ ih s
noncomputable def clo(cs:List Cs):List Cs:=cs.flatMap rch
theorem mem_clo:x∈clo cs↔∃c∈cs,x∈rch c:=List.mem_flatMap
noncomputable def vis(s:List Cs×List Cs)(c:Cs):List Cs×List Cs:=if c∈s.1 then s else (s.1++[c],s.2++[c])
noncomputable def hop(s:List Cs×List Cs)(c:Cs):List Cs×List Cs:=(nxt c).foldl vis (s.1,s.2.dropLast)
structure Wk(cs:List Cs)(ways wait:List Cs):Prop where
 nd:ways.Nodup
 sub:∀x∈wait,x∈ways
 don:∀x∈ways,x∈wait∨∀y∈nxt x,y∈ways
 frm:∀x∈ways,x∈clo cs
 all:∀x∈cs,x∈ways
structure Wm(cs:List Cs)(c:Cs)(ys:List Cs)(s:List Cs×List Cs):Prop where
 nd:s.1.Nodup
 sub:∀x∈s.2,x∈s.1
 don:∀x∈s.1,x∈s.2∨x=c∨∀y∈nxt x,y∈s.1
 ths:∀y∈nxt c,y∈ys∨y∈s.1
 frm:∀x∈s.1,x∈clo cs
 all:∀x∈cs,x∈s.1
 me:c∈s.1
theorem Wm.vis(w:Wm cs c (y::ys) s)(hy:y∈nxt c):Wm cs c ys (vis s y):=by
 unfold Wb.vis;split
 ·rename_i h;exact⟨w.nd,w.sub,w.don,λz hz=>(w.ths z hz).elim (λq=>(AAI.mp q).elim (λe=>.inr (e ▸ h)) .inl) .inr,w.frm,w.all,w.me⟩
 ·rename_i h;refine⟨?_,?_,?_,?_,?_,λx hx=>AAc _ (w.all x hx),AAc _ w.me⟩
  ·refine List.nodup_append.mpr ⟨w.nd,by simp,λa ha b hb e=>h (by simp at hb;rw[←hb,←e];exact ha)⟩
  ·intro x hx;rcases AAJ.mp hx with z|z
   ·exact AAc _ (w.sub x z)
   ·exact AAb _ z
  ·intro x hx;rcases AAJ.mp hx with z|z
   ·rcases w.don x z with q|q|q
    ·exact .inl (AAc _ q)
    ·exact .inr (.inl q)
    ·exact .inr (.inr λu hu=>AAc _ (q u hu))
   ·exact .inl (AAb _ z)
  ·intro z hz;rcases w.ths z hz with q|q
   ·rcases AAI.mp q with e|q
    ·exact .inr (AAb _ (by rw[e];simp))
    ·exact .inl q
   ·exact .inr (AAc _ q)
  ·intro x hx;rcases AAJ.mp hx with z|z
   ·exact w.frm x z
   ·rw[AAK] at z;subst z;obtain⟨d,hd,hr⟩:=mem_clo.mp (w.frm c w.me);exact mem_clo.mpr ⟨d,hd,OQ hr hy⟩
theorem Wm.fold:∀{ys:List Cs} {s:List Cs×List Cs},Wm cs c ys s->(∀y∈ys,y∈nxt c)->Wm cs c [] (ys.foldl Wb.vis s)
 |[],_,w,_=>w
 |y::ys,s,w,h=>show Wm cs c [] (ys.foldl Wb.vis (Wb.vis s y)) from Wm.fold (ys:=ys) (w.vis (h y AAP)) λz hz=>h z (AAQ _ hz)
theorem Wk.hop(w:Wk cs ways (wait++[c])):Wk cs (hop (ways,wait++[c]) c).1 (hop (ways,wait++[c]) c).2:=by
 have m:Wm cs c (nxt c) (ways,(wait++[c]).dropLast):=by
  rw[List.dropLast_concat];refine⟨w.nd,λx hx=>w.sub x (AAc _ hx),λx hx=>?_,λy hy=>.inl hy,w.frm,w.all,w.sub c (by simp)⟩;rcases w.don x hx with q|q
  ·rcases AAJ.mp q with q|q
   ·exact .inl q
   ·exact .inr (.inl (by simpa using q))
  ·exact .inr (.inr q)
 have f:=m.fold λ_ h=>h;refine⟨f.nd,f.sub,λx hx=>?_,f.frm,f.all⟩;rcases f.don x hx with q|q|q
 ·exact .inl q
 ·subst q;exact .inr λy hy=>(f.ths y hy).elim (λz=>by cases z) id
 ·exact .inr q
theorem OB(s:List Cs×List Cs)(c:Cs):(vis s c).1.length+s.2.length=s.1.length+(vis s c).2.length:=by
 unfold vis;split
 ·omega
 ·simp;omega
theorem MT:∀(ys:List Cs) (s:List Cs×List Cs),(ys.foldl vis s).1.length+s.2.length=s.1.length+(ys.foldl vis s).2.length
 |[],s=>rfl
 |y::ys,s=>by
  have h1:=OB s y;have h2:=MT ys (vis s y);show ((ys.foldl vis (vis s y)).1).length+_=_+((ys.foldl vis (vis s y)).2).length;omega
theorem DY[DecidableEq α]:∀{xs ys:List α},xs.Nodup->(∀x∈xs,x∈ys)->xs.length<=ys.length
 |[],_,_,_=>AAk _
 |x::xs,ys,nd,h=>by
  obtain⟨n1,n2⟩:=List.nodup_cons.mp nd;have hx:=h x AAP;have:=DY (xs:=xs) (ys:=ys.erase x) n2 λy hy=>(List.mem_erase_of_ne (λe=>n1 (by rw[←e];exact hy))).mpr (h y (AAQ _ hy));rw[List.length_erase_of_mem hx] at this;have:=List.length_pos_of_mem hx;simp;omega
end Wb
namespace K16
open PySem L2 Mi Nk Wb
open K13 (BO Bc A0 A7 po pc pd pq pa piT piF pr peT peF HC Bj A9 Cf BJ CN AV Bl E8 Ct Bq Bk)
section
variable{Z w6 w9 x8:Mh}{x3 x6:Sl}{d:D}{ds:List D}{n:Nat}
theorem O1:Ad=K13.Ad:=rfl
theorem eq_acts:Ai=K13.Ai:=rfl
noncomputable def Cc(p:Nat×Cs):D:=.tup [.int p.1,csD p.2]
theorem Gv(k:Nat)(c:Cs):Cl k (csD c):=by
 unfold csD Cl ClL;refine⟨Bc _ _,?_⟩;unfold ClL;refine⟨Bc _ _,?_⟩;unfold ClL;exact⟨by unfold Cl;exact BO (Bc k) _,by unfold ClL;trivial⟩
theorem O9(k:Nat)(p:Nat×Cs):Cl k (Cc p):=by
 unfold Cc Cl ClL;refine⟨Bc _ _,?_⟩;unfold ClL;exact⟨Gv _ _,by unfold ClL;trivial⟩
theorem callF_allG(e:mb (BR n ds) Z=some ((.rt d,x6),Z++g))(hl:ds.length=ps)(hg:∀o∈g,∀k,ClO k o)(c:Cl (Z++g).length d):Ay .all n ps mb ds Z=some (d,Z++g):=
 JU (hw:=.all) e hl (.inr ⟨d,rfl⟩) ⟨⟨[],by show Z++g=Z++g++[];simp⟩,(by show Z.length<=(Z++g).length;simp),λn o h=>by
  by_cases hn:n<Z.length
  ·left;have h':(Z++g)[n]?=some o:=h;rw[AAS hn] at h';exact h'
  ·right;have h':(Z++g)[n]?=some o:=h;rw[AAR (by omega)] at h';exact hg o (AAU h') _,.inl ⟨rfl,c⟩⟩
theorem Z5:Rh (.int i) (.int j) Z=some (.bl (decide (j<=i)),Z):=rfl
theorem g1a:(Z++[a])[Z.length]?=some a:=by rw[AAR (AAE _)];simp
theorem s1a:(Z++[a]).set Z.length b=Z++[b]:=by rw[AAg _ _ (AAE _)];simp
theorem Vo(h:S[k]?=some (some (.ref Z.length)))(hl:ds.length<=1000)(he:me S (Z++[.lst ds])=some (x,Z++[.lst ds])):BI (Aj Cw (AA k) (AC me AL)) S (Z++[.lst ds])=some ((.next,S),Z++[.lst (ds++[x])]):=by
 have hz:=A9;refine Dp (d:=.non) (D9 (w6:=Z++[.lst ds]) (w9:=Z++[.lst ds]) (x8:=Z++[.lst ds]) (x:=.ref Z.length) (ds:=[x]) (A1 h) (BJ g1a) (pc he rfl) ?_);rw[CN g1a (by omega),s1a]
noncomputable abbrev bE:Sl->M (Fl×Sl):=(sIf (AN (mOp Ah (AA 3) (mC CT))) (BI (Aj Cw (AA 1) (AC (AG Bf (AC (mOp As (AA 2) (mC (.int 1))) (AC (AG Bf (AC (mOp AJ (AA 0) (mC (.int 0))) (AC (mOp AJ (AA 0) (mC (.int 1))) (AC (AG Ad (AC (mOp AJ (AA 0) (mC (.int 2))) (AC (AA 2) (AC (mOp AJ (AA 0) (mC (.int 0))) AL)))) AL)))) AL))) AL))) BP)
theorem NR(hc:c.2.2.length<=100):∀(rest:List Int) (k:Nat) (acc:List D) (o2 o3:Option D),k+rest.length=c.2.2.length->acc.length+rest.length<=1000->∃o2' o3':Option D,
  B1 (CA [2,3]) bE (B9 k (rest.map D.int)) [some (csD c),some (.ref Z.length),o2,o3] (Z++[.lst acc])=some ((.next,[some (csD c),some (.ref Z.length),o2',o3']),Z++[.lst (acc++(rdF k rest).map λi=>Cc (i+1,mvR c i))])
 |[],k,acc,o2,o3,_,_=>⟨o2,o3,by simp[rdF,B9];rfl⟩
 |t::r,k,acc,o2,o3,hk,hl=>by
  have hz:=A9;have ht:AN (mOp Ah (AA 3) (mC CT)) [some (csD c),some (.ref Z.length),some (.int k),some (.int t)] (Z++[.lst acc])=some (t==-2,Z++[.lst acc]):=Aa (po (x:=.int t) (y:=.int (-2)) rfl rfl Cf);simp only[AAH] at hk hl;by_cases e:t=-2
  ·obtain⟨o2',o3',go⟩:=NR hc r (k+1) (acc++[Cc (k+1,mvR c k)]) (some (.int k)) (some (.int t)) (by omega) (by simp;omega);refine⟨o2',o3',?_⟩;have er:rdF k (t::r)=k::rdF (k+1) r:=by rw[rdF,if_pos e]
   rw[er];have ea:acc++List.map (λi=>Cc (i+1,mvR c i)) (k::rdF (k+1) r)=acc++[Cc (k+1,mvR c k)]++(rdF (k+1) r).map λi=>Cc (i+1,mvR c i):=by simp
   rw[ea];refine AV (x3:=[some (csD c),some (.ref Z.length),some (.int k),some (.int t)]) (w6:=Z++[.lst acc]) (x:=.tup [.int k,.int t]) rfl (Dg (by rw[ht,e];rfl) (Vo (Z:=Z) rfl (by omega) ?_)) go;refine pd (ds:=[.int ((k:Int)+1),csD (mvR c k)]) (pc (x:=.int ((k:Int)+1)) (po (x:=.int k) (y:=.int 1) rfl rfl rfl) (pc (x:=csD (mvR c k)) (pd (ds:=[.int c.1,.int c.2.1,.tup ((c.2.2.set k c.1).map D.int)]) (pc (x:=.int c.1) rfl (pc (x:=.int c.2.1) rfl (pc (pd (ds:=[.tup (c.2.2.map D.int),.int k,.int c.1]) rfl ?_) rfl))) (A0 (by simp;omega))) rfl)) (by
     have:=A0 (Z:=Z++[.lst acc]) (ds:=[.int ((k:Int)+1),csD (mvR c k)]) (by simp;omega);rw[this];unfold Cc;simp)
   rw[O1,HC (by rw[AAF];omega) (by rw[AAF];omega) (λk=>BO (Bc k) _) (λk=>Bc k _),List.map_set]
  ·obtain⟨o2',o3',go⟩:=NR hc r (k+1) acc (some (.int k)) (some (.int t)) (by omega) (by omega);refine⟨o2',o3',?_⟩;have er:rdF k (t::r)=rdF (k+1) r:=by rw[rdF,if_neg e]
   rw[er];exact AV (x3:=[some (csD c),some (.ref Z.length),some (.int k),some (.int t)]) (w6:=Z++[.lst acc]) (x:=.tup [.int k,.int t]) rfl (Dh (by rw[ht,AAf.mpr e]) rfl) go
theorem Fr(hc:c.2.2.length<=100):An [csD c] Z=some (.ref Z.length,Z++[.lst ((Dt c).map Cc)]):=by
 have hz:=A9;have i1:∀S (M:Mh),S[0]?=some (some (csD c))->mOp AJ (AA 0) (mC (.int 1)) S M=some (.int c.2.1,M):=λS M h=>po (x:=csD c) (y:=.int 1) (A1 h) rfl rfl;have fst:sIf (AN (mOp Rh (mOp AJ (AA 0) (mC (.int 1))) (mC (.int 0)))) (BI (Aj Cw (AA 1) (AC (AG Bf (AC (mC (.int 0)) (AC (AG Bf (AC (mOp AJ (AA 0) (mC (.int 1))) (AC (mC EL) (AC (mOp AJ (AA 0) (mC (.int 2))) AL)))) AL))) AL))) BP [some (csD c),some (.ref Z.length),none,none] (Z++[.lst []])=some ((.next,[some (csD c),some (.ref Z.length),none,none]),Z++[.lst ((if 0<=c.2.1 then [(0,(c.2.1,-2,c.2.2))] else []).map Cc)]):=by
  have t:AN (mOp Rh (mOp AJ (AA 0) (mC (.int 1))) (mC (.int 0))) [some (csD c),some (.ref Z.length),none,none] (Z++[.lst []])=some (decide (0<=c.2.1),Z++[.lst []]):=Aa (po (x:=.int c.2.1) (y:=.int 0) (i1 _ _ rfl) rfl Z5);by_cases h0:0<=c.2.1
  ·rw[if_pos h0];refine Dg (by rw[t,AAO h0]) (Vo (Z:=Z) (ds:=[]) rfl (by simp) ?_);refine pd (ds:=[.int 0,csD (c.2.1,-2,c.2.2)]) (pc (x:=.int 0) rfl (pc (x:=csD (c.2.1,-2,c.2.2)) (pd (ds:=[.int c.2.1,.int (-2),.tup (c.2.2.map D.int)]) rfl (A0 (by simp;omega))) rfl)) (A0 (by simp;omega))
  ·rw[if_neg h0];exact Dh (w6:=Z++[.lst []]) (by rw[t,AAN h0]) rfl
 have hlen:((if 0<=c.2.1 then [(0,(c.2.1,(-2:Int),c.2.2))] else []).map Cc).length<=1:=by split<;>simp
 obtain⟨o2,o3,go⟩:=NR (Z:=Z) hc c.2.2 0 ((if 0<=c.2.1 then [(0,(c.2.1,-2,c.2.2))] else []).map Cc) none none (by omega) (by omega);have em:(if 0<=c.2.1 then [(0,(c.2.1,(-2:Int),c.2.2))] else []).map Cc++(rdF 0 c.2.2).map (λi=>Cc (i+1,mvR c i))=(Dt c).map Cc:=by
  unfold Dt Re;rw[AAX,List.map_map];rfl
 rw[em] at go;refine callF_allG (x6:=[some (csD c),some (.ref Z.length),o2,o3]) ?_ rfl (λo ho k=>by rw[AAK] at ho;subst ho;exact BO (O9 k) _) (by unfold Cl;simp);refine AX (x3:=[some (csD c),some (.ref Z.length),none,none]) (w6:=Z++[.lst []]) ?_ (AX fst (AX (EK (ds:=B9 0 (c.2.2.map D.int)) (w6:=_) rfl go) (De (A1 rfl))));refine CZ (d:=.ref Z.length) (w6:=Z++[.lst []]) (B8 (ds:=[]) (w6:=Z) rfl ?_) rfl;unfold DJ;rw[AK (show lim ([]:List D).length Z=some ((),Z) from by unfold lim;rw[if_pos (by simp)])]
end
section
variable{Z w6 w9 x8 g:Mh}{B x3 x6:Sl}{d:D}{ds:List D}{n:Nat}
theorem gA:(Z++(a::b::g))[Z.length]?=some a:=by rw[AAR (AAE _)];simp
theorem gB:(Z++(a::b::g))[Z.length+1]?=some b:=by rw[AAR (by omega)];simp
theorem sA:(Z++(a::b::g)).set Z.length c=Z++(c::b::g):=by rw[AAg _ _ (AAE _)];simp
theorem sB:(Z++(a::b::g)).set (Z.length+1) c=Z++(a::c::g):=by rw[AAg _ _ (by omega)];simp
theorem asCs_csD(c:Cs):Ha (csD c)=some c:=by
 obtain⟨a,b,ts⟩:=c;have h:∀ns:List Int,C7 (ns.map D.int)=some ns:=λns=>by
  induction ns with
  |nil=>rfl
  |cons x r ih=>show (C7 (r.map D.int)).map _=_;rw[ih];rfl
 show (C7 (ts.map D.int)).map _=_;rw[h];rfl
theorem Ez(h:Z[n]?=some (.dC L)):G5 (.ref n) Z=some ((n,L),Z):=by unfold G5;dsimp only;rw[h]
theorem LV{L:List (Cs×D)}:(L.any λz=>decide (z.1=c))=decide (c∈L.map (·.1)):=by
 rw[Bool.eq_iff_iff,List.any_eq_true,decide_eq_true_eq,AAL];constructor
 ·rintro⟨z,h1,h2⟩;exact⟨z,h1,of_decide_eq_true h2⟩
 ·rintro⟨z,h1,h2⟩;exact⟨z,h1,AAO h2⟩
theorem YH{L:List (Cs×D)}(h:Z[n]?=some (.dC L)):QM true (csD c) (.ref n) Z=some (.bl (!decide (c∈L.map (·.1))),Z):=by
 unfold QM;rw[AK (Ez h)];show (Ha (csD c)).map _=_;rw[asCs_csD,←LV];rfl
theorem FH{mo mi mv:Sl->M D}{v:D}(h1:mv B Z=some (v,Z))(h2:mo B Z=some (.ref n,Z))(h3:mi B Z=some (csD c,Z))(h:Z[n]?=some (.dC L))(hl:L.length<sizeLine)(hn:c∉L.map (·.1)):Ed mo mi mv B Z=some ((.next,B),Z.set n (.dC (L++[(c,v)]))):=by
 unfold Ed;rw[AK h1,AK h2,AK h3,AK (Ez h)];show (match Ha (csD c) with|some c=>if L.length<sizeLine/\(L.any λz=>decide (z.1=c))=false then some ((Fl.next,B),Z.set n (.dC (L++[(c,v)]))) else none|none=>none)=_;rw[asCs_csD];show (if L.length<sizeLine/\(L.any λz=>decide (z.1=c))=false then some ((Fl.next,B),Z.set n (.dC (L++[(c,v)]))) else none)=_;rw[if_pos ⟨hl,by rw[LV,AAN hn]⟩]
def Ways(cs:List Cs)(W:List (Cs×D)):Prop:=∀(i:Nat) (y:Cs×D),W[i]?=some y->(y.2=.non/\y.1∈cs)∨∃(h:Nat) (p:Cs) (j:Nat),y.2=.tup [.int h,csD p]/\(h,y.1)∈Dt p/\j<i/\(W.map (·.1))[j]?=some p
theorem Ways.more(w:Ways cs W)(hm:(h,x)∈Dt c)(hc:c∈W.map (·.1)):Ways cs (W++[(x,.tup [.int h,csD c])]):=λi y e=>by
 have pre:∀{j:Nat} {p:Cs},(W.map (·.1))[j]?=some p->((W++[(x,D.tup [.int h,csD c])]).map (·.1))[j]?=some p:=λ{j p} z=>by
  rw[AAX,AAS (AAT.mp z).1];exact z
 by_cases hi:i<W.length
 ·rw[AAS hi] at e;rcases w i y e with z|⟨h',p,j,z1,z2,z3,z4⟩
  ·exact .inl z
  ·exact .inr ⟨h',p,j,z1,z2,z3,pre z4⟩
 ·have he:i=W.length:=by
   have:=(AAT.mp e).1;rw[AAG,List.length_singleton] at this;omega
  subst he;rw[AAR (AAE _),AAw] at e;cases e;obtain⟨j,hj⟩:=List.mem_iff_getElem?.mp hc;have:=(AAT.mp hj).1;rw[AAF] at this;exact .inr ⟨h,c,j,rfl,hm,this,pre hj⟩
theorem Ways.cl(w:Ways cs W)(k:Nat):ClL k (W.map (·.2)):=by
 have go:∀ds:List D,(∀d∈ds,Cl k d)->ClL k ds:=λds=>by
  induction ds with
  |nil=>intro _;unfold ClL;trivial
  |cons d ds ih=>intro h;unfold ClL;exact⟨h d AAP,ih λz hz=>h z (AAQ _ hz)⟩
 refine go _ λd hd=>?_;obtain⟨y,hy,rfl⟩:=AAL.mp hd;obtain⟨i,hi⟩:=List.mem_iff_getElem?.mp hy;rcases w i y hi with ⟨z,_⟩|⟨h,p,_,z,_⟩
 ·rw[z];unfold Cl;trivial
 ·rw[z];unfold Cl ClL;exact⟨Bc _ _,by unfold ClL;exact⟨Gv _ _,by unfold ClL;trivial⟩⟩
noncomputable abbrev wH(Z:Mh)(W:List (Cs×D))(wait:List Cs)(g:Mh):Mh:=Z++(.dC W::.lst (wait.map csD)::g)
noncomputable abbrev XC:Sl->M (Fl×Sl):=(sIf (AN (mOp (QM true) (AA 5) (AA 1))) (AS (Ed (AA 1) (AA 5) (AG Bf (AC (AA 4) (AC (AA 2) AL))))
  (BI (Aj Cw (AA 3) (AC (AA 5) AL)))) BP)
theorem Qw(hW:W.length<=3000)(hq:wait.length<=3000)(hm:(h,x)∈Dt c)(hcW:c∈W.map (·.1))(hc:Ways cs W):∃W',(W'.map (·.1))=(vis (W.map (·.1),wait) x).1/\Ways cs W' /\
  XC [o0,some (.ref Z.length),some (csD c),some (.ref (Z.length+1)),some (.int h),some (csD x)] (wH Z W wait g)=some ((.next,[o0,some (.ref Z.length),some (csD c),some (.ref (Z.length+1)),some (.int h),some (csD x)]),wH Z W' (vis (W.map (·.1),wait) x).2 g):=by
 have hz:=A9;have t:AN (mOp (QM true) (AA 5) (AA 1)) [o0,some (.ref Z.length),some (csD c),some (.ref (Z.length+1)),some (.int h),some (csD x)] (wH Z W wait g)=some (!decide (x∈W.map (·.1)),wH Z W wait g):=Aa (po (x:=csD x) (y:=.ref Z.length) rfl rfl (YH gA));by_cases e:x∈W.map (·.1)
 ·refine⟨W,by unfold vis;rw[if_pos e],hc,?_⟩;unfold vis;rw[if_pos e];exact Dh (by rw[t,AAO e];rfl) rfl
 ·refine⟨W++[(x,.tup [.int h,csD c])],by unfold vis;rw[if_neg e,AAX];rfl,hc.more hm hcW,?_⟩
  ·unfold vis;rw[if_neg e];refine Dg (by rw[t,AAN e];rfl) (AX (w6:=wH Z (W++[(x,.tup [.int h,csD c])]) wait g) ?_ (Dp (d:=.non) (D9 (w6:=wH Z (W++[(x,.tup [.int h,csD c])]) wait g) (w9:=wH Z (W++[(x,.tup [.int h,csD c])]) wait g) (x8:=wH Z (W++[(x,.tup [.int h,csD c])]) wait g) (x:=.ref (Z.length+1)) (ds:=[csD x]) rfl (BJ gB) rfl ?_)))
   ·have:=FH (B:=[o0,some (.ref Z.length),some (csD c),some (.ref (Z.length+1)),some (.int h),some (csD x)]) (Z:=wH Z W wait g) (n:=Z.length) (mo:=AA 1) (mi:=AA 5) (mv:=AG Bf (AC (AA 4) (AC (AA 2) AL))) (v:=.tup [.int h,csD c]) (c:=x) (L:=W) (pd (ds:=[.int h,csD c]) rfl (A0 (by simp;omega))) rfl rfl gA (by omega) e;rw[sA] at this;exact this
   ·rw[CN gB (by rw[AAF];omega),sB];show some (D.non,Z++(MO.dC (W++[(x,D.tup [D.int h,csD c])])::MO.lst (wait.map csD++[csD x])::g))=some (D.non,Z++(MO.dC (W++[(x,D.tup [D.int h,csD c])])::MO.lst ((wait++[x]).map csD)::g));rw[AAX];rfl
theorem gL:(wH Z W wait (g++[o]))[Z.length+2+g.length]?=some o:=by
 show (Z++(MO.dC W::MO.lst (wait.map csD)::(g++[o])))[Z.length+2+g.length]?=_;rw[AAR (by omega)];have:Z.length+2+g.length-Z.length=g.length+1+1:=by omega
 rw[this];simp
theorem Qx{o0:Option D}{cs U:List Cs}(hU:∀x∈clo cs,x∈U)(hN:U.length<3000):∀(ps pre:List (Nat×Cs)) (k:Nat) (W:List (Cs×D)) (wait:List Cs) (o4 o5:Option D),ps.length<k->Wm cs c (ps.map (·.2)) (W.map (·.1),wait)->(∀p∈ps,p∈Dt c)->wait.length<=W.length->Ways cs W->
  ∃(W':List (Cs×D)) (o4' o5':Option D),W'.map (·.1)=((ps.map (·.2)).foldl vis (W.map (·.1),wait)).1/\Ways cs W' /\
   HS (Z.length+2+g.length) (CA [4,5]) XC k pre.length [o0,some (.ref Z.length),some (csD c),some (.ref (Z.length+1)),o4,o5] (wH Z W wait (g++[.lst ((pre++ps).map Cc)]))=some ((.next,[o0,some (.ref Z.length),some (csD c),some (.ref (Z.length+1)),o4',o5']),wH Z W' ((ps.map (·.2)).foldl vis (W.map (·.1),wait)).2 (g++[.lst ((pre++ps).map Cc)]))
 |[],pre,k+1,W,wait,o4,o5,hk,w,hp,hl,hc=>⟨W,o4,o5,rfl,hc,K11.QE gL (by simp)⟩
 |p::ps,pre,k+1,W,wait,o4,o5,hk,w,hp,hl,hc=>by
  have hlen:W.length<=2999:=by
   have:=DY w.nd λx hx=>hU x (w.frm x hx);simp at this;omega
  obtain⟨W1,e1,c1,st⟩:=Qw (Z:=Z) (g:=g++[.lst ((pre++p::ps).map Cc)]) (o0:=o0) (c:=c) (x:=p.2) (h:=p.1) (cs:=cs) (W:=W) (wait:=wait) (by omega) (by omega) (hp p AAP) w.me hc;have w1:=w.vis (AAL.mpr ⟨p,hp p AAP,rfl⟩);have hl1:(vis (W.map (·.1),wait) p.2).2.length<=W1.length:=by
   have:=OB (W.map (·.1),wait) p.2;have e2:=congrArg List.length e1;simp at this e2;omega
  obtain⟨W',o4',o5',e',c',go⟩:=Qx hU hN ps (pre++[p]) k W1 (vis (W.map (·.1),wait) p.2).2 (some (.int p.1)) (some (csD p.2)) (by simp at hk;omega) (by rw[e1];exact w1) (λq hq=>hp q (AAQ _ hq)) hl1 c1;rw[e1] at e' go;refine⟨W',o4',o5',e',c',?_⟩;have ea:pre++[p]++ps=pre++p::ps:=by simp
  rw[ea] at go;refine K11.QC (x3:=[o0,some (.ref Z.length),some (csD c),some (.ref (Z.length+1)),some (.int p.1),some (csD p.2)]) (y:=Cc p) gL (by simp) rfl st ?_;simpa using go
 |_,_,0,_,_,_,_,hk,_,_,_,_=>absurd hk (by omega)
noncomputable abbrev whB:Sl->M (Fl×Sl):=(AS (AW (FF U5 (AA 3)) (AO 2))
  (OL 1000 (AG An (AC (AA 2) AL)) (CA [4,5]) XC))
theorem SM(c:Cs):(Dt c).length<=c.2.2.length+1:=by
 unfold Dt Re;have:=OP c.2.2 0;rw[AAG,AAF];split<;>simp<;>omega
theorem Lo(h:S[3]?=some (some (.ref (Z.length+1)))):MI (AA 3) S (wH Z W wait g)=some (!wait.isEmpty,wH Z W wait g):=by
 unfold MI;rw[AK (A1 h),AK (show B4 (.ref (Z.length+1)) (wH Z W wait g)=some (wait.map csD,wH Z W wait g) from by
  show (match (wH Z W wait g)[Z.length+1]? with|some (.lst ds)=>some (ds,wH Z W wait g)|_=>none)=_;rw[gB])]
 cases wait<;>rfl
theorem Le{o0:Option D}{cs U:List Cs}(hU:∀x∈clo cs,x∈U)(hN:U.length<3000)(hw:∀x∈clo cs,x.2.2.length<=100):∀(k:Nat) (W:List (Cs×D)) (wait:List Cs) (g:Mh) (o2 o4 o5:Option D),U.length+wait.length<k+W.length->Wk cs (W.map (·.1)) wait->wait.length<=W.length->Ways cs W->(∀o∈g,∀k,ClO k o)->
  ∃(W':List (Cs×D)) (g':Mh) (o2' o4' o5':Option D),Wk cs (W'.map (·.1)) []/\Ways cs W'/\(∀o∈g',∀k,ClO k o) /\
   GP (MI (AA 3)) whB k [o0,some (.ref Z.length),o2,some (.ref (Z.length+1)),o4,o5] (wH Z W wait g)=some ((.next,[o0,some (.ref Z.length),o2',some (.ref (Z.length+1)),o4',o5']),wH Z W' [] g')
 |0,W,wait,g,o2,o4,o5,hk,w,_,_,_=>by
  have:=DY w.nd λx hx=>hU x (w.frm x hx);simp at this;omega
 |k+1,W,wait,g,o2,o4,o5,hk,w,hl,hc,hg=>by
  rcases List.eq_nil_or_concat wait with rfl|⟨q,c,rfl⟩
  ·exact⟨W,g,o2,o4,o5,w,hc,hg,K13.GL (Lo rfl)⟩
  ·rw[List.concat_eq_append] at *;have hlen:W.length<=2999:=by
    have:=DY w.nd λx hx=>hU x (w.frm x hx);simp at this;omega
   have hcc:c∈clo cs:=w.frm c (w.sub c (by simp));have hcl:=hw c hcc;have m:Wm cs c ((Dt c).map (·.2)) (W.map (·.1),q):=⟨w.nd,λx hx=>w.sub x (AAc _ hx),λx hx=>by
    rcases w.don x hx with z|z
    ·rcases AAJ.mp z with z|z
     ·exact .inl z
     ·exact .inr (.inl (by simpa using z))
    ·exact .inr (.inr z),λy hy=>.inl hy,w.frm,w.all,w.sub c (by simp)⟩
   have hm:=SM c;simp at hl hk;obtain⟨W1,o4',o5',e1,c1,go⟩:=Qx (Z:=Z) (g:=g) (o0:=o0) (c:=c) hU hN (Dt c) [] 1000 W q o4 o5 (by omega) m (λp hp=>hp) (by omega) hc;rw[List.nil_append] at go;have hh:=w.hop;have eh:(hop (W.map (·.1),q++[c]) c)=((Dt c).map (·.2)).foldl vis (W.map (·.1),q):=by
    unfold hop nxt;rw[List.dropLast_concat]
   rw[eh] at hh;have hle:=MT ((Dt c).map (·.2)) (W.map (·.1),q);have el:=congrArg List.length e1;simp only[AAF] at hle el;rw[←e1] at hh;have hg1:∀o∈g++[.lst ((Dt c).map Cc)],∀k,ClO k o:=λo ho k=>by
    rcases AAJ.mp ho with z|z
    ·exact hg o z k
    ·rw[AAK] at z;subst z;exact BO (O9 k) _
   obtain⟨W',g',o2',o4'',o5'',r1,r2,r3,r4⟩:=Le (o0:=o0) hU hN hw k W1 _ (g++[.lst ((Dt c).map Cc)]) (some (csD c)) o4' o5' (by omega) hh (by omega) c1 hg1;refine⟨W',g',o2',o4'',o5'',r1,r2,r3,K13.JM (x6:=[o0,some (.ref Z.length),some (csD c),some (.ref (Z.length+1)),o4',o5']) (w9:=wH Z W1 (((Dt c).map (·.2)).foldl vis (W.map (·.1),q)).2 (g++[.lst ((Dt c).map Cc)])) ((Lo rfl).trans (by simp)) ?_ r4⟩;refine AX (x3:=[o0,some (.ref Z.length),some (csD c),some (.ref (Z.length+1)),o4,o5]) (w6:=wH Z W q g) (CZ (d:=csD c) (w6:=wH Z W q g) ?_ rfl) ?_
   ·unfold FF;rw[AK (show AA 3 [o0,some (.ref Z.length),o2,some (.ref (Z.length+1)),o4,o5] (wH Z W (q++[c]) g)=some (.ref (Z.length+1),wH Z W (q++[c]) g) from rfl),AK (BJ gB)];show EC (Z.length+1) _ (wH Z W (q++[c]) g)=_;unfold EC;rw[gB];show Option.map _ (((q++[c]).map csD)[((q++[c]).map csD).length-1]?.map λd=>(d,((q++[c]).map csD).dropLast))=_;have e0:((q++[c]).map csD)[((q++[c]).map csD).length-1]?=some (csD c):=by simp
    have e2:((q++[c]).map csD).dropLast=q.map csD:=by simp
    rw[e0,e2];show some (csD c,(wH Z W (q++[c]) g).set (Z.length+1) (.lst (q.map csD)))=_;rw[sB]
   ·unfold OL;have vm:=Fr (Z:=wH Z W q g) (c:=c) hcl;have el:(wH Z W q g).length=Z.length+2+g.length:=by
     show (Z++(MO.dC W::MO.lst (q.map csD)::g)).length=_;rw[AAG];simp;omega
    have ew:wH Z W q g++[.lst ((Dt c).map Cc)]=wH Z W q (g++[.lst ((Dt c).map Cc)]):=by
     show (Z++(MO.dC W::MO.lst (q.map csD)::g))++_=Z++(MO.dC W::MO.lst (q.map csD)::(g++_));simp
    rw[el,ew] at vm;rw[AK (B8 (ds:=[csD c]) (w6:=wH Z W q g) rfl vm)];exact go
end
section
variable{Z w6 g:Mh}{B x3 x6:Sl}{d:D}{ds:List D}{n:Nat}
noncomputable def DX(cs:List Cs):List (Cs×D):=cs.map λc=>(c,D.non)
theorem MC(cs:List Cs):(DX cs).map (·.1)=cs:=by unfold DX;rw[List.map_map];exact List.map_id cs
theorem Pv(cs:List Cs):Ways cs (DX cs):=λi y e=>by
 unfold DX at e;obtain⟨c,hc,rfl⟩:=AAL.mp (AAU e);exact .inl ⟨rfl,hc⟩
theorem Oz:∀(cs don:List Cs) (o2:Option D),(don++cs).Nodup->(don++cs).length<=3000->∃o2':Option D,
  B1 (AO 2) (Ed (AA 1) (AA 2) (mC .non)) (cs.map csD) [o0,some (.ref Z.length),o2,o3,o4,o5] (Z++[.dC (DX don)])=some ((.next,[o0,some (.ref Z.length),o2',o3,o4,o5]),Z++[.dC (DX (don++cs))])
 |[],don,o2,_,_=>⟨o2,by simp;rfl⟩
 |c::cs,don,o2,nd,hl=>by
  have hz:=A9;obtain⟨o2',go⟩:=Oz (o0:=o0) (o3:=o3) (o4:=o4) (o5:=o5) cs (don++[c]) (some (csD c)) (by simpa using nd) (by simpa using hl);refine⟨o2',?_⟩;have hn:c∉(DX don).map (·.1):=by
   rw[MC];intro h;have:=(List.nodup_append.mp nd).2.2 c h c (by simp);exact this rfl
  have hlen:(DX don).length<sizeLine:=by unfold DX;rw[AAF];simp at hl;omega
  refine AV (x3:=[o0,some (.ref Z.length),some (csD c),o3,o4,o5]) (w6:=Z++[.dC (DX don)]) rfl ?_ (by simpa using go);have:=FH (B:=[o0,some (.ref Z.length),some (csD c),o3,o4,o5]) (Z:=Z++[.dC (DX don)]) (n:=Z.length) (mo:=AA 1) (mi:=AA 2) (mv:=mC .non) (v:=.non) (c:=c) (L:=DX don) rfl rfl rfl g1a hlen hn;rw[s1a] at this;have e:DX don++[(c,D.non)]=DX (don++[c]):=by unfold DX;simp
  rw[e] at this;exact this
theorem HE{cs U:List Cs}(nd:cs.Nodup)(hU:∀x∈clo cs,x∈U)(hN:U.length<3000)(hw:∀x∈clo cs,x.2.2.length<=100):∃(W:List (Cs×D)) (g:Mh),Wk cs (W.map (·.1)) []/\Ways cs W/\(∀o∈g,∀k,ClO k o)/\BK [.lst (cs.map csD)] Z=some (.ref Z.length,wH Z W [] g):=by
 have hz:=A9;have hlen:cs.length<=2999:=by
  have:=DY nd λx hx=>hU x (mem_clo.mpr ⟨x,hx,Ge x⟩);omega
 obtain⟨o2,fg⟩:=Oz (Z:=Z) (o0:=some (.lst (cs.map csD))) (o3:=none) (o4:=none) (o5:=none) cs [] none (by simpa using nd) (by simp;omega);have w0:Wk cs ((DX cs).map (·.1)) cs:=by
  rw[MC];exact⟨nd,λx h=>h,λx h=>.inl h,λx h=>mem_clo.mpr ⟨x,h,Ge x⟩,λx h=>h⟩
 have hnl:(DX cs).length=cs.length:=by unfold DX;simp
 obtain⟨W,g,o2',o4',o5',r1,r2,r3,r4⟩:=Le (Z:=Z) (o0:=some (.lst (cs.map csD))) hU hN hw Ep (DX cs) cs [] o2 none none (by rw[hnl];unfold Ep;omega) w0 (by omega) (Pv cs) (λo h=>by cases h);refine⟨W,g,r1,r2,r3,?_⟩;refine callF_allG (g:=.dC W::.lst []::g) (x6:=[some (.lst (cs.map csD)),some (.ref Z.length),o2',some (.ref (Z.length+1)),o4',o5']) ?_ rfl (λo ho k=>?_) (by unfold Cl;simp)
 ·refine AX (x3:=[some (.lst (cs.map csD)),some (.ref Z.length),none,none,none,none]) (w6:=Z++[.dC []]) rfl (AX (EK (ds:=cs.map csD) (w6:=Z++[.dC []]) (Bl rfl) fg) (AX (x3:=[some (.lst (cs.map csD)),some (.ref Z.length),o2,some (.ref (Z.length+1)),none,none]) (w6:=wH Z (DX cs) cs []) (CZ (d:=.ref (Z.length+1)) (w6:=wH Z (DX cs) cs []) ?_ rfl) (AX r4 (De (A1 rfl)))));refine B8 (ds:=[.ref Z.length]) (w6:=Z++[.dC (DX cs)]) rfl ?_;show bnd (G5 (.ref Z.length)) _ _=_;rw[AK (Ez g1a)];show some (D.ref (Z++[MO.dC (DX cs)]).length,Z++[MO.dC (DX cs)]++[MO.lst ((DX cs).map λy=>csD y.1)])=_;have e:(DX cs).map (λy=>csD y.1)=cs.map csD:=by unfold DX;rw[List.map_map];rfl
  rw[e,AAm];simp
 ·rcases AAI.mp ho with rfl|ho
  ·exact r2.cl k
  ·rcases AAI.mp ho with rfl|ho
   ·show ClL k [];unfold ClL;trivial
   ·exact r3 o ho k
end
end K16
namespace Wb
open PySem Nk
open K13 (Ev)
noncomputable def QW(v:Int)(c:Cs):Cs:=(c.1,v,c.2.2)
noncomputable def QX(r:Nat)(c:Cs):Cs:=(c.1,c.2.1,c.2.2.set r (-2))
noncomputable def MV(c:Cs):Option Cs:=if c.2.1=-2 then some (c.1,-1,c.2.2) else none
noncomputable def MW(r:Nat)(v:Int)(c:Cs):Option Cs:=if c.2.2[r]?=some v then some (c.1,c.2.1,c.2.2.set r (-1)) else none
noncomputable def pre(S:List Cs):Ev->List Cs
 | .wb v=>S.map (QW v)
 | .we=>S.filterMap MV
 | .rb r=>S.map (QX r)
 | .re r v=>S.filterMap (MW r v)
theorem nodup_map_on:∀{xs:List α},(∀a∈xs,∀b∈xs,f a=f b->a=b)->xs.Nodup->(xs.map f).Nodup
 |[],_,_=>List.nodup_nil
 |x::xs,h,nd=>by
  obtain⟨n1,n2⟩:=List.nodup_cons.mp nd;rw[AAW];refine List.nodup_cons.mpr ⟨λz=>?_,nodup_map_on (λa ha b hb=>h a (AAQ _ ha) b (AAQ _ hb)) n2⟩;obtain⟨y,hy,e⟩:=AAL.mp z;have:=h y (AAQ _ hy) x AAP e;exact n1 (this ▸ hy)
theorem nodup_fm_on:∀{xs:List α},(∀a∈xs,∀b∈xs,∀y,f a=some y->f b=some y->a=b)->xs.Nodup->(xs.filterMap f).Nodup
 |[],_,_=>List.nodup_nil
 |x::xs,h,nd=>by
  obtain⟨n1,n2⟩:=List.nodup_cons.mp nd;have ih:=nodup_fm_on (λa ha b hb=>h a (AAQ _ ha) b (AAQ _ hb)) n2;rw[List.filterMap_cons];split
  ·exact ih
  ·rename_i y e;refine List.nodup_cons.mpr ⟨λz=>?_,ih⟩;obtain⟨w,hw,ew⟩:=List.mem_filterMap.mp z;have:=h w (AAQ _ hw) x AAP y ew e;exact n1 (this ▸ hw)
theorem Kp{i:Nat}{a b v:Int}:∀{xs ys:List Int},xs[i]?=some a->ys[i]?=some a->xs.set i v=ys.set i v->xs=ys
 |[],_,h,_,_=>by simp at h
 |_::_,[],_,h,_=>by simp at h
 |x::xs,y::ys,h1,h2,e=>by
  cases i with
  |zero=>
   simp at h1 h2 e;rw[h1,h2,e]
  |succ i=>
   simp at h1 h2 e;rw[e.1,Kp (b:=b) h1 h2 e.2]
end Wb
namespace K16
open PySem L2 Mi Nk Wb
open K13 (BO Bc A0 A7 po pc pd pq pa piT piF pr peT peF HC Bj A9 Cf BJ CN AV Bl E8 Ct Bq Bk hdD FO Gn Ev Am GA bS Ev.beg Ev.hand Ev.val)
section
variable{Z g:Mh}{x6:Sl}{ds:List D}{sz bg:Int}{ns:List Str}
noncomputable def mkK(kd:Str)(sz bg:Int)(ns:List Str):D:=.tup [.str kd,.int sz,.int bg,.tup [],.tup (ns.map hdD)]
noncomputable def oC:Option Cs->D
 |some c=>csD c
 |none=>.non
theorem V0:Ap [csD c,.int 0,.int v] Z=some (csD (QW v c),Z):=by
 have hz:=A9;refine Au (g:=[]) (x6:=[some (csD c),some (.int 0),some (.int v)]) ?_ rfl (Gv _ _);rw[AAa];exact C5 (piT (Aa (po (x:=.int 0) (y:=.int 0) rfl rfl Cf)) (pr (pd (ds:=[.int c.1,.int v,.tup (c.2.2.map D.int)]) rfl (A0 (by simp;omega)))))
theorem N8{ts:List Int}(h:r<ts.length)(hl:ts.length<=1000):Ad [.tup (ts.map D.int),.int r,.int v] Z=some (.tup ((ts.set r v).map D.int),Z):=by
 rw[O1,HC (by rw[AAF];exact h) (by rw[AAF];exact hl) (λk=>BO (Bc k) _) (λk=>Bc k _),List.map_set]
theorem V1{c:Cs}(h:r<c.2.2.length)(hl:c.2.2.length<=1000):Ap [csD c,.int ((r:Int)+1),.int v] Z=some (csD (QX r c),Z):=by
 have hz:=A9;refine Au (g:=[]) (x6:=[some (csD c),some (.int ((r:Int)+1)),some (.int v)]) ?_ rfl (Gv _ _);rw[AAa];refine pq (piF (Aa ((po (x:=.int ((r:Int)+1)) (y:=.int 0) rfl rfl Cf).trans (by rw[AAf.mpr (by omega)]))) rfl) (pr (pd (ds:=[.int c.1,.int c.2.1,.tup ((c.2.2.set r (-2)).map D.int)]) (pc (x:=.int c.1) rfl (pc (x:=.int c.2.1) rfl (pc (pd (ds:=[.tup (c.2.2.map D.int),.int r,.int (-2)]) (pc rfl (pc (po (x:=.int ((r:Int)+1)) (y:=.int 1) rfl rfl ?_) rfl)) (N8 h hl)) rfl))) (A0 (by simp;omega))));show some (D.int ((r:Int)+1-1),Z)=_;rw[show (r:Int)+1-1=r by omega]
theorem Vy:Ao [csD c,.int 0,.int v] Z=some (oC (MV c),Z):=by
 have hz:=A9;refine Au (g:=[]) (x6:=[some (csD c),some (.int 0),some (.int v)]) ?_ rfl (by cases MV c with|none=>unfold oC Cl;trivial|some c=>exact Gv _ _);rw[AAa];have t:AN (mOp Ah (mOp AJ (AA 0) (mC (.int 1))) (mC EL)) [some (csD c),some (.int 0),some (.int v)] Z=some (c.2.1==-2,Z):=Aa (po (x:=.int c.2.1) (y:=.int (-2)) rfl rfl Cf);refine C5 (piT (Aa (po (x:=.int 0) (y:=.int 0) rfl rfl Cf)) (pr ?_));unfold MV;by_cases e:c.2.1=-2
 ·rw[if_pos e];exact peT (t.trans (by rw[e];rfl)) (pd (ds:=[.int c.1,.int (-1),.tup (c.2.2.map D.int)]) rfl (A0 (by simp;omega)))
 ·rw[if_neg e];exact peF (t.trans (by rw[AAf.mpr e])) rfl
theorem Vz{c:Cs}(h:r<c.2.2.length)(hl:c.2.2.length<=1000):Ao [csD c,.int ((r:Int)+1),.int v] Z=some (oC (MW r v c),Z):=by
 have hz:=A9;refine Au (g:=[]) (x6:=[some (csD c),some (.int ((r:Int)+1)),some (.int v)]) ?_ rfl (by cases MW r v c with|none=>unfold oC Cl;trivial|some c=>exact Gv _ _);rw[AAa];have er:mOp Ef (AA 1) (mC (.int 1)) [some (csD c),some (.int ((r:Int)+1)),some (.int v)] Z=some (.int r,Z):=by
  refine po (x:=.int ((r:Int)+1)) (y:=.int 1) rfl rfl ?_;show some (D.int ((r:Int)+1-1),Z)=_;rw[show (r:Int)+1-1=r by omega]
 have t:AN (mOp Ah (mOp AJ (mOp AJ (AA 0) (mC (.int 2))) (mOp Ef (AA 1) (mC (.int 1)))) (AA 2)) [some (csD c),some (.int ((r:Int)+1)),some (.int v)] Z=some (c.2.2[r]==v,Z):=
  Aa (po (x:=.int c.2.2[r]) (y:=.int v) (po (x:=.tup (c.2.2.map D.int)) (y:=.int r) rfl er (Oo (Bj (by simp[h])))) rfl Cf)
 refine pq (piF (Aa ((po (x:=.int ((r:Int)+1)) (y:=.int 0) rfl rfl Cf).trans (by rw[AAf.mpr (by omega)]))) rfl) (pr ?_);unfold MW;by_cases e:c.2.2[r]?=some v
 ·rw[if_pos e];have e':c.2.2[r]=v:=by rw[AAu h] at e;exact Option.some.inj e
  refine peT (t.trans (by rw[e'];simp)) (pd (ds:=[.int c.1,.int c.2.1,.tup ((c.2.2.set r (-1)).map D.int)]) (pc (x:=.int c.1) rfl (pc (x:=.int c.2.1) rfl (pc (pd (ds:=[.tup (c.2.2.map D.int),.int r,.int (-1)]) (pc rfl (pc er rfl)) (N8 h hl)) rfl))) (A0 (by simp;omega)))
 ·rw[if_neg e];have e':¬c.2.2[r]=v:=λz=>e (by rw[AAu h,z]);exact peF (t.trans (by rw[AAf.mpr e'])) rfl
end
end K16
namespace Mi
open PySem L2
def WP{α:Type}(m:M α)(Z:Mh)(Q:α->Mh->Prop):Prop:=∃a Z',m Z=some (a,Z')/\Q a Z'
section
variable{α β:Type}{m:M α}{f:α->M β}{Z Z':Mh}{Q Q':α->Mh->Prop}{R:β->Mh->Prop}{a:α}
theorem wp_of(h:m Z=some (a,Z'))(q:Q a Z'):WP m Z Q:=⟨a,Z',h,q⟩
theorem AT(h:WP m Z Q)(k:∀a Z',Q a Z'->Q' a Z'):WP m Z Q':=by
 obtain⟨a,Z',e,q⟩:=h;exact⟨a,Z',e,k a Z' q⟩
theorem Ab(h:WP m Z λa w6=>WP (f a) w6 R):WP (bnd m f) Z R:=by
 obtain⟨a,w6,e,b,w9,e2,q⟩:=h;exact⟨b,w9,by rw[AK e];exact e2,q⟩
theorem BQ(q:Q a Z):WP (ret a) Z Q:=⟨a,Z,rfl,q⟩
end
section
variable{B x3:Sl}{Z w6:Mh}{d x y:D}{ds:List D}{ma mb:Sl->M D}{ra:Sl->M (List D)}{tc tb:Sl->M Bool}{m1 m2:Sl->M (Fl×Sl)}{g:D->D->M D}{QD:D->Mh->Prop}{QB:Bool->Mh->Prop}{QL:List D->Mh->Prop}{QS:Fl×Sl->Mh->Prop}{QO:Option Int->Mh->Prop}{i j:Int}
theorem T5{i:Nat}(h:B[i]?=some (some d))(q:QD d Z):WP (AA i B) Z QD:=wp_of (A1 h) q
theorem aU(q:QD d Z):WP (mC d B) Z QD:=⟨d,Z,rfl,q⟩
theorem Y1(h:WP (ma B) Z λx w6=>WP (mb B) w6 λy w9=>WP (g x y) w9 QD):WP (mOp g ma mb B) Z QD:=Ab (AT h λ_ _ z=>Ab z)
theorem Yz(h:WP (ma B) Z λx w6=>WP (u x) w6 QD):WP (mUn u ma B) Z QD:=Ab h
theorem UH(h:WP (ra B) Z λds w6=>WP (f ds) w6 QD):WP (AG f ra B) Z QD:=Ab h
theorem UB(q:QL [] Z):WP (AL B) Z QL:=⟨[],Z,rfl,q⟩
theorem Qp(h:WP (ma B) Z λx w6=>WP (ra B) w6 λds w9=>QL (x::ds) w9):WP (AC ma ra B) Z QL:=Ab (AT h λ_ _ z=>Ab (AT z λ_ _ z=>BQ z))
theorem Wg(z:WP (ma B) Z λx w6=>WP (l B) w6 λa w9=>WP (h B) w9 λb x8=>WP (Ik a b x) x8 QD):WP (EX ma l h B) Z QD:=Ab (AT z λ_ _ z=>Ab (AT z λ_ _ z=>Ab z))
theorem PX(q:QO none Z):WP (DI B) Z QO:=⟨none,Z,rfl,q⟩
theorem UA(h:WP (ma B) Z λd w6=>∃i,d=.int i/\QO (some i) w6):WP (Cv ma B) Z QO:=Ab (AT h λ_ _ ⟨i,e,q⟩=>by subst e;exact BQ q)
theorem T4(h:WP (ma B) Z λd w6=>∃b,d=.bl b/\QB b w6):WP (AN ma B) Z QB:=Ab (AT h λ_ _ ⟨b,e,q⟩=>by subst e;exact BQ q)
theorem Ql(h:WP (tc B) Z λb w6=>QB (!b) w6):WP (Du tc B) Z QB:=Ab (AT h λ_ _ q=>BQ q)
noncomputable def Vp(m:M Bool)(QB:Bool->Mh->Prop):Bool->Mh->Prop
 |true,Z=>WP m Z QB
 |false,Z=>QB false Z
noncomputable def orK(m:M Bool)(QB:Bool->Mh->Prop):Bool->Mh->Prop
 |true,Z=>QB true Z
 |false,Z=>WP m Z QB
theorem Ww(h:WP (tc B) Z (Vp (tb B) QB)):WP (Co tc tb B) Z QB:=Ab (AT h λb _ z=>by cases b;exact BQ z;exact z)
theorem Y0(h:WP (tc B) Z (orK (tb B) QB)):WP (mOr tc tb B) Z QB:=Ab (AT h λb _ z=>by cases b;exact z;exact BQ z)
theorem UK(h:WP (ma B) Z λd w6=>∃b,d=.bl b/\(b=true->WP (mb B) w6 QD)/\(b=false->QD (.bl false) w6)):WP (Ce ma mb B) Z QD:=Ab (AT h λd w6 ⟨b,e,z⟩=>by
 subst e;refine Ab (BQ ?_);cases b
 ·exact BQ (z.2 rfl)
 ·exact z.1 rfl)
noncomputable def Lq(m2:Sl->M (Fl×Sl))(QS:Fl×Sl->Mh->Prop):Fl×Sl->Mh->Prop
 |(.next,x3),w6=>WP (m2 x3) w6 QS
 |r,w6=>QS r w6
theorem Ld(h:WP (m2 x3) w6 QS):Lq m2 QS (.next,x3) w6:=h
theorem Wz(h:QS (.rt d,x3) w6):Lq m2 QS (.rt d,x3) w6:=h
theorem Qi(h:WP (m1 B) Z (Lq m2 QS)):WP (AS m1 m2 B) Z QS:=Ab (AT h λr _ z=>by
 obtain⟨fl,x3⟩:=r;cases fl
 ·exact z
 ·exact BQ z
 ·exact BQ z
 ·exact BQ z
 ·exact BQ z)
theorem UJ{i:Nat}(h:WP (ma B) Z λd w6=>QS (.next,B.set i (some d)) w6):WP (AW ma (AO i) B) Z QS:=Ab (AT h λ_ _ q=>Ab (BQ (BQ q)))
theorem Wv(h:WP (ma B) Z λd w6=>WP (bf d B) w6 λx3 w9=>QS (.next,x3) w9):WP (AW ma bf B) Z QS:=Ab (AT h λ_ _ q=>Ab (AT q λ_ _ z=>BQ z))
theorem Wh(h:WP (ma B) Z λd w6=>QS (.rt d,B) w6):WP (Az ma B) Z QS:=Ab (AT h λ_ _ q=>BQ q)
theorem UG(h:WP (ma B) Z λ_ w6=>QS (.next,B) w6):WP (BI ma B) Z QS:=Ab (AT h λ_ _ q=>BQ q)
theorem Wi(q:QS (.next,B) Z):WP (BP B) Z QS:=⟨_,Z,rfl,q⟩
noncomputable def ifK(m1 m2:Sl->M (Fl×Sl))(B:Sl)(QS:Fl×Sl->Mh->Prop):Bool->Mh->Prop
 |true,Z=>WP (m1 B) Z QS
 |false,Z=>WP (m2 B) Z QS
theorem UT(h:WP (m1 B) Z QS):ifK m1 m2 B QS true Z:=h
theorem UU(h:WP (m2 B) Z QS):ifK m1 m2 B QS false Z:=h
theorem W0(h1:b=true->WP (m1 B) Z QS)(h2:b=false->WP (m2 B) Z QS):ifK m1 m2 B QS b Z:=by cases b;exact h2 rfl;exact h1 rfl
theorem Vt(h:WP (tc B) Z (ifK m1 m2 B QS)):WP (sIf tc m1 m2 B) Z QS:=Ab (AT h λb _ z=>by cases b;exact z;exact z)
theorem Wr(h:WP (src B) Z λds w6=>WP (B1 bf m1 ds B) w6 QS):WP (EO src bf m1 B) Z QS:=Ab h
noncomputable def J2(I:Sl->Mh->Prop)(QS:Fl×Sl->Mh->Prop):Fl×Sl->Mh->Prop
 |(.next,B),Z=>I B Z
 |(.cont,B),Z=>I B Z
 |(.brk,B),Z=>QS (.next,B) Z
 |(.rt d,B),Z=>QS (.rt d,B) Z
 |(.xc x,B),Z=>QS (.xc x,B) Z
theorem Qr(h:I B Z):J2 I QS (.next,B) Z:=h
theorem II(I:List D->Sl->Mh->Prop)(step:∀x xs B Z,I (x::xs) B Z->WP (bf x B) Z λx3 w6=>WP (m1 x3) w6 (J2 (I xs) QS))(fin:∀B Z,I [] B Z->QS (.next,B) Z):∀{ds:List D} {B:Sl} {Z:Mh},I ds B Z->WP (B1 bf m1 ds B) Z QS
 |[],B,Z,h=>BQ (fin B Z h)
 |x::xs,B,Z,h=>Ab (AT (step x xs B Z h) λx3 w6 z=>Ab (AT z λr w9 z=>by
   obtain⟨fl,x6⟩:=r;cases fl
   ·exact II I step fin z
   ·exact BQ z
   ·exact II I step fin z
   ·exact BQ z
   ·exact BQ z))
theorem Qq{QT:Sl->Mh->Prop}{i:Nat}(q:QT (B.set i (some d)) Z):WP (AO i d B) Z QT:=⟨_,Z,rfl,q⟩
theorem UI(h:WP (src B) Z λds w6=>ds.length<=sizeLine/\WP (EZ bf tc ma (Dl N ix B) ds []) w6 λes w9=>WP (fin es) w9 QD):WP (Cd N ix src bf tc ma fin B) Z QD:=Ab (AT h λds w6 z=>Ab (wp_of (GH z.1 w6) (Ab z.2)))
theorem Kc(I:List D->List D->Mh->Prop)(step:∀x xs ys Z,I (x::xs) ys Z->WP (bf x u5) Z λx3 w6=>WP (tc x3) w6 λc w9=>(c=true->WP (ma x3) w9 λy x8=>I xs (ys++[y]) x8)/\(c=false->I xs ys w9))(fin:∀ys Z,I [] ys Z->QL ys Z):∀{ds ys:List D} {Z:Mh},I ds ys Z->WP (EZ bf tc ma u5 ds ys) Z QL
 |[],ys,Z,h=>BQ (fin ys Z h)
 |x::xs,ys,Z,h=>Ab (AT (step x xs ys Z h) λx3 w6 z=>Ab (AT z λc w9 z=>by
   cases c
   ·exact Kc I step fin (z.2 rfl)
   ·exact Ab (AT (z.1 rfl) λy x8 z=>Kc I step fin z)))
theorem T3(q:QB true Z):WP (En B) Z QB:=⟨true,Z,rfl,q⟩
theorem UN(q:QD (.int (i+j)) Z):WP (As (.int i) (.int j)) Z QD:=⟨_,Z,rfl,q⟩
theorem Wd(q:QD (.int (i-j)) Z):WP (Ef (.int i) (.int j)) Z QD:=⟨_,Z,rfl,q⟩
theorem Mv(h:0<j)(q:QD (.int (i % j)) Z):WP (BS (.int i) (.int j)) Z QD:=wp_of (Iw h) q
theorem UF(h:0<j)(h2:j<1073741824)(q:QD (.int (i / j)) Z):WP (Bm (.int i) (.int j)) Z QD:=wp_of (GI h h2) q
theorem Wl(h:(-(2 ^ 64)<i/\i<2 ^ 64)∨(-(2 ^ 64)<j/\j<2 ^ 64))(q:QD (.int (i * j)) Z):WP (Eg (.int i) (.int j)) Z QD:=wp_of (MK h) q
theorem Qm(q:QD (.bl (decide (i<j))) Z):WP (EF (.int i) (.int j)) Z QD:=⟨_,Z,rfl,q⟩
theorem Y2(q:QD (.bl (decide (j<i))) Z):WP (L6 (.int i) (.int j)) Z QD:=⟨_,Z,rfl,q⟩
theorem Wu(q:QD (.bl (i==j)) Z):WP (Ah (.int i) (.int j)) Z QD:=⟨_,Z,rfl,q⟩
theorem Wq(q:QD (.bl (!isN d)) Z):WP (Ci true d .non) Z QD:=by cases d<;>exact⟨_,Z,rfl,q⟩
theorem UE(q:QD (.int (if b then 1 else 0)) Z):WP (Nc [.bl b]) Z QD:=⟨_,Z,rfl,q⟩
theorem N4(h:ds.length<=sizeLine)(q:QD (.tup ds) Z):WP (Bf ds) Z QD:=by
 refine wp_of (a:=.tup ds) (Z':=Z) ?_ q;unfold Bf;rw[AK (GH h _)];rfl
theorem N5(h:ds.length<=sizeLine)(q:QD (.lst ds) Z):WP (Bn ds) Z QD:=by
 refine wp_of (a:=.lst ds) (Z':=Z) ?_ q;unfold Bn;rw[AK (GH h _)];rfl
theorem N6(h:ds.length<=sizeLine)(q:QD (.ref Z.length) (Z++[.lst ds])):WP (DJ ds) Z QD:=by
 refine wp_of (a:=.ref Z.length) (Z':=Z++[.lst ds]) ?_ q;unfold DJ;rw[AK (GH h _)]
theorem Wn(h2:atI ds i=some d)(q:QD d Z):WP (AJ (.tup ds) (.int i)) Z QD:=wp_of (Oo h2) q
theorem Qn(h2:atI ds i=some d)(q:QD d Z):WP (AJ (.lst ds) (.int i)) Z QD:=wp_of (Iy h2) q
theorem We(h:WP (ma B) Z λd w6=>WP (PP d) w6 QL):WP (DO ma B) Z QL:=Ab h
theorem T6(q:QL ds Z):WP (PP (.tup ds)) Z QL:=⟨_,Z,rfl,q⟩
theorem T7(q:QL ds Z):WP (PP (.lst ds)) Z QL:=⟨_,Z,rfl,q⟩
theorem T8(h:WP (ra B) Z λds w6=>∃j:Nat,ds=[.int j]/\j<1000000/\QL ((List.range j).map λ(i:Nat)=>.int (i:Int)) w6):WP (Jy ra B) Z QL:=Ab (AT h λds w6 ⟨j,e,hj,q⟩=>by
 subst e;refine wp_of (a:=L0 0 j) (Z':=w6) ?_ ?_
 ·have hj2:-(2 ^ 62)<=(j:Int)/\(j:Int)<2 ^ 62:=⟨by omega,by omega⟩;unfold ON;simp only[];rw[if_pos hj2]
 ·have e:L0 0 (j:Int)=(List.range j).map λ(i:Nat)=>.int (i:Int):=by
   unfold L0;rw[show ((j:Int)-0).toNat=j by omega];congr 1
   funext i
   rw[Int.zero_add]
  rw[e];exact q)
theorem T2(q:QD (.tup ds) Z):WP (IP [.lst ds]) Z QD:=⟨_,Z,rfl,q⟩
theorem DB{N ps:Nat}{mb:Sl->M (Fl×Sl)}(hl:ds.length=ps)(h:WP (mb (BR N ds)) Z λr w9=>∃d x6 gs,r=(.rt d,x6)/\w9=Z++gs/\Cl Z.length d/\QD d Z):WP (Ay .drop N ps mb ds) Z QD:=by
 obtain⟨r,w9,e,d,x6,gs,rfl,rfl,c,q⟩:=h;exact wp_of (Au e hl c) q
end
mutual
def Pz:D->Prop
 | .non=>True
 | .int _=>True
 | .str x=>PyData.strOk x=true
 | .tup ds=>PzL ds
 | .lst ds=>PzL ds
 |_=>False
def PzL:List D->Prop
 |[]=>True
 |d::ds=>Pz d/\PzL ds
end
mutual
def dpt:D->Nat
 | .tup ds=>Jh ds+1
 | .lst ds=>Jh ds+1
 |_=>0
def Jh:List D->Nat
 |[]=>0
 |d::ds=>max (dpt d) (Jh ds)
end
mutual
def toZ:D->PyData
 | .int i=>.int i
 | .str x=>.str x
 | .tup ds=>.tuple (EN ds)
 | .lst ds=>.list (EN ds)
 |_=>.none
def EN:List D->List PyData
 |[]=>[]
 |d::ds=>toZ d::EN ds
end
mutual
theorem M7(Z:Mh):∀{d:D},Pz d->toP Z d=some (toZ d)
 | .non,_=>rfl
 | .int _,_=>rfl
 | .str _,_=>rfl
 | .tup ds,h=>by unfold Pz at h;unfold toP toZ;rw[Kg Z h];rfl
 | .lst ds,h=>by unfold Pz at h;unfold toP toZ;rw[Kg Z h];rfl
 | .bl _,h | .ty _,h | .scr _,h | .ref _,h=>by unfold Pz at h;exact h.elim
theorem Kg(Z:Mh):∀{ds:List D},PzL ds->DD Z ds=some (EN ds)
 |[],_=>by unfold DD EN;rfl
 |d::ds,h=>by
  unfold PzL at h;unfold DD EN;rw[M7 Z h.1,Kg Z h.2];rfl
end
mutual
theorem Kf:∀{d:D},Pz d->PyData.canLay0 (toZ d)=true/\PyData.depth (toZ d)=dpt d
 | .non,_=>⟨rfl,rfl⟩
 | .int _,_=>⟨rfl,rfl⟩
 | .str _,h=>by unfold Pz at h;exact⟨h,rfl⟩
 | .tup ds,h=>by
  unfold Pz at h;obtain⟨h1,h2⟩:=IQ h;unfold toZ dpt;exact⟨h1,by show PyData.depthAll (EN ds)+1=_;rw[h2]⟩
 | .lst ds,h=>by
  unfold Pz at h;obtain⟨h1,h2⟩:=IQ h;unfold toZ dpt;exact⟨h1,by show PyData.depthAll (EN ds)+1=_;rw[h2]⟩
 | .bl _,h | .ty _,h | .scr _,h | .ref _,h=>by unfold Pz at h;exact h.elim
theorem IQ:∀{ds:List D},PzL ds->PyData.canLayAll0 (EN ds)=true/\PyData.depthAll (EN ds)=Jh ds
 |[],_=>by unfold EN Jh;exact⟨rfl,rfl⟩
 |d::ds,h=>by
  unfold PzL at h;obtain⟨h1,h2⟩:=Kf h.1;obtain⟨h3,h4⟩:=IQ h.2;unfold EN Jh;refine⟨?_,?_⟩
  ·show (PyData.canLay0 (toZ d)&&PyData.canLayAll0 (EN ds))=true;rw[h1,h3];rfl
  ·show max (PyData.depth (toZ d)) (PyData.depthAll (EN ds))=_;rw[h2,h4]
end
mutual
theorem eqZ:∀{a b:D},Pz a->Pz b->(PyData.eqv (toZ a) (toZ b)=true↔a=b)
 | .non,b,_,hb=>by
  cases b<;>first|exact⟨λ_=>rfl,λ_=>rfl⟩|(unfold Pz at hb;exact hb.elim)|(unfold toZ;exact⟨λz=>(by cases z),λz=>(by cases z)⟩)
 | .int i,b,_,hb=>by
  cases b with
  |int j=>exact⟨λz=>by have:(i==j)=true:=z;rw[beq_iff_eq.mp this],λz=>by cases z;show (i==i)=true;simp⟩
  |_=>first|(unfold Pz at hb;exact hb.elim)|(unfold toZ;exact⟨λz=>(by cases z),λz=>(by cases z)⟩)
 | .str i,b,_,hb=>by
  cases b with
  |str j=>exact⟨λz=>by have:(i==j)=true:=z;rw[beq_iff_eq.mp this],λz=>by cases z;show (i==i)=true;simp⟩
  |_=>first|(unfold Pz at hb;exact hb.elim)|(unfold toZ;exact⟨λz=>(by cases z),λz=>(by cases z)⟩)
 | .tup xs,b,ha,hb=>by
  cases b with
  |tup ys=>
   unfold Pz at ha hb;unfold toZ;have:=Yg ha hb;exact⟨λz=>by rw[this.mp z],λz=>by cases z;exact this.mpr rfl⟩
  |_=>first|(unfold Pz at hb;exact hb.elim)|(unfold toZ;exact⟨λz=>(by cases z),λz=>(by cases z)⟩)
 | .lst xs,b,ha,hb=>by
  cases b with
  |lst ys=>
   unfold Pz at ha hb;unfold toZ;have:=Yg ha hb;exact⟨λz=>by rw[this.mp z],λz=>by cases z;exact this.mpr rfl⟩
  |_=>first|(unfold Pz at hb;exact hb.elim)|(unfold toZ;exact⟨λz=>(by cases z),λz=>(by cases z)⟩)
 | .bl _,_,h,_ | .ty _,_,h,_ | .scr _,_,h,_ | .ref _,_,h,_=>by unfold Pz at h;exact h.elim
theorem Yg:∀{as bs:List D},PzL as->PzL bs->(PyData.eqvAll (EN as) (EN bs)=true↔as=bs)
 |[],[],_,_=>by unfold EN;exact⟨λ_=>rfl,λ_=>rfl⟩
 |[],_::_,_,_=>by unfold EN;exact⟨λz=>(by cases z),λz=>(by cases z)⟩
 |_::_,[],_,_=>by unfold EN;exact⟨λz=>(by cases z),λz=>(by cases z)⟩
 |a::as,b::bs,ha,hb=>by
  unfold PzL at ha hb;unfold EN;have h1:=eqZ ha.1 hb.1;have h2:=Yg ha.2 hb.2;show (PyData.eqv (toZ a) (toZ b)&&PyData.eqvAll (EN as) (EN bs))=true↔_;rw[Bool.and_eq_true,h1,h2];exact⟨λ⟨x,y⟩=>by rw[x,y],λz=>by cases z;exact⟨rfl,rfl⟩⟩
end
section
variable{Z:Mh}{a b:D}{QD:D->Mh->Prop}
theorem S7(ha:Pz a)(hb:Pz b)(da:dpt a<=64)(db:dpt b<=64):∃e:Bool,(e=true↔a=b)/\Fb neg a b Z=some (.bl (if neg then !e else e),Z):=by
 refine⟨PyData.eqv (toZ a) (toZ b),eqZ ha hb,?_⟩;obtain⟨a1,a2⟩:=Kf ha;obtain⟨b1,b2⟩:=Kf hb;have s1:SeqAt.shaped (toZ a)=true:=by
  show (PyData.canLay0 (toZ a)&&decide (PyData.depth (toZ a)<=64))=true;rw[a1,AAO (by omega)];rfl
 have s2:SeqAt.shaped (toZ b)=true:=by
  show (PyData.canLay0 (toZ b)&&decide (PyData.depth (toZ b)<=64))=true;rw[b1,AAO (by omega)];rfl
 have e1:HF Z a=some (toZ a):=by
  cases a with
  |ref n=>unfold Pz at ha;exact ha.elim
  |_=>exact M7 Z ha
 have e2:HF Z b=some (toZ b):=by
  cases b with
  |ref n=>unfold Pz at hb;exact hb.elim
  |_=>exact M7 Z hb
 unfold Fb;rw[e1,e2];exact if_pos ⟨s1,s2⟩
theorem Wt(ha:Pz a)(hb:Pz b)(da:dpt a<=64)(db:dpt b<=64)(q:∀e:Bool,(e=true↔a=b)->QD (.bl e) Z):WP (Ah a b) Z QD:=by
 obtain⟨e,h1,h2⟩:=S7 (Z:=Z) (neg:=false) ha hb da db;exact wp_of h2 (q e h1)
end
end Mi
namespace Mi
section
variable{b:Bool}{i:Int}
theorem IJ{P:Bool->Prop}(h:P b):∃b',D.bl b=D.bl b'/\P b':=⟨b,rfl,h⟩
theorem US{P:Int->Prop}(h:P i):∃i',D.int i=D.int i'/\P i':=⟨i,rfl,h⟩
theorem UQ{n:Nat}{P:Nat->Prop}(e:i=n)(hn:n<1000000)(h:P n):∃j:Nat,[D.int i]=[D.int j]/\j<1000000/\P j:=⟨n,by rw[e],hn,h⟩
end
end Mi
local macro_rules | `(tactic| wtm_at "i")=>`(tactic| first|assumption|decide|omega|exact Nat.le_of_ble_eq_true rfl)
local macro_rules | `(tactic| wtm_at "o")=>`(tactic| first
 |(with_reducible apply Mi.Qi)|(with_reducible apply Mi.Ld)|(with_reducible apply Mi.UJ)|(with_reducible apply Mi.Wh)|(with_reducible apply Mi.Wz)|(with_reducible apply Mi.UG)|(with_reducible apply Mi.Wi)|(with_reducible apply Mi.Vt)|(with_reducible apply Mi.UT)|(with_reducible apply Mi.UU)|(with_reducible apply Mi.Y1)|(with_reducible apply Mi.aU)|((with_reducible apply Mi.T5);rfl)|(with_reducible apply Mi.Qp)|(with_reducible apply Mi.UB)|(with_reducible apply Mi.UH)|(with_reducible apply Mi.Yz)
 |(with_reducible apply Mi.T4)|(with_reducible apply Mi.IJ)|(with_reducible apply Mi.Ql)|(with_reducible apply Mi.Ww)|(with_reducible apply Mi.Y0)|(with_reducible apply Mi.Wr)|(with_reducible apply Mi.UI)|(with_reducible apply Mi.We)|(with_reducible apply Mi.T6)|(with_reducible apply Mi.T7)|(with_reducible apply Mi.T8)|(with_reducible apply Mi.Wg)|(with_reducible apply Mi.PX)|(with_reducible apply Mi.UA)|(with_reducible apply Mi.US)
 |(with_reducible apply Mi.UN)|(with_reducible apply Mi.wq_add)|(with_reducible apply Mi.Wd)|(with_reducible apply Mi.Qm)|(with_reducible apply Mi.Y2)|(with_reducible apply Mi.wq_ge)|(with_reducible apply Mi.Wu)|(with_reducible apply Mi.wq_neI)|(with_reducible apply Mi.wq_isF)|(with_reducible apply Mi.Wq)|(with_reducible apply Mi.UE)|(with_reducible apply Mi.wq_neB)|(with_reducible apply Mi.wq_tupT)|(with_reducible apply Mi.T2)|(with_reducible apply Mi.wq_lenT)|(with_reducible apply Mi.T3)|(with_reducible apply Mi.Qq)
 |((with_reducible apply Mi.Mv);(wtm_at "i"))|((with_reducible apply Mi.UF);(wtm_at "i");(wtm_at "i"))|((with_reducible apply Mi.N4);(wtm_at "i"))|((with_reducible apply Mi.N5);(wtm_at "i"))|((with_reducible apply Mi.N6);(wtm_at "i"))|((with_reducible apply Mi.Wn);rfl)|((with_reducible apply Mi.Qn);rfl))
namespace Mi
open PySem L2
section
variable{x3:Sl}{Z w6:Mh}{x y:D}{ma:Sl->M D}{tc:Sl->M Bool}{QD:D->Mh->Prop}{QL:List D->Mh->Prop}
theorem EB{α:Type}(f:α->D)(p:α->Bool)(F:α->D){bf:D->Sl->M Sl}{xs:List α}(h:∀a∈xs,WP (bf (f a) u5) Z λx3 w6=>w6=Z/\WP (tc x3) Z λc w9=>c=p a/\w9=Z/\(p a=true->WP (ma x3) Z λy x8=>y=F a/\x8=Z))(q:QL ((xs.filter p).map F) Z):WP (EZ bf tc ma u5 (xs.map f) []) Z QL:=by
 refine Kc (I:=λrest ys Z'=>∃a b,a++b=xs/\rest=b.map f/\ys=(a.filter p).map F/\Z'=Z) (λz zs ys Z' hI=>?_) (λys Z' hI=>?_) ⟨[],xs,rfl,rfl,rfl,rfl⟩
 ·obtain⟨a,b,hab,hr,rfl,rfl⟩:=hI;cases b with
  |nil=>cases hr
  |cons w b=>
   rw[AAW] at hr;obtain⟨e1,e2⟩:=List.cons.inj hr;subst e1;have hw:w∈xs:=by rw[←hab];simp
   refine AT (h w hw) λx3 w6 ⟨e,z⟩=>?_;subst e;refine AT z λc w9 ⟨e3,e4,z2⟩=>?_;subst e3 e4;refine⟨λhc=>AT (z2 hc) λy x8 ⟨e5,e6⟩=>?_,λhc=>?_⟩
   ·subst e5 e6;exact⟨a++[w],b,by rw[←hab];simp,e2,by rw[List.filter_append,AAX,List.filter_cons_of_pos hc];rfl,rfl⟩
   ·exact⟨a++[w],b,by rw[←hab];simp,e2,by rw[List.filter_append,AAX,List.filter_cons_of_neg (by rw[hc];exact AAh)];simp,rfl⟩
 ·obtain⟨a,b,hab,hr,rfl,rfl⟩:=hI;cases b with
  |cons w b=>cases hr
  |nil=>
   rw[AAa] at hab;subst hab;exact q
theorem LQ:∀xs:List α,Jj (xs.map λa=>D.bl (f a))=some (xs.map f)
 |[]=>rfl
 |x::xs=>by rw[AAW];unfold Jj;rw[LQ xs];rfl
theorem Wx{α:Type}{f:α->Bool}{xs:List α}(q:QD (.bl (xs.all f)) Z):WP (QY [.lst (xs.map λa=>D.bl (f a))]) Z QD:=by
 refine wp_of (a:=.bl (xs.all f)) (Z':=Z) ?_ q;show (Jj (xs.map λa=>D.bl (f a))).map _=_;rw[LQ];show some (D.bl ((xs.map f).all id),Z)=_;rw[List.all_map];rfl
theorem Qo{x y:Str}(h1:PyData.strOk x=true)(h2:PyData.strOk y=true)(q:QD (.bl (x==y)) Z):WP (Ah (.str x) (.str y)) Z QD:=by
 refine Wt (by unfold Pz;exact h1) (by unfold Pz;exact h2) (by show 0<=64;omega) (by show 0<=64;omega) λe he=>?_;have:e=(x==y):=by
  rw[Bool.eq_iff_iff,he,beq_iff_eq];exact⟨λz=>by cases z;rfl,λz=>by rw[z]⟩
 rw[this];exact q
end
end Mi
namespace Wb
open Nk
noncomputable def tlU(ws:List Int):List Bool->List (List Int)
 |[]=>[[]]
 |b::is=>(if b then [(-1:Int)] else -2::ws).flatMap λv=>(tlU ws is).map (v::·)
theorem mem_tlU:t∈tlU ws (b::is)↔∃v r,t=v::r/\(if b then v=-1 else v=-2∨v∈ws)/\r∈tlU ws is:=by
 show t∈((if b then [(-1:Int)] else -2::ws).flatMap λv=>(tlU ws is).map (v::·))↔_;rw[List.mem_flatMap];constructor
 ·rintro⟨v,hv,h⟩;obtain⟨r,hr,rfl⟩:=AAL.mp h;refine⟨v,r,rfl,?_,hr⟩;cases b<;>simpa using hv
 ·rintro⟨v,r,rfl,hv,hr⟩;refine⟨v,?_,AAL.mpr ⟨r,hr,rfl⟩⟩;cases b<;>simpa using hv
theorem Ki:∀{is:List Bool} {t:List Int},t∈tlU ws is->t.length=is.length
 |[],t,h=>by
  have:t=[]:=by simpa[tlU] using h
  subst this;rfl
 |b::is,t,h=>by
  obtain⟨v,r,rfl,_,hr⟩:=mem_tlU.mp h;simp[Ki hr]
theorem M8:∀{is:List Bool} {t:List Int} {r:Nat} {b:Bool},t∈tlU ws is->is[r]?=some b->∃v,t[r]?=some v/\(if b then v=-1 else v=-2∨v∈ws)
 |[],_,_,_,_,e=>by simp at e
 |b0::is,t,r,b,h,e=>by
  obtain⟨v,t',rfl,hv,ht⟩:=mem_tlU.mp h;cases r with
  |zero=>simp at e;subst e;exact⟨v,rfl,hv⟩
  |succ r=>simpa using M8 (r:=r) ht (by simpa using e)
theorem Kh:∀{is:List Bool} {t:List Int} {r:Nat} {b:Bool} {v:Int},t∈tlU ws is->(if b then v=-1 else v=-2∨v∈ws)->t.set r v∈tlU ws (is.set r b)
 |[],t,r,b,v,h,_=>by
  have:t=[]:=by simpa[tlU] using h
  subst this;exact h
 |b0::is,t,r,b,v,h,hv=>by
  obtain⟨u,t',rfl,hu,ht⟩:=mem_tlU.mp h;cases r with
  |zero=>exact mem_tlU.mpr ⟨v,t',rfl,hv,ht⟩
  |succ r=>exact mem_tlU.mpr ⟨u,t'.set r v,rfl,hu,Kh ht hv⟩
theorem OF(ws:List Int):∀is:List Bool,(tlU ws is).length<=(1+ws.length) ^ is.length
 |[]=>by simp[tlU]
 |b::is=>by
  have h:(tlU ws (b::is)).length=(if b then [(-1:Int)] else -2::ws).length * (tlU ws is).length:=by
   show ((if b then [(-1:Int)] else -2::ws).flatMap λv=>(tlU ws is).map (v::·)).length=_;generalize (if b then [(-1:Int)] else -2::ws)=l
   induction l with
   |nil=>simp
   |cons x l ih=>rw[List.flatMap_cons,AAG,ih,AAF,AAH,Nat.add_mul,Nat.one_mul,Nat.add_comm]
  rw[h,AAH,Nat.pow_succ,Nat.mul_comm];refine Nat.mul_le_mul (OF ws is) ?_;cases b<;>simp<;>omega
noncomputable def Uc(ws:List Int)(is:List Bool)(a:Int):Option Int->List Cs
 |none=>(tlU ws is).map λt=>(a,-1,t)
 |some b=>(tlU ws is).map (λt=>(a,b,t))++(tlU ws is).map λt=>(b,-2,t)
theorem mem_Uc:c∈Uc ws is a m↔c.2.2∈tlU ws is/\(match m with|none=>c.1=a/\c.2.1=-1|some b=>(c.1=a/\c.2.1=b)∨(c.1=b/\c.2.1=-2)):=by
 cases m with
 |none=>
  show c∈(tlU ws is).map (λt=>(a,-1,t))↔_;rw[AAL];constructor
  ·rintro⟨t,ht,rfl⟩;exact⟨ht,rfl,rfl⟩
  ·rintro⟨ht,h1,h2⟩;exact⟨c.2.2,ht,by rw[←h1,←h2]⟩
 |some b=>
  show c∈(tlU ws is).map (λt=>(a,b,t))++(tlU ws is).map (λt=>(b,-2,t))↔_;rw[AAJ,AAL,AAL];constructor
  ·rintro(⟨t,ht,rfl⟩|⟨t,ht,rfl⟩)
   ·exact⟨ht,.inl ⟨rfl,rfl⟩⟩
   ·exact⟨ht,.inr ⟨rfl,rfl⟩⟩
  ·rintro⟨ht,⟨h1,h2⟩|⟨h1,h2⟩⟩
   ·exact .inl ⟨c.2.2,ht,by rw[←h1,←h2]⟩
   ·exact .inr ⟨c.2.2,ht,by rw[←h1,←h2]⟩
theorem Yx(ws:List Int)(is:List Bool)(a:Int)(m:Option Int):(Uc ws is a m).length<=2 * (1+ws.length) ^ is.length:=by
 have:=OF ws is;cases m with
 |none=>unfold Uc;rw[AAF];omega
 |some b=>unfold Uc;rw[AAG,AAF,AAF];omega
end Wb
namespace K12
open PySem L2 Mi Ht Nk Wb
section
variable{v:Int}{r:Nat}
theorem Di(h:MV c=some y):c.2.1=-2/\y=(c.1,-1,c.2.2):=by
 unfold MV at h;split at h
 ·exact⟨by assumption,(Option.some.inj h).symm⟩
 ·cases h
theorem Dj(h:MW r v c=some y):c.2.2[r]?=some v/\y=(c.1,c.2.1,c.2.2.set r (-1)):=by
 unfold MW at h;split at h
 ·exact⟨by assumption,(Option.some.inj h).symm⟩
 ·cases h
end
end K12
namespace K16
open PySem L2 Mi Nk Wb Ht K13
section
variable{Z w6 w9 x8:Mh}{B x3:Sl}{d:D}{ds es:List D}{n:Nat}
variable{sz bg:Int}{ns:List Str}{kd:Str}
noncomputable def C0:Int->(Nat->Int)->List Ev->List Int
 |_,_,[]=>[]
 |b,c,e::es=>(if e.beg then b else c e.hand)::C0 (if e.beg then b+1 else b) (if e.beg then λh=>if h=e.hand then b else c h else c) es
theorem gs_beg{b:Int}{c:Nat->Int}{es:List Ev}(h:e.beg=true):C0 b c (e::es)=b::C0 (b+1) (λh=>if h=e.hand then b else c h) es:=by
 show (if e.beg then b else c e.hand)::C0 (if e.beg then b+1 else b) (if e.beg then λh=>if h=e.hand then b else c h else c) es=_;rw[h];rfl
theorem gs_end{b:Int}{c:Nat->Int}{es:List Ev}(h:e.beg=false):C0 b c (e::es)=c e.hand::C0 b c es:=by
 show (if e.beg then b else c e.hand)::C0 (if e.beg then b+1 else b) (if e.beg then λh=>if h=e.hand then b else c h else c) es=_;rw[h];rfl
theorem LW(N:Ns ns):∀(es:List Ev) (k:Nat) (L:List (Key×D)) (G:Nat->Bool) (as:List D) (b:Int) (c:Nat->Int) (o6 o7 o8:Option D),(∀e∈es,e.Ok ns sz)->wfG G es->DG L G->(∀(h:Nat) (g:Int),CW L (.inl (h:Int))=some (.int g)->g=c h)->L.length+es.length<=1000->as.length+es.length<=1000->
  ∃(gs:List Int) (L':List (Key×D)) (b':Int) (o6' o7' o8':Option D),gs.length=es.length/\gs=C0 b c es /\
   B1 (CA [6,7]) bN (B9 k (es.map (evD ns))) [some (mkK kd sz bg ns),some (.lst ev),some (.lst (ns.map D.str)),some (.ref Z.length),some (.ref (Z.length+1)),some (.int b),o6,o7,o8] (Z++[.dK L,.lst as]) =
    some ((.next,[some (mkK kd sz bg ns),some (.lst ev),some (.lst (ns.map D.str)),some (.ref Z.length),some (.ref (Z.length+1)),some (.int b'),o6',o7',o8']),Z++[.dK L',.lst (as++(es.zip gs).map λp=>Am p.1 p.2)])
 |[],k,L,G,as,b,c,o6,o7,o8,_,_,_,_,_,_=>⟨[],L,b,o6,o7,o8,rfl,rfl,by simp[B9];rfl⟩
 |e::es,k,L,G,as,b,c,o6,o7,o8,ok,wf,dg,dc,hL,hA=>by
  have hz:=A9;have eo:=ok e (by simp);obtain⟨w1,w2⟩:=wf;rw[AAH] at hL hA;have t1:∀(S:Sl) (M:Mh),S[7]?=some (some (evD ns e))->S[2]?=some (some (.lst (ns.map D.str)))->S[0]?=some (some (mkK kd sz bg ns))->sIf (Du (AN (AG A5 (AC (AA 7) (AC (AA 2) (AC (mOp AJ (AA 0) (mC (.int 1))) AL)))))) ED BP S M=some ((.next,S),M):=λS M h7 h2 h0=>
   piF (HV (b:=true) (Aa (pd (ds:=[evD ns e,.lst (ns.map D.str),.int sz]) (pc (A1 h7) (pc (A1 h2) (pc (po (x:=mkK kd sz bg ns) (y:=.int 1) (A1 h0) rfl rfl) rfl))) (Ud N eo)))) rfl
  have t2:∀(S:Sl) (M:Mh),S[7]?=some (some (evD ns e))->S[2]?=some (some (.lst (ns.map D.str)))->AW (Aj JC (AA 2) (AC (mOp AJ (AA 7) (mC (.int 1))) AL)) (AO 8) S M=some ((.next,S.set 8 (some (.int e.hand))),M):=λS M h7 h2=>
   pa (D9 (x:=.lst (ns.map D.str)) (w6:=M) (w9:=M) (x8:=M) (ds:=[.str (nm ns e.hand)]) (A1 h2) rfl (pc (po (x:=evD ns e) (y:=.int 1) (A1 h7) rfl (by cases e<;>rfl)) rfl) (Z4 N eo.h)) rfl
  have tb:∀(S:Sl) (M:Mh),S[7]?=some (some (evD ns e))->mOp Ah (mOp AJ (AA 7) (mC (.int 0))) (mC (.str "begin")) S M=some (.bl e.beg,M):=λS M h7=>po (x:=.str (bS e.beg)) (y:=.str "begin") (po (x:=evD ns e) (y:=.int 0) (A1 h7) rfl (by cases e<;>rfl)) rfl GA;have te:∀(S:Sl) (M:Mh),S[7]?=some (some (evD ns e))->AN (mOp Ah (mOp AJ (AA 7) (mC (.int 0))) (mC (.str "end"))) S M=some (!e.beg,M):=λS M h7=>Aa (po (x:=.str (bS e.beg)) (y:=.str "end") (po (x:=evD ns e) (y:=.int 0) (A1 h7) rfl (by cases e<;>rfl)) rfl Z6);have t3:∀(S:Sl) (M:Mh) (L:List (Key×D)),S[7]?=some (some (evD ns e))->S[8]?=some (some (.int e.hand))->S[3]?=some (some (.ref Z.length))->M[Z.length]?=some (.dK L)->DG L G->sIf (AN (mOp Ah (mOp Ah (mOp AJ (AA 7) (mC (.int 0))) (mC (.str "begin"))) (mOp (Ji false) (AA 8) (AA 3)))) ED BP S M=some ((.next,S),M):=λS M L h7 h8 h3 hM dg=>by
   have hv:(CW L (.inl (e.hand:Int))).isSome=!e.beg:=by
    rcases dg e.hand with ⟨z1,z2⟩|⟨g,z1,z2⟩
    ·rw[z1,←w1,z2];rfl
    ·rw[z1,←w1,z2];rfl
   refine piF (Aa (po (x:=.bl e.beg) (y:=.bl (!e.beg)) (tb S M h7) (po (x:=.int e.hand) (y:=.ref Z.length) (A1 h8) (A1 h3) (by rw[LA hM,hv])) ?_)) rfl;rw[Iz];cases e.beg<;>rfl
  cases hb:e.beg with
  |true=>
   have dg1:=dg.put e.hand b;rw[hb] at w2;obtain⟨gs,L',b',o6',o7',o8',hl,hgs,go⟩:=LW N (ev:=ev) es (k+1) (Cy L (.inl (e.hand:Int)) (.int b)) (λh=>if h=e.hand then true else G h) (as++[Am e b]) (b+1) (λh=>if h=e.hand then b else c h) (some (.int k)) (some (evD ns e)) (some (.int e.hand)) (λx hx=>ok x (by simp[hx])) w2 dg1 (λh g z=>by
    rw[D4] at z;by_cases y:h=e.hand
    ·subst y;rw[if_pos rfl] at z;cases z;exact(if_pos rfl).symm
    ·rw[if_neg λq=>y (by have:=Sum.inl.inj q;omega)] at z;show g=if h=e.hand then b else c h;rw[if_neg y];exact dc h g z) (by have:=D7 L (.inl (e.hand:Int)) (.int b);omega) (by simp;omega)
   refine⟨b::gs,L',b',o6',o7',o8',by simp[hl],by rw[hgs,gs_beg hb],?_⟩;have ez:as++List.map (λp:Ev×Int=>Am p.1 p.2) ((e,b)::es.zip gs)=as++[Am e b]++(es.zip gs).map (λp=>Am p.1 p.2):=by simp
   rw[List.zip_cons_cons,ez];refine AV (x:=.tup [.int k,evD ns e]) (x3:=[some (mkK kd sz bg ns),some (.lst ev),some (.lst (ns.map D.str)),some (.ref Z.length),some (.ref (Z.length+1)),some (.int b),some (.int k),some (evD ns e),o8]) (w6:=Z++[.dK L,.lst as]) rfl ?_ go;refine AX (t1 _ _ rfl rfl rfl) (AX (t2 _ _ rfl rfl) (AX (t3 _ _ L rfl rfl rfl g2a dg) (AX (x3:=[some (mkK kd sz bg ns),some (.lst ev),some (.lst (ns.map D.str)),some (.ref Z.length),some (.ref (Z.length+1)),some (.int (b+1)),some (.int k),some (evD ns e),some (.int e.hand)]) (w6:=Z++[.dK (Cy L (.inl (e.hand:Int)) (.int b)),.lst as]) (Dg (w6:=Z++[.dK L,.lst as]) (Aa ((tb _ _ rfl).trans (by rw[hb]))) (AX (x3:=[some (mkK kd sz bg ns),some (.lst ev),some (.lst (ns.map D.str)),some (.ref Z.length),some (.ref (Z.length+1)),some (.int b),some (.int k),some (evD ns e),some (.int e.hand)]) (w6:=Z++[.dK (Cy L (.inl (e.hand:Int)) (.int b)),.lst as]) ?_ (pa (po (x:=.int b) (y:=.int 1) rfl rfl rfl) rfl))) (AX (w6:=Z++[.dK (Cy L (.inl (e.hand:Int)) (.int b)),.lst (as++[Am e b])]) (Dp (d:=.non) (D9 (x:=.ref (Z.length+1)) (ds:=[Am e b]) (w6:=Z++[.dK (Cy L (.inl (e.hand:Int)) (.int b)),.lst as]) (w9:=Z++[.dK (Cy L (.inl (e.hand:Int)) (.int b)),.lst as]) (x8:=Z++[.dK (Cy L (.inl (e.hand:Int)) (.int b)),.lst as]) rfl (BJ g2b) (pc (Tj eo rfl rfl rfl (H9 g2a (by rw[D4,if_pos rfl]))) rfl) ?_)) (Dh (w6:=Z++[.dK (Cy L (.inl (e.hand:Int)) (.int b)),.lst (as++[Am e b])]) ((te _ _ rfl).trans (by rw[hb];rfl)) rfl)))))
   ·have:=Er (B:=[some (mkK kd sz bg ns),some (.lst ev),some (.lst (ns.map D.str)),some (.ref Z.length),some (.ref (Z.length+1)),some (.int b),some (.int k),some (evD ns e),some (.int e.hand)]) (Z:=Z++[.dK L,.lst as]) (n:=Z.length) (mo:=AA 3) (mi:=AA 8) (mv:=AA 5) (v:=.int b) (k:=(e.hand:Int)) rfl rfl rfl g2a (by omega);rw[s2a] at this;exact this
   ·rw[CN g2b (by omega),s2b]
  |false=>
   have dg1:=dg.drop e.hand;rw[hb] at w1 w2;obtain⟨g,hg⟩:∃g:Int,CW L (.inl (e.hand:Int))=some (.int g):=by
    rcases dg e.hand with ⟨z1,z2⟩|⟨g,z1,z2⟩
    ·rw[w1] at z2;cases z2
    ·exact⟨g,z1⟩
   obtain⟨gs,L',b',o6',o7',o8',hl,hgs,go⟩:=LW N (ev:=ev) es (k+1) (Et L (.inl (e.hand:Int))) (λh=>if h=e.hand then false else G h) (as++[Am e g]) b c (some (.int k)) (some (evD ns e)) (some (.int e.hand)) (λx hx=>ok x (by simp[hx])) w2 dg1 (λh g z=>by
    rw[Lg] at z;by_cases y:(Sum.inl (h:Int):Key)=.inl (e.hand:Int)
    ·rw[if_pos y] at z;cases z
    ·rw[if_neg y] at z;exact dc h g z) (by have:=TB L (.inl (e.hand:Int));omega) (by simp;omega)
   refine⟨g::gs,L',b',o6',o7',o8',by simp[hl],by rw[hgs,dc _ _ hg,gs_end hb],?_⟩;have ez:as++List.map (λp:Ev×Int=>Am p.1 p.2) ((e,g)::es.zip gs)=as++[Am e g]++(es.zip gs).map (λp=>Am p.1 p.2):=by simp
   rw[List.zip_cons_cons,ez];refine AV (x:=.tup [.int k,evD ns e]) (x3:=[some (mkK kd sz bg ns),some (.lst ev),some (.lst (ns.map D.str)),some (.ref Z.length),some (.ref (Z.length+1)),some (.int b),some (.int k),some (evD ns e),o8]) (w6:=Z++[.dK L,.lst as]) rfl ?_ go;refine AX (t1 _ _ rfl rfl rfl) (AX (t2 _ _ rfl rfl) (AX (t3 _ _ L rfl rfl rfl g2a dg) (AX (x3:=[some (mkK kd sz bg ns),some (.lst ev),some (.lst (ns.map D.str)),some (.ref Z.length),some (.ref (Z.length+1)),some (.int b),some (.int k),some (evD ns e),some (.int e.hand)]) (w6:=Z++[.dK L,.lst as]) (Dh (w6:=Z++[.dK L,.lst as]) (Aa ((tb _ _ rfl).trans (by rw[hb]))) rfl) (AX (w6:=Z++[.dK L,.lst (as++[Am e g])]) (Dp (d:=.non) (D9 (x:=.ref (Z.length+1)) (ds:=[Am e g]) (w6:=Z++[.dK L,.lst as]) (w9:=Z++[.dK L,.lst as]) (x8:=Z++[.dK L,.lst as]) rfl (BJ g2b) (pc (Tj eo rfl rfl rfl (H9 g2a hg)) rfl) ?_)) (Dg (w6:=Z++[.dK L,.lst (as++[Am e g])]) ((te _ _ rfl).trans (by rw[hb];rfl)) (Dp (d:=.int g) ?_))))))
   ·rw[CN g2b (by omega),s2b]
   ·have:=VZ (B:=[some (mkK kd sz bg ns),some (.lst ev),some (.lst (ns.map D.str)),some (.ref Z.length),some (.ref (Z.length+1)),some (.int b),some (.int k),some (evD ns e),some (.int e.hand)]) (Z:=Z++[.dK L,.lst (as++[Am e g])]) (n:=Z.length) (mo:=AA 3) (mi:=AA 8) (k:=(e.hand:Int)) rfl rfl g2a hg;rw[s2a] at this;exact this
theorem NQ(h:S[0]?=some (some (mkK kd sz bg ns)))(hl:ns.length<=1000):Cd 1 [] (DO (mOp AJ (AA 0) (mC (.int 4)))) (AO 0) En (mOp AJ (AA 0) (mC (.int 0))) Bn S Z=some (.lst (ns.map D.str),Z):=by
 have hz:=A9;refine Bq (ds:=ns.map hdD) (es:=ns.map D.str) (E8 (po (x:=mkK kd sz bg ns) (y:=.int 4) (A1 h) rfl rfl)) (by rw[AAF];omega) ?_ (A7 (by rw[AAF];omega));have:=Ct (Z:=Z) (mc:=En) (me:=mOp AJ (AA 0) (mC (.int 0))) (u5:=[none]) (f:=hdD) (F:=D.str) (p:=λ_=>true) (xs:=ns) (ys:=[]) (λ_ _=>rfl) (λt _ _=>po (x:=hdD t) (y:=.int 0) rfl rfl rfl);rw[Bk,List.nil_append] at this;exact this
theorem v_actsX(N:Ns ns){es:List Ev}(ok:∀e∈es,e.Ok ns sz)(wf:wfG (λ_=>false) es)(hl:es.length<=100):∃gs:List Int,gs.length=es.length/\gs=C0 0 (λ_=>0) es/\Ai [mkK kd sz bg ns,.lst (es.map (evD ns))] Z=some (.lst ((es.zip gs).map λp=>Am p.1 p.2),Z):=by
 have hz:=A9;have hhi:=N.hi;obtain⟨gs,L',b',o6,o7,o8,hgs,hgx,go⟩:=LW (Z:=Z) (kd:=kd) (sz:=sz) (bg:=bg) N (ev:=es.map (evD ns)) es 0 [] (λ_=>false) [] 0 (λ_=>0) none none none ok wf (λh=>.inl ⟨rfl,rfl⟩) (λh g z=>by cases z) (by simp;omega) (by simp;omega);refine⟨gs,hgs,hgx,?_⟩;rw[eq_acts];refine KN (k:=Z.length+1) (x6:=[some (mkK kd sz bg ns),some (.lst (es.map (evD ns))),some (.lst (ns.map D.str)),some (.ref Z.length),some (.ref (Z.length+1)),some (.int b'),o6,o7,o8]) (g:=[.dK L',.lst ((es.zip gs).map λp=>Am p.1 p.2)]) ?_ rfl (by omega) g2b (BO (λp=>Ym p) _);rw[List.nil_append] at go;refine AX (piF (HV (b:=true) (Aa (pd (ds:=[.lst (es.map (evD ns)),.ty "list"]) rfl ?_))) rfl) (AX (x3:=[some (mkK kd sz bg ns),some (.lst (es.map (evD ns))),some (.lst (ns.map D.str)),none,none,none,none,none,none]) (pa (NQ rfl (by omega)) rfl) (AX (x3:=[some (mkK kd sz bg ns),some (.lst (es.map (evD ns))),some (.lst (ns.map D.str)),some (.ref Z.length),none,none,none,none,none]) (w6:=Z++[.dK []]) rfl (AX (x3:=[some (mkK kd sz bg ns),some (.lst (es.map (evD ns))),some (.lst (ns.map D.str)),some (.ref Z.length),some (.ref (Z.length+1)),none,none,none,none]) (w6:=Z++[.dK [],.lst []]) ?_ (AX (x3:=[some (mkK kd sz bg ns),some (.lst (es.map (evD ns))),some (.lst (ns.map D.str)),some (.ref Z.length),some (.ref (Z.length+1)),some (.int 0),none,none,none]) (w6:=Z++[.dK [],.lst []]) rfl (AX (EK (ds:=B9 0 (es.map (evD ns))) (w6:=Z++[.dK [],.lst []]) rfl go) (De (w6:=Z++[.dK L',.lst ((es.zip gs).map λp=>Am p.1 p.2)]) rfl))))))
 ·show (DL "list" "list").map (λb=>(D.bl b,Z))=_;rw[show DL "list" "list" = some true from by decide];rfl
 ·refine CZ (d:=.ref (Z.length+1)) (w6:=Z++[.dK [],.lst []]) (B8 (ds:=[]) (w6:=Z++[.dK []]) rfl ?_) rfl;show DJ [] (Z++[.dK []])=_;unfold DJ;rw[AK (show lim ([]:List D).length (Z++[.dK []])=some ((),Z++[.dK []]) from by unfold lim;rw[if_pos (by simp)])];simp
end
end K16
set_option maxHeartbeats 2000000
namespace Xt
open PySem PySem.Spec PyProof.Rows Sem L2 Ht
section
variable{s:Shared}
set_option hygiene false in
end
end Xt
set_option maxHeartbeats 2000000
set_option maxHeartbeats 2000000
set_option maxHeartbeats 2000000
set_option maxHeartbeats 2000000
namespace Mi
open PySem L2
theorem Qk(h:0<=j/\j<=1000000/\i.natAbs<2 ^ 64)(q:QD (.int (i ^ j.toNat)) Z):WP (FN (.int i) (.int j)) Z QD:=by
 refine wp_of (a:=.int (i ^ j.toNat)) (Z':=Z) ?_ q;exact if_pos h
theorem Wy(I:Nat->Sl->Mh->Prop)(step:∀(j:Nat) B Z,j<m->I j B Z->WP (bf (.int (j:Int)) B) Z λx3 w6=>WP (m1 x3) w6 (J2 (I (j+1)) QS))(last:∀B Z,I m B Z->QS (.next,B) Z)(h:I 0 B Z):WP (B1 bf m1 ((List.range m).map λ(i:Nat)=>D.int (i:Int)) B) Z QS:=by
 refine II (I:=λrest B Z=>∃j,j<=m/\rest=(List.range' j (m-j)).map (λ(i:Nat)=>D.int (i:Int))/\I j B Z) ?_ ?_ ⟨0,AAk _,by rw[Nat.sub_zero,←List.range_eq_range'],h⟩
 ·rintro x xs B Z ⟨j,hj,hr,hI⟩;have hlt:j<m:=by
   rcases Nat.lt_or_ge j m with z|z
   ·exact z
   ·rw[show m-j=0 by omega] at hr;cases hr
  rw[show m-j=(m-(j+1))+1 by omega,List.range'_succ,AAW] at hr;obtain⟨e3,e4⟩:=List.cons.inj hr;subst e3;refine AT (step j B Z hlt hI) λx3 w6 z=>AT z λr w9 z2=>?_;obtain⟨fl,x6⟩:=r;cases fl
  ·exact⟨j+1,hlt,e4,z2⟩
  ·exact z2
  ·exact⟨j+1,hlt,e4,z2⟩
  ·exact z2
  ·exact z2
 ·rintro B Z ⟨j,hj,hr,hI⟩;have hj':j=m:=by
   have:=congrArg List.length hr;simp at this;omega
  subst hj';exact last B Z hI
section
variable{B:Sl}{Z w6:Mh}{d x y:D}{ma mb:Sl->M D}{QD:D->Mh->Prop}{QB:Bool->Mh->Prop}{i j:Int}
theorem Ty{x y:Str}(h1:PyData.strOk x=true)(h2:PyData.strOk y=true)(h:(x==y)=true)(q:QD (.bl true) Z):WP (Ah (.str x) (.str y)) Z QD:=Qo h1 h2 (by rw[h];exact q)
theorem Tz{x y:Str}(h1:PyData.strOk x=true)(h2:PyData.strOk y=true)(h:(x==y)=false)(q:QD (.bl false) Z):WP (Ah (.str x) (.str y)) Z QD:=Qo h1 h2 (by rw[h];exact q)
theorem Tu(h:i<j)(q:QD (.bl true) Z):WP (EF (.int i) (.int j)) Z QD:=Qm (by rw[AAO h];exact q)
theorem Tv(h:¬i<j)(q:QD (.bl false) Z):WP (EF (.int i) (.int j)) Z QD:=Qm (by rw[AAN h];exact q)
theorem Qe(q:QD (.bl false) Z):WP (Ci true .non .non) Z QD:=⟨_,Z,rfl,q⟩
theorem Tx(q:QD (.bl b) Z):WP (Ci b (.int i) .non) Z QD:=by cases b<;>exact⟨_,Z,rfl,q⟩
theorem Qg(h:WP m Z QB):Vp m QB true Z:=h
theorem Qh(h:QB false Z):Vp m QB false Z:=h
theorem Ts(h:QB true Z):orK m QB true Z:=h
theorem Tt(h:WP m Z QB):orK m QB false Z:=h
noncomputable def PQ(m:M D)(QD:D->Mh->Prop):D->Mh->Prop
 | .bl true,Z=>WP m Z QD
 | .bl false,Z=>QD (.bl false) Z
 |_,_=>False
theorem Qf(h:WP (ma B) Z (PQ (mb B) QD)):WP (Ce ma mb B) Z QD:=UK (AT h λd w6 z=>by
 match d,z with
 | .bl true,z=>exact⟨true,rfl,λ_=>z,λe=>(nomatch e)⟩
 | .bl false,z=>exact⟨false,rfl,λe=>(nomatch e),λ_=>z⟩)
theorem PU(h:WP m Z QD):PQ m QD (.bl true) Z:=h
theorem PV(h:QD (.bl false) Z):PQ m QD (.bl false) Z:=h
theorem Qd(h:WP (ma B) Z λd w6=>∃b,d=.bl b/\QD (.bl (!b)) w6):WP (Hf ma B) Z QD:=by
 obtain⟨d,w6,e,b,rfl,q⟩:=h;refine⟨.bl (!b),w6,?_,q⟩;unfold Hf;rw[AK e];rfl
theorem Tw(h:i<=j)(q:QD (.bl true) Z):WP (Gg (.int i) (.int j)) Z QD:=⟨.bl (decide (i<=j)),Z,rfl,by rw[AAO h];exact q⟩
end
end Mi
local macro_rules | `(tactic| wtm_at "f")=>`(tactic| (decide +kernel))
local macro_rules | `(tactic| wtm_at "e")=>`(tactic| first|omega|(focus (simp;done)))
local macro_rules | `(tactic| wtm_at "m")=>`(tactic| first
 |((with_reducible apply Mi.Tz);(wtm_at "f");(wtm_at "f");(wtm_at "f"))|((with_reducible apply Mi.Ty);(wtm_at "f");(wtm_at "f");(wtm_at "f"))|((with_reducible apply Mi.wqa_neT);(wtm_at "f");(wtm_at "f");(wtm_at "f"))|((with_reducible apply Mi.wqa_neF);(wtm_at "f");(wtm_at "f");(wtm_at "f"))
 |((with_reducible apply Mi.wqa_eqIT);(wtm_at "e"))|((with_reducible apply Mi.wqa_eqIF);(wtm_at "e"))|((with_reducible apply Mi.wqa_neIT);(wtm_at "e"))|((with_reducible apply Mi.wqa_neIF);(wtm_at "e"))|((with_reducible apply Mi.Tu);(wtm_at "e"))|((with_reducible apply Mi.Tv);(wtm_at "e"))|((with_reducible apply Mi.wqa_gtT);(wtm_at "e"))|((with_reducible apply Mi.wqa_gtF);(wtm_at "e"))|((with_reducible apply Mi.wqa_geT);(wtm_at "e"))|((with_reducible apply Mi.wqa_geF);(wtm_at "e"))|((with_reducible apply Mi.Tw);(wtm_at "e"))
 |(with_reducible apply Mi.wqa_isNf)|(with_reducible apply Mi.Qe)|(with_reducible apply Mi.Tx)|(with_reducible apply Mi.wqa_isP)|(with_reducible apply Mi.Qg)|(with_reducible apply Mi.Qh)|(with_reducible apply Mi.Ts)|(with_reducible apply Mi.Tt)|(with_reducible apply Mi.wqa_mif)|(with_reducible apply Mi.wqa_mifT)|(with_reducible apply Mi.wqa_mifF)|(with_reducible apply Mi.Qf)|(with_reducible apply Mi.PU)|(with_reducible apply Mi.PV)|(with_reducible apply Mi.wqa_orV)|(with_reducible apply Mi.wqa_orVT)|(with_reducible apply Mi.wqa_orVF)|(with_reducible apply Mi.wqa_chain)
 |wtm_at "o")
namespace K15
open Nk Wb
open K13 (Ev Ev.beg Ev.hand Ev.val wfG)
noncomputable def one(e:Ev)(x:Cs):Option Cs:=match e with
 | .wb v=>some (QW v x)
 | .we=>MV x
 | .rb r=>some (QX r x)
 | .re r v=>MW r v x
end K15
namespace K15
open PySem Nk Wb Ht
open K13 (Ev Ev.beg Ev.hand Ev.val wfG Ns wf_app gA G0)
noncomputable def wz:List Ev->List Int
 |[]=>[]
 | .wb v::es=>v::wz es
 |_::es=>wz es
theorem mem_wz:∀{es:List Ev},v∈wz es↔Ev.wb v∈es
 |[]=>by simp[wz]
 |e::es=>by
  have ih:=mem_wz (v:=v) (es:=es);cases e<;>simp[wz,ih]
theorem wz_few:∀{es:List Ev} {G:Nat->Bool},wfG G es->2 * (wz es).length<=es.length+(if G 0 then 0 else 1)
 |[],G,_=>by simp[wz]
 |e::es,G,h=>by
  obtain⟨h1,h2⟩:=h;have ih:=wz_few h2;cases e with
  |wb v=>
   have h1:G 0=false:=h1;have ih:2 * (wz es).length<=es.length+0:=ih;rw[h1];show 2 * (v::wz es).length<=(_::es).length+1;rw[AAH,AAH];omega
  |we=>
   have h1:G 0=true:=h1;have ih:2 * (wz es).length<=es.length+1:=ih;rw[h1];show 2 * (wz es).length<=(_::es).length+0;rw[AAH];omega
  |rb r=>
   have ih:2 * (wz es).length<=es.length+(if G 0 then 0 else 1):=ih;show 2 * (wz es).length<=(_::es).length+_;rw[AAH];omega
  |re r v=>
   have ih:2 * (wz es).length<=es.length+(if G 0 then 0 else 1):=ih;show 2 * (wz es).length<=(_::es).length+_;rw[AAH];omega
section
theorem pow_le{a b:Nat}(h:a<=b):∀k,a ^ k<=b ^ k
 |0=>AAE _
 |k+1=>by rw[Nat.pow_succ,Nat.pow_succ];exact Nat.mul_le_mul (pow_le h k) h
end
end K15
namespace K93
open Nk Wb
open K13 (Ev Ev.beg Ev.hand Ev.val wfG)
open K15 (one)
noncomputable def upd{α:Type}(f:Nat->α)(a:Nat)(x:α):Nat->α:=λi=>if i=a then x else f i
theorem upd_self:upd f a x a=x:=if_pos rfl
theorem upd_ne(h:b≠a):upd f a x b=f b:=if_neg h
structure Tk where
 n:Nat
 op:Nat->Option Nat
 wv:Nat->Option (Option Int)
 fn:Nat->Option (Nat×Int)
noncomputable def Tk.ends(T:Tk)(h:Nat)(v:Int):Nat->Option (Nat×Int):=match T.op h with
 |some b=>upd T.fn b (some (T.n,v))
 |none=>T.fn
noncomputable def Tk.step(T:Tk):Ev->Tk
 | .wb v=>⟨T.n+1,upd T.op 0 (some T.n),upd T.wv T.n (some (some v)),T.fn⟩
 | .we=>⟨T.n+1,upd T.op 0 none,T.wv,T.ends 0 (-1)⟩
 | .rb r=>⟨T.n+1,upd T.op (r+1) (some T.n),upd T.wv T.n (some none),T.fn⟩
 | .re r v=>⟨T.n+1,upd T.op (r+1) none,T.wv,T.ends (r+1) v⟩
noncomputable def T0:Tk:=⟨0,λ_=>none,λ_=>none,λ_=>none⟩
structure Tk.Ok(T:Tk):Prop where
 lt:∀b,T.wv b≠none->b<T.n
 op:∀h b,T.op h=some b->T.fn b=none/\((h=0/\∃v,0<=v/\T.wv b=some (some v))∨(0<h/\T.wv b=some none))
 inj:∀h k b,T.op h=some b->T.op k=some b->h=k
 fn:∀b p v,T.fn b=some (p,v)->p<T.n/\T.wv b≠none
 go:∀b,T.wv b≠none->T.fn b=none->∃h,T.op h=some b
 pos:∀b v,T.wv b=some (some v)->0<=v
theorem ok0:T0.Ok:=⟨λ_ h=>absurd rfl h,(λ_ _ h=>by cases h),(λ_ _ _ h=>by cases h),(λ_ _ _ h=>by cases h),(λ_ h=>absurd rfl h),(λ_ _ h=>by cases h)⟩
def Bs(G:Nat->Bool)(T:Tk):Prop:=∀h,G h=(T.op h).isSome
theorem SC{T:Tk}(o:T.Ok)(hw:T.op h=none)(k:(h=0/\∃v,0<=v/\w=some v)∨(0<h/\w=none)):Tk.Ok ⟨T.n+1,upd T.op h (some T.n),upd T.wv T.n (some w),T.fn⟩ where
 lt:=λb z=>by
  have z:upd T.wv T.n (some w) b≠none:=z;show b<T.n+1;by_cases e:b=T.n
  ·omega
  ·rw[upd_ne e] at z;have:=o.lt b z;omega
 op:=λj b z=>by
  have z:upd T.op h (some T.n) j=some b:=z;show T.fn b=none/\((j=0/\∃v,0<=v/\upd T.wv T.n (some w) b=some (some v))∨(0<j/\upd T.wv T.n (some w) b=some none));by_cases e:j=h
  ·subst e;rw[upd_self] at z;cases z;rw[upd_self];refine⟨?_,?_⟩
   ·cases q:T.fn T.n with
    |none=>rfl
    |some p=>
     have:=o.lt _ (o.fn T.n p.1 p.2 q).2;omega
   ·rcases k with ⟨k1,v,k2,k3⟩|⟨k1,k2⟩
    ·exact .inl ⟨k1,v,k2,by rw[k3]⟩
    ·exact .inr ⟨k1,by rw[k2]⟩
  ·rw[upd_ne e] at z;have q:=o.op j b z;have ne:b≠T.n:=λy=>by
    have:T.wv b≠none:=by
     rcases q.2 with ⟨_,v,_,y⟩|⟨_,y⟩<;>rw[y]<;>exact(λz=>by cases z)
    have:=o.lt b this;omega
   rw[upd_ne ne];exact q
 inj:=λj k b y z=>by
  have old:∀i,T.op i≠some T.n:=λi y=>by
   have q:=(o.op i _ y).2;have:T.wv T.n≠none:=by
    rcases q with ⟨_,v,_,y⟩|⟨_,y⟩<;>rw[y]<;>exact(λz=>by cases z)
   have:=o.lt _ this;omega
  have y:upd T.op h (some T.n) j=some b:=y;have z:upd T.op h (some T.n) k=some b:=z;by_cases e1:j=h
  ·by_cases e2:k=h
   ·rw[e1,e2]
   ·rw[e1,upd_self] at y;rw[upd_ne e2] at z;cases y;exact absurd z (old k)
  ·by_cases e2:k=h
   ·rw[e2,upd_self] at z;rw[upd_ne e1] at y;cases z;exact absurd y (old j)
   ·rw[upd_ne e1] at y;rw[upd_ne e2] at z;exact o.inj j k b y z
 fn:=λb p v z=>by
  obtain⟨a1,a2⟩:=o.fn b p v z;refine⟨by show p<T.n+1;omega,?_⟩;show upd T.wv T.n (some w) b≠none;have:=o.lt b a2;rw[upd_ne (by omega)];exact a2
 go:=λb y z=>by
  have y:upd T.wv T.n (some w) b≠none:=y;by_cases e:b=T.n
  ·exact⟨h,by show upd T.op h (some T.n) h=_;rw[upd_self,e]⟩
  ·rw[upd_ne e] at y;obtain⟨j,q⟩:=o.go b y z;have ne:j≠h:=λe=>by rw[e,hw] at q;cases q
   exact⟨j,by show upd T.op h (some T.n) j=_;rw[upd_ne ne];exact q⟩
 pos:=λb v z=>by
  have z:upd T.wv T.n (some w) b=some (some v):=z;by_cases e:b=T.n
  ·rw[e,upd_self] at z;cases z;rcases k with ⟨_,u,k2,k3⟩|⟨_,k3⟩
   ·cases k3;exact k2
   ·cases k3
  ·rw[upd_ne e] at z;exact o.pos b v z
theorem FI{T:Tk}(hb:T.op h=some b):T.ends h v=upd T.fn b (some (T.n,v)):=by unfold Tk.ends;rw[hb]
theorem SB{T:Tk}(o:T.Ok)(hb:T.op h=some b):Tk.Ok ⟨T.n+1,upd T.op h none,T.wv,upd T.fn b (some (T.n,u))⟩ where
 lt:=λc z=>by have:=o.lt c z;show c<T.n+1;omega
 op:=λj c z=>by
  have z:upd T.op h none j=some c:=z;by_cases e:j=h
  ·rw[e,upd_self] at z;cases z
  ·rw[upd_ne e] at z;have q:=o.op j c z;have ne:c≠b:=λy=>e (o.inj j h c z (by rw[y];exact hb));refine⟨?_,q.2⟩;show upd T.fn b _ c=none;rw[upd_ne ne];exact q.1
 inj:=λj k c y z=>by
  have y:upd T.op h none j=some c:=y;have z:upd T.op h none k=some c:=z;by_cases e1:j=h
  ·rw[e1,upd_self] at y;cases y
  ·by_cases e2:k=h
   ·rw[e2,upd_self] at z;cases z
   ·rw[upd_ne e1] at y;rw[upd_ne e2] at z;exact o.inj j k c y z
 fn:=λc p v z=>by
  have z:upd T.fn b (some (T.n,u)) c=some (p,v):=z;show p<T.n+1/\_;by_cases e:c=b
  ·rw[e,upd_self] at z;cases z;refine⟨Nat.lt_succ_self _,?_⟩;show T.wv c≠none;rw[e];rcases(o.op h b hb).2 with ⟨_,v,_,y⟩|⟨_,y⟩<;>rw[y]<;>exact(λz=>by cases z)
  ·rw[upd_ne e] at z;have:=o.fn c p v z;exact⟨by omega,this.2⟩
 go:=λc y z=>by
  have z:upd T.fn b (some (T.n,u)) c=none:=z;by_cases e:c=b
  ·rw[e,upd_self] at z;cases z
  ·rw[upd_ne e] at z;obtain⟨j,q⟩:=o.go c y z;have ne:j≠h:=λy=>e (by rw[y,hb] at q;cases q;rfl);exact⟨j,by show upd T.op h none j=_;rw[upd_ne ne];exact q⟩
 pos:=o.pos
theorem Fw{T:Tk}(o:T.Ok)(bs:Bs G T)(hw:G e.hand=!e.beg)(hv:∀v,e.val=some v->0<=v):(T.step e).Ok/\Bs (λx=>if x=e.hand then e.beg else G x) (T.step e):=by
 have ob:∀{h},G h=false->T.op h=none:=λ{h} z=>by
  have:=bs h;rw[z] at this;cases q:T.op h with
  |none=>rfl
  |some b=>rw[q] at this;cases this
 have oe:∀{h},G h=true->∃b,T.op h=some b:=λ{h} z=>by
  have:=bs h;rw[z] at this;cases q:T.op h with
  |none=>rw[q] at this;cases this
  |some b=>exact⟨b,rfl⟩
 have bu:∀(h:Nat) (x:Option Nat) (c:Bool),x.isSome=c->∀j,(if j=h then c else G j)=(upd T.op h x j).isSome:=λh x c hc j=>by
  by_cases e:j=h
  ·rw[if_pos e,e,upd_self,hc]
  ·rw[if_neg e,upd_ne e];exact bs j
 cases e with
 |wb v=>exact⟨SC o (ob hw) (.inl ⟨rfl,v,hv v rfl,rfl⟩),bu 0 _ _ rfl⟩
 |rb r=>exact⟨SC o (ob hw) (.inr ⟨Nat.succ_pos r,rfl⟩),bu (r+1) _ _ rfl⟩
 |we=>
  obtain⟨b,hb⟩:∃b,T.op 0=some b:=oe hw;refine⟨?_,bu 0 _ _ rfl⟩;show Tk.Ok ⟨_,_,_,T.ends 0 (-1)⟩;rw[FI hb];exact SB o hb
 |re r v=>
  obtain⟨b,hb⟩:∃b,T.op (r+1)=some b:=oe hw;refine⟨?_,bu (r+1) _ _ rfl⟩;show Tk.Ok ⟨_,_,_,T.ends (r+1) v⟩;rw[FI hb];exact SB o hb
variable{T:Tk}{bg:Int}{m:Nat}{o q:Od}{x y:Cs}
variable{T:Tk}{q:Od}
theorem R9(bs:Bs G T)(z:G h=true):∃b,T.op h=some b:=by
 have:=bs h;rw[z] at this;cases q:T.op h with
 |none=>rw[q] at this;cases this
 |some b=>exact⟨b,rfl⟩
noncomputable def run(T:Tk)(es:List Ev):Tk:=es.foldl Tk.step T
end K93
namespace K13
open PySem L2 Mi Ht
section
variable{Z:Mh}{ds es:List D}{n:Nat}
variable{sz:Int}{ns:List Str}
theorem WE(h1:PyData.strOk x=true)(h2:PyData.strOk y=true):FE (.str x) (.str y) Z=some (.bl (!(x==y)),Z):=by
 show (if SeqAt.shaped (.str x)=true/\SeqAt.shaped (.str y)=true then some (D.bl (!(x==y)),Z) else none)=_;rw[if_pos ⟨FA h1,FA h2⟩]
noncomputable abbrev bD(ns:List Str)(bs:List Nat):List D:=(bs.map (nm ns)).map D.str
theorem SN(N:Ns ns){bs:List Nat}(hb:∀h∈bs,h<ns.length)(hh:h<ns.length):nm ns h∈bs.map (nm ns)↔h∈bs:=by
 constructor
 ·intro z;obtain⟨k,hk,e⟩:=AAL.mp z;exact N.inj (hb k hk) hh e ▸ hk
 ·exact λz=>AAL.mpr ⟨h,z,rfl⟩
theorem Sd(N:Ns ns){bs:List Nat}(hb:∀h∈bs,h<ns.length)(hh:h<ns.length)(hn:Z[n]?=some (.lst (bD ns bs))):FR false (.str (nm ns h)) (.ref n) Z=some (.bl (decide (h∈bs)),Z):=by
 show Gk false (.str (nm ns h)) (.ref n) Z=_;rw[Sb (xs:=bs.map (nm ns)) (show B4 (.ref n) Z=some (bD ns bs,Z) from by show (match Z[n]? with|some (.lst ds)=>some (ds,Z)|_=>none)=_;rw[hn])];have:decide (nm ns h∈bs.map (nm ns))=decide (h∈bs):=by
  by_cases z:h∈bs
  ·rw[AAO z,AAO ((SN N hb hh).mpr z)]
  ·rw[AAN z,AAN λy=>z ((SN N hb hh).mp y)]
 rw[this];rfl
theorem KI(N:Ns ns):∀{bs:List Nat} {h:Nat},(∀k∈bs,k<ns.length)->h<ns.length->h∈bs->∃j,((bs.map (nm ns)).map V.str).findIdx? (λz=>eqV z (V.str (nm ns h)))=some j/\bs.eraseIdx j=bs.erase h
 |[],h,_,_,hm=>by cases hm
 |k::bs,h,hb,hh,hm=>by
  rw[AAW,AAW,List.findIdx?_cons];have ev:eqV (V.str (nm ns k)) (V.str (nm ns h))=(k==h):=by
   show (nm ns k==nm ns h)=_;exact NO N (hb k (by simp)) hh
  rw[ev];by_cases e:k=h
  ·subst e;exact⟨0,by simp,by simp⟩
  ·have hm':h∈bs:=(AAI.mp hm).resolve_left λz=>e z.symm;obtain⟨j,h1,h2⟩:=KI N (λx hx=>hb x (by simp[hx])) hh hm';refine⟨j+1,?_,?_⟩
   ·rw[AAf.mpr e,h1];rfl
   ·rw[List.eraseIdx_cons_succ,h2,List.erase_cons_tail (by simpa using e)]
theorem WD(N:Ns ns)(hb:∀h∈bs,h<ns.length)(hh:h<ns.length)(hm:h∈bs)(hn:Z[n]?=some (.lst (bD ns bs))):RX (.ref n) [.str (nm ns h)] Z=some (.non,Z.set n (.lst (bD ns (bs.erase h)))):=by
 obtain⟨j,h1,h2⟩:=KI N hb hh hm;show EC n _ Z=_;unfold EC;rw[hn];have e1:Dd (bD ns bs)=some ((bs.map (nm ns)).map V.str):=Fy _;show Option.map _ (match Gp (.str (nm ns h)),Dd (bD ns bs) with
  |some y,some xs=>(xs.findIdx? λz=>eqV z y).map λj=>(D.non,(bD ns bs).eraseIdx j)
  |_,_=>none)=_
 rw[e1];show Option.map _ ((((bs.map (nm ns)).map V.str).findIdx? λz=>eqV z (V.str (nm ns h))).map λj=>(D.non,(bD ns bs).eraseIdx j))=_;rw[h1];show some (D.non,Z.set n (.lst ((bD ns bs).eraseIdx j)))=_;have e2:(bD ns bs).eraseIdx j=bD ns (bs.erase h):=by
  rw[←h2];have em:∀{α β:Type} (f:α->β) (l:List α) (j:Nat),(l.map f).eraseIdx j=(l.eraseIdx j).map f:=by
   intro α β f l
   induction l with
   |nil=>intro j;simp
   |cons a l ih=>
    intro j;cases j with
    |zero=>rfl
    |succ j=>rw[AAW,List.eraseIdx_cons_succ,List.eraseIdx_cons_succ,AAW,ih]
  show ((bs.map (nm ns)).map D.str).eraseIdx j=_;rw[em,em]
 rw[e2]
structure Bsy(ns:List Str)(sz:Int)(es:List Ev)(bs:List Nat)(ws:List Int):Prop where
 wf:wfG G0 es
 ok:∀e∈es,e.Ok ns sz
 lt:∀h∈bs,h<ns.length
 nd:bs.Nodup
 mem:∀h,decide (h∈bs)=gA G0 es h
 ws:∀x∈ws,0<=x/\x<sz
end
section
variable{Z:Mh}{ds:List D}
variable{ns:List Str}
theorem WU(e:Ev):Cl k (evD ns e):=by cases e<;>simp[evD,Ev.val,Cl,ClL]
noncomputable def evP(ns:List Str)(e:Ev):PyData:=.tuple (PyData.str (bS e.beg)::.str (nm ns e.hand)::(match e.val with|some v=>[.int v]|none=>[]))
theorem HH(N:Ns ns):∀{es:List Ev},(∀e∈es,e.hand<ns.length)->DD Z (es.map (evD ns))=some (es.map (evP ns))/\PyData.canLayAll0 (es.map (evP ns))=true/\PyData.depthAll (es.map (evP ns))<=1/\PyData.eqvAll (es.map (evP ns)) (es.map (evP ns))=true
 |[],_=>⟨by unfold DD;rfl,rfl,AAk _,rfl⟩
 |e::es,h=>by
  obtain⟨a1,a2,a3,a4⟩:=HH N (es:=es) λx hx=>h x (by simp[hx]);have hb:=JV e.beg;have hn:=N.nok (h e (by simp));have e1:toP Z (evD ns e)=some (evP ns e):=by cases e<;>rfl
  have e2:PyData.canLay0 (evP ns e)=true:=by
   cases e with
   |wb v=>show (PyData.strOk (bS true)&&(PyData.strOk (nm ns 0)&&(true&&true)))=true;rw[show PyData.strOk (bS true)=true from JV _,show PyData.strOk (nm ns 0)=true from hn];rfl
   |we=>show (PyData.strOk (bS false)&&(PyData.strOk (nm ns 0)&&true))=true;rw[show PyData.strOk (bS false)=true from JV _,show PyData.strOk (nm ns 0)=true from hn];rfl
   |rb r=>show (PyData.strOk (bS true)&&(PyData.strOk (nm ns (r+1))&&true))=true;rw[show PyData.strOk (bS true)=true from JV _,show PyData.strOk (nm ns (r+1))=true from hn];rfl
   |re r v=>show (PyData.strOk (bS false)&&(PyData.strOk (nm ns (r+1))&&(true&&true)))=true;rw[show PyData.strOk (bS false)=true from JV _,show PyData.strOk (nm ns (r+1))=true from hn];rfl
  have e3:PyData.depth (evP ns e)=1:=by cases e<;>rfl
  have e4:PyData.eqv (evP ns e) (evP ns e)=true:=by
   cases e with
   |wb v=>show ((bS true==bS true)&&((nm ns 0==nm ns 0)&&((v==v)&&true)))=true;simp
   |we=>show ((bS false==bS false)&&((nm ns 0==nm ns 0)&&true))=true;simp
   |rb r=>show ((bS true==bS true)&&((nm ns (r+1)==nm ns (r+1))&&true))=true;simp
   |re r v=>show ((bS false==bS false)&&((nm ns (r+1)==nm ns (r+1))&&((v==v)&&true)))=true;simp
  refine⟨?_,?_,?_,?_⟩
  ·rw[AAW];unfold DD;rw[e1,a1];rfl
  ·show (PyData.canLay0 (evP ns e)&&PyData.canLayAll0 (es.map (evP ns)))=true;rw[e2,a2];rfl
  ·show max (PyData.depth (evP ns e)) (PyData.depthAll (es.map (evP ns)))<=1;omega
  ·show (PyData.eqv (evP ns e) (evP ns e)&&PyData.eqvAll (es.map (evP ns)) (es.map (evP ns)))=true;rw[e4,a4];rfl
theorem Q0(h:cs.length<=63):∃c:Int,BW [.scr cs,.int 0] Z=some (.int c,Z):=by
 have tl:∀S:Sl,S=[some (.scr cs),some (.int 0)]->AN (mOp EF (AA 1) (AG Bh (AC (AA 0) AL))) S Z=some (decide ((0:Int)<cs.length),Z):=λS hS=>by
  subst hS;refine Aa (po (x:=.int 0) (y:=.int cs.length) rfl (pd (ds:=[.scr cs]) rfl ?_) rfl);show some (D.int (((cs.map D.int).length:Nat):Int),Z)=_;rw[AAF]
 cases cs with
 |nil=>
  refine⟨0,Au (g:=[]) (x6:=[some (.scr []),some (.int 0)]) ?_ rfl (Bc _ _)⟩;rw[AAa];exact pq (piF (tl _ rfl) rfl) (pr rfl)
 |cons c cs=>
  refine⟨c,Au (g:=[]) (x6:=[some (.scr (c::cs)),some (.int 0)]) ?_ rfl (Bc _ _)⟩;rw[AAa];refine C5 (piT ((tl _ rfl).trans ?_) (pr (po (x:=.scr (c::cs)) (y:=.int 0) rfl rfl ?_)))
  ·rw[AAO (by simp)]
  ·show bnd (B4 (.scr (c::cs))) (λds=>ixD ds 0) Z=_;rw[AK (show B4 (.scr (c::cs)) Z=some ((c::cs).map D.int,Z) from rfl)];unfold ixD;rw[show atI ((c::cs).map D.int) 0=some (.int c) from Bj (r:=0) rfl];rfl
end
end K13
namespace K93
open PySem L2 Mi Nk Wb Ht
open K13 (po pc pd p2 pq pa piT piF pr AV CI Bl A7 Bj A9 Bc)
noncomputable def ddD(T:Tk)(b:Nat):D:=.lst [.int b,(match T.fn b with|some (p,_)=>.int p|none=>.non),.str (match T.wv b with|some (some _) => "writes" |_ => "reads"),(match T.wv b with|some (some v)=>.int v|_=>match T.fn b with|some (_,v)=>.int v|none=>.non)]
noncomputable abbrev ksD(ks:List Nat):D:=.lst (ks.map λk:Nat=>D.int k)
section
variable{T:Tk}{Z:Mh}
theorem Yk:AJ (ddD T b) (.int 2) Z=some (.str (match T.wv b with|some (some _) => "writes" |_ => "reads"),Z):=rfl
theorem Yj:AJ (ddD T b) (.int 3) Z=some ((match T.wv b with|some (some v)=>.int v|_=>match T.fn b with|some (_,v)=>.int v|none=>.non),Z):=rfl
end
end K93
namespace K93
open PySem L2 Mi Nk Wb Ht
section
variable{Z:Mh}{d:D}
theorem Ex(e:mb (BR N ds) Z=some ((.rt d,x6),w9))(hl:Nat.beq ds.length ps=true):G1 .all N ps mb ds Z=some (d,w9):=by
 unfold G1;rw[hl];dsimp only;rw[e];rfl
end
open K13 (po pc pd p2 pq pa piT piF pr AV Bl A7 A0 A9 Bq Ct)
section
theorem Kt:∀js:List Nat,PzL (js.map λk:Nat=>D.int k)/\Jh (js.map λk:Nat=>D.int k)<=60
 |[]=>⟨by unfold List.map PzL;trivial,by unfold List.map Jh;omega⟩
 |x::js=>by
  have ih:=Kt js;rw[AAW];exact⟨by unfold PzL;exact⟨by unfold Pz;trivial,ih.1⟩,by unfold Jh;have:dpt (.int (x:Int))=0:=rfl;rw[this];omega⟩
end
end K93
namespace K93
open PySem L2 Mi Nk Wb Ht
section
variable{T:Tk}{f:Nat->Option Nat}{g:Nat->Option (Nat×Int)}{w:Option Int}{b:Nat}
def bl(T:Tk):List Nat:=(List.range T.n).filter λb=>(T.wv b).isSome
theorem bl_lt(h:b∈bl T):b<T.n:=List.mem_range.mp (List.mem_filter.mp h).1
theorem mem_bl(ok:T.Ok):b∈bl T↔T.wv b≠none:=by
 unfold bl;rw[List.mem_filter,List.mem_range,Option.isSome_iff_ne_none];exact⟨λz=>z.2,λz=>⟨ok.lt b z,z⟩⟩
theorem GN:bl ⟨T.n+1,f,upd T.wv T.n (some w),g⟩=bl T++[T.n]:=by
 unfold bl;rw[List.range_succ,List.filter_append];refine congr (congrArg _ ?_) ?_
 ·refine List.filter_congr λx hx=>?_;show (upd T.wv T.n (some w) x).isSome=_;rw[upd_ne (AAe (List.mem_range.mp hx))]
 ·rw[List.filter_cons_of_pos (by show (upd T.wv T.n (some w) T.n).isSome=true;rw[upd_self];rfl)];rfl
theorem Fq(ok:T.Ok):bl ⟨T.n+1,f,T.wv,g⟩=bl T:=by
 unfold bl;have n0:T.wv T.n=none:=Classical.byContradiction λz=>AAy _ (ok.lt _ z);rw[List.range_succ,List.filter_append,List.filter_cons_of_neg (by rw[n0];decide)];exact AAa _
theorem bl_nd:(bl T).Nodup:=(List.nodup_range).sublist List.filter_sublist
end
open K13 (Ev Ev.beg Ev.hand Ev.val wfG Ns nm evD bS po pc pd pq pa pr A7 A0 IA Bj A9 D7 Dr BJ CN GA Ix)
noncomputable def ddC(T:Tk)(b:Nat):List D:=[.int b,(match T.fn b with|some (p,_)=>.int p|none=>.non),.str (match T.wv b with|some (some _) => "writes" |_ => "reads"),(match T.wv b with|some (some v)=>.int v|_=>match T.fn b with|some (_,v)=>.int v|none=>.non)]
noncomputable def rfs(n k:Nat):List D:=(List.range k).map λi:Nat=>D.ref (n+2+i)
noncomputable def bxs(T:Tk):List MO:=(bl T).map λb=>MO.lst (ddC T b)
noncomputable abbrev HD(Z:Mh)(T:Tk)(a:List (Key×D)):Mh:=Z++MO.lst (rfs Z.length (bl T).length)::MO.dK a::bxs T
section
variable{T:Tk}{Z:Mh}{x y z:MO}{zs:List MO}{i b n:Nat}{a:List (Key×D)}{ns:List Str}
theorem g_0:(Z++x::y::zs)[Z.length]?=some x:=by rw[AAR (AAE _),AAw];rfl
theorem g_1:(Z++x::y::zs)[Z.length+1]?=some y:=by rw[AAR (by omega),show Z.length+1-Z.length=1 by omega];rfl
theorem g_2:(Z++x::y::zs)[Z.length+2+i]?=zs[i]?:=by rw[AAR (by omega),show Z.length+2+i-Z.length=i+2 by omega];rfl
theorem s_0:(Z++x::y::zs).set Z.length z=Z++z::y::zs:=by rw[AAg _ _ (AAE _),AAw];rfl
theorem s_1:(Z++x::y::zs).set (Z.length+1) z=Z++x::z::zs:=by rw[AAg _ _ (by omega),show Z.length+1-Z.length=1 by omega];rfl
theorem s_2:(Z++x::y::zs).set (Z.length+2+i) z=Z++x::y::zs.set i z:=by rw[AAg _ _ (by omega),show Z.length+2+i-Z.length=i+2 by omega];rfl
theorem ES(h:ds.length<=sizeLine):DJ ds Z=some (.ref Z.length,Z++[.lst ds]):=by
 unfold DJ;rw[AK (show lim ds.length Z=some ((),Z) from by unfold lim;rw[if_pos h])]
theorem NE(h:i<n):(rfs Z.length n)[i]?=some (.ref (Z.length+2+i)):=by
 unfold rfs;rw[AAV,List.getElem?_range h];rfl
theorem Np(h:(bl T)[i]?=some b):(bxs T)[i]?=some (.lst (ddC T b)):=by
 unfold bxs;rw[AAV,h];rfl
theorem LP:(bxs T).length=(bl T).length:=AAF ..
theorem Hr:∀{l:List Nat} {i:Nat},l.Nodup->l[i]?=some b->(∀c,c≠b->g c=f c)->(l.map f).set i (g b)=l.map g
 |[],i,_,h,_=>by cases h
 |c::l,0,nd,h,hg=>by
  have h:c=b:=Option.some.inj h;subst h;show g c::l.map f=g c::l.map g;rw[List.map_congr_left λd hd=>(hg d λz=>(List.nodup_cons.mp nd).1 (z ▸ hd)).symm]
 |c::l,i+1,nd,h,hg=>by
  have h:l[i]?=some b:=h;obtain⟨n1,n2⟩:=List.nodup_cons.mp nd;show f c::(l.map f).set i (g b)=g c::l.map g;rw[Hr n2 h hg,hg c λz=>n1 (z ▸ AAU h)]
theorem VP(h:Z[n]?=some (.dK L))(hv:CW L (.inr k)=some d):D3 (.ref n) (.str k) Z=some (d,Z):=by
 unfold D3;rw[AK (Dr h)];show (CW L (.inr k)).map (λv=>(v,Z))=_;rw[hv];rfl
theorem S6(h1:mv B Z=some (v,Z))(h2:mo B Z=some (.ref n,Z))(h3:mi B Z=some (.str k,Z))(h:Z[n]?=some (.dK L))(hl:L.length<sizeLine):ER mo mi mv B Z=some ((.next,B),Z.set n (.dK (Cy L (.inr k) v))):=by
 unfold ER;rw[AK h1,AK h2,AK h3,AK (Dr h)];show (if L.length<sizeLine then some ((Fl.next,B),Z.set n (.dK (Cy L (.inr k) v))) else none)=_;rw[if_pos hl]
noncomputable abbrev V9:Sl->M D:=AG DJ (AC (AA 4) (AC (mC .non) (AC (mOp AJ (AG Bn (AC (mC (.str "reads")) (AC (mC (.str "writes")) AL))) (AG Nc (AC (mOp Ah (AG Bh (AC (AA 5) AL)) (mC (.int 3))) AL))) (AC (mOp AJ (mOp As (AA 5) (AG Bf (AC (mC .non) AL))) (mC (.int 2))) AL))))
noncomputable abbrev QH:Sl->M (Fl×Sl):=(sIf (AN (mOp Ah (mOp AJ (AA 5) (mC (.int 0))) (mC (.str "begin")))) (AS (ER (AA 3) (mOp AJ (AA 5) (mC (.int 1))) (AG Bh (AC (AA 2) AL)))
  (BI (Aj Cw (AA 2) (AC V9 AL)))) (AS (AW (mOp AJ (AA 2) (mOp D3 (AA 3) (mOp AJ (AA 5) (mC (.int 1))))) (AO 6))
  (AS (AW (AA 4) (F7 (AA 6) (mC (.int 1))))
  (sIf (AN (mOp Ah (AG Bh (AC (AA 5) AL)) (mC (.int 3)))) (AW (mOp AJ (AA 5) (mC (.int 2))) (F7 (AA 6) (mC (.int 3)))) BP))))
noncomputable abbrev sd7(o0 o1:Option D)(n:Nat)(k e o6:Option D):Sl:=[o0,o1,some (.ref n),some (.ref (n+1)),k,e,o6]
variable{o0 o1 o6:Option D}{e:Ev}{M:Mh}
theorem t_beg:AN (mOp Ah (mOp AJ (AA 5) (mC (.int 0))) (mC (.str "begin"))) (sd7 o0 o1 n (some (.int T.n)) (some (evD ns e)) o6) M=some (e.beg,M):=Aa (po (x:=.str (bS e.beg)) (y:=.str "begin") (po (x:=evD ns e) (y:=.int 0) rfl rfl (by cases e<;>rfl)) rfl GA)
theorem Q8:mOp AJ (AA 5) (mC (.int 1)) (sd7 o0 o1 n (some (.int T.n)) (some (evD ns e)) o6) M=some (.str (nm ns e.hand),M):=po (x:=evD ns e) (y:=.int 1) rfl rfl (by cases e<;>rfl)
theorem t_3:mOp Ah (AG Bh (AC (AA 5) AL)) (mC (.int 3)) (sd7 o0 o1 n (some (.int T.n)) (some (evD ns e)) o6) M=some (.bl e.val.isSome,M):=by
 refine po (x:=.int (if e.val.isSome then 3 else 2)) (y:=.int 3) (pd (ds:=[evD ns e]) rfl ?_) rfl ?_
 ·cases e<;>rfl
 ·cases e<;>rfl
noncomputable def dd0(T:Tk):Ev->List D
 | .wb v=>[.int T.n,.non,.str "writes",.int v]
 |_=>[.int T.n,.non,.str "reads",.non]
theorem ZA(be:e.beg=true):V9 (sd7 o0 o1 n (some (.int T.n)) (some (evD ns e)) o6) M=some (.ref M.length,M++[.lst (dd0 T e)]):=by
 have hz:=A9;have a3:mOp AJ (AG Bn (AC (mC (.str "reads")) (AC (mC (.str "writes")) AL))) (AG Nc (AC (mOp Ah (AG Bh (AC (AA 5) AL)) (mC (.int 3))) AL)) (sd7 o0 o1 n (some (.int T.n)) (some (evD ns e)) o6) M=some (.str (if e.val.isSome then "writes" else "reads"),M):=by
  refine po (x:=.lst [.str "reads",.str "writes"]) (y:=.int (if e.val.isSome then 1 else 0)) (pd (ds:=[.str "reads",.str "writes"]) rfl (A7 (by simp;omega))) (pd (ds:=[.bl e.val.isSome]) (pc t_3 rfl) ?_) ?_
  ·cases e.val.isSome<;>rfl
  ·cases e.val.isSome<;>rfl
 have a4:∀{xs:List D} {d:D},evD ns e=.tup xs->xs.length<=3->atI (xs++[.non]) 2=some d->mOp AJ (mOp As (AA 5) (AG Bf (AC (mC .non) AL))) (mC (.int 2)) (sd7 o0 o1 n (some (.int T.n)) (some (evD ns e)) o6) M=some (d,M):=λ{xs d} h1 h2 h3=>
  po (x:=.tup (xs++[.non])) (y:=.int 2) (po (x:=.tup xs) (y:=.tup [.non]) (by rw[h1];rfl) (pd (ds:=[.non]) rfl (A0 (by simp;omega))) (IA (by rw[List.length_singleton];omega))) rfl (Oo h3)
 cases e with
 |wb v=>exact B8 (ds:=dd0 T (.wb v)) (pc rfl (pc rfl (pc a3 (pc (a4 (xs:=[.str "begin",.str (nm ns 0),.int v]) rfl (AAE _) rfl) rfl)))) (ES (by show 4<=_;omega))
 |rb r=>exact B8 (ds:=dd0 T (.rb r)) (pc rfl (pc rfl (pc a3 (pc (a4 (xs:=[.str "begin",.str (nm ns (r+1))]) rfl (by show 2<=3;decide) rfl) rfl)))) (ES (by show 4<=_;omega))
 |we=>cases be
 |re r v=>cases be
theorem YV(ok:T.Ok)(be:e.beg=true):(Z++MO.lst (rfs Z.length (bl T).length++[.ref (Z.length+2+(bl T).length)])::MO.dK a'::(bxs T++[.lst (dd0 T e)]))=HD Z (T.step e) a':=by
 have fin:∀(f:Nat->Option Nat) (w:Option Int),dd0 T e=ddC ⟨T.n+1,f,upd T.wv T.n (some w),T.fn⟩ T.n->T.step e=⟨T.n+1,f,upd T.wv T.n (some w),T.fn⟩->(Z++MO.lst (rfs Z.length (bl T).length++[.ref (Z.length+2+(bl T).length)])::MO.dK a'::(bxs T++[.lst (dd0 T e)]))=HD Z (T.step e) a':=λf w h1 h2=>by
  unfold HD bxs;rw[h2,GN,h1,AAG,List.length_singleton,AAX];refine congrArg (Z++·) (congr (congrArg _ (congrArg MO.lst ?_)) (congrArg _ (congrArg (·++_) (List.map_congr_left λc hc=>congrArg MO.lst ?_))))
  ·unfold rfs;rw[List.range_succ,AAX];rfl
  ·unfold ddC;dsimp only;rw[upd_ne (AAe (bl_lt hc))]
 have n0:T.fn T.n=none:=by
  cases q:T.fn T.n with
  |none=>rfl
  |some p=>exact absurd (ok.lt _ (ok.fn T.n p.1 p.2 q).2) (AAy _)
 cases e with
 |wb v=>exact fin _ (some v) (by unfold ddC dd0;dsimp only;rw[upd_self,n0]) rfl
 |rb r=>exact fin _ none (by unfold ddC dd0;dsimp only;rw[upd_self,n0]) rfl
 |we=>cases be
 |re r v=>cases be
theorem Vb(ok:T.Ok)(be:e.beg=true)(hb:(bl T).length<=900)(ha:a.length<=900):QH (sd7 o0 o1 Z.length (some (.int T.n)) (some (evD ns e)) o6) (HD Z T a)=some ((.next,sd7 o0 o1 Z.length (some (.int T.n)) (some (evD ns e)) o6),HD Z (T.step e) (Cy a (.inr (nm ns e.hand)) (.int (bl T).length))):=by
 have hz:=A9;have hl:(rfs Z.length (bl T).length).length=(bl T).length:=by unfold rfs;rw[AAF,List.length_range]
 rw[←YV ok be];refine Dg (t_beg.trans (by rw[be])) (AX (w6:=HD Z T (Cy a (.inr (nm ns e.hand)) (.int (bl T).length))) (x3:=sd7 o0 o1 Z.length (some (.int T.n)) (some (evD ns e)) o6) ?_ (Dp (d:=.non) (D9 (x:=.ref Z.length) (w6:=HD Z T (Cy a (.inr (nm ns e.hand)) (.int (bl T).length))) (w9:=HD Z T (Cy a (.inr (nm ns e.hand)) (.int (bl T).length))) rfl (BJ g_0) (Es (ZA be) rfl) ?_)))
 ·have:=S6 (B:=sd7 o0 o1 Z.length (some (.int T.n)) (some (evD ns e)) o6) (Z:=HD Z T a) (n:=Z.length+1) (mo:=AA 3) (mi:=mOp AJ (AA 5) (mC (.int 1))) (mv:=AG Bh (AC (AA 2) AL)) (v:=.int (bl T).length) (L:=a) (pd (ds:=[.ref Z.length]) rfl (by rw[Ix g_0,hl])) rfl Q8 g_1 (by omega);rw[s_1] at this;exact this
 ·rw[show (HD Z T (Cy a (.inr (nm ns e.hand)) (.int (bl T).length))).length=Z.length+2+(bl T).length from by unfold HD;rw[AAG,AAH,AAH,LP];omega];unfold HD;rw[AAm];show Cw _ _ (Z++_::_::(bxs T++[.lst (dd0 T e)]))=_;rw[CN g_0 (by omega),s_0]
theorem Va(ok:T.Ok)(be:e.beg=false)(hop:T.op e.hand=some b)(hi:CW a (.inr (nm ns e.hand))=some (.int i))(hbl:(bl T)[i]?=some b):QH (sd7 o0 o1 Z.length (some (.int T.n)) (some (evD ns e)) o6) (HD Z T a)=some ((.next,sd7 o0 o1 Z.length (some (.int T.n)) (some (evD ns e)) (some (.ref (Z.length+2+i)))),HD Z (T.step e) a):=by
 have hlt:i<(bl T).length:=(AAT.mp hbl).1;have hx:∀ds:List D,(Z++MO.lst (rfs Z.length (bl T).length)::MO.dK a::(bxs T).set i (.lst ds))[Z.length+2+i]?=some (.lst ds):=λds=>by rw[g_2,List.getElem?_set_self (by rw[LP];exact hlt)]
 have fin:∀(f:Nat->Option Nat) (v:Int),T.step e=⟨T.n+1,f,T.wv,upd T.fn b (some (T.n,v))⟩->(Z++MO.lst (rfs Z.length (bl T).length)::MO.dK a::(bxs T).set i (.lst (ddC ⟨T.n+1,f,T.wv,upd T.fn b (some (T.n,v))⟩ b)))=HD Z (T.step e) a:=λf v h=>by
  unfold HD bxs;rw[h,Fq ok,Hr (f:=λb=>MO.lst (ddC T b)) (g:=λc=>MO.lst (ddC ⟨T.n+1,f,T.wv,upd T.fn b (some (T.n,v))⟩ c)) bl_nd hbl λc hc=>?_];unfold ddC;dsimp only;rw[upd_ne hc]
 have a6:AW (mOp AJ (AA 2) (mOp D3 (AA 3) (mOp AJ (AA 5) (mC (.int 1))))) (AO 6) (sd7 o0 o1 Z.length (some (.int T.n)) (some (evD ns e)) o6) (HD Z T a)=some ((.next,sd7 o0 o1 Z.length (some (.int T.n)) (some (evD ns e)) (some (.ref (Z.length+2+i)))),HD Z T a):=
  pa (po (x:=.ref Z.length) (y:=.int i) rfl (po (x:=.ref (Z.length+1)) (y:=.str (nm ns e.hand)) rfl Q8 (VP g_1 hi)) (K9 g_0 (Bj (NE hlt)))) rfl
 have a1:AW (AA 4) (F7 (AA 6) (mC (.int 1))) (sd7 o0 o1 Z.length (some (.int T.n)) (some (evD ns e)) (some (.ref (Z.length+2+i)))) (HD Z T a)=some ((.next,sd7 o0 o1 Z.length (some (.int T.n)) (some (evD ns e)) (some (.ref (Z.length+2+i)))),Z++MO.lst (rfs Z.length (bl T).length)::MO.dK a::(bxs T).set i (.lst ((ddC T b).set 1 (.int T.n)))):=by
  refine CZ (d:=.int T.n) (w6:=HD Z T a) rfl (JN (u:=()) (x:=.ref (Z.length+2+i)) (y:=.int 1) (w6:=HD Z T a) (w9:=HD Z T a) rfl rfl ?_);rw[J5 (j:=1) (ds:=ddC T b) (by rw[g_2];exact Np hbl) rfl,s_2]
 refine Dh (t_beg.trans (by rw[be])) (AX a6 (AX a1 ?_));have kd:=(ok.op _ _ hop).2;cases e with
 |wb v=>cases be
 |rb r=>cases be
 |we=>
  refine Dh (Aa t_3) ?_;rw[←fin (upd T.op 0 none) (-1) (by show Tk.mk _ _ _ (T.ends 0 (-1))=_;rw[FI (h:=0) hop])];rcases kd with ⟨_,v,_,q⟩|⟨q,_⟩
  ·unfold ddC;dsimp only;rw[q,upd_self];rfl
  ·exact absurd q (AAy 0)
 |re r v=>
  refine Dg (Aa t_3) ?_;rw[←fin (upd T.op (r+1) none) v (by show Tk.mk _ _ _ (T.ends (r+1) v)=_;rw[FI (h:=r+1) hop])];refine CZ (d:=.int v) (w6:=Z++MO.lst (rfs Z.length (bl T).length)::MO.dK a::(bxs T).set i (.lst ((ddC T b).set 1 (.int T.n)))) (po (x:=evD ns (.re r v)) (y:=.int 2) rfl rfl rfl) (JN (u:=()) (x:=.ref (Z.length+2+i)) (y:=.int 3) (w6:=Z++MO.lst (rfs Z.length (bl T).length)::MO.dK a::(bxs T).set i (.lst ((ddC T b).set 1 (.int T.n)))) (w9:=Z++MO.lst (rfs Z.length (bl T).length)::MO.dK a::(bxs T).set i (.lst ((ddC T b).set 1 (.int T.n)))) rfl rfl ?_);rw[J5 (j:=3) (hx _) rfl,s_2,List.set_set];rcases kd with ⟨q,_⟩|⟨_,q⟩
  ·cases q
  ·unfold ddC;dsimp only;rw[q,upd_self];rfl
end
end K93
namespace K93
open PySem L2 Mi Nk Wb Ht
open K13 (Ev Ev.beg Ev.hand Ev.val wfG Ns nm evD bS po pc pd pq pa pr A7 AV Bq Ct Bj A9 D7 BO FO)
section
variable{T:Tk}{Z:Mh}{i b n:Nat}{a:List (Key×D)}{ns:List Str}{sz:Int}{o0 o1:Option D}{e:Ev}
theorem bl_len:(bl T).length<=T.n:=AAt (List.length_filter_le ..) (by rw[List.length_range];exact AAE _)
theorem step_n:(T.step e).n=T.n+1:=by cases e<;>rfl
theorem GS:(T.step e).op=upd T.op e.hand (if e.beg then some T.n else none):=by cases e<;>rfl
theorem EQ(ok:T.Ok):bl (T.step e)=if e.beg then bl T++[T.n] else bl T:=by
 cases e with
 |wb v=>exact GN
 |rb r=>exact GN
 |we=>exact Fq ok
 |re r v=>exact Fq ok
def Ats(ns:List Str)(T:Tk)(a:List (Key×D)):Prop:=∀h b,h<ns.length->T.op h=some b->∃i:Nat,CW a (.inr (nm ns h))=some (.int i)/\(bl T)[i]?=some b
theorem Ats.beg(N:Ns ns)(ok:T.Ok)(he:e.hand<ns.length)(be:e.beg=true)(h:Ats ns T a):Ats ns (T.step e) (Cy a (.inr (nm ns e.hand)) (.int (bl T).length)):=λj c hj hc=>by
 rw[GS,be] at hc;rw[K13.D4,EQ ok,be];by_cases z:j=e.hand
 ·subst z;rw[upd_self] at hc;refine⟨(bl T).length,if_pos rfl,?_⟩;show (bl T++[T.n])[(bl T).length]?=_;rw[AAR (AAE _),AAw];exact hc
 ·rw[upd_ne z] at hc;obtain⟨i,h1,h2⟩:=h j c hj hc;refine⟨i,?_,?_⟩
  ·rw[if_neg λy=>z (N.inj hj he (Sum.inr.inj y))];exact h1
  ·show (bl T++[T.n])[i]?=_;rw[AAS (AAT.mp h2).1];exact h2
theorem Ats.end(ok:T.Ok)(be:e.beg=false)(h:Ats ns T a):Ats ns (T.step e) a:=λj c hj hc=>by
 rw[GS,be] at hc;rw[EQ ok,be];by_cases z:j=e.hand
 ·rw[z,upd_self] at hc;cases hc
 ·rw[upd_ne z] at hc;exact h j c hj hc
theorem Ni(N:Ns ns):∀(es:List Ev) (T:Tk) (G:Nat->Bool) (a:List (Key×D)) (o4 o5 o6:Option D),T.Ok->Bs G T->wfG G es->(∀e∈es,e.Ok ns sz)->Ats ns T a->T.n+es.length<=900->a.length<=T.n->
  ∃(a':List (Key×D)) (o4' o5' o6':Option D),B1 (CA [4,5]) QH (B9 T.n (es.map (evD ns))) (sd7 o0 o1 Z.length o4 o5 o6) (HD Z T a)=some ((.next,sd7 o0 o1 Z.length o4' o5' o6'),HD Z (run T es) a')
 |[],T,G,a,o4,o5,o6,_,_,_,_,_,_,_=>⟨a,o4,o5,o6,rfl⟩
 |e::es,T,G,a,o4,o5,o6,ok,bs,wf,eo,at',hn,ha=>by
  have e1:=eo e AAP;obtain⟨ok',bs'⟩:=Fw ok bs wf.1 λv hv=>(e1.v v hv).1;rw[AAH] at hn;have bll:=bl_len (T:=T);have nx:∀(a1:List (Key×D)) (o7:Option D),QH (sd7 o0 o1 Z.length (some (.int T.n)) (some (evD ns e)) o6) (HD Z T a)=some ((.next,sd7 o0 o1 Z.length (some (.int T.n)) (some (evD ns e)) o7),HD Z (T.step e) a1)->Ats ns (T.step e) a1->a1.length<=T.n+1->∃(a':List (Key×D)) (o4' o5' o6':Option D),B1 (CA [4,5]) QH (B9 T.n ((e::es).map (evD ns))) (sd7 o0 o1 Z.length o4 o5 o6) (HD Z T a)=some ((.next,sd7 o0 o1 Z.length o4' o5' o6'),HD Z (run T (e::es)) a'):=λa1 o7 h1 h2 h3=>by
   obtain⟨a',p4,p5,p6,go⟩:=Ni N es (T.step e) _ a1 (some (.int T.n)) (some (evD ns e)) o7 ok' bs' wf.2 (λf hf=>eo f (AAQ _ hf)) h2 (by rw[step_n];omega) (by rw[step_n];exact h3);rw[step_n] at go;exact⟨a',p4,p5,p6,AV (x:=.tup [.int T.n,evD ns e]) (x3:=sd7 o0 o1 Z.length (some (.int T.n)) (some (evD ns e)) o6) (w6:=HD Z T a) rfl h1 go⟩
  cases be:e.beg with
  |true=>exact nx _ _ (Vb ok be (by omega) (by omega)) (at'.beg N ok e1.h be) (AAt (D7 ..) (by omega))
  |false=>
   obtain⟨b,hb⟩:=R9 bs (wf.1.trans (by rw[be];rfl));obtain⟨i,i1,i2⟩:=at' _ b e1.h hb;exact nx _ _ (Va ok be hb i1 i2) (at'.end ok be) (by omega)
theorem run_ok:∀(es:List Ev) {T:Tk} {G:Nat->Bool},T.Ok->Bs G T->wfG G es->(∀e∈es,e.Ok ns sz)->(run T es).Ok
 |[],_,_,ok,_,_,_=>ok
 |e::es,_,_,ok,bs,wf,eo=>by
  obtain⟨ok',bs'⟩:=Fw ok bs wf.1 λv hv=>((eo e AAP).v v hv).1;exact run_ok es ok' bs' wf.2 λf hf=>eo f (AAQ _ hf)
theorem WV:∀b,Cl k (ddD T b):=λb=>by
 unfold ddD;cases T.fn b with
 |none=>
  cases T.wv b with
  |none=>simp[Cl,ClL]
  |some w=>cases w<;>simp[Cl,ClL]
 |some p=>
  cases T.wv b with
  |none=>simp[Cl,ClL]
  |some w=>cases w<;>simp[Cl,ClL]
theorem Sy(h:(bl T)[i]?=some b):CO (HD Z T a) Z.length 7 (.ref (Z.length+2+i))=ddD T b:=by
 unfold CO;rw[Nat.ble_eq_true_of_le (by omega),g_2,Np h];show D.lst ((ddC T b).map (CO (HD Z T a) Z.length 6))=.lst (ddC T b);unfold ddC;cases T.fn b with
 |none=>
  cases T.wv b with
  |none=>rfl
  |some w=>cases w<;>rfl
 |some p=>
  cases T.wv b with
  |none=>rfl
  |some w=>cases w<;>rfl
end
end K93
namespace K18
open PySem L2 Mi Nk Wb Ht
open K13 (Ev Ev.beg Ev.hand Ev.val wfG Ns nm evD Am bS po pc pd pq pa pr A7 A0 AV Bq Ct Bj A9 BO GA Ix BJ CN)
open K16 (C0 gs_beg gs_end)
open K93 (Tk Tk.step Tk.Ok T0 ok0 Bs run Fw R9 FI bl bl_lt bl_nd GN Fq mem_bl bl_len step_n GS EQ ddD ddC rfs NE bxs Np LP HD g_0 g_1 g_2 sd7 QH Ats Ni run_ok WV Sy ES Hr)
section
variable{T:Tk}{Z:Mh}{i b n:Nat}{ns:List Str}{sz:Int}{e:Ev}{Mu:Mh}
theorem OD(N:Ns ns)(wf:wfG (λ_=>false) es)(eo:∀e∈es,e.Ok ns sz)(hl:es.length<=900):Dy [mk,.lst (es.map (evD ns))] Z=some (.lst ((bl (run T0 es)).map (ddD (run T0 es))),Z):=by
 have hz:=A9;obtain⟨a',p4,p5,p6,go⟩:=Ni (Z:=Z) (o0:=some mk) (o1:=some (.lst (es.map (evD ns)))) N es T0 (λ_=>false) [] none none none ok0 (λ_=>rfl) wf eo (λh b _ z=>by cases z) (by show 0+_<=_;omega) (AAE _);rw[show HD Z T0 []=Z++[MO.lst [],MO.dK []] from rfl] at go;generalize run T0 es=T at go ⊢;have body:El (BR 7 [mk,.lst (es.map (evD ns))]) Z=some ((.rt (.ref Z.length),sd7 (some mk) (some (.lst (es.map (evD ns)))) Z.length p4 p5 p6),HD Z T a'):=by
  refine AX (w6:=Z++[MO.lst []]) (x3:=[some mk,some (.lst (es.map (evD ns))),some (.ref Z.length),none,none,none,none]) (CZ (d:=.ref Z.length) (B8 (ds:=[]) rfl (ES (by simp))) rfl) ?_;refine AX (w6:=Z++[MO.lst [],MO.dK []]) (x3:=sd7 (some mk) (some (.lst (es.map (evD ns)))) Z.length none none none) (CZ (d:=.ref (Z.length+1)) (w6:=Z++[MO.lst [],MO.dK []]) (by show some (D.ref (Z++[MO.lst []]).length,(Z++[MO.lst []])++[MO.dK []])=_;simp) rfl) ?_;exact AX (EK (ds:=B9 0 (es.map (evD ns))) (w6:=Z++[MO.lst [],MO.dK []]) rfl go) (De rfl)
 have f:CO (HD Z T a') Z.length 8 (.ref Z.length)=.lst ((bl T).map (ddD T)):=by
  unfold CO;rw[Nat.ble_eq_true_of_le (AAE _),g_0];show D.lst ((rfs Z.length (bl T).length).map _)=_;refine congrArg D.lst (List.ext_getElem? λi=>?_);rw[AAV,AAV];by_cases hi:i<(bl T).length
  ·rw[NE hi,AAu hi];exact congrArg some (Sy (AAu hi))
  ·rw[List.getElem?_eq_none (by unfold rfs;rw[AAF,List.length_range];omega),List.getElem?_eq_none (by omega)];rfl
 have:=Fp (Z:=Z) (w6:=Z) (g:=MO.lst (rfs Z.length (bl T).length)::MO.dK a'::bxs T) body rfl (DR (by unfold Cl;trivial)) rfl (by rw[f];unfold Cl;exact BO WV _);rw[f] at this;exact this
noncomputable def wI(T:Tk)(b:Nat):Int:=match T.wv b with
 |some (some v)=>v
 |_=>match T.fn b with
  |some (_,v)=>v
  |none=>-1
noncomputable def pdC(hn:Nat->Nat)(T:Tk)(b:Nat):List D:=[.int (hn b),.int (wI T b),.int b,(match T.fn b with|some (p,_)=>.int p|none=>.non)]
noncomputable def pdD(hn:Nat->Nat)(T:Tk)(b:Nat):D:=.lst (pdC hn T b)
variable{hn:Nat->Nat}
noncomputable def rf1(n k:Nat):List D:=(List.range k).map λi:Nat=>D.ref (n+1+i)
noncomputable def bx1(hn:Nat->Nat)(T:Tk):List MO:=(bl T).map λb=>MO.lst (pdC hn T b)
noncomputable abbrev HP(Z:Mh)(hn:Nat->Nat)(T:Tk):Mh:=Z++MO.lst (rf1 Z.length (bl T).length)::bx1 hn T
theorem h_0:(Z++x::zs)[Z.length]?=some x:=by rw[AAR (AAE _),AAw];rfl
theorem h_1:(Z++x::zs)[Z.length+1+i]?=zs[i]?:=by rw[AAR (by omega),show Z.length+1+i-Z.length=i+1 by omega];rfl
theorem k_0:(Z++x::zs).set Z.length z=Z++z::zs:=by rw[AAg _ _ (AAE _),AAw];rfl
theorem k_1:(Z++x::zs).set (Z.length+1+i) z=Z++x::zs.set i z:=by rw[AAg _ _ (by omega),show Z.length+1+i-Z.length=i+1 by omega];rfl
theorem RV(h:i<n):(rf1 Z.length n)[i]?=some (.ref (Z.length+1+i)):=by
 unfold rf1;rw[AAV,List.getElem?_range h];rfl
theorem Te(h:(bl T)[i]?=some b):(bx1 hn T)[i]?=some (.lst (pdC hn T b)):=by
 unfold bx1;rw[AAV,h];rfl
theorem PF:(bx1 hn T).length=(bl T).length:=AAF ..
noncomputable abbrev pdB:Sl->M (Fl×Sl):=(sIf (AN (mOp Ah (mOp AJ (AA 3) (mC (.int 0))) (mC (.str "begin")))) (BI (Aj Cw (AA 1) (AC (AG DJ (AC (mOp AJ (AA 3) (mC (.int 1))) (AC (mOp AJ (AA 3) (mC (.int 2))) (AC (AA 2) (AC (mC .non) AL))))) AL))) (AS (AW (mOp AJ (AA 1) (mOp AJ (AA 3) (mC (.int 3)))) (AO 4))
  (AS (AW (AA 2) (F7 (AA 4) (mC (.int 3))))
  (sIf (AN (mOp L6 (mOp AJ (AA 3) (mC (.int 1))) (mC (.int 0)))) (AW (mOp AJ (AA 3) (mC (.int 2))) (F7 (AA 4) (mC (.int 1)))) BP))))
noncomputable abbrev sp5(o0:Option D)(n:Nat)(k e o4:Option D):Sl:=[o0,some (.ref n),k,e,o4]
variable{o0 o4:Option D}{g:Int}
theorem q_beg:AN (mOp Ah (mOp AJ (AA 3) (mC (.int 0))) (mC (.str "begin"))) (sp5 o0 n (some (.int T.n)) (some (Am e g)) o4) Mu=some (e.beg,Mu):=Aa (po (x:=.str (bS e.beg)) (y:=.str "begin") (po (x:=Am e g) (y:=.int 0) rfl rfl rfl) rfl GA)
theorem YU(ok:T.Ok)(be:e.beg=true)(hh:hn T.n=e.hand):(Z++MO.lst (rf1 Z.length (bl T).length++[.ref (Z.length+1+(bl T).length)])::(bx1 hn T++[.lst [.int e.hand,.int (e.val.getD (-1)),.int T.n,.non]]))=HP Z hn (T.step e):=by
 have fin:∀(f:Nat->Option Nat) (w:Option Int),[.int e.hand,.int (e.val.getD (-1)),.int T.n,.non]=pdC hn ⟨T.n+1,f,K93.upd T.wv T.n (some w),T.fn⟩ T.n->T.step e=⟨T.n+1,f,K93.upd T.wv T.n (some w),T.fn⟩->(Z++MO.lst (rf1 Z.length (bl T).length++[.ref (Z.length+1+(bl T).length)])::(bx1 hn T++[.lst [.int e.hand,.int (e.val.getD (-1)),.int T.n,.non]]))=HP Z hn (T.step e):=λf w h1 h2=>by
  unfold HP bx1;rw[h2,GN,h1,AAG,List.length_singleton,AAX];refine congrArg (Z++·) (congr (congrArg _ (congrArg MO.lst ?_)) (congrArg (·++_) (List.map_congr_left λc hc=>congrArg MO.lst ?_)))
  ·unfold rf1;rw[List.range_succ,AAX];rfl
  ·unfold pdC wI;dsimp only;rw[K93.upd_ne (AAe (bl_lt hc))]
 have n0:T.fn T.n=none:=by
  cases q:T.fn T.n with
  |none=>rfl
  |some p=>exact absurd (ok.lt _ (ok.fn T.n p.1 p.2 q).2) (AAy _)
 cases e with
 |wb v=>exact fin _ (some v) (by unfold pdC wI;dsimp only;rw[K93.upd_self,n0,hh];rfl) rfl
 |rb r=>exact fin _ none (by unfold pdC wI;dsimp only;rw[K93.upd_self,n0,hh];rfl) rfl
 |we=>cases be
 |re r v=>cases be
theorem Xz(ok:T.Ok)(be:e.beg=true)(hh:hn T.n=e.hand)(hb:(bl T).length<=900):pdB (sp5 o0 Z.length (some (.int T.n)) (some (Am e g)) o4) (HP Z hn T)=some ((.next,sp5 o0 Z.length (some (.int T.n)) (some (Am e g)) o4),HP Z hn (T.step e)):=by
 have hz:=A9;have hl:(rf1 Z.length (bl T).length).length=(bl T).length:=by unfold rf1;rw[AAF,List.length_range]
 rw[←YU ok be hh];refine Dg (q_beg.trans (by rw[be])) (Dp (d:=.non) (D9 (x:=.ref Z.length) (w6:=HP Z hn T) (w9:=HP Z hn T) rfl (BJ h_0) (Es (x:=.ref (HP Z hn T).length) (w6:=HP Z hn T++[.lst [.int e.hand,.int (e.val.getD (-1)),.int T.n,.non]]) (B8 (ds:=[.int e.hand,.int (e.val.getD (-1)),.int T.n,.non]) (pc (po (x:=Am e g) (y:=.int 1) rfl rfl rfl) (pc (po (x:=Am e g) (y:=.int 2) rfl rfl rfl) (pc rfl (pc rfl rfl)))) (ES (by show 4<=_;omega))) rfl) ?_));rw[show (HP Z hn T).length=Z.length+1+(bl T).length from by unfold HP;rw[AAG,AAH,PF];omega];unfold HP;rw[AAm];show Cw _ _ (Z++_::(bx1 hn T++_))=_;rw[CN h_0 (by omega),k_0]
theorem Xy(ok:T.Ok)(be:e.beg=false)(hop:T.op e.hand=some b)(hg:g=(i:Int))(hbl:(bl T)[i]?=some b):pdB (sp5 o0 Z.length (some (.int T.n)) (some (Am e g)) o4) (HP Z hn T)=some ((.next,sp5 o0 Z.length (some (.int T.n)) (some (Am e g)) (some (.ref (Z.length+1+i)))),HP Z hn (T.step e)):=by
 subst hg;have hlt:i<(bl T).length:=(AAT.mp hbl).1;have hx:∀ds:List D,(Z++MO.lst (rf1 Z.length (bl T).length)::(bx1 hn T).set i (.lst ds))[Z.length+1+i]?=some (.lst ds):=λds=>by rw[h_1,List.getElem?_set_self (by rw[PF];exact hlt)]
 have fin:∀(f:Nat->Option Nat) (v:Int),T.step e=⟨T.n+1,f,T.wv,K93.upd T.fn b (some (T.n,v))⟩->(Z++MO.lst (rf1 Z.length (bl T).length)::(bx1 hn T).set i (.lst (pdC hn ⟨T.n+1,f,T.wv,K93.upd T.fn b (some (T.n,v))⟩ b)))=HP Z hn (T.step e):=λf v h=>by
  unfold HP bx1;rw[h,Fq ok,Hr (f:=λb=>MO.lst (pdC hn T b)) (g:=λc=>MO.lst (pdC hn ⟨T.n+1,f,T.wv,K93.upd T.fn b (some (T.n,v))⟩ c)) bl_nd hbl λc hc=>?_];unfold pdC wI;dsimp only;rw[K93.upd_ne hc]
 have a6:AW (mOp AJ (AA 1) (mOp AJ (AA 3) (mC (.int 3)))) (AO 4) (sp5 o0 Z.length (some (.int T.n)) (some (Am e i)) o4) (HP Z hn T)=some ((.next,sp5 o0 Z.length (some (.int T.n)) (some (Am e i)) (some (.ref (Z.length+1+i)))),HP Z hn T):=
  pa (po (x:=.ref Z.length) (y:=.int i) rfl (po (x:=Am e i) (y:=.int 3) rfl rfl rfl) (K9 h_0 (Bj (RV hlt)))) rfl
 have a1:AW (AA 2) (F7 (AA 4) (mC (.int 3))) (sp5 o0 Z.length (some (.int T.n)) (some (Am e i)) (some (.ref (Z.length+1+i)))) (HP Z hn T)=some ((.next,sp5 o0 Z.length (some (.int T.n)) (some (Am e i)) (some (.ref (Z.length+1+i)))),Z++MO.lst (rf1 Z.length (bl T).length)::(bx1 hn T).set i (.lst ((pdC hn T b).set 3 (.int T.n)))):=by
  refine CZ (d:=.int T.n) (w6:=HP Z hn T) rfl (JN (u:=()) (x:=.ref (Z.length+1+i)) (y:=.int 3) (w6:=HP Z hn T) (w9:=HP Z hn T) rfl rfl ?_);rw[J5 (j:=3) (ds:=pdC hn T b) (by rw[h_1];exact Te hbl) rfl,k_1]
 refine Dh (q_beg.trans (by rw[be])) (AX a6 (AX a1 ?_));have kd:=(ok.op _ _ hop).2;cases e with
 |wb v=>cases be
 |rb r=>cases be
 |we=>
  refine Dh (Aa (po (x:=.int ((0:Nat):Int)) (y:=.int 0) (po (x:=Am .we i) (y:=.int 1) rfl rfl rfl) rfl rfl)) ?_;rw[←fin (K93.upd T.op 0 none) (-1) (by show Tk.mk _ _ _ (T.ends 0 (-1))=_;rw[FI (h:=0) hop])];rcases kd with ⟨_,v,_,q⟩|⟨q,_⟩
  ·unfold pdC wI;dsimp only;rw[q,K93.upd_self];rfl
  ·exact absurd q (AAy 0)
 |re r v=>
  refine Dg (Aa (po (x:=.int ((r+1:Nat):Int)) (y:=.int 0) (po (x:=Am (.re r v) i) (y:=.int 1) rfl rfl rfl) rfl (by show some (D.bl (decide ((0:Int)<((r+1:Nat):Int))),_)=_;rw[AAO (by omega)]))) ?_;rw[←fin (K93.upd T.op (r+1) none) v (by show Tk.mk _ _ _ (T.ends (r+1) v)=_;rw[FI (h:=r+1) hop])];refine CZ (d:=.int v) (w6:=Z++MO.lst (rf1 Z.length (bl T).length)::(bx1 hn T).set i (.lst ((pdC hn T b).set 3 (.int T.n)))) (po (x:=Am (.re r v) i) (y:=.int 2) rfl rfl rfl) (JN (u:=()) (x:=.ref (Z.length+1+i)) (y:=.int 1) (w6:=Z++MO.lst (rf1 Z.length (bl T).length)::(bx1 hn T).set i (.lst ((pdC hn T b).set 3 (.int T.n)))) (w9:=Z++MO.lst (rf1 Z.length (bl T).length)::(bx1 hn T).set i (.lst ((pdC hn T b).set 3 (.int T.n)))) rfl rfl ?_);rw[J5 (j:=1) (hx _) rfl,k_1,List.set_set];rcases kd with ⟨q,_⟩|⟨_,q⟩
  ·cases q
  ·unfold pdC wI;dsimp only;rw[q,K93.upd_self];rfl
def Cur(T:Tk)(c:Nat->Int):Prop:=∀h b,T.op h=some b->∃i:Nat,c h=i/\(bl T)[i]?=some b
theorem Cur.beg(ok:T.Ok)(be:e.beg=true)(h:Cur T c):Cur (T.step e) (λh=>if h=e.hand then ((bl T).length:Int) else c h):=λj d hd=>by
 rw[GS,be] at hd;rw[EQ ok,be];by_cases z:j=e.hand
 ·subst z;rw[K93.upd_self] at hd;refine⟨(bl T).length,if_pos rfl,?_⟩;show (bl T++[T.n])[(bl T).length]?=_;rw[AAR (AAE _),AAw];exact hd
 ·rw[K93.upd_ne z] at hd;obtain⟨i,h1,h2⟩:=h j d hd;refine⟨i,by show (if j=e.hand then _ else _)=_;rw[if_neg z];exact h1,?_⟩;show (bl T++[T.n])[i]?=_;rw[AAS (AAT.mp h2).1];exact h2
theorem Cur.end(ok:T.Ok)(be:e.beg=false)(h:Cur T c):Cur (T.step e) c:=λj d hd=>by
 rw[GS,be] at hd;rw[EQ ok,be];by_cases z:j=e.hand
 ·rw[z,K93.upd_self] at hd;cases hd
 ·rw[K93.upd_ne z] at hd;exact h j d hd
theorem V7:∀(es:List Ev) (T:Tk) (G:Nat->Bool) (c:Nat->Int) (o2 o3 o4:Option D),T.Ok->Bs G T->wfG G es->(∀e∈es,e.Ok ns sz)->Cur T c->(∀i e,es[i]?=some e->hn (T.n+i)=e.hand)->T.n+es.length<=900->
  ∃o2' o3' o4':Option D,B1 (CA [2,3]) pdB (B9 T.n ((es.zip (C0 (bl T).length c es)).map λp=>Am p.1 p.2)) (sp5 o0 Z.length o2 o3 o4) (HP Z hn T)=some ((.next,sp5 o0 Z.length o2' o3' o4'),HP Z hn (run T es))
 |[],T,G,c,o2,o3,o4,_,_,_,_,_,_,_=>⟨o2,o3,o4,rfl⟩
 |e::es,T,G,c,o2,o3,o4,ok,bs,wf,eo,cu,hh,hn'=>by
  have e1:=eo e AAP;obtain⟨ok',bs'⟩:=Fw ok bs wf.1 λv hv=>(e1.v v hv).1;rw[AAH] at hn';have bll:=bl_len (T:=T);have hh':∀i f,es[i]?=some f->hn ((T.step e).n+i)=f.hand:=λi f hf=>by
   rw[step_n];have:=hh (i+1) f hf;rw[show T.n+(i+1)=T.n+1+i by omega] at this;exact this
  have nx:∀(g:Int) (gs:List Int) (c':Nat->Int) (o7:Option D),C0 (bl T).length c (e::es)=g::gs->gs=C0 (bl (T.step e)).length c' es->Cur (T.step e) c'->pdB (sp5 o0 Z.length (some (.int T.n)) (some (Am e g)) o4) (HP Z hn T)=some ((.next,sp5 o0 Z.length (some (.int T.n)) (some (Am e g)) o7),HP Z hn (T.step e))->∃o2' o3' o4':Option D,B1 (CA [2,3]) pdB (B9 T.n (((e::es).zip (C0 (bl T).length c (e::es))).map λp=>Am p.1 p.2)) (sp5 o0 Z.length o2 o3 o4) (HP Z hn T)=some ((.next,sp5 o0 Z.length o2' o3' o4'),HP Z hn (run T (e::es))):=λg gs c' o7 h1 h2 h3 h4=>by
   obtain⟨p2,p3,p4,go⟩:=V7 es (T.step e) _ c' (some (.int T.n)) (some (Am e g)) o7 ok' bs' wf.2 (λf hf=>eo f (AAQ _ hf)) h3 hh' (by rw[step_n];omega);rw[step_n,←h2] at go;rw[h1];exact⟨p2,p3,p4,AV (x:=.tup [.int T.n,Am e g]) (x3:=sp5 o0 Z.length (some (.int T.n)) (some (Am e g)) o4) (w6:=HP Z hn T) rfl h4 go⟩
  cases be:e.beg with
  |true=>
   refine nx _ _ _ _ (gs_beg be) ?_ (cu.beg ok be) (Xz ok be (hh 0 e rfl) (by omega));rw[EQ ok,be];show C0 ((bl T).length+1) _ es=C0 (((bl T++[T.n]).length:Nat):Int) _ es;rw[AAG];rfl
  |false=>
   obtain⟨b,hb⟩:=R9 bs (wf.1.trans (by rw[be];rfl));obtain⟨i,i1,i2⟩:=cu _ b hb;refine nx _ _ _ _ (gs_end be) ?_ (cu.end ok be) (Xy ok be hb i1 i2);rw[EQ ok,be];rfl
theorem aI:∀b,Cl k (pdD hn T b):=λb=>by
 unfold pdD pdC;cases T.fn b<;>simp[Cl,ClL]
theorem YZ(h:(bl T)[i]?=some b):CO (HP Z hn T) Z.length 7 (.ref (Z.length+1+i))=pdD hn T b:=by
 unfold CO;rw[Nat.ble_eq_true_of_le (by omega),h_1,Te h];show D.lst ((pdC hn T b).map (CO (HP Z hn T) Z.length 6))=.lst (pdC hn T b);unfold pdC;cases T.fn b<;>rfl
theorem IM(wf:wfG (λ_=>false) es)(eo:∀e∈es,e.Ok ns sz)(hh:∀i e,es[i]?=some e->hn i=e.hand)(hl:es.length<=900):CQ [.lst ((es.zip (C0 0 (λ_=>0) es)).map λp=>Am p.1 p.2)] Z=some (.lst ((bl (run T0 es)).map (pdD hn (run T0 es))),Z):=by
 have hz:=A9;obtain⟨p2,p3,p4,go⟩:=V7 (Z:=Z) (hn:=hn) (o0:=some (.lst ((es.zip (C0 0 (λ_=>0) es)).map λp=>Am p.1 p.2))) es T0 (λ_=>false) (λ_=>0) none none none ok0 (λ_=>rfl) wf eo (λh b z=>by cases z) (λi e he=>by show hn (0+i)=_;rw[Nat.zero_add];exact hh i e he) (by show 0+_<=_;omega);rw[show HP Z hn T0=Z++[MO.lst []] from rfl] at go;have go:B1 (CA [2,3]) pdB (B9 0 ((es.zip (C0 0 (λ_=>0) es)).map λp=>Am p.1 p.2)) _ (Z++[MO.lst []])=_:=go;generalize run T0 es=T at go ⊢;have body:Da (BR 5 [.lst ((es.zip (C0 0 (λ_=>0) es)).map λp=>Am p.1 p.2)]) Z=some ((.rt (.ref Z.length),sp5 (some (.lst ((es.zip (C0 0 (λ_=>0) es)).map λp=>Am p.1 p.2))) Z.length p2 p3 p4),HP Z hn T):=by
  refine AX (w6:=Z++[MO.lst []]) (x3:=sp5 (some (.lst ((es.zip (C0 0 (λ_=>0) es)).map λp=>Am p.1 p.2))) Z.length none none none) (CZ (d:=.ref Z.length) (B8 (ds:=[]) rfl (ES (by simp))) rfl) ?_;exact AX (EK (w6:=Z++[MO.lst []]) rfl go) (De rfl)
 have f:CO (HP Z hn T) Z.length 8 (.ref Z.length)=.lst ((bl T).map (pdD hn T)):=by
  unfold CO;rw[Nat.ble_eq_true_of_le (AAE _),h_0];show D.lst ((rf1 Z.length (bl T).length).map _)=_;refine congrArg D.lst (List.ext_getElem? λi=>?_);rw[AAV,AAV];by_cases hi:i<(bl T).length
  ·rw[RV hi,AAu hi];exact congrArg some (YZ (AAu hi))
  ·rw[List.getElem?_eq_none (by unfold rf1;rw[AAF,List.length_range];omega),List.getElem?_eq_none (by omega)];rfl
 have:=Fp (Z:=Z) (w6:=Z) (g:=MO.lst (rf1 Z.length (bl T).length)::bx1 hn T) body rfl (DR (by unfold Cl;trivial)) rfl (by rw[f];unfold Cl;exact BO aI _);rw[f] at this;exact this
end
end K18
namespace K18
open Nk Wb
open K93 (Tk bl mem_bl bl_nd)
section
variable{T:Tk}{w bg:Int}{bs:List Nat}
noncomputable def heB(T:Tk)(bs:List Nat):Bool:=(bl T).all λb=>(T.fn b).isNone||decide (b∈bs)
noncomputable def enB(T:Tk)(m:Int)(b:Nat):Bool:=match T.fn b with
 |some (p,_)=>decide (m<=p)
 |none=>true
noncomputable def kt(T:Tk):Int->List Nat->Bool
 |_,[]=>true
 |m,b::r=>enB T m b&&kt T (max m b) r
def ktW(T:Tk)(w:Int)(b:Nat):Bool:=match T.fn b with
 |some (_,v)=>decide (v=w)
 |none=>true
def kw(T:Tk):Int->List Nat->Bool
 |_,[]=>true
 |w,b::r=>match T.wv b with
  |some (some v)=>kw T v r
  |_=>ktW T w b&&kw T w r
noncomputable def lw(T:Tk):List Nat->Int->List Nat->Bool
 |_,_,[]=>true
 |pr,w,b::r=>(pr.all λj=>enB T j b)&&match T.wv b with
  |some (some v)=>lw T (pr++[b]) v r
  |_=>ktW T w b&&lw T (pr++[b]) w r
theorem enB_iff:enB T m b=true↔∀p v,T.fn b=some (p,v)->m<=p:=by
 unfold enB;cases T.fn b with
 |none=>exact⟨(λ_ p v z=>by cases z),λ_=>rfl⟩
 |some q=>exact⟨λh p v z=>by cases z;exact of_decide_eq_true h,λh=>AAO (h q.1 q.2 rfl)⟩
abbrev Tm(T:Tk)(i j:Nat):Prop:=∀p v,T.fn j=some (p,v)->i<=p
theorem Se:∀{bs:List Nat} {m:Int},kt T m bs=true↔(∀b∈bs,enB T m b=true)/\bs.Pairwise (Tm T)
 |[],m=>⟨λ_=>⟨λb h=>(by cases h),List.Pairwise.nil⟩,λ_=>rfl⟩
 |b::r,m=>by
  show (enB T m b&&kt T (max m b) r)=true↔_;rw[Bool.and_eq_true,Se (bs:=r),List.pairwise_cons];have key:(∀c∈r,enB T (max m b) c=true)↔(∀c∈r,enB T m c=true)/\∀c∈r,Tm T b c:=by
   constructor
   ·intro h;refine⟨λc hc=>enB_iff.mpr λp v z=>?_,λc hc p v z=>?_⟩
    ·have:=enB_iff.mp (h c hc) p v z;omega
    ·have:=enB_iff.mp (h c hc) p v z;omega
   ·rintro⟨h1,h2⟩ c hc;refine enB_iff.mpr λp v z=>?_;have:=enB_iff.mp (h1 c hc) p v z;have:=h2 c hc p v z;omega
  rw[key];constructor
  ·rintro⟨h1,⟨h2,h3⟩,h4⟩;exact⟨λc hc=>(AAI.mp hc).elim (λz=>z ▸ h1) (h2 c),h3,h4⟩
  ·rintro⟨h1,h2,h3⟩;exact⟨h1 b AAP,⟨λc hc=>h1 c (AAQ _ hc),h2⟩,h3⟩
theorem SV:∀{bs pr:List Nat} {w:Int},lw T pr w bs=true↔(∀j∈pr,∀b∈bs,Tm T j b)/\bs.Pairwise (Tm T)/\kw T w bs=true
 |[],pr,w=>⟨λ_=>⟨λ_ _ b h=>(by cases h),List.Pairwise.nil,rfl⟩,λ_=>rfl⟩
 |b::r,pr,w=>by
  have hd:(pr.all λj=>enB T j b)=true↔∀j∈pr,Tm T j b:=by
   rw[List.all_eq_true];exact forall_congr' λj=>imp_congr_right λ_=>enB_iff.trans (forall_congr' λp=>forall_congr' λv=>imp_congr_right λ_=>by omega)
  have tl:∀{u:Int} {K:Prop},((∀j∈pr,Tm T j b)/\(K/\lw T (pr++[b]) u r=true))↔(∀j∈pr,∀c∈b::r,Tm T j c)/\(b::r).Pairwise (Tm T)/\(K/\kw T u r=true):=λ{u K}=>by
   rw[SV (bs:=r),List.pairwise_cons];constructor
   ·rintro⟨h1,hk,h2,h3,h4⟩;exact⟨λj hj c hc=>(AAI.mp hc).elim (λz=>z ▸ h1 j hj) (h2 j (AAc _ hj) c),⟨λc hc=>h2 b (by simp) c hc,h3⟩,hk,h4⟩
   ·rintro⟨h1,⟨h2,h3⟩,hk,h4⟩;refine⟨λj hj=>h1 j hj b AAP,hk,λj hj c hc=>?_,h3,h4⟩;rcases AAJ.mp hj with z|z
    ·exact h1 j z c (AAQ _ hc)
    ·rw[AAK.mp z];exact h2 c hc
  unfold lw kw;rw[Bool.and_eq_true,hd];cases T.wv b with
  |none=>dsimp only;rw[Bool.and_eq_true,Bool.and_eq_true];exact tl
  |some q=>
   cases q with
   |none=>dsimp only;rw[Bool.and_eq_true,Bool.and_eq_true];exact tl
   |some v=>
    have:=tl (u:=v) (K:=True);simp only[true_and] at this;exact this
noncomputable def vb(T:Tk)(bg:Int)(bs:List Nat):Bool:=heB T bs&&(kt T (-1) bs&&kw T bg bs)
theorem Z1(bg:Int):(heB T bs&&lw T [] bg bs)=vb T bg bs:=by
 unfold vb;congr 1;rw[Bool.eq_iff_iff,SV,Bool.and_eq_true,Se];have pw:∀{b:Nat},enB T (-1) b=true:=λ{b}=>enB_iff.mpr λp v _=>by omega
 exact⟨λh=>⟨⟨λb _=>pw,h.2.1⟩,h.2.2⟩,λh=>⟨λj hj=>(by cases hj),h.1.2,h.2⟩⟩
end
end K18
namespace K18
open PySem L2 Mi Nk Wb Ht
open K13 (Ae Ai po pc pd p2 pq pa piT piF pr AV CI Bq Ct Bk Bl A7 Bj A9 Bc Dr Er D4 D7 LA Ke Iz Cf)
open K93 (Tk bl ksD)
section
variable{T:Tk}{Z:Mh}{hn:Nat->Nat}{k:Nat}{ks:List Nat}
noncomputable def gk(T:Tk)(k:Nat):Nat:=(bl T).getD k 0
theorem JE(h:k<(bl T).length):(bl T)[k]?=some (gk T k):=by
 unfold gk;rw[List.getD_eq_getElem?_getD,AAu h];rfl
theorem Sv(h:k<(bl T).length):gk T k∈bl T:=AAU (JE h)
theorem YX(h:k<(bl T).length)(g:j<(bl T).length)(e:gk T k=gk T j):k=j:=by
 have a:=JE h;have b:=JE g;rw[AAu h] at a;rw[AAu g] at b;exact(List.getElem_inj K93.bl_nd).mp ((Option.some.inj a).trans (e.trans (Option.some.inj b).symm))
theorem Su:(List.range (bl T).length).map (gk T)=bl T:=by
 refine List.ext_getElem? λi=>?_;rw[AAV];by_cases hi:i<(bl T).length
 ·rw[List.getElem?_range hi,JE hi];rfl
 ·rw[List.getElem?_eq_none (by rw[List.length_range];omega),List.getElem?_eq_none (by omega)];rfl
noncomputable abbrev pdL(hn:Nat->Nat)(T:Tk):D:=.lst ((bl T).map (pdD hn T))
theorem Wa(h:k<(bl T).length):AJ (pdL hn T) (.int k) Z=some (pdD hn T (gk T k),Z):=Iy (Bj (by rw[AAV,JE h];rfl))
noncomputable abbrev enD(T:Tk)(b:Nat):D:=match T.fn b with|some (p,_)=>.int p|none=>.non
theorem VD:AJ (pdD hn T b) (.int 3) Z=some (enD T b,Z):=rfl
theorem Jn(h:mo B Z=some (enD T b,Z)):AN (mOp (Ci true) mo (mC .non)) B Z=some ((T.fn b).isSome,Z):=by
 refine Aa (po (x:=enD T b) (y:=.non) h rfl ?_);unfold enD;cases T.fn b<;>rfl
theorem IF:B9 0 ((bl T).map f)=(List.range (bl T).length).map λk:Nat=>D.tup [.int k,f (gk T k)]:=by
 refine List.ext_getElem? λi=>?_;rw[F0,AAV,AAV];by_cases hi:i<(bl T).length
 ·rw[List.getElem?_range hi,JE hi];show some (D.tup [.int ((0+i:Nat):Int),f (gk T i)])=_;rw[Nat.zero_add];rfl
 ·rw[List.getElem?_eq_none (l:=List.range _) (by rw[List.length_range];omega),List.getElem?_eq_none (by omega)];rfl
theorem WF{α:Type}{f:α->Bool}{xs:List α}:QY [.lst (xs.map λa=>D.bl (f a))] Z=some (.bl (xs.all f),Z):=by
 show (Jj (xs.map λa=>D.bl (f a))).map _=_;rw[LQ,Option.map_some,List.all_map];rfl
theorem Qz(nd:ks.Nodup)(hl:ks.length<=1000):Bp [ksD ks] Z=some (.bl true,Z):=by
 refine Au (g:=[]) (x6:=[some (ksD ks)]) ?_ rfl (by unfold Cl;trivial);rw[AAa];have e1:ks.map (λk:Nat=>D.int k)=(ks.map λk:Nat=>(k:Int)).map D.int:=by rw[List.map_map];rfl
 have e2:C7 (ks.map λk:Nat=>D.int k)=some (ks.map λk:Nat=>(k:Int)):=by
  rw[e1];generalize ks.map (λk:Nat=>(k:Int))=ns
  induction ns with
  |nil=>rfl
  |cons x r ih=>show (C7 (r.map D.int)).map _=_;rw[ih];rfl
 have e3:(CD (ks.map λk:Nat=>(k:Int))).length=ks.length:=by
  have nd':(ks.map λk:Nat=>(k:Int)).Nodup:=List.Pairwise.map _ (λa b h z=>h (by omega)) nd;have:=Ek nd' λx hx=>(Ir _ x).mpr hx;have h2:=L2.Oa (ks.map λk:Nat=>(k:Int));rw[AAF] at this h2;omega
 refine pr (po (x:=.int ks.length) (y:=.int ks.length) ?_ (pd (ds:=[ksD ks]) rfl (by show some (D.int (((ks.map λk:Nat=>D.int k).length:Nat):Int),Z)=_;rw[AAF])) (by rw[Cf,beq_self_eq_true]));show bnd (AA 0 [some (ksD ks)]) FG Z=_;rw[AK (show AA 0 [some (ksD ks)] Z=some (ksD ks,Z) from rfl)];unfold FG;rw[AK (show Ca (ksD ks) Z=some (ks.map (λk:Nat=>D.int k),Z) from rfl),e2];show (if (ks.map λk:Nat=>(k:Int)).length+2<scanBound then some (D.int (CD (ks.map λk:Nat=>(k:Int))).length,Z) else none)=_;rw[if_pos (by rw[AAF];unfold scanBound;omega),e3]
theorem PY{N:Nat}(nd:ks.Nodup)(hk:∀k∈ks,k<N)(hl:ks.length<=1000):BH [ksD ks,.int N] Z=some (.bl true,Z):=by
 have hz:=A9;refine Au (g:=[]) (x6:=[some (ksD ks),some (.int N)]) ?_ rfl (by unfold Cl;trivial);rw[AAa];have cp:=Ct (Z:=Z) (mc:=En) (me:=(AG Ae (AC (AA 0) (AC (mC (.int 0)) (AC (mOp Ef (AA 1) (mC (.int 1))) AL))))) (u5:=[none,some (.int N)]) (f:=λk:Nat=>D.int k) (F:=λ_:Nat=>D.bl true) (p:=λ_=>true) (xs:=ks) (ys:=[]) (λ_ _=>rfl) (λk hk' _=>pd (ds:=[.int k,.int 0,.int ((N:Int)-1)]) (pc rfl (pc rfl (pc (po (x:=.int N) (y:=.int 1) rfl rfl rfl) rfl))) (Ke (by omega) (by have:=hk k hk';omega)));rw[Bk,List.nil_append] at cp;refine pr (DM (pd (ds:=[ksD ks,.ty "list"]) rfl ?_) (DM (pd (ds:=[.lst (ks.map λ_=>D.bl true)]) (pc (Bq (Bl rfl) (by rw[AAF];omega) cp (A7 (by rw[AAF];omega))) rfl) ?_) (pd (ds:=[ksD ks]) rfl (Qz nd hl))))
 ·show (DL "list" "list").map (λb=>(D.bl b,Z))=_;rw[show DL "list" "list" = some true from by decide];rfl
 ·have:=WF (Z:=Z) (f:=λ_:Nat=>true) (xs:=ks);rw[this,List.all_eq_true.mpr λ_ _=>rfl]
end
end K18
namespace K18
open PySem L2 Mi Nk Wb Ht
open K13 (Ae Ai Ev Ev.beg Ev.hand Ev.val wfG Ns evD Am po pc pd p2 pq pa piT piF pr AV CI Bq Bk Bl A7 Bj A9 Bc Dr Er D4 D7 LA Iz Cf EY FO)
open K16 (mkK C0)
open K93 (Tk bl ksD run T0)
section
variable{T:Tk}{Z:Mh}{hn:Nat->Nat}{k:Nat}{ks:List Nat}
theorem LL{α:Type}{bf:D->Sl->M Sl}{me:Sl->M D}{mc:Sl->M Bool}{u5:Sl}{f F:α->D}{g:α->Sl}{p:α->Bool}:∀{xs:List α} {ys:List D},(∀a∈xs,bf (f a) u5 Z=some (g a,Z))->(∀a∈xs,mc (g a) Z=some (p a,Z))->(∀a∈xs,p a=true->me (g a) Z=some (F a,Z))->EZ bf mc me u5 (xs.map f) ys Z=some (ys++(xs.filter p).map F,Z)
 |[],ys,_,_,_=>by show some (ys,Z)=_;simp
 |z::xs,ys,hb,hc,h=>by
  show bnd (bf (f z) u5) _ Z=_;rw[AK (hb z (by simp)),AK (hc z (by simp))];cases q:p z with
  |true=>
   rw[if_pos rfl,AK (h z (by simp) q),LL (λw hw=>hb w (by simp[hw])) (λw hw=>hc w (by simp[hw])) (λw hw=>h w (by simp[hw]))];simp[q]
  |false=>
   rw[if_neg (by decide),LL (λw hw=>hb w (by simp[hw])) (λw hw=>hc w (by simp[hw])) (λw hw=>h w (by simp[hw]))];simp[q]
theorem Lp:∀(js don:List Nat) (L:List (Key×D)) (o3:Option D),(∀k:Nat,(CW L (.inl (k:Int))).isSome=decide (k∈don))->L.length+js.length<=1000->∃(L':List (Key×D)) (o3':Option D),(∀k:Nat,(CW L' (.inl (k:Int))).isSome=decide (k∈don++js)) /\
  B1 (AO 3) (ER (AA 2) (AA 3) (mC (.bl true))) (js.map λk:Nat=>D.int k) [o0,o1,some (.ref Z.length),o3] (Z++[.dK L])=some ((.next,[o0,o1,some (.ref Z.length),o3']),Z++[.dK L'])
 |[],don,L,o3,h,_=>⟨L,o3,by rw[AAa];exact h,rfl⟩
 |j::js,don,L,o3,h,hl=>by
  have hz:=A9;rw[AAH] at hl;have pl:=D7 L (.inl (j:Int)) (.bl true);obtain⟨L',o3',h',go⟩:=Lp (o0:=o0) (o1:=o1) js (don++[j]) (Cy L (.inl (j:Int)) (.bl true)) (some (.int j)) (λk=>by
   rw[D4];by_cases z:k=j
   ·subst z;rw[if_pos rfl,AAO (by simp)];rfl
   ·rw[if_neg λq=>z (by have:=Sum.inl.inj q;omega),h k];exact decide_eq_decide.mpr (by simp[z])) (by omega)
  refine⟨L',o3',by rw[AAm] at h';exact h',AV (x:=.int j) (x3:=[o0,o1,some (.ref Z.length),some (.int j)]) (w6:=Z++[.dK L]) rfl ?_ go⟩;have g1:∀{x:MO},(Z++[x])[Z.length]?=some x:=λ{x}=>by rw[AAR (AAE _),AAw];rfl
  have:=Er (B:=[o0,o1,some (.ref Z.length),some (.int j)]) (Z:=Z++[.dK L]) (n:=Z.length) (mo:=AA 2) (mi:=AA 3) (mv:=mC (.bl true)) (v:=.bl true) (k:=(j:Int)) rfl rfl rfl g1 (by omega);rw[AAg _ _ (AAE _),AAw] at this;exact this
theorem WL(hk:∀k∈ks,k<(bl T).length):((List.range (bl T).length).filter λk=>(T.fn (gk T k)).isSome).all (λk=>decide (k∈ks))=heB T (ks.map (gk T)):=by
 unfold heB
 conv=>rhs;rw[←Su (T:=T),List.all_map]
 rw[List.all_filter,Bool.eq_iff_iff,List.all_eq_true,List.all_eq_true];refine forall_congr' λa=>imp_congr_right λha=>?_;have me:gk T a∈ks.map (gk T)↔a∈ks:=by
  rw[AAL];exact⟨λ⟨j,h1,h2⟩=>YX (hk j h1) (List.mem_range.mp ha) h2 ▸ h1,λh=>⟨a,h,rfl⟩⟩
 show (!(T.fn (gk T a)).isSome||decide (a∈ks))=true↔((T.fn (gk T a)).isNone||decide (gk T a∈ks.map (gk T)))=true;rw[decide_eq_decide.mpr me];cases T.fn (gk T a)<;>exact Iff.rfl
theorem aY(hk:∀k∈ks,k<(bl T).length)(hl:ks.length<=900)(hb:(bl T).length<=900):BL [pdL hn T,ksD ks] Z=some (.bl (heB T (ks.map (gk T))),Z):=by
 have hz:=A9;obtain⟨L,o3,hL,go⟩:=Lp (Z:=Z) (o0:=some (pdL hn T)) (o1:=some (ksD ks)) ks [] [] none (λk=>rfl) (by simp;omega);have g1:(Z++[MO.dK L])[Z.length]?=some (.dK L):=by rw[AAR (AAE _),AAw];rfl
 rw[←WL hk];refine Au (g:=[.dK L]) (x6:=[some (pdL hn T),some (ksD ks),some (.ref Z.length),o3]) ?_ rfl (by unfold Cl;trivial);refine AX (w6:=Z++[.dK []]) (x3:=[some (pdL hn T),some (ksD ks),some (.ref Z.length),none]) rfl (AX (EK (ds:=ks.map λk:Nat=>D.int k) (w6:=Z++[.dK []]) rfl go) ?_);have cp:=LL (Z:=Z++[.dK L]) (bf:=CA [0,1]) (mc:=(AN (mOp (Ci true) (mOp AJ (AA 1) (mC (.int 3))) (mC .non)))) (me:=(mOp (Ji false) (AA 0) (AA 2))) (u5:=[none,none,some (.ref Z.length)]) (f:=λk:Nat=>D.tup [.int k,pdD hn T (gk T k)]) (F:=λk:Nat=>D.bl (decide (k∈ks))) (g:=λk:Nat=>[some (.int k),some (pdD hn T (gk T k)),some (.ref Z.length)]) (p:=λk=>(T.fn (gk T k)).isSome) (xs:=List.range (bl T).length) (ys:=[]) (λa _=>rfl) (λa _=>Jn (po (x:=pdD hn T (gk T a)) (y:=.int 3) rfl rfl VD)) (λa _ _=>po (x:=.int a) (y:=.ref Z.length) rfl rfl (by rw[LA g1,hL a];rfl));rw[List.nil_append] at cp;refine De (pd (ds:=[.lst (((List.range (bl T).length).filter λk=>(T.fn (gk T k)).isSome).map λk:Nat=>D.bl (decide (k∈ks)))]) (pc (Bq (ds:=(List.range (bl T).length).map λk:Nat=>D.tup [.int k,pdD hn T (gk T k)]) ?_ (by rw[AAF,List.length_range];omega) cp (A7 (by
  rw[AAF];have:=List.length_filter_le (λk=>(T.fn (gk T k)).isSome) (List.range (bl T).length);rw[List.length_range] at this;omega))) rfl) WF)
 show bnd (AC (AA 0) AL [some (pdL hn T),some (ksD ks),some (.ref Z.length),o3]) _ (Z++[.dK L])=_;rw[AK (show AC (AA 0) AL [some (pdL hn T),some (ksD ks),some (.ref Z.length),o3] (Z++[MO.dK L])=some ([pdL hn T],Z++[.dK L]) from rfl)];show some (B9 0 ((bl T).map (pdD hn T)),Z++[MO.dK L])=_;rw[IF]
noncomputable abbrev ktB:Sl->M (Fl×Sl):=(AS (AW (mOp AJ (AA 0) (AA 3)) (AO 4))
  (AS (sIf (Co (AN (mOp (Ci true) (mOp AJ (AA 4) (mC (.int 3))) (mC .non))) (AN (mOp EF (mOp AJ (AA 4) (mC (.int 3))) (AA 2)))) (Az (mC (.bl false))) BP)
  (AW (AG SO (AC (AA 2) (AC (mOp AJ (AA 4) (mC (.int 2))) AL))) (AO 2))))
theorem WH:∀(js:List Nat) (m:Int) (o3 o4:Option D),(∀k∈js,k<(bl T).length)->∃(m':Int) (o3' o4':Option D),B1 (AO 3) ktB (js.map λk:Nat=>D.int k) [some (pdL hn T),o1,some (.int m),o3,o4] Z=some ((if kt T m (js.map (gk T)) then .next else .rt (.bl false),[some (pdL hn T),o1,some (.int m'),o3',o4']),Z)
 |[],m,o3,o4,_=>⟨m,o3,o4,rfl⟩
 |j::js,m,o3,o4,h=>by
  have hj:=h j AAP;obtain⟨m',p3,p4,go⟩:=WH (o1:=o1) js (max m (gk T j)) (some (.int j)) (some (pdD hn T (gk T j))) λi hi=>h i (AAQ _ hi);have a0:AW (mOp AJ (AA 0) (AA 3)) (AO 4) [some (pdL hn T),o1,some (.int m),some (.int j),o4] Z=some ((.next,[some (pdL hn T),o1,some (.int m),some (.int j),some (pdD hn T (gk T j))]),Z):=pa (po (x:=pdL hn T) (y:=.int j) rfl rfl (Wa hj)) rfl;have t1:AN (mOp (Ci true) (mOp AJ (AA 4) (mC (.int 3))) (mC .non)) [some (pdL hn T),o1,some (.int m),some (.int j),some (pdD hn T (gk T j))] Z=some ((T.fn (gk T j)).isSome,Z):=Jn (po (x:=pdD hn T (gk T j)) (y:=.int 3) rfl rfl VD);have a2:AW (AG SO (AC (AA 2) (AC (mOp AJ (AA 4) (mC (.int 2))) AL))) (AO 2) [some (pdL hn T),o1,some (.int m),some (.int j),some (pdD hn T (gk T j))] Z=some ((.next,[some (pdL hn T),o1,some (.int (max m (gk T j))),some (.int j),some (pdD hn T (gk T j))]),Z):=by
   refine pa (pd (ds:=[.int m,.int (gk T j)]) (pc rfl (pc (po (x:=pdD hn T (gk T j)) (y:=.int 2) rfl rfl rfl) rfl)) ?_) rfl;show some (D.int (if (gk T j:Int) > m then (gk T j:Int) else m),Z)=_;rw[show (if (gk T j:Int) > m then (gk T j:Int) else m)=max m (gk T j) from by split<;>omega]
  have ms:kt T m ((j::js).map (gk T))=(enB T m (gk T j)&&kt T (max m (gk T j)) (js.map (gk T))):=rfl;rw[ms];have nx:enB T m (gk T j)=true->(Co (AN (mOp (Ci true) (mOp AJ (AA 4) (mC (.int 3))) (mC .non))) (AN (mOp EF (mOp AJ (AA 4) (mC (.int 3))) (AA 2)))) [some (pdL hn T),o1,some (.int m),some (.int j),some (pdD hn T (gk T j))] Z=some (false,Z)->∃(m':Int) (o3' o4':Option D),B1 (AO 3) ktB ((j::js).map λk:Nat=>D.int k) [some (pdL hn T),o1,some (.int m),o3,o4] Z=some ((if enB T m (gk T j)&&kt T (max m (gk T j)) (js.map (gk T)) then .next else .rt (.bl false),[some (pdL hn T),o1,some (.int m'),o3',o4']),Z):=λen ht=>by
   rw[en,Bool.true_and];exact⟨m',p3,p4,AV (x:=.int j) (x3:=[some (pdL hn T),o1,some (.int m),some (.int j),o4]) (w6:=Z) rfl (pq a0 (pq (piF ht rfl) a2)) go⟩
  cases q:T.fn (gk T j) with
  |none=>
   rw[q] at t1;exact nx (by unfold enB;rw[q]) (EU t1)
  |some y=>
   rw[q] at t1;have a3:mOp AJ (AA 4) (mC (.int 3)) [some (pdL hn T),o1,some (.int m),some (.int j),some (pdD hn T (gk T j))] Z=some (.int y.1,Z):=po (x:=pdD hn T (gk T j)) (y:=.int 3) rfl rfl (by rw[VD];unfold enD;rw[q]);have t2:(Co (AN (mOp (Ci true) (mOp AJ (AA 4) (mC (.int 3))) (mC .non))) (AN (mOp EF (mOp AJ (AA 4) (mC (.int 3))) (AA 2)))) [some (pdL hn T),o1,some (.int m),some (.int j),some (pdD hn T (gk T j))] Z=some (decide ((y.1:Int)<m),Z):=DN t1 (Aa (po (x:=.int y.1) (y:=.int m) a3 rfl rfl));have eq:enB T m (gk T j)=decide (m<=(y.1:Int)):=by unfold enB;rw[q]
   by_cases z:m<=(y.1:Int)
   ·exact nx (by rw[eq,AAO z]) (by rw[t2,AAN (by omega)])
   ·rw[eq,AAN z,Bool.false_and];exact⟨m,some (.int j),some (pdD hn T (gk T j)),CI (x:=.int j) (x3:=[some (pdL hn T),o1,some (.int m),some (.int j),o4]) (w6:=Z) rfl (pq a0 (C5 (piT (by rw[t2,AAO (by omega)]) (pr rfl))))⟩
theorem aX(hk:∀k∈ks,k<(bl T).length):Br [pdL hn T,ksD ks] Z=some (.bl (kt T (-1) (ks.map (gk T))),Z):=by
 obtain⟨m',o3,o4,go⟩:=WH (T:=T) (Z:=Z) (hn:=hn) (o1:=some (ksD ks)) ks (-1) none none hk;refine Au (g:=[]) (x6:=[some (pdL hn T),some (ksD ks),some (.int m'),o3,o4]) ?_ rfl (by unfold Cl;trivial);rw[AAa];refine pq (x3:=[some (pdL hn T),some (ksD ks),some (.int (-1)),none,none]) (pa (d:=.int (-1)) rfl rfl) ?_;have fo:EO (DO (AA 1)) (AO 3) ktB [some (pdL hn T),some (ksD ks),some (.int (-1)),none,none] Z=_:=EK (Bl (ds:=ks.map λk:Nat=>D.int k) rfl) go;cases q:kt T (-1) (ks.map (gk T)) with
 |true=>rw[q] at fo;exact pq fo (pr rfl)
 |false=>rw[q] at fo;exact C5 fo
end
end K18
namespace K18
open PySem L2 Mi Nk Wb Ht
open K13 (Ae Ai Ev Ev.beg Ev.hand Ev.val wfG Ns evD Am hdD po pc pd p2 pq pa piT piF pr AV CI Bq Bk Bl A7 Bj A9 Bc Iz Cf EY FO)
open K16 (mkK C0)
open K93 (Tk Tk.step bl GN Fq mem_bl ksD run T0 ok0 Bs Fw run_ok bl_len EQ step_n)
section
variable{T:Tk}{Z:Mh}{hn:Nat->Nat}{k:Nat}{ks:List Nat}
def Hn(hn:Nat->Nat)(T:Tk):Prop:=∀b∈bl T,(hn b=0/\∃v,T.wv b=some (some v))∨(0<hn b/\T.wv b=some none)
noncomputable abbrev kwB:Sl->M (Fl×Sl):=(AS (AW (mOp AJ (AA 0) (AA 4)) (AO 5))
  (sIf (AN (mOp Ah (mOp AJ (AA 5) (mC (.int 0))) (mC (.int 0)))) (AW (mOp AJ (AA 5) (mC (.int 1))) (AO 3)) (sIf (Co (AN (mOp (Ci true) (mOp AJ (AA 5) (mC (.int 3))) (mC .non))) (AN (mOp FE (mOp AJ (AA 5) (mC (.int 1))) (AA 3)))) (Az (mC (.bl false))) BP)))
theorem WG(hw:Hn hn T):∀(js:List Nat) (w:Int) (o4 o5:Option D),(∀k∈js,k<(bl T).length)->∃(w':Int) (o4' o5':Option D),B1 (AO 4) kwB (js.map λk:Nat=>D.int k) [some (pdL hn T),o1,o2,some (.int w),o4,o5] Z=some ((if kw T w (js.map (gk T)) then .next else .rt (.bl false),[some (pdL hn T),o1,o2,some (.int w'),o4',o5']),Z)
 |[],w,o4,o5,_=>⟨w,o4,o5,rfl⟩
 |j::js,w,o4,o5,h=>by
  have hj:=h j AAP;have ih:=λu=>WG (o1:=o1) (o2:=o2) hw js u (some (.int j)) (some (pdD hn T (gk T j))) λi hi=>h i (AAQ _ hi);have a0:AW (mOp AJ (AA 0) (AA 4)) (AO 5) [some (pdL hn T),o1,o2,some (.int w),some (.int j),o5] Z=some ((.next,[some (pdL hn T),o1,o2,some (.int w),some (.int j),some (pdD hn T (gk T j))]),Z):=pa (po (x:=pdL hn T) (y:=.int j) rfl rfl (Wa hj)) rfl;have t0:AN (mOp Ah (mOp AJ (AA 5) (mC (.int 0))) (mC (.int 0))) [some (pdL hn T),o1,o2,some (.int w),some (.int j),some (pdD hn T (gk T j))] Z=some (decide (hn (gk T j)=0),Z):=by
   refine Aa (po (x:=.int (hn (gk T j))) (y:=.int 0) (po (x:=pdD hn T (gk T j)) (y:=.int 0) rfl rfl rfl) rfl ?_);rw[Cf];by_cases z:hn (gk T j)=0
   ·rw[z];rfl
   ·rw[AAN z,AAf.mpr (by omega)]
  have a1:mOp AJ (AA 5) (mC (.int 1)) [some (pdL hn T),o1,o2,some (.int w),some (.int j),some (pdD hn T (gk T j))] Z=some (.int (wI T (gk T j)),Z):=po (x:=pdD hn T (gk T j)) (y:=.int 1) rfl rfl rfl;rcases hw _ (Sv hj) with ⟨z,v,e⟩|⟨z,e⟩
  ·obtain⟨w',p4,p5,go⟩:=ih v;have ms:kw T w ((j::js).map (gk T))=kw T v (js.map (gk T)):=by
    show (match T.wv (gk T j) with|some (some v)=>kw T v (js.map (gk T))|_=>ktW T w (gk T j)&&kw T w (js.map (gk T)))=_;rw[e]
   rw[ms];have ev:wI T (gk T j)=v:=by unfold wI;rw[e]
   rw[ev] at a1;exact⟨w',p4,p5,AV (x:=.int j) (x3:=[some (pdL hn T),o1,o2,some (.int w),some (.int j),o5]) (w6:=Z) rfl (pq a0 (piT (by rw[t0,AAO z]) (pa a1 rfl))) go⟩
  ·obtain⟨w',p4,p5,go⟩:=ih w;have ms:kw T w ((j::js).map (gk T))=(ktW T w (gk T j)&&kw T w (js.map (gk T))):=by
    show (match T.wv (gk T j) with|some (some v)=>kw T v (js.map (gk T))|_=>ktW T w (gk T j)&&kw T w (js.map (gk T)))=_;rw[e]
   rw[ms];have t1:AN (mOp (Ci true) (mOp AJ (AA 5) (mC (.int 3))) (mC .non)) [some (pdL hn T),o1,o2,some (.int w),some (.int j),some (pdD hn T (gk T j))] Z=some ((T.fn (gk T j)).isSome,Z):=Jn (po (x:=pdD hn T (gk T j)) (y:=.int 3) rfl rfl VD);have nx:ktW T w (gk T j)=true->(Co (AN (mOp (Ci true) (mOp AJ (AA 5) (mC (.int 3))) (mC .non))) (AN (mOp FE (mOp AJ (AA 5) (mC (.int 1))) (AA 3)))) [some (pdL hn T),o1,o2,some (.int w),some (.int j),some (pdD hn T (gk T j))] Z=some (false,Z)->∃(w':Int) (o4' o5':Option D),B1 (AO 4) kwB ((j::js).map λk:Nat=>D.int k) [some (pdL hn T),o1,o2,some (.int w),o4,o5] Z=some ((if ktW T w (gk T j)&&kw T w (js.map (gk T)) then .next else .rt (.bl false),[some (pdL hn T),o1,o2,some (.int w'),o4',o5']),Z):=λen ht=>by
    rw[en,Bool.true_and];exact⟨w',p4,p5,AV (x:=.int j) (x3:=[some (pdL hn T),o1,o2,some (.int w),some (.int j),o5]) (w6:=Z) rfl (pq a0 (piF (by rw[t0,AAN (by omega)]) (piF ht rfl))) go⟩
   cases q:T.fn (gk T j) with
   |none=>
    rw[q] at t1;exact nx (by unfold ktW;rw[q]) (EU t1)
   |some y=>
    rw[q] at t1;have ev:wI T (gk T j)=y.2:=by unfold wI;rw[e,q]
    rw[ev] at a1;have t2:(Co (AN (mOp (Ci true) (mOp AJ (AA 5) (mC (.int 3))) (mC .non))) (AN (mOp FE (mOp AJ (AA 5) (mC (.int 1))) (AA 3)))) [some (pdL hn T),o1,o2,some (.int w),some (.int j),some (pdD hn T (gk T j))] Z=some (!(y.2==w),Z):=DN t1 (Aa (po (x:=.int y.2) (y:=.int w) a1 rfl rfl));have eq:ktW T w (gk T j)=decide (y.2=w):=by unfold ktW;rw[q]
    by_cases z2:y.2=w
    ·exact nx (by rw[eq,AAO z2]) (by rw[t2,z2,beq_self_eq_true];rfl)
    ·rw[eq,AAN z2,Bool.false_and];exact⟨w,some (.int j),some (pdD hn T (gk T j)),CI (x:=.int j) (x3:=[some (pdL hn T),o1,o2,some (.int w),some (.int j),o5]) (w6:=Z) rfl (pq a0 (piF (by rw[t0,AAN (by omega)]) (piT (by rw[t2,AAf.mpr z2];rfl) (pr rfl))))⟩
theorem aW(hw:Hn hn T)(hk:∀k∈ks,k<(bl T).length):Bi [pdL hn T,ksD ks,.int bg] Z=some (.bl (kw T bg (ks.map (gk T))),Z):=by
 obtain⟨w',o4,o5,go⟩:=WG (T:=T) (Z:=Z) (hn:=hn) (o1:=some (ksD ks)) (o2:=some (.int bg)) hw ks bg none none hk;refine Au (g:=[]) (x6:=[some (pdL hn T),some (ksD ks),some (.int bg),some (.int w'),o4,o5]) ?_ rfl (by unfold Cl;trivial);rw[AAa];refine pq (x3:=[some (pdL hn T),some (ksD ks),some (.int bg),some (.int bg),none,none]) (pa (d:=.int bg) rfl rfl) ?_;have fo:EO (DO (AA 1)) (AO 4) kwB [some (pdL hn T),some (ksD ks),some (.int bg),some (.int bg),none,none] Z=_:=EK (Bl (ds:=ks.map λk:Nat=>D.int k) rfl) go;cases q:kw T bg (ks.map (gk T)) with
 |true=>rw[q] at fo;exact pq fo (pr rfl)
 |false=>rw[q] at fo;exact C5 fo
theorem Sn{es0:List Ev}:∀(es:List Ev) {T:Tk} {G:Nat->Bool},T.Ok->Bs G T->wfG G es->(∀e∈es,∀v,e.val=some v->0<=v)->(∀i e,es[i]?=some e->hn (T.n+i)=e.hand)->Hn hn T->Hn hn (run T es)
 |[],_,_,_,_,_,_,_,h=>h
 |e::es,T,G,ok,bs,wf,hv,hh,h=>by
  obtain⟨ok',bs'⟩:=Fw ok bs wf.1 (hv e AAP);refine Sn (es0:=es0) es ok' bs' wf.2 (λf hf=>hv f (AAQ _ hf)) (λi f hf=>?_) λb hb=>?_
  ·rw[step_n];have:=hh (i+1) f hf;rw[show T.n+(i+1)=T.n+1+i by omega] at this;exact this
  have h0:hn T.n=e.hand:=hh 0 e rfl;have new:∀(f:Nat->Option Nat) (w:Option Int),T.step e=⟨T.n+1,f,K93.upd T.wv T.n (some w),T.fn⟩->((e.hand=0/\∃v,w=some v)∨(0<e.hand/\w=none))->(hn b=0/\∃v,(T.step e).wv b=some (some v))∨(0<hn b/\(T.step e).wv b=some none):=λf w e1 e2=>by
   rw[e1] at hb ⊢;rw[GN] at hb;show (hn b=0/\∃v,K93.upd T.wv T.n (some w) b=some (some v))∨(0<hn b/\K93.upd T.wv T.n (some w) b=some none);rcases AAJ.mp hb with z|z
   ·rw[K93.upd_ne (AAe (K93.bl_lt z))];exact h b z
   ·rw[AAK.mp z,K93.upd_self,h0];rcases e2 with ⟨a1,v,a2⟩|⟨a1,a2⟩
    ·exact .inl ⟨a1,v,by rw[a2]⟩
    ·exact .inr ⟨a1,by rw[a2]⟩
  cases e with
  |wb v=>exact new _ (some v) rfl (.inl ⟨rfl,v,rfl⟩)
  |rb r=>exact new _ none rfl (.inr ⟨Nat.succ_pos r,rfl⟩)
  |we=>exact h b (by have hb:b∈bl ⟨T.n+1,_,T.wv,_⟩:=hb;rw[Fq ok] at hb;exact hb)
  |re r v=>exact h b (by have hb:b∈bl ⟨T.n+1,_,T.wv,_⟩:=hb;rw[Fq ok] at hb;exact hb)
end
end K18
namespace K18
open PySem L2 Mi Nk Wb Ht
open K13 (Ae Ai Ev Ev.beg Ev.hand Ev.val wfG Ns evD Am hdD po pc pd p2 pq pa piT piF pr AV CI Bq Ct Bk Bl A7 Bj A9 Bc Iz Cf EY FO)
open K16 (mkK C0)
open K93 (Tk bl ksD run T0 ok0 run_ok bl_len ddD Yk Yj)
section
variable{T:Tk}{Z:Mh}{hn:Nat->Nat}{k:Nat}{ks:List Nat}{ns:List Str}{kd:Str}{sz bg:Int}{es:List Ev}
noncomputable def hnE(es:List Ev)(b:Nat):Nat:=((es[b]?).map Ev.hand).getD 0
theorem LG(h:es[i]?=some e):hnE es i=e.hand:=by unfold hnE;rw[h];rfl
theorem run_len(es:List Ev):∀{T:Tk},(run T es).n=T.n+es.length:=by
 induction es with
 |nil=>intro T;rfl
 |cons e es ih=>
  intro T;show (run (T.step e) es).n=_;rw[ih,K93.step_n,AAH];omega
theorem HY(h:es.length<=900):(bl (run T0 es)).length<=900:=by
 have:=bl_len (T:=run T0 es);rw[run_len] at this;have h0:T0.n=0:=rfl;omega
noncomputable abbrev φB:List D->M D:=Ay .drop 4 3 (CJ Ai CQ BH BL Br Bi)
theorem OE(N:Ns ns)(wf:wfG (λ_=>false) es)(eo:∀e∈es,e.Ok ns sz)(hl:es.length<=100)(nd:ks.Nodup)(hk:∀k∈ks,k<(bl (run T0 es)).length):φB [mkK kd sz bg ns,.lst (es.map (evD ns)),ksD ks] Z=some (.bl (vb (run T0 es) bg (ks.map (gk (run T0 es)))),Z):=by
 obtain⟨gs,hg,hx,ea⟩:=K16.v_actsX (Z:=Z) (kd:=kd) (bg:=bg) N eo wf hl;subst hx;rw[K16.eq_acts] at ea;have vd:=IM (Z:=Z) (hn:=hnE es) wf eo (λi e h=>LG h) (by omega);have bf:=HY (es:=es) (by omega);have hw:Hn (hnE es) (run T0 es):=Sn (es0:=es) es ok0 (G:=λ_=>false) (λ_=>rfl) wf (λe he v hv=>((eo e he).v v hv).1) (λi e h=>by show hnE es (0+i)=_;rw[Nat.zero_add];exact LG h) λb hb=>by cases hb
 generalize run T0 es=T at *;have kl:ks.length<=900:=by
  have:=Ek nd λk h=>List.mem_range.mpr (hk k h);rw[List.length_range] at this;omega
 refine Au (g:=[]) (x6:=[some (mkK kd sz bg ns),some (.lst (es.map (evD ns))),some (ksD ks),some (pdL (hnE es) T)]) ?_ rfl (by unfold Cl;trivial);rw[AAa];refine pq (pa (d:=pdL (hnE es) T) (pd (ds:=[.lst ((es.zip (C0 0 (λ_=>0) es)).map λp=>Am p.1 p.2)]) (pc (pd (ds:=[mkK kd sz bg ns,.lst (es.map (evD ns))]) rfl ea) rfl) vd) rfl) ?_;refine pq (piF (HV (b:=true) (Aa (pd (ds:=[ksD ks,.int (bl T).length]) (pc rfl (pc (pd (ds:=[pdL (hnE es) T]) rfl (by show some (D.int ((((bl T).map (pdD (hnE es) T)).length:Nat):Int),Z)=_;rw[AAF])) rfl)) (PY nd hk (by omega))))) rfl) (pr ?_);have h1:=aY (Z:=Z) (hn:=hnE es) hk kl bf;have h2:=aX (Z:=Z) (hn:=hnE es) hk;have h3:=aW (Z:=Z) (bg:=bg) hw hk;unfold vb;cases q1:heB T (ks.map (gk T)) with
 |false=>
  rw[q1] at h1;exact JO (pd (ds:=[pdL (hnE es) T,ksD ks]) rfl h1)
 |true=>
  rw[q1] at h1;rw[Bool.true_and];refine DM (pd (ds:=[pdL (hnE es) T,ksD ks]) rfl h1) ?_;cases q2:kt T (-1) (ks.map (gk T)) with
  |false=>rw[q2] at h2;exact JO (pd (ds:=[pdL (hnE es) T,ksD ks]) rfl h2)
  |true=>
   rw[q2] at h2;rw[Bool.true_and];exact DM (pd (ds:=[pdL (hnE es) T,ksD ks]) rfl h2) (pd (ds:=[pdL (hnE es) T,ksD ks,.int bg]) (pc rfl (pc rfl (pc (po (x:=mkK kd sz bg ns) (y:=.int 2) rfl rfl rfl) rfl))) h3)
noncomputable abbrev dlL(T:Tk):D:=.lst ((bl T).map (ddD T))
theorem PM(h:k<(bl T).length):AJ (dlL T) (.int k) Z=some (ddD T (gk T k),Z):=Iy (Bj (by rw[AAV,JE h];rfl))
theorem KF:∀ks:List Nat,Dd (ks.map λk:Nat=>D.int k)=some (ks.map λk:Nat=>V.int k)
 |[]=>rfl
 |k::ks=>by
  show (Dd (ks.map λk:Nat=>D.int k)).map _=_;rw[KF ks];rfl
theorem Z3:FR true (.int k) (ksD ks) Z=some (.bl (!decide (k∈ks)),Z):=by
 show Gk true (.int k) (ksD ks) Z=_;unfold Gk;rw[AK (show B4 (ksD ks) Z=some (ks.map (λk:Nat=>D.int k),Z) from rfl),KF];show some (D.bl (!inV (.int k) (ks.map λk:Nat=>V.int k)),Z)=_;have:inV (.int k) (ks.map λk:Nat=>V.int k)=decide (k∈ks):=by
  unfold inV;rw[List.any_map,Bool.eq_iff_iff,List.any_eq_true,decide_eq_true_eq];constructor
  ·rintro⟨j,h1,h2⟩;have h2:((j:Int)==(k:Int))=true:=h2;rw[beq_iff_eq] at h2;exact(show j=k by omega) ▸ h1
  ·exact λh=>⟨k,h,by show ((k:Int)==(k:Int))=true;exact beq_self_eq_true _⟩
 rw[this]
end
end K18
namespace K18
open PySem L2 Mi Nk Wb Ht
open K13 (Ev evD hdD po pc pd p2 pq pa piT piF pr AV CI Bq Ct Bk Bl A7 Bj A9 Bc Iz Cf EY FO)
open K16 (mkK)
open K93 (Tk bl ksD ddD Yk Yj Kt)
section
variable{T:Tk}{Z:Mh}{k:Nat}{ks:List Nat}{ns:List Str}{kd:Str}{sz bg:Int}
theorem On:FE (ksD js) (.lst []) Z=some (.bl (!js.isEmpty),Z):=by
 obtain⟨h1,h2⟩:=Kt js;obtain⟨e,he,q⟩:=S7 (neg:=true) (Z:=Z) (a:=ksD js) (b:=.lst []) (by unfold Pz;exact h1) (by unfold Pz PzL;trivial) (by unfold dpt;omega) (by unfold dpt Jh;omega);show Fb true (ksD js) (.lst []) Z=_;rw[q];have:e=js.isEmpty:=by
  rw[Bool.eq_iff_iff,he];cases js with
  |nil=>exact⟨λ_=>rfl,λ_=>rfl⟩
  |cons j js=>exact⟨(λz=>by cases z),(λz=>by cases z)⟩
 rw[this];rfl
theorem O3{α:Type}{p:α->Bool}{xs:List α}:(xs.filter p).isEmpty=xs.all λa=>!p a:=by
 induction xs with
 |nil=>rfl
 |cons x xs ih=>
  rw[List.all_cons,←ih];cases q:p x with
  |true=>rw[List.filter_cons_of_pos q];rfl
  |false=>rw[List.filter_cons_of_neg (by rw[q];decide)];rfl
theorem aO(hk:k<(bl T).length)(h1:mo B Z=some (dlL T,Z))(h2:mi B Z=some (.int k,Z)):mOp AJ (mOp AJ mo mi) (mC (.int 1)) B Z=some (enD T (gk T k),Z):=po (x:=ddD T (gk T k)) (y:=.int 1) (po (x:=dlL T) (y:=.int k) h1 h2 (PM hk)) rfl rfl
theorem bM(hk:k<(bl T).length)(h1:mo B Z=some (dlL T,Z))(h2:mi B Z=some (.int k,Z)):mOp AJ (mOp AJ mo mi) (mC (.int 0)) B Z=some (.int (gk T k),Z):=po (x:=ddD T (gk T k)) (y:=.int 0) (po (x:=dlL T) (y:=.int k) h1 h2 (PM hk)) rfl rfl
noncomputable abbrev lwC:Sl->M Bool:=(Co (AN (mOp (Ci true) (mOp AJ (mOp AJ (AA 1) (AA 2)) (mC (.int 1))) (mC .non))) (AN (mOp EF (mOp AJ (mOp AJ (AA 1) (AA 2)) (mC (.int 1))) (mOp AJ (mOp AJ (AA 1) (AA 0)) (mC (.int 0))))))
theorem ZB(hk:k<(bl T).length)(hj:j<(bl T).length):lwC [some (.int j),some (dlL T),some (.int k)] Z=some (!enB T (gk T j) (gk T k),Z):=by
 have a1:=aO (Z:=Z) (mo:=AA 1) (mi:=AA 2) (B:=[some (.int j),some (dlL T),some (.int k)]) hk rfl rfl;have t1:=Jn a1;unfold enB;cases q:T.fn (gk T k) with
 |none=>rw[q] at t1;exact EU t1
 |some y=>
  rw[q] at t1;have a2:mOp AJ (mOp AJ (AA 1) (AA 2)) (mC (.int 1)) [some (.int j),some (dlL T),some (.int k)] Z=some (.int y.1,Z):=by rw[a1];unfold enD;rw[q]
  refine DN t1 (Aa (po (x:=.int y.1) (y:=.int (gk T j)) a2 (bM hj rfl rfl) ?_));show some (D.bl (decide ((y.1:Int)<(gk T j:Int))),Z)=some (D.bl (!decide ((gk T j:Int)<=(y.1:Int))),Z);by_cases z:(gk T j:Int)<=y.1
  ·rw[AAO z,AAN (by omega)];rfl
  ·rw[AAN z,AAO (by omega)];rfl
noncomputable abbrev lwB:Sl->M (Fl×Sl):=(AS (sIf (AN (mOp FE (Cd 1 [1,5] (DO (EX (AA 2) DI (Cv (AA 4)))) (AO 0) lwC (AA 0) Bn) (AG Bn AL))) (Az (mC (.bl false))) BP)
  (sIf (AN (mOp Ah (mOp AJ (mOp AJ (AA 1) (AA 5)) (mC (.int 2))) (mC (.str "writes")))) (AW (mOp AJ (mOp AJ (AA 1) (AA 5)) (mC (.int 3))) (AO 3)) (sIf (Co (AN (mOp (Ci true) (mOp AJ (mOp AJ (AA 1) (AA 5)) (mC (.int 1))) (mC .non))) (AN (mOp FE (mOp AJ (mOp AJ (AA 1) (AA 5)) (mC (.int 3))) (AA 3)))) (Az (mC (.bl false))) BP)))
noncomputable abbrev s6(mk dl od:D)(w o4 o5:Option D):Sl:=[some mk,some dl,some od,w,o4,o5]
theorem WC{mk:D}(hk:∀k∈ks,k<(bl T).length)(hl:ks.length<=900)(hb:∀b∈bl T,T.wv b≠none):∀(js pre:List Nat) (w:Int) (o4 o5:Option D),ks=pre++js->∃(w':Int) (o4' o5':Option D),B1 (CA [4,5]) lwB (B9 pre.length (js.map λk:Nat=>D.int k)) (s6 mk (dlL T) (ksD ks) (some (.int w)) o4 o5) Z=some ((if lw T (pre.map (gk T)) w (js.map (gk T)) then .next else .rt (.bl false),s6 mk (dlL T) (ksD ks) (some (.int w')) o4' o5'),Z)
 |[],pre,w,o4,o5,_=>⟨w,o4,o5,rfl⟩
 |j::js,pre,w,o4,o5,e=>by
  have hz:=A9;have hj:j<(bl T).length:=hk j (by rw[e];simp);have pl:pre.length+(js.length+1)=ks.length:=by rw[e,AAG,AAH]
  have ih:=λu=>WC (mk:=mk) hk hl hb js (pre++[j]) u (some (.int pre.length)) (some (.int j)) (by rw[e];simp);have sl:DO (EX (AA 2) DI (Cv (AA 4))) (s6 mk (dlL T) (ksD ks) (some (.int w)) (some (.int pre.length)) (some (.int j))) Z=some (pre.map (λk:Nat=>D.int k),Z):=by
   refine Bl (p2 (x:=ksD ks) (a:=none) (b:=some (pre.length:Int)) rfl rfl rfl ?_);show some (D.lst (DP (ks.map λk:Nat=>D.int k) none (some (pre.length:Int))),Z)=_;rw[EY (α:=.non) (by rw[AAF];omega),←List.map_take,e,List.take_left]
  have cp:=Ct (Z:=Z) (mc:=lwC) (me:=AA 0) (u5:=[none,some (dlL T),some (.int j)]) (f:=λk:Nat=>D.int k) (F:=λk:Nat=>D.int k) (p:=λi=>!enB T (gk T i) (gk T j)) (xs:=pre) (ys:=[]) (λi hi=>ZB hj (hk i (by rw[e];exact AAc _ hi))) (λi _ _=>rfl);rw[List.nil_append] at cp;have t1:AN (mOp FE (Cd 1 [1,5] (DO (EX (AA 2) DI (Cv (AA 4)))) (AO 0) lwC (AA 0) Bn) (AG Bn AL)) (s6 mk (dlL T) (ksD ks) (some (.int w)) (some (.int pre.length)) (some (.int j))) Z=some (!((pre.map (gk T)).all λi=>enB T i (gk T j)),Z):=by
   refine Aa (po (x:=ksD (pre.filter λi=>!enB T (gk T i) (gk T j))) (y:=.lst []) (Bq sl (by rw[AAF];omega) cp (A7 (by rw[AAF];have:=List.length_filter_le (λi=>!enB T (gk T i) (gk T j)) pre;omega))) (pd (ds:=[]) rfl (A7 (by simp))) ?_);rw[On,O3,List.all_map];simp only[Bool.not_not];rfl
  have ms:lw T (pre.map (gk T)) w ((j::js).map (gk T))=(((pre.map (gk T)).all λi=>enB T i (gk T j))&&match T.wv (gk T j) with
   |some (some v)=>lw T (pre.map (gk T)++[gk T j]) v (js.map (gk T))
   |_=>ktW T w (gk T j)&&lw T (pre.map (gk T)++[gk T j]) w (js.map (gk T))):=rfl
  have pm:(pre++[j]).map (gk T)=pre.map (gk T)++[gk T j]:=by rw[AAX];rfl
  have pn:(pre++[j]).length=pre.length+1:=by rw[AAG];rfl
  cases q0:(pre.map (gk T)).all λi=>enB T i (gk T j) with
  |false=>
   rw[q0] at t1;rw[show lw T (pre.map (gk T)) w ((j::js).map (gk T))=false from by rw[ms,q0];rfl];exact⟨w,some (.int pre.length),some (.int j),CI (x:=.tup [.int pre.length,.int j]) (x3:=s6 mk (dlL T) (ksD ks) (some (.int w)) (some (.int pre.length)) (some (.int j))) (w6:=Z) rfl (C5 (piT t1 (pr rfl)))⟩
  |true=>
   rw[q0] at t1;have t2:AN (mOp Ah (mOp AJ (mOp AJ (AA 1) (AA 5)) (mC (.int 2))) (mC (.str "writes"))) (s6 mk (dlL T) (ksD ks) (some (.int w)) (some (.int pre.length)) (some (.int j))) Z=some ((match T.wv (gk T j) with|some (some _)=>true|_=>false),Z):=by
    refine Aa (po (x:=.str (match T.wv (gk T j) with|some (some _) => "writes" |_ => "reads")) (y:=.str "writes") (po (x:=ddD T (gk T j)) (y:=.int 2) (po (x:=dlL T) (y:=.int j) rfl rfl (PM hj)) rfl Yk) rfl ?_);cases T.wv (gk T j) with
    |none=>show Ah (.str "reads") (.str "writes") Z=_;rw[FO (by decide +kernel) (by decide +kernel)];rfl
    |some y=>
     cases y with
     |none=>show Ah (.str "reads") (.str "writes") Z=_;rw[FO (by decide +kernel) (by decide +kernel)];rfl
     |some v=>show Ah (.str "writes") (.str "writes") Z=_;rw[FO (by decide +kernel) (by decide +kernel)];rfl
   have a3:mOp AJ (mOp AJ (AA 1) (AA 5)) (mC (.int 3)) (s6 mk (dlL T) (ksD ks) (some (.int w)) (some (.int pre.length)) (some (.int j))) Z=some ((match T.wv (gk T j) with|some (some v)=>.int v|_=>match T.fn (gk T j) with|some (_,v)=>.int v|none=>.non),Z):=po (x:=ddD T (gk T j)) (y:=.int 3) (po (x:=dlL T) (y:=.int j) rfl rfl (PM hj)) rfl Yj;have t3:=Jn (aO (Z:=Z) (mo:=AA 1) (mi:=AA 5) (B:=s6 mk (dlL T) (ksD ks) (some (.int w)) (some (.int pre.length)) (some (.int j))) hj rfl rfl);cases e1:T.wv (gk T j) with
   |none=>exact absurd e1 (hb _ (Sv hj))
   |some y=>
    rw[e1] at t2 a3;cases y with
    |some v=>
     obtain⟨w',p4,p5,go⟩:=ih v;rw[pm,pn] at go;rw[show lw T (pre.map (gk T)) w ((j::js).map (gk T))=lw T (pre.map (gk T)++[gk T j]) v (js.map (gk T)) from by rw[ms,q0,e1];rfl];exact⟨w',p4,p5,AV (x:=.tup [.int pre.length,.int j]) (x3:=s6 mk (dlL T) (ksD ks) (some (.int w)) (some (.int pre.length)) (some (.int j))) (w6:=Z) rfl (pq (piF t1 rfl) (piT t2 (pa a3 rfl))) go⟩
    |none=>
     obtain⟨w',p4,p5,go⟩:=ih w;rw[pm,pn] at go;have ms2:lw T (pre.map (gk T)) w ((j::js).map (gk T))=(ktW T w (gk T j)&&lw T (pre.map (gk T)++[gk T j]) w (js.map (gk T))):=by rw[ms,q0,e1];rfl
     cases q:T.fn (gk T j) with
     |none=>
      rw[q] at t3;rw[ms2,show ktW T w (gk T j)=true from by unfold ktW;rw[q],Bool.true_and];exact⟨w',p4,p5,AV (x:=.tup [.int pre.length,.int j]) (x3:=s6 mk (dlL T) (ksD ks) (some (.int w)) (some (.int pre.length)) (some (.int j))) (w6:=Z) rfl (pq (piF t1 rfl) (piF t2 (piF (EU t3) rfl))) go⟩
     |some y=>
      rw[q] at t3 a3;have kq:ktW T w (gk T j)=decide (y.2=w):=by unfold ktW;rw[q]
      have t4:(Co (AN (mOp (Ci true) (mOp AJ (mOp AJ (AA 1) (AA 5)) (mC (.int 1))) (mC .non))) (AN (mOp FE (mOp AJ (mOp AJ (AA 1) (AA 5)) (mC (.int 3))) (AA 3)))) (s6 mk (dlL T) (ksD ks) (some (.int w)) (some (.int pre.length)) (some (.int j))) Z=some (!(y.2==w),Z):=DN t3 (Aa (po (x:=.int y.2) (y:=.int w) a3 rfl rfl));by_cases z:y.2=w
      ·rw[ms2,kq,AAO z,Bool.true_and];exact⟨w',p4,p5,AV (x:=.tup [.int pre.length,.int j]) (x3:=s6 mk (dlL T) (ksD ks) (some (.int w)) (some (.int pre.length)) (some (.int j))) (w6:=Z) rfl (pq (piF t1 rfl) (piF t2 (piF (by rw[t4,z,beq_self_eq_true];rfl) rfl))) go⟩
      ·rw[ms2,kq,AAN z,Bool.false_and];exact⟨w,some (.int pre.length),some (.int j),CI (x:=.tup [.int pre.length,.int j]) (x3:=s6 mk (dlL T) (ksD ks) (some (.int w)) (some (.int pre.length)) (some (.int j))) (w6:=Z) rfl (pq (piF t1 rfl) (piF t2 (piT (by rw[t4,AAf.mpr z];rfl) (pr rfl))))⟩
noncomputable abbrev φL:List D->M D:=Ay .drop 6 3 Em
theorem Lj(hk:∀k∈ks,k<(bl T).length)(hl:ks.length<=900)(hbl:(bl T).length<=900)(hb:∀b∈bl T,T.wv b≠none):φL [mkK kd sz bg ns,dlL T,ksD ks] Z=some (.bl (vb T bg (ks.map (gk T))),Z):=by
 have hz:=A9;obtain⟨w',o4,o5,go⟩:=WC (Z:=Z) (mk:=mkK kd sz bg ns) hk hl hb ks [] bg none none rfl;have cp:=LL (Z:=Z) (bf:=CA [0,1]) (mc:=(Co (AN (mOp (Ci true) (mOp AJ (AA 1) (mC (.int 1))) (mC .non))) (AN (mOp (FR true) (AA 0) (AA 2))))) (me:=AA 0) (u5:=[none,none,some (ksD ks)]) (f:=λk:Nat=>D.tup [.int k,ddD T (gk T k)]) (F:=λk:Nat=>D.int k) (g:=λk:Nat=>[some (.int k),some (ddD T (gk T k)),some (ksD ks)]) (p:=λk=>(T.fn (gk T k)).isSome&&!decide (k∈ks)) (xs:=List.range (bl T).length) (ys:=[]) (λa _=>rfl) (λa _=>by
  have t1:AN (mOp (Ci true) (mOp AJ (AA 1) (mC (.int 1))) (mC .non)) [some (.int a),some (ddD T (gk T a)),some (ksD ks)] Z=some ((T.fn (gk T a)).isSome,Z):=Jn (po (x:=ddD T (gk T a)) (y:=.int 1) rfl rfl rfl);cases q:(T.fn (gk T a)).isSome with
  |false=>rw[q] at t1;exact EU t1
  |true=>rw[q] at t1;exact DN t1 (Aa (po (x:=.int a) (y:=ksD ks) rfl rfl Z3))) (λa _ _=>rfl)
 rw[List.nil_append] at cp;have t0:AN (mOp FE (Cd 2 [2] (ET (AC (AA 1) AL)) (CA [0,1]) (Co (AN (mOp (Ci true) (mOp AJ (AA 1) (mC (.int 1))) (mC .non))) (AN (mOp (FR true) (AA 0) (AA 2)))) (AA 0) Bn) (AG Bn AL)) [some (mkK kd sz bg ns),some (dlL T),some (ksD ks),none,none,none] Z=some (!heB T (ks.map (gk T)),Z):=by
  refine Aa (po (x:=ksD ((List.range (bl T).length).filter λk=>(T.fn (gk T k)).isSome&&!decide (k∈ks))) (y:=.lst []) (Bq (ds:=(List.range (bl T).length).map λk:Nat=>D.tup [.int k,ddD T (gk T k)]) ?_ (by rw[AAF,List.length_range];omega) cp (A7 (by
   rw[AAF];have:=List.length_filter_le (λk=>(T.fn (gk T k)).isSome&&!decide (k∈ks)) (List.range (bl T).length);rw[List.length_range] at this;omega))) (pd (ds:=[]) rfl (A7 (by simp))) ?_)
  ·show some (B9 0 ((bl T).map (ddD T)),Z)=_;rw[IF]
  ·rw[On,O3,←WL hk,List.all_filter];refine congrArg (λb:Bool=>some (D.bl (!b),Z)) (congrArg (List.all (List.range (bl T).length)) (funext λa=>?_));cases (T.fn (gk T a)).isSome<;>simp
 rw[←Z1];have fo:EO (ET (AC (AA 2) AL)) (CA [4,5]) lwB (s6 (mkK kd sz bg ns) (dlL T) (ksD ks) (some (.int bg)) none none) Z=_:=EK (ds:=B9 0 (ks.map λk:Nat=>D.int k)) (w6:=Z) rfl go;cases q:heB T (ks.map (gk T)) with
 |false=>
  rw[q] at t0;refine Au (g:=[]) (x6:=[some (mkK kd sz bg ns),some (dlL T),some (ksD ks),none,none,none]) ?_ rfl (by unfold Cl;trivial);rw[AAa];exact C5 (piT t0 (pr rfl))
 |true=>
  rw[q] at t0;rw[Bool.true_and];refine Au (g:=[]) (x6:=s6 (mkK kd sz bg ns) (dlL T) (ksD ks) (some (.int w')) o4 o5) ?_ rfl (by unfold Cl;trivial);rw[AAa];refine pq (piF t0 rfl) (pq (x3:=s6 (mkK kd sz bg ns) (dlL T) (ksD ks) (some (.int bg)) none none) (pa (po (x:=mkK kd sz bg ns) (y:=.int 2) rfl rfl rfl) rfl) ?_);have q2:(([]:List Nat).map (gk T))=[]:=rfl;rw[q2] at fo;cases q3:lw T [] bg (ks.map (gk T)) with
  |true=>rw[q3] at fo;exact pq fo (pr rfl)
  |false=>rw[q3] at fo;exact C5 fo
end
end K18
namespace K18
open PySem L2 Mi Nk Wb Ht
open K13 (Ae Ai Ev Ev.beg Ev.hand Ev.val wfG Ns evD Am bS po pc pd p2 pq pa piT piF pr JM GL A7 A0 Bj A9 Bc GA Cf BJ CN)
open K16 (mkK FH Ez asCs_csD Ap Ao oC V0 V1 Vy Vz)
open K15 (one)
open K93 (Tk bl ksD Ex ES)
section
variable{Z:Mh}{k n:Nat}{ks:List Nat}
noncomputable def pth:List Nat->D
 |[]=>.non
 |k::r=>.tup [.int k,pth r]
noncomputable abbrev ooB:Sl->M (Fl×Sl):=(AS (BI (Aj Cw (AA 1) (AC (mOp AJ (AA 0) (mC (.int 0))) AL)))
  (AW (mOp AJ (AA 0) (mC (.int 1))) (AO 0)))
noncomputable abbrev ooT:Sl->M Bool:=(AN (mOp (Ci true) (AA 0) (mC .non)))
theorem e_0:(Z++[x])[Z.length]?=some x:=by rw[AAR (AAE _),AAw];rfl
theorem f_0:(Z++[x]).set Z.length y=Z++[y]:=by rw[AAg _ _ (AAE _),AAw];rfl
theorem V8:∀(r acc:List Nat) (f:Nat),r.length<f->acc.length+r.length<=1000->GP ooT ooB f [some (pth r),some (.ref Z.length)] (Z++[.lst (acc.map λk:Nat=>D.int k)])=some ((.next,[some .non,some (.ref Z.length)]),Z++[.lst ((acc++r).map λk:Nat=>D.int k)])
 |[],acc,f+1,_,_=>by
  rw[AAa];exact GL (Aa (po (x:=.non) (y:=.non) rfl rfl rfl))
 |k::r,acc,f+1,h,hl=>by
  have hz:=A9;rw[AAH] at h hl;have ih:=V8 r (acc++[k]) f (by omega) (by rw[AAG,List.length_singleton];omega);rw[AAm] at ih;refine JM (w9:=Z++[.lst ((acc++[k]).map λk:Nat=>D.int k)]) (x6:=[some (pth r),some (.ref Z.length)]) (Aa (po (x:=pth (k::r)) (y:=.non) rfl rfl rfl)) ?_ ih;refine AX (x3:=[some (pth (k::r)),some (.ref Z.length)]) (w6:=Z++[.lst ((acc++[k]).map λk:Nat=>D.int k)]) (Dp (d:=.non) (D9 (x:=.ref Z.length) (ds:=[.int k]) (w6:=Z++[.lst (acc.map λk:Nat=>D.int k)]) (w9:=Z++[.lst (acc.map λk:Nat=>D.int k)]) (x8:=Z++[.lst (acc.map λk:Nat=>D.int k)]) rfl (BJ e_0) (pc (po (x:=pth (k::r)) (y:=.int 0) rfl rfl rfl) rfl) ?_)) (pa (d:=pth r) (po (x:=pth (k::r)) (y:=.int 1) rfl rfl rfl) rfl);rw[CN e_0 (by rw[AAF];omega),f_0,AAX];rfl
theorem OC(hl:ks.length<=1000):B2 [pth ks.reverse] Z=some (.ref Z.length,Z++[.lst (ks.map λk:Nat=>D.int k)]):=by
 have go:GP ooT ooB Ep [some (pth ks.reverse),some (.ref Z.length)] (Z++[MO.lst []])=some ((.next,[some .non,some (.ref Z.length)]),Z++[MO.lst (ks.reverse.map λk:Nat=>D.int k)]):=V8 (Z:=Z) ks.reverse [] Ep (by rw[List.length_reverse];unfold Ep;omega) (by simp;omega);refine Ex (x6:=[some .non,some (.ref Z.length)]) ?_ rfl;refine AX (w6:=Z++[MO.lst []]) (x3:=[some (pth ks.reverse),some (.ref Z.length)]) (CZ (d:=.ref Z.length) (B8 (ds:=[]) rfl (ES (by simp))) rfl) ?_;refine AX (w6:=Z++[MO.lst (ks.reverse.map λk:Nat=>D.int k)]) (x3:=[some .non,some (.ref Z.length)]) go (AX (x3:=[some .non,some (.ref Z.length)]) (w6:=Z++[MO.lst (ks.map λk:Nat=>D.int k)]) (Dp (d:=.non) ?_) (De rfl));unfold FF;rw[AK (show AA 1 [some .non,some (.ref Z.length)] (Z++[.lst (ks.reverse.map λk:Nat=>D.int k)])=some (.ref Z.length,Z++[.lst (ks.reverse.map λk:Nat=>D.int k)]) from rfl),AK (BJ e_0)];show EC Z.length _ _=_;unfold EC;rw[e_0];show some (D.non,(Z++[MO.lst (ks.reverse.map λk:Nat=>D.int k)]).set Z.length (.lst ((ks.reverse.map λk:Nat=>D.int k).reverse)))=_;rw[f_0,←List.map_reverse,List.reverse_reverse]
theorem Y8(hr:e.hand<=c.2.2.length)(hl:c.2.2.length<=1000):sIf (AN (mOp Ah (mOp AJ (AA 1) (mC (.int 0))) (mC (.str "begin")))) (AW (AG Ap (AC (AA 3) (AC (mOp AJ (AA 1) (mC (.int 1))) (AC (mOp AJ (AA 1) (mC (.int 2))) AL)))) (AO 5)) (AW (AG Ao (AC (AA 3) (AC (mOp AJ (AA 1) (mC (.int 1))) (AC (mOp AJ (AA 1) (mC (.int 2))) AL)))) (AO 5)) [o0,some (Am e g),o2,some (csD c),o4,o5] Z=some ((.next,[o0,some (Am e g),o2,some (csD c),o4,some (oC (one e c))]),Z):=by
 have t:AN (mOp Ah (mOp AJ (AA 1) (mC (.int 0))) (mC (.str "begin"))) [o0,some (Am e g),o2,some (csD c),o4,o5] Z=some (e.beg,Z):=Aa (po (x:=.str (bS e.beg)) (y:=.str "begin") (po (x:=Am e g) (y:=.int 0) rfl rfl rfl) rfl GA);have ar:(AC (AA 3) (AC (mOp AJ (AA 1) (mC (.int 1))) (AC (mOp AJ (AA 1) (mC (.int 2))) AL))) [o0,some (Am e g),o2,some (csD c),o4,o5] Z=some ([csD c,.int e.hand,.int (e.val.getD (-1))],Z):=pc rfl (pc (po (x:=Am e g) (y:=.int 1) rfl rfl rfl) (pc (po (x:=Am e g) (y:=.int 2) rfl rfl rfl) rfl));cases e with
 |wb v=>exact piT t (pa (pd ar V0) rfl)
 |we=>exact piF t (pa (pd ar Vy) rfl)
 |rb r=>exact piT t (pa (pd ar (V1 hr hl)) rfl)
 |re r v=>exact piF t (pa (pd ar (Vz hr hl)) rfl)
noncomputable abbrev pbB:Sl->M (Fl×Sl):=(AS (sIf (AN (mOp Ah (mOp AJ (AA 1) (mC (.int 0))) (mC (.str "begin")))) (AW (AG Ap (AC (AA 3) (AC (mOp AJ (AA 1) (mC (.int 1))) (AC (mOp AJ (AA 1) (mC (.int 2))) AL)))) (AO 5)) (AW (AG Ao (AC (AA 3) (AC (mOp AJ (AA 1) (mC (.int 1))) (AC (mOp AJ (AA 1) (mC (.int 2))) AL)))) (AO 5)))
  (sIf (AN (mOp (Ci true) (AA 5) (mC .non))) (Ed (AA 2) (AA 5) (AA 4)) BP))
noncomputable def bhd(e:Ev)(l:List (Cs×D)):List (Cs×D):=l.filterMap λy=>(one e y.1).map λc=>(c,y.2)
theorem LR:∀{l:List (Cs×D)},(bhd e l).map (·.1)=l.filterMap λy=>one e y.1
 |[]=>rfl
 |y::l=>by
  unfold bhd;rw[List.filterMap_cons,List.filterMap_cons];have ih:=LR (e:=e) (l:=l);unfold bhd at ih;cases one e y.1 with
  |none=>exact ih
  |some c=>exact congrArg (c::·) ih
theorem GT(h:Z[n]?=some (.dC l)):FT n l Z=some ((),Z):=by
 unfold FT;rw[h];dsimp only;rw[if_pos rfl]
theorem R7(hn:Z[n]?=some (.dC l))(hr:∀y∈l,e.hand<=y.1.2.2.length/\y.1.2.2.length<=1000)(hl:l.length<=3000):∀(r acc:List (Cs×D)) (o3 o4 o5:Option D),(∀y∈r,y∈l)->(acc.map (·.1)++(bhd e r).map (·.1)).Nodup->acc.length+r.length<=3000->∃o3' o4' o5':Option D,
  MS n l (CA [3,4]) pbB r [some (.ref n),some (Am e g),some (.ref Z.length),o3,o4,o5] (Z++[.dC acc])=some ((.next,[some (.ref n),some (Am e g),some (.ref Z.length),o3',o4',o5']),Z++[.dC (acc++bhd e r)])
 |[],acc,o3,o4,o5,_,_,_=>⟨o3,o4,o5,by
  have hn':(Z++[MO.dC acc])[n]?=some (.dC l):=by rw[AAS (AAT.mp hn).1];exact hn
  show bnd (FT n l) _ _=_;rw[AK (GT hn'),show bhd e []=[] from rfl,AAa];rfl⟩
 |y::r,acc,o3,o4,o5,hy,nd,hs=>by
  have hz:=A9;have hn':(Z++[MO.dC acc])[n]?=some (.dC l):=by rw[AAS (AAT.mp hn).1];exact hn
  rw[AAH] at hs;have h1:=hr y (hy y AAP);have vo:=Y8 (Z:=Z++[.dC acc]) (e:=e) (g:=g) (c:=y.1) (o0:=some (.ref n)) (o2:=some (.ref Z.length)) (o4:=some y.2) (o5:=o5) h1.1 h1.2;have st:∀{f:Fl×Sl} {M2:Mh},pbB [some (.ref n),some (Am e g),some (.ref Z.length),some (csD y.1),some y.2,o5] (Z++[.dC acc])=some ((.next,f.2),M2)->∀{R:(Fl×Sl)×Mh},MS n l (CA [3,4]) pbB r f.2 M2=some R->MS n l (CA [3,4]) pbB (y::r) [some (.ref n),some (Am e g),some (.ref Z.length),o3,o4,o5] (Z++[.dC acc])=some R:=λ{f M2} b1 {R} b2=>by
   show bnd (FT n l) _ _=_;rw[AK (GT hn')];show bnd (CA [3,4] (.tup [csD y.1,y.2]) _) _ _=_;rw[AK (show CA [3,4] (.tup [csD y.1,y.2]) [some (.ref n),some (Am e g),some (.ref Z.length),o3,o4,o5] (Z++[MO.dC acc])=some ([some (.ref n),some (Am e g),some (.ref Z.length),some (csD y.1),some y.2,o5],Z++[MO.dC acc]) from rfl),AK b1];exact b2
  cases q:one e y.1 with
  |none=>
   have eb:bhd e (y::r)=bhd e r:=by unfold bhd;rw[List.filterMap_cons,q];rfl
   rw[eb] at nd ⊢;rw[q] at vo;obtain⟨p3,p4,p5,go⟩:=R7 (g:=g) hn hr hl r acc (some (csD y.1)) (some y.2) (some .non) (λz hz=>hy z (AAQ _ hz)) nd (by omega);exact⟨p3,p4,p5,st (f:=(.next,_)) (AX vo (Dh (Aa (po (x:=.non) (y:=.non) rfl rfl rfl)) rfl)) go⟩
  |some c=>
   have eb:bhd e (y::r)=(c,y.2)::bhd e r:=by unfold bhd;rw[List.filterMap_cons,q];rfl
   rw[eb] at nd ⊢;rw[q] at vo;have nd':((acc++[(c,y.2)]).map (·.1)++(bhd e r).map (·.1)).Nodup:=by
    rw[AAX,AAm];exact nd
   obtain⟨p3,p4,p5,go⟩:=R7 (g:=g) hn hr hl r (acc++[(c,y.2)]) (some (csD y.1)) (some y.2) (some (csD c)) (λz hz=>hy z (AAQ _ hz)) nd' (by rw[AAG,List.length_singleton];omega);rw[AAm] at go;refine⟨p3,p4,p5,st (f:=(.next,_)) (AX vo (Dg (w6:=Z++[.dC acc]) (Aa (po (x:=csD c) (y:=.non) rfl rfl rfl)) ?_)) go⟩;have nc:c∉acc.map (·.1):=λz=>by
    have:=(List.nodup_append.mp nd).2.2 c z c (by rw[AAW];exact AAP);exact this rfl
   have:=FH (B:=[some (.ref n),some (Am e g),some (.ref Z.length),some (csD y.1),some y.2,some (csD c)]) (Z:=Z++[.dC acc]) (n:=Z.length) (mo:=AA 2) (mi:=AA 5) (mv:=AA 4) (v:=y.2) (c:=c) (L:=acc) rfl rfl rfl e_0 (by omega) nc;rw[f_0] at this;exact this
theorem Lk(hn:Z[n]?=some (.dC l))(hr:∀y∈l,e.hand<=y.1.2.2.length/\y.1.2.2.length<=1000)(hl:l.length<=3000)(nd:((bhd e l).map (·.1)).Nodup):A4 [.ref n,Am e g] Z=some (.ref Z.length,Z++[.dC (bhd e l)]):=by
 obtain⟨p3,p4,p5,go⟩:=R7 (g:=g) hn hr hl l [] none none none (λy h=>h) nd (by simp;exact hl);rw[List.nil_append] at go;refine Ex (x6:=[some (.ref n),some (Am e g),some (.ref Z.length),p3,p4,p5]) ?_ rfl;refine AX (w6:=Z++[.dC []]) (x3:=[some (.ref n),some (Am e g),some (.ref Z.length),none,none,none]) rfl (AX ?_ (De rfl));show bnd (AA 0 [some (.ref n),some (Am e g),some (.ref Z.length),none,none,none]) _ _=_;rw[AK (show AA 0 [some (.ref n),some (Am e g),some (.ref Z.length),none,none,none] (Z++[MO.dC []])=some (.ref n,Z++[MO.dC []]) from rfl),AK (Ez (show (Z++[MO.dC []])[n]?=some (.dC l) from by rw[AAS (AAT.mp hn).1];exact hn))];exact go
end
end K18
namespace K18
open PySem L2 Mi Nk Wb Ht
open K13 (po pc pd p2 pq pa piT piF pr A0 A9 H9)
open K16 (FH Ez asCs_csD BK HE wH Ways LV)
open K93 (Ex)
section
variable{Z:Mh}{n g:Nat}
theorem HB:∀{l:List (Cs×D)} {c:Cs},c∈l.map (·.1)->∃d,Hm l c=some d/\(c,d)∈l
 |[],c,h=>by cases h
 |(z,x)::l,c,h=>by
  by_cases e:z=c
  ·subst e;exact⟨x,by simp[Hm],AAP⟩
  ·rw[AAW] at h;obtain⟨d,h1,h2⟩:=HB ((AAI.mp h).resolve_left (Ne.symm e));exact⟨d,by simpa[Hm,e] using h1,AAQ _ h2⟩
theorem Sc(h:Z[n]?=some (.dC L))(hv:Hm L c=some d):Gy (.ref n) (csD c) Z=some (d,Z):=by
 unfold Gy;rw[AK (Ez h)];show ((Ha (csD c)).bind (Hm L)).map _=_;rw[asCs_csD,Option.bind_some,hv];rfl
noncomputable abbrev wmH(Z:Mh)(F W:List (Cs×D))(gg:Mh):Mh:=Z++(.dC F::.dC W::.lst []::gg)
theorem wm0:(wmH Z F W gg)[Z.length]?=some (.dC F):=by rw[AAR (AAE _),AAw];rfl
theorem wm1:(wmH Z F W gg)[Z.length+1]?=some (.dC W):=by rw[AAR (by omega),Nat.add_sub_cancel_left];rfl
theorem wmS:(wmH Z F W gg).set Z.length (.dC F')=wmH Z F' W gg:=by rw[AAg _ _ (AAE _),AAw];rfl
theorem wmN(h:Z[n]?=some x):(wmH Z F W gg)[n]?=some x:=by rw[AAS (AAT.mp h).1];exact h
noncomputable abbrev wmB:Sl->M (Fl×Sl):=(sIf (AN (mOp (Ci false) (AA 4) (mC .non))) (Ed (AA 2) (AA 3) (mOp Gy (AA 0) (AA 3))) (Ed (AA 2) (AA 3) (AG Bf (AC (mOp D3 (AA 1) (mOp AJ (AA 4) (mC (.int 0)))) (AC (mOp Gy (AA 2) (mOp AJ (AA 4) (mC (.int 1)))) AL)))))
theorem Vu{l W:List (Cs×D)}{L:List (Key×D)}{P:Cs->D->Prop}(hn:Z[n]?=some (.dC l))(hg:Z[g]?=some (.dK L))(h0:∀y∈l,P y.1 y.2)
  (hs:∀(p c:Cs) (h:Nat) (d:D),(h,c)∈Dt p->P p d->∃i:D,CW L (.inl (h:Int))=some i/\P c (.tup [i,d]))
  (wy:Ways (l.map (·.1)) W) (nd:(W.map (·.1)).Nodup) (hW:W.length<=3000):∀(r pre F:List (Cs×D)) (o3 o4:Option D),pre++r=W->F.map (·.1)=pre.map (·.1)->(∀y∈F,P y.1 y.2)->∃(F':List (Cs×D)) (o3' o4':Option D),F'.map (·.1)=W.map (·.1)/\(∀y∈F',P y.1 y.2) /\
  MS (Z.length+1) W (CA [3,4]) wmB r [some (.ref n),some (.ref g),some (.ref Z.length),o3,o4] (wmH Z F W gg)=some ((.next,[some (.ref n),some (.ref g),some (.ref Z.length),o3',o4']),wmH Z F' W gg)
 |[],pre,F,o3,o4,ew,ef,hF=>by
  rw[AAa] at ew;subst ew;refine⟨F,o3,o4,ef,hF,?_⟩;show bnd (FT (Z.length+1) pre) _ _=_;rw[AK (GT wm1)];rfl
 |y::r,pre,F,o3,o4,ew,ef,hF=>by
  have hz:=A9;have hi:W[pre.length]?=some y:=by rw[←ew,AAR (AAE _),AAw];rfl
  have hl:pre.length<W.length:=(AAT.mp hi).1;have lf:F.length=pre.length:=by have:=congrArg List.length ef;simpa using this
  have nin:y.1∉F.map (·.1):=by
   rw[ef];rw[←ew,AAX,AAW] at nd;exact λz=>(List.nodup_append.mp nd).2.2 _ z _ AAP rfl
  have key:∃d,P y.1 d/\wmB [some (.ref n),some (.ref g),some (.ref Z.length),some (csD y.1),some y.2] (wmH Z F W gg)=some ((.next,[some (.ref n),some (.ref g),some (.ref Z.length),some (csD y.1),some y.2]),wmH Z (F++[(y.1,d)]) W gg):=by
   rcases wy _ _ hi with ⟨e2,hc⟩|⟨h,p,j,e2,hm,hj,ep⟩
   ·obtain⟨d,hv,hd⟩:=HB hc;refine⟨d,h0 _ hd,?_⟩;rw[e2];refine Dg (w6:=wmH Z F W gg) (Aa (po (x:=.non) (y:=.non) rfl rfl rfl)) ?_;have:=FH (B:=[some (.ref n),some (.ref g),some (.ref Z.length),some (csD y.1),some D.non]) (Z:=wmH Z F W gg) (n:=Z.length) (mo:=AA 2) (mi:=AA 3) (mv:=mOp Gy (AA 0) (AA 3)) (v:=d) (c:=y.1) (L:=F) (po (x:=.ref n) (y:=csD y.1) rfl rfl (Sc (wmN hn) hv)) rfl rfl wm0 (by omega) nin;rw[wmS] at this;exact this
   ·have hp:p∈F.map (·.1):=by
     rw[ef];rw[←ew,AAX,AAS (by rw[AAF];exact hj)] at ep;exact AAU ep
    obtain⟨d,hv,hd⟩:=HB hp;obtain⟨i,hi2,hP⟩:=hs p y.1 h d hm (hF _ hd);refine⟨_,hP,?_⟩;rw[e2];refine Dh (w6:=wmH Z F W gg) (Aa (po (x:=.tup [.int h,csD p]) (y:=.non) rfl rfl rfl)) ?_;have:=FH (B:=[some (.ref n),some (.ref g),some (.ref Z.length),some (csD y.1),some (D.tup [.int h,csD p])]) (Z:=wmH Z F W gg) (n:=Z.length) (mo:=AA 2) (mi:=AA 3) (mv:=AG Bf (AC (mOp D3 (AA 1) (mOp AJ (AA 4) (mC (.int 0)))) (AC (mOp Gy (AA 2) (mOp AJ (AA 4) (mC (.int 1)))) AL))) (v:=.tup [i,d]) (c:=y.1) (L:=F) (pd (ds:=[i,d]) (pc (po (x:=.ref g) (y:=.int h) rfl (po (x:=.tup [.int h,csD p]) (y:=.int 0) rfl rfl rfl) (H9 (wmN hg) hi2)) (pc (po (x:=.ref Z.length) (y:=csD p) rfl (po (x:=.tup [.int h,csD p]) (y:=.int 1) rfl rfl rfl) (Sc wm0 hv)) rfl)) (A0 (by simp;omega))) rfl rfl wm0 (by omega) nin;rw[wmS] at this;exact this
  obtain⟨d,hP,st⟩:=key;obtain⟨F',p3,p4,e',hF',go⟩:=Vu hn hg h0 hs wy nd hW r (pre++[y]) (F++[(y.1,d)]) (some (csD y.1)) (some y.2) (by rw[AAm];exact ew) (by rw[AAX,AAX,ef];rfl) (λz hz=>by
   rcases AAJ.mp hz with q|q
   ·exact hF z q
   ·rw[AAK.mp q];exact hP)
  refine⟨F',p3,p4,e',hF',?_⟩;show bnd (FT (Z.length+1) W) _ _=_;rw[AK (GT wm1)];show bnd (CA [3,4] (.tup [csD y.1,y.2]) _) _ _=_;rw[AK (show CA [3,4] (.tup [csD y.1,y.2]) [some (.ref n),some (.ref g),some (.ref Z.length),o3,o4] (wmH Z F W gg)=some ([some (.ref n),some (.ref g),some (.ref Z.length),some (csD y.1),some y.2],wmH Z F W gg) from rfl),AK st];exact go
theorem Fr{l:List (Cs×D)}{L:List (Key×D)}{U:List Cs}{P:Cs->D->Prop}(hn:Z[n]?=some (.dC l))(hg:Z[g]?=some (.dK L))(h0:∀y∈l,P y.1 y.2)
  (hs:∀(p c:Cs) (h:Nat) (d:D),(h,c)∈Dt p->P p d->∃i:D,CW L (.inl (h:Int))=some i/\P c (.tup [i,d]))
  (nd:(l.map (·.1)).Nodup) (hU:∀x∈clo (l.map (·.1)),x∈U) (hN:U.length<3000) (hw:∀x∈clo (l.map (·.1)),x.2.2.length<=100) :
  ∃(F W:List (Cs×D)) (gg:Mh),Wk (l.map (·.1)) (F.map (·.1)) []/\(∀y∈F,P y.1 y.2)/\A3 [.ref n,.ref g] Z=some (.ref Z.length,wmH Z F W gg):=by
 obtain⟨W,gg,wk,wy,_,er⟩:=HE (Z:=Z++[.dC []]) nd hU hN hw;have hW:W.length<=3000:=by
  have:=DY wk.nd λx hx=>hU x (wk.frm x hx);rw[AAF] at this;omega
 obtain⟨F,p3,p4,e',hF,go⟩:=Vu (gg:=gg) hn hg h0 hs wy wk.nd hW W [] [] none none rfl rfl (λy hy=>by cases hy);refine⟨F,W,gg,by rw[e'];exact wk,hF,?_⟩;refine Ex (x6:=[some (.ref n),some (.ref g),some (.ref Z.length),p3,p4]) ?_ rfl;have hn':(Z++[MO.dC []])[n]?=some (.dC l):=by rw[AAS (AAT.mp hn).1];exact hn
 refine AX (w6:=Z++[.dC []]) (x3:=[some (.ref n),some (.ref g),some (.ref Z.length),none,none]) rfl (AX ?_ (De rfl));have hh:wH (Z++[MO.dC []]) W [] gg=wmH Z [] W gg:=by
  show (Z++[MO.dC []])++_=_;rw[AAm];rfl
 have hr:AG BK (AC (AG Gj (AC (AA 0) AL)) AL) [some (.ref n),some (.ref g),some (.ref Z.length),none,none] (Z++[MO.dC []])=some (.ref (Z.length+1),wmH Z [] W gg):=by
  have a1:(AC (AG Gj (AC (AA 0) AL)) AL) [some (.ref n),some (.ref g),some (.ref Z.length),none,none] (Z++[MO.dC []])=some ([.lst ((l.map (·.1)).map csD)],Z++[MO.dC []]):=by
   refine pc (pd (ds:=[.ref n]) rfl ?_) rfl;show bnd (G5 (.ref n)) _ _=_;rw[AK (Ez hn'),List.map_map];rfl
  refine B8 a1 ?_;rw[er,hh,AAG];rfl
 show bnd _ _ _=_;rw[AK hr,AK (Ez wm1)];exact go
end
end K18
namespace Mi
open PySem L2
section
variable{Z l:Mh}{o:MO}{k i n N ps:Nat}{B:Sl}{d:D}{ds es:List D}{ra:Sl->M (List D)}{tc:Sl->M Bool}{m:Sl->M (Fl×Sl)}{QD:D->Mh->Prop}{QB:Bool->Mh->Prop}{QS:Fl×Sl->Mh->Prop}{b:Bool}
theorem EI:(Z++l)[Z.length+k]?=l[k]?:=by rw[AAR (by omega)];congr 1;omega
theorem JD:(Z++l).set (Z.length+k) o=Z++l.set k o:=by rw[AAg _ _ (by omega)];congr 2;omega
theorem N9(h:ds.length<=sizeLine)(q:QD (.ref (Z.length+l.length)) (Z++(l++[.lst ds]))):WP (DJ ds) (Z++l) QD:=N6 h (by rw[AAG,AAm];exact q)
theorem G9(hg:l[k]?=some (.lst ds)):Ca (.ref (Z.length+k)) (Z++l)=some (ds,Z++l):=by
 show (match (Z++l)[Z.length+k]? with|some (.lst ds)=>some (ds,Z++l)|_=>none)=_;rw[EI,hg]
theorem Mw(ht:B[i]?=some (some (.ref (Z.length+k))))(hg:l[k]?=some (.lst ds))(hl:ds.length<sizeLine)(h:WP (ra B) (Z++l) λes w6=>∃y,es=[y]/\w6=Z++l/\QD .non (Z++l.set k (.lst (ds++[y])))):WP (Aj Cw (AA i) ra B) (Z++l) QD:=by
 unfold Aj;refine Ab (wp_of (A1 ht) (Ab (wp_of (a:=()) (by unfold Dc;rw[AK (G9 hg)];rfl) (Ab (AT h ?_)))));rintro es w6 ⟨y,rfl,rfl,q⟩;refine wp_of (a:=.non) ?_ q;show EC (Z.length+k) (λds=>if ds.length<sizeLine then some (.non,ds++[y]) else none) (Z++l)=_;unfold EC;rw[EI,hg];simp[hl,JD]
theorem UR{y:D}{P:D->Prop}{ν:Mh}(h:P y):∃z,[y]=[z]/\ν=ν/\P z:=⟨y,rfl,rfl,h⟩
theorem XB(hg:l[k]?=some (.lst ds))(q:QD (.int ds.length) (Z++l)):WP (Bh [.ref (Z.length+k)]) (Z++l) QD:=by
 refine wp_of ?_ q;unfold Bh;simp only[EI,hg]
theorem UD{ν:Mh}(q:QD (.int ds.length) ν):WP (Bh [.lst ds]) ν QD:=⟨_,ν,rfl,q⟩
theorem UV{p:M Bool}(h1:b=true->WP p Z QB)(h2:b=false->QB false Z):Vp p QB b Z:=by cases b;exact h2 rfl;exact h1 rfl
noncomputable def whK(n:Nat)(tc:Sl->M Bool)(m:Sl->M (Fl×Sl))(B:Sl)(QS:Fl×Sl->Mh->Prop):Bool->Mh->Prop
 |true,Z=>WP (m B) Z (J2 (λB' Z'=>WP (FY n tc m B') Z' QS) QS)
 |false,Z=>QS (.next,B) Z
theorem UO(h:WP (m B) Z (J2 (λB' Z'=>WP (FY n tc m B') Z' QS) QS)):whK n tc m B QS true Z:=h
theorem UP(h:QS (.next,B) Z):whK n tc m B QS false Z:=h
theorem Vv(h:WP (tc B) Z (whK n tc m B QS)):WP (FY (n+1) tc m B) Z QS:=by
 refine Ab (AT h λb w6 z=>?_);cases b with
 |false=>exact BQ z
 |true=>
  refine Ab (AT z λr w9 z=>?_);obtain⟨fl,x3⟩:=r;cases fl<;>first|exact z|exact BQ z
theorem OA(hl:ds.length=ps)(h:WP (m (BR N ds)) (Z++[]) λr w9=>∃d x6 gs,r=(.rt d,x6)/\w9=Z++gs/\Cl Z.length d/\QD d Z):WP (Ay .drop N ps m ds) Z QD:=DB hl (by rw[AAa] at h;exact h)
theorem Qv(hl:ds.length=ps)(h:WP (m (BR N ds)) (Z++[]) λr w9=>∃k es x6 gs,r=(.rt (.ref (Z.length+k)),x6)/\w9=Z++gs/\gs[k]?=some (.lst es)/\ClL Z.length es/\QD (.lst es) Z):WP (Ay .frz N ps m ds) Z QD:=by
 rw[AAa] at h;obtain⟨r,w9,e,k,es,x6,gs,rfl,rfl,hg,c,q⟩:=h;exact wp_of (KN e hl (by omega) (by rw[EI];exact hg) c) q
theorem UY{bf:D->Sl->M Sl}{ν:Mh}(h:WP (bf (.int 0) B) ν λx3 w6=>WP (m x3) w6 (J2 (λB' Z'=>QS (.next,B') Z') QS)):WP (B1 bf m ((List.range 1).map λ(i:Nat)=>D.int (i:Int)) B) ν QS:=Wy (I:=λj B' Z'=>(j=0/\B'=B/\Z'=ν)∨(j=1/\QS (.next,B') Z')) (λj x3 w6 hj hI=>by
 rcases hI with ⟨rfl,rfl,rfl⟩|⟨rfl,_⟩
 ·refine AT h λx3 w6 z=>AT z λr w9 z=>?_;obtain⟨fl,x6⟩:=r;cases fl<;>first|exact z|exact .inr ⟨rfl,z⟩
 ·omega) (λx3 w6 hI=>by rcases hI with ⟨h,_⟩|⟨_,h⟩;exact absurd h (by decide);exact h) (.inl ⟨rfl,rfl,rfl⟩)
theorem UL{ν:Mh}(h:(ds++es).length<=sizeLine)(q:QD (.tup (ds++es)) ν):WP (As (.tup ds) (.tup es)) ν QD:=by
 refine wp_of ?_ q;cases ds with
 |nil=>rfl
 |cons a as=>
  show bnd (lim (a::as++es).length) (λ_=>ret (D.tup (a::as++es))) ν=_;rw[AK (GH h _)];rfl
theorem T9{ν:Mh}(q:QD (.int 1000000000) ν):WP (FN (.int 10) (.int 9)) ν QD:=Qk (by decide) q
theorem UC{i j:Int}{ν:Mh}(h:0<j)(q:0<=i % j->i % j<j->QD (.int (i % j)) ν):WP (BS (.int i) (.int j)) ν QD:=Mv h (q (AAY _ (by omega)) (AAZ _ h))
theorem N7{i j:Int}{ν:Mh}(h:0<j)(q:∀v,0<=v->v<j->QD (.int v) ν):WP (BS (.int i) (.int j)) ν QD:=Mv h (q _ (AAY _ (by omega)) (AAZ _ h))
theorem Wf{x y:Option Int}{ν:Mh}(q:QD (.lst (DP ds x y)) ν):WP (Ik x y (.lst ds)) ν QD:=⟨_,ν,rfl,q⟩
theorem Wj{i:Int}{ν:Mh}(q:QD (.int (-i)) ν):WP (L5 (.int i)) ν QD:=⟨_,ν,rfl,q⟩
theorem VM{x y:Option Int}{d:D}(h:d∈DP ds x y):d∈ds:=List.mem_of_mem_drop (List.mem_of_mem_take h)
theorem VO{x y:Option Int}:(DP ds x y).length<=ds.length:=by unfold DP;rw[List.length_take,List.length_drop];omega
theorem UM{ν:Mh}(h:(ds++es).length<=sizeLine)(q:QD (.lst (ds++es)) ν):WP (As (.lst ds) (.lst es)) ν QD:=by
 refine wp_of ?_ q;show bnd (lim (ds++es).length) (λ_=>ret (D.lst (ds++es))) ν=_;rw[AK (GH h _)];rfl
theorem GB{v:Int}{ν:Mh}(h0:0<=v)(h1:v<ds.length)(q:∀d∈ds,QD d ν):WP (AJ (.lst ds) (.int v)) ν QD:=by
 obtain⟨k,rfl⟩:∃k:Nat,v=k:=⟨v.toNat,by omega⟩;have hk:k<ds.length:=by omega
 refine Qn (d:=ds[k]) ?_ (q _ (List.getElem_mem hk));rw[PN (AAu hk)]
theorem Wo{x y:D}{ν:Mh}(h:AJ x y ν=some (d,ν))(q:QD d ν):WP (AJ x y) ν QD:=wp_of h q
theorem Vw{x y:Option Int}(hg:l[k]?=some (.lst ds))(q:QD (.lst (DP ds x y)) (Z++l)):WP (Ik x y (.ref (Z.length+k))) (Z++l) QD:=by
 refine wp_of ?_ q;show bnd (Ca (.ref (Z.length+k))) (λds=>ret (D.lst (DP ds x y))) (Z++l)=_;rw[AK (G9 hg)];rfl
end
end Mi
local macro_rules | `(tactic| wtm_at "h")=>`(tactic| first|omega|(focus (simp;done))|(focus (simp;omega)))
local macro_rules | `(tactic| wtm_at "q")=>`(tactic| first|(left;constructor<;>omega)|(right;constructor<;>omega))
local macro_rules | `(tactic| wtm_at "k")=>`(tactic| first
 |((with_reducible apply Mi.UC);(wtm_at "e");intro _ _)|((with_reducible apply Mi.N9);(wtm_at "h"))|((with_reducible apply Mi.N5);(wtm_at "h"))|((with_reducible apply Mi.N4);(wtm_at "h"))|wtm_at "m" |((with_reducible apply Mi.Mw);rfl;rfl;(wtm_at "h"))|(with_reducible apply Mi.UR)|((with_reducible apply Mi.XB);rfl)|(with_reducible apply Mi.UD)|(with_reducible apply Mi.UO)|(with_reducible apply Mi.UP)|(with_reducible apply Mi.Qr)|(with_reducible apply Mi.T9)|((with_reducible apply Mi.Wl);(wtm_at "q"))|((with_reducible apply Mi.Vw);rfl)|(with_reducible apply Mi.Wf)|(with_reducible apply Mi.Wj)|((with_reducible apply Mi.Wo);rfl)|((with_reducible apply Mi.UM);(wtm_at "h"))|((with_reducible apply Mi.UL);(wtm_at "h"))|((with_reducible apply Mi.UQ);rfl;(wtm_at "e"))|(with_reducible apply Mi.UY)
 |((with_reducible apply Mi.UV)<;>intro _)|((with_reducible apply Mi.wkb_or)<;>intro _)|((with_reducible apply Mi.W0)<;>intro _)|((with_reducible apply Mi.wkb_wh)<;>intro _)|(with_reducible refine And.intro rfl ?_)|(refine λ(_:true=true)=>?_))
local macro_rules | `(tactic| wtm_at "l")=>`(tactic| first|((with_reducible apply Mi.N7);(wtm_at "h");intro _ _ _)|wtm_at "k")
local macro_rules | `(tactic| wtm_at "d")=>`(tactic| repeat' wtm_at "l")
namespace K93
open PySem L2 Mi Ht
open K13 (Ev Ev.beg Ev.hand Ev.val Ev.Ok nm bS evD hdD Ns Ns.nok wfG G0 gA gS Ov wf_app Bsy bD WD Sd NX WE NO Bj A9 Bk EY BO WU nL0 nL1 nL2 Ob Ax Ba BM Bu B3 CH BN Bv)
open K16 (mkK)
section
variable{Z:Mh}{kd:Str}{sz bg:Int}{ns:List Str}
theorem TL:WP (Ax [.int c,.int 1]) Z λd Z'=>Z'=Z/\∃x:Int,0<=x/\d=.lst [.int x]:=by
 have hz:=A9;unfold Ax;refine OA rfl ?_;unfold Ba;wtm_at "d";refine AT (Q:=λr w6=>∃(i:Int) (fs:List Int),fs.length<=1/\(∀x∈fs,0<=x)/\r=(.next,[some (.int c),some (.int 1),some (.ref (Z.length+0)),some (.int i),none])/\w6=Z++[.lst (fs.map D.int)]) (Vv (n:=1048575) ?_) ?_
 ·wtm_at "d"
  ·refine Vv (n:=1048574) ?_;wtm_at "d"
   all_goals exact⟨_,[_],by simp,by simp;assumption,rfl,rfl⟩
  all_goals exact⟨_,[],by simp,by simp,rfl,rfl⟩
 rintro r w6 ⟨i,fs,h1,h2,rfl,rfl⟩;wtm_at "d";rename_i v h3 _;rcases fs with _|⟨y,_|⟨z,fs⟩⟩
 ·exact⟨_,_,_,rfl,rfl,show Cl _ (.lst [.int v]) by simp[Cl,ClL],rfl,v,h3,rfl⟩
 ·exact⟨_,_,_,rfl,rfl,show Cl _ (.lst [.int y]) by simp[Cl,ClL],rfl,y,h2 y (by simp),rfl⟩
 ·simp at h1
theorem Y9(h0:0<=v)(h1:v<3):∃L:List Str,L.length=4/\(∀n∈L,PyData.strOk n=true)/\L.Nodup/\∀M:Mh,AJ (.lst [.lst (nL0.map D.str),.lst (nL1.map D.str),.lst (nL2.map D.str)]) (.int v) M=some (.lst (L.map D.str),M):=by
 rcases(show v=0∨v=1∨v=2 by omega) with h|h|h<;>subst h
 ·exact⟨nL0,rfl,by decide +kernel,by decide +kernel,λM=>rfl⟩
 ·exact⟨nL1,rfl,by decide +kernel,by decide +kernel,λM=>rfl⟩
 ·exact⟨nL2,rfl,by decide +kernel,by decide +kernel,λM=>rfl⟩
theorem aJ:Cl k (mkK kd sz bg ns):=by
 have:=BO (k:=k) (f:=hdD) (λn=>by simp[hdD,Cl,ClL]) ns;simp[mkK,Cl,ClL,this]
theorem TN:WP (BM [.int x,.str kd]) Z λd Z'=>Z'=Z/\∃(sz bg:Int) (ns:List Str),2<=sz/\sz<=10/\0<=bg/\bg<sz/\Ns ns/\d=mkK kd sz bg ns:=by
 have hz:=A9;unfold BM;refine OA rfl ?_;unfold Bu;wtm_at "d";rename_i v0 _ _ _ h1 h2;obtain⟨L,l4,lok,lnd,lix⟩:=Y9 h1 h2;refine wp_of (lix _) ?_;wtm_at "d";rename_i v _ _;obtain⟨j,hj⟩:∃j:Nat,(j:Int)=1+(1+v):=⟨(1+(1+v)).toNat,by omega⟩;rw[←hj,EY (α:=.non) (by rw[AAF];omega),←List.map_take];refine⟨by simp;omega,EB D.str (λ_=>true) hdD (λa _=>?_) ?_⟩
 ·wtm_at "d";exact rfl
 rw[Bk];wtm_at "d";rename_i b _ _;exact⟨_,_,_,rfl,rfl,aJ,rfl,_,b,_,by omega,by omega,by assumption,by assumption,Ob lok lnd l4 (by omega) (by omega),rfl⟩
theorem Ve{w:Nat}{ws:List Int}(hw:l[w]?=some (.lst (ws.map D.int)))(hl:ws.length<=1000)(h0:0<sz)(b0:0<=bg)(b1:bg<sz)(hin:∀x∈ws,0<=x/\x<sz):WP (B3 [mkK kd sz bg ns,.ref (Z.length+w),.int y]) (Z++l) λd Z'=>Z'=Z++l/\∃v:Int,0<=v/\v<sz/\d=.int v:=by
 have hz:=A9;unfold B3;refine DB rfl ?_;unfold CH;have lc:=VO (ds:=ws.map D.int) (x:=some (-3)) (y:=none);rw[AAF] at lc;wtm_at "d";refine Vw hw ?_;wtm_at "d";rename_i u _ _ _ _ _;refine GB (by assumption) (by assumption) λd hd=>?_;wtm_at "d";obtain⟨v,rfl,h1,h2⟩:∃v:Int,d=.int v/\0<=v/\v<sz:=by
  rcases AAJ.mp hd with z|z
  ·obtain⟨x,hx,rfl⟩:=AAL.mp (VM z);exact⟨x,rfl,hin x hx⟩
  ·simp at z;rcases z with rfl|rfl
   ·exact⟨_,rfl,by assumption,by assumption⟩
   ·exact⟨_,rfl,b0,b1⟩
 exact⟨_,_,[],rfl,by simp,by simp[Cl],rfl,v,h1,h2,rfl⟩
theorem Yp(B_:Bsy ns sz es bs ws)(hb:decide (e.hand∈bs)=!e.beg)(ok:e.Ok ns sz)(hw:∀x∈ws',0<=x/\x<sz):Bsy ns sz (es++[e]) (if e.beg=true then bs++[e.hand] else bs.erase e.hand) ws':=by
 have me:∀h,decide (h∈if e.beg=true then bs++[e.hand] else bs.erase e.hand)=gA G0 (es++[e]) h:=λh=>by
  rw[Ov];unfold gS;by_cases z:h=e.hand
  ·subst z;rw[if_pos rfl];cases q:e.beg<;>simp[B_.nd.not_mem_erase]
  ·rw[if_neg z,←B_.mem];cases q:e.beg<;>simp[z,List.mem_erase_of_ne z]
 refine⟨wf_app.mpr ⟨B_.wf,by rw[←B_.mem,hb],trivial⟩,λx hx=>(AAJ.mp hx).elim (B_.ok x) λz=>by rw[AAK] at z;rw[z];exact ok,λh hh=>?_,?_,me,hw⟩
 ·split at hh
  ·exact(AAJ.mp hh).elim (B_.lt h) λz=>by rw[AAK] at z;rw[z];exact ok.h
  ·exact B_.lt h (List.mem_of_mem_erase hh)
 ·split
  ·rename_i q;rw[q] at hb;exact List.nodup_append.mpr ⟨B_.nd,by simp,λa ha b hb' z=>by rw[AAK] at hb';subst z hb';simp[ha] at hb⟩
  ·exact B_.nd.erase _
theorem WS(N:Ns ns)(hb:∀h∈bs,h<ns.length)(hh:h<ns.length)(hm:h∈bs)(ht:B[i]?=some (some (.ref (Z.length+k))))(hg:l[k]?=some (.lst (bD ns bs)))(q:WP (ra B) (Z++l) λes w6=>es=[.str (nm ns h)]/\w6=Z++l/\QD .non (Z++l.set k (.lst (bD ns (bs.erase h))))):WP (Aj RX (AA i) ra B) (Z++l) QD:=by
 unfold Aj;refine Ab (wp_of (A1 ht) (Ab (wp_of (a:=()) (by unfold Dc;rw[AK (G9 hg)];rfl) (Ab (AT q ?_)))));rintro es w6 ⟨rfl,rfl,q⟩;exact wp_of (WD N hb hh hm (by rw[EI];exact hg)) (by rw[JD];exact q)
noncomputable abbrev slE(mk names cells:D)(L:Nat)(o6 o7 o8 o9 o10:Option D):Sl:=[some mk,some cells,some (.ref (L+0)),some (.ref (L+1)),some (.ref (L+2)),some names,o6,o7,o8,o9,o10]
theorem TR(N:Ns ns){cs:List Int}(h0:2<=sz)(h1:sz<=10)(b0:0<=bg)(b1:bg<sz)(hc:cs.length<=30):WP (BN [mkK kd sz bg ns,.lst (cs.map D.int)]) Z λd Z'=>Z'=Z/\∃es:List Ev,wfG G0 es/\(∀e∈es,e.Ok ns sz)/\es.length=cs.length/\d=.lst (es.map (evD ns)):=by
 have hz:=A9;have hhi:=N.hi;have hlo:=N.lo;unfold BN;refine Qv rfl ?_;unfold Bv;wtm_at "d";refine⟨by simp;omega,EB hdD (λ_=>true) D.str (λa _=>by wtm_at "d";rfl) ?_⟩;rw[Bk];wtm_at "d";refine II (I:=λrest B Z'=>∃(r:List Int) (es:List Ev) (bs:List Nat) (ws:List Int) (o6 o7 o8 o9 o10:Option D),rest=r.map D.int/\r.length+es.length=cs.length/\ws.length<=es.length+1/\bs.length<=es.length/\Bsy ns sz es bs ws/\B=slE (mkK kd sz bg ns) (.lst (ns.map D.str)) (.lst (cs.map D.int)) Z.length o6 o7 o8 o9 o10/\Z'=Z++[.lst (bD ns bs),.lst (es.map (evD ns)),.lst (ws.map D.int)]) ?_ ?_ ⟨cs,[],[],[bg],none,none,none,none,none,rfl,by simp,by simp,by simp,⟨trivial,by simp,by simp,by simp,λh=>by simp[gA],λx hx=>by rw[AAK] at hx;subst hx;exact⟨b0,b1⟩⟩,rfl,rfl⟩
 ·rintro x xs B Z' ⟨r,es,bs,ws,o6,o7,o8,o9,o10,e1,l1,l2,l3,B_,rfl,rfl⟩;cases r with
  |nil=>cases e1
  |cons c r=>
   cases e1;rw[AAH] at l1;wtm_at "d";refine AT TL ?_;rintro _ _ ⟨rfl,x,hx,rfl⟩;wtm_at "d";refine GB (by assumption) (by assumption) λd hd=>?_;obtain⟨h,hh,rfl⟩:∃h,h<ns.length/\d=.str (nm ns h):=by
    obtain⟨a,ha,rfl⟩:=AAL.mp hd;obtain⟨k,hk,rfl⟩:=List.getElem_of_mem ha;exact⟨k,hk,by simp[nm,hk]⟩
   have g0:(ns.map D.str)[0]?=some (D.str (nm ns 0)):=by rw[AAV,AAu (by omega)];simp[nm,show 0<ns.length by omega]
   have i0:∀M,AJ (.lst (ns.map D.str)) (.int 0) M=some (.str (nm ns 0),M):=λM=>Iy (Bj (r:=0) g0);refine Ld (Qi (AT (Q:=λq w6=>∃h,h<ns.length/\q=(.next,slE (mkK kd sz bg ns) (.lst (ns.map D.str)) (.lst (cs.map D.int)) Z.length (some (.int c)) (some (.int x)) (some (.str (nm ns h))) o9 o10)/\w6=Z++[.lst (bD ns bs),.lst (es.map (evD ns)),.lst (ws.map D.int)]) ?_ ?_))
   ·repeat' (first|(with_reducible refine wp_of (i0 _) ?_)|wtm_at "l")
    ·exact⟨0,by omega,rfl,rfl⟩
    ·exact⟨h,hh,rfl,rfl⟩
   rintro q w6 ⟨h,hh,rfl,rfl⟩;obtain⟨b,e0⟩:∃b,(h==0)=b:=⟨_,rfl⟩;obtain⟨b',e1⟩:∃b',(!b)=b':=⟨_,rfl⟩;have t1:∀M,Ah (.str (nm ns h)) (.str (nm ns 0)) M=some (.bl b,M):=λM=>by rw[←e0];exact NX N hh (by omega)
   have t2:∀M,FE (.str (nm ns h)) (.str (nm ns 0)) M=some (.bl b',M):=λM=>by rw[WE (N.nok hh) (N.nok (by omega)),NO N hh (by omega),e0,e1]
   have fin:∀(e:Ev) (ws':List Int),e.hand=h->decide (h∈bs)=!e.beg->e.Ok ns sz->(∀x∈ws',0<=x/\x<sz)->Bsy ns sz (es++[e]) (if e.beg=true then bs++[h] else bs.erase h) ws':=λe ws' z hb ok hw=>by subst z;exact Yp B_ hb ok hw
   have t3:∀l:Mh,l[0]?=some (.lst (bD ns bs))->FR false (.str (nm ns h)) (.ref (Z.length+0)) (Z++l)=some (.bl (decide (h∈bs)),Z++l):=λl hl=>Sd N B_.lt hh (by rw[EI];exact hl);cases hb:decide (h∈bs)<;>cases b<;>cases b'<;>cases e1<;>rw[hb] at t3<;>repeat' (first|(with_reducible refine wp_of (i0 _) ?_)|(with_reducible refine wp_of (t1 _) ?_)|(with_reducible refine wp_of (t2 _) ?_)|((with_reducible refine wp_of (t3 _ ?_) ?_);rfl)|((with_reducible refine AT (Ve (w:=2) ?_ ?_ ?_ b0 b1 B_.ws) ?_);rfl;omega;omega;rintro _ _ ⟨rfl,v,v0,v1,rfl⟩)|wtm_at "l")
   ·obtain⟨k,rfl⟩:∃k,h=k+1:=⟨h-1,by simp at e0;omega⟩;exact⟨r,es++[.rb k],bs++[k+1],ws,_,_,_,_,_,rfl,by simp;omega,by simp;omega,by simp;omega,fin (.rb k) ws rfl hb ⟨hh,nofun⟩ B_.ws,rfl,by simp[evD,bS,Ev.beg,Ev.hand,Ev.val]⟩
   ·obtain rfl:h=0:=by simpa using e0
    exact⟨r,es++[.wb _],bs++[0],ws++[_],_,_,_,_,_,rfl,by simp;omega,by simp;omega,by simp;omega,fin (.wb _) (ws++[_]) rfl hb ⟨hh,λv e=>by cases e;exact⟨by assumption,by assumption⟩⟩ (λx hx=>(AAJ.mp hx).elim (B_.ws x) λz=>by rw[AAK] at z;subst z;exact⟨by assumption,by assumption⟩),rfl,by simp[evD,bS,Ev.beg,Ev.hand,Ev.val]⟩
   ·refine WS N B_.lt hh (of_decide_eq_true hb) rfl rfl ?_;wtm_at "d";obtain⟨k,rfl⟩:∃k,h=k+1:=⟨h-1,by simp at e0;omega⟩;exact⟨r,es++[.re k v],bs.erase (k+1),ws,_,_,_,_,_,rfl,by simp;omega,by simp;omega,by have:=List.length_erase_le (a:=k+1) (l:=bs);simp;omega,fin (.re k v) ws rfl hb ⟨hh,λv e=>by cases e;exact⟨v0,v1⟩⟩ B_.ws,rfl,by simp[evD,bS,Ev.beg,Ev.hand,Ev.val]⟩
   ·refine WS N B_.lt hh (of_decide_eq_true hb) rfl rfl ?_;wtm_at "d";obtain rfl:h=0:=by simpa using e0
    exact⟨r,es++[.we],bs.erase 0,ws,_,_,_,_,_,rfl,by simp;omega,by simp;omega,by have:=List.length_erase_le (a:=0) (l:=bs);simp;omega,fin .we ws rfl hb ⟨hh,nofun⟩ B_.ws,rfl,by simp[evD,bS,Ev.beg,Ev.hand,Ev.val]⟩
 ·rintro B Z' ⟨r,es,bs,ws,o6,o7,o8,o9,o10,e1,l1,l2,l3,B_,rfl,rfl⟩;cases r with
  |cons c r=>cases e1
  |nil=>
   wtm_at "d";exact⟨1,_,_,_,rfl,rfl,rfl,BO (λe=>WU e) _,rfl,es,B_.wf,B_.ok,by simpa using l1,rfl⟩
theorem Li:∃(sz bg:Int) (ns:List Str),2<=sz/\sz<=10/\0<=bg/\bg<sz/\Ns ns/\BM [.int x,.str kd] Z=some (mkK kd sz bg ns,Z):=by
 obtain⟨d,Z',e,rfl,sz,bg,ns,h1,h2,h3,h4,h5,rfl⟩:=TN (Z:=Z) (kd:=kd) (x:=x);exact⟨sz,bg,ns,h1,h2,h3,h4,h5,e⟩
theorem Jm(N:Ns ns){cs:List Int}(h0:2<=sz)(h1:sz<=10)(b0:0<=bg)(b1:bg<sz)(hc:cs.length<=30):∃es:List Ev,wfG G0 es/\(∀e∈es,e.Ok ns sz)/\es.length=cs.length/\BN [mkK kd sz bg ns,.lst (cs.map D.int)] Z=some (.lst (es.map (evD ns)),Z):=by
 obtain⟨d,Z',e,rfl,es,q1,q2,q3,rfl⟩:=TR (Z:=Z) (kd:=kd) N h0 h1 b0 b1 hc;exact⟨es,q1,q2,q3,e⟩
end
end K93
namespace Mi
open PySem L2
section
variable{Z:Mh}{B:Sl}{a d x y:D}{t T:String}{ma mb mc:Sl->M D}{tc:Sl->M Bool}{g g':D->D->M D}{QD:D->Mh->Prop}{QB:Bool->Mh->Prop}{b:Bool}
theorem aV(h:tyD Z a=some t)(h2:DL t T=some true)(q:QD (.bl true) Z):WP (Cg [a,.ty T]) Z QD:=by
 refine wp_of ?_ q;unfold Cg;simp only[h,h2];rfl
theorem XA(h:tyD Z a=some t)(h2:DL t T=some false)(q:QD (.bl false) Z):WP (Cg [a,.ty T]) Z QD:=by
 refine wp_of ?_ q;unfold Cg;simp only[h,h2];rfl
noncomputable def ntK(QD:D->Mh->Prop):D->Mh->Prop
 | .bl true,Z=>QD (.bl false) Z
 | .bl false,Z=>QD (.bl true) Z
 |_,_=>False
theorem W2(h:WP (ma B) Z (ntK QD)):WP (Hf ma B) Z QD:=Qd (AT h λd w6 z=>by
 cases d with
 |bl b=>cases b<;>exact⟨_,rfl,z⟩
 |_=>exact z.elim)
theorem W3(q:QD (.bl false) Z):ntK QD (.bl true) Z:=q
theorem W4(q:QD (.bl true) Z):ntK QD (.bl false) Z:=q
noncomputable def nbK(QB:Bool->Mh->Prop):Bool->Mh->Prop
 |true,Z=>QB false Z
 |false,Z=>QB true Z
theorem Y3(h:WP (tc B) Z (nbK QB)):WP (Du tc B) Z QB:=Ql (AT h λb w6 z=>by cases b<;>exact z)
theorem W5(q:QB false Z):nbK QB true Z:=q
theorem W6(q:QB true Z):nbK QB false Z:=q
theorem W7(h1:b=true->QB false Z)(h2:b=false->QB true Z):nbK QB b Z:=by cases b;exact h2 rfl;exact h1 rfl
noncomputable def chK(m:M D)(f:D->M D)(QD:D->Mh->Prop):D->Mh->Prop
 | .bl true,Z=>WP m Z λv w6=>WP (f v) w6 QD
 | .bl false,Z=>QD (.bl false) Z
 |_,_=>False
theorem Y5(h:WP (ma B) Z λx w6=>WP (mb B) w6 λy w9=>WP (g x y) w9 (chK (mc B) (g' y) QD)):WP (Db g g' ma mb mc B) Z QD:=by
 unfold Db;refine Ab (AT h λx w6 z=>Ab (AT z λy w9 z=>Ab (AT z λv x8 z=>?_)));cases v with
 |bl b=>
  refine Ab (BQ ?_);cases b
  ·exact BQ z
  ·exact Ab z
 |_=>exact z.elim
theorem W8{m:M D}{f:D->M D}(q:WP m Z λv w6=>WP (f v) w6 QD):chK m f QD (.bl true) Z:=q
theorem W9{m:M D}{f:D->M D}(h1:b=true->WP m Z λv w6=>WP (f v) w6 QD)(h2:b=false->QD (.bl false) Z):chK m f QD (.bl b) Z:=by cases b;exact h2 rfl;exact h1 rfl
theorem Y4{i j:Int}(q:QD (.bl (decide (i<=j))) Z):WP (Gg (.int i) (.int j)) Z QD:=⟨_,Z,rfl,q⟩
theorem UW{m:M D}(h1:b=true->WP m Z QD)(h2:b=false->QD (.bl false) Z):PQ m QD (.bl b) Z:=by cases b;exact h2 rfl;exact h1 rfl
end
end Mi
local macro_rules | `(tactic| wtm_at "n")=>`(tactic| first
 |((with_reducible apply Mi.aV);rfl;(decide +kernel))|((with_reducible apply Mi.XA);rfl;(decide +kernel))|(with_reducible apply Mi.W2)|(with_reducible apply Mi.W3)|(with_reducible apply Mi.W4)|(with_reducible apply Mi.Y3)|(with_reducible apply Mi.W5)|(with_reducible apply Mi.W6)|(with_reducible apply Mi.Y5)|(with_reducible apply Mi.W8)|(with_reducible apply Mi.wi_chF)|wtm_at "k" |(with_reducible apply Mi.Y4)
 |((with_reducible apply Mi.wi_ntB)<;>intro _)|((with_reducible apply Mi.W7)<;>intro _)|((with_reducible apply Mi.W9)<;>intro _)|((with_reducible apply Mi.UW)<;>intro _))
local macro_rules | `(tactic| wtm_at "a")=>`(tactic| repeat' wtm_at "n")
namespace K17
open PySem L2 Mi Nk Ht
open K13 (A9 Ae BG)
open K93 (ksD)
open K18 (BH m_is_order Bp)
section
variable{Z:Mh}{d:D}{ds:List D}{n:Nat}
inductive Oe:D->Prop
 |i (i:Int) (h:i.natAbs<10 ^ 12):Oe (.int i)
 |g:Oe (.int 1000000000000000000000000000000)
 |b (b:Bool):Oe (.bl b)
 |n:Oe .non
 |s:Oe (.str "0")
 |t:Oe (.tup [.int 0])
 |l:Oe (.lst [.int 0])
theorem a9(h:Oe d):∃p,(∀M,toP M d=some p)/\p.showable=true/\p.hasDict=false/\p.depth<=1/\p.shown.length<=40/\p.canLay0=true:=by
 cases h with
 |i i h=>
  have hl:i.natAbs.log2<40:=by
   by_cases h0:i.natAbs=0
   ·rw[h0];decide
   ·exact(Nat.log2_lt h0).mpr (AAM h (by decide))
  exact⟨_,λ_=>rfl,AAO (Nat.lt_trans hl (by decide)),rfl,AAk _,AAt (PyData.shown_int_le h) (by decide),rfl⟩
 |g=>exact⟨_,λ_=>rfl,by decide +kernel,rfl,by decide,by decide +kernel,rfl⟩
 |b b=>cases b<;>exact⟨_,λ_=>rfl,rfl,rfl,by decide,by decide +kernel,rfl⟩
 |n=>exact⟨_,λ_=>rfl,rfl,rfl,by decide,by decide +kernel,rfl⟩
 |s=>exact⟨_,λ_=>rfl,rfl,rfl,by decide,by decide +kernel,by decide +kernel⟩
 |t=>exact⟨.tuple [.int 0],λ_=>by simp[toP,DD],by decide +kernel,by decide +kernel,by decide +kernel,by decide +kernel,by decide +kernel⟩
 |l=>exact⟨.list [.int 0],λ_=>by simp[toP,DD],by decide +kernel,by decide +kernel,by decide +kernel,by decide +kernel,by decide +kernel⟩
theorem SE:∀{ds:List D},(∀d∈ds,Oe d)->∃ps,(∀M,DD M ds=some ps)/\PyData.showableAll ps=true/\PyData.hasDictAll ps=false/\PyData.depthAll ps<=1/\(PyData.shownAll ps).length=ds.length/\((PyData.shownAll ps).map (·.length)).sum<=40 * ds.length/\PyData.canLayAll0 ps=true
 |[],_=>⟨[],λ_=>by unfold DD;rfl,by simp[PyData.showableAll],by simp[PyData.hasDictAll],by simp[PyData.depthAll],by simp[PyData.shownAll],by simp[PyData.shownAll],rfl⟩
 |d::ds,h=>by
  obtain⟨p,e1,e2,e3,e4,e5,e6⟩:=a9 (h d AAP);obtain⟨ps,f1,f2,f3,f4,f5,f6,f7⟩:=SE λd hd=>h d (AAQ _ hd);refine⟨p::ps,λ_=>by unfold DD;rw[e1,f1];rfl,by simp[PyData.showableAll,e2,f2],by simp[PyData.hasDictAll,e3,f3],?_,by simp[PyData.shownAll,f5],?_,by show (p.canLay0&&PyData.canLayAll0 ps)=true;rw[e6,f7];rfl⟩
  ·show max p.depth (PyData.depthAll ps)<=1;omega
  ·simp only[PyData.shownAll,AAW,List.sum_cons,AAH];omega
theorem WQ(h:∀d∈ds,Oe d)(hl:ds.length<=1000):(∃x:Str,∀M:Mh,GR [.lst ds] M=some (.str x,M))/\∃x:Str,∀M:Mh,GR [.tup ds] M=some (.str x,M):=by
 have hz:=A9;obtain⟨ps,f1,f2,f3,f4,f5,f6,f7⟩:=SE h;constructor
 ·refine⟨(PyData.list ps).shown,λM=>?_⟩;show GQ [.lst ds] M=_;unfold GQ;have e:HF M (.lst ds)=some (.list ps):=by show (DD M ds).map PyData.list=_;rw[f1];rfl
  simp only[e];have:=listText_len_le (PyData.shownAll ps);exact if_pos ⟨rfl,f2,f3,by show PyData.depthAll ps+1<=60;omega,by show (listText (PyData.shownAll ps)).length<=_;omega⟩
 ·refine⟨(PyData.tuple ps).shown,λM=>?_⟩;show GQ [.tup ds] M=_;unfold GQ;have e:HF M (.tup ds)=some (.tuple ps):=by show (DD M ds).map PyData.tuple=_;rw[f1];rfl
  simp only[e];have:=tupleText_len_le (PyData.shownAll ps);exact if_pos ⟨rfl,f2,f3,by show PyData.depthAll ps+1<=60;omega,by show (tupleText (PyData.shownAll ps)).length<=_;omega⟩
noncomputable def whB(n:Nat):D->Bool
 | .int i=>decide (0<=i)&&decide (i<n)
 |_=>false
theorem Vf(h:Oe d):WP (Ae [d,.int 0,.int ((n:Int)-1)]) Z λr Z'=>r=.bl (whB n d)/\Z'=Z:=by
 unfold Ae;refine DB rfl ?_;unfold BG;cases h<;>wtm_at "a"
 all_goals refine⟨_,_,[],rfl,by simp,by simp[Cl],?_,rfl⟩
 all_goals unfold whB
 all_goals simp at *
 all_goals first|omega|(rw[Bool.eq_iff_iff];simp;omega)
noncomputable def QK(ds:List D):Nat:=(CD (ds.filterMap λd=>match d with | .int i=>some i|_=>none)).length
theorem MP:∀{is:List Int},C7 (is.map D.int)=some is
 |[]=>rfl
 |i::is=>by show (C7 (is.map D.int)).map _=_;rw[MP];rfl
theorem Md:QK (is.map D.int)=(CD is).length:=by
 unfold QK;rw[List.filterMap_map];show (CD (is.filterMap some)).length=_;rw[List.filterMap_some]
theorem WR{is:List Int}(hl:is.length<=1000)(q:QD (.int (QK (is.map D.int))) Z):WP (FG (.lst (is.map D.int))) Z QD:=by
 rw[Md] at q;refine wp_of ?_ q;unfold FG;rw[AK (show Ca (.lst (is.map D.int)) Z=some (is.map D.int,Z) from rfl),MP];exact if_pos (by unfold scanBound;omega)
noncomputable def isO(n:Nat)(ds:List D):Bool:=ds.all (whB n)&&decide (QK ds=ds.length)
theorem K4:∀{ds:List D},ds.all (whB n)=true->∃ks:List Nat,ds=ks.map (λk:Nat=>D.int k)/\∀k∈ks,k<n
 |[],_=>⟨[],rfl,by simp⟩
 |d::ds,h=>by
  rw[List.all_cons,Bool.and_eq_true] at h;obtain⟨ks,rfl,hk⟩:=K4 h.2;have h1:=h.1;unfold whB at h1;split at h1
  ·rename_i i;simp at h1;refine⟨i.toNat::ks,by rw[AAW];congr 2;omega,λk hk'=>?_⟩;rcases AAI.mp hk' with z|z
   ·omega
   ·exact hk k z
  ·cases h1
theorem aG(h:∀d∈ds,Oe d)(hl:ds.length<=1000):WP (BH [.lst ds,.int n]) Z λr Z'=>r=.bl (isO n ds)/\Z'=Z:=by
 have hz:=A9;unfold BH;refine DB rfl ?_;unfold m_is_order;wtm_at "a";refine⟨by omega,?_⟩;have:=EB (Z:=Z) (tc:=En) (ma:=(AG Ae (AC (AA 0) (AC (mC (.int 0)) (AC (mOp Ef (AA 1) (mC (.int 1))) AL))))) id (λ_=>true) (λd=>D.bl (whB n d)) (bf:=AO 0) (u5:=Dl 1 [1] (BR 2 [.lst ds,.int n])) (xs:=ds) (QL:=λes Z'=>es=ds.map (λd=>D.bl (whB n d))/\Z'=Z) (λa ha=>by
  wtm_at "a";exact Vf (h a ha)) ⟨by rw[K13.Bk],rfl⟩
 rw[List.map_id] at this;refine AT this ?_;rintro _ _ ⟨rfl,rfl⟩;wtm_at "a";refine Wx ?_;cases ha:ds.all (whB n)<;>wtm_at "a"
 ·exact⟨_,_,[],rfl,by simp,by simp[Cl],by simp[isO,ha],rfl⟩
 obtain⟨ks,e,hk⟩:=K4 ha;have e':ds=(ks.map λk:Nat=>(k:Int)).map D.int:=by rw[e,List.map_map];rfl
 unfold Bp;refine DB rfl ?_;unfold K18.m_are_unlike;wtm_at "a";rw[e'];refine WR (by rw[e] at hl;simpa using hl) ?_;wtm_at "a";rw[←e'];exact⟨_,_,[],rfl,by simp,by simp[Cl],_,_,[],rfl,by simp,by simp[Cl],by simp only[isO,ha,Bool.true_and];rw[D.bl.injEq,Bool.eq_iff_iff];simp;omega,rfl⟩
theorem TM(h:∀d∈ds,Oe d)(neg:Bool)(q:QD (.bl (if neg then !ds.isEmpty else ds.isEmpty)) Z):WP (Fb neg (.lst ds) (.lst [])) Z QD:=by
 obtain⟨ps,f1,f2,f3,f4,f5,f6,f7⟩:=SE h;refine wp_of ?_ q;have e1:HF Z (.lst ds)=some (.list ps):=by show (DD Z ds).map PyData.list=_;rw[f1];rfl
 have e2:HF Z (.lst [])=some (.list []):=by show (DD Z []).map PyData.list=_;unfold DD;rfl
 have ev:PyData.eqv (.list ps) (.list [])=ds.isEmpty:=by
  cases ds with
  |nil=>cases f1 Z;rfl
  |cons d ds=>
   cases ps with
   |nil=>simp[PyData.shownAll] at f5
   |cons p ps=>rfl
 unfold Fb;rw[e1,e2];show (if _ then _ else _)=_;rw[if_pos ⟨by show (PyData.canLayAll0 ps&&decide (PyData.depthAll ps+1<=64))=true;rw[f7,AAO (by omega)];rfl,by decide +kernel⟩,ev]
noncomputable def niB:D->Bool
 | .int _=>false
 |_=>true
theorem Ou:∀{ds:List D},(ds.filter niB).isEmpty=true->∃is:List Int,ds=is.map D.int
 |[],_=>⟨[],rfl⟩
 |d::ds,h=>by
  cases d with
  |int i=>obtain⟨is,e⟩:=Ou (ds:=ds) h;exact⟨i::is,by rw[e];rfl⟩
  |_=>cases h
theorem Y6(h:whB n d=true):niB d=false:=by cases d<;>first|rfl|cases h
theorem TQ(h:∀d∈ds,Oe d)(hl:ds.length<=1000):WP (Cr [.lst ds,.int n]) Z λr Z'=>r=.bl (isO n ds)/\Z'=Z:=by
 have hz:=A9;unfold Cr;refine DB rfl ?_;unfold Ff;wtm_at "a";refine⟨by omega,?_⟩;have:=EB (Z:=Z) (tc:=(mOr (Du (AN (AG Cg (AC (AA 0) (AC (mC (.ty "int")) AL))))) (AN (AG Cg (AC (AA 0) (AC (mC (.ty "bool")) AL)))))) (ma:=AA 0) id niB id (bf:=AO 0) (u5:=Dl 1 [] (BR 2 [.lst ds,.int n])) (xs:=ds) (QL:=λes Z'=>es=ds.filter niB/\Z'=Z) (λa ha=>by
  cases h a ha<;>wtm_at "a"<;>first|exact rfl|(intro z;cases z)) ⟨by rw[List.map_id],rfl⟩
 rw[List.map_id] at this;refine AT this ?_;clear this;rintro _ Z ⟨rfl,rfl⟩;have hf:(ds.filter niB).length<=ds.length:=List.length_filter_le _ _;wtm_at "a";refine TM (λd hd=>h d (List.mem_filter.mp hd).1) true ?_;cases he:(ds.filter niB).isEmpty
 ·refine IJ (b:=true) ?_;wtm_at "a";refine⟨_,_,[],rfl,by simp,by simp[Cl],?_,rfl⟩;have:ds.all (whB n)=false:=by
   cases q:ds.all (whB n)
   ·rfl
   ·rw[List.filter_eq_nil_iff.mpr λd hd=>by rw[Y6 (List.all_eq_true.mp q d hd)];decide] at he;cases he
  simp[isO,this]
 obtain⟨is,rfl⟩:=Ou he;refine IJ (b:=false) ?_;wtm_at "a";refine WR (by simpa using hl) ?_;wtm_at "a"
 ·refine⟨by simp;simp at hl;omega,?_⟩;have:=EB (Z:=Z) (tc:=Du (AN (Db Gg EF (mC (.int 0)) (AA 0) (AA 1)))) (ma:=AA 0) D.int (λi=>!whB n (.int i)) D.int (bf:=AO 0) (u5:=Dl 1 [1] (BR 2 [.lst (is.map D.int),.int n])) (xs:=is) (QL:=λes Z'=>es=(is.filter λi=>!whB n (.int i)).map D.int/\Z'=Z) (λa ha=>by
   wtm_at "a"
   all_goals refine⟨?_,rfl,λ_=>by wtm_at "a";exact rfl⟩
   all_goals unfold whB
   all_goals simp at *
   all_goals omega) ⟨rfl,rfl⟩
  refine AT this ?_;clear this;rintro _ Z ⟨rfl,rfl⟩;have hf:(is.filter λi=>!whB n (.int i)).length<=is.length:=List.length_filter_le _ _;rw[AAF] at hl;wtm_at "a";refine TM (λd hd=>?_) false ?_
  ·obtain⟨i,hi,rfl⟩:=AAL.mp hd;exact h _ (AAL.mpr ⟨i,(List.mem_filter.mp hi).1,rfl⟩)
  refine⟨_,_,[],rfl,by simp,by simp[Cl],?_,rfl⟩;rename_i q;have q':QK (is.map D.int)=(is.map D.int).length:=by simp at q ⊢;omega
  show D.bl ((is.filter λi=>!whB n (.int i)).map D.int).isEmpty=_;simp only[isO,q',decide_true,Bool.and_true,List.isEmpty_map];rw[D.bl.injEq,Bool.eq_iff_iff];simp[List.isEmpty_iff,List.filter_eq_nil_iff]
 ·rename_i q;refine⟨_,_,[],rfl,by simp,by simp[Cl],?_,rfl⟩;have q':¬QK (is.map D.int)=(is.map D.int).length:=by simp at q ⊢;omega
  simp only[isO,AAN q',Bool.and_false]
end
end K17
namespace K17
open PySem L2 Mi Nk Ht
open K13 (A9 Ev Ev.Ok Ns evD wfG Am Ai HH evP)
open K16 (mkK C0)
open K93 (ksD Tk bl run T0 ddD)
open K18 (BH CQ CJ OE Lj IM hnE LG HY vb gk pdL pdD dlL)
section
variable{Z:Mh}{d:D}{ds:List D}{n:Nat}{kd:Str}{sz bg:Int}{ns:List Str}{es:List Ev}
def NoL(Z:Mh)(d:D):Prop:=(∃t,tyD Z d=some t/\DL t "list" = some false)/\∃x:Str,GR [d] Z=some (.str x,Z)
theorem aH(h:∃t,tyD Z d=some t/\DL t "list" = some false):WP (BH [d,.int n]) Z λr Z'=>r=.bl false/\Z'=Z:=by
 obtain⟨t,h1,h2⟩:=h;unfold BH;refine DB rfl ?_;unfold K18.m_is_order;wtm_at "a";refine XA h1 h2 ?_;wtm_at "a";exact⟨_,_,[],rfl,by simp,by simp[Cl],rfl,rfl⟩
theorem Yl(h:∃t,tyD Z d=some t/\DL t "list" = some false):WP (Cr [d,.int n]) Z λr Z'=>r=.bl false/\Z'=Z:=by
 obtain⟨t,h1,h2⟩:=h;unfold Cr;refine DB rfl ?_;unfold Ff;wtm_at "a";refine XA h1 h2 ?_;wtm_at "a";exact⟨_,_,[],rfl,by simp,by simp[Cl],rfl,rfl⟩
theorem WT(N:Ns ns)(wf:wfG (λ_=>false) es)(eo:∀e∈es,e.Ok ns sz)(hl:es.length<=100)(h:WP (BH [d,.int (bl (run T0 es)).length]) Z λr Z'=>r=.bl false/\Z'=Z):WP (Dx [mkK kd sz bg ns,.lst (es.map (evD ns)),d]) Z λr Z'=>r=.bl false/\Z'=Z:=by
 obtain⟨gs,hg,hx,ea⟩:=K16.v_actsX (Z:=Z) (kd:=kd) (bg:=bg) N eo wf hl;subst hx;have vd:=IM (Z:=Z) (hn:=hnE es) wf eo (λi e h=>LG h) (by omega);unfold Dx;refine DB rfl ?_;unfold CJ;wtm_at "a";refine wp_of ea ?_;wtm_at "a";refine wp_of vd ?_;wtm_at "a";rw[AAF];refine AT h ?_;rintro _ _ ⟨rfl,rfl⟩;wtm_at "a";exact⟨_,_,[],rfl,by simp,by simp[Cl],rfl,rfl⟩
theorem MU(h:WP m Z λr Z'=>r=a/\Z'=Z):m Z=some (a,Z):=by
 obtain⟨_,_,e,rfl,rfl⟩:=h;exact e
theorem Ye(N:Ns ns)(eo:∀e∈es,e.Ok ns sz):Ah (.lst (es.map (evD ns))) (.lst (es.map (evD ns))) Z=some (.bl true,Z):=by
 obtain⟨a1,a2,a3,a4⟩:=HH (Z:=Z) N λe he=>(eo e he).h;have e1:HF Z (.lst (es.map (evD ns)))=some (.list (es.map (evP ns))):=by show (DD Z _).map PyData.list=_;rw[a1];rfl
 have s:SeqAt.shaped (.list (es.map (evP ns)))=true:=by show (PyData.canLayAll0 _&&decide (PyData.depthAll _+1<=64))=true;rw[a2,AAO (by omega)];rfl
 show Fb false _ _ Z=_;unfold Fb;rw[e1];show (if _ then _ else _)=_;rw[if_pos ⟨s,s⟩];show some (D.bl (PyData.eqvAll _ _),Z)=_;rw[a4]
theorem WY(c:Bool):Ah (.bl c) (.bl c) Z=some (.bl true,Z):=by cases c<;>rfl
theorem Q3(x:Str):OS (.str x) (.str x) Z=some (.bl true,Z):=by
 show some (D.bl (x==x),Z)=_;rw[beq_self_eq_true]
theorem Nj(he:evs=.lst el)(hz:(bl T).length<=900)(F1:Cr [d,.int (bl T).length] Z=some (.bl o,Z))(F2:o=true->JL [mk,dlL T,d] Z=some (.bl c,Z))(F3:Dx [mk,evs,d] Z=some (.bl (o&&c),Z))(F4:GR [d] Z=some (.str x,Z))(E:Ah evs evs Z=some (.bl true,Z)):
  WP (EJ [mk,evs,dlL T,d]) Z λr Z'=>r=.bl true/\Z'=Z:=by
 unfold EJ;refine DB rfl ?_;unfold MH;wtm_at "a";rw[AAF];refine wp_of F1 ?_;subst he;cases o<;>wtm_at "a"
 ·refine wp_of rfl ?_;wtm_at "a";refine wp_of F4 ?_;wtm_at "a";refine wp_of F3 ?_;rw[Bool.false_and];wtm_at "a";refine wp_of (WY _) ?_;wtm_at "a";refine wp_of E ?_;wtm_at "a";refine wp_of F4 ?_;wtm_at "a";refine wp_of (Q3 _) ?_;wtm_at "a";exact⟨_,_,[],rfl,by simp,by simp[Cl],rfl,rfl⟩
 ·refine wp_of (F2 rfl) ?_;wtm_at "a";refine wp_of rfl ?_;wtm_at "a";refine wp_of F4 ?_;wtm_at "a";refine wp_of F3 ?_;rw[Bool.true_and];wtm_at "a";refine wp_of (WY _) ?_;wtm_at "a";refine wp_of E ?_;wtm_at "a";refine wp_of F4 ?_;wtm_at "a";refine wp_of (Q3 _) ?_;wtm_at "a";exact⟨_,_,[],rfl,by simp,by simp[Cl],rfl,rfl⟩
theorem MD:∀{r l:List Int},l.Nodup->(∀x∈l,x∈r)->l.length=r.length->r.Nodup
 |[],_,_,_,_=>List.nodup_nil
 |a::r,l,nd,h,e=>by
  have na:a∉r:=λz=>by
   have:=Ek nd λx hx=>(AAI.mp (h x hx)).elim (λq=>q ▸ z) id;rw[e,AAH] at this;omega
  refine List.nodup_cons.mpr ⟨na,?_⟩;by_cases ha:a∈l
  ·refine MD (nd.erase a) (λx hx=>?_) ?_
   ·have:=nd.mem_erase_iff.mp hx;exact(AAI.mp (h x this.2)).resolve_left this.1
   ·rw[List.length_erase_of_mem ha,e];rfl
  ·have:=Ek nd λx hx=>(AAI.mp (h x hx)).resolve_left λq=>ha (q ▸ hx);rw[e,AAH] at this;omega
theorem YN(h:isO n ds=true):∃ks:List Nat,ds=ks.map (λk:Nat=>D.int k)/\ks.Nodup/\∀k∈ks,k<n:=by
 unfold isO at h;rw[Bool.and_eq_true] at h;obtain⟨ks,e,hk⟩:=K4 h.1;have h2:=of_decide_eq_true h.2;refine⟨ks,e,?_,hk⟩;have e':ds=(ks.map λk:Nat=>(k:Int)).map D.int:=by rw[e,List.map_map];rfl
 rw[e',Md,AAF] at h2;have:=MD (Iq _) (λx hx=>(Ir _ x).mp hx) h2;exact List.Pairwise.of_map _ (λa b q z=>q (by rw[z])) this
theorem O6(N:Ns ns)(wf:wfG (λ_=>false) es)(eo:∀e∈es,e.Ok ns sz)(hl:es.length<=100)(h:NoL Z d∨∃ds,d=.lst ds/\ds.length<=900/\∀x∈ds,Oe x):WP (EJ [mkK kd sz bg ns,.lst (es.map (evD ns)),dlL (run T0 es),d]) Z λr Z'=>r=.bl true/\Z'=Z:=by
 have bf:=HY (es:=es) (by omega);have E:=Ye (Z:=Z) N eo;rcases h with ⟨t,x,hx⟩|⟨ds,rfl,hd,ho⟩
 ·exact Nj (c:=false) rfl (by omega) (MU (Yl t)) (λz=>by cases z) (MU (WT N wf eo hl (aH t))) hx E
 obtain⟨⟨x,hx⟩,_⟩:=WQ ho (by omega);cases q:isO (bl (run T0 es)).length ds
 ·have a:=TQ (Z:=Z) (n:=(bl (run T0 es)).length) ho (by omega);have b:=aG (Z:=Z) (n:=(bl (run T0 es)).length) ho (by omega);rw[q] at a b;exact Nj (c:=false) rfl (by omega) (MU a) (λz=>by cases z) (MU (WT N wf eo hl b)) (hx Z) E
 ·have a:=TQ (Z:=Z) (n:=(bl (run T0 es)).length) ho (by omega);rw[q] at a;obtain⟨ks,rfl,nd,hk⟩:=YN q;rw[AAF] at hd;exact Nj rfl (by omega) (MU a) (λ_=>Lj hk hd (by omega) λb hb=>(K93.mem_bl (K93.run_ok es K93.ok0 (G:=λ_=>false) (λ_=>rfl) wf eo)).mp hb) (OE N wf eo hl nd hk) (hx Z) E
end
end K17
namespace K17
open PySem L2 Mi Ht Nk Wb
open K13 (BO Bc A9 Ev Ev.beg Ev.hand Ev.val)
open K12 (Di Dj)
open K15 (one)
structure Shp(ws:List Int)(is:List Bool)(a:Int)(m:Option Int):Prop where
 pos:∀w∈ws,0<=w
 ha:a∈ws
 hm:∀b,m=some b->b∈ws
 len:is.length<=3
 few:2 * (1+ws.length) ^ is.length<3000
section
variable{ws:List Int}{is:List Bool}{a:Int}{m:Option Int}
theorem Tl(S:Shp ws is a m)(h:c∈Uc ws is a m):c.1∈ws:=by
 obtain⟨_,h⟩:=mem_Uc.mp h;cases m with
 |none=>rw[h.1];exact S.ha
 |some b=>
  rcases h with ⟨h,_⟩|⟨h,_⟩
  ·rw[h];exact S.ha
  ·rw[h];exact S.hm b rfl
theorem Yw(S:Shp ws is a m)(h:c∈Uc ws is a m)(hx:x∈nxt c):x∈Uc ws is a m:=by
 have hw:=Tl S h;obtain⟨ht,hc⟩:=mem_Uc.mp h;rcases mem_nxt.mp hx with ⟨h0,rfl⟩|⟨i,hi,rfl⟩
 ·refine mem_Uc.mpr ⟨ht,?_⟩;cases m with
  |none=>exact absurd (by rw[hc.2] at h0;exact h0) (show ¬(0:Int)<=-1 by decide)
  |some b=>
   rcases hc with ⟨_,h2⟩|⟨_,h2⟩
   ·exact .inr ⟨h2,rfl⟩
   ·exact absurd (by rw[h2] at h0;exact h0) (show ¬(0:Int)<=-2 by decide)
 ·refine mem_Uc.mpr ⟨?_,hc⟩;show c.2.2.set i c.1∈tlU ws is;have hlt:i<c.2.2.length:=(AAT.mp hi).1;have hlt2:i<is.length:=by rw[←Ki ht];exact hlt
  have hb:is[i]?=some is[i]:=by simp[hlt2]
  obtain⟨v,hv,hv2⟩:=M8 ht hb;rw[hi] at hv;cases hv;have hf:is[i]=false:=by
   cases e:is[i] with
   |false=>rfl
   |true=>rw[e] at hv2;have h2:(-2:Int)=-1:=hv2;omega
  have:=Kh (r:=i) (b:=is[i]) (v:=c.1) ht (by rw[hf];exact .inr hw);have e:is.set i is[i]=is:=by simp
  rw[e] at this;exact this
theorem Yv(S:Shp ws is a m)(r:Rch c x)(h:c∈Uc ws is a m):x∈Uc ws is a m:=by
 induction r with
 |refl=>exact h
 |step _ s ih=>exact Yw S ih s
theorem Tn(S:Shp ws is a m)(h:∀c∈cs,c∈Uc ws is a m)(hx:x∈clo cs):x∈Uc ws is a m:=by
 obtain⟨c,hc,hr⟩:=mem_clo.mp hx;exact Yv S (rch_iff.mp hr) (h c hc)
end
structure Fit(cs U:List Cs):Prop where
 nd:cs.Nodup
 sub:∀x∈clo cs,x∈U
 few:U.length<3000
 len:∀x∈U,x.2.2.length<=3
theorem Yd(S:Shp ws is a m)(nd:cs.Nodup)(h:∀c∈cs,c∈Uc ws is a m):Fit cs (Uc ws is a m) where
 nd:=nd
 sub:=λx hx=>Tn S h hx
 few:=AAs (Yx ws is a m) S.few
 len:=λx hx=>by rw[Ki (mem_Uc.mp hx).1];exact S.len
theorem Fit.many(F:Fit cs U):cs.length<=3000:=by
 have:=DY F.nd λx hx=>F.sub x (mem_clo.mpr ⟨x,hx,Ge x⟩);have:=F.few;omega
structure St(ws:List Int)(is:List Bool)(a:Int)(m:Option Int)(cs:List Cs):Prop where
 S:Shp ws is a m
 nd:cs.Nodup
 sub:∀c∈cs,c∈Uc ws is a m
section
variable{ws:List Int}{is:List Bool}{a b v:Int}{m:Option Int}{cs:List Cs}{r:Nat}
theorem St.fit(h:St ws is a m cs):Fit cs (Uc ws is a m):=Yd h.S h.nd h.sub
theorem St.many(h:St ws is a m cs):cs.length<=3000:=h.fit.many
theorem St.tl(h:St ws is a m cs)(hc:c∈cs):c.2.2∈tlU ws is:=(mem_Uc.mp (h.sub c hc)).1
theorem St.len(h:St ws is a m cs)(hc:c∈cs):c.2.2.length=is.length:=Ki (h.tl hc)
theorem St.wb(h:St ws is a none cs)(hv:v∈ws):St ws is a (some v) (cs.map (QW v)):=by
 refine⟨⟨h.S.pos,h.S.ha,λb e=>by cases e;exact hv,h.S.len,h.S.few⟩,Wb.nodup_map_on (λx hx y hy z=>?_) h.nd,λc hc=>?_⟩
 ·have e1:=(mem_Uc.mp (h.sub x hx)).2.2;have e2:=(mem_Uc.mp (h.sub y hy)).2.2;obtain⟨a1,a2,a3⟩:=x;obtain⟨b1,b2,b3⟩:=y;simp only[QW,Prod.mk.injEq] at z e1 e2 ⊢;exact⟨z.1,e1.trans e2.symm,z.2.2⟩
 ·obtain⟨x,hx,rfl⟩:=AAL.mp hc;obtain⟨h1,h2,_⟩:=mem_Uc.mp (h.sub x hx);exact mem_Uc.mpr ⟨h1,.inl ⟨h2,rfl⟩⟩
theorem St.we(h:St ws is a (some b) cs):St ws is b none (cs.filterMap MV):=by
 refine⟨⟨h.S.pos,h.S.hm b rfl,(λ_ e=>nomatch e),h.S.len,h.S.few⟩,Wb.nodup_fm_on (λx hx y hy z e1 e2=>?_) h.nd,λc hc=>?_⟩
 ·obtain⟨q1,r1⟩:=Di e1;obtain⟨q2,r2⟩:=Di e2;have z:=r1.symm.trans r2;obtain⟨a1,a2,a3⟩:=x;obtain⟨b1,b2,b3⟩:=y;simp only[Prod.mk.injEq] at z q1 q2 ⊢;exact⟨z.1,q1.trans q2.symm,z.2.2⟩
 ·obtain⟨x,hx,e⟩:=List.mem_filterMap.mp hc;obtain⟨q1,rfl⟩:=Di e;obtain⟨h1,h2⟩:=mem_Uc.mp (h.sub x hx);refine mem_Uc.mpr ⟨h1,?_,rfl⟩;have hb:=h.S.pos b (h.S.hm b rfl);rcases h2 with ⟨_,z⟩|⟨z,_⟩
  ·omega
  ·exact z
theorem St.get(h:St ws is a m cs)(hc:c∈cs)(ho:is[r]?=some o):∃v,c.2.2[r]?=some v/\(if o then v=-1 else v=-2∨v∈ws):=M8 (h.tl hc) ho
theorem St.rb(h:St ws is a m cs)(ho:is[r]?=some true):St ws (is.set r false) a m (cs.map (QX r)):=by
 refine⟨⟨h.S.pos,h.S.ha,h.S.hm,by rw[AAx];exact h.S.len,by rw[AAx];exact h.S.few⟩,Wb.nodup_map_on (λx hx y hy z=>?_) h.nd,λc hc=>?_⟩
 ·obtain⟨v1,e1,f1⟩:=h.get hx ho;obtain⟨v2,e2,f2⟩:=h.get hy ho;have f1:v1=-1:=f1;have f2:v2=-1:=f2;subst f1 f2;obtain⟨a1,a2,a3⟩:=x;obtain⟨b1,b2,b3⟩:=y;simp only[QX,Prod.mk.injEq] at z e1 e2 ⊢;exact⟨z.1,z.2.1,Kp (b:=0) e1 e2 z.2.2⟩
 ·obtain⟨x,hx,rfl⟩:=AAL.mp hc;obtain⟨h1,h2⟩:=mem_Uc.mp (h.sub x hx);exact mem_Uc.mpr ⟨Kh h1 (.inl rfl),h2⟩
theorem St.re(h:St ws is a m cs):St ws (is.set r true) a m (cs.filterMap (MW r v)):=by
 refine⟨⟨h.S.pos,h.S.ha,h.S.hm,by rw[AAx];exact h.S.len,by rw[AAx];exact h.S.few⟩,Wb.nodup_fm_on (λx hx y hy z e1 e2=>?_) h.nd,λc hc=>?_⟩
 ·obtain⟨q1,r1⟩:=Dj e1;obtain⟨q2,r2⟩:=Dj e2;have z:=r1.symm.trans r2;obtain⟨a1,a2,a3⟩:=x;obtain⟨b1,b2,b3⟩:=y;simp only[Prod.mk.injEq] at z q1 q2 ⊢;exact⟨z.1,z.2.1,Kp (b:=0) q1 q2 z.2.2⟩
 ·obtain⟨x,hx,e⟩:=List.mem_filterMap.mp hc;obtain⟨q1,rfl⟩:=Dj e;obtain⟨h1,h2⟩:=mem_Uc.mp (h.sub x hx);exact mem_Uc.mpr ⟨Kh (b:=true) h1 rfl,h2⟩
end
structure Bz(G:Nat->Bool)(is:List Bool)(mm:Option Int):Prop where
 w:mm.isSome=G 0
 r:∀r,r<is.length->is[r]?=some (!G (r+1))
section
variable{x y:Cs}{h:Nat}{e:Ev}
theorem YF(s:(h,y)∈Dt x):(h=0/\0<=x.2.1/\y=(x.2.1,-2,x.2.2))∨∃i,h=i+1/\x.2.2[i]?=some (-2)/\y=mvR x i:=by
 unfold Dt at s;rcases AAJ.mp s with z|z
 ·by_cases c:0<=x.2.1
  ·rw[if_pos c] at z;cases AAK.mp z;exact .inl ⟨rfl,c,rfl⟩
  ·rw[if_neg c] at z;cases z
 ·obtain⟨i,hi,e⟩:=AAL.mp z;cases e;exact .inr ⟨i,rfl,(mem_rdF.mp hi).2,rfl⟩
theorem Yb:∀{cs:List Cs},cs.filterMap (one e)=pre cs e:=λ{cs}=>by
 cases e with
 |wb v=>exact List.filterMap_eq_map' (f:=QW v) ▸ rfl
 |rb r=>exact List.filterMap_eq_map' (f:=QX r) ▸ rfl
 |we=>rfl
 |re r v=>rfl
theorem ZR(st:St ws is a mm cs)(bz:Bz G is mm)(hw:G e.hand=!e.beg)(hh:e.hand<is.length+1)(hv:∀v,e=.wb v->v∈ws):∃(is':List Bool) (a':Int) (mm':Option Int),St ws is' a' mm' (pre cs e)/\Bz (λx=>if x=e.hand then e.beg else G x) is' mm'/\is'.length=is.length:=by
 cases e with
 |wb v=>
  have m0:mm=none:=by
   have:=bz.w.trans hw;cases mm with
   |none=>rfl
   |some b=>cases this
  subst m0;exact⟨is,a,some v,st.wb (hv v rfl),⟨rfl,λr hr=>bz.r r hr⟩,rfl⟩
 |we=>
  obtain⟨b,rfl⟩:∃b,mm=some b:=by
   have:=bz.w.trans hw;cases mm with
   |none=>cases this
   |some b=>exact⟨b,rfl⟩
  exact⟨is,b,none,st.we,⟨rfl,λr hr=>bz.r r hr⟩,rfl⟩
 |rb r=>
  have hr:r<is.length:=by
   have:r+1<is.length+1:=hh;omega
  have ho:is[r]?=some true:=by rw[bz.r r hr,show G (r+1)=false from hw];rfl
  refine⟨_,a,mm,st.rb ho,⟨bz.w,λj hj=>?_⟩,AAx ..⟩;rw[AAx] at hj;by_cases z:r=j
  ·subst z;rw[List.getElem?_set_self hr];show some false=some (!(if r+1=r+1 then true else G (r+1)));rw[if_pos rfl];rfl
  ·rw[AAo z,bz.r j hj];show _=some (!(if j+1=r+1 then true else G (j+1)));rw[if_neg (by omega)]
 |re r v=>
  have hr:r<is.length:=by
   have:r+1<is.length+1:=hh;omega
  refine⟨_,a,mm,st.re (r:=r) (v:=v),⟨bz.w,λj hj=>?_⟩,AAx ..⟩;rw[AAx] at hj;by_cases z:r=j
  ·subst z;rw[List.getElem?_set_self hr];show some true=some (!(if r+1=r+1 then false else G (r+1)));rw[if_pos rfl];rfl
  ·rw[AAo z,bz.r j hj];show _=some (!(if j+1=r+1 then false else G (j+1)));rw[if_neg (by omega)]
theorem ZQ(st:St ws is a mm cs)(w:Wk cs K []):St ws is a mm K:=⟨st.S,w.nd,λc hc=>Tn st.S st.sub (w.frm c hc)⟩
end
end K17
namespace K17
open PySem L2 Mi Nk Wb Ht
open K13 (Ev Ev.beg Ev.hand Ev.val D4)
open K12 (Di Dj)
open K15 (one)
open K18 (pth)
section
variable{G:Nat->Bool}{N:Nat}{x y:Cs}{h:Nat}{e:Ev}{d:D}{L:List (Key×D)}
noncomputable def wt(c:Cs):Nat:=(if 0<=c.2.1 then 1 else 0)+c.2.2.count (-2)
structure Wp(G:Nat->Bool)(N:Nat)(c:Cs)(p:D):Prop where
 path:∃ks:List Nat,p=pth ks.reverse/\(∀k∈ks,k<1000)/\ks.length+wt c<=N
 pos:0<=c.1
 w:0<=c.2.1->G 0=true
 r:∀i,c.2.2[i]?=some (-2)->G (i+1)=true
def Gw(G:Nat->Bool)(L:List (Key×D)):Prop:=∀h,G h=true->∃i:Nat,i<1000/\CW L (.inl (h:Int))=some (.int i)
theorem LM{l:List Int}:(l.set i a).count (-2)<=l.count (-2)+(if a=-2 then 1 else 0)/\(l[i]?=some (-2)->a≠-2->(l.set i a).count (-2)+1<=l.count (-2)):=by
 induction l generalizing i with
 |nil=>exact⟨by simp,λz=>by cases z⟩
 |cons b l ih=>
  cases i with
  |zero=>
   rw[List.set_cons_zero,List.count_cons,List.count_cons];refine⟨by by_cases q:a=-2<;>by_cases q':b=-2<;>simp[q,q']<;>omega,λz q=>?_⟩;cases z;simp[q]
  |succ i=>
   rw[List.set_cons_succ,List.count_cons,List.count_cons];obtain⟨h1,h2⟩:=ih (i:=i);exact⟨by omega,λz q=>by have:=h2 z q;omega⟩
theorem Wp.mom(gi:Gw G L)(s:(h,y)∈Dt x)(p:Wp G N x d):∃i:D,CW L (.inl (h:Int))=some i/\Wp G N y (.tup [i,d]):=by
 obtain⟨⟨ks,rfl,hk,hl⟩,h0,hw,hr⟩:=p;have add:∀{i:Nat},i<1000->∀k∈ks++[i],k<1000:=λhi k hk2=>by
  rcases AAJ.mp hk2 with z|z
  ·exact hk k z
  ·rw[AAK.mp z];exact hi
 rcases YF s with ⟨rfl,c,rfl⟩|⟨i,rfl,hi,rfl⟩
 ·obtain⟨i,i1,i2⟩:=gi 0 (hw c);refine⟨_,i2,⟨ks++[i],by rw[List.reverse_append];rfl,add i1,?_⟩,c,λz=>absurd z (by show ¬(0:Int)<=-2;decide),hr⟩;unfold wt at hl ⊢;rw[if_pos c] at hl;rw[AAG,if_neg (by show ¬(0:Int)<=-2;decide)];show ks.length+1+(0+x.2.2.count (-2))<=N;omega
 ·obtain⟨k,i1,i2⟩:=gi (i+1) (hr i hi);have n2:x.1≠-2:=by omega
  refine⟨_,i2,⟨ks++[k],by rw[List.reverse_append];rfl,add i1,?_⟩,h0,hw,λj hj=>?_⟩
  ·have:=(LM (l:=x.2.2) (i:=i) (a:=x.1)).2 hi n2;unfold wt at hl ⊢;rw[AAG];show ks.length+1+((if 0<=x.2.1 then 1 else 0)+(x.2.2.set i x.1).count (-2))<=N;omega
  ·by_cases q:i=j
   ·subst q;exact hr i hi
   ·refine hr j ?_;rw[←hj];exact(AAo q).symm
theorem Wp.ev(hv:∀v,e.val=some v->0<=v)(p:Wp G N x d)(s:one e x=some y):Wp (λz=>if z=e.hand then e.beg else G z) (N+1) y d:=by
 obtain⟨⟨ks,rfl,hk,hl⟩,h0,hw,hr⟩:=p;unfold wt at hl;cases e with
 |wb v=>
  cases s;refine⟨⟨ks,rfl,hk,?_⟩,h0,λ_=>rfl,λi hi=>?_⟩
  ·unfold wt;show ks.length+((if 0<=v then 1 else 0)+x.2.2.count (-2))<=N+1;split<;>omega
  ·show (if i+1=0 then true else G (i+1))=true;rw[if_neg (by omega)];exact hr i hi
 |we=>
  obtain⟨q,rfl⟩:=Di s;refine⟨⟨ks,rfl,hk,?_⟩,h0,λz=>absurd z (by show ¬(0:Int)<=-1;decide),λi hi=>?_⟩
  ·unfold wt;rw[if_neg (by show ¬(0:Int)<=-1;decide)];show ks.length+(0+x.2.2.count (-2))<=N+1;omega
  ·show (if i+1=0 then false else G (i+1))=true;rw[if_neg (by omega)];exact hr i hi
 |rb r=>
  cases s;refine⟨⟨ks,rfl,hk,?_⟩,h0,λz=>?_,λi hi=>?_⟩
  ·have:=(LM (l:=x.2.2) (i:=r) (a:=-2)).1;rw[if_pos rfl] at this;unfold wt;show ks.length+((if 0<=x.2.1 then 1 else 0)+(x.2.2.set r (-2)).count (-2))<=N+1;omega
  ·show (if 0=r+1 then true else G 0)=true;rw[if_neg (by omega)];exact hw z
  ·show (if i+1=r+1 then true else G (i+1))=true;by_cases q:r=i
   ·rw[q,if_pos rfl]
   ·rw[if_neg (by omega)];refine hr i ?_;rw[←hi];exact(AAo q).symm
 |re r v=>
  obtain⟨q1,rfl⟩:=Dj s;refine⟨⟨ks,rfl,hk,?_⟩,h0,λz=>?_,λi hi=>?_⟩
  ·have:=(LM (l:=x.2.2) (i:=r) (a:=-1)).1;rw[if_neg (by decide)] at this;unfold wt;show ks.length+((if 0<=x.2.1 then 1 else 0)+(x.2.2.set r (-1)).count (-2))<=N+1;omega
  ·show (if 0=r+1 then false else G 0)=true;rw[if_neg (by omega)];exact hw z
  ·show (if i+1=r+1 then false else G (i+1))=true;by_cases q:r=i
   ·subst q;have hi:(x.2.2.set r (-1))[r]?=some (-2):=hi;rw[List.getElem?_set_self (AAT.mp q1).1] at hi;cases hi
   ·rw[if_neg (by omega)];refine hr i ?_;rw[←hi];exact(AAo q).symm
theorem Gw.ev{g:Int}(hg:e.beg=true->∃i:Nat,i<1000/\g=i)(gi:Gw G L):Gw (λz=>if z=e.hand then e.beg else G z) (Cy L (.inl ((e.hand:Nat):Int)) (.int g)):=λj z=>by
 rw[D4];by_cases q:j=e.hand
 ·subst q;have z:(if e.hand=e.hand then e.beg else G e.hand)=true:=z;rw[if_pos rfl] at z ⊢;obtain⟨i,h1,rfl⟩:=hg z;exact⟨i,h1,rfl⟩
 ·have z:(if j=e.hand then e.beg else G j)=true:=z;rw[if_neg q] at z;rw[if_neg λw=>q (by have:=Sum.inl.inj w;omega)];exact gi j z
end
end K17
namespace K17
open PySem L2 Mi Nk Wb Ht
open K13 (Ai Ev Ev.beg Ev.hand Ev.val wfG Ns evD Am hdD po pc pd p2 pq pa piT piF pr AV A0 A9 Er D7 Gn Bc)
open K16 (mkK C0 Ez BK)
open K15 (one mem_wz wz)
open K18 (pth A3 A4 B2 B5 bhd LR Lk Fr wmH wm0 wmN OC e_0 f_0)
section
variable{Z:Mh}{m gn:Nat}{o0 o1 o2:Option D}
noncomputable abbrev moB:Sl->M (Fl×Sl):=(AS (ER (AA 4) (mOp AJ (AA 5) (mC (.int 1))) (mOp AJ (AA 5) (mC (.int 3))))
  (AW (AG A3 (AC (AG A4 (AC (AA 3) (AC (AA 5) AL))) (AC (AA 4) AL))) (AO 3)))
theorem WA(hgn:Z.length<=gn):∀(es:List Ev) (G:Nat->Bool) (N nb:Nat) (c:Nat->Int) (l:List (Cs×D)) (L:List (Key×D)) (is:List Bool) (a:Int) (mm:Option Int) (pn:Nat) (M:Mh) (o5:Option D),wfG G es->(∀e∈es,∀v,e.val=some v->0<=v)->(∀e∈es,e.hand<m+1)->(∀v,Ev.wb v∈es->v∈ws)->St ws is a mm (l.map (·.1))->Bz G is mm->is.length=m->(∀y∈l,Wp G N y.1 y.2)->Gw G L->nb+es.length<=1000->L.length+es.length<=1000->M[pn]?=some (.dC l)->M[gn]?=some (.dK L)->(∃Gb,M=Z++Gb)->
  ∃(l':List (Cs×D)) (pn':Nat) (Gb':Mh) (o5':Option D),(∀y∈l',∃ks:List Nat,y.2=pth ks.reverse/\(∀k∈ks,k<1000)/\ks.length<=N+es.length)/\(Z++Gb')[pn']?=some (.dC l') /\
   B1 (AO 5) moB ((es.zip (C0 nb c es)).map λp=>Am p.1 p.2) [o0,o1,o2,some (.ref pn),some (.ref gn),o5] M=some ((.next,[o0,o1,o2,some (.ref pn'),some (.ref gn),o5']),Z++Gb')
 |[],G,N,nb,c,l,L,is,a,mm,pn,M,o5,_,_,_,_,st,_,_,hP,_,_,_,hp,_,⟨Gb,e⟩=>by
  subst e;refine⟨l,pn,Gb,o5,λy hy=>?_,hp,rfl⟩;obtain⟨ks,h1,h2,h3⟩:=(hP y hy).path;exact⟨ks,h1,h2,by rw[List.length_nil];omega⟩
 |e::es,G,N,nb,c,l,L,is,a,mm,pn,M,o5,wf,hv,hh,hw,st,bz,il,hP,gi,hb,hl,hp,hg,⟨Gb,eM⟩=>by
  have hz:=A9;have hv1:=hv e AAP;have hh1:=hh e AAP;obtain⟨is',a',mm',st',bz',il'⟩:=ZR st bz wf.1 (by rw[il];exact hh1) (λv z=>hw v (by rw[←z];exact AAP));rw[AAH] at hb hl;have key:∀(g:Int) (nb':Nat) (c':Nat->Int),(e.beg=true->g=(nb:Int))->nb'<=nb+1->C0 nb c (e::es)=g::C0 nb' c' es->
   ∃(l':List (Cs×D)) (pn':Nat) (Gb':Mh) (o5':Option D),(∀y∈l',∃ks:List Nat,y.2=pth ks.reverse/\(∀k∈ks,k<1000)/\ks.length<=N+(e::es).length)/\(Z++Gb')[pn']?=some (.dC l') /\
   B1 (AO 5) moB (((e::es).zip (C0 nb c (e::es))).map λp=>Am p.1 p.2) [o0,o1,o2,some (.ref pn),some (.ref gn),o5] M=some ((.next,[o0,o1,o2,some (.ref pn'),some (.ref gn),o5']),Z++Gb'):=λg nb' c' hgb hnb hgs=>by
   let L1:=Cy L (.inl ((e.hand:Nat):Int)) (.int g)
   let M1:Mh:=M.set gn (.dK L1)
   have pl:=D7 L (.inl ((e.hand:Nat):Int)) (.int g);have ne:gn≠pn:=λz=>by rw[z,hp] at hg;cases hg
   have hp1:M1[pn]?=some (.dC l):=by show (M.set gn _)[pn]?=_;rw[AAo ne];exact hp
   have hg1:M1[gn]?=some (.dK L1):=List.getElem?_set_self (AAT.mp hg).1;have lm:=st.many;rw[AAF] at lm;have kb:(bhd e l).map (·.1)=pre (l.map (·.1)) e:=by rw[LR,←Yb,List.filterMap_map];rfl
   have st2:St ws is' a' mm' ((bhd e l).map (·.1)):=by rw[kb];exact st'
   have vb:=Lk (Z:=M1) (n:=pn) (e:=e) (g:=g) hp1 (λy hy=>by
    have:=st.len (AAL.mpr ⟨y,hy,rfl⟩);have:=st.S.len;omega) (by omega) st2.nd
   have hp2:(M1++[MO.dC (bhd e l)])[M1.length]?=some (.dC (bhd e l)):=e_0;have hg2:(M1++[MO.dC (bhd e l)])[gn]?=some (.dK L1):=by rw[AAS (AAT.mp hg1).1];exact hg1
   have gi1:Gw (λz=>if z=e.hand then e.beg else G z) L1:=gi.ev λz=>⟨nb,by omega,hgb z⟩;obtain⟨F,W,gg,wk,hF,vm⟩:=Fr (Z:=M1++[MO.dC (bhd e l)]) (n:=M1.length) (g:=gn) (P:=Wp (λz=>if z=e.hand then e.beg else G z) (N+1)) hp2 hg2 (λy hy=>by
    obtain⟨x,hx,z⟩:=List.mem_filterMap.mp hy;obtain⟨cc,h1,h2⟩:=Option.map_eq_some_iff.mp z;subst h2;exact(hP x hx).ev hv1 h1) (λp cc h d s q=>q.mom gi1 s) st2.nd st2.fit.sub st2.fit.few (λx hx=>by have:=st2.fit.len x (st2.fit.sub x hx);omega)
   have st3:=ZQ st2 wk;have e3:∃Gb',wmH (M1++[MO.dC (bhd e l)]) F W gg=Z++Gb':=by
    refine⟨Gb.set (gn-Z.length) (.dK L1)++[MO.dC (bhd e l)]++(.dC F::.dC W::.lst []::gg),?_⟩;show (M.set gn (.dK L1)++[MO.dC (bhd e l)])++_=_;rw[eM,AAg _ _ hgn];simp only[AAm]
   obtain⟨l',pn',Gb',o5',q1,q4,go⟩:=WA hgn es _ (N+1) nb' c' F L1 is' a' mm' (M1++[MO.dC (bhd e l)]).length (wmH (M1++[MO.dC (bhd e l)]) F W gg) (some (Am e g)) wf.2 (λx hx=>hv x (AAQ _ hx)) (λx hx=>hh x (AAQ _ hx)) (λv hv=>hw v (AAQ _ hv)) st3 bz' (il'.trans il) hF gi1 (by omega) (by show (Cy L _ _).length+_<=_;omega) wm0 (wmN hg2) e3;refine⟨l',pn',Gb',o5',λy hy=>?_,q4,?_⟩
   ·obtain⟨ks,h1,h2,h3⟩:=q1 y hy;exact⟨ks,h1,h2,by rw[AAH];omega⟩
   rw[hgs];refine AV (x:=Am e g) (x3:=[o0,o1,o2,some (.ref pn),some (.ref gn),some (Am e g)]) (w6:=M) rfl (AX (w6:=M1) (x3:=[o0,o1,o2,some (.ref pn),some (.ref gn),some (Am e g)]) (Er (L:=L) (k:=e.hand) (v:=.int g) (po (x:=Am e g) (y:=.int 3) rfl rfl rfl) rfl (po (x:=Am e g) (y:=.int 1) rfl rfl rfl) hg (by omega)) (CZ (d:=.ref (M1++[MO.dC (bhd e l)]).length) (B8 (Es (B8 (ds:=[.ref pn,Am e g]) rfl vb) (Es (x:=.ref gn) rfl rfl)) vm) rfl)) go
  cases be:e.beg with
  |true=>exact key nb (nb+1) _ (λ_=>rfl) (AAE _) (by rw[K16.gs_beg be];rfl)
  |false=>exact key (c e.hand) nb c (λz=>by rw[be] at z;cases z) (by omega) (by rw[K16.gs_end be])
end
section
variable{Z:Mh}{sz bg:Int}{ns:List Str}{kd:Str}{es:List Ev}
theorem ZS(N:Ns ns)(wf:wfG (λ_=>false) es)(eo:∀e∈es,e.Ok ns sz)(hl:es.length<=18)(b0:0<=bg):Shp (bg::wz es) (List.replicate (ns.length-1) true) bg none where
 pos:=λw hw=>by
  rcases AAI.mp hw with rfl|hw
  ·exact b0
  ·exact((eo _ (mem_wz.mp hw)).v w rfl).1
 ha:=AAP
 hm:=(λb z=>by cases z)
 len:=by rw[AAn];have:=N.hi;omega
 few:=by
  have w:=K15.wz_few wf;have w:2 * (wz es).length<=es.length+1:=w;have hi:=N.hi;rw[AAn,AAH];have q:ns.length-1=0∨ns.length-1=1∨ns.length-1=2∨ns.length-1=3:=by omega
  have t:=show 1+((wz es).length+1)<=11 by omega
  rcases q with q|q|q|q<;>rw[q]
  ·have:=K15.pow_le t 0;omega
  ·have:=K15.pow_le t 1;omega
  ·have:=K15.pow_le t 2;omega
  ·have:=K15.pow_le t 3;omega
theorem ao(S:Shp ws (List.replicate n true) bg none):St ws (List.replicate n true) bg none [(bg,-1,List.replicate n (-1))]:=⟨S,by simp,λc hc=>by
 rw[AAK.mp hc];refine mem_Uc.mpr ⟨?_,rfl,rfl⟩;show List.replicate n (-1)∈_;clear S hc
 induction n with
 |zero=>simp[tlU]
 |succ k ih=>exact mem_tlU.mpr ⟨-1,List.replicate k (-1),rfl,rfl,ih⟩⟩
theorem Sx{M:Mh}(ks:List Nat):(ks.map λk:Nat=>D.int k).map (CO M k (n+1))=ks.map λk:Nat=>D.int k:=by
 rw[List.map_map];rfl
theorem XD(N:Ns ns)(wf:wfG (λ_=>false) es)(eo:∀e∈es,e.Ok ns sz)(l1:es.length<=18)(b0:0<=bg):
  (∃ks:List Nat,ks.length<=18/\(∀k∈ks,k<1000)/\D8 [mkK kd sz bg ns,.lst (es.map (evD ns))] Z=some (.lst (ks.map λk:Nat=>D.int k),Z))∨D8 [mkK kd sz bg ns,.lst (es.map (evD ns))] Z=some (.non,Z):=by
 have hz:=A9;have hi:=N.hi;have lo:=N.lo
 let m:=ns.length-1
 let c0:Cs:=(bg,-1,List.replicate m (-1))
 let M0:Mh:=Z++[MO.dC [(c0,.non)],MO.dK []]
 have m0:M0[Z.length]?=some (.dC [(c0,.non)]):=by show (Z++[MO.dC [(c0,.non)],MO.dK []])[Z.length]?=_;rw[AAR (AAE _),AAw];rfl
 have m1:M0[Z.length+1]?=some (.dK []):=by show (Z++[MO.dC [(c0,.non)],MO.dK []])[Z.length+1]?=_;rw[AAR (by omega),Nat.add_sub_cancel_left];rfl
 obtain⟨gs,hg,hx,ea⟩:=K16.v_actsX (Z:=M0) (kd:=kd) (bg:=bg) N eo wf (by omega);subst hx;rw[K16.eq_acts] at ea;have s0:=ao (ZS N wf eo l1 b0);have cw:(List.replicate m (-1:Int)).count (-2)=0:=List.count_eq_zero.mpr λz=>absurd (List.eq_of_mem_replicate z) (by decide);obtain⟨l',pn,Gb,o5,q1,q4,go⟩:=WA (Z:=Z) (m:=m) (gn:=Z.length+1) (o0:=some (mkK kd sz bg ns)) (o1:=some (.lst (es.map (evD ns)))) (o2:=some (.int m)) (by omega) es (λ_=>false) 0 0 (λ_=>0) [(c0,.non)] [] _ bg none Z.length M0 none wf (λe he v hv=>((eo e he).v v hv).1) (λe he=>by have:=(eo e he).h;show _<ns.length-1+1;omega) (λv hv=>AAQ _ (mem_wz.mpr hv)) s0 ⟨rfl,λr hr=>by rw[List.getElem?_replicate,if_pos (by rw[AAn] at hr;exact hr)];rfl⟩ AAn (λy hy=>by
  rw[AAK.mp hy];refine⟨⟨[],rfl,(λ_ h=>by cases h),?_⟩,b0,λz=>absurd z (by show ¬(0:Int)<=-1;decide),λi hi=>?_⟩
  ·show 0+((if (0:Int)<=-1 then 1 else 0)+(List.replicate m (-1:Int)).count (-2))<=0;rw[cw]
   decide
  ·have:=List.eq_of_mem_replicate (AAU hi);exact absurd this (by decide)) (λh z=>by cases z) (by omega) (by show 0+_<=_;omega) m0 m1 ⟨_,rfl⟩
 have bgn:∀{R:(Fl×Sl)×Mh},(AS (sIf (Du (MJ (AA 3))) (Az (mC .non)) BP)
  (Az (AG B2 (AC (mOp AJ (mUn NT (AA 3)) (mC (.int 0))) AL)))) [some (mkK kd sz bg ns),some (.lst (es.map (evD ns))),some (.int m),some (.ref pn),some (.ref (Z.length+1)),o5] (Z++Gb)=some R->B5 Ai A4 A3 B2 (BR 6 [mkK kd sz bg ns,.lst (es.map (evD ns))]) Z=some R:=λ{R} h=>by
  refine AX (w6:=Z) (x3:=[some (mkK kd sz bg ns),some (.lst (es.map (evD ns))),some (.int m),none,none,none]) (pa (d:=.int m) (po (x:=.int ns.length) (y:=.int 1) (pd (ds:=[.tup (ns.map hdD)]) rfl ?_) rfl ?_) rfl) (AX (w6:=Z++[.dC [(c0,.non)]]) (x3:=[some (mkK kd sz bg ns),some (.lst (es.map (evD ns))),some (.int m),some (.ref Z.length),none,none]) (CZ (d:=.ref Z.length) ?_ rfl) (AX (w6:=M0) (x3:=[some (mkK kd sz bg ns),some (.lst (es.map (evD ns))),some (.int m),some (.ref Z.length),some (.ref (Z.length+1)),none]) (CZ (d:=.ref (Z.length+1)) ?_ rfl) (AX (EK (w6:=M0) ?_ go) h)))
  ·show some (D.int (((ns.map hdD).length:Nat):Int),Z)=_;rw[AAF]
  ·show some (D.int ((ns.length:Int)-1),Z)=_;rw[show ((ns.length:Int)-1)=(m:Nat) by show _=((ns.length-1:Nat):Int);omega]
  ·have ek:AG Bf (AC (mOp AJ (AA 0) (mC (.int 2))) (AC (mC K16.d_NONE) (AC (mOp Il (AG Bf (AC (mC K16.d_NONE) AL)) (AA 2)) AL))) [some (mkK kd sz bg ns),some (.lst (es.map (evD ns))),some (.int m),none,none,none] (Z++[MO.dC []])=some (csD c0,Z++[MO.dC []]):=by
    refine pd (ds:=[.int bg,.int (-1),.tup ((List.replicate m (-1)).map D.int)]) (pc (x:=.int bg) (po (x:=mkK kd sz bg ns) (y:=.int 2) rfl rfl rfl) (pc (x:=.int (-1)) rfl (pc (po (x:=.tup [.int (-1)]) (y:=.int m) rfl rfl ?_) rfl))) (A0 (by simp;omega));show (if [D.int (-1)]≠[]/\[D.int (-1)].length<=1000/\1<=(m:Int)/\(m:Int)<=1000 then some (D.tup (List.replicate ((m:Nat):Int).toNat [D.int (-1)]).flatten,(Z++[MO.dC []])) else none)=_;have hm1:1<=m:=by show 1<=ns.length-1;omega
    have hm2:m<=3:=by show ns.length-1<=3;omega
    rw[if_pos ⟨by simp,by simp,by omega,by omega⟩,Gn,List.map_replicate,Int.toNat_natCast]
   unfold K5;rw[show (bnd (AG Bf (AC (mOp AJ (AA 0) (mC (.int 2))) (AC (mC K16.d_NONE) (AC (mOp Il (AG Bf (AC (mC K16.d_NONE) AL)) (AA 2)) AL))) [some (mkK kd sz bg ns),some (.lst (es.map (evD ns))),some (.int m),none,none,none]) λy=>bnd (mC .non [some (mkK kd sz bg ns),some (.lst (es.map (evD ns))),some (.int m),none,none,none]) λx=>ret (y,x)) (Z++[.dC []])=some ((csD c0,.non),Z++[MO.dC []]) from by rw[AK ek];rfl];dsimp only;rw[e_0,K16.asCs_csD];dsimp only;rw[f_0]
  ·show some (D.ref (Z++[MO.dC [(c0,.non)]]).length,(Z++[MO.dC [(c0,.non)]])++[MO.dK []])=_;rw[AAG,AAm];rfl
  ·exact K13.Bl (pd rfl ea)
 have tr:MJ (AA 3) [some (mkK kd sz bg ns),some (.lst (es.map (evD ns))),some (.int m),some (.ref pn),some (.ref (Z.length+1)),o5] (Z++Gb)=some (!l'.isEmpty,Z++Gb):=by
  unfold MJ;rw[AK (show AA 3 [some (mkK kd sz bg ns),some (.lst (es.map (evD ns))),some (.int m),some (.ref pn),some (.ref (Z.length+1)),o5] (Z++Gb)=some (.ref pn,Z++Gb) from rfl),AK (Ez q4)];rfl
 cases l' with
 |nil=>exact .inr (Fp (d:=.non) (w6:=Z) (g:=Gb) (bgn (C5 (piT (HV tr) (pr rfl)))) rfl (DR (by unfold Cl;trivial)) rfl (by show Cl Z.length D.non;simp[Cl]))
 |cons y r=>
  obtain⟨ks,ep,hk,kl⟩:=q1 y AAP;refine .inl ⟨ks,by omega,hk,?_⟩;have vo:=OC (Z:=Z++Gb) (ks:=ks) (by omega);rw[←ep] at vo;have fz:CO (Z++(Gb++[.lst (ks.map λk:Nat=>D.int k)])) Z.length 8 (.ref (Z++Gb).length)=.lst (ks.map λk:Nat=>D.int k):=by
   unfold CO;dsimp only;rw[Nat.ble_eq_true_of_le (by rw[AAG];omega),←AAm];dsimp only;rw[e_0];dsimp only;rw[Sx]
  have:=Fp (ps:=2) (n:=6) (mb:=B5 Ai A4 A3 B2) (ds:=[mkK kd sz bg ns,.lst (es.map (evD ns))]) (d:=.ref (Z++Gb).length) (Z:=Z) (w6:=Z) (g:=Gb++[.lst (ks.map λk:Nat=>D.int k)]) (x6:=[some (mkK kd sz bg ns),some (.lst (es.map (evD ns))),some (.int m),some (.ref pn),some (.ref (Z.length+1)),o5]) (bgn ?_) rfl (DR (by unfold Cl;trivial)) rfl (by
   rw[fz];unfold Cl;exact K13.BO (λk=>by simp[Cl]) ks)
  ·rw[fz] at this;exact this
  rw[←AAm];refine AX (piF (HV tr) rfl) (De (B8 (ds:=[y.2]) (pc (po (x:=.lst ((y::r).map (·.2))) (y:=.int 0) ?_ rfl (Iy (K13.Bj (r:=0) rfl))) rfl) vo));show bnd (AA 3 _) _ _=_;rw[AK (show AA 3 [some (mkK kd sz bg ns),some (.lst (es.map (evD ns))),some (.int m),some (.ref pn),some (.ref (Z.length+1)),o5] (Z++Gb)=some (.ref pn,Z++Gb) from rfl)];show bnd (G5 (.ref pn)) _ _=_;rw[AK (Ez q4)]
end
end K17
namespace K17
open PySem L2 Mi Nk Ht
open K13 (A9)
section
variable{Z l:Mh}{d:D}{ds:List D}{n i k:Nat}{B:Sl}{ra:Sl->M (List D)}{QD:D->Mh->Prop}
theorem Kd(ht:B[i]?=some (some (.ref (Z.length+k))))(hg:l[k]?=some (.lst ds))(h:WP (ra B) (Z++l) λes w6=>∃v y l' ds',es=[.int v,y]/\w6=Z++l'/\l'[k]?=some (.lst ds')/\0<=v/\v<2 ^ 62/\ds'.length<sizeLine/\QD .non (Z++l'.set k (.lst (ds'.take v.toNat++y::ds'.drop v.toNat)))):WP (Aj Nd (AA i) ra B) (Z++l) QD:=by
 unfold Aj;refine Ab (wp_of (A1 ht) (Ab (wp_of (a:=()) (by unfold Dc;rw[AK (G9 hg)];rfl) (Ab (AT h ?_)))));rintro es w6 ⟨v,y,l',ds',rfl,rfl,h1,h2,h3,h4,q⟩;refine wp_of (a:=.non) ?_ q;show EC (Z.length+k) (λds=>if 0<=v/\v<2 ^ 62/\ds.length<sizeLine then some (.non,ds.take v.toNat++y::ds.drop v.toNat) else none) (Z++l')=_;unfold EC;rw[EI,h1];show Option.map _ (if _ then _ else _)=_;rw[if_pos ⟨h2,h3,h4⟩,Option.map_some,JD]
theorem Qt(ht:B[i]?=some (some (.ref (Z.length+k))))(hg:l[k]?=some (.lst ds))(h:WP (ra B) (Z++l) λes w6=>∃v,es=[.int v]/\w6=Z++l/\0<=v/\v<1000000/\∃y,ds[v.toNat]?=some y/\QD y (Z++l.set k (.lst (ds.eraseIdx v.toNat)))):WP (Aj L9 (AA i) ra B) (Z++l) QD:=by
 unfold Aj;refine Ab (wp_of (A1 ht) (Ab (wp_of (a:=()) (by unfold Dc;rw[AK (G9 hg)];rfl) (Ab (AT h ?_)))));rintro es w6 ⟨v,rfl,rfl,h1,h2,y,h3,q⟩;refine wp_of (a:=y) ?_ q;show EC (Z.length+k) _ (Z++l)=_;unfold EC;rw[EI,hg];show Option.map _ (if _ then _ else _)=_;rw[if_pos ⟨h1,h2⟩,h3,Option.map_some,JD]
theorem UX(h:ds.length<=sizeLine)(q:QD (.ref (Z.length+l.length)) (Z++(l++[.lst ds]))):WP (Oj [.lst ds]) (Z++l) QD:=by
 show WP (bnd (B4 (.lst ds)) DJ) (Z++l) QD;exact Ab (wp_of rfl (N9 h q))
theorem Qj(q:QD (.int 1000000000000000000000000000000) ν):WP (FN (.int 10) (.int 30)) ν QD:=Qk (by decide) q
theorem Qu{j:Nat}(hg:l[k]?=some (.lst ds))(h:ds[j]?=some y):AJ (.ref (Z.length+k)) (.int j) (Z++l)=some (y,Z++l):=by
 show bnd (Ca (.ref (Z.length+k))) (λds=>ixD ds j) (Z++l)=_;rw[AK (G9 hg)];unfold ixD;rw[PN h];rfl
theorem Qs(ht:B[i]?=some (some (.ref (Z.length+k))))(ht':B[i']?=some (some (.int j)))(hg:l[k]?=some (.lst ds))(h:j<ds.length):WP (F7 (AA i) (AA i') d B) (Z++l) λB' Z'=>B'=B/\Z'=Z++l.set k (.lst (ds.set j d)):=by
 refine Ab (wp_of (A1 ht) (Ab (wp_of (A1 ht') (Ab (wp_of (a:=()) (Z':=Z++l.set k (.lst (ds.set j d))) ?_ (BQ ⟨rfl,rfl⟩))))));rw[J5 (by rw[EI];exact hg) (show ixN ds.length (j:Int)=some j by unfold ixN;rw[if_pos (by omega),if_pos (by omega),Int.toNat_natCast]),JD]
theorem E9(h:WP (tc B) Z λb w6=>w6=Z/\(b=true->P))(h1:P->WP (m1 B) Z QS)(h2:WP (m2 B) Z QS):WP (sIf tc m1 m2 B) Z QS:=by
 obtain⟨b,_,e,rfl,hb⟩:=h;show WP (bnd (tc B) _) _ QS;refine Ab (wp_of e ?_);cases b
 ·exact h2
 ·exact h1 (hb rfl)
theorem SD(ho:∀x∈ds,Oe x)(hy:Oe y):∀x∈ds.set j y,Oe x:=λx hx=>(List.mem_or_eq_of_mem_set hx).elim (ho x) λz=>z ▸ hy
theorem K1(ho:∀x∈ds,Oe x)(hy:Oe y):∀x∈ds.take j++y::ds.drop j,Oe x:=λx hx=>by
 rcases AAJ.mp hx with z|z
 ·exact ho x (List.mem_of_mem_take z)
 ·rcases AAI.mp z with rfl|z
  ·exact hy
  ·exact ho x (List.mem_of_mem_drop z)
theorem Hz:(ds.take j++y::ds.drop j).length=ds.length+1:=by
 rw[AAG,AAH,List.length_take,List.length_drop];omega
noncomputable def Ot(Z:Mh)(ds:List D):Fl×Sl->Mh->Prop:=λr w9=>∃d x6,r=(.rt d,x6)/\((d=.ref (Z.length+0)/\∃es:List D,w9=Z++[.lst es]/\es.length<=ds.length+1/\∀x∈es,Oe x)∨(w9=Z++[.lst ds,.dK []]/\d∈[.tup ds,.non,.str "",.ref (Z.length+1),.int 0]))
theorem GE(ht:B[3]?=some (some (.ref (Z.length+0))))(h1:es.length<=ds.length+1)(h2:∀x∈es,Oe x):Lq (Az (AA 3)) (Ot Z ds) (.next,B) (Z++[.lst es]):=by
 refine Ab (wp_of (A1 ht) (BQ ?_));exact⟨_,_,rfl,.inl ⟨rfl,es,rfl,h1,h2⟩⟩
theorem Vg{a b c e:Int}(ho:∀x∈ds,Oe x)(hl:ds.length<=800)(hn:n<=1000):WP (DK (BR 7 [.lst ds,.int n,.lst [.int a,.int b,.int c,.int e]])) (Z++[]) (Ot Z ds):=by
 have hz:=A9;unfold DK
 repeat' (first|((with_reducible apply Mi.N7);(wtm_at "h");intro _ _ _)|((with_reducible apply UX);(wtm_at "h"))|((fail_if_success (with_reducible apply Vt));wtm_at "n"))
 rename_i v4 g4 k4 v5 g5 k5 v6 g6 k6;obtain⟨j5,rfl⟩:∃k:Nat,v5=k:=⟨v5.toNat,by omega⟩;obtain⟨j6,rfl⟩:∃k:Nat,v6=k:=⟨v6.toNat,by omega⟩;refine E9 (P:=j5<ds.length/\j6<ds.length) (by wtm_at "a"<;>intro _<;>simp at *<;>omega) (λhp=>?_) ?_
 ·have a5:ds[j5]?=some ds[j5]:=AAu hp.1;have a6:ds[j6]?=some ds[j6]:=AAu hp.2;refine Wv ?_;wtm_at "a";refine wp_of (Qu rfl a6) ?_;wtm_at "a";refine wp_of (Qu rfl a5) ?_;wtm_at "a";show WP (bnd _ _) _ _;refine Ab (AT (Qs rfl rfl rfl hp.1) ?_);rintro _ _ ⟨rfl,rfl⟩;refine AT (Qs rfl rfl rfl (by rw[AAx];exact hp.2)) ?_;rintro _ _ ⟨rfl,rfl⟩;exact GE rfl (by rw[AAx,AAx];omega) (SD (SD ho (ho _ (List.getElem_mem _))) (ho _ (List.getElem_mem _)))
 refine E9 (P:=j5<ds.length) (by wtm_at "a"<;>intro _<;>simp at *<;>omega) (λhp=>?_) ?_
 ·wtm_at "a";(with_reducible apply Qt)
  ·rfl
  ·rfl
  wtm_at "a";refine⟨_,rfl,rfl,by omega,by omega,_,AAu (by simpa using hp),?_⟩;exact GE rfl (AAt (List.length_eraseIdx_le _ _) (by omega)) λx hx=>ho x (List.mem_of_mem_eraseIdx hx)
 refine E9 (P:=ds≠[]) ?_ (λhp=>?_) ?_
 ·wtm_at "a"
  ·refine TM ho true ?_;refine⟨_,rfl,rfl,λz q=>?_⟩;rw[q] at z;cases z
  ·exact λz=>by cases z
 ·have:0<ds.length:=List.length_pos_iff.mpr hp;wtm_at "a";(with_reducible apply Kd)
  ·rfl
  ·rfl
  wtm_at "a";refine GB (by assumption) (by assumption) λy hy=>?_;wtm_at "a";refine⟨_,_,_,_,rfl,rfl,rfl,by omega,by omega,by omega,?_⟩;exact GE rfl (Nat.le_of_eq Hz) (K1 ho (ho y hy))
 refine E9 (P:=j5<ds.length) (by wtm_at "a"<;>intro _<;>simp at *<;>omega) (λhp=>?_) ?_
 ·wtm_at "a";(with_reducible apply Kd)
  ·rfl
  ·rfl
  wtm_at "a";(with_reducible apply Qt)
  ·rfl
  ·rfl
  wtm_at "a";refine⟨_,rfl,rfl,by omega,by omega,_,AAu (by simpa using hp),?_⟩;wtm_at "a";refine⟨_,_,_,_,rfl,rfl,rfl,by omega,by omega,AAs (List.length_eraseIdx_le _ _) (by omega),?_⟩;refine GE rfl ?_ (K1 (λx hx=>ho x (List.mem_of_mem_eraseIdx hx)) (ho _ (List.getElem_mem _)));rw[Hz];exact Nat.succ_le_succ (List.length_eraseIdx_le _ _)
 refine E9 (P:=True) (by wtm_at "a"<;>exact λ_=>trivial) (λhp=>?_) ?_
 ·wtm_at "a";(with_reducible apply Kd)
  ·rfl
  ·rfl
  wtm_at "a";refine Qj ?_;wtm_at "a";refine GB (by assumption) (by assumption) λy hy=>?_;wtm_at "a";refine⟨_,_,_,_,rfl,rfl,rfl,by omega,by omega,by omega,?_⟩;exact GE rfl (Nat.le_of_eq Hz) (K1 ho (by
   simp only[AAI,List.not_mem_nil,or_false] at hy;rcases hy with rfl|rfl|rfl
   ·exact .i _ (by omega)
   ·exact .i _ (by decide)
   ·exact .g))
 refine E9 (P:=True) (by wtm_at "a"<;>exact λ_=>trivial) (λhp=>?_) ?_
 ·wtm_at "a";(with_reducible apply Kd)
  ·rfl
  ·rfl
  wtm_at "a";refine GB (by assumption) (by assumption) λy hy=>?_;wtm_at "a";refine⟨_,_,_,_,rfl,rfl,rfl,by omega,by omega,by omega,?_⟩;exact GE rfl (Nat.le_of_eq Hz) (K1 ho (by
   simp only[AAI,List.not_mem_nil,or_false] at hy;rcases hy with rfl|rfl|rfl|rfl|rfl|rfl
   ·exact .b _
   ·exact .b _
   ·exact .n
   ·exact .s
   ·exact .t
   ·exact .l))
 refine E9 (P:=True) (by wtm_at "a"<;>exact λ_=>trivial) (λhp=>?_) ?_
 ·wtm_at "a";refine wp_of (a:=D.ref (Z.length+1)) (Z':=Z++[.lst ds,.dK []]) (by show some (D.ref (Z++[MO.lst ds]).length,Z++[MO.lst ds]++[MO.dK []])=_;rw[AAG,AAm];rfl) ?_;wtm_at "a";refine GB (by assumption) (by assumption) λy hy=>?_;exact⟨y,_,rfl,.inr ⟨rfl,hy⟩⟩
 ·exact BQ (GE rfl (by omega) ho)
theorem YC(h:Oe d):CO w9 m 7 d=d:=by cases h<;>rfl
theorem Zs(h:Oe d):Cl m d:=by cases h<;>simp[Cl,ClL]
theorem OW(ho:∀x∈ds,Oe x):ds.map (CO w9 m 7)=ds:=by
 have:ds.map (CO w9 m 7)=ds.map id:=List.map_congr_left λx hx=>YC (ho x hx);rw[this,List.map_id]
theorem K2:∀{ds:List D},(∀x∈ds,Oe x)->ClL m ds
 |[],_=>by simp[ClL]
 |d::ds,h=>by
  unfold ClL;exact⟨Zs (h d AAP),K2 λx hx=>h x (AAQ _ hx)⟩
theorem Ub(ho:∀x∈ds,Oe x)(hl:ds.length<=800)(hn:n<=1000):WP (CS [.lst ds,.int n,.lst [.int a,.int b,.int c,.int e]]) Z λr Z'=>(∃g,Z'=Z++g)/\(NoL Z' r∨∃es,r=.lst es/\es.length<=900/\∀x∈es,Oe x):=by
 obtain⟨r,w9,e0,d,x6,rfl,h⟩:=Vg (Z:=Z) (a:=a) (b:=b) (c:=c) (e:=e) ho hl hn;rw[AAa] at e0;have tz:∀{g:Mh} {d':D},w9=Z++g->CO (Z++g) Z.length 8 d=d'->Cl Z.length d'->CS [.lst ds,.int n,.lst [.int a,.int b,.int c,.int e]] Z=some (d',Z):=λ{g d'} hm hd hc=>by
  subst hm;have:=Fp (ps:=3) e0 rfl (DR (by unfold Cl;trivial)) rfl (by rw[hd];exact hc);rw[hd] at this;unfold CS orF;rw[this]
 rcases h with ⟨rfl,es,hm,h1,h2⟩|⟨hm,hd⟩
 ·refine wp_of (tz (d':=.lst es) hm ?_ ?_) ⟨⟨[],by simp⟩,.inr ⟨es,rfl,by omega,h2⟩⟩
  ·show (match Nat.ble Z.length (Z.length+0) with|true=>(match (Z++[MO.lst es])[Z.length+0]? with|some (.lst ds)=>D.lst (ds.map (CO (Z++[MO.lst es]) Z.length 7))|_=>.ref (Z.length+0))|false=>.ref (Z.length+0))=_;rw[EI,Nat.ble_eq_true_of_le (by omega)];show D.lst (es.map _)=_;rw[OW h2]
  ·unfold Cl;exact K2 h2
 simp only[AAI,List.not_mem_nil,or_false] at hd;obtain⟨_,y,hy⟩:=WQ ho (by omega);rcases hd with rfl|rfl|rfl|rfl|rfl
 ·refine wp_of (tz (d':=.tup ds) hm ?_ ?_) ⟨⟨[],by simp⟩,.inl ⟨⟨_,rfl,by decide +kernel⟩,y,hy Z⟩⟩
  ·show D.tup (ds.map _)=_;rw[OW ho]
  ·unfold Cl;exact K2 ho
 ·exact wp_of (tz (d':=.non) hm rfl (by simp[Cl])) ⟨⟨[],by simp⟩,.inl ⟨⟨_,rfl,by decide +kernel⟩,_,rfl⟩⟩
 ·exact wp_of (tz (d':=.str "") hm rfl (by simp[Cl])) ⟨⟨[],by simp⟩,.inl ⟨⟨_,rfl,by decide +kernel⟩,_,rfl⟩⟩
 ·have h1:(Z++[MO.lst ds,MO.dK []])[Z.length+1]?=some (MO.dK []):=by rw[EI];rfl
  refine wp_of (a:=D.ref (Z.length+1)) (Z':=Z++[.lst ds,.dK []]) ?_ ⟨⟨_,rfl⟩,.inl ⟨⟨"dict",?_,by decide +kernel⟩,?_⟩⟩
  ·subst hm;have z:EV 7 3 DK [.lst ds,.int n,.lst [.int a,.int b,.int c,.int e]] Z=none:=by
    unfold EV;rw[e0];dsimp only;refine if_neg λz=>?_;have z4:=z.2.2.2;have:CO (Z++[MO.lst ds,MO.dK []]) Z.length 8 (.ref (Z.length+1))=.ref (Z.length+1):=by
     show (match Nat.ble Z.length (Z.length+1) with|true=>(match (Z++[MO.lst ds,MO.dK []])[Z.length+1]? with|some (.lst ds')=>D.lst (ds'.map (CO (Z++[MO.lst ds,MO.dK []]) Z.length 7))|_=>.ref (Z.length+1))|false=>.ref (Z.length+1))=_;rw[Nat.ble_eq_true_of_le (by omega)];dsimp only;rw[h1]
    rw[show D5 (.rt (D.ref (Z.length+1)))=.ref (Z.length+1) from rfl,this] at z4;simp[Cl] at z4;omega
   unfold CS orF;rw[z];refine K16.callF_allG (g:=[.lst ds,.dK []]) e0 rfl (λo h k=>?_) (by simp[Cl]);simp only[AAI,List.not_mem_nil,or_false] at h;rcases h with rfl|rfl
   ·exact K2 ho
   ·simp[ClO,ClL]
  ·unfold tyD;dsimp only;rw[h1]
  ·refine⟨"{}",?_⟩;unfold GR;dsimp only;rw[h1]
 ·exact wp_of (tz (d':=.int 0) hm rfl (by simp[Cl])) ⟨⟨[],by simp⟩,.inl ⟨⟨_,rfl,by decide +kernel⟩,_,rfl⟩⟩
end
end K17
namespace K16
open PySem L2 Mi Nk Wb Ht
open K13 (BO Bc A0 A7 po pc pd pq pa piT piF pr peT peF Bj A9 Cf BJ CN AV Bl E8 hdD Ns nm JM GL SZ Ix ZO ZP Nf EY)
section
variable{Z w6 w9 x8:Mh}{x3:Sl}{x0 d:D}{ds:List D}{n:Nat}
theorem RC{c:Int}{n:Nat}:∀(k:Nat) (m:Int) (fs:List Int),fs.length<=n->n<=100->n<fs.length+k->(∀x∈fs,0<=x)->∃(m':Int) (fs':List Int),fs'.length<=n/\(∀x∈fs',0<=x) /\
  GP ZO ZP k [some (.int c),some (.int n),some (.ref Z.length),some (.int m),none] (Z++[.lst (fs.map D.int)])=some ((.next,[some (.int c),some (.int n),some (.ref Z.length),some (.int m'),none]),Z++[.lst (fs'.map D.int)])
 |0,m,fs,h1,h2,h3,_=>absurd h3 (by omega)
 |k+1,m,fs,h1,h2,h3,h0=>by
  have ta:AN (mOp Ah (mOp BS (AA 0) (mC (.int 2))) (mC (.int 0))) [some (.int c),some (.int n),some (.ref Z.length),some (.int m),none] (Z++[.lst (fs.map D.int)])=some (c % 2==0,Z++[.lst (fs.map D.int)]):=Aa (po (x:=.int (c % 2)) (y:=.int 0) (po (x:=.int c) (y:=.int 2) rfl rfl (Iw (by decide))) rfl Cf);have tb:AN (mOp L6 (AA 3) (mC (.int 0))) [some (.int c),some (.int n),some (.ref Z.length),some (.int m),none] (Z++[.lst (fs.map D.int)])=some (decide (0<m),Z++[.lst (fs.map D.int)]):=Aa (po (x:=.int m) (y:=.int 0) rfl rfl rfl);have tc:AN (mOp EF (AG Bh (AC (AA 2) AL)) (AA 1)) [some (.int c),some (.int n),some (.ref Z.length),some (.int m),none] (Z++[.lst (fs.map D.int)])=some (decide ((fs.length:Int)<n),Z++[.lst (fs.map D.int)]):=by
   refine Aa (po (x:=.int fs.length) (y:=.int n) (pd (ds:=[.ref Z.length]) rfl ((Ix g1a).trans (by rw[AAF]))) rfl rfl)
  by_cases e1:c % 2=0
  ·have ta':=ta.trans (by rw[e1];rfl:some (c % 2==0,Z++[.lst (fs.map D.int)])=some (true,Z++[.lst (fs.map D.int)]));by_cases e2:0<m
   ·have tb':=tb.trans (by rw[AAO e2]:some (decide (0<m),Z++[.lst (fs.map D.int)])=some (true,Z++[.lst (fs.map D.int)]));by_cases e3:fs.length<n
    ·obtain⟨m',fs',r1,r2,r3⟩:=RC (c:=c) (n:=n) k (m / 1000000000) (fs++[m % 1000000000]) (by simp;omega) h2 (by simp;omega) (λx hx=>(AAJ.mp hx).elim (h0 x) λz=>by rw[AAK] at z;subst z;exact AAY _ (by decide));refine⟨m',fs',r1,r2,JM (w9:=Z++[.lst ((fs++[m % 1000000000]).map D.int)]) (x6:=[some (.int c),some (.int n),some (.ref Z.length),some (.int (m / 1000000000)),none]) (DN ta' (DN tb' (tc.trans (by rw[AAO (by omega)])))) (AX (w6:=Z++[.lst ((fs++[m % 1000000000]).map D.int)]) (x3:=[some (.int c),some (.int n),some (.ref Z.length),some (.int m),none]) ?_ (pa (po (x:=.int m) (y:=.int 1000000000) rfl (po (x:=.int 10) (y:=.int 9) rfl rfl SZ) (GI (by decide) (by decide))) rfl)) r3⟩;rw[AAX];exact Vo (ds:=fs.map D.int) (x:=.int (m % 1000000000)) rfl (by rw[AAF];omega) (po (x:=.int m) (y:=.int 1000000000) rfl (po (x:=.int 10) (y:=.int 9) rfl rfl SZ) (Iw (by decide)))
    ·exact⟨m,fs,h1,h0,GL (DN ta' (DN tb' (tc.trans (by rw[AAN (by omega)]))))⟩
   ·exact⟨m,fs,h1,h0,GL (DN ta' (EU (tb.trans (by rw[AAN e2]))))⟩
  ·exact⟨m,fs,h1,h0,GL (EU (ta.trans (by rw[AAf.mpr e1])))⟩
noncomputable abbrev NA:Sl->M (Fl×Sl):=(AS (AW (mOp BS (mOp Eg (AA 3) (mOp As (mOp As (mOp Bm (AA 3) (mC (.int 1009))) (mC (.int 69621))) (AA 4))) (mC (.int 2147483647))) (AO 3))
  (AS (BI (Aj Cw (AA 2) (AC (mOp BS (mOp Eg (AA 3) (mOp As (mOp Bm (AA 3) (mC (.int 127))) (mC (.int 40009)))) (mC (.int 2147483629))) AL)))
  (AW (mOp As (AA 3) (mC (.int 1))) (AO 3))))
theorem OJ{c n:Int}:∀(is:List Int) (s:Int) (acc:List Int) (o4:Option D),0<=s->s<=2147483647->acc.length+is.length<=1000->∃(s':Int) (ys:List Int) (o4':Option D),ys.length=is.length/\(∀y∈ys,0<=y) /\
  B1 (AO 4) NA (is.map D.int) [some (.int c),some (.int n),some (.ref Z.length),some (.int s),o4] (Z++[.lst (acc.map D.int)])=some ((.next,[some (.int c),some (.int n),some (.ref Z.length),some (.int s'),o4']),Z++[.lst ((acc++ys).map D.int)])
 |[],s,acc,o4,_,_,_=>⟨s,[],o4,rfl,(λ_ h=>by cases h),by rw[AAa];rfl⟩
 |i::is,s0,acc,o4,p0,p1,hl=>by
  let s1':Int:=s0 * (s0 / 1009+69621+i) % 2147483647
  have q1:s1'=s0 * (s0 / 1009+69621+i) % 2147483647:=rfl;have r0:0<=s1':=AAY _ (by decide);have r1:s1'<2147483647:=AAZ _ (by decide);generalize s1'=s1' at q1 r0 r1
  let x1:Int:=s1' * (s1' / 127+40009) % 2147483629
  have q2:x1=s1' * (s1' / 127+40009) % 2147483629:=rfl;have x0:0<=x1:=AAY _ (by decide);generalize x1=x1 at q2 x0;simp only[AAH] at hl;obtain⟨s',ys,o4',e1,e2,go⟩:=OJ (c:=c) (n:=n) is (s1'+1) (acc++[x1]) (some (.int i)) (by omega) (by omega) (by simp;omega);refine⟨s',x1::ys,o4',by simp[e1],λy hy=>(AAI.mp hy).elim (λz=>z ▸ x0) (e2 y),?_⟩;have ea:acc++x1::ys=acc++[x1]++ys:=by simp
  rw[ea];refine AV (x3:=[some (.int c),some (.int n),some (.ref Z.length),some (.int s0),some (.int i)]) (w6:=Z++[.lst (acc.map D.int)]) rfl ?_ go;refine AX (w6:=Z++[.lst (acc.map D.int)]) (x3:=[some (.int c),some (.int n),some (.ref Z.length),some (.int s1'),some (.int i)]) (pa (d:=.int s1') (po (x:=.int (s0 * (s0 / 1009+69621+i))) (y:=.int 2147483647) (po (x:=.int s0) (y:=.int (s0 / 1009+69621+i)) rfl (po (x:=.int (s0 / 1009+69621)) (y:=.int i) (po (x:=.int (s0 / 1009)) (y:=.int 69621) (po (x:=.int s0) (y:=.int 1009) rfl rfl (GI (by decide) (by decide))) rfl rfl) rfl rfl) (MK (.inl ⟨by omega,by omega⟩))) rfl ?_) rfl) (AX (w6:=Z++[.lst ((acc++[x1]).map D.int)]) (x3:=[some (.int c),some (.int n),some (.ref Z.length),some (.int s1'),some (.int i)]) ?_ (pa (po (x:=.int s1') (y:=.int 1) rfl rfl rfl) rfl))
  ·rw[Iw (by decide),q1]
  ·rw[AAX];refine Vo (ds:=acc.map D.int) (x:=.int x1) rfl (by rw[AAF];omega) (po (x:=.int (s1' * (s1' / 127+40009))) (y:=.int 2147483629) (po (x:=.int s1') (y:=.int (s1' / 127+40009)) rfl (po (x:=.int (s1' / 127)) (y:=.int 40009) (po (x:=.int s1') (y:=.int 127) rfl rfl (GI (by decide) (by decide))) rfl rfl) (MK (.inl ⟨by omega,by omega⟩))) rfl ?_);rw[Iw (by decide),q2]
theorem v_stream4:∃x y z u:Int,0<=x/\0<=y/\0<=z/\0<=u/\Ax [.int c,.int 4] Z=some (.lst [.int x,.int y,.int z,.int u],Z):=by
 have hz:=A9;obtain⟨m,fs,h1,h2,wh⟩:=RC (Z:=Z) (c:=c) (n:=4) Ep (c / 2) [] (by simp) (by omega) (by unfold Ep;omega) (λx h=>by cases h)
 let s0:Int:=(c / 2+7919) * 48271 % 2147483647
 have q0:s0=(c / 2+7919) * 48271 % 2147483647:=rfl;have p0:0<=s0:=AAY _ (by decide);have p1:s0<2147483647:=AAZ _ (by decide);generalize s0=s0 at q0 p0 p1;obtain⟨s',ys,o4',e1,e2,fo⟩:=OJ (Z:=Z) (c:=c) (n:=4) [0,1,2,3] s0 fs none p0 (by omega) (by simp;omega);have hall:∀x∈(fs++ys).take 4,0<=x:=λx hx=>(AAJ.mp (List.mem_of_mem_take hx)).elim (h2 x) (e2 x);have hlen:((fs++ys).take 4).length=4:=by rw[List.length_take,AAG,e1];simp
 have hcut:DP ((fs++ys).map D.int) none (some ((4:Nat):Int))=((fs++ys).take 4).map D.int:=by
  rw[EY (α:=.non) (by rw[AAF,AAG,e1];simp),List.map_take]
 obtain⟨x,y,z,u,hq⟩:∃x y z u,(fs++ys).take 4=[x,y,z,u]:=by
  match (fs++ys).take 4,hlen with
  |[x,y,z,u],_=>exact⟨x,y,z,u,rfl⟩
 rw[hq] at hall hcut;refine⟨x,y,z,u,hall x (by simp),hall y (by simp),hall z (by simp),hall u (by simp),Au (g:=[.lst ((fs++ys).map D.int)]) (x6:=[some (.int c),some (.int 4),some (.ref Z.length),some (.int s'),o4']) ?_ rfl (by simp[Cl,ClL])⟩;refine AX (w6:=Z++[.lst []]) (x3:=[some (.int c),some (.int 4),some (.ref Z.length),none,none]) (CZ (d:=.ref Z.length) (w6:=Z++[.lst []]) (B8 (ds:=[]) (w6:=Z) rfl ?_) rfl) ?_
 ·unfold DJ;rw[AK (show lim ([]:List D).length Z=some ((),Z) from by unfold lim;rw[if_pos (by simp)])]
 refine AX (x3:=[some (.int c),some (.int 4),some (.ref Z.length),some (.int (c / 2)),none]) (pa (po (x:=.int c) (y:=.int 2) rfl rfl (GI (by decide) (by decide))) rfl) (AX wh ?_);refine AX (x3:=[some (.int c),some (.int 4),some (.ref Z.length),some (.int s0),none]) (pa (d:=.int s0) (po (x:=.int ((c / 2+7919) * 48271)) (y:=.int 2147483647) (po (x:=.int (c / 2+7919)) (y:=.int 48271) (po (x:=.int (c / 2)) (y:=.int 7919) (po (x:=.int c) (y:=.int 2) rfl rfl (GI (by decide) (by decide))) rfl rfl) rfl (MK (.inr (by decide)))) rfl ?_) rfl) ?_
 ·rw[Iw (by decide),q0]
 have fr:Jy (AC (AA 1) AL) [some (.int c),some (.int 4),some (.ref Z.length),some (.int s0),none] (Z++[.lst (fs.map D.int)])=some (([0,1,2,3]:List Int).map D.int,Z++[.lst (fs.map D.int)]):=by
  unfold Jy;rw[AK (show AC (AA 1) AL [some (.int c),some (.int 4),some (.ref Z.length),some (.int s0),none] (Z++[.lst (fs.map D.int)])=some ([.int 4],Z++[.lst (fs.map D.int)]) from rfl)];unfold ON;dsimp only;rw[if_pos (by decide)];rfl
 refine AX (EK fr fo) ?_;refine De (Nf (x0:=.ref Z.length) (a:=none) (b:=some 4) (w6:=Z++[.lst ((fs++ys).map D.int)]) (w9:=Z++[.lst ((fs++ys).map D.int)]) (x8:=Z++[.lst ((fs++ys).map D.int)]) rfl rfl rfl ?_);show bnd (Ca (.ref Z.length)) (λds=>Mi.ret (D.lst (DP ds none (some 4)))) (Z++[MO.lst ((fs++ys).map D.int)])=_;rw[AK (show Ca (.ref Z.length) (Z++[.lst ((fs++ys).map D.int)])=some ((fs++ys).map D.int,Z++[.lst ((fs++ys).map D.int)]) from by unfold Ca;dsimp only;rw[g1a])];show some (D.lst (DP ((fs++ys).map D.int) none (some ((4:Nat):Int))),_)=_;rw[hcut];rfl
end
end K16
namespace K17
open PySem L2 Mi Nk Ht
open K13 (A9 Ev Ev.Ok Ns evD wfG Q0 BW BM BN Ax)
open K16 (mkK)
open K93 (ksD Tk bl run T0 ddD Li Jm)
open K18 (Dy OD dlL gk IF HY)
section
variable{Z:Mh}{d:D}{ds:List D}{n:Nat}{kd:Str}{sz bg:Int}{ns:List Str}{es:List Ev}
def Os(os:List (List D)):Prop:=os≠[]/\os.length<=3/\∀o∈os,o.length<=800/\∀x∈o,Oe x
noncomputable abbrev Z2:Sl->M (Fl×Sl):=(AS (AW (mOp AJ (AA 5) (mOp BS (AA 8) (AG Bh (AC (AA 5) AL)))) (AO 10))
  (AS (sIf (Du (AN (AG EJ (AC (AA 2) (AC (AA 3) (AC (AA 4) (AC (AA 10) AL))))))) (Az (mC (.bl false))) BP)
  (sIf (Du (AN (AG EJ (AC (AA 2) (AC (AA 3) (AC (AA 4) (AC (AG CS (AC (AA 10) (AC (AG Bh (AC (AA 4) AL)) (AC (AG Ax (AC (AA 9) (AC (mC (.int 4)) AL))) AL)))) AL))))))) (Az (mC (.bl false))) BP)))
theorem YG(S4:∀(c:Int) (Z:Mh),∃x y z u:Int,Ax [.int c,.int 4] Z=some (.lst [.int x,.int y,.int z,.int u],Z))(N:Ns ns)(wf:wfG (λ_=>false) es)(eo:∀e∈es,e.Ok ns sz)(hl:es.length<=100){os:List (List D)}(ho:Os os){o0 o1 o6 o7 o8 o9 o10:Option D}{xs:List D}(hx:∀d∈xs,∃i x:Int,d=.tup [.int i,.int x]){g:Mh}{QS:Fl×Sl->Mh->Prop}(q:∀B Z,QS (.next,B) Z):
  WP (B1 (CA [8,9]) Z2 xs [o0,o1,some (mkK kd sz bg ns),some (.lst (es.map (evD ns))),some (dlL (run T0 es)),some (.ref 0),o6,o7,o8,o9,o10]) (.lst (os.map D.lst)::g) QS:=by
 have bf:=HY (es:=es) (by omega);refine II (I:=λrest B M=>(∀d∈rest,∃i x:Int,d=.tup [.int i,.int x])/\∃g o8 o9 o10,M=.lst (os.map D.lst)::g/\B=[o0,o1,some (mkK kd sz bg ns),some (.lst (es.map (evD ns))),some (dlL (run T0 es)),some (.ref 0),o6,o7,o8,o9,o10]) ?_ (λB Z _=>q B Z) ⟨hx,g,o8,o9,o10,rfl,rfl⟩;rintro x xs B M ⟨hx,g,o8,o9,o10,rfl,rfl⟩;obtain⟨i,c,rfl⟩:=hx x AAP;refine wp_of (a:=[o0,o1,some (mkK kd sz bg ns),some (.lst (es.map (evD ns))),some (dlL (run T0 es)),some (.ref 0),o6,o7,some (.int i),some (.int c),o10]) rfl ?_;obtain⟨h1,h2,h3⟩:=ho;have hp:0<os.length:=List.length_pos_iff.mpr h1;wtm_at "a";refine wp_of (a:=.int os.length) (by show some (D.int (((os.map D.lst).length:Nat):Int),_)=_;rw[AAF]) ?_;wtm_at "a";obtain⟨k,hk⟩:∃k:Nat,i % (os.length:Int)=k:=⟨(i % (os.length:Int)).toNat,by have:=AAY i (show (os.length:Int)≠0 by omega);omega⟩;have hk2:k<os.length:=by have:=AAZ i (show (0:Int)<os.length by omega);omega
 rw[hk];refine wp_of (Qu (Z:=[]) (l:=.lst (os.map D.lst)::g) (k:=0) (ds:=os.map D.lst) (j:=k) (y:=.lst os[k]) rfl (by rw[AAV,AAu hk2];rfl)) ?_;wtm_at "a";obtain⟨a1,a2⟩:=h3 _ (List.getElem_mem hk2);refine AT (O6 N wf eo hl (.inr ⟨_,rfl,by omega,a2⟩)) ?_;rintro _ _ ⟨rfl,rfl⟩;wtm_at "a";obtain⟨w1,w2,w3,w4,es4⟩:=S4 c ([]++MO.lst (os.map D.lst)::g);refine wp_of es4 ?_;wtm_at "a";rw[AAF];refine AT (Ub a2 a1 (by omega)) ?_;rintro r _ ⟨⟨g',rfl⟩,hr⟩;wtm_at "a";refine AT (O6 N wf eo hl hr) ?_;rintro _ _ ⟨rfl,rfl⟩;wtm_at "a";exact⟨λd hd=>hx d (AAQ _ hd),g++g',_,_,_,rfl,rfl⟩
theorem Zz(S4:∀(c:Int) (Z:Mh),∃x y z u:Int,Ax [.int c,.int 4] Z=some (.lst [.int x,.int y,.int z,.int u],Z)):∀cs:List Int,cs.length<=63->∃Z',KJ [.scr cs] []=some (.bl true,Z'):=by
 intro cs hc;have hz:=A9
 suffices h:WP (KJ [.scr cs]) [] λr _=>r=.bl true by
  obtain⟨r,Z',e,rfl⟩:=h;exact⟨Z',e⟩
 unfold KJ;refine DB rfl ?_;unfold WB;wtm_at "a";obtain⟨c,ec⟩:=Q0 (Z:=[]) hc;refine wp_of ec ?_;wtm_at "a";refine GB (by assumption) (by assumption) λy hy=>?_;obtain⟨kd,rfl⟩:∃kd:Str,y=.str kd:=by
  simp only[AAI,List.not_mem_nil,or_false] at hy;rcases hy with rfl|rfl|rfl<;>exact⟨_,rfl⟩
 wtm_at "a";obtain⟨sz,bg,ns,h0,h1,b0,b1,N,em⟩:=Li (Z:=[]) (kd:=kd) (x:=c / 3);refine wp_of em ?_;wtm_at "a";have cut:∀n:Nat,∃ds:List Int,DP (cs.map D.int) (some 1) (some ((n+1:Nat):Int))=ds.map D.int/\ds.length<=n:=λn=>by
  unfold DP;refine⟨(cs.drop (HT.sIx (cs.map D.int).length 0 (some 1))).take (HT.sIx (cs.map D.int).length (cs.map D.int).length (some ((n+1:Nat):Int))-HT.sIx (cs.map D.int).length 0 (some 1)),by rw[List.map_take,List.map_drop],?_⟩;rw[show (1:Int)=((1:Nat):Int) from rfl,HT.Hu,HT.Hu,List.length_take,List.length_drop,AAF];omega
 obtain⟨ds,hds,hdl⟩:=cut 18;refine wp_of (a:=.lst (ds.map D.int)) (by show some (D.lst (DP (cs.map D.int) (some 1) (some ((18+1:Nat):Int))),([]:Mh))=_;rw[hds]) ?_;wtm_at "a";obtain⟨es,wf,eo,el,ee⟩:=Jm (Z:=[]) (kd:=kd) N h0 h1 b0 b1 (cs:=ds) (by omega);refine wp_of ee ?_;wtm_at "a";refine wp_of (OD N wf eo (by omega)) ?_;wtm_at "a";have bf:=HY (es:=es) (by omega);have mom:∀Z,_:=λZ=>XD (Z:=Z) (kd:=kd) N wf eo (by omega) b0;have go:=@YG kd sz bg ns es S4 N wf eo (by omega);have b18:(bl (run T0 es)).length<=18:=by
  have:=K93.bl_len (T:=run T0 es);rw[K18.run_len] at this;have z:T0.n=0:=rfl;omega
 generalize hT:run T0 es=T at *;rw[AAF];refine wp_of (a:=ksD (List.range (bl T).length)) (Z':=[]) ?_ ?_
 ·show (if (0:Int)<=(bl T).length/\((bl T).length:Int)<=1000 then some (D.lst (Oi ((bl T).length:Int).toNat),([]:Mh)) else none)=_;rw[if_pos ⟨by omega,by omega⟩,Int.toNat_natCast];unfold Oi;rw[List.map_map];rfl
 show WP _ ([]++[]) _;wtm_at "a"
 let M1:Mh:=[MO.lst [ksD (List.range (bl T).length)]]
 let F:Nat->Int:=λk=>match T.fn (gk T k) with
  |some (p,_)=>(p:Int)
  |none=>0
 let p:Nat->Bool:=λk=>(T.fn (gk T k)).isSome
 let ps:List Pr:=((List.range (bl T).length).filter p).map λk=>(F k,(k:Int))
 have nd:ps.Nodup:=Wb.nodup_map_on (λx _ y _ z=>by have:=congrArg Prod.snd z;simp at this;omega) (List.nodup_range.sublist List.filter_sublist);have pl:ps.length<=(bl T).length:=by
  rw[AAF];exact AAt (List.length_filter_le _ _) (by rw[List.length_range];exact AAE _)
 have pk:∀x∈ps,∃k:Nat,k<(bl T).length/\x.2=k:=λx hx=>by
  obtain⟨k,h,rfl⟩:=AAL.mp hx;exact⟨k,List.mem_range.mp (List.mem_filter.mp h).1,rfl⟩
 refine wp_of (a:=(List.range (bl T).length).map λk:Nat=>D.tup [.int k,ddD T (gk T k)]) (Z':=M1) (by show some (B9 0 ((bl T).map (ddD T)),M1)=_;rw[IF]) ⟨by rw[AAF,List.length_range];omega,?_⟩;have c1:=EB (Z:=M1) (tc:=AN (mOp (Ci true) (mOp AJ (AA 1) (mC (D.int 1))) (mC D.non))) (ma:=AG Bf (AC (mOp AJ (AA 1) (mC (D.int 1))) (AC (AA 0) AL))) (λk:Nat=>D.tup [.int k,ddD T (gk T k)]) p (λk:Nat=>D.tup [.int (F k),.int k]) (bf:=CA [0,1]) (u5:=[none,none]) (xs:=List.range (bl T).length) (QL:=λes Z'=>es=ps.map prD/\Z'=M1) (λk hk=>by
  refine wp_of (a:=[some (.int k),some (ddD T (gk T k))]) rfl ⟨rfl,?_⟩;show WP _ _ λc w9=>c=(T.fn (gk T k)).isSome/\w9=M1/\((T.fn (gk T k)).isSome=true->_);unfold ddD;cases q:T.fn (gk T k) with
  |none=>
   wtm_at "a";intro z;cases z
  |some r=>
   wtm_at "a";refine⟨?_,rfl⟩;show D.tup [D.int (r.1:Int),D.int k]=D.tup [D.int (match T.fn (gk T k) with|some (p,_)=>(p:Int)|none=>0),D.int k];rw[q]) ⟨by rw[List.map_map];rfl,rfl⟩
 refine AT c1 ?_;rintro _ _ ⟨rfl,rfl⟩;wtm_at "a";refine wp_of (a:=.lst ((Ho ps).map prD)) (Z':=M1) (by unfold Kn;dsimp only;rw[L8];exact if_pos ⟨nd,by omega⟩) ?_;wtm_at "a";refine Mw (Z:=[]) (l:=[MO.lst [ksD (List.range (bl T).length)]]) (k:=0) rfl rfl (by simp;omega) ?_;have sl:(Ho ps).length<=18:=by rw[(Ea ps).length_eq];omega
 wtm_at "a";refine⟨by rw[AAF];omega,?_⟩
 let ys:List D:=(Ho ps).map λx=>D.int x.2
 have c2:=EB (Z:=M1) (tc:=En) (ma:=AA 1) prD (λ_=>true) (λx=>D.int x.2) (bf:=CA [0,1]) (u5:=[none,none]) (xs:=Ho ps) (QL:=λes Z'=>es=ys/\Z'=M1) (λk hk=>by
  refine wp_of (a:=[some (.int k.1),some (.int k.2)]) rfl ⟨rfl,?_⟩;wtm_at "a";exact rfl) ⟨by rw[K13.Bk],rfl⟩
 refine AT c2 ?_;rintro _ _ ⟨rfl,rfl⟩;have yl:ys.length<=18:=by rw[AAF];exact sl
 have yo:∀y∈ys,Oe y:=λy hy=>by
  obtain⟨x,hx,rfl⟩:=AAL.mp hy;obtain⟨k,h,e⟩:=pk x ((Ea ps).mem_iff.mp hx);rw[e];exact .i _ (by omega)
 have ro:∀y∈((List.range (bl T).length).map λk:Nat=>D.int k),Oe y:=λy hy=>by
  obtain⟨k,h,rfl⟩:=AAL.mp hy;have:=List.mem_range.mp h;exact .i _ (by omega)
 wtm_at "a";refine⟨_,rfl,rfl,?_⟩;obtain⟨d2,hd2,hl2⟩:=cut 14;have fin:∀(os:List (List D)) (o7:Option D),Os os->WP ((ET (AC (mOp As (EX (AA 0) (Cv (mC (.int 1))) (Cv (mC (.int 15)))) (AG Bn (AC (mC (.int 0)) (AC (mC (.int 1)) AL)))) AL)) [some (.scr cs),some (.int c),some (mkK kd sz bg ns),some (.lst (es.map (evD ns))),some (dlL T),some (.ref 0),some (.lst ((Ho ps).map prD)),o7,none,none,none]) [.lst (os.map D.lst)] λds w6=>WP (B1 (CA [8,9]) Z2 ds [some (.scr cs),some (.int c),some (mkK kd sz bg ns),some (.lst (es.map (evD ns))),some (dlL T),some (.ref 0),some (.lst ((Ho ps).map prD)),o7,none,none,none]) w6 (Lq (Az (mC (.bl true))) λr w9=>∃d x6 gs,r=(.rt d,x6)/\w9=[]++gs/\Cl ([]:Mh).length d/\d=.bl true):=λos o7 ho=>by
  refine wp_of (a:=B9 0 (d2.map D.int++[.int 0,.int 1])) (Z':=[.lst (os.map D.lst)]) ?_ (go ho (λd hd=>?_) λB Z=>?_)
  ·have e1:mOp As (EX (AA 0) (Cv (mC (.int 1))) (Cv (mC (.int 15)))) (AG Bn (AC (mC (.int 0)) (AC (mC (.int 1)) AL))) [some (.scr cs),some (.int c),some (mkK kd sz bg ns),some (.lst (es.map (evD ns))),some (dlL T),some (.ref 0),some (.lst ((Ho ps).map prD)),o7,none,none,none] [.lst (os.map D.lst)]=some (.lst (d2.map D.int++[.int 0,.int 1]),[.lst (os.map D.lst)]):=by
    refine K13.po (x:=.lst (d2.map D.int)) (y:=.lst [.int 0,.int 1]) (K13.p2 (x:=.scr cs) (a:=some 1) (b:=some 15) rfl rfl rfl ?_) (K13.pd (ds:=[.int 0,.int 1]) rfl (K13.A7 (by simp;omega))) (by
     show bnd (lim (d2.map D.int++[D.int 0,.int 1]).length) (λ_=>ret (D.lst (d2.map D.int++[D.int 0,.int 1]))) _=_;rw[AK (GH (by simp;omega) _)];rfl)
    show some (D.lst (DP (cs.map D.int) (some 1) (some ((14+1:Nat):Int))),_)=_;rw[hd2]
   unfold ET;rw[AK (K13.pc e1 rfl)];rfl
  ·obtain⟨j,hj⟩:=List.mem_iff_getElem?.mp hd;rw[F0] at hj;obtain⟨x,hx,rfl⟩:=Option.map_eq_some_iff.mp hj;rcases AAJ.mp (AAU hx) with z|z
   ·obtain⟨i,_,rfl⟩:=AAL.mp z;exact⟨_,_,rfl⟩
   ·simp only[AAI,List.not_mem_nil,or_false] at z;rcases z with rfl|rfl<;>exact⟨_,_,rfl⟩
  ·show WP (Az (mC (.bl true)) B) Z _;exact wp_of (a:=(Fl.rt (D.bl true),B)) (Z':=Z) rfl ⟨.bl true,B,Z,rfl,rfl,by simp[Cl],rfl⟩
 wtm_at "a";rcases mom [.lst [ksD (List.range (bl T).length),.lst ys]] with ⟨ks,k1,k2,em⟩|em
 ·refine wp_of em ?_;wtm_at "a"
  ·refine Mw (Z:=[]) (l:=[MO.lst [ksD (List.range (bl T).length),.lst ys]]) (k:=0) rfl rfl (by simp;omega) ?_;wtm_at "a";refine fin [(List.range (bl T).length).map λk:Nat=>D.int k,ys,ks.map λk:Nat=>D.int k] _ ⟨by simp,by simp,λo ho=>?_⟩;simp only[AAI,List.not_mem_nil,or_false] at ho;rcases ho with rfl|rfl|rfl
   ·exact⟨by simp;omega,ro⟩
   ·exact⟨by omega,yo⟩
   ·refine⟨by simp;omega,λy hy=>?_⟩;obtain⟨k,h,rfl⟩:=AAL.mp hy;have:=k2 k h;exact .i _ (by omega)
  ·rename_i z;cases z
 ·refine wp_of em ?_;wtm_at "a";refine fin [(List.range (bl T).length).map λk:Nat=>D.int k,ys] _ ⟨by simp,by simp,λo ho=>?_⟩;simp only[AAI,List.not_mem_nil,or_false] at ho;rcases ho with rfl|rfl
  ·exact⟨by simp;omega,ro⟩
  ·exact⟨by omega,yo⟩
theorem math:∀cs:List Int,cs.length<=63->∃Z',KJ [.scr cs] []=some (.bl true,Z'):=Zz λc Z=>by
 obtain⟨x,y,z,u,_,_,_,_,e⟩:=K16.v_stream4 (Z:=Z) (c:=c);exact⟨x,y,z,u,e⟩
end
end K17
open PySem PySem.W PyProof.Rows
local macro_rules | `(tactic| wtm_at "c")=>`(tactic| (refine' Mi.aE ?qa ?ql ?qc ?qk;(case qa=>k_is);(case ql=>k_is);(case qc=>k_is);(case qk=>k_is)))
set_option maxRecDepth 100000 in
set_option maxHeartbeats 0 in
theorem PySem.Challenge.cw_strongboxes_k17_orders_that_bear_events_holds : PySem.Challenge.rw_strongboxes_k17_orders_that_bear_events.Holds := by
 w_on;o_law;k_head;(case hw=>w_witness2)
 k_fill
 refine Mi.Y7 (k:=6) (l:=PySem.Challenge.rw_strongboxes_k17_orders_that_bear_events) rfl rfl (by decide) (λw h Y_=>PySem.W.kIn_of Y_) ?F
 case F=>
  intro w mg fa h KX G hmg;refine' K17.all_mk K17.math ⟨KX,G,?e0,?e1,?e2,?e3,?e4,?e5,?e6,?e7,?e8,?e9,?e10,?e11,?e12,?e13,?e14,?e15,?e16,?e17,?e18,?e19,?e20,?e21,?e22,?e23,?e24,?e25,?e26,?e27,?e28,?e29,?e30,(PySem.W.mg_none_of KX G ?z0),(PySem.W.mg_none_of KX G ?z1),(PySem.W.mg_none_of KX G ?z2),(PySem.W.mg_none_of KX G ?z3),(PySem.W.mg_none_of KX G ?z4),(PySem.W.mg_none_of KX G ?z5),(PySem.W.mg_none_of KX G ?z6),(PySem.W.mg_none_of KX G ?z7),(PySem.W.mg_none_of KX G ?z8),(PySem.W.mg_none_of KX G ?z9),(PySem.W.mg_none_of KX G ?z10),(PySem.W.mg_none_of KX G ?z11),(PySem.W.mg_none_of KX G ?z12),?gk0,?gk1,?gk2,?gk3⟩ hmg
  (case e0=>wtm_at "c")
  (case e1=>wtm_at "c")
  (case e2=>wtm_at "c")
  (case e3=>wtm_at "c")
  (case e4=>wtm_at "c")
  (case e5=>wtm_at "c")
  (case e6=>wtm_at "c")
  (case e7=>wtm_at "c")
  (case e8=>wtm_at "c")
  (case e9=>wtm_at "c")
  (case e10=>wtm_at "c")
  (case e11=>wtm_at "c")
  (case e12=>wtm_at "c")
  (case e13=>wtm_at "c")
  (case e14=>wtm_at "c")
  (case e15=>wtm_at "c")
  (case e16=>wtm_at "c")
  (case e17=>wtm_at "c")
  (case e18=>wtm_at "c")
  (case e19=>wtm_at "c")
  (case e20=>wtm_at "c")
  (case e21=>wtm_at "c")
  (case e22=>wtm_at "c")
  (case e23=>wtm_at "c")
  (case e24=>wtm_at "c")
  (case e25=>wtm_at "c")
  (case e26=>wtm_at "c")
  (case e27=>wtm_at "c")
  (case e28=>wtm_at "c")
  (case e29=>wtm_at "c")
  (case e30=>wtm_at "c")
  (case z0=>k_is)
  (case z1=>k_is)
  (case z2=>k_is)
  (case z3=>k_is)
  (case z4=>k_is)
  (case z5=>k_is)
  (case z6=>k_is)
  (case z7=>k_is)
  (case z8=>k_is)
  (case z9=>k_is)
  (case z10=>k_is)
  (case z11=>k_is)
  (case z12=>k_is)
  (case gk0=>refine' Mi.ID KX G ?qa;(case qa=>k_is))
  (case gk1=>refine' Mi.ID KX G ?qa;(case qa=>k_is))
  (case gk2=>refine' Mi.ID KX G ?qa;(case qa=>k_is))
  (case gk3=>refine' Mi.ID KX G ?qa;(case qa=>k_is))
