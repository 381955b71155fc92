import PyProof.Rows.All
import Wide.All
import Wide.FinOn
import OpenK.KLine
import KE.KPairTest
import KE.KDictSum
import KE.KDictOf
import KE.KRevSl
import KE.KDictList
import KE.KIsAll
import KE.KPairComp
import KE.KItem
import PyProof.EqAt
import PyProof.EqKinds
import PyProof.TupleCall
import OpenK.KOwn
import KE.RegKIsAll
import KE.KSuperObj
import PySem.Challenge.RW_strongboxes_k04_rows_that_are_none
set_option Elab.async false
set_option linter.all false
set_option maxRecDepth 100000
set_option maxHeartbeats 4000000
set_option autoImplicit true
set_option relaxedAutoImplicit true
section
open PySem PySem.W PyProof.Rows
abbrev AAA:=@wpAny_bind
abbrev AAB:=@wpAny_pure
abbrev AAC:=@Heap.get?_push_of_some
abbrev AAD:=@Heap.get?_push_size
abbrev AAE:=@Nat.le_of_ble_eq_true
abbrev AAF:=@Nat.le_refl
abbrev AAG:=@List.length_map
abbrev AAH:=@List.length_append
abbrev AAI:=@List.length_cons
abbrev AAJ:=@List.mem_cons
abbrev AAK:=@List.mem_append
abbrev AAL:=@List.mem_singleton
abbrev AAM:=@List.mem_map
abbrev AAN:=@Nat.lt_of_lt_of_le
abbrev AAO:=@decide_eq_false
abbrev AAP:=@decide_eq_true
abbrev AAQ:=@List.mem_cons_self
abbrev AAR:=@List.mem_cons_of_mem
abbrev AAS:=@List.getElem?_append_right
abbrev AAT:=@List.getElem?_append_left
abbrev AAU:=@List.getElem?_eq_some_iff
abbrev AAV:=@List.mem_of_getElem?
abbrev AAW:=@List.getElem?_map
abbrev AAX:=@List.map_cons
abbrev AAY:=@List.map_append
abbrev AAZ:=@List.append_nil
abbrev AAa:=@List.mem_append_right
abbrev AAb:=@List.mem_append_left
abbrev AAc:=@wpAny_call_entry
abbrev AAd:=@Nat.ne_of_lt
abbrev AAe:=@beq_eq_false_iff_ne
abbrev AAf:=@Bool.false_ne_true
abbrev AAg:=@Nat.lt_succ_of_lt
abbrev AAh:=@wpAny_mono
abbrev AAi:=@Nat.zero_le
abbrev AAj:=@List.replicate_succ
abbrev AAk:=@List.length_replicate
abbrev AAl:=@List.getElem?_set_ne
abbrev AAm:=@wpAny_holding
abbrev AAn:=@wpAny_setField_rec
abbrev AAo:=@wpAny_newObj_type
abbrev AAp:=@Nat.lt_of_le_of_lt
abbrev AAq:=@Nat.le_trans
abbrev AAr:=@List.forall_mem_cons
abbrev AAs:=@List.getElem?_eq_getElem
abbrev AAt:=@wpAny_field
abbrev AAu:=@wpAny_seqItems
abbrev AAv:=@Nat.lt_irrefl
end
noncomputable def PySem.W.Fast.tw8078973017014894343:Nat:=0
noncomputable def PySem.W.Fast.tw10659755528253259768:Nat:=0
noncomputable def PySem.W.Fast.tw4219905057992619476:Nat:=0
noncomputable def PySem.W.Fast.tw18439465192990124504:Nat:=0
noncomputable def PySem.W.Fast.tw3704784125020135901:Nat:=0
noncomputable def PySem.W.Fast.tw15916184959685184156:Nat:=0
noncomputable def PySem.W.Fast.tw12186012783306938009:Nat:=0
noncomputable def PySem.W.Fast.tw17555115882171904137:Nat:=0
noncomputable def PySem.W.Fast.tw11323314913228140355:Nat:=0
noncomputable def PySem.W.Fast.tw12164244029557796371:Nat:=0
noncomputable def PySem.W.Fast.tw7656641399022859560:Nat:=0
noncomputable def PySem.W.Fast.tw427064595891709538:Nat:=0
noncomputable def PySem.W.Fast.tw7106589544982007714:Nat:=0
noncomputable def PySem.W.Fast.tw1750602937643001712:Nat:=0
noncomputable def PySem.W.Fast.tw7400541924334299467:Nat:=0
noncomputable def PySem.W.Fast.tw5056075120719963602:Nat:=0
noncomputable def PySem.W.Fast.tw5855154500272757491:Nat:=0
noncomputable def PySem.W.Fast.tw15026360776342655865:Nat:=0
noncomputable def PySem.W.Fast.tw16590130238301294168:Nat:=0
noncomputable def PySem.W.Fast.tw4269904349638761432:Nat:=0
noncomputable def PySem.W.Fast.tw16615310643196370423:Nat:=0
noncomputable def PySem.W.Fast.tw18441736654071084244:Nat:=0
noncomputable def PySem.W.Fast.tw447396609462925951:Nat:=0
noncomputable def PySem.W.Fast.tw16352093413754934157:Nat:=0
noncomputable def PySem.W.Fast.tw18304899802684363333:Nat:=0
noncomputable def PySem.W.Fast.tw12282538967572305100:Nat:=0
noncomputable def PySem.W.Fast.tw3051962140583311725:Nat:=0
noncomputable def PySem.W.Fast.tw9275362667211969652:Nat:=0
noncomputable def PySem.W.Fast.tw3443919989018536210:Nat:=0
noncomputable def PySem.W.Fast.tw7009843753029760050:Nat:=0
noncomputable def PySem.W.Fast.tw9201842733551626913:Nat:=0
noncomputable def PySem.W.Fast.tw13212552386286044669:Nat:=0
noncomputable def PySem.W.Fast.tw10209896034419825092:Nat:=0
noncomputable def PySem.W.Fast.tw12280473600121894110:Nat:=0
noncomputable def PySem.W.Fast.tw10810620847897790848:Nat:=0
noncomputable def PySem.W.Fast.tw4638330487820013845:Nat:=0
noncomputable def PySem.W.Fast.tw881131752781317306:Nat:=0
noncomputable def PySem.W.Fast.tw11600231347077632271:Nat:=0
noncomputable def PySem.W.Fast.tw14670758887417359631:Nat:=0
noncomputable def PySem.W.Fast.tw16877565164930347836:Nat:=0
noncomputable def PySem.W.Fast.tw4825801924588671533:Nat:=0
noncomputable def PySem.W.Fast.tw5511375721559580583:Nat:=0
noncomputable def PySem.W.Fast.tw7351858372491615680:Nat:=0
noncomputable def PySem.W.Fast.tw6756414008015741750:Nat:=0
noncomputable def PySem.W.Fast.tw192777670977104013:Nat:=0
noncomputable def PySem.W.Fast.tw10719058023743022755:Nat:=0
noncomputable def PySem.W.Fast.tw4526587264105760342:Nat:=0
noncomputable def PySem.W.Fast.tw2342389077162925688:Nat:=0
noncomputable def PySem.W.Fast.tw14152970152132935144:Nat:=0
noncomputable def PySem.W.Fast.tw6675916561278174702:Nat:=0
noncomputable def PySem.W.Fast.tw3750338851298682152:Nat:=0
noncomputable def PySem.W.Fast.tw530612686879056392:Nat:=0
noncomputable def PySem.W.Fast.tw7206872719339616033:Nat:=0
noncomputable def PySem.W.Fast.tw892871687576651931:Nat:=0
noncomputable def PySem.W.Fast.tw14516879643899013944:Nat:=0
noncomputable def PySem.W.Fast.tw4320841961919183978:Nat:=0
noncomputable def PySem.W.Fast.tw13651805448817787112:Nat:=0
noncomputable def PySem.W.Fast.tw657807922899546351:Nat:=0
noncomputable def PySem.W.Fast.tw367218782937375113:Nat:=0
noncomputable def PySem.W.Fast.tw8359782753276624282:Nat:=0
noncomputable def PySem.W.Fast.tw1658171331349104584:Nat:=0
noncomputable def PySem.W.Fast.tw5649662634154720639:Nat:=0
noncomputable def PySem.W.Fast.tw8944952132635333269:Nat:=0
noncomputable def PySem.W.Fast.tw3458296819153313931:Nat:=0
noncomputable def PySem.W.Fast.tw9747342225546007019:Nat:=0
noncomputable def PySem.W.Fast.tw11967183743640445959:Nat:=0
noncomputable def PySem.W.Fast.tw4738434393069106860:Nat:=0
noncomputable def PySem.W.Fast.tw8640234900798203670:Nat:=0
noncomputable def PySem.W.Fast.tw5385526494684715022:Nat:=0
noncomputable def PySem.W.Fast.tw7709887043666815557:Nat:=0
noncomputable def PySem.W.Fast.tw3190098669700472643:Nat:=0
noncomputable def PySem.W.Fast.tw2696849151661092091:Nat:=0
noncomputable def PySem.W.Fast.tw13314610767911358475:Nat:=0
noncomputable def PySem.W.Fast.tw3004727431789700731:Nat:=0
noncomputable def PySem.W.Fast.tw204608402723487959:Nat:=0
noncomputable def PySem.W.Fast.tw10112594765629128717:Nat:=0
noncomputable def PySem.W.Fast.tw5815676742170407036:Nat:=0
noncomputable def PySem.W.Fast.tw5905622384090770551:Nat:=0
noncomputable def PySem.W.Fast.tw15159065411926449393:Nat:=0
noncomputable def PySem.W.Fast.tw15307848817877042452:Nat:=0
noncomputable def PySem.W.Fast.tw6241847172616919580:Nat:=0
noncomputable def PySem.W.Fast.tw1885776179594585187:Nat:=0
noncomputable def PySem.W.Fast.tw15210756246060792828:Nat:=0
noncomputable def PySem.W.Fast.tw2138690284133174318:Nat:=0
noncomputable def PySem.W.Fast.tw15808632704295784095:Nat:=0
noncomputable def PySem.W.Fast.tw683898082253088941:Nat:=0
noncomputable def PySem.W.Fast.tw3031473557904828213:Nat:=0
noncomputable def PySem.W.Fast.tw4799981282834533948:Nat:=0
noncomputable def PySem.W.Fast.tw2663507826000418678:Nat:=0
noncomputable def PySem.W.Fast.tw12667923533695123589:Nat:=0
noncomputable def PySem.W.Fast.tw16013293632714378803:Nat:=0
noncomputable def PySem.W.Fast.tw4172071198799846055:Nat:=0
noncomputable def PySem.W.Fast.tw7826306925811169892:Nat:=0
noncomputable def PySem.W.Fast.tw15264708547537329754:Nat:=0
noncomputable def PySem.W.Fast.tw11119411449206471099:Nat:=0
noncomputable def PySem.W.Fast.tw118220462134920949:Nat:=0
noncomputable def PySem.W.Fast.tw15049974955395873321:Nat:=0
noncomputable def PySem.W.Fast.tw9161124512946791762:Nat:=0
noncomputable def PySem.W.Fast.tw17591859189374299530:Nat:=0
noncomputable def PySem.W.Fast.tw827452896100136483:Nat:=0
noncomputable def PySem.W.Fast.tw12430017631234664850:Nat:=0
noncomputable def PySem.W.Fast.tw7916100010712220254:Nat:=0
noncomputable def PySem.W.Fast.tw302373421746416310:Nat:=0
noncomputable def PySem.W.Fast.tw18000039012163734143:Nat:=0
noncomputable def PySem.W.Fast.tw3152131294888138696:Nat:=0
noncomputable def PySem.W.Fast.tw17981914168088509484:Nat:=0
noncomputable def PySem.W.Fast.tw4155477506810901470:Nat:=0
noncomputable def PySem.W.Fast.tw520506582094884140:Nat:=0
noncomputable def PySem.W.Fast.tw9826884701418653080:Nat:=0
noncomputable def PySem.W.Fast.tw9629370700155092324:Nat:=0
noncomputable def PySem.W.Fast.tw16966435275015509047:Nat:=0
noncomputable def PySem.W.Fast.tw4116312068095215291:Nat:=0
noncomputable def PySem.W.Fast.tw2358255665304222248:Nat:=0
noncomputable def PySem.W.Fast.tw9493946196773461420:Nat:=0
noncomputable def PySem.W.Fast.tw10053067075411732314:Nat:=0
noncomputable def PySem.W.Fast.tw14136846216586716033:Nat:=0
noncomputable def PySem.W.Fast.tw3980824624234397712:Nat:=0
noncomputable def PySem.W.Fast.tw11081398377636658029:Nat:=0
noncomputable def PySem.W.Fast.tw8572568414224450742:Nat:=0
noncomputable def PySem.W.Fast.tw1156525834913231294:Nat:=0
namespace L2
open PySem PySem.Spec PyProof.Rows
noncomputable abbrev Key:=Sum Int Str
noncomputable def Jq:Key->Value->Bool
 | .inl k,v=>Value.isInt k v
 | .inr x,v=>Value.isStrOf x v
noncomputable def Zo(w:World):Key->Int
 | .inl k=>hashInt k
 | .inr x=>hashStr w x
theorem Bp:∀{k:Key} {v:Value},Jq k v=true->(∃i t,k=Sum.inl i/\v=Value.int i t)∨(∃x t,k=Sum.inr x/\v=Value.str x t)
 | .inl i,v,h=>by
  obtain⟨t,e⟩:=Value.isInt_shape (k:=i) (v:=v) h;exact .inl ⟨i,t,rfl,e⟩
 | .inr x,v,h=>by
  obtain⟨t,e⟩:=Value.isStrOf_shape (x:=x) (v:=v) h;exact .inr ⟨x,t,rfl,e⟩
theorem PQ(i:Int)(t:Tok):Jq (.inl i) (.int i t)=true:=by simp[Jq,Value.isInt]
theorem PP(x:Str)(t:Tok):Jq (.inr x) (.str x t)=true:=by simp[Jq,Value.isStrOf]
theorem XI(a b:Int):decide ((Sum.inl a:Key)=Sum.inl b)=(a==b):=by
 by_cases e:a=b
 ·subst e;simp
 ·have h:¬(Sum.inl a:Key)=Sum.inl b:=λq=>e (Sum.inl.inj q);rw[AAO h];exact(AAe.mpr e).symm
theorem XF(a b:Str):decide ((Sum.inr a:Key)=Sum.inr b)=decide (a=b):=by
 by_cases e:a=b
 ·subst e;simp
 ·have h:¬(Sum.inr a:Key)=Sum.inr b:=λq=>e (Sum.inr.inj q);rw[AAO h,AAO e]
theorem XH(a:Int)(b:Str):decide ((Sum.inl a:Key)=Sum.inr b)=false:=AAO (λq=>nomatch q)
theorem XG(a:Str)(b:Int):decide ((Sum.inr a:Key)=Sum.inl b)=false:=AAO (λq=>nomatch q)
noncomputable def B0(prog:Program)(w:World):PySem.KeyKind prog w Key where
 is:=Jq
 hash:=Zo w
 inj:=λv a b ha hb=>by
  rcases Bp ha with ⟨i,t,rfl,rfl⟩|⟨x,t,rfl,rfl⟩
  ·rcases Bp hb with ⟨j,u,rfl,e⟩|⟨y,u,rfl,e⟩
   ·injection e with e1 _;rw[e1]
   ·exact nomatch e
  ·rcases Bp hb with ⟨j,u,rfl,e⟩|⟨y,u,rfl,e⟩
   ·exact nomatch e
   ·injection e with e1 _;rw[e1]
 byValue:=λk v h=>by
  rcases Bp h with ⟨i,t,rfl,rfl⟩|⟨x,t,rfl,rfl⟩<;>rfl
 pyHash:=λhv h=>by
  rcases Bp hv with ⟨i,t,rfl,rfl⟩|⟨x,t,rfl,rfl⟩
  ·exact wpAny_pyHash_int h
  ·exact wpAny_pyHash_str h
 eqBool:=λhu hv h=>by
  rcases Bp hu with ⟨i,t,rfl,rfl⟩|⟨x,t,rfl,rfl⟩
  ·rcases Bp hv with ⟨j,u,rfl,rfl⟩|⟨y,u,rfl,rfl⟩
   ·rw[XI] at h;exact wpAny_eqBool_int h
   ·rw[XH] at h;exact SeqAt.EqAt.int_str i t y u _ _ _ _ h
  ·rcases Bp hv with ⟨j,u,rfl,rfl⟩|⟨y,u,rfl,rfl⟩
   ·rw[XG] at h;exact SeqAt.EqAt.str_int x t j u _ _ _ _ h
   ·rw[XF] at h;exact wpAny_eqBool_str h
 «strs»:=λk x t v h=>by
  rcases Bp h with ⟨i,u,rfl,e⟩|⟨y,u,rfl,e⟩
  ·exact nomatch e
  ·injection e with e1 _
   subst e1;cases v<;>rfl
theorem L3(prog:Program)(w:World)(i:Int)(t:Tok):(B0 prog w).is (.inl i) (.int i t)=true:=PQ i t
theorem L1(prog:Program)(w:World)(x:Str)(t:Tok):(B0 prog w).is (.inr x) (.str x t)=true:=PP x t
inductive V where
 |non|bl (b:Bool)|int (i:Int)|str (x:Str)|byt (b:Array UInt8)|flt (b:UInt64)|ref (a:Addr)|ty (n:String)
 deriving DecidableEq
def RelV:V->Value->Prop
 | .non,u=>u=Value.none
 | .bl b,u=>u=Value.bool b
 | .int i,u=>∃t,u=Value.int i t
 | .str x,u=>∃t,u=Value.str x t
 | .byt b,u=>∃t,u=Value.bytes b t
 | .flt b,u=>∃t,u=Value.float b t
 | .ref a,u=>u=Value.ref a
 | .ty n,u=>u=Value.type n
abbrev Vals:List V->List Value->Prop:=Paired RelV
theorem Vals.length{xs:List V}{us:List Value}(r:Vals xs us):xs.length=us.length:=Paired.length r
theorem Vals.get:∀{xs:List V} {us:List Value} {i:Nat} {x:V},Vals xs us->xs[i]?=some x->∃u,us[i]?=some u/\RelV x u
 |_,_,_,_,.nil,e=>by simp at e
 |_,_,0,_,.cons r _,e=>by simp at e;subst e;exact⟨_,rfl,r⟩
 |_,_,i+1,x,.cons _ t,e=>by
  obtain⟨u,h1,h2⟩:=Vals.get (i:=i) (x:=x) t (by simpa using e);exact⟨u,by simpa using h1,h2⟩
theorem Vals.set{x:V}{u:Value}(r:RelV x u):∀{xs:List V} {us:List Value} (i:Nat),Vals xs us->Vals (xs.set i x) (us.set i u)
 |_,_,_,.nil=>.nil
 |_,_,0,.cons _ t=>.cons r t
 |_,_,i+1,.cons q t=>.cons q (Vals.set r i t)
theorem Vals.append:∀{xs ys:List V} {us ws:List Value},Vals xs us->Vals ys ws->Vals (xs++ys) (us++ws)
 |_,_,_,_,.nil,s=>s
 |_,_,_,_,.cons r t,s=>.cons r (Vals.append t s)
theorem Vals.take:∀{xs:List V} {us:List Value} (n:Nat),Vals xs us->Vals (xs.take n) (us.take n)
 |_,_,0,_=>.nil
 |_,_,_+1,.nil=>.nil
 |_,_,n+1,.cons r t=>.cons r (Vals.take n t)
theorem Vals.drop:∀{xs:List V} {us:List Value} (n:Nat),Vals xs us->Vals (xs.drop n) (us.drop n)
 |_,_,0,r=>r
 |_,_,_+1,.nil=>.nil
 |_,_,n+1,.cons _ t=>Vals.drop n t
noncomputable def RelO:Option V->Option Value->Prop
 |some v,some u=>RelV v u
 |none,none=>True
 |_,_=>False
noncomputable def KV{κ:Type}:List (κ×V)->List (κ×Value)->Prop:=Paired λ(p:κ×V) (q:κ×Value)=>p.1=q.1/\RelV p.2 q.2
noncomputable def kV:Key->V
 | .inl i=>.int i
 | .inr x=>.str x
inductive HO where
 |lst (xs:List V)
 |tup (xs:List V)
 |dK (kvs:List (Key×V))|dT (kvs:List (List Key×V))
 |set (S:Int->Bool) (n:Nat)
 |ins (C dx:Addr) (fs:List (Str×V))
 |own (x:Addr)
 |xd (fs:List (Str×V))
 |met (f x:Addr)
 |rng (lo hi:Int)
 |frz (o:Obj) (u:HO)
 |tbl (ps:Array Value)
 |ext (φ:Heap->Prop)
abbrev Hp:=Addr->Option HO
noncomputable def upd(H:Hp)(a:Addr)(o:HO):Hp:=λb=>if b=a then some o else H b
theorem Be{H:Hp}{a:Addr}{o:HO}:upd H a o a=some o:=by unfold upd;rw[if_pos rfl]
theorem Ay{H:Hp}{a b:Addr}{o:HO}(h:b≠a):upd H a o b=H b:=by unfold upd;rw[if_neg h]
theorem Yo{H:Hp}{a b:Addr}{o u:HO}(h:H a=some o)(h':H b=some u)(d:o≠u):a≠b:=by
 intro e;subst e;rw[h] at h';exact d (Option.some.inj h')
theorem BU{H:Hp}{a b:Addr}{o:HO}(h:H a=some o)(h':H b=none):a≠b:=by
 intro e;subst e;rw[h] at h';cases h'
section
variable(P:Program)(w:World)
noncomputable def ObjOk(H:Hp)(h:Heap)(a:Addr):HO->Prop
 | .lst xs=>xs.length<=sizeLine/\∃(its:List Value) (n:Nat),Vals xs its/\h.get? a=some { cls:=.type "list",data:=.seq its.toArray n }
 | .tup xs=>xs.length<=sizeLine/\∃its:List Value,Vals xs its/\IsTup h a its.toArray
 | .dK kvs=>kvs.length<=sizeLine/\(a==sysModules)=false/\∃vs,KV kvs vs/\h.DictOf (B0 P w) a vs
 | .dT kvs=>kvs.length<=sizeLine/\(a==sysModules)=false/\∃xs:List (List Key×Addr×Value),
   Paired (λ(p:List Key×V) (q:List Key×Addr×Value)=>p.1=q.1/\H q.2.1=some (.tup (p.1.map kV))/\RelV p.2 q.2.2) kvs xs /\
   ∃o es ep,h.get? a=some o/\o.ExactDict/\o.data=.dict es ep/\es.toList=xs.map (entryOfKey (tupleKind (B0 P w)))/\(xs.map (·.1)).Nodup
 | .set S n=>h.SetOf (intKind P w) a S n
 | .ins C dx fs=>H dx=some (.own a)/\fs.length<=1000/\dx≠a/\h.get? a=some (PySem.W.instObj C dx) /\
   ∃mA,h.Ns1 dx mA/\(∀f,RelO (fs.lookup f) (mA f))/\PySem.Within mA (fs.map (·.1))
 | .own _=>∃o,h.get? a=some o
 | .xd fs=>∃mA,h.Ns1 a mA/\∀f,RelO (fs.lookup f) (mA f)
 | .rng lo hi=>∃t u v,h.get? a=some { cls:=.type "range",data:=.fields #[.int lo t,.int hi u,.int 1 v] }
 | .frz o u=>h.get? a=some o/\ObjOk H h a u
 | .tbl ps=>h.get? a=some { cls:=.none,data:=.fields ps }
 | .met f x=>h.get? a=some (PySem.W.methodObj (.ref f) (.ref x))
 | .ext φ=>φ h/\(∃o,h.get? a=some o)/\∀h1 h2:Heap,φ h1->(∀o,h1.get? a=some o->h2.get? a=some o)->φ h2
def HOk(H:Hp)(h:Heap):Prop:=∀a o,H a=some o->ObjOk P w H h a o
end
section
variable{P:Program}{w:World}{H H':Hp}{h h':Heap}{a:Addr}{o:HO}
theorem ObjOk.lt(x:ObjOk P w H h a o):a<h.objs.size:=by
 cases o with
 |lst xs=>obtain⟨_,_,_,_,e⟩:=x;exact Heap.lt_size e
 |tup xs=>obtain⟨_,_,_,p⟩:=x;exact p.lt
 |dK kvs=>obtain⟨_,_,_,_,o,_,_,e,_⟩:=x;exact Heap.lt_size e
 |dT kvs=>obtain⟨_,_,_,_,o,_,_,e,_⟩:=x;exact Heap.lt_size e
 |set S n=>obtain⟨o,_,_,_,e,_⟩:=x;exact Heap.lt_size e
 |ins C dx fs=>obtain⟨_,_,_,e,_⟩:=x;exact Heap.lt_size e
 |own y=>obtain⟨_,e⟩:=x;exact Heap.lt_size e
 |xd fs=>obtain⟨_,⟨_,_,_,e,_⟩,_⟩:=x;exact Heap.lt_size e
 |rng lo hi=>obtain⟨_,_,_,e⟩:=x;exact Heap.lt_size e
 |frz ob u=>obtain⟨e,_⟩:=x;exact Heap.lt_size e
 |tbl ps=>exact Heap.lt_size (show h.get? a=some _ from x)
 |met f y=>exact Heap.lt_size (show h.get? a=some _ from x)
 |ext φ=>obtain⟨_,⟨_,e⟩,_⟩:=x;exact Heap.lt_size e
theorem Paired.mapP{α β:Type}{F G:α->β->Prop}:∀{l₁:List α} {l₂:List β},Paired F l₁ l₂->(∀a b,F a b->G a b)->Paired G l₁ l₂
 |_,_,.nil,_=>.nil
 |_,_,.cons r t,f=>.cons (f _ _ r) (Paired.mapP t f)
theorem ObjOk.stay(x:ObjOk P w H h a o)(k:∀b u,(b=a∨H b=some (.own a))->h.get? b=some u->h'.get? b=some u)
  (ho:∀b,H b=some (.own a)->H' b=some (.own a)) (ht:∀b xs,H b=some (.tup xs)->H' b=some (.tup xs)):ObjOk P w H' h' a o:=by
 induction o with
 |lst xs=>obtain⟨z,its,n,r,e⟩:=x;exact⟨z,its,n,r,k _ _ (.inl rfl) e⟩
 |tup xs=>obtain⟨z,its,r,ob,e,c⟩:=x;exact⟨z,its,r,ob,k _ _ (.inl rfl) e,c⟩
 |dK kvs=>obtain⟨z,y,vs,r,ob,es,ep,e,c⟩:=x;exact⟨z,y,vs,r,ob,es,ep,k _ _ (.inl rfl) e,c⟩
 |dT kvs=>
  obtain⟨z,y,xs,r,ob,es,ep,e,c⟩:=x;exact⟨z,y,xs,Paired.mapP r λp q z=>⟨z.1,ht _ _ z.2.1,z.2.2⟩,ob,es,ep,k _ _ (.inl rfl) e,c⟩
 |set S n=>obtain⟨ob,es,ep,t,e,c⟩:=x;exact⟨ob,es,ep,t,k _ _ (.inl rfl) e,c⟩
 |ins C dx fs=>
  obtain⟨d,z,ne,e,mA,⟨od,es,ep,e2,c⟩,r⟩:=x;exact⟨ho _ d,z,ne,k _ _ (.inl rfl) e,mA,⟨od,es,ep,k _ _ (.inr d) e2,c⟩,r⟩
 |own y=>obtain⟨ob,e⟩:=x;exact⟨ob,k _ _ (.inl rfl) e⟩
 |xd fs=>obtain⟨mA,⟨od,es,ep,e,c⟩,r⟩:=x;exact⟨mA,⟨od,es,ep,k _ _ (.inl rfl) e,c⟩,r⟩
 |rng lo hi=>obtain⟨t,u,v,e⟩:=x;exact⟨t,u,v,k _ _ (.inl rfl) e⟩
 |frz ob u ih=>obtain⟨e,q⟩:=x;exact⟨k _ _ (.inl rfl) e,ih q⟩
 |tbl ps=>
  have e:h.get? a=some { cls:=.none,data:=.fields ps }:=x;show h'.get? a=some { cls:=.none,data:=.fields ps };exact k a _ (.inl rfl) e
 |met f y=>
  have e:h.get? a=some (PySem.W.methodObj (.ref f) (.ref y)):=x;show h'.get? a=some (PySem.W.methodObj (.ref f) (.ref y));exact k a _ (.inl rfl) e
 |ext φ=>obtain⟨p,⟨o,e⟩,st⟩:=x;exact⟨st _ _ p λo q=>k _ _ (.inl rfl) q,⟨o,k _ _ (.inl rfl) e⟩,st⟩
theorem HOk.lt(x:HOk P w H h)(e:H a=some o):a<h.objs.size:=(x a o e).lt
theorem HOk.fresh(x:HOk P w H h)(e:h.objs.size<=a):H a=none:=by
 cases q:H a with
 |none=>rfl
 |some u=>exact absurd (AAN (x.lt q) e) (AAv _)
theorem HOk.kept(x:HOk P w H h)(k:∀b u,h.get? b=some u->h'.get? b=some u):HOk P w H h':=λa o e=>
 (x a o e).stay (λb u _ q=>k b u q) (λ_ q=>q) λ_ _ q=>q
theorem HOk.laid(x:HOk P w H h)(k:∀b u,h.get? b=some u->h'.get? b=some u)(hp:h.objs.size<=a)(new:ObjOk P w (upd H a o) h' a o):HOk P w (upd H a o) h':=λb u e=>by
 have hn:=x.fresh hp;by_cases hb:b=a
 ·subst hb;rw[Be] at e;cases e;exact new
 ·rw[Ay hb] at e;exact(x b u e).stay (λc v _ q=>k c v q) (λc q=>by rw[Ay (BU q hn)];exact q) λc xs q=>by rw[Ay (BU q hn)];exact q
end
def Rd(H:Hp)(a:Addr)(u:HO):Prop:=H a=some u∨∃o,H a=some (.frz o u)
theorem Rd.ok{P:Program}{w:World}{H:Hp}{h:Heap}{a:Addr}{u:HO}(r:Rd H a u)(x:HOk P w H h):ObjOk P w H h a u:=by
 rcases r with r|⟨o,r⟩
 ·exact x a u r
 ·obtain⟨_,q⟩:=x a _ r;exact q
noncomputable def Mut:Option HO->Prop
 |some (.lst _)=>True
 |some (.dK _)=>True
 |some (.dT _)=>True
 |some (.set _ _)=>True
 |some (.ins _ _ _)=>True
 |some (.ext _)=>True
 |_=>False
section
variable{P:Program}{w:World}{H:Hp}{h h':Heap}{x e:Addr}{o':HO}
theorem HOk.write(ok:HOk P w H h)(mu:Mut (H x))(he:e=x∨H e=some (.own x))(k:∀b u,b≠e->h.get? b=some u->h'.get? b=some u)(heo:∃u,h'.get? e=some u)
  (new:ObjOk P w (upd H x o') h' x o'):HOk P w (upd H x o') h':=λb u q=>by
 have nown:∀c y,H c=some (.own y)->c≠x:=λc y r z=>by subst z;rw[r] at mu;exact mu
 have ntup:∀c xs,H c=some (.tup xs)->c≠x:=λc xs r z=>by subst z;rw[r] at mu;exact mu
 by_cases hb:b=x
 ·subst hb;rw[Be] at q;cases q;exact new
 ·rw[Ay hb] at q;by_cases hbe:b=e
  ·have q':H b=some (.own x):=by
    rcases he with z|z
    ·exact absurd (hbe.trans z) hb
    ·rw[hbe];exact z
   rw[q] at q';cases q';obtain⟨v,hv⟩:=heo;exact⟨v,by rw[hbe];exact hv⟩
  ·refine(ok b u q).stay (λc v hc r=>k c v ?_ r) (λc r=>by rw[Ay (nown c b r)];exact r) λc xs r=>by rw[Ay (ntup c xs r)];exact r
   rcases hc with rfl|hc
   ·exact hbe
   ·rintro rfl;rcases he with z|z
    ·exact nown c b hc z
    ·rw[hc] at z;cases z;exact hb rfl
end
structure Un(fs ex:List Addr)(H H':Hp)(h h':Heap):Prop where
 keep:∀b o,h.get? b=some o->H b=none->b∉fs->b∉ex->h'.get? b=some o
 slot:∀b o,h.get? b=some o->H b=none->b∈fs->b∉ex->∃sl,h'.get? b=some { o with slots:=sl }
 free:∀b o,h.get? b=some o->H b=none->b∉ex->H' b=none
 there:∀b o,h.get? b=some o->b∉ex->∃o',h'.get? b=some o'
 tups:∀b xs,H b=some (.tup xs)->H' b=some (.tup xs)
 frzs:∀b o u,H b=some (.frz o u)->H' b=some (.frz o u)
 tbls:∀b ps,H b=some (.tbl ps)->∃more,H' b=some (.tbl (ps++more))
section
variable{fs ex:List Addr}{H H1:Hp}{h h1 h':Heap}{a x e:Addr}{o:HO}
theorem Un.any(u:Un fs ex H H1 h h1){b:Addr}{ob:Obj}(q:h.get? b=some ob)(n:H b=none)(hx:b∉ex):∃sl,h1.get? b=some { ob with slots:=sl }:=by
 by_cases hb:b∈fs
 ·exact u.slot b ob q n hb hx
 ·exact⟨ob.slots,u.keep b ob q n hb hx⟩
theorem Un.kept(k:∀b u,h.get? b=some u->h'.get? b=some u):Un fs ex H H h h':=
 ⟨λb ob q _ _ _=>k b ob q,λb ob q _ _ _=>⟨ob.slots,k b ob q⟩,λ_ _ _ n _=>n,λb ob q _=>⟨ob,k b ob q⟩,λ_ _ q=>q,λ_ _ _ q=>q,λ_ ps q=>⟨#[],by rw[q];simp⟩⟩
theorem Un.refl:Un fs ex H H h h:=Un.kept λ_ _ q=>q
theorem Un.laid(k:∀b u,h.get? b=some u->h'.get? b=some u)(hp:h.objs.size<=a)(hn:H a=none):Un fs ex H (upd H a o) h h' where
 keep:=λb u q _ _ _=>k b u q
 slot:=λb u q _ _ _=>⟨u.slots,k b u q⟩
 free:=λb u q n _=>by rw[Ay (AAd (AAN (Heap.lt_size q) hp))];exact n
 there:=λb u q _=>⟨u,k b u q⟩
 tups:=λb xs q=>by rw[Ay (BU q hn)];exact q
 frzs:=λb u xs q=>by rw[Ay (BU q hn)];exact q
 tbls:=λb ps q=>⟨#[],by rw[Ay (BU q hn),q];simp⟩
theorem Un.write(mu:Mut (H x))(he:e=x∨H e=some (.own x))(k:∀b u,b≠e->h.get? b=some u->h'.get? b=some u)(heo:∃u,h'.get? e=some u):Un fs ex H (upd H x o) h h':=by
 have hx:∀b,H b=none->b≠x:=λb n z=>by subst z;rw[n] at mu;exact mu
 have hb:∀b,H b=none->b≠e:=λb n z=>by
  subst z;rcases he with r|r
  ·exact hx b n r
  ·rw[n] at r;cases r
 have hm:∀b u,H b=some u->¬Mut (some u)->b≠x:=λb u q nm z=>by subst z;rw[q] at mu;exact nm mu
 refine⟨λb u q n _ _=>k b u (hb b n) q,λb u q n _ _=>⟨u.slots,k b u (hb b n) q⟩,λb u q n _=>by rw[Ay (hx b n)];exact n,λb u q _=>?_,
  λb xs q=>by rw[Ay (hm b _ q λz=>z)];exact q,λb u xs q=>by rw[Ay (hm b _ q λz=>z)];exact q,λb ps q=>⟨#[],by rw[Ay (hm b _ q λz=>z),q];simp⟩⟩
 by_cases hbe:b=e
 ·subst hbe;exact heo
 ·exact⟨u,k b u hbe q⟩
end
noncomputable def trk(h:Heap)(H:Hp):List Addr:=(List.range h.objs.size).filter λa=>(H a).isSome
noncomputable def K0(h:Heap)(H:Hp):Heap:=PySem.W.hideAll h (trk h H)
theorem PX(h:Heap)(H:Hp):(K0 h H).objs.size=h.objs.size:=PySem.W.hideAll_size _ _
theorem SG{h:Heap}{H:Hp}{b:Addr}{o:Obj}(e:h.get? b=some o)(n:H b=none):(K0 h H).get? b=some o:=
 PySem.W.hideAll_get _ e λhm=>by
  have q:(H b).isSome=true:=(List.mem_filter.mp hm).2;rw[n] at q;simp at q
theorem UE{h:Heap}{H:Hp}{b:Addr}{o:Obj}(e:(K0 h H).get? b=some o):h.get? b=some o/\H b=none:=by
 have e':h.get? b=some o:=PySem.W.of_hideAll (trk h H) e;refine⟨e',?_⟩;cases q:H b with
 |none=>rfl
 |some x=>
  have hm:b∈trk h H:=List.mem_filter.mpr ⟨List.mem_range.mpr (Heap.lt_size e'),by simp[q]⟩;have z:(K0 h H).get? b=none:=PySem.W.hideAll_none (trk h H) hm;rw[z] at e;cases e
structure Mod(K:PySem.W.Frag)(mg:Str->Option Value)(base:Heap):Prop where
 kin:K.In base
 glob:base.Ns mainGlobals mg
 blt:∃mb,base.Ns builtinsNs mb/\∀x:Str,x ≠ "__name__" -> mb x=bootBuiltins x
 nolimit:base.NoLimit
set_option genInjectivity false in
structure Cx where
 prog:Program
 w:World
 K:PySem.W.Frag
 mg:Str->Option Value
 base:Heap
 A:Around
 N:List Str
 s₀:Shared
 H₀:Hp
 env:Env
 outer:List Env
 stack:List Env
 ex:List Addr
 fn:Str->Bool
 calm:Bool
 pn:List (Addr×Obj)
 xe:Value->Shared->Prop
noncomputable def frs(l:List Env):List Addr:=l.filterMap (·.frame)
noncomputable abbrev Cx.fs(X:Cx):List Addr:=frs X.outer
def Vis(sc:Scope)(x:Str):Prop:=sc.names.lookup x=some .local∨sc.names.lookup x=some .cell∨sc.names.lookup x=some .free
def Loc(sc:Scope)(x:Str):Prop:=sc.names.lookup x=some .local∨sc.names.lookup x=some .cell
def Zx(env:Env)(h:Heap)(m:Str->Option Value)(x:Str)(u:Value):Prop:=
 (env.kindOf x=some .local/\m x=some u)∨((env.kindOf x=some .cell∨env.kindOf x=some .free)/\∃c,env.cells.lookup x=some c/\h.IsCell c (some u))
structure Cx.Ok(X:Cx):Prop where
 mod:Mod X.K X.mg X.base
 kind:X.env.scope.kind=.function
 glob:X.env.globals=mainGlobals
 blt:X.env.builtins=builtinsNs
 above:X.s₀.heap.objs.size<=X.env.locals
 inj:∀x y c,X.env.cells.lookup x=some c->X.env.cells.lookup y=some c->x=y
 has:∀x,(X.env.kindOf x=some .cell∨X.env.kindOf x=some .free)->∃c,X.env.cells.lookup x=some c
 cab:∀x c,X.fn x=true->X.env.cells.lookup x=some c->X.s₀.heap.objs.size<=c
 hd:X.calm=true->X.A.handled=none
 frames:X.A.frames=some X.stack
 stk:X.stack=X.outer∨(X.stack=X.env::X.outer/\X.env.frame=some X.env.locals)
 exf:∀b∈X.ex,b≠X.env.locals/\∀x c,X.env.cells.lookup x=some c->c≠b
 bs:∀b o,X.base.get? b=some o->X.s₀.heap.get? b=some o/\X.H₀ b=none
 bsz:X.base.objs.size<=X.s₀.heap.objs.size
 noex:∀b o,X.base.get? b=some o->b∉X.ex
 exfs:∀b∈X.ex,b∉X.fs
 funs:X.s₀.heap.FunFrames X.base X.outer
 frf:∀b∈X.fs,X.H₀ b=none
structure Inv(X:Cx)(pins:List (Addr×Obj))(σ:List (Option V))(H:Hp)(s:Shared):Prop where
 ok:X.Ok
 os:s.os=X.s₀.os
 bare:AllBare s.gens
 base:Un X.fs X.ex X.H₀ H X.s₀.heap s.heap
 loc:∃m,s.heap.Ns X.env.locals m/\∀(i:Nat) (x:Str) (v:V),X.N[i]?=some x->σ[i]?=some (some v)->Vis X.env.scope x->∃u,RelV v u/\Zx X.env s.heap m x u
 cell:∀x c,X.env.cells.lookup x=some c->∃v,s.heap.IsCell c v
 free:H X.env.locals=none
 freeC:∀x c,X.env.cells.lookup x=some c->H c=none
 pin:∀p∈X.pn++pins,s.heap.get? p.1=some p.2/\H p.1=none/\p.1≠X.env.locals/\p.1∉X.fs/\∀v,p.2.data≠.cell v
 hok:HOk X.prog X.w H s.heap
 len:σ.length=X.N.length
section
variable{X:Cx}{pins:List (Addr×Obj)}{σ:List (Option V)}{H H':Hp}{s:Shared}{h':Heap}
theorem Cx.Ok.nofr(ok:X.Ok){b:Addr}{o:Obj}(e:X.base.get? b=some o):b∉X.fs:=λhb=>by
 have:=(ok.funs.mem hb).1;rw[e] at this;cases this
theorem Inv.bs(I:Inv X pins σ H s):∀b o,X.base.get? b=some o->s.heap.get? b=some o/\H b=none:=λb o e=>
 ⟨I.base.keep b o (I.ok.bs b o e).1 (I.ok.bs b o e).2 (I.ok.nofr e) (I.ok.noex b o e),I.base.free b o (I.ok.bs b o e).1 (I.ok.bs b o e).2 (I.ok.noex b o e)⟩
theorem Inv.bk(I:Inv X pins σ H s):∀b o,X.base.get? b=some o->s.heap.get? b=some o:=λb o e=>(I.bs b o e).1
theorem Inv.mod(I:Inv X pins σ H s):Mod X.K X.mg X.base:=I.ok.mod
theorem Inv.kIn(I:Inv X pins σ H s):X.K.In s.heap:=I.ok.mod.kin.keeps I.bk
theorem Inv.lt(I:Inv X pins σ H s):X.env.locals<s.heap.objs.size:=let ⟨_,hn,_⟩:=I.loc;hn.lt
theorem Inv.sz(I:Inv X pins σ H s):X.s₀.heap.objs.size<=s.heap.objs.size:=AAq I.ok.above (Nat.le_of_lt I.lt)
theorem Inv.nofs(I:Inv X pins σ H s){a:Addr}(h:s.heap.objs.size<=a):a∉X.fs:=λhb=>by
 obtain⟨_,o,ho,_⟩:=I.ok.funs.mem hb;exact absurd (AAN (Heap.lt_size ho) (AAq I.sz h)) (AAv _)
theorem Inv.cne(I:Inv X pins σ H s):∀x c,X.env.cells.lookup x=some c->c≠X.env.locals:=λx c e z=>by
 obtain⟨v,o,ho,hd⟩:=I.cell x c e;obtain⟨m,⟨o',es,ep,ho',hd',_⟩,_⟩:=I.loc;rw[z,ho'] at ho;cases ho;rw[hd'] at hd;cases hd
theorem Inv.funs(I:Inv X pins σ H s):s.heap.FunFrames X.base X.outer:=by
 have all:∀(l:List Env),(∀b∈frs l,b∈X.fs)->X.s₀.heap.FunFrames X.base l->s.heap.FunFrames X.base l:=by
  intro l
  induction l with
  |nil=>intro _ _;trivial
  |cons env r ih=>
   intro hs hl;obtain⟨hk,⟨L,o,hf,hn,ho,hd⟩,hr⟩:=hl;have hL:L∈X.fs:=hs L (by unfold frs;rw[List.filterMap_cons,hf];exact AAQ);obtain⟨sl,e⟩:=I.base.slot L o ho (I.ok.frf L hL) hL λz=>I.ok.exfs L z hL;exact⟨hk,⟨L,_,hf,hn,e,hd⟩,ih (λb hb=>hs b (by unfold frs;rw[List.filterMap_cons,hf];exact AAR _ hb)) hr⟩
 exact all X.outer (λ_ hb=>hb) I.ok.funs
theorem Inv.stack(I:Inv X pins σ H s):s.heap.FunFrames X.base X.stack:=by
 rcases I.ok.stk with e|⟨e,hf⟩
 ·rw[e];exact I.funs
 ·rw[e];obtain⟨m,hn,_⟩:=I.loc;refine .cons (by rw[I.ok.kind];decide) hf hn ?_ I.funs;exact Heap.get?_none_of_le (AAq I.ok.bsz I.ok.above)
theorem Inv.stkSub(I:Inv X pins σ H s):∀b∈frs X.stack,b∈X.env.locals::X.fs:=λb hb=>by
 rcases I.ok.stk with e|⟨e,hf⟩
 ·rw[e] at hb;exact AAR _ hb
 ·rw[e] at hb;unfold frs at hb;rw[List.filterMap_cons,hf] at hb;exact hb
theorem Inv.stkFree(I:Inv X pins σ H s):∀b∈frs X.stack,H b=none:=λb hb=>by
 rcases AAJ.mp (I.stkSub b hb) with e|hb
 ·rw[e];exact I.free
 ·obtain⟨_,o,ho,_⟩:=I.ok.funs.mem hb;exact I.base.free b o ho (I.ok.frf b hb) λz=>I.ok.exfs b z hb
theorem Inv.step{g':Array GenState}{t':Nat}{d':Drawn}{ch:List Addr}(I:Inv X pins σ H s)
  (hch:∀b∈ch,(b∈X.ex∨X.s₀.heap.objs.size<=b)/\b≠X.env.locals/\(∀x c,X.env.cells.lookup x=some c->c≠b)/\∀p∈X.pn++pins,p.1≠b)
  (keep:∀b o,b≠X.env.locals->b∉X.fs->b∉ch->s.heap.get? b=some o->H b=none->h'.get? b=some o)
  (slot:∀b o,b≠X.env.locals->b∈X.fs->b∉ch->s.heap.get? b=some o->H b=none->∃sl,h'.get? b=some { o with slots:=sl }) (free:∀b o,b∉ch->s.heap.get? b=some o->H b=none->H' b=none)
  (there:∀b o,b∉ch->s.heap.get? b=some o->∃o',h'.get? b=some o')
  (tups:∀b xs,H b=some (.tup xs)->H' b=some (.tup xs)) (frzs:∀b o u,H b=some (.frz o u)->H' b=some (.frz o u)) (tbls:∀b ps,H b=some (.tbl ps)->∃more,H' b=some (.tbl (ps++more)))
  (ns:∀m,s.heap.Ns X.env.locals m->h'.Ns X.env.locals m) (hok:HOk X.prog X.w H' h') (hg:AllBare g') :
  Inv X pins σ H' { s with heap:=h',gens:=g',drawn:=d',toks:=t' }:=by
 have neL:∀b o,X.s₀.heap.get? b=some o->b≠X.env.locals:=λb o e=>AAd (AAN (Heap.lt_size e) I.ok.above);have neC:∀b o,X.s₀.heap.get? b=some o->b∉X.ex->b∉ch:=λb o e hx hb=>by
  rcases(hch b hb).1 with z|z
  ·exact hx z
  ·exact absurd (AAN (Heap.lt_size e) z) (AAv _)
 have cellK:∀x c,X.env.cells.lookup x=some c->∀v,s.heap.IsCell c v->h'.IsCell c v:=λx c e v ⟨o,ho,hd⟩=>by
  have nch:c∉ch:=λz=>(hch c z).2.2.1 x c e rfl;by_cases hc:c∈X.fs
  ·obtain⟨sl,q⟩:=slot c o (I.cne x c e) hc nch ho (I.freeC x c e);exact⟨_,q,hd⟩
  ·exact⟨o,keep c o (I.cne x c e) hc nch ho (I.freeC x c e),hd⟩
 refine⟨I.ok,I.os,hg,⟨λb o e n hb hx=>?_,λb o e n hb hx=>?_,λb o e n hx=>?_,λb o e hx=>?_,λb xs e=>tups b xs (I.base.tups b xs e),λb o xs e=>frzs b o xs (I.base.frzs b o xs e),λb ps e=>?_⟩,?_,λx c e=>?_,?_,λx c e=>?_,λp hp=>?_,hok,I.len⟩
 ·exact keep b o (neL b o e) hb (neC b o e hx) (I.base.keep b o e n hb hx) (I.base.free b o e n hx)
 ·obtain⟨sl,e1⟩:=I.base.slot b o e n hb hx;obtain⟨sl',e2⟩:=slot b _ (neL b o e) hb (neC b o e hx) e1 (I.base.free b o e n hx);exact⟨sl',e2⟩
 ·obtain⟨o',e1⟩:=I.base.there b o e hx;exact free b o' (neC b o e hx) e1 (I.base.free b o e n hx)
 ·obtain⟨o',e1⟩:=I.base.there b o e hx;exact there b o' (neC b o e hx) e1
 ·obtain⟨m1,e1⟩:=I.base.tbls b ps e;obtain⟨m2,e2⟩:=tbls b _ e1;exact⟨m1++m2,by rw[e2,Array.append_assoc]⟩
 ·obtain⟨m,hn,hl⟩:=I.loc;refine⟨m,ns m hn,λi x v e1 e2 e3=>?_⟩;obtain⟨u,r,l⟩:=hl i x v e1 e2 e3;refine⟨u,r,?_⟩;rcases l with l|⟨k,c,e,z⟩
  ·exact .inl l
  ·exact .inr ⟨k,c,e,cellK x c e _ z⟩
 ·obtain⟨v,z⟩:=I.cell x c e;exact⟨v,cellK x c e v z⟩
 ·obtain⟨m,⟨o,_,_,ho,_⟩,_⟩:=I.loc;exact free _ o (λz=>(hch _ z).2.1 rfl) ho I.free
 ·obtain⟨v,o,ho,hd⟩:=I.cell x c e;exact free c o (λz=>(hch c z).2.2.1 x c e rfl) ho (I.freeC x c e)
 ·obtain⟨e,n,ne,nf,d⟩:=I.pin p hp;have nch:p.1∉ch:=λz=>(hch p.1 z).2.2.2 p hp rfl;exact⟨keep p.1 p.2 ne nf nch e n,free p.1 p.2 nch e n,ne,nf,d⟩
theorem Inv.un{t':Nat}(I:Inv X pins σ H s)(u:Un X.fs [] H H' s.heap h')(hok:HOk X.prog X.w H' h'):Inv X pins σ H' { s with heap:=h',toks:=t' }:=by
 obtain⟨m,⟨o,es,ep,ho,r⟩,_⟩:=id I.loc;obtain⟨sl,hL⟩:=u.any ho I.free (by simp);exact I.step (g':=s.gens) (d':=s.drawn) (ch:=[]) (λ_ z=>nomatch z) (λb o _ hb _ e n=>u.keep b o e n hb (by simp)) (λb o _ hb _ e n=>u.slot b o e n hb (by simp)) (λb o _ e n=>u.free b o e n (by simp)) (λb o _ e=>u.there b o e (by simp)) u.tups u.frzs u.tbls (λm' hm=>by
  obtain⟨o',es',ep',ho',r'⟩:=hm;rw[ho] at ho';cases ho';exact⟨_,es',ep',hL,r'⟩) hok I.bare
theorem Inv.call{g':Array GenState}{t':Nat}{d':Drawn}{ch:List Addr}(I:Inv X pins σ H s)(u:Un (frs X.stack) ch H H' s.heap h')(hok:HOk X.prog X.w H' h')(hg:AllBare g')
  (hch:∀b∈ch,(b∈X.ex∨X.s₀.heap.objs.size<=b)/\b≠X.env.locals/\(∀x c,X.env.cells.lookup x=some c->c≠b)/\∀p∈X.pn++pins,p.1≠b) :
  Inv X pins σ H' { s with heap:=h',gens:=g',drawn:=d',toks:=t' }:=by
 obtain⟨m,⟨o,es,ep,ho,r⟩,_⟩:=id I.loc;obtain⟨sl,hL⟩:=u.any ho I.free λz=>(hch _ z).2.1 rfl;exact I.step (ch:=ch) hch (λb o hL hb hc e n=>u.keep b o e n (λz=>(AAJ.mp (I.stkSub b z)).elim hL hb) hc) (λb o _ _ hc e n=>u.any e n hc) (λb o hc e n=>u.free b o e n hc) (λb o hc e=>u.there b o e hc) u.tups u.frzs u.tbls (λm' hm=>by
  obtain⟨o',es',ep',ho',r'⟩:=hm;rw[ho] at ho';cases ho';exact⟨_,es',ep',hL,r'⟩) hok hg
theorem Inv.turned{t':Nat}{it:Addr}(I:Inv X pins σ H s)(k:∀b o,b≠it->s.heap.get? b=some o->h'.get? b=some o)(hn:H it=none)(hL:it≠X.env.locals)
  (h1:it∈X.ex∨X.s₀.heap.objs.size<=it) (h2:∀x c,X.env.cells.lookup x=some c->c≠it) (h3:∀p∈X.pn++pins,p.1≠it):Inv X pins σ H { s with heap:=h',toks:=t' }:=by
 have nit:∀b u,H b=some u->b≠it:=λb u e z=>by rw[z,hn] at e;cases e
 refine I.step (g':=s.gens) (d':=s.drawn) (ch:=[it]) (λb hb=>?_) (λb o _ _ hc e _=>k b o (λz=>hc (by simp[z])) e) (λb o _ _ hc e _=>⟨o.slots,k b o (λz=>hc (by simp[z])) e⟩) (λ_ _ _ _ n=>n)
  (λb o hc e=>⟨o,k b o (λz=>hc (by simp[z])) e⟩) (λ_ _ e=>e) (λ_ _ _ e=>e) (λb ps e=>⟨#[],by rw[e];simp⟩) (λm hm=>?_) (λb u e=>?_) I.bare
 ·have e:b=it:=by simpa using hb
  subst e;exact⟨h1,hL,h2,h3⟩
 ·obtain⟨o,es,ep,ho,r⟩:=hm;exact⟨o,es,ep,k _ o (Ne.symm hL) ho,r⟩
 ·refine(I.hok b u e).stay (λc v hc q=>k c v ?_ q) (λ_ q=>q) λ_ _ q=>q;rcases hc with z|z
  ·rw[z];exact nit b u e
  ·exact nit c _ z
theorem Inv.tok(I:Inv X pins σ H s)(t:Nat):Inv X pins σ H { s with toks:=t }:=I.un (h':=s.heap) (t':=t) Un.refl I.hok
theorem Inv.kept{t':Nat}(I:Inv X pins σ H s)(k:∀b u,s.heap.get? b=some u->h'.get? b=some u):Inv X pins σ H { s with heap:=h',toks:=t' }:=I.un (Un.kept k) (I.hok.kept k)
theorem Inv.laid{a:Addr}{o:HO}{t':Nat}(I:Inv X pins σ H s)(k:∀b u,s.heap.get? b=some u->h'.get? b=some u)(hp:s.heap.objs.size<=a)(new:ObjOk X.prog X.w (upd H a o) h' a o):
  Inv X pins σ (upd H a o) { s with heap:=h',toks:=t' }:=I.un (Un.laid k hp (I.hok.fresh hp)) (I.hok.laid k hp new)
theorem Inv.write{x e:Addr}{o:HO}{t':Nat}(I:Inv X pins σ H s)(mu:Mut (H x))(he:e=x∨H e=some (.own x))(k:∀b u,b≠e->s.heap.get? b=some u->h'.get? b=some u)(heo:∃u,h'.get? e=some u)
  (new:ObjOk X.prog X.w (upd H x o) h' x o):Inv X pins σ (upd H x o) { s with heap:=h',toks:=t' }:=I.un (Un.write mu he k heo) (I.hok.write mu he k heo new)
theorem Inv.weak{σ':List (Option V)}(I:Inv X pins σ H s)(hl:σ'.length=σ.length)(w:∀(i:Nat) v,σ'[i]?=some (some v)->σ[i]?=some (some v)):Inv X pins σ' H s:=
 ⟨I.ok,I.os,I.bare,I.base,let ⟨m,hn,hl'⟩:=I.loc;⟨m,hn,λi x v e1 e2 e3=>hl' i x v e1 (w i v e2) e3⟩,I.cell,I.free,I.freeC,I.pin,I.hok,hl.trans I.len⟩
theorem Inv.pins_of{pins':List (Addr×Obj)}(I:Inv X pins σ H s)(h:∀p∈pins',s.heap.get? p.1=some p.2/\H p.1=none/\p.1≠X.env.locals/\p.1∉X.fs/\∀v,p.2.data≠.cell v):Inv X pins' σ H s:=
 ⟨I.ok,I.os,I.bare,I.base,I.loc,I.cell,I.free,I.freeC,λp hp=>(AAK.mp hp).elim (λz=>I.pin p (AAb _ z)) (h p),I.hok,I.len⟩
theorem Il{N:List Str}(hN:N.Nodup){i j:Nat}{x:Str}(a:N[i]?=some x)(b:N[j]?=some x):i=j:=by
 obtain⟨h1,e1⟩:=AAU.mp a;obtain⟨h2,e2⟩:=AAU.mp b;exact(List.getElem_inj hN).mp (e1.trans e2.symm)
theorem Jj{M:Model}{A:Around}{E:Value->Shared->Prop}{i:Nat}{x:Str}{v:V}{u:Value}{Q:Unit->Shared->Prop}(I:Inv X pins σ H s)(hN:X.N.Nodup)(hi:X.N[i]?=some x)(hx:Loc X.env.scope x)(r:RelV v u)
  (h:∀s',Inv X pins (σ.set i (some v)) H s'->(∃a,Heap.SameBut a s.heap s'.heap/\(a=X.env.locals∨X.env.cells.lookup x=some a))->Q () s') (hf:X.fn x=true∨X.env.scope.names.lookup x=some .local:=by first|exact .inl rfl|exact .inr rfl|assumption):wpAny M A (storeName X.env x u) Q E s:=by
 obtain⟨m,hn,hl⟩:=id I.loc;have hcls:(X.env.scope.kind==.class||(X.env.scope.kind==.module&&X.env.locals != X.env.globals))=false:=by rw[I.ok.kind];rfl
 have hiσ:i<σ.length:=by rw[I.len];exact(AAU.mp hi).1
 have cne:=I.cne;have tracked:∀{a:Addr} {h':Heap},(∃o,s.heap.get? a=some o/\H a=none)->Heap.SameBut a s.heap h'->HOk X.prog X.w H h':=λ{a h'} ha hs b ob e=>by
  obtain⟨_,_,hfree⟩:=ha;refine(I.hok b ob e).stay (λc w' hc q=>(hs.2 c ?_).trans q) (λ_ q=>q) λ_ _ q=>q;rintro rfl;rcases hc with rfl|hc
  ·rw[hfree] at e;cases e
  ·rw[hfree] at hc;cases hc
 rcases hx with hk|hk
 ·refine wpAny_storeName_local hk hn (λh' hn' hs=>?_) hcls;obtain⟨oL,_,_,hoL,_⟩:=id hn;refine h _ ⟨I.ok,I.os,I.bare,⟨λb o e n hb hx=>?_,λb o e n hb hx=>?_,I.base.free,λb o e hx=>?_,I.base.tups,I.base.frzs,I.base.tbls⟩,⟨_,hn',λj y v' e1 e2 e3=>?_⟩,λy c e=>?_,I.free,I.freeC,λp hp=>?_,tracked ⟨oL,hoL,I.free⟩ hs,by simpa using I.len⟩ ⟨_,hs,.inl rfl⟩
  ·exact(hs.2 b (AAd (AAN (Heap.lt_size e) I.ok.above))).trans (I.base.keep b o e n hb hx)
  ·obtain⟨sl,e1⟩:=I.base.slot b o e n hb hx;exact⟨sl,(hs.2 b (AAd (AAN (Heap.lt_size e) I.ok.above))).trans e1⟩
  ·obtain⟨o',e1⟩:=I.base.there b o e hx;exact⟨o',(hs.2 b (AAd (AAN (Heap.lt_size e) I.ok.above))).trans e1⟩
  ·by_cases hj:j=i
   ·subst hj;rw[hi] at e1;cases e1;rw[List.getElem?_set_self hiσ] at e2;cases e2;exact⟨u,r,.inl ⟨hk,by simp⟩⟩
   ·rw[AAl (Ne.symm hj)] at e2;obtain⟨u',r',q⟩:=hl j y v' e1 e2 e3;refine⟨u',r',?_⟩;rcases q with ⟨k,e⟩|⟨k,c,e,z⟩
    ·refine .inl ⟨k,?_⟩;have:y≠x:=λe=>hj (Il hN e1 (e ▸ hi));simp[this,e]
    ·exact .inr ⟨k,c,e,z.sameBut hs (cne y c e)⟩
  ·obtain⟨w',z⟩:=I.cell y c e;exact⟨w',z.sameBut hs (cne y c e)⟩
  ·obtain⟨e,n,ne,nf,d⟩:=I.pin p hp;exact⟨(hs.2 p.1 ne).trans e,n,ne,nf,d⟩
 ·have hfn:X.fn x=true:=by
   rcases hf with z|z
   ·exact z
   ·rw[z] at hk;cases hk
  obtain⟨c,hc⟩:=I.ok.has x (.inl hk);obtain⟨w',z⟩:=I.cell x c hc;refine wpAny_storeName_cell I.ok.kind hk hc z (λh' hc' hs=>?_);obtain⟨oc,hoc,hocd⟩:=id z;refine h { s with heap:=h' } ⟨I.ok,I.os,I.bare,⟨λb o e n hb hx=>?_,λb o e n hb hx=>?_,I.base.free,λb o e hx=>?_,I.base.tups,I.base.frzs,I.base.tbls⟩,⟨m,hn.sameBut hs (Ne.symm (cne x c hc)),λj y v' e1 e2 e3=>?_⟩,λy c' e=>?_,I.free,I.freeC,λp hp=>?_,tracked ⟨oc,hoc,I.freeC x c hc⟩ hs,by simpa using I.len⟩ ⟨c,hs,.inr hc⟩
  ·exact(hs.2 b (AAd (AAN (Heap.lt_size e) (I.ok.cab x c hfn hc)))).trans (I.base.keep b o e n hb hx)
  ·obtain⟨sl,e1⟩:=I.base.slot b o e n hb hx;exact⟨sl,(hs.2 b (AAd (AAN (Heap.lt_size e) (I.ok.cab x c hfn hc)))).trans e1⟩
  ·obtain⟨o',e1⟩:=I.base.there b o e hx;exact⟨o',(hs.2 b (AAd (AAN (Heap.lt_size e) (I.ok.cab x c hfn hc)))).trans e1⟩
  ·by_cases hj:j=i
   ·subst hj;rw[hi] at e1;cases e1;rw[List.getElem?_set_self hiσ] at e2;cases e2;exact⟨u,r,.inr ⟨.inl hk,c,hc,hc'⟩⟩
   ·rw[AAl (Ne.symm hj)] at e2;obtain⟨u',r',q⟩:=hl j y v' e1 e2 e3;refine⟨u',r',?_⟩;rcases q with q|⟨k,c',e,z'⟩
    ·exact .inl q
    ·refine .inr ⟨k,c',e,z'.sameBut hs ?_⟩;rintro rfl;exact hj (Il hN e1 (I.ok.inj _ _ _ e hc ▸ hi))
  ·by_cases hcc:c'=c
   ·subst hcc;exact⟨_,hc'⟩
   ·obtain⟨w2,z2⟩:=I.cell y c' e;exact⟨w2,z2.sameBut hs hcc⟩
  ·obtain⟨e,n,ne,nf,d⟩:=I.pin p hp;refine⟨(hs.2 p.1 ?_).trans e,n,ne,nf,d⟩;intro q;rw[q,hoc] at e;have q':oc=p.2:=Option.some.inj e;exact d w' (by rw[←q'];exact hocd)
theorem IQ{M:Model}{A:Around}{E:Value->Shared->Prop}{i:Nat}{x:Str}{v:V}{u:Value}{Q:Unit->Shared->Prop}(I:Inv X pins σ H s)(hN:X.N.Nodup)(hi:X.N[i]?=some x)(hx:Loc X.env.scope x)(r:RelV v u)
  (h:∀s',Inv X pins (σ.set i (some v)) H s'->Q () s') (hf:X.fn x=true∨X.env.scope.names.lookup x=some .local:=by first|exact .inl rfl|exact .inr rfl|assumption):wpAny M A (storeName X.env x u) Q E s:=
 Jj I hN hi hx r (λs' I' _=>h s' I') hf
theorem Inv.call'{s':Shared}{ch:List Addr}(I:Inv X pins σ H s)(ho:s'.os=s.os)(u:Un (frs X.stack) ch H H' s.heap s'.heap)(hok:HOk X.prog X.w H' s'.heap)(hg:AllBare s'.gens)
  (hch:∀b∈ch,(b∈X.ex∨X.s₀.heap.objs.size<=b)/\b≠X.env.locals/\(∀x c,X.env.cells.lookup x=some c->c≠b)/\∀p∈X.pn++pins,p.1≠b):Inv X pins σ H' s':=by
 obtain⟨h',g',d',t',o'⟩:=s';have e:o'=s.os:=ho;subst e;exact I.call (g':=g') (t':=t') (d':=d') u hok hg hch
end
noncomputable abbrev XK:=Value->Option Addr->Hp->Prop
noncomputable abbrev St:=List (Option V)
noncomputable abbrev VK:=V->Hp->Prop
noncomputable abbrev TE:=St->Hp->VK->Prop
noncomputable abbrev TT:=St->Hp->(Bool->Hp->Prop)->Prop
noncomputable abbrev TA:=St->Hp->(List V->Hp->Prop)->Prop
structure JU where
 nx:St->Hp->Prop
 rt:VK
 bk:St->Hp->Prop:=λ_ _=>False
 ct:St->Hp->Prop:=λ_ _=>False
noncomputable abbrev TS:=JU->St->Hp->Prop
def EP(X:Cx)(pins:List (Addr×Obj))(σ:St)(Q:VK)(u:Value)(s':Shared):Prop:=∃v H',Inv X pins σ H' s'/\RelV v u/\Q v H'
def TP(X:Cx)(pins:List (Addr×Obj))(σ:St)(Q:Bool->Hp->Prop)(b:Bool)(s':Shared):Prop:=∃H',Inv X pins σ H' s'/\Q b H'
def AP(X:Cx)(pins:List (Addr×Obj))(σ:St)(Q:List V->Hp->Prop)(us:List Value)(s':Shared):Prop:=∃vs H',Inv X pins σ H' s'/\Vals vs us/\Q vs H'
def SP(X:Cx)(pins:List (Addr×Obj))(D:JU)(f:Flow)(s':Shared):Prop:=
 match f with
 | .next=>∃σ' H',Inv X pins σ' H' s'/\D.nx σ' H'
 | .brk=>∃σ' H',Inv X pins σ' H' s'/\D.bk σ' H'
 | .cont=>∃σ' H',Inv X pins σ' H' s'/\D.ct σ' H'
 | .ret u=>∃v σ' H',Inv X pins σ' H' s'/\RelV v u/\D.rt v H'
def PE(X:Cx)(e:Expr)(t:TE):Prop:=
 ∀(pins:List (Addr×Obj)) (s:Shared) (σ:St) (H:Hp) (Q:VK),Inv X pins σ H s->t σ H Q->wpAny (model X.prog X.w) X.A (eval e X.env) (EP X pins σ Q) X.xe s
def PT(X:Cx)(e:Expr)(t:TT):Prop:=
 ∀(pins:List (Addr×Obj)) (s:Shared) (σ:St) (H:Hp) (Q:Bool->Hp->Prop),Inv X pins σ H s->t σ H Q->wpAny (model X.prog X.w) X.A (isTrue e X.env (eval e X.env)) (TP X pins σ Q) X.xe s
def PW(X:Cx)(e:Expr)(t:TT):Prop:=
 ∀(whole:Sem Value) (pins:List (Addr×Obj)) (s:Shared) (σ:St) (H:Hp) (Q:Bool->Hp->Prop),Inv X pins σ H s->t σ H Q->wpAny (model X.prog X.w) X.A (isTrue e X.env whole) (TP X pins σ Q) X.xe s
theorem PW.pt{X:Cx}{e:Expr}{t:TT}(h:PW X e t):PT X e t:=h _
def PA(X:Cx)(es:List Expr)(t:TA):Prop:=
 ∀(pos:Pos) (pins:List (Addr×Obj)) (s:Shared) (σ:St) (H:Hp) (Q:List V->Hp->Prop),Inv X pins σ H s->t σ H Q->wpAny (model X.prog X.w) X.A (spliced (backTo pos (starEach es X.env))) (AP X pins σ Q) X.xe s
def PS(X:Cx)(st:Stmt)(t:TS):Prop:=
 ∀(pins:List (Addr×Obj)) (s:Shared) (σ:St) (H:Hp) (D:JU),Inv X pins σ H s->t D σ H->wpAny (model X.prog X.w) X.A (exec st X.env) (SP X pins D) X.xe s
def PSs(X:Cx)(st:List Stmt)(t:TS):Prop:=
 ∀(pins:List (Addr×Obj)) (s:Shared) (σ:St) (H:Hp) (D:JU),Inv X pins σ H s->t D σ H->wpAny (model X.prog X.w) X.A (execs st X.env) (SP X pins D) X.xe s
theorem thn{α:Type}{t:Sem α}{Q Q':α->Shared->Prop}{M:Model}{A:Around}{E:Value->Shared->Prop}{s:Shared}(h:wpAny M A t Q E s)(hQ:∀a s,Q a s->Q' a s):wpAny M A t Q' E s:=AAh h hQ λ_ _ x=>x
section
variable{X:Cx}
noncomputable def ZV(i:Nat):TE:=λσ H Q=>∃v,σ[i]?=some (some v)/\Q v H
noncomputable def tC(v:V):TE:=λ_ H Q=>Q v H
theorem WO{i:Nat}{x:Str}{pos:Pos}(hN:X.N[i]?=some x)(hv:Vis X.env.scope x)(hd:(x==("__debug__" : Str))=false:=by decide)(hcd:(x==("__classdict__" : Str))=false:=by decide):PE X (.Name x pos) (ZV i):=by
 intro pins s σ H Q I h;obtain⟨v,e,h⟩:=h;obtain⟨m,hn,hl⟩:=I.loc;obtain⟨u,r,l⟩:=hl i x v hN e hv;have fin:EP X pins σ Q u s:=⟨v,H,I,r,h⟩;rcases l with ⟨hk,hm⟩|⟨hk,c,hc,hcell⟩
 ·exact wpAny_Name (wpAny_loadName_local I.ok.kind hk hn hm fin) hd
 ·rcases hk with hk|hk
  ·exact wpAny_Name (wpAny_loadName_cell I.ok.kind hk hc hcell fin) hd
  ·exact wpAny_Name (wpAny_loadName_free I.ok.kind hk hc hcell fin hcd) hd
theorem WU{i j pos}:PE X (.Constant (.int i) j pos) (tC (.int i)):=λ_ _ _ H _ I h=>wpAny_Constant_int ⟨.int i,H,I.tok _,⟨_,rfl⟩,h⟩
theorem Yc{b j pos}:PE X (.Constant (.bool b) j pos) (tC (.bl b)):=λ_ _ _ H _ I h=>Constant_bool ⟨.bl b,H,I,rfl,h⟩
theorem WT{j pos}:PE X (.Constant .none j pos) (tC .non):=λ_ _ _ H _ I h=>Constant_none ⟨.non,H,I,rfl,h⟩
theorem WQ{x j pos}:PE X (.Constant (.str x) j pos) (tC (.str x)):=λ_ _ _ H _ I h=>Calls.Constant_str ⟨.str x,H,I.tok _,⟨_,rfl⟩,h⟩
def Gl(X:Cx)(x:Str):Prop:=X.env.kindOf x=some .globalImplicit
theorem Fo{E:Value->Shared->Prop}{pins:List (Addr×Obj)}{s:Shared}{σ:St}{H:Hp}{x:Str}{u:Value}{pos:Pos}{Q:Value->Shared->Prop}(I:Inv X pins σ H s)(hg:Gl X x)(hm:X.mg x=some u)(h:Q u s)
  (hd:(x==("__debug__" : Str))=false:=by decide):wpAny (model X.prog X.w) X.A (eval (.Name x pos) X.env) Q E s:=
 Calls.Name_function_global I.ok.kind hg (Calls.loadGlobal_global (by rw[I.ok.glob];exact I.mod.glob.keeps I.bk) hm h) hd
theorem GH{E:Value->Shared->Prop}{pins:List (Addr×Obj)}{s:Shared}{σ:St}{H:Hp}{x:Str}{u:Value}{pos:Pos}{Q:Value->Shared->Prop}(I:Inv X pins σ H s)(hg:Gl X x)(hm:X.mg x=none)(hv:bootBuiltins x=some u)(h:Q u s)
  (hn:x ≠ "__name__" := by decide) (hd:(x==("__debug__" : Str))=false:=by decide):wpAny (model X.prog X.w) X.A (eval (.Name x pos) X.env) Q E s:=by
 obtain⟨mb,h1,h2⟩:=I.mod.blt;exact Calls.Name_function_global I.ok.kind hg (Calls.loadGlobal_builtin (by rw[I.ok.glob];exact I.mod.glob.keeps I.bk) hm (by rw[I.ok.blt];exact h1.keeps I.bk) ((h2 x hn).trans hv) h) hd
theorem GZ{x:Str}{v:V}{u:Value}{pos:Pos}(hg:Gl X x)(hm:X.mg x=some u)(r:RelV v u)(hd:(x==("__debug__" : Str))=false:=by decide):PE X (.Name x pos) (tC v):=
 λ_ _ _ H _ I h=>Fo I hg hm ⟨v,H,I,r,h⟩ hd
theorem T6{x:Str}{v:V}{u:Value}{pos:Pos}(hg:Gl X x)(hm:X.mg x=none)(hv:bootBuiltins x=some u)(r:RelV v u)(hn:x ≠ "__name__" := by decide)(hd:(x==("__debug__" : Str))=false:=by decide):PE X (.Name x pos) (tC v):=
 λ_ _ _ H _ I h=>GH I hg hm hv ⟨v,H,I,r,h⟩ hn hd
variable{a b:Expr}{ta tb:TE}{pos:Pos}
def PC(X:Cx)(op:CmpOp)(a b:Expr)(t:TE):Prop:=
 ∀(pins:List (Addr×Obj)) (s:Shared) (σ:St) (H:Hp) (Q:VK),Inv X pins σ H s->t σ H Q->
  wpAny (model X.prog X.w) X.A (eval a X.env) (λv s₁=>wpAny (model X.prog X.w) X.A (eval b X.env) (λu s₂=>wpAny (model X.prog X.w) X.A (compareOp op v u) (EP X pins σ Q) X.xe s₂) X.xe s₁) X.xe s
noncomputable def tB(t:TE):TT:=λσ H Q=>t σ H λx H1=>∃c,x=.bl c/\Q c H1
theorem RQ{op:CmpOp}{t:TE}(h:PC X op a b t)(h1:behindInMarks op b=false:=by first|exact nobehind _ (by decide) (by decide)|rfl):PE X (.Compare a [op] [b] pos) t:=λpins s σ H Q I hw=>wpAny_Compare1 (h pins s σ H Q I hw) h1
theorem WD{e:Expr}{t:TE}(h:PE X e t)(he:∀whole,isTrue e X.env whole=(do let v ←whole;standAt e.pos;holding [v] (truthy v)):=by intro _;rfl):PT X e (tB t):=by
 intro pins s σ H Q I hw;refine isTrue_plain (thn (h pins s σ H _ I hw) λv s1 ⟨x,H1,I1,r1,q1⟩=>?_) (he _);obtain⟨d,rfl,q⟩:=q1;cases r1;exact wpAny_truthy_bool ⟨H1,I1,q⟩
variable{tA tB':TT}{rest:List Expr}
noncomputable def Ze(t u:TT):TT:=λσ H Q=>t σ H λc H1=>if c=true then u σ H1 Q else Q false H1
noncomputable def tOr(t u:TT):TT:=λσ H Q=>t σ H λc H1=>if c=true then Q true H1 else u σ H1 Q
noncomputable def Za(t:TT):TT:=λσ H Q=>t σ H λc H1=>Q (!c) H1
theorem To(ha:PT X a tA):PW X (.BoolOp .And [a] pos) tA:=by
 intro wh pins s σ H Q I h;refine isTrue_and (thn (ha pins s σ H Q I h) λc s1 e=>?_);cases c with
 |true=>exact isTrue_and_nil e
 |false=>exact e
theorem WA(ha:PT X a tA):PW X (.BoolOp .Or [a] pos) tA:=by
 intro wh pins s σ H Q I h;refine isTrue_or (thn (ha pins s σ H Q I h) λc s1 e=>?_);cases c with
 |false=>exact isTrue_or_nil e
 |true=>exact e
theorem WB(ha:PT X a tA)(hb:PW X (.BoolOp .And (b::rest) pos) tB'):PW X (.BoolOp .And (a::b::rest) pos) (Ze tA tB'):=by
 intro wh pins s σ H Q I h;refine isTrue_and (thn (ha pins s σ H _ I h) λc s1 ⟨H1,I1,q1⟩=>?_);cases c with
 |true=>exact hb wh pins s1 σ H1 Q I1 q1
 |false=>exact⟨H1,I1,q1⟩
theorem YS(ha:PT X a tA)(hb:PW X (.BoolOp .Or (b::rest) pos) tB'):PW X (.BoolOp .Or (a::b::rest) pos) (tOr tA tB'):=by
 intro wh pins s σ H Q I h;refine isTrue_or (thn (ha pins s σ H _ I h) λc s1 ⟨H1,I1,q1⟩=>?_);cases c with
 |true=>exact⟨H1,I1,q1⟩
 |false=>exact hb wh pins s1 σ H1 Q I1 q1
theorem WE(ha:PT X a tA):PT X (.UnaryOp .Not a pos) (Za tA):=by
 intro pins s σ H Q I h;exact isTrue_not (ha pins s σ H (λc H1=>Q (!c) H1) I h)
noncomputable def YF(ta tb:TE):TE:=λσ H Q=>ta σ H λx H1=>∃c,x=.bl c/\if c=true then tb σ H1 Q else Q (.bl false) H1
noncomputable def ZZ(ta tb:TE):TE:=λσ H Q=>ta σ H λx H1=>∃c,x=.bl c/\if c=true then Q (.bl true) H1 else tb σ H1 Q
noncomputable def X5(ta:TE):TE:=λσ H Q=>ta σ H λx H1=>∃c,x=.bl c/\Q (.bl (!c)) H1
theorem WR{op}{t:TE}(h:PE X a t):PE X (.BoolOp op [a] pos) t:=λpins s σ H Q I hw=>BoolOp_one (h pins s σ H Q I hw)
theorem WW(ha:PE X a ta)(hb:PE X (.BoolOp .And (b::rest) pos) tb):PE X (.BoolOp .And (a::b::rest) pos) (YF ta tb):=by
 intro pins s σ H Q I h;refine BoolOp_and (thn (ha pins s σ H _ I h) λv s1 ⟨x,H1,I1,r1,q1⟩=>?_);obtain⟨c,rfl,q1⟩:=q1;cases r1;refine wpAny_truthy_bool ?_;cases c with
 |true=>exact hb pins s1 σ H1 Q I1 q1
 |false=>exact⟨.bl false,H1,I1,rfl,q1⟩
theorem YY(ha:PE X a ta)(hb:PE X (.BoolOp .Or (b::rest) pos) tb):PE X (.BoolOp .Or (a::b::rest) pos) (ZZ ta tb):=by
 intro pins s σ H Q I h;refine BoolOp_or (thn (ha pins s σ H _ I h) λv s1 ⟨x,H1,I1,r1,q1⟩=>?_);obtain⟨c,rfl,q1⟩:=q1;cases r1;refine wpAny_truthy_bool ?_;cases c with
 |false=>exact hb pins s1 σ H1 Q I1 q1
 |true=>exact⟨.bl true,H1,I1,rfl,q1⟩
theorem WS(ha:PE X a ta):PE X (.UnaryOp .Not a pos) (X5 ta):=by
 intro pins s σ H Q I h;refine UnaryOp_ (thn (ha pins s σ H _ I h) λv s1 ⟨x,H1,I1,r1,q1⟩=>?_);obtain⟨c,rfl,q1⟩:=q1;cases r1;exact not_of (wpAny_truthy_bool ⟨.bl (!c),H1,I1,rfl,q1⟩)
noncomputable def tIf(t:TT)(ta tb:TE):TE:=λσ H Q=>t σ H λc H1=>if c=true then ta σ H1 Q else tb σ H1 Q
theorem RL{c:Expr}(hc:PT X c tA)(ha:PE X a ta)(hb:PE X b tb):PE X (.IfExp c a b pos) (tIf tA ta tb):=by
 intro pins s σ H Q I h;refine wpAny_IfExp (thn (hc pins s σ H _ I h) λd s1 ⟨H1,I1,q1⟩=>?_);cases d with
 |true=>exact ha pins s1 σ H1 Q I1 q1
 |false=>exact hb pins s1 σ H1 Q I1 q1
end
def SqL(K:PySem.W.Frag)(H:Hp)(a:Addr)(xs:List V):Prop:=
 Rd H a (.lst xs) ∨
  ∃(o:Obj) (its:Array Value) (n:Nat),K.lookup a=some o/\o.cls=.type "list" /\ o.dict=none/\o.data=.seq its n/\its.size<=sizeLine/\Vals xs its.toList
def SqT(K:PySem.W.Frag)(H:Hp)(a:Addr)(xs:List V):Prop:=
 Rd H a (.tup xs) ∨
  ∃(o:Obj) (its:Array Value) (n:Nat),K.lookup a=some o/\o.cls=.type "tuple" /\ o.data=.seq its n/\its.size<=sizeLine/\Vals xs its.toList
noncomputable def Zv:Value->Option V
 | .none=>some .non
 | .bool b=>some (.bl b)
 | .int i _=>some (.int i)
 | .str x _=>some (.str x)
 | .bytes b _=>some (.byt b)
 | .float b _=>some (.flt b)
 | .ref a=>some (.ref a)
 | .type n=>some (.ty n)
 |_=>none
theorem RelV.abs{x:V}{u:Value}(r:RelV x u):Zv u=some x:=by
 cases x with
 |non=>cases r;rfl
 |bl _=>cases r;rfl
 |int _=>obtain⟨t,rfl⟩:=r;rfl
 |str _=>obtain⟨t,rfl⟩:=r;rfl
 |byt _=>obtain⟨t,rfl⟩:=r;rfl
 |flt _=>obtain⟨t,rfl⟩:=r;rfl
 |ref _=>cases r;rfl
 |ty _=>cases r;rfl
theorem RelV.inj{x y:V}{u:Value}(r:RelV x u)(q:RelV y u):x=y:=Option.some.inj (r.abs.symm.trans q.abs)
theorem Vals.inj:∀{xs ys:List V} {us:List Value},Vals xs us->Vals ys us->xs=ys
 |_,_,_,.nil,.nil=>rfl
 |_,_,_,.cons r t,.cons r' t'=>by rw[r.inj r',Vals.inj t t']
section
variable{X:Cx}{pins:List (Addr×Obj)}{σ:St}{H:Hp}{s:Shared}{a:Addr}{xs ys:List V}
theorem SqL.of{K:PySem.W.Frag}(h:H a=some (.lst xs)):SqL K H a xs:=.inl (.inl h)
theorem SqT.of{K:PySem.W.Frag}(h:H a=some (.tup xs)):SqT K H a xs:=.inl (.inl h)
theorem Inv.list(I:Inv X pins σ H s)(h:SqL X.K H a xs):∃its:List Value,Vals xs its/\PlainL s.heap a its.toArray/\xs.length<=sizeLine:=by
 rcases h with h|⟨o,its,n,hk,hc,hd,hs,hz,r⟩
 ·obtain⟨z,its,n,r,e⟩:=h.ok I.hok;exact⟨its,r,⟨_,n,e,rfl,rfl,rfl⟩,z⟩
 ·refine⟨its.toList,r,⟨o,n,I.kIn a o hk,hc,hd,by simpa using hs⟩,?_⟩;have e:=r.length;simp only[Array.length_toList] at e;omega
theorem Inv.tuple(I:Inv X pins σ H s)(h:SqT X.K H a xs):∃its:List Value,Vals xs its/\IsTup s.heap a its.toArray/\xs.length<=sizeLine:=by
 rcases h with h|⟨o,its,n,hk,hc,hs,hz,r⟩
 ·obtain⟨z,its,r,p⟩:=h.ok I.hok;exact⟨its,r,p,z⟩
 ·refine⟨its.toList,r,⟨o,I.kIn a o hk,hc,n,by simpa using hs⟩,?_⟩;have e:=r.length;simp only[Array.length_toList] at e;omega
theorem Inv.list_inj(I:Inv X pins σ H s)(h:SqL X.K H a xs)(h':SqL X.K H a ys):xs=ys:=by
 obtain⟨its,r,⟨o,n,e,_,_,d⟩,_⟩:=I.list h;obtain⟨its',r',⟨o',n',e',_,_,d'⟩,_⟩:=I.list h';rw[e] at e';cases e';rw[d] at d';injection d' with d1 _
 have:its=its':=by simpa using congrArg Array.toList d1
 subst this;exact r.inj r'
theorem Inv.tuple_inj(I:Inv X pins σ H s)(h:SqT X.K H a xs)(h':SqT X.K H a ys):xs=ys:=by
 obtain⟨its,r,⟨o,e,_,n,d⟩,_⟩:=I.tuple h;obtain⟨its',r',⟨o',e',_,n',d'⟩,_⟩:=I.tuple h';rw[e] at e';cases e';rw[d] at d';injection d' with d1 _
 have:its=its':=by simpa using congrArg Array.toList d1
 subst this;exact r.inj r'
end
noncomputable abbrev Cx.wish(X:Cx)(E:Value->Shared->Prop):Cx:={ X with xe:=E }
noncomputable abbrev Cx.nox(X:Cx):Cx:=X.wish λ_ _=>False
theorem Cx.Ok.wish{X:Cx}(ok:X.Ok)(E:Value->Shared->Prop):(X.wish E).Ok:=
 ⟨ok.mod,ok.kind,ok.glob,ok.blt,ok.above,ok.inj,ok.has,ok.cab,ok.hd,ok.frames,ok.stk,ok.exf,ok.bs,ok.bsz,ok.noex,ok.exfs,ok.funs,ok.frf⟩
theorem Cx.Ok.unwish{X:Cx}{E:Value->Shared->Prop}(ok:(X.wish E).Ok):X.Ok:=
 ⟨ok.mod,ok.kind,ok.glob,ok.blt,ok.above,ok.inj,ok.has,ok.cab,ok.hd,ok.frames,ok.stk,ok.exf,ok.bs,ok.bsz,ok.noex,ok.exfs,ok.funs,ok.frf⟩
section
variable{X:Cx}{pins:List (Addr×Obj)}{σ:St}{H:Hp}{s:Shared}{E:Value->Shared->Prop}
theorem Inv.wish(I:Inv X pins σ H s)(E:Value->Shared->Prop):Inv (X.wish E) pins σ H s:=⟨I.ok.wish E,I.os,I.bare,I.base,I.loc,I.cell,I.free,I.freeC,I.pin,I.hok,I.len⟩
theorem Inv.unwish(I:Inv (X.wish E) pins σ H s):Inv X pins σ H s:=⟨I.ok.unwish,I.os,I.bare,I.base,I.loc,I.cell,I.free,I.freeC,I.pin,I.hok,I.len⟩
theorem SP.unwish{D:JU}{f:Flow}{s':Shared}(h:SP (X.wish E) pins D f s'):SP X pins D f s':=by
 cases f with
 |next=>obtain⟨σ',H',I,q⟩:=h;exact⟨σ',H',I.unwish,q⟩
 |brk=>obtain⟨σ',H',I,q⟩:=h;exact⟨σ',H',I.unwish,q⟩
 |cont=>obtain⟨σ',H',I,q⟩:=h;exact⟨σ',H',I.unwish,q⟩
 |ret u=>obtain⟨v,σ',H',I,r,q⟩:=h;exact⟨v,σ',H',I.unwish,r,q⟩
theorem PSs.nox{st:List Stmt}{t:TS}(h:PSs X.nox st t):PSs X st t:=λpins s σ H D I hw=>
 AAh (h pins s σ H D (I.wish _) hw) (λ_ _ q=>q.unwish) λ_ _ z=>False.elim z
end
section
variable{X:Cx}{st:Stmt}{rest:List Stmt}{t u:TS}{e:Expr}{te:TE}{pos:Pos}
noncomputable def X7:TS:=λD σ H=>D.nx σ H
noncomputable def ZX(t u:TS):TS:=λD σ H=>t { D with nx:=u D } σ H
theorem Tv:PSs X [] X7:=λ_ _ σ H _ I h=>wpAny_execs_nil ⟨σ,H,I,h⟩
theorem Q6(h1:PS X st t)(h2:PSs X rest u):PSs X (st::rest) (ZX t u):=by
 intro pins s σ H D I h;refine wpAny_execs_cons (thn (h1 pins s σ H { D with nx:=u D } I h) λf s1 q=>?_);cases f with
 |next=>
  obtain⟨σ',H',I',q⟩:=q;exact h2 pins s1 σ' H' D I' q
 |ret v=>exact q
 |brk=>exact q
 |cont=>exact q
theorem Tu(h1:PS X st t):PSs X [st] t:=by
 intro pins s σ H D I h;refine wpAny_execs_cons (thn (h1 pins s σ H D I h) λf s1 q=>?_);cases f with
 |next=>exact wpAny_execs_nil q
 |ret v=>exact q
 |brk=>exact q
 |cont=>exact q
theorem Inv.quiet{pins:List (Addr×Obj)}{σ:St}{H:Hp}{s:Shared}(I:Inv X pins σ H s):interactive X.env=false:=by simp[interactive,I.ok.kind]
noncomputable def YC(te:TE):TS:=λD σ H=>te σ H λ_ H1=>D.nx σ H1
theorem Tw(he:PE X e te)(hs:swapsWith e none pos.line X.env=pure false:=by rfl):PS X (.Expr e pos) (YC te):=by
 intro pins s σ H D I h;exact wpAny_Expr_any (thn (he pins s σ H _ I h) λv s1 ⟨x,H1,I1,r1,q1⟩=>⟨σ,H1,I1,q1⟩) I.quiet hs
noncomputable def ZY(te:TE):TS:=λD σ H=>te σ H D.rt
theorem WG(he:PE X e te):PS X (.Return (some e) pos) (ZY te):=by
 intro pins s σ H D I h;exact wpAny_Return_some (thn (he pins s σ H _ I h) λv s1 ⟨x,H1,I1,r1,q1⟩=>⟨x,σ,H1,I1,r1,q1⟩)
noncomputable def Zc(c:TT)(t u:TS):TS:=λD σ H=>c σ H λb H1=>if b=true then t D σ H1 else u D σ H1
theorem YV{c:Expr}{a b:List Stmt}{tc:TT}(hc:PT X c tc)(ha:PSs X a t)(hb:PSs X b u):PS X (.If c a b pos) (Zc tc t u):=by
 intro pins s σ H D I h;refine wpAny_If (thn (hc pins s σ H _ I h) λd s1 ⟨H1,I1,q1⟩=>?_);cases d with
 |true=>exact ha pins s1 σ H1 D I1 q1
 |false=>exact hb pins s1 σ H1 D I1 q1
end
noncomputable abbrev TG:=V->St->Hp->(St->Hp->Prop)->Prop
noncomputable abbrev TGs:=List V->St->Hp->(St->Hp->Prop)->Prop
def PG(X:Cx)(target:Expr)(t:TG):Prop:=
 ∀(pins:List (Addr×Obj)) (s:Shared) (σ:St) (H:Hp) (v:V) (u:Value) (Q:St->Hp->Prop),Inv X pins σ H s->RelV v u->t v σ H Q->
  wpAny (model X.prog X.w) X.A (assign target X.env u) (λ_ s'=>∃σ' H',Inv X pins σ' H' s'/\Q σ' H') X.xe s
def PGs(X:Cx)(ts:List Expr)(t:TGs):Prop:=
 ∀(pins:List (Addr×Obj)) (s:Shared) (σ:St) (H:Hp) (vs:List V) (us:List Value) (Q:St->Hp->Prop),Inv X pins σ H s->Vals vs us->t vs σ H Q->
  wpAny (model X.prog X.w) X.A (assignInOrder ((assignEach ts X.env).map (·.2)) us) (λ_ s'=>∃σ' H',Inv X pins σ' H' s'/\Q σ' H') X.xe s
noncomputable abbrev Xm:=V->V->V->Hp->(Hp->Prop)->Prop
def ZM(X:Cx)(t:Xm):Prop:=
 ∀(pins:List (Addr×Obj)) (s:Shared) (σ:St) (H:Hp) (o i v:V) (ov iv u:Value) (Q:Hp->Prop),Inv X pins σ H s->RelV o ov->RelV i iv->RelV v u->t o i v H Q->
  wpAny (model X.prog X.w) X.A (setItem ov iv u) (λ_ s'=>∃H',Inv X pins σ H' s'/\Q H') X.xe s
section
variable{X:Cx}{pos:Pos}
noncomputable def FG(i:Nat):TG:=λv σ H Q=>Q (σ.set i (some v)) H
theorem Ah{i:Nat}{x:Str}(hN:X.N.Nodup)(hi:X.N[i]?=some x)(hx:Loc X.env.scope x)(hf:X.fn x=true∨X.env.scope.names.lookup x=some .local:=by first|exact .inl rfl|exact .inr rfl|assumption):PG X (.Name x pos) (FG i):=by
 intro pins s σ H v u Q I r h;exact wpAny_assign_Name (IQ I hN hi hx r (λs' I'=>⟨_,H,I',h⟩) hf)
noncomputable def Y6:TGs:=λvs σ H Q=>vs=[]/\Q σ H
noncomputable def VM(t:TG)(u:TGs):TGs:=λvs σ H Q=>∃v r,vs=v::r/\t v σ H λσ' H'=>u r σ' H' Q
theorem Dj:PGs X [] Y6:=by
 intro pins s σ H vs us Q I r h;obtain⟨e,h⟩:=h;subst e;cases r;exact assignInOrder_nil ⟨σ,H,I,h⟩
theorem A0{e:Expr}{es:List Expr}{t:TG}{u:TGs}(h1:PG X e t)(h2:PGs X es u)
  (hs:(assignEach (e::es) X.env).map (·.2)=assign e X.env::(assignEach es X.env).map (·.2):=by rfl):PGs X (e::es) (VM t u):=by
 intro pins s σ H vs us Q I r h;obtain⟨v,vr,e1,h⟩:=h;subst e1;cases r with
 |cons r rr=>
  rw[hs];refine assignInOrder_cons (thn (h1 pins s σ H _ _ _ I r h) λ_ s1 ⟨σ1,H1,I1,q1⟩=>?_);exact h2 pins s1 σ1 H1 _ _ Q I1 rr q1
noncomputable def XQ(K:PySem.W.Frag)(n:Nat)(t:TGs):TG:=λv σ H Q=>∃a xs,v=.ref a/\SqT K H a xs/\xs.length=n/\t xs σ H Q
theorem RF{es:List Expr}{k:Nat}{t:TGs}{n:Nat}(hc:X.calm=true)(h:PGs X es t)
  (hn:(assignEach es X.env).length=n:=by rfl) (hst:(assignEach es X.env).findIdx? (·.1)=none:=by rfl):PG X (.Tuple es k pos) (XQ X.K n t):=by
 intro pins s σ H v u Q I r hw;obtain⟨a,xs,e1,hq,hl,hw⟩:=hw;subst e1;cases r;obtain⟨its,rv,ht,hz⟩:=I.tuple hq;refine assign_Tuple_tuple (I.ok.hd hc) ht (by simp[hn,←hl,rv.length]) hst λh' hx=>?_;have I1:Inv X pins σ H { s with heap:=h' }:=I.kept (t':=s.toks) λb o e=>hx b o (AAd (Heap.lt_size e)) e;exact h pins _ σ H xs _ Q I1 (by simpa using rv) hw
noncomputable def Zr(to ti:TE)(t:Xm):TG:=λv σ H Q=>to σ H λo H1=>ti σ H1 λi H2=>t o i v H2 λH3=>Q σ H3
theorem WN{o i:Expr}{to ti:TE}{t:Xm}(ho:PE X o to)(hi:PE X i ti)(hs:ZM X t)
  (ha:∀v,assign (.Subscript o i pos) X.env v=(do
   let ov ←holding [v] (eval o X.env)
   let iv ←holding [v,ov] (eval i X.env)
   standAt pos
   holding [v,ov,iv] (setItem ov iv v)
   release [v,ov,iv] []):=by intro _;rfl):PG X (.Subscript o i pos) (Zr to ti t):=by
 intro pins s σ H v u Q I r h;rw[ha];refine AAA (AAm (thn (ho pins s σ H _ I h) λov s1 ⟨x,H1,I1,r1,q1⟩=>?_));refine AAA (AAm (thn (hi pins s1 σ H1 _ I1 q1) λiv s2 ⟨y,H2,I2,r2,q2⟩=>?_));refine AAA (wpAny_standAt (AAA (AAm (thn (hs pins s2 σ H2 x y v ov iv u _ I2 r1 r2 r q2) λ_ s3 ⟨H3,I3,q3⟩=>?_))));exact wpAny_release ⟨σ,H3,I3,q3⟩
noncomputable def TN(te:TE)(g:TG):TS:=λD σ H=>te σ H λx H1=>g x σ H1 D.nx
theorem WI{tg e:Expr}{te:TE}{g:TG}(he:PE X e te)(hg:PG X tg g)(hs:swapsWithSole [tg] e pos.line X.env=pure false:=by rfl)(hw:swappedStores [tg] e X.env=pure none:=by rfl)
  (h1:(assignEach [tg] X.env).map (·.2)=[assign tg X.env]:=by rfl):PS X (.Assign [tg] e pos) (TN te g):=by
 intro pins s σ H D I h;refine wpAny_Assign_stores (thn (he pins s σ H _ I h) λv s1 ⟨x,H1,I1,r1,q1⟩=>?_) hs hw;rw[h1];exact thn (hg pins s1 σ H1 x v _ I1 r1 q1) λ_ s2 q=>q
theorem WF{i:Nat}{x:Str}{e:Expr}{te:TE}{pos':Pos}(hN:X.N.Nodup)(hi:X.N[i]?=some x)(hx:Loc X.env.scope x)(he:PE X e te)(hs:swapsWith e (some (.Name x pos')) pos.line X.env=pure false:=by rfl)(hf:X.fn x=true∨X.env.scope.names.lookup x=some .local:=by first|exact .inl rfl|exact .inr rfl|assumption):
  PS X (.Assign [.Name x pos'] e pos) (TN te (FG i)):=by
 intro pins s σ H D I h;refine wpAny_Assign_Name (thn (he pins s σ H _ I h) λv s1 ⟨y,H1,I1,r1,q1⟩=>?_) hs;exact IQ I1 hN hi hx r1 (λs2 I2=>⟨_,H1,I2,q1⟩) hf
end
set_option genInjectivity false in
structure It where
 go:Nat->Hp->Prop
 yld:Nat->Hp->V->Hp->Prop
 stop:Nat->Hp->Prop
def Eo(X:Cx)(pins:List (Addr×Obj))(H:Hp)(b:Addr):Prop:=
 H b=none/\b≠X.env.locals/\b∉X.fs/\(b∈X.ex∨X.s₀.heap.objs.size<=b)/\(∀x c,X.env.cells.lookup x=some c->c≠b)/\∀p∈X.pn++pins,p.1≠b
theorem Inv.fpOk{X:Cx}{pins:List (Addr×Obj)}{σ:St}{H H':Hp}{s:Shared}{b:Addr}(I:Inv X pins σ H s)(hb:s.heap.objs.size<=b)(hn:H' b=none):Eo X pins H' b:=by
 refine⟨hn,Nat.ne_of_gt (AAN I.lt hb),I.nofs hb,.inr (AAq I.sz hb),λx c e z=>?_,λp hp z=>?_⟩
 ·obtain⟨v,q⟩:=I.cell x c e;exact absurd (AAN q.lt (by rw[z];exact hb)) (AAv _)
 ·exact absurd (AAN (Heap.lt_size (I.pin p hp).1) (by rw[z];exact hb)) (AAv _)
structure JT(P:Program)(w:World)(K:PySem.W.Frag)(tg:Expr)(J:It)(fp:List Addr)(it:Addr)(tn:Nat->Heap->Prop):Prop where
 mem:it∈fp
 obj:∀i h,tn i h->∀b∈fp,∃o,h.get? b=some o/\∀v,o.data≠.cell v
 keep:∀i h h',tn i h->(∀b∈fp,∀o,h.get? b=some o->h'.get? b=some o)->tn i h'
 item:∀(X:Cx),X.prog=P->X.w=w->X.K=K->X.calm=true->∀(i:Nat) (pins:List (Addr×Obj)) (s:Shared) (σ:St) (H:Hp) (E:Value->Shared->Prop),Inv X pins σ H s->(∀b∈fp,Eo X pins H b)->tn i s.heap->J.go i H->
  wpAny (model P w) X.A (pyNext (.ref it)) (λr s1=>∃u,r=some u /\
   wpAny (model P w) X.A (letOwnedTupleGo tg (.ref it) u) (λ_ s2=>∃x H',Inv X pins σ H' s2/\RelV x u/\J.yld i H x H'/\tn (i+1) s2.heap/\∀b∈fp,H' b=none) E s1) E s
 done:∀(X:Cx),X.prog=P->X.w=w->X.K=K->X.calm=true->∀(i:Nat) (pins:List (Addr×Obj)) (s:Shared) (σ:St) (H:Hp) (E:Value->Shared->Prop),Inv X pins σ H s->(∀b∈fp,Eo X pins H b)->tn i s.heap->J.stop i H->
  wpAny (model P w) X.A (pyNext (.ref it)) (λr s1=>r=none/\Inv X pins σ H s1) E s
 self:∀(A:Around) (i:Nat) (s:Shared) (Q:Value->Shared->Prop) (E:Value->Shared->Prop),tn i s.heap->Q (.ref it) s->wpAny (model P w) A (pyIter (.ref it)) Q E s
noncomputable abbrev TI:=St->Hp->(It->Hp->Prop)->Prop
def PIE(X:Cx)(pins:List (Addr×Obj))(σ:St)(tg:Expr)(R:It->Hp->Prop)(itv:Value)(s2:Shared):Prop:=
 ∃(it:Addr) (fp:List Addr) (tn:Nat->Heap->Prop) (J:It) (H':Hp),itv=.ref it/\Inv X pins σ H' s2/\JT X.prog X.w X.K tg J fp it tn/\tn 0 s2.heap/\(∀b∈fp,Eo X pins H' b)/\R J H'
def PI(X:Cx)(tg iter:Expr)(wi:TI):Prop:=
 ∀(pins:List (Addr×Obj)) (s:Shared) (σ:St) (H:Hp) (R:It->Hp->Prop),Inv X pins σ H s->wi σ H R->
  wpAny (model X.prog X.w) X.A (eval iter X.env) (λv s1=>wpAny (model X.prog X.w) X.A (pyIter v) (PIE X pins σ tg R) X.xe s1) X.xe s
theorem SH{M:Model}{A:Around}{E:Value->Shared->Prop}{s:Shared}{tg:Expr}{it:Addr}{u:Value}{o:Obj}{n:String}{vs:Array Value}{Q:Unit->Shared->Prop}(ho:s.heap.get? it=some o)(hc:o.cls=.type n)(hd:o.data=.fields vs)
  (hn:["enumerate", "zip", "dict_itemiterator", "dict_reverseitemiterator", "odict_iterator", "itertools.zip_longest", "itertools.pairwise"].contains n=false) (hQ:Q () s):wpAny M A (letOwnedTupleGo tg (.ref it) u) Q E s:=by
 unfold letOwnedTupleGo;cases tg<;>first
  |exact AAB hQ
  |(cases u<;>first
    |exact AAB hQ
    |(refine AAA (wpAny_load ho ?_);rw[hc,hd];show wpAny M A (if (["enumerate", "zip", "dict_itemiterator", "dict_reverseitemiterator", "odict_iterator", "itertools.zip_longest", "itertools.pairwise"].contains n&&vs[0]?==some (rawInt _))=true then _ else _) Q E s;rw[if_neg (by intro h;rw[hn,Bool.false_and] at h;cases h)];exact AAB hQ))
noncomputable def Itl(K:PySem.W.Frag)(a:Addr):It:=
 ⟨λi H=>∃xs x,SqL K H a xs/\xs[i]?=some x,λi H x H'=>H'=H/\∀xs,SqL K H a xs->xs[i]?=some x,λi H=>∃xs,SqL K H a xs/\xs.length<=i⟩
noncomputable def Itt(K:PySem.W.Frag)(a:Addr):It:=
 ⟨λi H=>∃xs x,SqT K H a xs/\xs[i]?=some x,λi H x H'=>H'=H/\∀xs,SqT K H a xs->xs[i]?=some x,λi H=>∃xs,SqT K H a xs/\xs.length<=i⟩
noncomputable def Itr(lo:Int)(n:Nat):It:=⟨λi _=>i<n,λi H x H'=>H'=H/\x=.int (lo+i),λi _=>n<=i⟩
theorem Oi{P:Program}{w:World}{K:PySem.W.Frag}{tg:Expr}(a it:Addr):JT P w K tg (Itl K a) [it] it (λi h=>h.IsListIter it a i) where
 mem:=by simp
 obj:=λi h st b hb=>by
  have e:b=it:=by simpa using hb
  subst e;obtain⟨o,e,c,d⟩:=st;exact⟨o,e,λv z=>by rw[d] at z;cases z⟩
 keep:=λi h h' st k=>st.at λo e=>k it (by simp) o e
 item:=by
  intro X hP hw hK hc i pins s σ H E I hf st hg;subst hP hw hK;obtain⟨xs,x,hq,hx⟩:=hg;obtain⟨its,rv,p,hz⟩:=I.list hq;obtain⟨u,hu,ru⟩:=rv.get hx;obtain⟨f0,f1,f2,f3,f4,f5⟩:=hf it (by simp);refine wpAny_pyNext_list_item st p.isList (x:=u) (by simpa using hu) λh' st' sb=>?_;have I1:Inv X pins σ H { s with heap:=h' }:=I.turned (t':=s.toks) (λb o hb e=>(sb.2 b hb).trans e) f0 f1 f3 f4 f5;obtain⟨o,e,c,d⟩:=id st';exact⟨u,rfl,SH (s:={ s with heap:=h' }) e c d (by decide) ⟨x,H,I1,ru,⟨rfl,λys hy=>by rw[I.list_inj hy hq];exact hx⟩,st',λb hb=>(hf b hb).1⟩⟩
 done:=by
  intro X hP hw hK hc i pins s σ H E I hf st hg;subst hP hw hK;obtain⟨xs,hq,hx⟩:=hg;obtain⟨its,rv,p,hz⟩:=I.list hq;obtain⟨f0,f1,f2,f3,f4,f5⟩:=hf it (by simp);have hl:=rv.length;exact wpAny_pyNext_list_end (I.ok.hd hc) st p.isList (by simp;omega) λh' eb=>⟨rfl,I.turned (t':=s.toks) (λb o hb e=>eb b o hb e) f0 f1 f3 f4 f5⟩
 self:=λ_ _ _ _ _ st h=>wpAny_pyIter_listiter st h
theorem Mj{P:Program}{w:World}{K:PySem.W.Frag}{tg:Expr}(a it:Addr):JT P w K tg (Itt K a) [it] it (λi h=>h.IsTupleIter it a i) where
 mem:=by simp
 obj:=λi h st b hb=>by
  have e:b=it:=by simpa using hb
  subst e;obtain⟨o,e,c,d⟩:=st;exact⟨o,e,λv z=>by rw[d] at z;cases z⟩
 keep:=λi h h' st k=>st.at λo e=>k it (by simp) o e
 item:=by
  intro X hP hw hK hc i pins s σ H E I hf st hg;subst hP hw hK;obtain⟨xs,x,hq,hx⟩:=hg;obtain⟨its,rv,p,hz⟩:=I.tuple hq;obtain⟨u,hu,ru⟩:=rv.get hx;obtain⟨f0,f1,f2,f3,f4,f5⟩:=hf it (by simp);refine wpAny_pyNext_tuple_item st (show s.heap.IsTuple a its.toArray from p) (x:=u) (by simpa using hu) λh' st' sb=>?_;have I1:Inv X pins σ H { s with heap:=h' }:=I.turned (t':=s.toks) (λb o hb e=>(sb.2 b hb).trans e) f0 f1 f3 f4 f5;obtain⟨o,e,c,d⟩:=id st';exact⟨u,rfl,SH (s:={ s with heap:=h' }) e c d (by decide) ⟨x,H,I1,ru,⟨rfl,λys hy=>by rw[I.tuple_inj hy hq];exact hx⟩,st',λb hb=>(hf b hb).1⟩⟩
 done:=by
  intro X hP hw hK hc i pins s σ H E I hf st hg;subst hP hw hK;obtain⟨xs,hq,hx⟩:=hg;obtain⟨its,rv,p,hz⟩:=I.tuple hq;obtain⟨f0,f1,f2,f3,f4,f5⟩:=hf it (by simp);have hl:=rv.length;exact wpAny_pyNext_tuple_end (I.ok.hd hc) st (show s.heap.IsTuple a its.toArray from p) (by simp;omega) λh' eb=>⟨rfl,I.turned (t':=s.toks) (λb o hb e=>eb b o hb e) f0 f1 f3 f4 f5⟩
 self:=λ_ _ _ _ _ st h=>wpAny_pyIter_tupleiter st h
theorem Ml{P:Program}{w:World}{K:PySem.W.Frag}{tg:Expr}(it:Addr)(lo:Int)(n:Nat):JT P w K tg (Itr lo n) [it] it (λi h=>IsRangeIter h it (lo+(i:Nat) * 1) ((n:Int)-(i:Nat)) 1) where
 mem:=by simp
 obj:=λi h st b hb=>by
  have e:b=it:=by simpa using hb
  subst e;exact⟨_,st,λv z=>by
   have z':Data.fields _=Data.cell v:=z;cases z'⟩
 keep:=λi h h' st k=>k it (by simp) _ st
 item:=by
  intro X hP hw hK hc i pins s σ H E I hf st hg;subst hP hw hK;obtain⟨f0,f1,f2,f3,f4,f5⟩:=hf it (by simp);have W:=Walks.range (prog:=X.prog) (w:=X.w) (I.ok.hd hc) it lo 1 n;refine W.item i s _ _ hg st λv h' tk hv st' kk=>?_;obtain⟨t,rfl⟩:=hv;have I1:Inv X pins σ H { s with heap:=h',toks:=tk }:=I.turned (λb o hb e=>kk b o (by simpa using hb) e) f0 f1 f3 f4 f5;refine⟨_,rfl,SH (s:={ s with heap:=h',toks:=tk }) (n := "range_iterator") st' rfl rfl (by decide) ⟨.int (lo+i),H,I1,⟨t,?_⟩,⟨rfl,rfl⟩,st',λb hb=>(hf b hb).1⟩⟩;rw[Int.mul_one]
 done:=by
  intro X hP hw hK hc i pins s σ H E I hf st hg;subst hP hw hK;obtain⟨f0,f1,f2,f3,f4,f5⟩:=hf it (by simp);exact wpAny_pyNext_range_end (I.ok.hd hc) st (by have:n<=i:=hg;omega) λh' eb=>⟨rfl,I.turned (t':=s.toks) (λb o hb e=>eb b o hb e) f0 f1 f3 f4 f5⟩
 self:=λ_ _ _ _ _ st h=>wpAny_pyIter_rangeiter st h
section
variable{X:Cx}{tg:Expr}
noncomputable def VL(K:PySem.W.Frag)(tl:TE):TI:=λσ H R=>tl σ H λx H1=>∃a,x=.ref a/\(∃xs,SqL K H1 a xs)/\R (Itl K a) H1
noncomputable def Y2(K:PySem.W.Frag)(tl:TE):TI:=λσ H R=>tl σ H λx H1=>∃a,x=.ref a/\(∃xs,SqT K H1 a xs)/\R (Itt K a) H1
theorem N0{l:Expr}{tl:TE}(hl:PE X l tl):PI X tg l (VL X.K tl):=by
 intro pins s σ H R I h;refine thn (hl pins s σ H _ I h) λv s1 ⟨x,H1,I1,r1,q1⟩=>?_;obtain⟨a,e,⟨xs,hq⟩,q⟩:=q1;subst e;cases r1;obtain⟨its,rv,p,hz⟩:=I1.list hq;refine wpAny_pyIter_list p.isList ?_;refine⟨s1.heap.objs.size,[s1.heap.objs.size],_,_,H1,rfl,I1.kept (t':=s1.toks) λb o e=>AAC _ e,Oi a _,⟨_,AAD _ rfl,rfl,rfl⟩,λb hb=>?_,q⟩;have e:b=s1.heap.objs.size:=by simpa using hb
 subst e;exact I1.fpOk (AAF _) (I1.hok.fresh (AAF _))
theorem WL{l:Expr}{tl:TE}(hl:PE X l tl):PI X tg l (Y2 X.K tl):=by
 intro pins s σ H R I h;refine thn (hl pins s σ H _ I h) λv s1 ⟨x,H1,I1,r1,q1⟩=>?_;obtain⟨a,e,⟨xs,hq⟩,q⟩:=q1;subst e;cases r1;obtain⟨its,rv,p,hz⟩:=I1.tuple hq;refine wpAny_pyIter_tuple (show s1.heap.IsTuple a its.toArray from p) ?_;refine⟨s1.heap.objs.size,[s1.heap.objs.size],_,_,H1,rfl,I1.kept (t':=s1.toks) λb o e=>AAC _ e,Mj a _,⟨_,AAD _ rfl,rfl,rfl⟩,λb hb=>?_,q⟩;have e:b=s1.heap.objs.size:=by simpa using hb
 subst e;exact I1.fpOk (AAF _) (I1.hok.fresh (AAF _))
theorem Q1{pins:List (Addr×Obj)}{σ:St}{H:Hp}{s:Shared}{R:It->Hp->Prop}{E:Value->Shared->Prop}{lo hi:Int}{t u v:Tok}{tk:Nat}(I:Inv X pins σ H s)(h1:-(2 ^ 62)<=lo)(h2:lo<2 ^ 62)(h3:-(2 ^ 62)<=hi)(h4:hi<2 ^ 62)
  (q:R (Itr lo (hi-lo).toNat) H):wpAny (model X.prog X.w) X.A (pyIter (.ref s.heap.objs.size)) (PIE X pins σ tg R) E { s with heap:=s.heap.push { cls:=.type "range",data:=.fields #[.int lo t,.int hi u,.int 1 v] },toks:=tk }:=by
 refine wpAny_pyIter_range (IsRange.new ..) (small_one h1 h2 h3 h4) ?_;have I1:Inv X pins σ H { s with heap:=s.heap.push { cls:=.type "range",data:=.fields #[.int lo t,.int hi u,.int 1 v] },toks:=tk }:=I.kept λb o e=>AAC _ e;refine⟨(s.heap.push { cls:=.type "range",data:=.fields #[.int lo t,.int hi u,.int 1 v] }).objs.size,[(s.heap.push { cls:=.type "range",data:=.fields #[.int lo t,.int hi u,.int 1 v] }).objs.size],_,_,H,rfl,
  I1.kept (t':=tk) λb o e=>AAC _ e,Ml _ lo (hi-lo).toNat,?_,λb hb=>?_,q⟩
 ·have e1:lo+((0:Nat):Int) * 1=lo:=by simp
  have e2:(((hi-lo).toNat:Nat):Int)-((0:Nat):Int)=Builtin.Range.rangeSize lo hi 1:=by rw[rangeSize_one];split<;>omega
  show IsRangeIter _ _ (lo+((0:Nat):Int) * 1) ((((hi-lo).toNat:Nat):Int)-((0:Nat):Int)) 1;rw[e1,e2];exact AAD _ rfl
 ·have e:b=(s.heap.push { cls:=.type "range",data:=.fields #[.int lo t,.int hi u,.int 1 v] }).objs.size:=by simpa using hb
  subst e;exact I1.fpOk (AAF _) (I1.hok.fresh (AAF _))
noncomputable def Y3(ta:TA):TI:=λσ H R=>ta σ H λvs H1=>∃j:Int,vs=[.int j]/\-(2 ^ 62)<=j/\j<2 ^ 62/\R (Itr 0 j.toNat) H1
theorem Oz{a:Expr}{ta:TA}{p pos:Pos}(hg:Gl X "range")(hm:X.mg "range" = none)(ha:PA X [a] ta)(hs:starEach [a] X.env=[(false,eval a X.env)]:=by rfl):PI X tg (.Call (.Name "range" p) [a] [] pos) (Y3 ta):=by
 intro pins s σ H R I h;refine Call_ (GH I hg hm boot_range (PyProof.Rows.callWith_type1 (thn (ha pos pins s σ H _ I h) λus s1 ⟨vs,H1,I1,r1,q1⟩=>?_) hs rfl));obtain⟨j,e,q1,q2,q⟩:=q1;subst e;cases r1 with
 |cons r rr=>
  cases rr;obtain⟨t,rfl⟩:=r;exact call_range_1 (Q1 I1 (by omega) (by omega) q1 q2 (by simpa using q))
noncomputable def YA(wi:TI)(g:TG)(tb:TS):TS:=λD σ H=>wi σ H λJ H1=>∃W:Nat->Nat->St->Hp->Prop,(∃m,W 0 m σ H1)/\∀i m σ H,W i m σ H->
 (J.stop i H/\D.nx σ H)∨(J.go i H/\∃N:St->Hp->Prop,(∀σ' H',N σ' H'->∃m',m'<m/\W (i+1) m' σ' H')/\∀x H',J.yld i H x H'->g x σ H' λσ2 H2=>tb { D with nx:=N,ct:=N,bk:=D.nx } σ2 H2)
noncomputable def Ii(fp:List Addr)(h:Heap):List (Addr×Obj):=fp.filterMap λb=>(h.get? b).map λo=>(b,o)
theorem BV{fp:List Addr}{h:Heap}{b:Addr}{o:Obj}(hb:b∈fp)(e:h.get? b=some o):(b,o)∈Ii fp h:=List.mem_filterMap.mpr ⟨b,hb,by rw[e];rfl⟩
theorem O5{fp:List Addr}{h:Heap}{p:Addr×Obj}(hp:p∈Ii fp h):p.1∈fp/\h.get? p.1=some p.2:=by
 obtain⟨b,hb,e⟩:=List.mem_filterMap.mp hp;cases q:h.get? b with
 |none=>rw[q] at e;cases e
 |some o=>
  rw[q] at e;have e':(b,o)=p:=Option.some.inj e;subst e';exact⟨hb,q⟩
theorem Inv.pinned{pins:List (Addr×Obj)}{σ:St}{H:Hp}{s:Shared}{fp:List Addr}(I:Inv X pins σ H s)(hf:∀b∈fp,Eo X pins H b)(ho:∀b∈fp,∃o,s.heap.get? b=some o/\∀v,o.data≠.cell v):Inv X (pins++Ii fp s.heap) σ H s:=
 I.pins_of λp hp=>(AAK.mp hp).elim (λz=>I.pin p (AAa _ z)) λz=>by
  obtain⟨hb,e⟩:=O5 z;obtain⟨f0,f1,f2,_⟩:=hf p.1 hb;obtain⟨o,e',d⟩:=ho p.1 hb;rw[e] at e';cases e';exact⟨e,f0,f1,f2,d⟩
theorem Inv.unpinned{pins pl:List (Addr×Obj)}{σ:St}{H:Hp}{s:Shared}(I:Inv X (pins++pl) σ H s):Inv X pins σ H s:=I.pins_of λp hp=>I.pin p (AAa _ (AAb _ hp))
theorem WH{iter:Expr}{body:List Stmt}{wi:TI}{g:TG}{tb:TS}{pos:Pos}(hp:PassesOwn (model X.prog X.w) X.A X.env X.xe)(hc:X.calm=true)(hi:PI X tg iter wi)(hg:PG X tg g)(hb:PSs X body tb)
  (hs:∀x,foldedSetIterable iter X.env x=pure x:=by intro _;rfl):PS X (.For tg iter body [] pos) (YA wi g tb):=by
 intro pins s σ H D I h;refine wpAny_For (thn (hi pins s σ H _ I h) λv s1 h1=>thn h1 λitv s2 h2=>?_) hs;obtain⟨it,fp,tn,J,H2,e,I2,T,st2,f2,W,⟨m0,w0⟩,Eu⟩:=h2;subst e;have stat:∀{H':Hp},(∀b∈fp,H' b=none)->∀b∈fp,Eo X pins H' b:=λhn b hb=>⟨hn b hb,(f2 b hb).2⟩;refine codeAny_forLoop_any (λn s'=>∃i σ' H',Inv X pins σ' H' s'/\tn i s'.heap/\(∀b∈fp,H' b=none)/\W i n σ' H') ?_ m0 ⟨0,σ,H2,I2,st2,λb hb=>(f2 b hb).1,w0⟩;rintro n s3 ⟨i,σ3,H3,I3,st3,fr3,w3⟩;rcases Eu i n σ3 H3 w3 with ⟨stop,qn⟩|⟨go,N,hN,step⟩
 ·refine wpAny_passesOwn hp (thn (T.done X rfl rfl rfl hc i pins s3 σ3 H3 X.xe I3 (stat fr3) st3 stop) λr s4 ⟨hr,I4⟩=>?_);subst hr;exact wpAny_execs_nil ⟨σ3,H3,I4,qn⟩
 ·refine wpAny_passesOwn hp (thn (T.item X rfl rfl rfl hc i pins s3 σ3 H3 X.xe I3 (stat fr3) st3 go) λr s4 ⟨u,hr,h4⟩=>?_);subst hr;refine wpAny_passesOwn hp (thn h4 λ_ s5 ⟨x,H5,I5,r5,y5,st5,fr5⟩=>?_);have I5':=I5.pinned (stat fr5) (T.obj _ _ st5);refine wpAny_passesOwn hp (thn (hg _ s5 σ3 H5 x u _ I5' r5 (step x H5 y5)) λ_ s6 ⟨σ6,H6,I6,q6⟩=>?_);refine wpAny_passesOwn hp (thn (hb _ s6 σ6 H6 _ I6 q6) λf s7 q7=>?_);have again:∀{σ7:St} {H7:Hp},Inv X (pins++Ii fp s5.heap) σ7 H7 s7->N σ7 H7->∃m,m<n/\∃i σ' H',Inv X pins σ' H' s7/\tn i s7.heap/\(∀b∈fp,H' b=none)/\W i m σ' H':=λ{σ7 H7} I7 n7=>by
   obtain⟨m',hm,w7⟩:=hN σ7 H7 n7;refine⟨m',hm,i+1,σ7,H7,I7.unpinned,T.keep _ _ _ st5 λb hb o e=>(I7.pin (b,o) (AAa _ (AAa _ (BV hb e)))).1,λb hb=>?_,w7⟩;obtain⟨o,e,d⟩:=T.obj _ _ st5 b hb;exact(I7.pin (b,o) (AAa _ (AAa _ (BV hb e)))).2.1
  cases f with
  |next=>obtain⟨σ7,H7,I7,n7⟩:=q7;exact again I7 n7
  |cont=>obtain⟨σ7,H7,I7,n7⟩:=q7;exact again I7 n7
  |brk=>obtain⟨σ7,H7,I7,q7⟩:=q7;exact⟨σ7,H7,I7.unpinned,q7⟩
  |ret v=>obtain⟨x7,σ7,H7,I7,r7,q7⟩:=q7;exact⟨x7,σ7,H7,I7.unpinned,r7,q7⟩
end
noncomputable abbrev R2:=V->V->Hp->VK->Prop
def OpR(X:Cx)(f:Value->Value->Sem Value)(r:R2):Prop:=
 ∀(pins:List (Addr×Obj)) (s:Shared) (σ:St) (H:Hp) (x y:V) (v u:Value) (Q:VK),Inv X pins σ H s->RelV x v->RelV y u->r x y H Q->
  wpAny (model X.prog X.w) X.A (f v u) (EP X pins σ Q) X.xe s
def UnR(X:Cx)(f:Value->Sem Value)(r:V->Hp->VK->Prop):Prop:=
 ∀(pins:List (Addr×Obj)) (s:Shared) (σ:St) (H:Hp) (x:V) (v:Value) (Q:VK),Inv X pins σ H s->RelV x v->r x H Q->
  wpAny (model X.prog X.w) X.A (f v) (EP X pins σ Q) X.xe s
def Cy(X:Cx)(f:Value)(r:List V->Hp->VK->Prop):Prop:=
 ∀(pins:List (Addr×Obj)) (s:Shared) (σ:St) (H:Hp) (xs:List V) (us:List Value) (Q:VK),Inv X pins σ H s->Vals xs us->r xs H Q->
  wpAny (model X.prog X.w) X.A (call f us) (EP X pins σ Q) X.xe s
noncomputable def tOp(r:R2)(ta tb:TE):TE:=λσ H Q=>ta σ H λx H1=>tb σ H1 λy H2=>r x y H2 Q
noncomputable def tUn(r:V->Hp->VK->Prop)(ta:TE):TE:=λσ H Q=>ta σ H λx H1=>r x H1 Q
noncomputable def rI(C:Int->Int->Prop)(g:Int->Int->V):R2:=λx y H Q=>∃i j,x=.int i/\y=.int j/\C i j/\Q (g i j) H
noncomputable def rI0(g:Int->Int->V):R2:=λx y H Q=>∃i j,x=.int i/\y=.int j/\Q (g i j) H
noncomputable def rU(g:Int->V):V->Hp->VK->Prop:=λx H Q=>∃i,x=.int i/\Q (g i) H
section
variable{X:Cx}{a b:Expr}{ta tb:TE}{pos:Pos}
theorem Xg(ha:PE X a ta)(hb:PE X b tb){pins:List (Addr×Obj)}{s:Shared}{σ:St}{H:Hp}{R:V->V->Hp->Prop}(I:Inv X pins σ H s)
  (h:ta σ H λx H1=>tb σ H1 λy H2=>R x y H2) {Q:Value->Shared->Prop} {f:Value->Value->Sem Value}
  (hf:∀v u s2 x y H2,Inv X pins σ H2 s2->RelV x v->RelV y u->R x y H2->wpAny (model X.prog X.w) X.A (f v u) Q X.xe s2) :
  wpAny (model X.prog X.w) X.A (eval a X.env) (λv s₁=>wpAny (model X.prog X.w) X.A (eval b X.env) (λu s₂=>wpAny (model X.prog X.w) X.A (f v u) Q X.xe s₂) X.xe s₁) X.xe s:=by
 refine thn (ha pins s σ H _ I h) λv s1 ⟨x,H1,I1,r1,q1⟩=>?_;refine thn (hb pins s1 σ H1 _ I1 q1) λu s2 ⟨y,H2,I2,r2,q2⟩=>?_;exact hf v u s2 x y H2 I2 r1 r2 q2
theorem YZ{op:Operator}{r:R2}(ho:OpR X (binaryOp op) r)(ha:PE X a ta)(hb:PE X b tb):PE X (.BinOp a op b pos) (tOp r ta tb):=by
 intro pins s σ H Q I h;exact wpAny_BinOp (Xg ha hb I h λv u s2 x y H2 I2 rx ry q=>ho pins s2 σ H2 x y v u Q I2 rx ry q)
theorem YX{op:UnaryOp}{r:V->Hp->VK->Prop}(ho:UnR X (unaryOp op) r)(ha:PE X a ta):PE X (.UnaryOp op a pos) (tUn r ta):=by
 intro pins s σ H Q I h;exact UnaryOp_ (thn (ha pins s σ H _ I h) λv s1 ⟨x,H1,I1,r1,q1⟩=>ho pins s1 σ H1 x v Q I1 r1 q1)
theorem opI{f:Value->Value->Sem Value}{C:Int->Int->Prop}{g:Int->Int->Int}
  (rule:∀(i j:Int) (t u:Tok) (s:Shared) (Q:Value->Shared->Prop) (E:Value->Shared->Prop),C i j->Q (.int (g i j) s.toks) { s with toks:=s.toks+1 }->wpAny (model X.prog X.w) X.A (f (.int i t) (.int j u)) Q E s) :
  OpR X f (rI C λi j=>.int (g i j)):=by
 intro pins s σ H x y v u Q I rx ry h;obtain⟨i,j,rfl,rfl,hc,q⟩:=h;obtain⟨t,rfl⟩:=rx;obtain⟨t',rfl⟩:=ry;exact rule i j t t' s _ _ hc ⟨.int (g i j),H,I.tok _,⟨_,rfl⟩,q⟩
theorem Yk{f:Value->Value->Sem Value}{g:Int->Int->Int}
  (rule:∀(i j:Int) (t u:Tok) (s:Shared) (Q:Value->Shared->Prop) (E:Value->Shared->Prop),Q (.int (g i j) s.toks) { s with toks:=s.toks+1 }->wpAny (model X.prog X.w) X.A (f (.int i t) (.int j u)) Q E s) :
  OpR X f (rI0 λi j=>.int (g i j)):=by
 intro pins s σ H x y v u Q I rx ry h;obtain⟨i,j,rfl,rfl,q⟩:=h;obtain⟨t,rfl⟩:=rx;obtain⟨t',rfl⟩:=ry;exact rule i j t t' s _ _ ⟨.int (g i j),H,I.tok _,⟨_,rfl⟩,q⟩
theorem Wn{f:Value->Value->Sem Value}{g:Int->Int->Bool}
  (rule:∀(i j:Int) (t u:Tok) (s:Shared) (Q:Value->Shared->Prop) (E:Value->Shared->Prop),Q (.bool (g i j)) s->wpAny (model X.prog X.w) X.A (f (.int i t) (.int j u)) Q E s) :
  OpR X f (rI0 λi j=>.bl (g i j)):=by
 intro pins s σ H x y v u Q I rx ry h;obtain⟨i,j,rfl,rfl,q⟩:=h;obtain⟨t,rfl⟩:=rx;obtain⟨t',rfl⟩:=ry;exact rule i j t t' s _ _ ⟨.bl (g i j),H,I,rfl,q⟩
def Z1(i j:Int):Prop:=0<j/\j<1073741824
def Z0(i j:Int):Prop:=0<=j/\j<=1000000/\i.natAbs<2 ^ 64
def CMul(i j:Int):Prop:=(-(2 ^ 64)<i/\i<2 ^ 64)∨(-(2 ^ 64)<j/\j<2 ^ 64)
theorem CMul.ok{i j:Int}(h:CMul i j):IntMulOk i j:=by
 rcases h with ⟨h1,h2⟩|⟨h1,h2⟩
 ·exact .of_left (intBits_le_64 h1 h2)
 ·exact .of_right (intBits_le_64 h1 h2)
theorem Wm:OpR X (binaryOp .Add) (rI0 λi j=>.int (i+j)):=Yk λ_ _ _ _ _ _ _ q=>add_int q
theorem We:OpR X (binaryOp .Sub) (rI0 λi j=>.int (i-j)):=Yk λ_ _ _ _ _ _ _ q=>sub_int q
theorem Wi:OpR X (binaryOp .Mult) (rI CMul λi j=>.int (i * j)):=opI λ_ _ _ _ _ _ _ hc q=>mul_int q hc.ok
theorem UC:OpR X (binaryOp .FloorDiv) (rI Z1 λi j=>.int (i / j)):=opI λi j _ _ _ _ _ hc q=>by
 have h1:(0:Int)<j:=hc.1;have h2:j<1073741824:=hc.2;exact floordiv_int (by omega) (by rw[Int.fdiv_eq_ediv_of_nonneg i (by omega)];exact q) (.inl (PyProof.noPylong_small (by omega)))
theorem Wj:OpR X (binaryOp .Mod) (rI (λ_ j=>0<j) λi j=>.int (i % j)):=opI λi j _ _ _ _ _ hc q=>by
 have h1:(0:Int)<j:=hc;exact mod_int' (by omega) (by rw[Int.fmod_eq_emod_of_nonneg i (by omega)];exact q)
theorem Wg:OpR X (binaryOp .Pow) (rI Z0 λi j=>.int (i ^ j.toNat)):=opI λ_ _ _ _ _ _ _ hc q=>pow_int_small hc.1 hc.2.1 hc.2.2 q
theorem unI{f:Value->Sem Value}{g:Int->Int}
  (rule:∀(i:Int) (t:Tok) (s:Shared) (Q:Value->Shared->Prop) (E:Value->Shared->Prop),Q (.int (g i) s.toks) { s with toks:=s.toks+1 }->wpAny (model X.prog X.w) X.A (f (.int i t)) Q E s) :
  UnR X f (rU λi=>.int (g i)):=by
 intro pins s σ H x v Q I rx h;obtain⟨i,rfl,q⟩:=h;obtain⟨t,rfl⟩:=rx;exact rule i t s _ _ ⟨.int (g i),H,I.tok _,⟨_,rfl⟩,q⟩
theorem Ve:UnR X (unaryOp .USub) (rU λi=>.int (-i)):=unI λ_ _ _ _ _ q=>neg_int q
end
section
variable{X:Cx}{a b c:Expr}{ta tb tc:TE}{pos:Pos}
theorem K7{pins:List (Addr×Obj)}{σ:St}{H:Hp}{s:Shared}{Q:VK}{k k':Bool}(I:Inv X pins σ H s)(q:Q (.bl k) H)(e:k=k'):EP X pins σ Q (.bool k') s:=by
 subst e;exact⟨.bl k,H,I,rfl,q⟩
theorem Yh:OpR X (compareOp .Lt) (rI0 λi j=>.bl (decide (i<j))):=Wn λ_ _ _ _ _ _ _ q=>lt_int q
theorem Yi:OpR X (compareOp .LtE) (rI0 λi j=>.bl (decide (i<=j))):=Wn λ_ _ _ _ _ _ _ q=>le_int q
theorem Yj:OpR X (compareOp .Gt) (rI0 λi j=>.bl (decide (j<i))):=Wn λ_ _ _ _ _ _ _ q=>gt_int q
theorem O2:OpR X (compareOp .In) (λx y H Q=>∃i j,x=.str i/\y=.str j/\Q (.bl (!(Builtin.Str.occurrences j i 0 j.length 1).isEmpty)) H):=by
 intro pins s σ H x y v u Q I rx ry h;obtain⟨i,j,rfl,rfl,q⟩:=h;obtain⟨t,rfl⟩:=rx;obtain⟨t',rfl⟩:=ry;exact in_str (K7 I q rfl)
theorem Wk:OpR X (compareOp .Is) (λx y H Q=>y=.non/\Q (.bl (decide (x=.non))) H):=by
 intro pins s σ H x y v u Q I rx ry h;obtain⟨rfl,q⟩:=h;cases ry;refine is_none_gen (K7 I q ?_);cases x<;>first
  |(cases rx;rfl)
  |(obtain⟨t,rfl⟩:=rx;rfl)
theorem UB:OpR X (compareOp .IsNot) (λx y H Q=>y=.non/\Q (.bl (!decide (x=.non))) H):=by
 intro pins s σ H x y v u Q I rx ry h;obtain⟨rfl,q⟩:=h;cases ry;refine isnot_none_gen (K7 I q ?_);cases x<;>first
  |(cases rx;rfl)
  |(obtain⟨t,rfl⟩:=rx;rfl)
theorem Ki:OpR X (compareOp .NotIn) (λx y H Q=>∃i j,x=.str i/\y=.str j/\Q (.bl (!(!(Builtin.Str.occurrences j i 0 j.length 1).isEmpty))) H):=by
 intro pins s σ H x y v u Q I rx ry h;obtain⟨i,j,rfl,rfl,q⟩:=h;obtain⟨t,rfl⟩:=rx;obtain⟨t',rfl⟩:=ry;exact notIn_str (K7 I q rfl)
theorem Rh(b:Expr){op:CmpOp}(h:op≠.In:=by decide)(h2:op≠.NotIn:=by decide):behindInMarks op b=false:=by
 have e1:(op==CmpOp.In)=false:=by cases op<;>first|rfl|exact absurd rfl h
 have e2:(op==CmpOp.NotIn)=false:=by cases op<;>first|rfl|exact absurd rfl h2
 cases b<;>simp[behindInMarks,e1,e2]
theorem T5{op:CmpOp}{r:R2}(ho:OpR X (compareOp op) r)(ha:PE X a ta)(hb:PE X b tb)(hm:behindInMarks op b=false):PE X (.Compare a [op] [b] pos) (tOp r ta tb):=by
 intro pins s σ H Q I h;exact wpAny_Compare1 (Xg ha hb I h λv u s2 x y H2 I2 rx ry q=>ho pins s2 σ H2 x y v u Q I2 rx ry q) hm
noncomputable def X3(t:TE):TT:=λσ H Q=>t σ H λx H'=>∃k,x=.bl k/\Q k H'
theorem Tt{op:CmpOp}{r:R2}(ho:OpR X (compareOp op) r)(ha:PE X a ta)(hb:PE X b tb)(hm:behindInMarks op b=false):PT X (.Compare a [op] [b] pos) (X3 (tOp r ta tb)):=by
 intro pins s σ H Q I h;refine wpAny_isTrue_Compare1 (thn (ha pins s σ H _ I h) λv s1 ⟨x,H1,I1,r1,q1⟩=>thn (hb pins s1 σ H1 _ I1 q1) λu s2 ⟨y,H2,I2,r2,q2⟩=>
  thn (ho pins s2 σ H2 x y v u _ I2 r1 r2 q2) λc s3 ⟨z,H3,I3,r3,k,e,q3⟩=>?_) hm
 subst e;cases r3;exact wpAny_truthy_bool ⟨H3,I3,q3⟩
noncomputable def Qi(r r':R2)(ta tb tc:TE):TE:=λσ H Q=>ta σ H λx H1=>tb σ H1 λy H2=>r x y H2 λz H3=>∃k,z=.bl k /\
 (if k=true then tc σ H3 λw' H4=>r' y w' H4 Q else Q (.bl false) H3)
theorem RU{op op':CmpOp}{r r':R2}(ho:OpR X (compareOp op) r)(ho':OpR X (compareOp op') r')(ha:PE X a ta)(hb:PE X b tb)(hc:PE X c tc)
  (hm:lastMarks [op,op'] [b,c]=false:=by with_unfolding_all rfl):PE X (.Compare a [op,op'] [b,c] pos) (Qi r r' ta tb tc):=by
 intro pins s σ H Q I h;refine Compare_chain (thn (ha pins s σ H _ I h) λv s1 ⟨x,H1,I1,r1,q1⟩=>chain_link (thn (hb pins s1 σ H1 _ I1 q1) λu s2 ⟨y,H2,I2,r2,q2⟩=>
  thn (ho pins s2 σ H2 x y v u _ I2 r1 r2 q2) λd s3 ⟨z,H3,I3,r3,k,e,q3⟩=>?_)) hm
 subst e;cases r3;refine wpAny_truthy_bool ?_;cases k with
 |false=>exact ite_ff ⟨.bl false,H3,I3,rfl,q3⟩
 |true=>exact ite_tt (chain_last (thn (hc pins s3 σ H3 _ I3 q3) λw' s4 ⟨z',H4,I4,r4,q4⟩=>ho' pins s4 σ H4 y z' u w' Q I4 r2 r4 q4))
theorem Iq:(sizeLine:Nat)<2 ^ 63:=by rw[sizeLine_eq];decide
theorem M2:OpR X (binaryOp .Add) (λx y H Q=>∃i j,x=.str i/\y=.str j/\i.length+j.length<=sizeLine/\Q (.str (i++j)) H):=by
 intro pins s σ H x y v u Q I rx ry h;obtain⟨i,j,rfl,rfl,hz,q⟩:=h;obtain⟨t,rfl⟩:=rx;obtain⟨t',rfl⟩:=ry;exact add_str (λt' tk=>⟨.str (i++j),H,I.tok _,⟨_,rfl⟩,q⟩) hz
theorem IG{x:V}{us:List Value}(r:Vals [x] us):∃u,us=[u]/\RelV x u:=by
 cases r with
 |cons r1 r2=>cases r2;exact⟨_,rfl,r1⟩
theorem QV{x y:V}{us:List Value}(r:Vals [x,y] us):∃u w',us=[u,w']/\RelV x u/\RelV y w':=by
 cases r with
 |cons r1 r2=>
  cases r2 with
  |cons r3 r4=>cases r4;exact⟨_,_,rfl,r1,r3⟩
theorem Pr(hc:X.calm=true):Cy X (.builtin "max") (λxs H Q=>∃i j,xs=[.int i,.int j]/\Q (.int (if j > i then j else i)) H):=by
 intro pins s σ H xs us Q I r h;obtain⟨i,j,rfl,q⟩:=h;obtain⟨u,w',rfl,⟨t,rfl⟩,⟨t',rfl⟩⟩:=QV r;refine max_two_ints (I.ok.hd hc) λh' tk k=>⟨_,H,I.kept k,?_,q⟩;by_cases hj:j > i
 ·rw[if_pos hj,if_pos hj];exact⟨_,rfl⟩
 ·rw[if_neg hj,if_neg hj];exact⟨_,rfl⟩
theorem Pq(hc:X.calm=true):Cy X (.builtin "min") (λxs H Q=>∃i j,xs=[.int i,.int j]/\Q (.int (if j<i then j else i)) H):=by
 intro pins s σ H xs us Q I r h;obtain⟨i,j,rfl,q⟩:=h;obtain⟨u,w',rfl,⟨t,rfl⟩,⟨t',rfl⟩⟩:=QV r;refine min_two_ints (I.ok.hd hc) λh' tk k=>⟨_,H,I.kept k,?_,q⟩;by_cases hj:j<i
 ·rw[if_pos hj,if_pos hj];exact⟨_,rfl⟩
 ·rw[if_neg hj,if_neg hj];exact⟨_,rfl⟩
theorem Pv:Cy X (.type "int") (λxs H Q=>(∃i,xs=[.int i]/\Q (.int i) H)∨∃k,xs=[.bl k]/\Q (.int (if k then 1 else 0)) H):=by
 intro pins s σ H xs us Q I r h;rcases h with ⟨i,rfl,q⟩|⟨k,rfl,q⟩
 ·obtain⟨u,rfl,t,rfl⟩:=IG r;exact call_int_int ⟨.int i,H,I,⟨_,rfl⟩,q⟩
 ·obtain⟨u,rfl,r1⟩:=IG r;cases r1;exact call_int_bool ⟨.int (if k then 1 else 0),H,I.tok _,⟨_,rfl⟩,q⟩
def Zy(K:PySem.W.Frag)(x:V)(H:Hp)(n:Nat):Prop:=
 match x with
 | .str y=>y.length<=sizeLine/\n=y.length
 | .byt y=>y.size<=sizeLine/\n=y.size
 | .ref p=>(∃xs,SqL K H p xs/\n=xs.length)∨∃xs,SqT K H p xs/\n=xs.length
 |_=>False
theorem Sb:Cy X (.builtin "len") (λxs H Q=>∃x n,xs=[x]/\Zy X.K x H n/\Q (.int n) H):=by
 intro pins s σ H xs us Q I r h;obtain⟨x,n,rfl,e,q⟩:=h;obtain⟨u,rfl,rx⟩:=IG r;have hl:=Iq;have hs:sizeLine=16777216:=sizeLine_eq;cases x with
 |str y=>
  obtain⟨t,rfl⟩:=rx;obtain⟨hy,e'⟩:y.length<=sizeLine/\n=y.length:=e;subst e';exact len_str (by omega) ⟨.int _,H,I.tok _,⟨_,rfl⟩,q⟩
 |byt y=>
  obtain⟨t,rfl⟩:=rx;obtain⟨hy,e'⟩:y.size<=sizeLine/\n=y.size:=e;subst e';exact PySem.W.len_bytes (by omega) ⟨.int _,H,I.tok _,⟨_,rfl⟩,q⟩
 |ref p=>
  cases rx;have e':(∃xs,SqL X.K H p xs/\n=xs.length)∨∃xs,SqT X.K H p xs/\n=xs.length:=e;rcases e' with ⟨xs,hx,e'⟩|⟨xs,hx,e'⟩
  ·subst e';obtain⟨its,r',pl,hz⟩:=I.list hx;have hlen:=r'.length;exact Calls.call_len_list pl.isList (by simp only[List.size_toArray];omega) ⟨.int xs.length,H,I.tok _,⟨_,by simp only[List.size_toArray];rw[hlen]⟩,q⟩
  ·subst e';obtain⟨its,r',pl,hz⟩:=I.tuple hx;have hlen:=r'.length;exact len_tuple pl (by simp only[List.size_toArray];omega) ⟨.int xs.length,H,I.tok _,⟨_,by simp only[List.size_toArray];rw[hlen]⟩,q⟩
 |_=>exact(show False from e).elim
end
structure ObjM(h:Heap)(x dx C:Addr)(mA:Str->Option Value):Prop where
 obj:h.get? x=some (PySem.W.instObj C dx)
 ns:h.Ns1 dx mA
 ne:dx≠x
theorem PF{h:Heap}{dx:Addr}{mA:Str->Option Value}(n:h.Ns1 dx mA):∃od,h.get? dx=some od/\∀name,PySem.W.lookIn name od=some (mA name):=by
 obtain⟨o,es,ep,ho,hd,hk,_,hm⟩:=n;refine⟨o,ho,λname=>?_⟩;have e:=hm name;unfold nsFind findBy at e;rw[←Array.find?_toList] at e;unfold PySem.W.lookIn;rw[hd];dsimp only;split
 ·rename_i y q;rw[q] at e;exact congrArg some e
 ·rename_i q;rw[q] at e;have a:es.toList.any (·.refKey)=false:=by
   rw[List.any_eq_false];intro y hy;obtain⟨z,t,hkey⟩:=hk y (Array.mem_toList_iff.mp hy);simp[DictEntry.refKey,hkey]
  have a':¬es.toList.any (·.refKey)=true:=by rw[a];exact AAf
  rw[if_neg a'];exact congrArg some e
theorem ObjM.look{h:Heap}{x dx C:Addr}{mA:Str->Option Value}(I:ObjM h x dx C mA):∃od,PySem.W.InstAt h x (PySem.W.instObj C dx) C (some od)/\∀name,PySem.W.lookIn name od=some (mA name):=
 let ⟨od,ho,hl⟩:=PF I.ns
 ⟨od,⟨I.obj,rfl,rfl,ho⟩,hl⟩
theorem RelO.some_of{v:V}{o:Option Value}(r:RelO (some v) o):∃u,o=some u/\RelV v u:=by
 cases o with
 |none=>exact(show False from r).elim
 |some u=>exact⟨u,rfl,r⟩
section
variable{P:Program}{w:World}{H:Hp}{h:Heap}{a C dx:Addr}{fs:List (Str×V)}
theorem Ui(hok:HOk P w H h)(e:H a=some (.ins C dx fs)):∃mA,ObjM h a dx C mA/\(∀f,RelO (fs.lookup f) (mA f))/\PySem.Within mA (fs.map (·.1))/\fs.length<=1000/\H dx=some (.own a):=by
 obtain⟨d,z,ne,ob,mA,n,r,q⟩:=(show ObjOk P w H h a (.ins C dx fs) from hok a _ e);exact⟨mA,⟨ob,n,ne⟩,r,q,z,d⟩
end
structure Cls(K:PySem.W.Frag)(C:Addr):Prop where
 pg:PySem.W.plainGet K C Str.empty=true
 hd:PySem.W.hasDictIn K C=true
 po:PySem.W.plainOver K C=true
 sa:PySem.W.findIn K (.ref C) "__setattr__" = some (some (.builtin "object.__setattr__"))
theorem Cls.get{K:PySem.W.Frag}{C:Addr}(c:Cls K C)(f:Str):PySem.W.plainGet K C f=true:=c.pg
section
variable{X:Cx}{pins:List (Addr×Obj)}{σ:St}{H:Hp}{s:Shared}{A:Around}{E:Value->Shared->Prop}{Q:Value->Shared->Prop}{c:Value}{b:Bool}
inductive Gu (K:PySem.W.Frag) (H:Hp):V->Value->Prop where
 |non:Gu K H .non (.type "NoneType")
 |bl (x:Bool):Gu K H (.bl x) (.type "bool")
 |int (i:Int):Gu K H (.int i) (.type "int")
 |str (x:Str):Gu K H (.str x) (.type "str")
 |flt (x:UInt64):Gu K H (.flt x) (.type "float")
 |lst {a:Addr} {xs:List V} (e:H a=some (.lst xs)):Gu K H (.ref a) (.type "list")
 |frz {a:Addr} {o:Obj} {xs:List V} (e:H a=some (.frz o (.lst xs))):Gu K H (.ref a) (.type "list")
 |tup {a:Addr} {xs:List V} (e:H a=some (.tup xs)):Gu K H (.ref a) (.type "tuple")
 |dK {a:Addr} {kvs:List (Key×V)} (e:H a=some (.dK kvs)):Gu K H (.ref a) (.type "dict")
 |dT {a:Addr} {kvs:List (List Key×V)} (e:H a=some (.dT kvs)):Gu K H (.ref a) (.type "dict")
 |ins {a C dx:Addr} {fs:List (Str×V)} (e:H a=some (.ins C dx fs)) (cl:Cls K C) (ha:PySem.W.findIn K (.ref C) "__class__" = some (some (.builtin "object.__class__")))
   (hn:PySem.W.specialIn K (.builtin "object.__class__") "__get__" = some (some (.builtin "getset_descriptor.__get__"))) (htk:PySem.W.takesIn K (.builtin "object.__class__")=some true)
   (hm:PySem.W.mroIn K C (.type "object")=some true):Gu K H (.ref a) (.ref C)
theorem PU{x:V}{u t:Value}(I:Inv X pins σ H s)(rx:RelV x u)(ty:Gu X.K H x t)(e:PySem.W.kitOne X.K t c=some b)(h:∀tk,Q (.bool b) { s with toks:=tk }):
  wpAny (model X.prog X.w) A (call (.builtin "isinstance") [u,c]) Q E s:=by
 cases ty with
 |non=>cases (show u=Value.none from rx);exact PySem.W.kia_one PySem.W.kitx_none I.kIn True.intro e (λz=>nomatch z) h
 |bl y=>cases (show u=Value.bool y from rx);exact PySem.W.kia_one PySem.W.kitx_bool I.kIn True.intro e (λz=>nomatch z) h
 |int i=>obtain⟨t,q⟩:=(show ∃t,u=Value.int i t from rx);cases q;exact PySem.W.kia_one PySem.W.kitx_int I.kIn True.intro e (λz=>nomatch z) h
 |str y=>obtain⟨t,q⟩:=(show ∃t,u=Value.str y t from rx);cases q;exact PySem.W.kia_one PySem.W.kitx_str I.kIn True.intro e (λz=>nomatch z) h
 |flt y=>obtain⟨t,q⟩:=(show ∃t,u=Value.float y t from rx);cases q;exact PySem.W.kia_one PySem.W.kitx_float I.kIn True.intro e (λz=>nomatch z) h
 |@lst a xs ea=>
  cases (show u=Value.ref a from rx);obtain⟨_,_,n,_,h1⟩:=(show ObjOk X.prog X.w H s.heap a (.lst xs) from I.hok a _ ea);exact PySem.W.kia_one PySem.W.kitx_list I.kIn ⟨_,h1,rfl⟩ e (λz=>nomatch z) h
 |@frz a ob xs ea=>
  cases (show u=Value.ref a from rx);obtain⟨_,_,_,n,_,h1⟩:=(show ObjOk X.prog X.w H s.heap a (.frz ob (.lst xs)) from I.hok a _ ea);exact PySem.W.kia_one PySem.W.kitx_list I.kIn ⟨_,h1,rfl⟩ e (λz=>nomatch z) h
 |@tup a xs ea=>
  cases (show u=Value.ref a from rx);obtain⟨_,_,_,p⟩:=(show ObjOk X.prog X.w H s.heap a (.tup xs) from I.hok a _ ea);obtain⟨o,h1,h2,_⟩:=p;exact PySem.W.kia_one PySem.W.kitx_tuple I.kIn ⟨o,h1,h2⟩ e (λz=>nomatch z) h
 |@dK a kvs ea=>
  cases (show u=Value.ref a from rx);obtain⟨_,_,vs,_,p⟩:=(show ObjOk X.prog X.w H s.heap a (.dK kvs) from I.hok a _ ea);obtain⟨o,es,ep,h1,h2,_⟩:=p;exact PySem.W.kia_one PySem.W.kitx_dict I.kIn ⟨o,h1,h2.1⟩ e (λz=>nomatch z) h
 |@dT a kvs ea=>
  cases (show u=Value.ref a from rx);obtain⟨_,_,xs,_,o,es,ep,h1,h2,_⟩:=(show ObjOk X.prog X.w H s.heap a (.dT kvs) from I.hok a _ ea);exact PySem.W.kia_one PySem.W.kitx_dict I.kIn ⟨o,h1,h2.1⟩ e (λz=>nomatch z) h
 |@ins a C dx fs ea cl ha hn htk hm=>
  cases (show u=Value.ref a from rx);obtain⟨mA,O,_⟩:=Ui I.hok ea;obtain⟨od,J,_⟩:=O.look;exact PySem.W.kia_one (PySem.W.kitx_own (cl.get _) cl.hd ha hn htk hm) I.kIn J e (λz=>nomatch z) h
end
structure Room(k:Nat)(A:Around):Prop where
 hd:A.handled=none
 dp:A.depth+3 * k+5<recursionLimit
 un:A.units+16 * k+200<cLine
theorem Room.mono{j k:Nat}{A:Around}(r:Room k A)(h:j<=k):Room j A:=⟨r.hd,by have:=r.dp;omega,by have:=r.un;omega⟩
theorem Room.deeper{k:Nat}{A:Around}(r:Room (k+1) A)(env:Env):Room k (A.deeper env):=
 ⟨r.hd,by have:=r.dp;show A.depth+1+3 * k+5<_;omega,by have:=r.un;show A.units+3+16 * k+200<_;omega⟩
theorem Room.depth{k:Nat}{A:Around}(r:Room k A):A.depth<recursionLimit:=by have:=r.dp;omega
theorem Room.units{k:Nat}{A:Around}(r:Room k A):A.units+64<cLine:=by have:=r.un;omega
noncomputable def X6:TA:=λ_ H Q=>Q [] H
noncomputable def YE(ta:TE)(tr:TA):TA:=λσ H Q=>ta σ H λx H1=>tr σ H1 λxs H2=>Q (x::xs) H2
section
variable{X:Cx}{e:Expr}{es:List Expr}{te:TE}{t:TA}{pos:Pos}
theorem GE:PA X [] X6:=λ_ _ _ _ H Q I h=>Calls.spliced_nil ⟨[],H,I,.nil,h⟩
theorem DP(ha:PE X e te)(hr:PA X es t)(hs:starEach (e::es) X.env=(false,eval e X.env)::starEach es X.env:=by rfl):PA X (e::es) (YE te t):=by
 intro pos pins s σ H Q I h;rw[hs];show wpAny _ _ (spliced ((false,eval e X.env)::backTo pos (starEach es X.env))) _ _ s;refine Calls.spliced_cons (thn (ha pins s σ H _ I h) λu s1 ⟨x,H1,I1,r1,q1⟩=>?_);exact thn (hr pos pins s1 σ H1 _ I1 q1) λus s2 ⟨xs,H2,I2,r2,q2⟩=>⟨x::xs,H2,I2,.cons r1 r2,q2⟩
noncomputable def ZW(t:TA):TE:=λσ H Q=>t σ H λxs H1=>xs.length<=sizeLine/\∀p,H1 p=none->Q (.ref p) (upd H1 p (.tup xs))
noncomputable def Zb(t:TA):TE:=λσ H Q=>t σ H λxs H1=>xs.length<=sizeLine/\∀p,H1 p=none->Q (.ref p) (upd H1 p (.lst xs))
theorem RH{x1}(h:PA X es t):PE X (.Tuple es x1 pos) (ZW t):=by
 intro pins s σ H Q I hq;refine wpAny_Tuple_spliced (thn (h pos pins s σ H _ I hq) λus s1 ⟨xs,H1,I1,r,z,q⟩=>⟨by rw[←r.length];exact z,?_⟩);have hf:H1 s1.heap.objs.size=none:=I1.hok.fresh (AAF _);refine⟨.ref s1.heap.objs.size,upd H1 s1.heap.objs.size (.tup xs),I1.laid (t':=s1.toks) (λb u e=>AAC _ e) (AAF _) ?_,rfl,q _ hf⟩;exact⟨z,us,r,⟨_,AAD _ rfl,rfl,_,rfl⟩⟩
theorem RK(h:PA X es t):PE X (.List es pos) (Zb t):=by
 intro pins s σ H Q I hq;refine wpAny_List_spliced (thn (h pos pins s σ H _ I hq) λus s1 ⟨xs,H1,I1,r,z,q⟩=>⟨by rw[←r.length];exact z,?_⟩);have hf:H1 s1.heap.objs.size=none:=I1.hok.fresh (AAF _);refine⟨.ref s1.heap.objs.size,upd H1 s1.heap.objs.size (.lst xs),I1.laid (t':=s1.toks) (λb u e=>AAC _ e) (AAF _) ?_,rfl,q _ hf⟩;exact⟨z,us,0,r,AAD _ rfl⟩
end
noncomputable abbrev Sp:=List V->Hp->VK->XK->Prop
noncomputable abbrev CXT:=List Env->Hp->Shared->XK->Value->Shared->Prop
structure U4(P:Program)(w:World)(K:PySem.W.Frag)(mg:Str->Option Value)(base:Heap)(A:Around)(outer:List Env)(s:Shared)(H:Hp):Prop where
 frames:A.frames=some outer
 mod:Mod K mg base
 bs:∀b o,base.get? b=some o->s.heap.get? b=some o/\H b=none
 bsz:base.objs.size<=s.heap.objs.size
 funs:s.heap.FunFrames base outer
 frf:∀b∈frs outer,H b=none
 hok:HOk P w H s.heap
 bare:AllBare s.gens
def CE(outer:List Env)(P:Program)(w:World)(H:Hp)(s:Shared)(Q:VK)(u:Value)(s':Shared):Prop:=
 ∃v H',s'.os=s.os/\AllBare s'.gens/\Un (frs outer) [] H H' s.heap s'.heap/\HOk P w H' s'.heap/\RelV v u/\Q v H'
def CR(CX:CXT)(outer:List Env)(P:Program)(w:World)(H:Hp)(s:Shared)(Q:VK)(E:XK)(r:Result)(s':Shared):Prop:=
 match r with
 | .ok (.ret u)=>CE outer P w H s Q u s'
 | .ok _=>False
 | .error e=>CX outer H s E e s'
structure FnOk(P:Program)(w:World)(K:PySem.W.Frag)(mg:Str->Option Value)(base:Heap)(CX:CXT)(k:Nat)(f:Addr)(fd:FuncData)(ps:List Str)(sp:Sp):Prop where
 len:∀vs H Q E,sp vs H Q E->vs.length=ps.length
 run:∀(A:Around) (outer:List Env) (s:Shared) (H:Hp) (args:Args) (us:List Value) (vs:List V) (Q:VK) (E:XK),Room k A->U4 P w K mg base A outer s H->BindsTo s fd args (ps.zip us)->Vals vs us->sp vs H Q E->
  codeAny (model P w) A (.call (.ref f) args) (CR CX outer P w H s Q E) s
theorem FnOk.mono{P:Program}{w:World}{K:PySem.W.Frag}{mg:Str->Option Value}{base:Heap}{CX:CXT}{j k:Nat}{f:Addr}{fd:FuncData}{ps:List Str}{sp:Sp}(F:FnOk P w K mg base CX j f fd ps sp)(h:j<=k):
  FnOk P w K mg base CX k f fd ps sp:=⟨F.len,λA outer s H args us vs Q E hr=>F.run A outer s H args us vs Q E (hr.mono h)⟩
theorem FnOk.imp{P:Program}{w:World}{K:PySem.W.Frag}{mg:Str->Option Value}{base:Heap}{CX:CXT}{k:Nat}{f:Addr}{fd:FuncData}{ps:List Str}{sp sp':Sp}(F:FnOk P w K mg base CX k f fd ps sp)
  (h:∀vs H Q E,sp' vs H Q E->sp vs H Q E):FnOk P w K mg base CX k f fd ps sp':=
 ⟨λvs H Q E q=>F.len vs H Q E (h _ _ _ _ q),λA outer s H args us vs Q E hr he hb hv hs=>F.run A outer s H args us vs Q E hr he hb hv (h _ _ _ _ hs)⟩
section
variable{X:Cx}{pins:List (Addr×Obj)}{σ:St}{H:Hp}{s s':Shared}
theorem Inv.env0(I:Inv X pins σ H s):U4 X.prog X.w X.K X.mg X.base X.A X.stack s H:=
 ⟨I.ok.frames,I.ok.mod,I.bs,AAq I.ok.bsz I.sz,I.stack,I.stkFree,I.hok,I.bare⟩
theorem Inv.after{Q:VK}{u:Value}(I:Inv X pins σ H s)(h:CE X.stack X.prog X.w H s Q u s'):EP X pins σ Q u s':=by
 obtain⟨v,H',os,bare,un,hok,r,q⟩:=h;obtain⟨hh,g,d,t,os'⟩:=s';obtain rfl:os'=s.os:=os;exact⟨v,H',I.call (h':=hh) (g':=g) (d':=d) (t':=t) (ch:=[]) un hok bare (λb z=>absurd z (by simp)),r,q⟩
end
noncomputable def U8(sp:Sp)(dvs:List V)(E:XK)(t:TA):TE:=λσ H Q=>t σ H λvs H1=>sp (vs++dvs) H1 Q E
def Binds(K:PySem.W.Frag)(fd:FuncData)(ps:List Str)(ds:List Value):Prop:=
 ∀(s:Shared) (us:List Value),K.In s.heap->(us++ds).length=ps.length->BindsTo s fd ⟨us,[]⟩ (ps.zip (us++ds))
theorem Binds.all{K:PySem.W.Frag}{fd:FuncData}{ps:List Str}(h:∀us:List Value,us.length=ps.length->bindArgs fd ⟨us,[]⟩=pure (ps.zip us)):Binds K fd ps []:=λs us _ hl=>by
 rw[AAZ] at hl ⊢;exact .of_eq (h us hl)
def LK(CX:CXT)(X:Cx)(E:XK):Prop:=∀(pins:List (Addr×Obj)) (σ:St) (H:Hp) (s:Shared) (e:Value) (s':Shared),Inv X pins σ H s->CX X.stack H s E e s'->X.xe e s'
section
variable{X:Cx}{CX:CXT}{k:Nat}{f:Addr}{fd:FuncData}{ps:List Str}{sp:Sp}{dvs:List V}{ds:List Value}{E:XK}{x:Str}{p pos:Pos}{e:Expr}{es:List Expr}{t:TA}
theorem Qo{pins:List (Addr×Obj)}{σ:St}{H:Hp}{s:Shared}{Q:VK}{us:List Value}{vs:List V}(F:FnOk X.prog X.w X.K X.mg X.base CX k f fd ps sp)(hr:Room k X.A)(hb:Binds X.K fd ps ds)(hd:Vals dvs ds)(hx:LK CX X E)
  (I:Inv X pins σ H s) (r:Vals vs us) (h:sp (vs++dvs) H Q E):wpAny (model X.prog X.w) X.A (call (.ref f) us) (EP X pins σ Q) X.xe s:=by
 have r2:Vals (vs++dvs) (us++ds):=r.append hd;have hl:(us++ds).length=ps.length:=by rw[←r2.length];exact F.len _ _ _ _ h
 refine wpAny_call (codeAny_mono (F.run X.A X.stack s H ⟨us,[]⟩ (us++ds) (vs++dvs) Q E hr I.env0 (hb s us I.kIn hl) r2 h) λr s' hq=>?_);cases r with
 |error e=>exact hx pins σ H s e s' I hq
 |ok fl=>
  cases fl with
  |ret u=>exact I.after hq
  |next=>exact False.elim hq
  |brk=>exact False.elim hq
  |cont=>exact False.elim hq
theorem N2(F:FnOk X.prog X.w X.K X.mg X.base CX k f fd ps sp)(hr:Room k X.A)(hg:Gl X x)(hm:X.mg x=some (.ref f))(hk:PySem.W.keepIn X.K (.ref f)=true)(hb:Binds X.K fd ps ds)(hd:Vals dvs ds)(hx:LK CX X E)
  (ha:PA X (e::es) t) (hdb:(x==("__debug__" : Str))=false:=by decide) (he:starEach (e::es) X.env=(false,eval e X.env)::starEach es X.env:=by rfl) (hpl:(backTo pos (starEach es X.env)).any (·.1)=false:=by rfl) :
  PE X (.Call (.Name x p) (e::es) [] pos) (U8 sp dvs E t):=by
 intro pins s σ H Q I h;refine wpAny_Call_Name_kw (Fo I hg hm ?_ hdb);refine PySem.W.callWith_K (h₀:=X.base) I.ok.mod.kin hk (thn (ha pos pins s σ H _ I h) λus s1 ⟨vs,H1,I1,r,q⟩=>⟨I1.kIn,?_⟩) he hpl;exact Qo F hr hb hd hx I1 r q
theorem RV(F:FnOk X.prog X.w X.K X.mg X.base CX k f fd ps sp)(hr:Room k X.A)(hg:Gl X x)(hm:X.mg x=some (.ref f))(hk:PySem.W.keepIn X.K (.ref f)=true)(hb:Binds X.K fd ps ds)(hd:Vals dvs ds)(hx:LK CX X E)
  (hdb:(x==("__debug__" : Str))=false:=by decide):PE X (.Call (.Name x p) [] [] pos) (U8 sp dvs E X6):=by
 intro pins s σ H Q I h;refine wpAny_Call_Name_kw (Fo I hg hm ?_ hdb);exact PySem.W.callWith_K0 I.kIn hk (Qo (us:=[]) F hr hb hd hx I .nil h)
end
structure Aj(N P:List Str)(sc:Scope):Prop where
 kind:sc.kind=.function
 co:sc.isCoroutine=false
 gen:sc.isGenerator=false
 nd:N.Nodup
 pre:N.take P.length=P
 par:∀x∈P,sc.names.lookup x=some .local∨sc.names.lookup x=some .cell
 nofree:∀y∈sc.names,y.2≠.free
theorem J6{kindOf:Str->Option NameKind}{x:Str}:∀{binds:List (Str×Value)} {m:Str->Option Value},(∀v,(x,v)∉binds)->bindL kindOf binds m x=m x
 |[],_,_=>rfl
 |(n,v)::r,m,h=>by
  unfold bindL;rw[J6 λw hw=>h w (AAR _ hw)];split
  ·have:x≠n:=by rintro rfl;exact h v AAQ
   simp[this]
  ·rfl
theorem J8{kindOf:Str->Option NameKind}{x:Str}:∀{binds:List (Str×Value)} {m:Str->Option Value},(∀v,(x,v)∉binds)->bindC kindOf binds m x=m x
 |[],_,_=>rfl
 |(n,v)::r,m,h=>by
  unfold bindC;rw[J8 λw hw=>h w (AAR _ hw)];split
  ·rfl
  ·have:x≠n:=by rintro rfl;exact h v AAQ
   simp[this]
theorem J7{kindOf:Str->Option NameKind}{x:Str}{v:Value}:∀{P:List Str} {vs:List Value} {i:Nat} {m:Str->Option Value},P.Nodup->P[i]?=some x->vs[i]?=some v->kindOf x=some .local->
  bindL kindOf (P.zip vs) m x=some v
 |[],_,_,_,_,h,_,_=>by simp at h
 |_::_,[],_,_,_,_,h,_=>by simp at h
 |p::P,w::vs,0,m,nd,h1,h2,hk=>by
  simp at h1 h2;subst h1;subst h2;show bindL kindOf ((p,w)::P.zip vs) m p=_;unfold bindL;rw[J6 λv hv=>(List.nodup_cons.mp nd).1 (List.of_mem_zip hv).1,if_pos hk];simp
 |p::P,w::vs,i+1,m,nd,h1,h2,hk=>by
  show bindL kindOf ((p,w)::P.zip vs) m x=_;unfold bindL;exact J7 (i:=i) (List.nodup_cons.mp nd).2 (by simpa using h1) (by simpa using h2) hk
theorem J9{kindOf:Str->Option NameKind}{x:Str}{v:Value}:∀{P:List Str} {vs:List Value} {i:Nat} {m:Str->Option Value},P.Nodup->P[i]?=some x->vs[i]?=some v->kindOf x≠some .local->
  bindC kindOf (P.zip vs) m x=some v
 |[],_,_,_,_,h,_,_=>by simp at h
 |_::_,[],_,_,_,_,h,_=>by simp at h
 |p::P,w::vs,0,m,nd,h1,h2,hk=>by
  simp at h1 h2;subst h1;subst h2;show bindC kindOf ((p,w)::P.zip vs) m p=_;unfold bindC;rw[J8 λv hv=>(List.nodup_cons.mp nd).1 (List.of_mem_zip hv).1,if_neg hk];simp
 |p::P,w::vs,i+1,m,nd,h1,h2,hk=>by
  show bindC kindOf ((p,w)::P.zip vs) m x=_;unfold bindC;exact J9 (i:=i) (List.nodup_cons.mp nd).2 (by simpa using h1) (by simpa using h2) hk
noncomputable def start(N:List Str)(vs:List V):St:=vs.map some++List.replicate (N.length-vs.length) none
noncomputable def BY(CX:CXT)(P:Program)(w:World)(K:PySem.W.Frag)(mg:Str->Option Value)(base:Heap)(N:List Str)(qual:Str)(scope:Scope)(f:Addr)(cd:Value)(A:Around)(outer:List Env)(s:Shared)(H:Hp)(E:XK):Cx where
 prog:=P
 w:=w
 K:=K
 mg:=mg
 base:=base
 A:=A.deeper (envOfC qual scope s.heap.objs.size f cd)
 N:=N
 s₀:=s
 H₀:=H
 env:=envOfC qual scope s.heap.objs.size f cd
 outer:=outer
 stack:=envOfC qual scope s.heap.objs.size f cd::outer
 ex:=[]
 calm:=true
 fn:=λ_=>true
 pn:=[]
 xe:=λe s'=>wpAny (model P w) (A.deeper (envOfC qual scope s.heap.objs.size f cd)) (leaving (envOfC qual scope s.heap.objs.size f cd) e) (λ_ s''=>CX outer H s E e s'') (λe' s''=>CX outer H s E e' s'') s'
theorem MQ{sc:Scope}{n:Nat}{x:Str}(h:sc.names.lookup x=some .cell):∃c,(cellsFrom n sc.names []).lookup x=some c:=by
 have q:=PySem.W.cellsFrom_some sc.names n [] (.inl h);exact Option.isSome_iff_exists.mp q
theorem PV{CX:CXT}{P:Program}{w:World}{K:PySem.W.Frag}{mg:Str->Option Value}{base:Heap}{N ps:List Str}{qual:Str}{scope:Scope}{f:Addr}{cd:Value}{A:Around}{outer:List Env}{s s1:Shared}{H:Hp}{E:XK}{us:List Value}{vs:List V}
  (S:Aj N ps scope) (hd:A.handled=none) (e0:U4 P w K mg base A outer s H) (hl:vs.length=ps.length) (r:Vals vs us)
  (x:InCallC s s.heap.objs.size (bindL (envOfC qual scope s.heap.objs.size f cd).kindOf (ps.zip us) λ_=>none) (cellsFrom (s.heap.objs.size+1) scope.names []) (bindC (envOfC qual scope s.heap.objs.size f cd).kindOf (ps.zip us) λ_=>none) s1) :
  Inv (BY CX P w K mg base N qual scope f cd A outer s H E) [] (start N vs) H s1:=by
 have hpl:ps.length<=N.length:=by have:=congrArg List.length S.pre;rw[List.length_take] at this;omega
 obtain⟨h1,tk,rfl,hk⟩:=x.done;have noA:∀b:Addr,b∉(BY CX P w K mg base N qual scope f cd A outer s H E).ex:=λb z=>absurd (show b∈([]:List Addr) from z) (by simp);refine⟨⟨e0.mod,S.kind,rfl,rfl,AAF _,λy z c h1 h2=>?_,λy hy=>?_,λy c _ h=>?_,λ_=>hd,Around.frames_deeper e0.frames,.inr ⟨rfl,rfl⟩,λb z=>absurd z (noA b),e0.bs,e0.bsz,λb _ _=>noA b,λb z=>absurd z (noA b),e0.funs,e0.frf⟩,
  rfl,e0.bare,Un.kept hk,⟨_,x.toInCall.ns,λi y v h1 h2 h3=>?_⟩,λy c h=>⟨_,x.cell y c h⟩,e0.hok.fresh (AAF _),λy c h=>?_,λp hp=>absurd (show p∈([]:List (Addr×Obj)) from hp) (by simp),e0.hok.kept hk,?_⟩
 ·exact name_of_addr x.apart (PySem.mem_of_lookup h1) (PySem.mem_of_lookup h2)
 ·have hy:scope.names.lookup y=some .cell∨scope.names.lookup y=some .free:=hy;rcases hy with hy|hy
  ·exact MQ hy
  ·exact absurd rfl (S.nofree _ (PySem.mem_of_lookup hy))
 ·exact Nat.le_of_lt (x.above y c (PySem.mem_of_lookup h))
 ·have hi:i<vs.length:=by
   unfold start at h2;by_cases hi:i<vs.length
   ·exact hi
   ·rw[AAS (by simpa using hi)] at h2;rw[List.getElem?_replicate] at h2;split at h2<;>cases h2
  have ha:vs[i]?=some v:=by
   unfold start at h2;rw[AAT (by simpa using hi),AAW] at h2;cases e:vs[i]? with
   |none=>rw[e] at h2;cases h2
   |some a=>rw[e] at h2;cases h2;rfl
  obtain⟨u,hu,rv⟩:=r.get ha;have hp:ps[i]?=some y:=by
   rw[←S.pre,List.getElem?_take_of_lt (by omega)];exact h1
  have ndP:ps.Nodup:=by rw[←S.pre];exact S.nd.sublist (List.take_sublist _ _)
  refine⟨u,rv,?_⟩;rcases S.par y (AAV hp) with k|k
  ·exact .inl ⟨k,J7 ndP hp hu k⟩
  ·obtain⟨c,e⟩:=MQ (n:=s.heap.objs.size+1) k;refine .inr ⟨.inl k,c,e,?_⟩;have q:=x.cell y c e;rw[J9 ndP hp hu (by show scope.names.lookup y≠_;rw[k];decide)] at q;exact q
 ·exact e0.hok.fresh (Nat.le_of_lt (x.above y c (PySem.mem_of_lookup h)))
 ·unfold start;show _=N.length;rw[AAH,AAG,AAk];omega
theorem VN{CX:CXT}{P:Program}{w:World}{K:PySem.W.Frag}{mg:Str->Option Value}{base:Heap}{k:Nat}{f:Addr}{name qual:Str}{params:Arguments}{body:List Stmt}{scope:Scope}{dV kV doc pm cdv ct oc:Value}{an od:Option Addr}
  {osl:Array (Option Value)} {N ps:List Str} {sp:Sp} (lk:K.lookup f=some ⟨oc,od,.func (PySem.W.fnOf name qual params body scope dV kV doc pm an cdv ct),osl⟩) (hcd:PySem.W.codeIn K cdv qual=true) (S:Aj N ps scope)
  (len:∀vs H Q E,sp vs H Q E->vs.length=ps.length)
  (hbody:∀(A:Around) (outer:List Env) (s:Shared) (H:Hp) (vs:List V) (Q:VK) (E:XK),Room k (A.deeper (envOfC qual scope s.heap.objs.size f cdv))->sp vs H Q E->
   ∃t,PSs (BY CX P w K mg base N qual scope f cdv A outer s H E) body t/\t { nx:=λ_ H'=>Q .non H',rt:=Q } (start N vs) H) :
  FnOk P w K mg base CX (k+1) f (PySem.W.fnOf name qual params body scope dV kV doc pm an cdv ct) ps sp:=by
 refine⟨len,λA outer s H args us vs Q E hr e0 hb r hsp=>?_⟩;have hl:=len _ _ _ _ hsp;have KX:K.In s.heap:=e0.mod.kin.keeps λb o e=>(e0.bs b o e).1;have lim:s.heap.NoLimit:=e0.mod.nolimit.keeps λb o e=>(e0.bs b o e).1;have hkind:∀y∈ps.zip us,scope.names.lookup y.1=some .local∨(scope.names.lookup y.1=some .cell/\((cellsFrom (s.heap.objs.size+1) scope.names []).lookup y.1).isSome=true):=λ⟨n,v⟩ hy=>by
  rcases S.par n (List.of_mem_zip hy).1 with q|q
  ·exact .inl q
  ·exact .inr ⟨q,PySem.W.cellsFrom_some _ _ _ (.inl q)⟩
 refine codeAny_call_function hr.depth (KX _ _ lk) rfl S.co S.gen rfl (PySem.W.codeRec_of KX hcd) (hb _ _ _ _ ?_);refine wpAny_newFunctionEnv_cells S.kind hkind λenv he s1 x=>?_;subst he;refine⟨lim.keeps x.toInCall.keep,codeAny_func ?_⟩;obtain⟨t,ht,hq⟩:=hbody A outer s H vs Q E (hr.deeper _) hsp;have I:Inv (BY CX P w K mg base N qual scope f cdv A outer s H E) [] (start N vs) H s1:=PV S hr.hd e0 hl r x;refine AAh (ht [] s1 (start N vs) H _ I hq) (λfl s' hs=>?_) λe s' hs=>hs;have fin:∀{σ':St} {H':Hp} {v:V} {u:Value},Inv (BY CX P w K mg base N qual scope f cdv A outer s H E) [] σ' H' s'->RelV v u->Q v H'->CE outer P w H s Q u s':=
  λ{σ' H' v u} J rv q=>⟨v,H',J.os,J.bare,J.base,J.hok,rv,q⟩
 cases fl with
 |ret u=>
  obtain⟨v,σ',H',J,rv,q⟩:=hs;exact fin J rv q
 |next=>
  obtain⟨σ',H',J,q⟩:=hs;exact fin (v:=V.non) (u:=Value.none) J rfl q
 |brk=>
  obtain⟨_,_,_,q⟩:=hs;exact False.elim q
 |cont=>
  obtain⟨_,_,_,q⟩:=hs;exact False.elim q
section
variable{X:Cx}{x:Str}{p pos:Pos}{e:Expr}{es:List Expr}{t:TA}{id T:String}{r:List V->Hp->VK->Prop}
noncomputable def tCB(r:List V->Hp->VK->Prop)(t:TA):TE:=λσ H Q=>t σ H λvs H1=>r vs H1 Q
theorem FU(hc:Cy X (.builtin id) r)(hg:Gl X x)(hm:X.mg x=none)(hv:bootBuiltins x=some (.builtin id))(ha:PA X (e::es) t)(hn:x ≠ "__name__" := by decide)(hdb:(x==("__debug__" : Str))=false:=by decide)
  (he:starEach (e::es) X.env=(false,eval e X.env)::starEach es X.env:=by rfl) (hpl:(backTo pos (starEach es X.env)).any (·.1)=false:=by rfl):PE X (.Call (.Name x p) (e::es) [] pos) (tCB r t):=by
 intro pins s σ H Q I h;refine wpAny_Call_Name_kw (GH I hg hm hv ?_ hn hdb);exact PyProof.Rows.callWith_builtin1 (thn (ha pos pins s σ H _ I h) λus s1 ⟨vs,H1,I1,r1,q1⟩=>hc pins s1 σ H1 vs us Q I1 r1 q1) he hpl
theorem Jm(hc:Cy X (.type T) r)(hg:Gl X x)(hm:X.mg x=none)(hv:bootBuiltins x=some (.type T))(ha:PA X (e::es) t)(hn:x ≠ "__name__" := by decide)(hdb:(x==("__debug__" : Str))=false:=by decide)
  (he:starEach (e::es) X.env=(false,eval e X.env)::starEach es X.env:=by rfl) (hpl:(backTo pos (starEach es X.env)).any (·.1)=false:=by rfl):PE X (.Call (.Name x p) (e::es) [] pos) (tCB r t):=by
 intro pins s σ H Q I h;refine wpAny_Call_Name_kw (GH I hg hm hv ?_ hn hdb);exact PyProof.Rows.callWith_type1 (thn (ha pos pins s σ H _ I h) λus s1 ⟨vs,H1,I1,r1,q1⟩=>hc pins s1 σ H1 vs us Q I1 r1 q1) he hpl
end
end L2
namespace HT
open PySem PyProof.Rows
section
open PySem.SeqAt
open PySem.AutoSeq1 (wpAny_loadPart')
open PySem.MeetsSeq PySem.MeetsSeq2 PySem.MeetsSeq3
end
section
variable{prog:Program}{w:World}{A:Around}{E:Value->Shared->Prop}{s:Shared}
theorem Uw{t b:Addr}{vs ws:List Value}{Q:Value->Shared->Prop}(ht:IsTup s.heap t vs.toArray)(hb:IsTup s.heap b ws.toArray)(hv:vs≠[])
  (h1:ws=[]->Q (.ref t) s) (h2:ws≠[]->Q (.ref s.heap.objs.size) { s with heap:=s.heap.push { cls:=.type "tuple",data:=.seq (vs++ws).toArray } })
  (hsz:vs.length+ws.length<=sizeLine):wpAny (model prog w) A (binaryOp .Add (.ref t) (.ref b)) Q E s:=by
 obtain⟨⟨cls,dd,data,sl⟩,ho,hc,n,hd⟩:=id ht;obtain⟨⟨cls2,dd2,data2,sl2⟩,ho2,hc2,n2,hd2⟩:=id hb;simp only at hc hd hc2 hd2;subst hc hd hc2 hd2;have e:vs.toArray++ws.toArray=(vs++ws).toArray:=by simp
 by_cases hw:ws=[]
 ·exact concat_meets ⟨_,ho,rfl⟩ ⟨_,ho2,rfl⟩ noFill_tuple_add seq_tuple_add PySem.F.slot_tuple_add PySem.F.entry_tuple_add (PySem.F.args_tuple_add_2 _ _)
   (tuple_addW1 t b vs.toArray ws.toArray n n2 dd dd2 sl sl2 (by simpa using hv) (by simp[hw])) ⟨ho,ho2,h1 hw⟩
 ·refine concat_meets ⟨_,ho,rfl⟩ ⟨_,ho2,rfl⟩ noFill_tuple_add seq_tuple_add PySem.F.slot_tuple_add PySem.F.entry_tuple_add (PySem.F.args_tuple_add_2 _ _)
   (tuple_addW2 t b vs.toArray ws.toArray n n2 dd dd2 sl sl2 (by simpa using hv) (by simpa using hw) (by rw[List.size_toArray,List.size_toArray];exact hsz)) ⟨ho,ho2,?_⟩
  rw[e];exact h2 hw
noncomputable def sIx(n d:Nat):Option Int->Nat
 |none=>d
 |some v=>if v<0 then (v+(n:Int)).toNat else min v.toNat n
theorem KZ(n d k:Nat):sIx n d (some (k:Int))=min k n:=by
 show (if (k:Int)<0 then ((k:Int)+(n:Int)).toNat else min (k:Int).toNat n)=min k n;rw[if_neg (by omega),Int.toNat_natCast]
theorem Vq(n d:Nat)(hd:d<=n)(o:Option Int):sIx n d o<=n:=by
 cases o with
 |none=>exact hd
 |some v=>
  show (if v<0 then (v+(n:Int)).toNat else min v.toNat n)<=n;by_cases hv:v<0
  ·rw[if_pos hv];omega
  ·rw[if_neg hv];exact Nat.min_le_right _ _
theorem OU(v:Int)(n d:Nat):(if v<0 then max (v+(n:Int)) 0 else min v (n:Int))=((sIx n d (some v):Nat):Int):=by
 show (if v<0 then max (v+(n:Int)) 0 else min v (n:Int))=(((if v<0 then (v+(n:Int)).toNat else min v.toNat n):Nat):Int);by_cases hv:v<0
 ·simp only[if_pos hv];omega
 ·simp only[if_neg hv];omega
theorem NL(lo hi:Option Int)(n:Nat):Builtin.Slice.sliceAdjust lo hi 1 (n:Int)=(((sIx n 0 lo:Nat):Int),((sIx n n hi:Nat):Int)):=by
 have h1:¬((1:Int)<0):=by omega
 unfold Builtin.Slice.sliceAdjust;simp only[h1,if_false];refine Prod.ext ?_ ?_
 ·cases lo with
  |none=>rfl
  |some v=>exact OU v n 0
 ·cases hi with
  |none=>rfl
  |some v=>exact OU v n n
theorem Mz(i j:Nat):Builtin.Slice.slicePlaces (i:Int) (j:Int) 1=j-i:=by
 unfold Builtin.Slice.slicePlaces;have h1:(1:Int) > 0:=by omega
 simp only[h1,if_true,Int.ediv_one];split<;>omega
theorem IT{v:Value}{o:Option Int}{Q:Option Int->Shared->Prop}(p:IsPart v o)(h:Q o s):wpAny (model prog w) A (Builtin.Slice.slicePartIndex v) Q E s:=by
 cases p with
 |none=>exact slicePart_none h
 |int i t=>exact slicePart_int h
theorem Eb{sl:Addr}{vl vu:Value}{lo hi:Option Int}{n:Nat}{Q:Int×Int×Nat->Shared->Prop}(hs:s.heap.IsSliceOf sl vl vu .none)(pl:IsPart vl lo)(pu:IsPart vu hi)
  (h:Q (((sIx n 0 lo:Nat):Int),1,sIx n n hi-sIx n 0 lo) s):wpAny (model prog w) A (Builtin.Slice.sliceApplied (.ref sl) (pure (n:Int))) Q E s:=by
 obtain⟨os,hos,hcs,hds⟩:=id hs;unfold Builtin.Slice.sliceApplied Builtin.Slice.sliceFields;refine AAA (AAA (AAt hos hds (x:=vl) rfl (AAA (AAt hos hds (x:=vu) rfl (AAA (AAt hos hds (x:=.none) rfl (AAB ?_)))))));refine AAA (slicePart_none ?_);show wpAny _ _ (if ((1:Int)==0)=true then _ else _) _ _ s;rw[if_neg (by decide)];refine AAA (IT pl (AAA (IT pu (AAA (AAB ?_)))));show wpAny _ _ (match Builtin.Slice.sliceAdjust lo hi 1 (n:Int) with|(lo,hi)=>pure (lo,(1:Int),Builtin.Slice.slicePlaces lo hi 1)) _ _ s;rw[NL lo hi n];show wpAny _ _ (pure (((sIx n 0 lo:Nat):Int),(1:Int),Builtin.Slice.slicePlaces ((sIx n 0 lo:Nat):Int) ((sIx n n hi:Nat):Int) 1)) _ _ s;rw[Mz];exact AAB h
theorem Q9(xs:Array Value)(i k:Nat):((List.range k).filterMap λ(m:Nat)=>xs[((i:Int)+(m:Int) * 1).toNat]?).toArray=((xs.toList.drop i).take k).toArray:=by
 have e:(λ(m:Nat)=>xs[((i:Int)+(m:Int) * 1).toNat]?)=λm=>xs[i+m]?:=by
  funext m
  have:((i:Int)+(m:Int) * 1).toNat=i+m:=by omega
  rw[this]
 rw[e];have:=pick_run xs i k;rw[List.filterMap_map] at this;have e2:((λx=>xs[x]?) ∘ λx=>i+x)=λm=>xs[i+m]?:=rfl;rw[e2] at this;rw[this]
theorem Gi{t sl:Addr}{items:Array Value}{vl vu:Value}{lo hi:Option Int}{Q:Value->Shared->Prop}(ht:IsTup s.heap t items)(hs:s.heap.IsSliceOf sl vl vu .none)(pl:IsPart vl lo)(pu:IsPart vu hi)
  (hw:¬(sIx items.size 0 lo=0/\sIx items.size items.size hi=items.size))
  (h:Q (.ref s.heap.objs.size) { s with heap:=s.heap.push { cls:=.type "tuple",data:=.seq ((items.toList.drop (sIx items.size 0 lo)).take (sIx items.size items.size hi-sIx items.size 0 lo)).toArray } })
  (hsz:items.size<=sizeLine):wpAny (model prog w) A (getItem (.ref t) (.ref sl)) Q E s:=by
 have htake:sizeOk (.seq ((items.toList.drop (sIx items.size 0 lo)).take (sIx items.size items.size hi-sIx items.size 0 lo)).toArray):=by
  show ((items.toList.drop (sIx items.size 0 lo)).take (sIx items.size items.size hi-sIx items.size 0 lo)).toArray.size<=sizeLine;rw[List.size_toArray,List.length_take,List.length_drop,Array.length_toList];omega
 have hj:sIx items.size items.size hi<=items.size:=Vq _ _ (AAF _) hi;obtain⟨os,hos,hcs,hds⟩:=id hs;have hTs:s.TypeIs (.ref sl) "slice" := ⟨os,hos,hcs⟩;unfold getItem
 try with_reducible refine AAm ?_
 first|refine AAA (AAB ?_)|skip
 refine AAA (wpAny_sequenceKey ht.typeIs (by decide) ?_);refine AAA (wpAny_callSpecial?_slot (name:=Str.ofString "__getitem__") ht.typeIs PyProof.Rows.slot_tuple_getitem
  (AAc PyProof.Rows.slot_tuple_getitem ht.typeIs entry_tuple_getitem ?_ (args_tuple_getitem _ _)))
 show wpAny _ _ (Builtin.Tuple.tupleItemsOf (.ref t) >>= _) _ _ s;refine AAA (tupleItemsOf_ ht ?_);refine AAA (wpAny_typeOf hTs ?_);rw[if_pos (by decide)];refine AAA (Eb hs pl pu ?_);have hno:¬((((sIx items.size 0 lo:Nat):Int)==0&&(1:Int)==1&&(sIx items.size items.size hi-sIx items.size 0 lo)==items.size)=true):=by
  intro q;rw[Bool.and_eq_true,Bool.and_eq_true] at q;have q1:((sIx items.size 0 lo:Nat):Int)=0:=eq_of_beq q.1.1;have q2:sIx items.size items.size hi-sIx items.size 0 lo=items.size:=eq_of_beq q.2;exact hw ⟨by omega,by omega⟩
 show wpAny _ _ (if (((sIx items.size 0 lo:Nat):Int)==0&&(1:Int)==1&&(sIx items.size items.size hi-sIx items.size 0 lo)==items.size)=true then _ else _) _ _ s;rw[if_neg hno,Q9]
 first
  |exact AAA (m:=Builtin.Tuple.tupleExact _) (AAo (AAB ⟨_,rfl,AAB h⟩) htake)
  |exact AAA (m:=Builtin.Tuple.tupleExact _) (AAo (AAA (AAB (AAB ⟨_,rfl,AAB h⟩))) htake)
  |exact AAA (AAA (m:=Builtin.Tuple.tupleExact _) (AAo (AAB (AAB ⟨_,rfl,AAB h⟩)) htake))
  |exact AAA (AAA (m:=Builtin.Tuple.tupleExact _) (AAo (AAB ⟨_,rfl,AAB h⟩) htake))
end
end HT
namespace L2
open PySem PySem.Spec PyProof.Rows
noncomputable abbrev TO:=St->Hp->(Option Int->Hp->Prop)->Prop
def PO(X:Cx)(e:Option Expr)(t:TO):Prop:=
 ∀(pins:List (Addr×Obj)) (s:Shared) (σ:St) (H:Hp) (Q:Option Int->Hp->Prop),Inv X pins σ H s->t σ H Q->
  wpAny (model X.prog X.w) X.A (evalPart e X.env) (λu s'=>∃o H',Inv X pins σ H' s'/\IsPart u o/\Q o H') X.xe s
noncomputable def TM:TO:=λ_ H Q=>Q none H
noncomputable def X4(t:TE):TO:=λσ H Q=>t σ H λx H1=>∃i,x=.int i/\Q (some i) H1
section
variable{X:Cx}{e:Expr}{te:TE}{lo hi:Option Expr}{tl th:TO}{pos p2:Pos}
theorem Tz:PO X none TM:=by
 intro pins s σ H Q I h;rw[evalPart_none];exact AAB ⟨none,H,I,.none,h⟩
theorem Ty(h:PE X e te):PO X (some e) (X4 te):=by
 intro pins s σ H Q I hw;rw[evalPart_some];refine thn (h pins s σ H _ I hw) λu s1 ⟨x,H1,I1,r1,q1⟩=>?_;obtain⟨i,rfl,q⟩:=q1;obtain⟨t,rfl⟩:=r1;exact⟨some i,H1,I1,.int i t,q⟩
def SlR(X:Cx)(r:V->Option Int->Option Int->Hp->VK->Prop):Prop:=
 ∀(pins:List (Addr×Obj)) (s:Shared) (σ:St) (H:Hp) (x:V) (v vl vu:Value) (lo hi:Option Int) (sl:Addr) (Q:VK),Inv X pins σ H s->RelV x v->s.heap.IsSliceOf sl vl vu .none->IsPart vl lo->IsPart vu hi->r x lo hi H Q->
  ∃T id,typeLookup (.type T) "__getitem__" = pure (some (.builtin id))/\s.TypeIs v T/\wpAny (model X.prog X.w) X.A (getItem v (.ref sl)) (EP X pins σ Q) X.xe s
theorem SlR.or{r r':V->Option Int->Option Int->Hp->VK->Prop}(h:SlR X r)(h':SlR X r'):SlR X (λx lo hi H Q=>r x lo hi H Q∨r' x lo hi H Q):=by
 intro pins s σ H x v vl vu lo hi sl Q I rx hs pl pu q;rcases q with q|q
 ·exact h pins s σ H x v vl vu lo hi sl Q I rx hs pl pu q
 ·exact h' pins s σ H x v vl vu lo hi sl Q I rx hs pl pu q
noncomputable def tSl(r:V->Option Int->Option Int->Hp->VK->Prop)(te:TE)(tl th:TO):TE:=λσ H Q=>te σ H λx H1=>tl σ H1 λl H2=>th σ H2 λu H3=>r x l u H3 Q
theorem Ls{r:V->Option Int->Option Int->Hp->VK->Prop}(hr:SlR X r)(he:PE X e te)(hl:PO X lo tl)(hu:PO X hi th):PE X (.Subscript e (.Slice lo hi none p2) pos) (tSl r te tl th):=by
 intro pins s σ H Q I h;refine Subscript_ (thn (he pins s σ H _ I h) λv s1 ⟨x,H1,I1,r1,q1⟩=>?_);refine wpAny_Slice (thn (hl pins s1 σ H1 _ I1 q1) λvl s2 ⟨l,H2,I2,pl,q2⟩=>thn (hu pins s2 σ H2 _ I2 q2) λvu s3 ⟨u,H3,I3,pu,q3⟩=>?_);rw[evalPart_none];refine AAB ?_;have I4:Inv X pins σ H3 { s3 with heap:=s3.heap.push { cls:=.type "slice",data:=.fields #[vl,vu,.none] } }:=I3.kept (t':=s3.toks) λb ob q=>AAC _ q;obtain⟨T,id,hT,ht,hg⟩:=hr pins { s3 with heap:=s3.heap.push { cls:=.type "slice",data:=.fields #[vl,vu,.none] } } σ H3 x v vl vu l u s3.heap.objs.size Q I4 r1 (Heap.IsSliceOf.new ..) pl pu q3;show wpAny (model X.prog X.w) X.A (subscriptTail e (.Slice lo hi none p2) v (.ref s3.heap.objs.size)) (EP X pins σ Q) X.xe { s3 with heap:=s3.heap.push { cls:=.type "slice",data:=.fields #[vl,vu,.none] } };exact tail_any (ops:=[.ref s3.heap.objs.size,v]) ht hT hg (by with_unfolding_all rfl)
noncomputable def MM(xs:List V)(lo hi:Option Int):List V:=(xs.drop (HT.sIx xs.length 0 lo)).take (HT.sIx xs.length xs.length hi-HT.sIx xs.length 0 lo)
theorem HU(xs:List V)(lo hi:Option Int):(MM xs lo hi).length<=xs.length:=by
 unfold MM;rw[List.length_take,List.length_drop];omega
noncomputable def Zg(K:PySem.W.Frag):V->Option Int->Option Int->Hp->VK->Prop:=λx lo hi H Q=>∃a xs,x=.ref a/\SqT K H a xs /\
 ¬(HT.sIx xs.length 0 lo=0/\HT.sIx xs.length xs.length hi=xs.length)/\∀p,H p=none->Q (.ref p) (upd H p (.tup (MM xs lo hi)))
theorem Vo:SlR X (Zg X.K):=by
 intro pins s σ H x v vl vu lo hi sl Q I rx hs pl pu h;obtain⟨a,xs,rfl,hx,hw,q⟩:=h;cases rx;obtain⟨its,r,ht,hz⟩:=I.tuple hx;have hlen:its.toArray.size=xs.length:=by rw[List.size_toArray];exact r.length.symm
 refine⟨"tuple",_,PyProof.Rows.slot_tuple_getitem.lookup,ht.typeIs,?_⟩;refine HT.Gi ht hs pl pu (by rw[hlen];exact hw) ?_ (by rw[hlen];exact hz);rw[hlen];refine⟨.ref s.heap.objs.size,_,I.laid (t':=s.toks) (o:=.tup (MM xs lo hi)) (λb ob q=>AAC _ q) (AAF _) ?_,rfl,q _ (I.hok.fresh (AAF _))⟩;exact⟨AAq (HU xs lo hi) hz,_,(r.drop (HT.sIx xs.length 0 lo)).take (HT.sIx xs.length xs.length hi-HT.sIx xs.length 0 lo),IsTup.new _ _⟩
noncomputable def YQ(K:PySem.W.Frag):R2:=λx y H Q=>∃a b xs ys,x=.ref a/\y=.ref b/\SqT K H a xs/\SqT K H b ys/\xs≠[]/\xs.length+ys.length<=sizeLine /\
 (ys=[]->Q (.ref a) H)/\(ys≠[]->∀p,H p=none->Q (.ref p) (upd H p (.tup (xs++ys))))
theorem Vals.nil_iff{xs:List V}{us:List Value}(r:Vals xs us):us=[]↔xs=[]:=by
 cases r with
 |nil=>simp
 |cons _ _=>simp
theorem UD:OpR X (binaryOp .Add) (YQ X.K):=by
 intro pins s σ H x y v u Q I rx ry h;obtain⟨a,b,xs,ys,rfl,rfl,ha,hb,hx,hz,q1,q2⟩:=h;cases rx;cases ry;obtain⟨its,r1,p1,_⟩:=I.tuple ha;obtain⟨its2,r2,p2,_⟩:=I.tuple hb;refine HT.Uw p1 p2 (λz=>hx (r1.nil_iff.mp z)) (λz=>⟨.ref a,H,I,rfl,q1 (r2.nil_iff.mp z)⟩) (λz=>?_) (by rw[←r1.length,←r2.length];exact hz);refine⟨.ref s.heap.objs.size,_,I.laid (t':=s.toks) (o:=.tup (xs++ys)) (λb ob q=>AAC _ q) (AAF _) ?_,rfl,q2 (λw=>z (r2.nil_iff.mpr w)) _ (I.hok.fresh (AAF _))⟩;exact⟨by rw[AAH];exact hz,_,r1.append r2,IsTup.new _ _⟩
theorem MR:Cy X (.type "tuple") (λxs H Q=>∃a ys,xs=[.ref a]/\SqT X.K H a ys/\Q (.ref a) H):=by
 intro pins s σ H xs us Q I r h;obtain⟨a,ys,rfl,ha,q⟩:=h;obtain⟨u,rfl,ru⟩:=IG r;cases ru;obtain⟨its,_,p1,_⟩:=I.tuple ha;exact call_tuple_same (items:=its.toArray) p1 ⟨.ref a,H,I,rfl,q⟩
end
noncomputable def ixN(n:Nat)(i:Int):Option Nat:=if 0<=i then (if i<n then some i.toNat else none) else if -(n:Int)<=i then some (i+n).toNat else none
noncomputable def atI{α:Type}(xs:List α)(i:Int):Option α:=(ixN xs.length i).bind λj=>xs[j]?
theorem OH{n:Nat}{i:Int}{j:Nat}(h:ixN n i=some j):seqIndex? i n=some j/\j<n/\-(n:Int)<=i/\i<n:=by
 unfold ixN at h;by_cases h0:0<=i
 ·rw[if_pos h0] at h;by_cases h1:i<n
  ·rw[if_pos h1] at h;have e:i.toNat=j:=Option.some.inj h;exact⟨by rw[seqIndex_of h0 h1,e],by omega,by omega,h1⟩
  ·rw[if_neg h1] at h;cases h
 ·rw[if_neg h0] at h;by_cases h1:-(n:Int)<=i
  ·rw[if_pos h1] at h;have e:(i+n).toNat=j:=Option.some.inj h;exact⟨by rw[seqIndex_neg (by omega) h1,e],by omega,h1,by omega⟩
  ·rw[if_neg h1] at h;cases h
theorem LI{α:Type}{xs:List α}{i:Int}{v:α}(h:atI xs i=some v):∃j,seqIndex? i xs.length=some j/\xs[j]?=some v/\j<xs.length/\-(xs.length:Int)<=i/\i<xs.length:=by
 unfold atI at h;cases e:ixN xs.length i with
 |none=>rw[e] at h;cases h
 |some j=>
  rw[e] at h;obtain⟨h1,h2,h3,h4⟩:=OH e;exact⟨j,h1,h,h2,h3,h4⟩
def OY(b:Expr):Prop:=∀o i,subscripted b false o i=operate [o,i] (getItem o i)
def IxR(X:Cx)(r:R2):Prop:=
 ∀(value slice:Expr) (pins:List (Addr×Obj)) (s:Shared) (σ:St) (H:Hp) (x y:V) (v u:Value) (Q:VK),Inv X pins σ H s->RelV x v->RelV y u->r x y H Q->
  subscripted slice false v u=operate [v,u] (getItem v u)->wpAny (model X.prog X.w) X.A (subscriptTail value slice v u) (EP X pins σ Q) X.xe s
def MtR(X:Cx)(id:String)(r:V->List V->Hp->VK->Prop):Prop:=
 ∀(pins:List (Addr×Obj)) (s:Shared) (σ:St) (H:Hp) (x:V) (xs:List V) (v:Value) (us:List Value) (Q:VK),Inv X pins σ H s->RelV x v->Vals xs us->r x xs H Q->
  wpAny (model X.prog X.w) X.A (call (.builtin id) (v::us)) (EP X pins σ Q) X.xe s
section
variable{X:Cx}{a b:Expr}{ta tb:TE}{pos:Pos}
theorem IxR.or{r r':R2}(h:IxR X r)(h':IxR X r'):IxR X (λx y H Q=>r x y H Q∨r' x y H Q):=by
 intro value slice pins s σ H x y v u Q I rx ry q hs;rcases q with q|q
 ·exact h value slice pins s σ H x y v u Q I rx ry q hs
 ·exact h' value slice pins s σ H x y v u Q I rx ry q hs
theorem Ya{r:R2}(hr:IxR X r)(ha:PE X a ta)(hb:PE X b tb)(hs:OY b):PE X (.Subscript a b pos) (tOp r ta tb):=by
 intro pins s σ H Q I h;exact Subscript_ (Xg ha hb I h λv u s2 x y H2 I2 rx ry q=>hr a b pins s2 σ H2 x y v u Q I2 rx ry q (hs _ _))
noncomputable def YO(K:PySem.W.Frag):R2:=λx y H Q=>∃p xs i v,x=.ref p/\y=.int i/\SqL K H p xs/\atI xs i=some v/\Q v H
noncomputable def YM(K:PySem.W.Frag):R2:=λx y H Q=>∃p xs i v,x=.ref p/\y=.int i/\SqT K H p xs/\atI xs i=some v/\Q v H
noncomputable def YN:R2:=λx y H Q=>∃z i c,x=.str z/\y=.int i/\z.length<=sizeLine/\atI z.cps.toList i=some c/\Q (.str ⟨#[c]⟩) H
theorem ix_list:IxR X (YO X.K):=by
 intro value slice pins s σ H x y v u Q I rx ry h hs;obtain⟨p,xs,i,z,rfl,rfl,hq,he,q⟩:=h;cases rx;obtain⟨t,rfl⟩:=ry;obtain⟨its,r,pl,hz⟩:=I.list hq;obtain⟨j,h1,h2,h3,h4,h5⟩:=LI he;obtain⟨w,ew,rw'⟩:=r.get h2;have hl:=r.length;have hn:=Iq;have fin:EP X pins σ Q w s:=⟨z,H,I,rw',q⟩;by_cases h0:0<=i
 ·have hj:i.toNat=j:=by
   rw[seqIndex_of h0 h5] at h1;exact Option.some.inj h1
  exact item_listR pl.isList h0 (by omega) (by rw[hj];simpa using ew) fin hs
 ·have hj:(i+(its.toArray.size:Int)).toNat=j:=by
   rw[seqIndex_neg (by omega) h4] at h1;rw[List.size_toArray,←hl];exact Option.some.inj h1
  exact subscriptTail_builtinR (x:=w) pl.isList.typeIs slot_list_getitem.lookup
   (wpAny_getItem_list_neg (Q:=λr s'=>r=w/\EP X pins σ Q r s') pl.isList (by omega) (by rw[List.size_toArray]<;>omega) (by omega) (by rw[hj];simpa using ew) ⟨rfl,fin⟩) hs
theorem ix_tup:IxR X (YM X.K):=by
 intro value slice pins s σ H x y v u Q I rx ry h hs;obtain⟨p,xs,i,z,rfl,rfl,hq,he,q⟩:=h;cases rx;obtain⟨t,rfl⟩:=ry;obtain⟨its,r,pl,hz⟩:=I.tuple hq;obtain⟨j,h1,h2,h3,h4,h5⟩:=LI he;obtain⟨w,ew,rw'⟩:=r.get h2;have hl:=r.length;have hn:=Iq;have fin:EP X pins σ Q w s:=⟨z,H,I,rw',q⟩;exact subscriptTail_builtinR (x:=w) pl.typeIs slot_tuple_getitem.lookup
  (getItem_tuple (j:=j) (Q:=λr s'=>r=w/\EP X pins σ Q r s') pl (by omega) (by omega) (by rw[List.size_toArray,←hl];exact h1) (by simpa using ew) ⟨rfl,fin⟩) hs
theorem XJ:IxR X YN:=by
 intro value slice pins s σ H x y v u Q I rx ry h hs;obtain⟨z,i,c,rfl,rfl,hz,he,q⟩:=h;obtain⟨t,rfl⟩:=rx;obtain⟨t',rfl⟩:=ry;obtain⟨j,h1,h2,h3,h4,h5⟩:=LI he;have hl:z.cps.toList.length=z.length:=by simp[Str.length]
 rw[hl] at h1 h4 h5;have hn:=Iq;exact tail_any (typeIs_str s z t) slot_str_getitem.lookup (getItem_str (c:=c) (by
  have e1:decide (i < -(2 ^ 63:Int))=false:=AAO (by omega);have e2:decide (i ≥ 2 ^ 63)=false:=AAO (by omega);rw[e1,e2,Bool.or_false]) (by rw[h1];simpa using h2) ⟨.str ⟨#[c]⟩,H,I.tok _,⟨_,rfl⟩,q⟩) hs
noncomputable def rIx(K:PySem.W.Frag):R2:=λx y H Q=>YO K x y H Q∨YM K x y H Q∨YN x y H Q
theorem M9:IxR X (rIx X.K):=ix_list.or (ix_tup.or XJ)
theorem M7(its:List Value)(n j:Nat)(u:Value):Obj.mapSeq (·.setIfInBounds j u) { cls:=.type "list",data:=.seq its.toArray n }={ cls:=.type "list",data:=.seq (its.set j u).toArray n }:=by
 simp[Obj.mapSeq]
theorem Inv.lst{pins:List (Addr×Obj)}{σ:St}{H:Hp}{s:Shared}{p:Addr}{xs:List V}(I:Inv X pins σ H s)(h:H p=some (.lst xs)):
  ∃(its:List Value) (n:Nat),Vals xs its/\s.heap.get? p=some { cls:=.type "list",data:=.seq its.toArray n }/\xs.length<=sizeLine:=by
 obtain⟨z,its,n,r,e⟩:=I.hok p _ h;exact⟨its,n,r,e,z⟩
theorem Inv.lstUpd{pins:List (Addr×Obj)}{σ:St}{H:Hp}{s:Shared}{p:Addr}{xs ys:List V}{its its':List Value}{n n':Nat}{f:Obj->Obj}(I:Inv X pins σ H s)(h:H p=some (.lst xs))
  (ho:s.heap.get? p=some { cls:=.type "list",data:=.seq its.toArray n }) (hf:f { cls:=.type "list",data:=.seq its.toArray n }={ cls:=.type "list",data:=.seq its'.toArray n' }) (r:Vals ys its') (hz:ys.length<=sizeLine) (t:Nat) :
  Inv X pins σ (upd H p (.lst ys)) { s with heap:=s.heap.update p f,toks:=t }:=by
 have e:(s.heap.update p f).get? p=some { cls:=.type "list",data:=.seq its'.toArray n' }:=by
  rw[Heap.get?_update_self f ho (by rw[hf]<;>rfl),hf]
 refine I.write (x:=p) (e:=p) (by rw[h];trivial) (.inl rfl) (λb u hb q=>(Heap.get?_update_other _ _ (Ne.symm hb)).trans q) ⟨_,e⟩ ?_;exact⟨hz,its',n',r,e⟩
noncomputable def YL:V->V->V->Hp->(Hp->Prop)->Prop:=λo i v H Q=>∃p xs k j,o=.ref p/\i=.int k/\H p=some (.lst xs)/\ixN xs.length k=some j/\Q (upd H p (.lst (xs.set j v)))
theorem Ql:ZM X YL:=by
 intro pins s σ H o i v ov iv u Q I ro ri rv h;obtain⟨p,xs,k,j,rfl,rfl,hp,hj,q⟩:=h;cases ro;obtain⟨t,rfl⟩:=ri;obtain⟨its,n,r,ho,hz⟩:=I.lst hp;obtain⟨h1,h2,h3,h4⟩:=OH hj;have hl:=r.length;have hn:=Iq;have I':Inv X pins σ (upd H p (.lst (xs.set j v))) { s with heap:=s.heap.update p (Obj.mapSeq (·.setIfInBounds j u)) }:=
  I.lstUpd hp ho (M7 its n j u) (r.set rv j) (by rw[List.length_set];exact hz) s.toks
 by_cases h0:0<=k
 ·have hk:k.toNat=j:=by
   rw[seqIndex_of h0 h4] at h1;exact Option.some.inj h1
  exact PySem.W.ki_setAt ho h0 (by omega) (by rw[List.size_toArray,←hl];exact h4) (by rw[hk];exact⟨_,I',q⟩)
 ·have hk:(k+(its.toArray.size:Int)).toNat=j:=by
   rw[seqIndex_neg (by omega) h3] at h1;rw[List.size_toArray,←hl];exact Option.some.inj h1
  exact PySem.W.ki_setBack ho (by omega) (by rw[List.size_toArray,←hl];exact h3) (by omega) (by rw[hk];exact⟨_,I',q⟩)
theorem KR(lo hi:Option Int)(n:Nat):(sliceBounds lo hi none n).1=((HT.sIx n 0 lo:Nat):Int)/\(sliceBounds lo hi none n).2.1=((HT.sIx n n hi:Nat):Int)/\(sliceBounds lo hi none n).2.2=1:=by
 refine⟨?_,?_,rfl⟩
 ·cases lo with
  |none=>simp[sliceBounds,HT.sIx]
  |some i=>
   simp only[sliceBounds,HT.sIx,Option.getD_none,show (1:Int) > 0 by decide,if_true];by_cases h:i<0
   ·simp only[h,if_true]<;>omega
   ·simp only[h,if_false]<;>omega
 ·cases hi with
  |none=>simp[sliceBounds,HT.sIx]
  |some i=>
   simp only[sliceBounds,HT.sIx,Option.getD_none,show (1:Int) > 0 by decide,if_true];by_cases h:i<0
   ·simp only[h,if_true]<;>omega
   ·simp only[h,if_false]<;>omega
theorem JV(its:List Value)(lo hi:Option Int):slicePick its.toArray lo hi none=((its.drop (HT.sIx its.length 0 lo)).take (HT.sIx its.length its.length hi-HT.sIx its.length 0 lo)).toArray:=by
 obtain⟨h1,h2,h3⟩:=KR lo hi its.toArray.size;unfold slicePick;rw[h1,h2,h3];simp only[sliceRange_one,pick_run,List.size_toArray]<;>rfl
noncomputable def Zh(K:PySem.W.Frag):V->Option Int->Option Int->Hp->VK->Prop:=λx lo hi H Q=>∃a xs,x=.ref a/\SqL K H a xs/\∀p,H p=none->Q (.ref p) (upd H p (.lst (MM xs lo hi)))
theorem TU:SlR X (Zh X.K):=by
 intro pins s σ H x v vl vu lo hi sl Q I rx hs pl pu h;obtain⟨a,xs,rfl,hx,q⟩:=h;cases rx;obtain⟨its,r,ht,hz⟩:=I.list hx;have hlen:=r.length;refine⟨"list",_,slot_list_getitem.lookup,ht.isList.typeIs,?_⟩;refine wpAny_getItem_list_slice ht.isList hs pl pu .none (by simp) ?_ (by rw[List.size_toArray]<;>omega);rw[JV,←hlen];refine⟨.ref s.heap.objs.size,_,I.laid (t':=s.toks) (o:=.lst (MM xs lo hi)) (λb ob q=>AAC _ q) (AAF _) ?_,rfl,q _ (I.hok.fresh (AAF _))⟩;exact⟨AAq (HU xs lo hi) hz,_,0,(r.drop (HT.sIx xs.length 0 lo)).take (HT.sIx xs.length xs.length hi-HT.sIx xs.length 0 lo),AAD _ rfl⟩
noncomputable def F2:V->Bool
 | .non=>true
 | .bl _=>true
 | .int _=>true
 | .str _=>true
 |_=>false
noncomputable def eqV:V->V->Bool
 | .non,.non=>true
 | .bl a,.bl b=>a==b
 | .bl a,.int b=>(if a then 1 else 0)==b
 | .int a,.bl b=>a==(if b then 1 else 0)
 | .int a,.int b=>a==b
 | .str a,.str b=>a==b
 |_,_=>false
theorem Xd{A:Around}{s:Shared}{y x:V}{u v:Value}(ry:RelV y u)(rx:RelV x v)(fy:F2 y=true)(fx:F2 x=true):SeqAt.EqAt A s u v (eqV y x):=by
 cases y with
 |non=>
  cases ry;cases x with
  |non=>cases rx;exact SeqAt.EqAt.same _
  |bl b=>cases rx;exact SeqAt.EqAt.none_bool b
  |int b=>obtain⟨t,rfl⟩:=rx;exact SeqAt.EqAt.none_int b t
  |str b=>obtain⟨t,rfl⟩:=rx;exact SeqAt.EqAt.none_str b t
  |_=>exact absurd (show false=true from fx) AAf
 |bl a=>
  cases ry;cases x with
  |non=>cases rx;exact SeqAt.EqAt.bool_none a
  |bl b=>cases rx;exact SeqAt.EqAt.bool_bool a b
  |int b=>obtain⟨t,rfl⟩:=rx;exact SeqAt.EqAt.bool_int a b t
  |str b=>obtain⟨t,rfl⟩:=rx;exact SeqAt.EqAt.bool_str a b t
  |_=>exact absurd (show false=true from fx) AAf
 |int a=>
  obtain⟨t',rfl⟩:=ry;cases x with
  |non=>cases rx;exact SeqAt.EqAt.int_none a t'
  |bl b=>cases rx;exact SeqAt.EqAt.int_bool a t' b
  |int b=>obtain⟨t,rfl⟩:=rx;exact SeqAt.EqAt.int_int a t' b t
  |str b=>obtain⟨t,rfl⟩:=rx;exact SeqAt.EqAt.int_str a t' b t
  |_=>exact absurd (show false=true from fx) AAf
 |str a=>
  obtain⟨t',rfl⟩:=ry;cases x with
  |non=>cases rx;exact SeqAt.EqAt.str_none a t'
  |bl b=>cases rx;exact SeqAt.EqAt.str_bool a t' b
  |int b=>obtain⟨t,rfl⟩:=rx;exact SeqAt.EqAt.str_int a t' b t
  |str b=>obtain⟨t,rfl⟩:=rx;exact SeqAt.EqAt.str_str a t' b t
  |_=>exact absurd (show false=true from fx) AAf
 |_=>exact absurd (show false=true from fy) AAf
noncomputable def eqU(x:V)(u:Value):Bool:=match u with
 | .none=>eqV .non x
 | .bool b=>eqV (.bl b) x
 | .int i _=>eqV (.int i) x
 | .str z _=>eqV (.str z) x
 |_=>false
theorem SL{x y:V}{u:Value}(r:RelV y u)(f:F2 y=true):eqU x u=eqV y x:=by
 cases y with
 |non=>cases r;rfl
 |bl b=>cases r;rfl
 |int i=>obtain⟨t,rfl⟩:=r;rfl
 |str z=>obtain⟨t,rfl⟩:=r;rfl
 |_=>exact absurd (show false=true from f) AAf
theorem Gs{x:V}:∀{xs:List V} {us:List Value},Vals xs us->xs.all F2=true->us.any (eqU x)=xs.any λy=>eqV y x
 |_,_,.nil,_=>rfl
 |y::xs,u::us,.cons r t,f=>by
  rw[List.all_cons,Bool.and_eq_true] at f;rw[List.any_cons,List.any_cons,SL r f.1,Gs t f.2]
theorem FX{A:Around}{s:Shared}{x:V}{v:Value}(rx:RelV x v)(fx:F2 x=true):∀{xs:List V} {us:List Value},Vals xs us->xs.all F2=true->∀u∈us,SeqAt.EqAt A s u v (eqU x u)
 |_,_,.nil,_=>λu hu=>by cases hu
 |y::xs,u::us,.cons r t,f=>λu' hu=>by
  rw[List.all_cons,Bool.and_eq_true] at f;rcases AAJ.mp hu with rfl|hu
  ·rw[SL r f.1];exact Xd r rx f.1 fx
  ·exact FX rx fx t f.2 u' hu
noncomputable def inV(x:V)(xs:List V):Bool:=xs.any λy=>eqV y x
noncomputable def rIn(K:PySem.W.Frag)(neg:Bool):R2:=λx y H Q=>∃p xs,y=.ref p/\(SqL K H p xs∨SqT K H p xs)/\F2 x=true/\xs.all F2=true/\Q (.bl (if neg then !inV x xs else inV x xs)) H
theorem O3:OpR X (compareOp .In) (rIn X.K false):=by
 intro pins s σ H x y v u Q I rx ry h;obtain⟨p,xs,rfl,hq,fx,fs,q⟩:=h;cases ry;rcases hq with hq|hq
 ·obtain⟨its,r,pl,hz⟩:=I.list hq;refine SeqAt.in_listAt (eqU x) pl.isList (λw hw=>FX rx fx r fs w (by simpa using hw)) ⟨.bl _,H,I,rfl,?_⟩;rw[show its.toArray.any (eqU x)=its.any (eqU x) by simp,Gs r fs];exact q
 ·obtain⟨its,r,pl,hz⟩:=I.tuple hq;refine SeqAt.in_tupleAt (eqU x) pl (λw hw=>FX rx fx r fs w (by simpa using hw)) ⟨.bl _,H,I,rfl,?_⟩;rw[show its.toArray.any (eqU x)=its.any (eqU x) by simp,Gs r fs];exact q
theorem Kj:OpR X (compareOp .NotIn) (rIn X.K true):=by
 intro pins s σ H x y v u Q I rx ry h;obtain⟨p,xs,rfl,hq,fx,fs,q⟩:=h;cases ry;rcases hq with hq|hq
 ·obtain⟨its,r,pl,hz⟩:=I.list hq;refine SeqAt.notIn_listAt (eqU x) pl.isList (λw hw=>FX rx fx r fs w (by simpa using hw)) ⟨.bl _,H,I,rfl,?_⟩;rw[show its.toArray.any (eqU x)=its.any (eqU x) by simp,Gs r fs];exact q
 ·obtain⟨its,r,pl,hz⟩:=I.tuple hq;refine SeqAt.notIn_tupleAt (eqU x) pl (λw hw=>FX rx fx r fs w (by simpa using hw)) ⟨.bl _,H,I,rfl,?_⟩;rw[show its.toArray.any (eqU x)=its.any (eqU x) by simp,Gs r fs];exact q
def tyV(K:PySem.W.Frag)(T:String)(x:V)(H:Hp):Prop:=match x with
 | .str _=>T = "str"
 | .int _=>T = "int"
 | .ref p=>(T = "list" /\ ∃xs,SqL K H p xs)∨(T = "tuple" /\ ∃o,K.lookup p=some o/\o.cls=.type "tuple" /\ o.dict=none) ∨
   (T = "dict" /\ ((∃kvs,H p=some (.dK kvs))∨∃kvs,H p=some (.dT kvs)))∨(T = "set" /\ ∃S n,H p=some (.set S n))
 |_=>False
theorem Vf{pins:List (Addr×Obj)}{σ:St}{H:Hp}{s:Shared}{T:String}{x:V}{v:Value}(I:Inv X pins σ H s)(r:RelV x v)(ty:tyV X.K T x H):
  s.TypeIs v T/\∀a,v=.ref a->∃ob,s.heap.get? a=some ob/\ob.dict=none:=by
 cases x with
 |str z=>
  obtain⟨t,rfl⟩:=r;cases (show T = "str" from ty);exact⟨typeIs_str s z t,λ_ e=>nomatch e⟩
 |int i=>
  obtain⟨t,rfl⟩:=r;cases (show T = "int" from ty);exact⟨typeIs_int s i t,λ_ e=>nomatch e⟩
 |ref p=>
  cases r;rcases ty with ⟨rfl,xs,hq⟩|⟨rfl,o,hk,hc,hd⟩|⟨rfl,hk⟩|⟨rfl,S,n,hk⟩
  ·obtain⟨its,_,pl,_⟩:=I.list hq;refine⟨pl.isList.typeIs,λa e=>?_⟩;cases e;obtain⟨o,n,e,c,hd,_⟩:=pl;exact⟨o,e,hd⟩
  ·refine⟨⟨o,I.kIn p o hk,hc⟩,λa e=>?_⟩;cases e;exact⟨o,I.kIn _ o hk,hd⟩
  ·have z:∃o,s.heap.get? p=some o/\o.ExactDict:=by
    rcases hk with ⟨kvs,hk⟩|⟨kvs,hk⟩
    ·obtain⟨_,_,_,_,o,_,_,e,ex,_⟩:=I.hok p _ hk;exact⟨o,e,ex⟩
    ·obtain⟨_,_,_,_,o,_,_,e,ex,_⟩:=I.hok p _ hk;exact⟨o,e,ex⟩
   obtain⟨o,e,ex⟩:=z;refine⟨⟨o,e,ex.1⟩,λa e2=>?_⟩;cases e2;exact⟨o,e,ex.2.1⟩
  ·obtain⟨o,_,_,_,e,ex,_⟩:=I.hok p _ hk;refine⟨⟨o,e,ex.1⟩,λa e2=>?_⟩;cases e2;exact⟨o,e,ex.2.1⟩
 |_=>exact False.elim ty
noncomputable def tBM(K:PySem.W.Frag)(T:String)(r:V->List V->Hp->VK->Prop)(to:TE)(t:TA):TE:=λσ H Q=>to σ H λx H1=>tyV K T x H1/\t σ H1 λxs H2=>r x xs H2 Q
variable{o e:Expr}{es:List Expr}{to:TE}{t:TA}{name:Str}{apos cpos:Pos}{T id:String}{r:V->List V->Hp->VK->Prop}
theorem Yb(pa:PlainAttrs T)(slot:Slot T name id)(hty:typeOf (.builtin id)=pure (.type "method_descriptor"))(hm:MtR X id r)(ho:PE X o to)(ha:PA X (e::es) t)
  (hbase:attributeBase o name X.env (eval o X.env)=eval o X.env:=by rfl)
  (hfew:((backTo cpos (starEach (e::es) X.env)).all (λx=>!x.1)&&(backToKw cpos (keywordEach [] X.env)).all (λx=>x.1.isSome)
   && decide ((e::es).length+([]:List Keyword).length+(if ([]:List Keyword).isEmpty then 0 else 1)<30))=true:=by rfl)
  (hline:(apos.endLine==cpos.line)=true:=by rfl) (hs:starEach (e::es) X.env=(false,eval e X.env)::starEach es X.env:=by rfl) (hplain:(backTo cpos (starEach es X.env)).any (·.1)=false:=by rfl) :
  PE X (.Call (.Attribute o name apos) (e::es) [] cpos) (tBM X.K T r to t):=by
 intro pins s σ H Q I h;refine wpAny_Call_method_late hbase hfew hline rfl (thn (ho pins s σ H _ I h) λv s1 ⟨x,H1,I1,r1,ty,q1⟩=>?_);obtain⟨h1,h2⟩:=Vf I1 r1 ty;refine⟨T,id,pa,slot,hty,h1,h2,?_⟩;have hA:=ha cpos pins s1 σ H1 _ I1 q1;rw[hs] at hA ⊢;refine Calls.callWith_builtin (by show (false||(backTo cpos (starEach es X.env)).any (·.1))=false;rw[hplain]<;>rfl) (Calls.evalArgs_plain ?_);exact thn hA λus s2 ⟨vs,H2,I2,r2,q2⟩=>hm pins s2 σ H2 x vs v us Q I2 r1 r2 q2
end
def MtM(X:Cx)(id:String)(r:V->List V->Hp->VK->Prop):Prop:=
 ∀(pins:List (Addr×Obj)) (s:Shared) (σ:St) (H:Hp) (x:V) (xs:List V) (v:Value) (us:List Value) (Q:VK),Inv X pins σ H s->RelV x v->Vals xs us->r x xs H Q->
  wpAny (model X.prog X.w) X.A (call (.builtin id) (v::us)) (EP X pins σ Q) X.xe s
theorem Vals.one:∀{x:V} {us:List Value},Vals [x] us->∃u,us=[u]/\RelV x u
 |_,_,.cons r .nil=>⟨_,rfl,r⟩
theorem Vals.two:∀{x y:V} {us:List Value},Vals [x,y] us->∃u v,us=[u,v]/\RelV x u/\RelV y v
 |_,_,_,.cons r (.cons q .nil)=>⟨_,_,rfl,r,q⟩
theorem Vals.rep{xs:List V}{us:List Value}(h:Vals xs us):∀k:Nat,Vals (List.replicate k xs).flatten (List.replicate k us).flatten
 |0=>.nil
 |k+1=>by
  rw[AAj,AAj,List.flatten_cons,List.flatten_cons];exact Vals.append h (Vals.rep h k)
theorem Jv(its:List Value):∀(k:Nat) (acc:List Value),
  List.foldl (λx1 x2=>x1++x2) acc.toArray (List.replicate k its.toArray)=(acc++(List.replicate k its).flatten).toArray
 |0,acc=>by simp
 |k+1,acc=>by
  have e:acc.toArray++its.toArray=(acc++its).toArray:=by simp
  have e2:(acc++its)++(List.replicate k its).flatten=acc++(List.replicate (k+1) its).flatten:=by
   rw[AAj,List.flatten_cons,List.append_assoc]
  rw[←e2,←Jv its k (acc++its),←e,AAj,List.foldl_cons]
section
variable{X:Cx}{pins:List (Addr×Obj)}{σ:St}{H:Hp}{s:Shared}{l:Addr}{xs ys:List V}
theorem Inv.lset{its its':List Value}{n:Nat}{f:Array Value->Array Value}{t':Nat}(I:Inv X pins σ H s)(hH:H l=some (.lst xs))
  (e:s.heap.get? l=some { cls:=.type "list",data:=.seq its.toArray n }) (hf:f its.toArray=its'.toArray) (hv:Vals ys its') (hz:ys.length<=sizeLine) :
  Inv X pins σ (upd H l (.lst ys)) { s with heap:=s.heap.update l (Obj.mapSeq f),toks:=t' }:=by
 have q:=PySem.IsL.update e f;rw[hf] at q;refine I.write (x:=l) (e:=l) (by rw[hH];exact trivial) (.inl rfl) (λb' u hb hu=>(Heap.get?_update_other s.heap (Obj.mapSeq f) (Ne.symm hb)).trans hu) ⟨_,q⟩ ?_;exact⟨hz,its',_,hv,q⟩
theorem Inv.lnew{its:List Value}{t':Nat}(I:Inv X pins σ H s)(hv:Vals ys its)(hz:ys.length<=sizeLine):
  Inv X pins σ (upd H s.heap.objs.size (.lst ys)) { s with heap:=s.heap.push { cls:=.type "list",data:=.seq its.toArray },toks:=t' }:=
 I.laid (λ_ _ q=>AAC _ q) (AAF _) ⟨hz,its,0,hv,AAD _ rfl⟩
theorem Inv.fresh(I:Inv X pins σ H s):H s.heap.objs.size=none:=I.hok.fresh (AAF _)
theorem Inv.lstM(I:Inv X pins σ H s)(hH:H l=some (.lst xs)):xs.length<=sizeLine/\∃(its:List Value) (n:Nat),Vals xs its/\xs.length=its.length/\s.heap.get? l=some { cls:=.type "list",data:=.seq its.toArray n }:=by
 obtain⟨z,its,n,r,e⟩:=I.hok l _ hH;exact⟨z,its,n,r,r.length,e⟩
theorem Lz{n:Nat}(h:n<=sizeLine):Builtin.List.listTooLong n=false:=by
 unfold Builtin.List.listTooLong;exact AAO (by omega)
end
section
variable{X:Cx}
noncomputable def Tn:V->List V->Hp->VK->Prop:=λx vs H Q=>∃l xs y,x=.ref l/\vs=[y]/\H l=some (.lst xs)/\xs.length<sizeLine/\Q .non (upd H l (.lst (xs++[y])))
theorem O9:MtM X "list.append" Tn:=by
 intro pins s σ H x vs v us Q I rx rv h;obtain⟨l,xs,y,rfl,rfl,hH,hz,q⟩:=h;cases rx;obtain⟨u,rfl,ru⟩:=rv.one;obtain⟨z,its,n,r,hl,e⟩:=I.lstM hH;refine call_meets F.slot_list_append ⟨_,e,rfl⟩ F.entry_list_append (F.args_list_append_2 _ _) (PySem.list_append l its.toArray n u (by rw[List.size_toArray];omega)) ⟨e,?_⟩;refine⟨.non,_,I.lset (its':=its++[u]) hH e (by simp) (r.append (.cons ru .nil)) ?_,rfl,q⟩;rw[AAH,List.length_singleton];omega
noncomputable def Tm:V->List V->Hp->VK->Prop:=λx vs H Q=>∃l b xs zs,x=.ref l/\vs=[.ref b]/\H l=some (.lst xs)/\H b=some (.lst zs)/\xs.length+zs.length<=sizeLine/\Q .non (upd H l (.lst (xs++zs)))
theorem O8:MtM X "list.extend" Tm:=by
 intro pins s σ H x vs v us Q I rx rv h;obtain⟨l,b,xs,zs,rfl,rfl,hH,hB,hz,q⟩:=h;cases rx;obtain⟨u,rfl,ru⟩:=rv.one;cases ru;obtain⟨z,its,n,r,hl,e⟩:=I.lstM hH;obtain⟨z2,its2,n2,r2,hl2,e2⟩:=I.lstM hB;have hsz:its.toArray.size+its2.toArray.size<=sizeLine:=by rw[List.size_toArray,List.size_toArray];omega
 have hlong:¬(!its.toArray.isEmpty&&Builtin.List.listTooLong (its.toArray.size+its2.toArray.size))=true:=by
  rw[Lz hsz,Bool.and_false];exact AAf
 refine call_meets F.slot_list_extend ⟨_,e,rfl⟩ F.entry_list_extend (F.args_list_extend_2 _ _)
  (AutoSeq1.list_extend_list_list_0 l its.toArray n b its2.toArray n2 hlong (by rw[List.size_toArray];omega) (by omega)) ⟨e,e2,?_⟩
 refine⟨.non,_,I.lset (its':=its++its2) hH e (by simp) (r.append r2) ?_,rfl,q⟩;rw[AAH];omega
noncomputable def Zk:R2:=λx y H Q=>∃l b xs zs,x=.ref l/\y=.ref b/\H l=some (.lst xs)/\H b=some (.lst zs)/\xs.length+zs.length<=sizeLine/\∀p,H p=none->Q (.ref p) (upd H p (.lst (xs++zs)))
theorem Kk:OpR X (binaryOp .Add) Zk:=by
 intro pins s σ H x y v u Q I rx ry h;obtain⟨l,b,xs,zs,rfl,rfl,hH,hB,hz,q⟩:=h;cases rx;cases ry;obtain⟨z,its,n,r,hl,e⟩:=I.lstM hH;obtain⟨z2,its2,n2,r2,hl2,e2⟩:=I.lstM hB;refine PySem.P.add_list e e2 ?_ (by rw[List.size_toArray,List.size_toArray];omega);have ea:its.toArray++its2.toArray=(its++its2).toArray:=by simp
 rw[ea];exact⟨.ref _,_,I.lnew (t':=s.toks) (r.append r2) (by rw[AAH];omega),rfl,q _ I.fresh⟩
noncomputable def Zi:R2:=λx y H Q=>∃l k xs,x=.ref l/\y=.int k/\H l=some (.lst xs)/\-(2 ^ 63)<=k/\k<2 ^ 63/\xs.length * k.toNat<=sizeLine /\
 ∀p,H p=none->Q (.ref p) (upd H p (.lst (List.replicate k.toNat xs).flatten))
theorem US{α:Type}(xs:List α)(k:Nat):(List.replicate k xs).flatten.length=k * xs.length:=by
 induction k with
 |zero=>simp
 |succ k ih=>rw[AAj,List.flatten_cons,AAH,ih,Nat.succ_mul,Nat.add_comm]
theorem Wf:OpR X (binaryOp .Mult) Zi:=by
 intro pins s σ H x y v u Q I rx ry h;obtain⟨l,k,xs,rfl,rfl,hH,h1,h2,hz,q⟩:=h;cases rx;obtain⟨t,rfl⟩:=ry;obtain⟨z,its,n,r,hl,e⟩:=I.lstM hH;have hlen:its.toArray.size * k.toNat<=sizeLine:=by rw[List.size_toArray,←hl];exact hz
 have hcap:¬its.toArray.size * k.toNat > (2 ^ 63-1) / 8:=by
  have:(sizeLine:Nat)<=(2 ^ 63-1) / 8:=by decide
  omega
 have hfit:¬(!Builtin.List.listFitsIndex k)=true:=by
  rw[fitsIndex_both h1 h2];exact AAf
 have hlong:¬Builtin.List.listTooLong (its.toArray.size * k.toNat)=true:=by
  rw[Lz hlen];exact AAf
 have hnew:List.foldl (λx1 x2=>x1++x2) #[] (List.replicate (if its.toArray.isEmpty=true then 0 else k.toNat) its.toArray)=(List.replicate k.toNat its).flatten.toArray:=by
  have f0:∀m:Nat,List.foldl (λx1 x2=>x1++x2) #[] (List.replicate m its.toArray)=(List.replicate m its).flatten.toArray:=λm=>by
   have:=Jv its m [];rw[List.nil_append] at this;exact this
  rw[f0];cases its with
  |nil=>simp
  |cons a r'=>rw[if_neg (by simp)]
 refine wpAny_binaryOp_repeat_ref (T := "list") (U := "int") (by decide) ⟨_,e,rfl⟩ (λs'=>typeIs_int s' k t) noFill_list_mul F.fills_int_mul F.slot_int_rmul repeat_list F.slot_int_index.lookup
  (call_meets F.slot_int_rmul (typeIs_int s k t) F.entry_int_rmul (F.args_int_rmul_2 _ _) (int___rmul___int_list k t l its.toArray n)
   ⟨e,rfl,⟨_,e,rfl⟩,call_meets F.slot_list_mul ⟨_,e,rfl⟩ F.entry_list_mul (F.args_list_mul_2 _ _) (AutoListH.list___mul___list_int_3 l its.toArray n k t hfit hcap hlong) ⟨e,?_⟩⟩)
 rw[hnew];exact⟨.ref _,_,I.lnew (t':=s.toks) (r.rep k.toNat) (by rw[US,Nat.mul_comm];exact hz),rfl,q _ I.fresh⟩
end
section
variable{κ:Type}[DecidableEq κ]
noncomputable def FQ(kvs:List (κ×V))(k:κ):Option V:=(kvs.find? λkv=>decide (kv.1=k)).map (·.2)
noncomputable def GY(kvs:List (κ×V))(k:κ)(v:V):List (κ×V):=
 if (kvs.any λkv=>decide (kv.1=k))=true then kvs.map (λkv=>if kv.1=k then (kv.1,v) else kv) else kvs++[(k,v)]
theorem IH{p:κ×V}{r:List (κ×V)}{k:κ}(e:p.1=k):FQ (p::r) k=some p.2:=by simp[FQ,List.find?_cons,e]
theorem II{p:κ×V}{r:List (κ×V)}{k:κ}(e:¬p.1=k):FQ (p::r) k=FQ r k:=by simp[FQ,List.find?_cons,e]
theorem LV(k:κ):∀kvs:List (κ×V),(kvs.any λkv=>decide (kv.1=k))=(FQ kvs k).isSome
 |[]=>rfl
 |p::r=>by
  rw[List.any_cons];by_cases e:p.1=k
  ·simp only[IH e,AAP e,Bool.true_or,Option.isSome_some]
  ·rw[II e,AAO e,Bool.false_or];exact LV k r
theorem HR(kvs:List (κ×V))(k:κ)(v:V):(GY kvs k v).length<=kvs.length+1:=by
 unfold GY;split
 ·rw[AAG];omega
 ·rw[AAH,AAI,List.length_nil];omega
theorem RelO.isSome_eq{o:Option V}{u:Option Value}(r:RelO o u):o.isSome=u.isSome:=by
 cases o with
 |none=>cases u with
  |none=>rfl
  |some _=>exact(show False from r).elim
 |some _=>cases u with
  |none=>exact(show False from r).elim
  |some _=>rfl
theorem RelO.getD{o:Option V}{u:Option Value}{d:V}{d':Value}(r:RelO o u)(rd:RelV d d'):RelV (o.getD d) (u.getD d'):=by
 cases o with
 |none=>cases u with
  |none=>exact rd
  |some _=>exact(show False from r).elim
 |some _=>cases u with
  |none=>exact(show False from r).elim
  |some _=>exact r
theorem KV.val{kvs:List (κ×V)}{vs:List (κ×Value)}(r:KV kvs vs)(k:κ):RelO (FQ kvs k) (valueAt vs k):=by
 unfold KV at r
 induction r with
 |nil=>exact True.intro
 |@cons p q ps qs h t ih=>
  obtain⟨h1,h2⟩:=h;by_cases e:p.1=k
  ·have e':q.1=k:=h1.symm.trans e;have b:valueAt (q::qs) k=some q.2:=by simp[valueAt,List.find?_cons,e']
   rw[IH e,b];exact h2
  ·have e':¬q.1=k:=λz=>e (h1.trans z);have b:valueAt (q::qs) k=valueAt qs k:=by simp[valueAt,List.find?_cons,e']
   rw[II e,b];exact ih
theorem KV.any{kvs:List (κ×V)}{vs:List (κ×Value)}(r:KV kvs vs)(k:κ):(kvs.any λkv=>decide (kv.1=k))=vs.any λkv=>decide (kv.1=k):=by
 unfold KV at r
 induction r with
 |nil=>rfl
 |cons h t ih=>rw[List.any_cons,List.any_cons,ih,h.1]
theorem KV.repl{kvs:List (κ×V)}{vs:List (κ×Value)}(r:KV kvs vs)(k:κ){y:V}{u:Value}(ry:RelV y u):
  KV (kvs.map λkv=>if kv.1=k then (kv.1,y) else kv) (vs.map λkv=>if kv.1=k then (kv.1,u) else kv):=by
 unfold KV at r ⊢
 induction r with
 |nil=>exact .nil
 |@cons p q ps qs h t ih=>
  rw[AAX,AAX];refine .cons ?_ ih;obtain⟨h1,h2⟩:=h;by_cases e:p.1=k
  ·rw[if_pos e,if_pos (h1.symm.trans e)];exact⟨h1,ry⟩
  ·rw[if_neg e,if_neg (λz=>e (h1.trans z))];exact⟨h1,h2⟩
theorem KV.put{kvs:List (κ×V)}{vs:List (κ×Value)}(r:KV kvs vs)(k:κ){y:V}{u:Value}(ry:RelV y u):KV (GY kvs k y) (stored vs k u):=by
 unfold GY stored;rw[r.any k];by_cases e:(vs.any λkv=>decide (kv.1=k))=true
 ·rw[if_pos e,if_pos e];exact r.repl k ry
 ·rw[if_neg e,if_neg e];exact Paired.snoc r ⟨rfl,ry⟩
theorem KV.length{kvs:List (κ×V)}{vs:List (κ×Value)}(r:KV kvs vs):kvs.length=vs.length:=Paired.length r
end
theorem OG{P:Program}{w:World}{k:Key}{u:Value}(r:RelV (kV k) u):(B0 P w).is k u=true:=by
 cases k with
 |inl i=>obtain⟨t,e⟩:=(show ∃t,u=Value.int i t from r);subst e;exact L3 P w i t
 |inr x=>obtain⟨t,e⟩:=(show ∃t,u=Value.str x t from r);subst e;exact L1 P w x t
theorem Jr{P:Program}{w:World}:∀{ks:List Key} {us:List Value},Vals (ks.map kV) us->ItemsAre (B0 P w) ks us
 |[],_,r=>by rw[List.map_nil] at r;cases r;exact .nil
 |k::ks,_,r=>by
  rw[AAX] at r;cases r with
  |cons h t=>exact .cons (OG h) (Jr t)
noncomputable abbrev KT(H:Hp):List (List Key×V)->List (List Key×Addr×Value)->Prop:=Paired λp q=>p.1=q.1/\H q.2.1=some (.tup (p.1.map kV))/\RelV p.2 q.2.2
theorem KT.val{H:Hp}{kvs:List (List Key×V)}{xs:List (List Key×Addr×Value)}(r:KT H kvs xs)(k:List Key):RelO (FQ kvs k) ((atKey xs k).map (·.2)):=by
 induction r with
 |nil=>exact True.intro
 |@cons p q ps qs h t ih=>
  obtain⟨h1,_,h2⟩:=h;by_cases e:p.1=k
  ·have e':q.1=k:=h1.symm.trans e;have b:atKey (q::qs) k=some q.2:=by simp[atKey,List.find?_cons,e']
   rw[IH e,b];exact h2
  ·have e':¬q.1=k:=λz=>e (h1.trans z);have b:atKey (q::qs) k=atKey qs k:=by simp[atKey,List.find?_cons,e']
   rw[II e,b];exact ih
theorem KT.repl{H:Hp}{kvs:List (List Key×V)}{xs:List (List Key×Addr×Value)}(r:KT H kvs xs)(k:List Key){y:V}{u:Value}(ry:RelV y u):
  KT H (kvs.map λkv=>if kv.1=k then (kv.1,y) else kv) (xs.map (putAt k u)):=by
 induction r with
 |nil=>exact .nil
 |@cons p q ps qs h t ih=>
  rw[AAX,AAX];refine .cons ?_ ih;obtain⟨h1,h2,h3⟩:=h;unfold putAt;by_cases e:p.1=k
  ·rw[if_pos e,if_pos (h1.symm.trans e)];exact⟨h1,h2,ry⟩
  ·rw[if_neg e,if_neg (λz=>e (h1.trans z))];exact⟨h1,h2,h3⟩
theorem KT.put{H:Hp}{kvs:List (List Key×V)}{xs:List (List Key×Addr×Value)}(r:KT H kvs xs)(k:List Key){b:Addr}{y:V}{u:Value}(hb:H b=some (.tup (k.map kV)))(ry:RelV y u):
  KT H (GY kvs k y) (storedH xs k b u):=by
 have e:(kvs.any λkv=>decide (kv.1=k))=(atKey xs k).isSome:=by
  rw[LV,(r.val k).isSome_eq,Option.isSome_map]
 unfold GY storedH;rw[e];by_cases q:(atKey xs k).isSome=true
 ·rw[if_pos q,if_pos q];exact r.repl k ry
 ·rw[if_neg q,if_neg q];exact Paired.snoc r ⟨rfl,hb,ry⟩
theorem KT.keeps{H H':Hp}{kvs:List (List Key×V)}{xs:List (List Key×Addr×Value)}(r:KT H kvs xs)(ht:∀b ys,H b=some (.tup ys)->H' b=some (.tup ys)):KT H' kvs xs:=
 Paired.mapP r λ_ _ z=>⟨z.1,ht _ _ z.2.1,z.2.2⟩
section
variable{P:Program}{w:World}{H:Hp}{h:Heap}{a:Addr}
theorem VA{u:HO}(ok:HOk P w H h)(e:Rd H a u):ObjOk P w H h a u:=e.ok ok
theorem OR{kvs:List (Key×V)}(ok:HOk P w H h)(e:Rd H a (.dK kvs)):kvs.length<=sizeLine/\(a==sysModules)=false/\∃vs,KV kvs vs/\h.DictOf (B0 P w) a vs:=
 show ObjOk P w H h a (.dK kvs) from VA ok e
theorem Y9{kvs:List (Key×V)}(ok:HOk P w H h)(e:H a=some (.dK kvs)):kvs.length<=sizeLine/\(a==sysModules)=false/\∃vs,KV kvs vs/\h.DictOf (B0 P w) a vs:=OR ok (.inl e)
theorem Ku{ks:List Key}(ok:HOk P w H h)(e:H a=some (.tup (ks.map kV))):(tupleKind (B0 P w)).is h ks a:=by
 obtain⟨_,its,r,o,h1,h2,n,h3⟩:=(show ObjOk P w H h a (.tup (ks.map kV)) from ok a _ e);exact⟨o,its.toArray,n,h1,h2,h3,by simpa using Jr r⟩
theorem OP{kvs:List (List Key×V)}(ok:HOk P w H h)(e:Rd H a (.dT kvs)):kvs.length<=sizeLine/\(a==sysModules)=false /\
  ∃xs,KT H kvs xs/\h.DictOfH (tupleKind (B0 P w)) a xs:=by
 obtain⟨z,y,xs,r,o,es,ep,h1,h2,h3,h4,h5⟩:=(show ObjOk P w H h a (.dT kvs) from VA ok e);refine⟨z,y,xs,r,o,es,ep,h1,h2,h3,h4,λx hx=>?_,h5⟩;have all:∀{l:List (List Key×V)} {m:List (List Key×Addr×Value)},KT H l m->∀x∈m,(tupleKind (B0 P w)).is h x.1 x.2.1:=by
  intro l m q
  induction q with
  |nil=>intro x hx;exact nomatch hx
  |@cons p q ps qs hq t ih=>
   intro x hx;rcases AAJ.mp hx with e|hx
   ·subst e;exact Ku ok (by rw[←hq.1];exact hq.2.1)
   ·exact ih x hx
 exact all r x hx
theorem Y8{kvs:List (List Key×V)}(ok:HOk P w H h)(e:H a=some (.dT kvs)):kvs.length<=sizeLine/\(a==sysModules)=false /\
  ∃xs,KT H kvs xs/\h.DictOfH (tupleKind (B0 P w)) a xs:=OP ok (.inl e)
end
def DGet(H:Hp)(a:Addr)(y:V)(r:Option V):Prop:=
 (∃kvs k,Rd H a (.dK kvs)/\y=kV k/\r=FQ kvs k)∨∃kvs k b,Rd H a (.dT kvs)/\y=.ref b/\H b=some (.tup (k.map kV))/\r=FQ kvs k
def DPut(H:Hp)(a:Addr)(y v:V)(H':Hp):Prop:=
 (∃kvs k,H a=some (.dK kvs)/\y=kV k/\kvs.length<sizeLine/\H'=upd H a (.dK (GY kvs k v))) ∨
 ∃kvs k b,H a=some (.dT kvs)/\y=.ref b/\H b=some (.tup (k.map kV))/\kvs.length<sizeLine/\H'=upd H a (.dT (GY kvs k v))
theorem DGet.k{H:Hp}{a:Addr}{kvs:List (Key×V)}{k:Key}(e:H a=some (.dK kvs)):DGet H a (kV k) (FQ kvs k):=.inl ⟨kvs,k,.inl e,rfl,rfl⟩
theorem DPut.k{H:Hp}{a:Addr}{kvs:List (Key×V)}{k:Key}{v:V}(e:H a=some (.dK kvs))(hl:kvs.length<sizeLine):DPut H a (kV k) v (upd H a (.dK (GY kvs k v))):=.inl ⟨kvs,k,e,rfl,hl,rfl⟩
section
variable{X:Cx}{pins:List (Addr×Obj)}{σ:St}{H:Hp}{s:Shared}{a:Addr}{y v:V}{u r:Value}{o:Option V}{A:Around}{E:Value->Shared->Prop}
theorem Inv.big(I:Inv X pins σ H s):sysModules<s.heap.objs.size:=by
 have h:mainGlobals<s.heap.objs.size:=(I.mod.glob.keeps I.bk).lt;exact Nat.lt_trans (by decide) h
theorem Zt{Q:Value->Shared->Prop}(hu:A.units+1<cLine)(I:Inv X pins σ H s)(g:DGet H a y o)(ry:RelV y u)(h:∀s',Inv X pins σ H s'->Q (.bool o.isSome) s'):
  wpAny (model X.prog X.w) A (compareOp .In u (.ref a)) Q E s:=by
 rcases g with ⟨kvs,k,e,ey,l⟩|⟨kvs,k,b,e,ey,eb,l⟩
 ·subst ey;obtain⟨z,hd,vs,rel,dd⟩:=OR I.hok e;refine wpAny_in_of (OG ry) hd dd.mapOf ?_;rw[←(rel.val k).isSome_eq,←l];exact h _ (I.tok _)
 ·subst ey;cases (show u=Value.ref b from ry);obtain⟨z,hd,xs,rel,dd⟩:=OP I.hok e;refine wpAny_in_heap (tupleKind_room_in1 hu) (Ku I.hok eb) hd dd ?_;have q:=(rel.val k).isSome_eq;rw[Option.isSome_map] at q;rw[←q,←l];exact h _ (I.tok _)
theorem OT{h':Heap}{t':Nat}{ob:HO}(I:Inv X pins σ H s)(mu:Mut (H a))(hs:Heap.SameBut a s.heap h')(he:∃q,h'.get? a=some q)(new:ObjOk X.prog X.w (upd H a ob) h' a ob):
  Inv X pins σ (upd H a ob) { s with heap:=h',toks:=t' }:=
 I.write (x:=a) (e:=a) mu (.inl rfl) (λb q hb z=>(hs.2 b hb).trans z) he new
theorem Xe{P:Program}{w:World}{H':Hp}{h':Heap}{kvs:List (Key×V)}{vs:List (Key×Value)}(z:kvs.length<=sizeLine)(hd:(a==sysModules)=false)(rel:KV kvs vs)(dd:h'.DictOf (B0 P w) a vs):
  ObjOk P w H' h' a (.dK kvs):=⟨z,hd,vs,rel,dd⟩
theorem Pm{H':Hp}{Q:Unit->Shared->Prop}(hu:A.units+1<cLine)(I:Inv X pins σ H s)(g:DPut H a y v H')(ry:RelV y u)(rv:RelV v r)(h:∀s',Inv X pins σ H' s'->Q () s'):
  wpAny (model X.prog X.w) A (setItem (.ref a) u r) Q E s:=by
 rcases g with ⟨kvs,k,e,ey,l,eH⟩|⟨kvs,k,b,e,ey,eb,l,eH⟩
 ·subst ey eH;obtain⟨z,hd,vs,rel,dd⟩:=Y9 I.hok e;have hz:vs.length<=sizeLine:=by rw[←rel.length];exact z
  have hl:(GY kvs k v).length<=sizeLine:=by have:=HR kvs k v;omega
  refine wpAny_setItem_pairs (hsz:=hz) (OG ry) dd λh' dd' hs=>h _ ?_;have he:∃q,h'.get? a=some q:=let ⟨q,_,_,hq,_⟩:=dd';⟨q,hq⟩
  exact OT I (by rw[e];exact True.intro) hs he (Xe hl hd (rel.put k rv) dd')
 ·subst ey eH;cases (show u=Value.ref b from ry);obtain⟨z,hd,xs,rel,dd⟩:=Y8 I.hok e;have hz:xs.length<=sizeLine:=by rw[←Paired.length rel];exact z
  have hl:(GY kvs k v).length<=sizeLine:=by have:=HR kvs k v;omega
  refine wpAny_setItem_heap (hsz:=hz) (tupleKind_room_in1 hu) (Ku I.hok eb) dd λh' dd' hs=>h _ ?_;obtain⟨q,es,ep,hq,h2,h3,h4,_,h5⟩:=dd';refine OT I (by rw[e];exact True.intro) hs ⟨q,hq⟩ ⟨hl,hd,_,(rel.put k eb rv).keeps λc ys ec=>?_,q,es,ep,hq,h2,h3,h4,h5⟩;rw[Ay (Yo ec e (λz=>nomatch z))];exact ec
end
def Xn(i:Expr):Prop:=∀ov iv,subscripted i false ov iv=operate [ov,iv] (getItem ov iv)
theorem TQ{prog:Program}{w:World}{A:Around}{E:Value->Shared->Prop}{s:Shared}{env:Env}{value slice:Expr}{pos:Pos}{T id:String}{Q:Value->Shared->Prop}
  (hl:typeLookup (.type T) "__getitem__" = pure (some (.builtin id))) (hs:Xn slice)
  (h:wpAny (model prog w) A (eval value env) (λo s₁=>wpAny (model prog w) A (eval slice env) (λi s₂=>s₂.TypeIs o T/\wpAny (model prog w) A (getItem o i) Q E s₂) E s₁) E s) :
  wpAny (model prog w) A (eval (.Subscript value slice pos) env) Q E s:=by
 refine Subscript_ (AAh h (λo s₁ h₁=>AAh h₁ (λi s₂ h₂=>?_) λ_ _ x=>x) λ_ _ x=>x);obtain⟨hT,h₂⟩:=h₂;unfold subscriptTail;refine AAA ?_;rw[getitemInPython_of_ne hT.not_modules];refine AAA (wpAny_specialOf hT hl ?_);have fin:wpAny (model prog w) A (subscripted slice false o i) (λr s₃=>wpAny (model prog w) A (letTemporaryGo value o r >>= λ_=>pure r) Q E s₃) E s₂:=by
  rw[hs o i];exact wpAny_operating (AAh h₂ (λr s₃ h₃=>AAA (wpAny_letTemporaryGo (AAB h₃))) λ_ _ x=>x)
 first
  |exact AAB (AAA fin)
  |exact AAA (AAB (AAA fin))
  |exact AAA fin
noncomputable def YD(ty td:TE):TE:=λσ H Q=>ty σ H λy H1=>td σ H1 λx H2=>∃a o,x=.ref a/\DGet H2 a y o/\Q (.bl o.isSome) H2
noncomputable def YG(td ty tv:TE):TS:=λD σ H=>tv σ H λv H1=>td σ H1 λx H2=>ty σ H2 λy H3=>∃a H4,x=.ref a/\DPut H3 a y v H4/\D.nx σ H4
section
variable{X:Cx}{o i value:Expr}{pos pos':Pos}{td ty tv:TE}
theorem WY(hu:X.A.units+1<cLine)(hi:PE X i ty)(ho:PE X o td):PC X .In i o (YD ty td):=by
 intro pins s σ H Q I h;refine thn (hi pins s σ H _ I h) λiv s1 ⟨y,H1,I1,ry,q1⟩=>thn (ho pins s1 σ H1 _ I1 q1) λu s2 ⟨x,H2,I2,rx,a,ov,ex,g,q2⟩=>?_;subst ex;obtain rfl:u=Value.ref a:=rx;exact Zt hu I2 g ry λs3 I3=>⟨.bl ov.isSome,H2,I3,rfl,q2⟩
theorem Tx(hu:X.A.units+1<cLine)(ho:PE X o td)(hi:PE X i ty)(hv:PE X value tv)(hs:swapsWith value (some (.Subscript o i pos')) pos.line X.env=pure false):
  PS X (.Assign [.Subscript o i pos'] value pos) (YG td ty tv):=by
 intro pins s σ H D I h;refine wpAny_Assign_Subscript (thn (hv pins s σ H _ I h) λr s1 ⟨v,H1,I1,rv,q1⟩=>thn (ho pins s1 σ H1 _ I1 q1) λu s2 ⟨x,H2,I2,rx,q2⟩=>thn (hi pins s2 σ H2 _ I2 q2) λiv s3 ⟨y,H3,I3,ry,a,H4,ex,g,q3⟩=>?_) hs;subst ex;obtain rfl:u=Value.ref a:=rx;exact Pm hu I3 g ry rv λs4 I4=>⟨σ,H4,I4,q3⟩
end
theorem SS{P:Program}{w:World}{H:Hp}(h:Heap)(hb:sysModules<h.objs.size):ObjOk P w H (h.push { cls:=.type "dict",data:=.dict #[] }) h.objs.size (.dK []):=
 ⟨AAi _,AAe.mpr (Ne.symm (AAd hb)),[],.nil,Heap.DictOf.new h⟩
noncomputable def Vm:TE:=λ_ H Q=>∀p,H p=none->Q (.ref p) (upd H p (.dK []))
section
variable{X:Cx}{pos:Pos}
theorem RM:PE X (.Dict [] [] pos) Vm:=λpins s σ H Q I h=>
 wpAny_Dict_empty ⟨.ref s.heap.objs.size,_,I.laid (a:=s.heap.objs.size) (o:=.dK []) (t':=s.toks) (λ_ _ q=>AAC _ q) (AAF _) (SS s.heap I.big),rfl,h _ (I.hok.fresh (AAF _))⟩
end
structure M1(X:Cx)(o:Expr)(m:Str)(apos:Pos)(e:Expr)(cpos:Pos):Prop where
 base:attributeBase o m X.env (eval o X.env)=eval o X.env
 few:((backTo cpos (starEach [e] X.env)).all (λx=>!x.1)&&(backToKw cpos (keywordEach [] X.env)).all (λx=>x.1.isSome)
  && decide (([e]:List Expr).length+([]:List Keyword).length+(if ([]:List Keyword).isEmpty then 0 else 1)<30))=true
 line:(apos.endLine==cpos.line)=true
 trees:backTo cpos (starEach [e] X.env)=[(false,eval e X.env)]
def IsD(H:Hp)(a:Addr):Prop:=(∃kvs,Rd H a (.dK kvs))∨∃kvs,Rd H a (.dT kvs)
theorem XL{X:Cx}{pins:List (Addr×Obj)}{σ:St}{H:Hp}{s:Shared}{a:Addr}(I:Inv X pins σ H s)(d:IsD H a):
  s.TypeIs (.ref a) "dict" /\ (∀b,Value.ref a=.ref b->∃ob,s.heap.get? b=some ob/\ob.dict=none)/\(a==sysModules)=false:=by
 rcases d with ⟨kvs,e⟩|⟨kvs,e⟩
 ·obtain⟨_,hd,vs,_,dd⟩:=OR I.hok e;refine⟨dd.typeIs,λb q=>?_,hd⟩;cases q;obtain⟨ob,_,_,h1,h2,_⟩:=dd;exact⟨ob,h1,h2.2.1⟩
 ·obtain⟨_,hd,xs,_,dd⟩:=OP I.hok e;refine⟨dd.typeIs,λb q=>?_,hd⟩;cases q;obtain⟨ob,_,_,h1,h2,_⟩:=dd;exact⟨ob,h1,h2.2.1⟩
section
variable{X:Cx}{pins:List (Addr×Obj)}{σ:St}{H:Hp}{s:Shared}{a:Addr}{y:V}{u:Value}{o:Option V}{A:Around}{E:Value->Shared->Prop}
theorem Xf{Q:Value->Shared->Prop}(hu:A.units+1<cLine)(I:Inv X pins σ H s)(g:DGet H a y o)(ry:RelV y u)(h:∀w' s',Inv X pins σ H s'->RelV (o.getD .non) w'->Q w' s'):
  wpAny (model X.prog X.w) A (call (.builtin "dict.get") [.ref a,u]) Q E s:=by
 rcases g with ⟨kvs,k,e,ey,l⟩|⟨kvs,k,b,e,ey,eb,l⟩
 ·subst ey;obtain⟨z,hd,vs,rel,dd⟩:=OR I.hok e;refine call_meetsIn PySem.F.slot_dict_get dd.typeIs PySem.F.entry_dict_get (PySem.F.args_dict_get_2 _ _) (meets_dict_get (B0 X.prog X.w) a (OG ry) hd) ⟨_,dd.mapOf,h _ _ (I.tok _) ?_⟩;rw[l];exact(rel.val k).getD rfl
 ·subst ey;cases (show u=Value.ref b from ry);obtain⟨z,hd,xs,rel,dd⟩:=OP I.hok e;refine call_meetsIn PySem.F.slot_dict_get dd.typeIs PySem.F.entry_dict_get (PySem.F.args_dict_get_2 _ _) (meetsH_dict_get (tupleKind (B0 X.prog X.w)) a b hd) ⟨tupleKind_room_in1 hu,k,xs,Ku I.hok eb,dd,h _ _ (I.tok _) ?_⟩;rw[l];exact(rel.val k).getD rfl
end
noncomputable def Vn(td ty:TE):TE:=λσ H Q=>td σ H λx H1=>∃a,x=.ref a/\IsD H1 a/\ty σ H1 λy H2=>∃o,DGet H2 a y o/\Q (o.getD .non) H2
section
variable{X:Cx}{o e:Expr}{apos cpos:Pos}{td ty:TE}
theorem RN(hu:X.A.units+1<cLine)(ho:PE X o td)(he:PE X e ty)(m:M1 X o "get" apos e cpos):PE X (.Call (.Attribute o "get" apos) [e] [] cpos) (Vn td ty):=by
 intro pins s σ H Q I h;refine wpAny_Call_method m.base m.few m.line PySem.F.plainAttrs_dict PySem.F.slot_dict_get PySem.F.type_dict_get (thn (ho pins s σ H _ I h) λu s1 ⟨x,H1,I1,rx,a,ex,d,q1⟩=>?_);subst ex;obtain rfl:u=Value.ref a:=rx;obtain⟨t1,t2,_⟩:=XL I1 d;refine⟨t1,t2,?_⟩;rw[m.trees];refine Calls.callWith_builtin rfl (Calls.evalArgs_plain (Calls.spliced_cons (thn (he pins s1 σ H1 _ I1 q1) λiv s2 ⟨y,H2,I2,ry,ov,g,q2⟩=>Calls.spliced_nil ?_)));exact Xf hu I2 g ry λw' s3 I3 rw'=>⟨_,H2,I3,rw',q2⟩
end
end L2
namespace Att
open PySem PySem.W PySem.Calls PyProof.Rows
theorem Hb{P:Params}{h:Heap}:∀(ns:List Int) (vs:List Value),WellAll P h vs (ns.map WData.int)->IntsAre vs ns:=by
 intro ns
 induction ns with
 |nil=>
  intro vs w;rw[List.map_nil] at w;cases w;exact .nil
 |cons n ns ih=>
  intro vs w;rw[AAX] at w;cases w with
  |cons a b=>
   cases a;exact .cons _ _ (ih _ b)
theorem Oo{l:OpenLaw}{n:Nat}(hn:l.most=some n){P:Params}{h:Heap}{args:List WData}{vals:List Value}
  (hpre:l.row.toRowW.claim.pre args=true) (hwl:WellAll P h vals args) :
  ∃a vs ns,vals=[Value.ref a]/\args=[WData.list (ns.map WData.int)]/\h.get? a=some { cls:=.type "list",data:=.seq vs.toArray }/\IntsAre vs ns/\ns.length<=n:=by
 have hsh:WShape.hasAll [] args [.list .int]=true:=(pre_splitW hpre).1;have hc:l.pre.holds [] { args:=args }=true:=(pre_splitW hpre).2;obtain⟨d,r,rfl,h1,h2⟩:=hasAllW_cons hsh;obtain rfl:=hasAllW_nil h2;obtain⟨xs,rfl,h3⟩:=hasW_list h1;obtain⟨ns,rfl⟩:=items_int h3;have hlen:ns.length<=n:=by
  unfold OpenLaw.pre at hc;have h4:(WTm.not (.lt (.lit (.int (n:Int))) (.len (.arg 0)))).holds [] { args:=[.list (ns.map .int)] }=true:=by
   have h4:=(holds_andW hc).1;rw[hn] at h4;exact h4
  have h5:=condW_of h4 (w_not (w_lt w_lit (w_len_list (w_arg rfl))));rw[AAG] at h5;refine Nat.le_of_not_lt λq=>?_;have q':(n:Int)<((ns.length:Nat):Int):=by omega
  first
   |(rw[AAP q'] at h5;exact absurd h5 (by decide))
   |(simp at h5;omega)
 cases hwl with
 |cons w1 w2=>
  cases w2;cases w1 with
  |list ho hall=>exact⟨_,_,ns,rfl,rfl,ho,Hb ns _ hall,hlen⟩
theorem Oy(l:OpenLaw)(args:List WData):l.row.toRowW.claim.post args (.bool true) args=true:=
 postW_of (r:=l.row.toRowW) (X:=(true==true))
  (show WShape.has [] (.bool true) .bool=true by first|rfl|decide|simp[WShape.has,WShape.arms,WShape.armsAll])
  (show (WTm.eq .res (.lit (.bool true))).value [] { args:=args,res:=some (.bool true),after:=args }=some (.bool (true==true)) from w_eq_bool (w_res rfl) w_lit) rfl
theorem MX{l:OpenLaw}{n:Nat}{q:Program}{loose:List Str}{XP:(Str->Option Value)->Heap->Prop}{YP:World->Heap->Prop}{d:DefRec}
  (hn:l.most=some n) (hdf:d.params.defaults=[])
  (call:∀(w:World) (s₀ s₁:Shared) (mg mb:Str->Option Value) (fa:Addr) (o:Obj) (pm cd doc:Value) (a:Addr) (vs:List Value) (ns:List Int),
   Ground q loose [] XP w s₀ mg mb s₁.heap->YP w s₁.heap->
   s₁.heap.get? fa=some o->o.data=.func (docDef d.name d.params d.body d.scope pm cd doc)->s₁.heap.CodeRec cd d.name->mg d.name=some (.ref fa)->
   s₁.heap.get? a=some { cls:=.type "list",data:=.seq vs.toArray }->IntsAre vs ns->ns.length<=n->s₁.gens=#[]->
   codeAny (model l.prog w) callerA (.call (.ref fa) ⟨[.ref a],[]⟩) (λr s'=>r=.ok (.ret (.bool true))/\OldK s₁.heap s'.heap/\s'.os=s₁.os/\AllBare s'.gens) s₁) :
  WalkO q loose XP YP l.row.toRowW d [] (λf vs=>PySem.call f vs):=by
 intro w s₀ s₁ mg mb G Y fa o pm cd doc dV kV ho hd hcd hD hmg hg args vals as hpre hlay hrd hwl hlo;obtain rfl:dV=.none:=Dflts.none hD hdf;obtain rfl:kV=.none:=Dflts.noKw hD;obtain⟨a,vs,ns,rfl,rfl,hobj,hints,hlen⟩:=Oo hn hpre hwl;refine enter_call (codeAny_mono (call w s₀ s₁ mg mb fa o pm cd doc a vs ns G Y ho (fd_plain hd) hcd hmg hobj hints hlen hg) λr s' hq=>?_);obtain⟨rfl,h2,h3,h4⟩:=hq;exact⟨.inl ⟨.bool true,.bool true,[],rfl,λ_=>rfl,.bool true,Oy l _,λ_=>⟨List.Pairwise.nil,λ_ hm=>(nomatch hm)⟩⟩,h2,h3,h4⟩
end Att
namespace L2
open PySem PySem.Spec PyProof.Rows
theorem Je:∀{vs:List Value} {ns:List Int},IntsAre vs ns->Vals (ns.map V.int) vs
 |_,_,.nil=>.nil
 |_,_,.cons n t h=>.cons ⟨t,rfl⟩ (Je h)
def U3(H:Hp):Prop:=∀b,H b=none∨∃o xs,H b=some (.frz o (.lst xs))
theorem Rr{P:Program}{w:World}{K:PySem.W.Frag}{mg mb:Str->Option Value}{CX:CXT}{k:Nat}{fa a:Addr}{fd:FuncData}{x:Str}{sp:Sp}{s₁:Shared}{vs:List Value}{ns:List Int}
  (KX:K.In s₁.heap) (hns:s₁.heap.Ns mainGlobals mg) (hb:s₁.heap.Ns builtinsNs mb) (hbb:∀x:Str,x ≠ "__name__" -> mb x=bootBuiltins x) (hlim:s₁.heap.NoLimit) (hg:s₁.gens=#[])
  (ha:s₁.heap.get? a=some { cls:=.type "list",data:=.seq vs.toArray }) (hi:IntsAre vs ns) (hl:ns.length<=sizeLine) (hr:Room k callerA)
  (F:∀base:Heap,K.In base->base.Ns mainGlobals mg->FnOk P w K mg base CX k fa fd [x] sp) (hbind:∀(s:Shared) (u:Value),BindsTo s fd ⟨[u],[]⟩ [(x,u)])
  (hsp:∀H:Hp,U3 H->SqL K H a (ns.map V.int)->sp [.ref a] H (λv _=>v=.bl true) λ_ _ _=>False)
  (hCX:∀H e s',CX [] H s₁ (λ_ _ _=>False) e s'->False) :
  codeAny (model P w) callerA (.call (.ref fa) ⟨[.ref a],[]⟩) (λr s'=>r=.ok (.ret (.bool true))/\OldK s₁.heap s'.heap/\s'.os=s₁.os/\AllBare s'.gens) s₁:=by
 have rv:=Je hi;have lenV:=hi.length;have core:∀H:Hp,U3 H->SqL K H a (ns.map V.int)->HOk P w H s₁.heap->(∀b,H b≠none->b=a)->(H a≠none->K.lookup a=none)->
   codeAny (model P w) callerA (.call (.ref fa) ⟨[.ref a],[]⟩) (λr s'=>r=.ok (.ret (.bool true))/\OldK s₁.heap s'.heap/\s'.os=s₁.os/\AllBare s'.gens) s₁:=by
  intro H hO hS hok hA hK;have base_of:∀{b:Addr} {o:Obj},s₁.heap.get? b=some o->H b=none->(K0 s₁.heap H).get? b=some o:=λe n=>SG e n;have noA:∀{b:Addr} {o:Obj} {es:Array DictEntry} {ep:Nat},s₁.heap.get? b=some o->o.data=.dict es ep->H b=none:=λ{b o es ep} e d=>by
   cases q:H b with
   |none=>rfl
   |some u=>
    have e':b=a:=hA b (by rw[q];simp);subst e';rw[ha] at e;cases e;have d':Data.seq vs.toArray _=Data.dict es ep:=d;cases d'
  have nsK:∀{b:Addr} {m:Str->Option Value},s₁.heap.Ns b m->(K0 s₁.heap H).Ns b m:=λ{b m} ⟨o,es,ep,e,d,r⟩=>⟨o,es,ep,base_of e (noA e d),d,r⟩;have hKb:K.In (K0 s₁.heap H):=λb o e=>base_of (KX b o e) (by
   cases q:H b with
   |none=>rfl
   |some u=>
    have e':b=a:=hA b (by rw[q];simp);subst e';rw[hK (by rw[q];simp)] at e;cases e)
  have hM:Mod K mg (K0 s₁.heap H):=⟨hKb,nsK hns,⟨mb,nsK hb,hbb⟩,let ⟨mc,h1,h2⟩:=hlim;⟨mc,nsK h1,h2⟩⟩;have e0:U4 P w K mg (K0 s₁.heap H) callerA [] s₁ H:=⟨rfl,hM,λb o e=>UE e,Nat.le_of_eq (PX _ _),trivial,λb hb=>absurd (show b∈([]:List Addr) from hb) (by simp),hok,.of_eq hg⟩;refine codeAny_mono ((F _ hKb (nsK hns)).run callerA [] s₁ H ⟨[.ref a],[]⟩ [.ref a] [.ref a] _ _ hr e0 (hbind s₁ (.ref a)) (.cons rfl .nil) (hsp H hO hS)) λr s' h=>?_;cases r with
  |error e=>exact(hCX H e s' h).elim
  |ok fl=>
   cases fl with
   |next=>exact False.elim h
   |brk=>exact False.elim h
   |cont=>exact False.elim h
   |ret u=>
    obtain⟨v,H',os,bare,un,hok',r',q⟩:=h;have q':v=.bl true:=q;subst q';obtain rfl:u=Value.bool true:=r';refine⟨rfl,OldK.of_keep λb o e=>?_,os,bare⟩;cases q:H b with
    |none=>exact un.keep b o e q (by intro z;exact absurd (show b∈([]:List Addr) from z) (by simp)) (by simp)
    |some u=>
     rcases hO b with z|⟨ob,xs,z⟩
     ·rw[q] at z;cases z
     ·have z2:=un.frzs b ob _ z;obtain⟨e1,_⟩:=hok b _ z;obtain⟨e2,_⟩:=hok' b _ z2;rw[e] at e1;cases e1;exact e2
 cases hk:K.lookup a with
 |some o=>
  have e:=KX a o hk;rw[ha] at e;cases e;refine core (λ_=>none) (λ_=>.inl rfl) (.inr ⟨_,vs.toArray,_,hk,rfl,rfl,rfl,by rw[List.size_toArray,lenV];exact hl,by simpa using rv⟩) (λb u z=>by have z':(none:Option HO)=some u:=z;cases z') (λb z=>absurd rfl z) λz=>absurd rfl z
 |none=>
  refine core (λb=>if b=a then some (.frz { cls:=.type "list",data:=.seq vs.toArray } (.lst (ns.map V.int))) else none) (λb=>?_) (.inl (.inr ⟨{ cls:=.type "list",data:=.seq vs.toArray },if_pos rfl⟩)) (λb u z=>?_) (λb z=>?_) λ_=>hk
  ·by_cases hb:b=a
   ·exact .inr ⟨_,_,if_pos hb⟩
   ·exact .inl (if_neg hb)
  ·by_cases hb:b=a
   ·have z':=(if_pos hb).symm.trans z;cases z';subst hb;exact⟨ha,by rw[AAG];exact hl,vs,_,rv,ha⟩
   ·have z':=(if_neg hb).symm.trans z;cases z'
  ·by_cases hb:b=a
   ·exact hb
   ·exact absurd (if_neg hb) z
theorem TF{l:PySem.W.OpenLaw}{n k:Nat}{q:Program}{loose:List Str}{XP:(Str->Option Value)->Heap->Prop}{YP:World->Heap->Prop}{d:DefRec}{K:Params->PySem.W.Frag}{CX:World->CXT}{sp:World->Sp}{x:Str}
  (hn:l.most=some n) (hn2:n<=sizeLine) (hdf:d.params.defaults=[]) (hr:Room k callerA)
  (hY:∀(w:World) (h:Heap),YP w h->(K w.params).In h)
  (F:∀(w:World) (mg:Str->Option Value) (fa:Addr) (h:Heap),(K w.params).In h->h.Ns mainGlobals mg->mg d.name=some (.ref fa)->
   ∃fd:FuncData,(∀(s:Shared) (u:Value),BindsTo s fd ⟨[u],[]⟩ [(x,u)]) /\
    ∀base:Heap,(K w.params).In base->base.Ns mainGlobals mg->FnOk l.prog w (K w.params) mg base (CX w) k fa fd [x] (sp w))
  (hsp:∀(w:World) (H:Hp) (a:Addr) (ns:List Int),ns.length<=n->U3 H->SqL (K w.params) H a (ns.map V.int)->sp w [.ref a] H (λv _=>v=.bl true) λ_ _ _=>False)
  (hCX:∀(w:World) (H:Hp) (s:Shared) (e:Value) (s':Shared),CX w [] H s (λ_ _ _=>False) e s'->False) :
  PySem.W.WalkO q loose XP YP l.row.toRowW d [] (λf vs=>PySem.call f vs):=by
 refine Att.MX hn hdf λw s₀ s₁ mg mb fa o pm cd doc a vs ns G Y ho hd hcd hmg hobj hints hlen hg=>?_;have KX:=hY w _ Y;obtain⟨fd,hb,hF⟩:=F w mg fa _ KX G.T.g hmg;exact Rr KX G.T.g G.T.b G.T.builtins G.T.nolimit hg hobj hints (AAq hlen hn2) hr hF hb (λH hO hS=>hsp w H a ns hlen hO hS) λH e s'=>hCX w H s₁ e s'
noncomputable def Go(s:Stmt):Arguments:=match s with
 | .FunctionDef _ a _ _ _ _ _ _ _ _=>a
 |_=>{ posonlyargs:=[],args:=[],vararg:=none,kwonlyargs:=[],kw_defaults:=[],kwarg:=none,defaults:=[] }
noncomputable def Af(s:Stmt):List Stmt:=match s with
 | .FunctionDef _ _ b _ _ _ _ _ _ _=>b
 |_=>[]
noncomputable def AK(s:Stmt):Scope:=match s with
 | .FunctionDef _ _ _ _ _ _ sc _ _ _=>sc
 |_=>{ kind:=.function,names:=[],isGenerator:=false,isCoroutine:=false }
noncomputable abbrev CX0:CXT:=λ_ _ _ _ _ _=>False
noncomputable abbrev E0:XK:=λ_ _ _=>False
theorem VC{X:Cx}:LK CX0 X E0:=λ_ _ _ _ _ _ _ h=>h.elim
structure Fun(K:PySem.W.Frag)(x qual:Str)(st:Stmt)(f:Addr)(fd:FuncData):Prop where
 ex:∃(oc:Value) (od:Option Addr) (kV doc pm:Value) (an:Option Addr) (cdv ct:Value) (osl:Array (Option Value)),
  fd=PySem.W.fnOf x qual (Go st) (Af st) (AK st) .none kV doc pm an cdv ct/\K.lookup f=some ⟨oc,od,.func fd,osl⟩/\PySem.W.codeIn K cdv qual=true
 kp:PySem.W.keepIn K (.ref f)=true
section
variable{P:Program}{w:World}{K:PySem.W.Frag}{mg:Str->Option Value}{base:Heap}
theorem Fun.ok{x qual:Str}{st:Stmt}{f:Addr}{fd:FuncData}{N ps:List Str}{k:Nat}{sp:Sp}(F:Fun K x qual st f fd)(S:Aj N ps (AK st))(len:∀vs H Q E,sp vs H Q E->vs.length=ps.length)
  (hbody:∀(cdv:Value) (A:Around) (outer:List Env) (s:Shared) (H:Hp) (vs:List V) (Q:VK) (E:XK),Room k (A.deeper (envOfC qual (AK st) s.heap.objs.size f cdv))->sp vs H Q E->
   ∃t,PSs (BY CX0 P w K mg base N qual (AK st) f cdv A outer s H E).nox (Af st) t/\t { nx:=λ_ H'=>Q .non H',rt:=Q } (start N vs) H):FnOk P w K mg base CX0 (k+1) f fd ps sp:=by
 obtain⟨oc,od,kV,doc,pm,an,cdv,ct,osl,rfl,lk,hcd⟩:=F.ex;refine VN lk hcd S len λA outer s H vs Q E hr hsp=>?_;obtain⟨t,h,q⟩:=hbody cdv A outer s H vs Q E hr hsp;exact⟨t,h.nox,q⟩
theorem Fun.binds{x qual:Str}{st:Stmt}{f:Addr}{fd:FuncData}{ps:List Str}(F:Fun K x qual st f fd)
  (h:∀(kV doc pm:Value) (an:Option Addr) (cdv ct:Value) (us:List Value),us.length=ps.length->bindArgs (PySem.W.fnOf x qual (Go st) (Af st) (AK st) .none kV doc pm an cdv ct) ⟨us,[]⟩=pure (ps.zip us)):Binds K fd ps []:=by
 obtain⟨oc,od,kV,doc,pm,an,cdv,ct,osl,rfl,lk,hcd⟩:=F.ex;exact .all (h kV doc pm an cdv ct)
theorem XR{x qual:Str}{st:Stmt}{f:Addr}{oc:Value}{od an:Option Addr}{osl:Array (Option Value)}{kV doc pm cdv ct:Value}(l:K.lookup f=some ⟨oc,od,.func (PySem.W.fnOf x qual (Go st) (Af st) (AK st) .none kV doc pm an cdv ct),osl⟩)
  (c:PySem.W.codeIn K cdv qual=true) (k:PySem.W.keepIn K (.ref f)=true):Fun K x qual st f (PySem.W.fnOf x qual (Go st) (Af st) (AK st) .none kV doc pm an cdv ct):=⟨⟨oc,od,kV,doc,pm,an,cdv,ct,osl,rfl,l,c⟩,k⟩
end
theorem SF{A:Around}{k:Nat}(hr:Room k A):A.units+1<cLine:=AAp (Nat.add_le_add_left (by decide:1<=64) _) hr.units
theorem Ol{n:Nat}(h:n<=1000):n<sizeLine:=AAp h (by decide)
section
variable{κ:Type}[DecidableEq κ]
end
noncomputable def EV(env:Env):List (Str×NameKind)->List (Str×Addr)->List (Str×Addr)
 |[],cs=>cs
 |(n,k)::r,cs=>EV env r (if k==.free then (match env.cells.lookup n with|some c=>(n,c)::cs|none=>cs) else cs)
theorem Dg{env:Env}:∀(l:List (Str×NameKind)) (cs:List (Str×Addr)),(∀x∈l,x.2=.free->∃c,env.cells.lookup x.1=some c)->
  (forIn l cs λ(x:Str×NameKind) (r:List (Str×Addr))=>(if (x.2==NameKind.free)=true then (do let a ←cellOf env x.1;pure (ForInStep.yield ((x.1,a)::r))) else pure (ForInStep.yield r):Sem (ForInStep (List (Str×Addr)))))=pure (EV env l cs)
 |[],cs,_=>by rw[List.forIn_nil];rfl
 |(n,k)::r,cs,h=>by
  have hr:∀x∈r,x.2=.free->∃c,env.cells.lookup x.1=some c:=λx hx=>h x (AAR _ hx);rw[List.forIn_cons];by_cases hk:k=.free
  ·subst hk;obtain⟨c,hc⟩:=h (n,.free) AAQ rfl;have e:cellOf env n=pure c:=by unfold cellOf;rw[hc]
   dsimp only;rw[if_pos (by decide),e,pure_bind,pure_bind];dsimp only;rw[Dg r _ hr];show _=pure (EV env r (if (NameKind.free==NameKind.free)=true then (match env.cells.lookup n with|some c=>(n,c)::cs|none=>cs) else cs));rw[if_pos (by decide),hc]
  ·have hb:¬(k==NameKind.free)=true:=by simpa using hk
   dsimp only;rw[if_neg hb,pure_bind];dsimp only;rw[Dg r _ hr];show _=pure (EV env r (if (k==NameKind.free)=true then (match env.cells.lookup n with|some c=>(n,c)::cs|none=>cs) else cs));rw[if_neg hb]
theorem DL{scope:Scope}{env:Env}(h:∀x∈scope.names,x.2=.free->∃c,env.cells.lookup x.1=some c):closureFor scope env=pure (EV env scope.names []):=by
 have e:=Dg (env:=env) scope.names [] h;unfold closureFor;dsimp only;rw[←bind_pure (pure (EV env scope.names [])),←e]
theorem El{env:Env}:∀(l:List (Str×NameKind)) (cs:List (Str×Addr)),(∀x c,cs.lookup x=some c->env.cells.lookup x=some c)->∀x c,(EV env l cs).lookup x=some c->env.cells.lookup x=some c
 |[],cs,h=>h
 |(n,k)::r,cs,h=>by
  refine El r _ ?_;intro x c;by_cases hk:(k==NameKind.free)=true
  ·rw[if_pos hk];cases hl:env.cells.lookup n with
   |none=>exact h x c
   |some d=>
    intro q;by_cases hx:x=n
    ·subst hx;rw[List.lookup_cons_self] at q;rw[hl];exact q
    ·have hb:(x==n)=false:=AAe.mpr hx;simp only[List.lookup_cons,hb] at q;exact h x c q
  ·rw[if_neg hk];exact h x c
theorem JI{env:Env}:∀(l:List (Str×NameKind)) (cs:List (Str×Addr)) (x:Str),(cs.lookup x).isSome=true->((EV env l cs).lookup x).isSome=true
 |[],cs,x,h=>h
 |(n,k)::r,cs,x,h=>by
  refine JI r _ x ?_;by_cases hk:(k==NameKind.free)=true
  ·rw[if_pos hk];cases hl:env.cells.lookup n with
   |none=>exact h
   |some d=>
    by_cases hx:(x==n)=true
    ·simp only[List.lookup_cons,hx,Option.isSome_some]
    ·have hb:(x==n)=false:=by simpa using hx
     simp only[List.lookup_cons,hb];exact h
  ·rw[if_neg hk];exact h
theorem MP{env:Env}:∀(l:List (Str×NameKind)) (cs:List (Str×Addr)) (x:Str) (c:Addr),(x,NameKind.free)∈l->env.cells.lookup x=some c->((EV env l cs).lookup x).isSome=true
 |[],cs,x,c,h,_=>by simp at h
 |(n,k)::r,cs,x,c,h,hc=>by
  rcases AAJ.mp h with e|e
  ·obtain⟨rfl,rfl⟩:=Prod.mk.inj e;refine JI r _ _ ?_;rw[if_pos (by decide),hc];simp only[List.lookup_cons_self,Option.isSome_some]
  ·exact MP r _ x c e hc
theorem J4{env:Env}{l:List (Str×NameKind)}{x:Str}{c:Addr}(h:(x,NameKind.free)∈l)(hc:env.cells.lookup x=some c):(EV env l []).lookup x=some c:=by
 obtain⟨d,hd⟩:=Option.isSome_iff_exists.mp (MP l [] x c h hc);have:=El l [] (λ_ _ z=>by simp at z) x d hd;rw[hc] at this;cases this;exact hd
noncomputable def Cu:List (Str×NameKind)->List Str
 |[]=>[]
 |(n,.free)::r=>n::Cu r
 |_::r=>Cu r
theorem GG{x:Str}:∀{l:List (Str×NameKind)},x∈Cu l->(x,NameKind.free)∈l
 |[],h=>by simp[Cu] at h
 |(n,k)::r,h=>by
  cases k<;>first
   |(rcases AAJ.mp (show x∈n::Cu r from h) with e|e;{subst e;exact AAQ};{exact AAR _ (GG e)})
   |exact AAR _ (GG (show x∈Cu r from h))
theorem Jt{x:Str}:∀{l:List (Str×NameKind)},(x,NameKind.free)∈l->x∈Cu l
 |[],h=>by simp at h
 |(n,k)::r,h=>by
  rcases AAJ.mp h with e|e
  ·cases e;exact AAQ
  ·have ih:=Jt e;cases k<;>first
    |exact AAR _ ih
    |exact ih
theorem FZ{x:Str}(f:Str×NameKind->Str×NameKind)(hf:∀p,f p=p∨p.2=.free/\f p=(p.1,.cell)):∀(l:List (Str×NameKind)) (k:NameKind),(l.map f).lookup x=some k->l.lookup x=some k∨l.lookup x=some .free/\k=.cell
 |[],_,h=>nomatch h
 |(y,j)::l,k,h=>by
  have rest:=FZ (x:=x) f hf l k;rw[AAX] at h;rcases hf (y,j) with e|⟨ej,e⟩<;>rw[e] at h<;>cases he:x==y<;>simp only[List.lookup_cons,he] at h ⊢
  ·exact rest h
  ·exact .inl h
  ·exact rest h
  ·cases h;cases (show j=NameKind.free from ej);exact .inr ⟨rfl,rfl⟩
theorem Dw{scope:Scope}{env:Env}{x:Str}{k:NameKind}(h:(relabel scope env).names.lookup x=some k):scope.names.lookup x=some k∨scope.names.lookup x=some .free/\k=.cell:=by
 unfold relabel at h;refine FZ _ (λp=>?_) _ _ h;obtain⟨n,j⟩:=p;dsimp only;split
 ·rename_i hc;refine .inr ⟨?_,rfl⟩;simp only[Bool.and_eq_true,beq_iff_eq] at hc;exact hc.1.1
 ·exact .inl rfl
noncomputable def Jl(ix:List Nat)(σ:St):St:=ix.map λj=>(σ[j]?).getD none
noncomputable def cxB(X:Cx)(scope:Scope)(tgs:List Str)(fp:List Addr)(C:Addr)(s:Shared)(H:Hp):Cx:=
 { X with N:=tgs++Cu scope.names,s₀:=s,H₀:=H,env:=compEnvC scope (EV X.env scope.names []) C X.env,outer:=X.stack,ex:=fp,fn:=λ_=>false,pn:=[],xe:=λ_ _=>False }
noncomputable def Xp{α:Type}(P:α->Prop):List α->Prop
 |[]=>True
 |x::r=>P x/\Xp P r
theorem JR{α:Type}{P:α->Prop}:∀{l:List α},Xp P l->∀x∈l,P x
 |[],_,_,h=>by simp at h
 |_::_,h,x,hx=>by
  rcases AAJ.mp hx with e|e
  ·subst e;exact h.1
  ·exact JR h.2 x e
structure BScope(X:Cx)(scope:Scope)(tgs:List Str)(ix:List Nat):Prop where
 kind:scope.kind=.function
 nocell:∀y∈scope.names,y.2≠.cell
 loc:∀y∈scope.names,y.2=.local->scope.names.lookup y.1=some .local
 fre:Xp (λx=>X.env.kindOf x=some .cell∨X.env.kindOf x=some .free) (Cu scope.names)
 ixs:(Cu scope.names).map some=ix.map λj=>X.N[j]?
 ndl:∀x∈Cu scope.names,scope.names.lookup x=some .free
section
variable{X:Cx}{scope:Scope}{tgs:List Str}{ix:List Nat}
theorem BScope.cells(S:BScope X scope tgs ix)(ok:X.Ok):∀x∈scope.names,x.2=.free->∃c,X.env.cells.lookup x.1=some c:=λx hx hk=>by
 obtain⟨n,k⟩:=x;subst hk;exact ok.has n (JR S.fre n (Jt hx))
theorem Inv.cellLt{pins:List (Addr×Obj)}{σ:St}{H:Hp}{s:Shared}(I:Inv X pins σ H s){x:Str}{c:Addr}(e:X.env.cells.lookup x=some c):c<s.heap.objs.size:=by
 obtain⟨v,q⟩:=I.cell x c e;exact q.lt
theorem Inv.track{pins:List (Addr×Obj)}{σ:St}{H:Hp}{s:Shared}{D:Addr}{o:HO}(I:Inv X pins σ H s)(f:Eo X pins H D)(new:ObjOk X.prog X.w (upd H D o) s.heap D o):Inv X pins σ (upd H D o) s:=by
 obtain⟨f0,f1,f2,f3,f4,f5⟩:=f;have nD:∀b u,H b=some u->b≠D:=λb u e z=>by rw[z,f0] at e;cases e
 have:=I.step (h':=s.heap) (H':=upd H D o) (g':=s.gens) (t':=s.toks) (d':=s.drawn) (ch:=[D]) (λb hb=>?_) (λb u _ _ _ e _=>e) (λb u _ _ _ e _=>⟨u.slots,e⟩) (λb u hb e n=>?_) (λb u _ e=>⟨u,e⟩)
  (λb xs e=>?_) (λb u v e=>?_) (λb ps e=>?_) (λm hm=>hm) (λb u e=>?_) I.bare
 ·exact this
 ·have e:b=D:=by simpa using hb
  subst e;exact⟨f3,f1,f4,f5⟩
 ·rw[Ay (λz=>hb (by simp[z]))];exact n
 ·rw[Ay (nD b _ e)];exact e
 ·rw[Ay (nD b _ e)];exact e
 ·exact⟨#[],by rw[Ay (nD b _ e),e];simp⟩
 ·by_cases hb:b=D
  ·subst hb;rw[Be] at e;cases e;exact new
  ·rw[Ay hb] at e;exact(I.hok b u e).stay (λ_ _ _ q=>q) (λc q=>by rw[Ay (nD c _ q)];exact q) λc xs q=>by rw[Ay (nD c _ q)];exact q
theorem ND{pins:List (Addr×Obj)}{σ:St}{H:Hp}{s:Shared}{fp:List Addr}{C:Addr}(S:BScope X scope tgs ix)(I:Inv X pins σ H s)(hf:∀b∈fp,Eo X pins H b)(hfo:∀b∈fp,b<s.heap.objs.size)(hC:s.heap.objs.size<=C):
  (cxB X scope tgs fp C s H).Ok:=by
 have sub:∀x c,(EV X.env scope.names []).lookup x=some c->X.env.cells.lookup x=some c:=El scope.names [] (λ_ _ z=>by simp at z);refine⟨I.ok.mod,S.kind,I.ok.glob,I.ok.blt,hC,λx y c h1 h2=>I.ok.inj x y c (sub x c h1) (sub y c h2),λx hx=>?_,λx c h=>absurd h (by simp[cxB]),I.ok.hd,I.ok.frames,.inl rfl,λb hb=>⟨?_,λx c e=>?_⟩,λb o e=>I.bs b o e,
  AAq I.ok.bsz I.sz,λb o e hb=>?_,λb hb hz=>?_,I.stack,I.stkFree⟩
 ·have hx':(relabel scope X.env).names.lookup x=some .cell∨(relabel scope X.env).names.lookup x=some .free:=hx;have hm:(x,NameKind.free)∈scope.names:=by
   rcases hx' with h|h
   ·rcases Dw h with q|q
    ·exact absurd rfl (S.nocell _ (PySem.mem_of_lookup q))
    ·exact PySem.mem_of_lookup q.1
   ·rcases Dw h with q|q
    ·exact PySem.mem_of_lookup q
    ·exact absurd q.2 (by decide)
  obtain⟨c,hc⟩:=S.cells I.ok _ hm rfl;exact⟨c,J4 hm hc⟩
 ·exact λz=>absurd (hfo b hb) (by rw[z];exact Nat.not_lt.mpr hC)
 ·exact(hf b hb).2.2.2.2.1 x c (sub x c e)
 ·obtain⟨f0,f1,f2,f3,f4,f5⟩:=hf b hb;rcases f3 with z|z
  ·exact I.ok.noex b o e z
  ·exact absurd (Heap.lt_size (I.ok.bs b o e).1) (Nat.not_lt.mpr z)
 ·obtain⟨f0,f1,f2,f3,f4,f5⟩:=hf b hb;rcases AAJ.mp (I.stkSub b hz) with z|z
  ·exact f1 z
  ·exact f2 z
end
section
variable{X:Cx}{scope:Scope}{tgs:List Str}{ix:List Nat}
noncomputable abbrev Ct(tgs:List Str)(ix:List Nat)(σ:St):St:=List.replicate tgs.length none++Jl ix σ
theorem IR{σ:St}{k:Nat}{v:V}(h:(Ct tgs ix σ)[k]?=some (some v)):tgs.length<=k/\∃j,ix[k-tgs.length]?=some j/\σ[j]?=some (some v):=by
 have hk:tgs.length<=k:=by
  rcases Nat.lt_or_ge k tgs.length with z|z
  ·rw[AAT (by simpa using z),List.getElem?_replicate,if_pos z] at h;cases h
  ·exact z
 refine⟨hk,?_⟩;rw[AAS (by simpa using hk),AAk] at h;unfold Jl at h;rw[AAW] at h;cases e:ix[k-tgs.length]? with
 |none=>rw[e] at h;cases h
 |some j=>
  rw[e] at h;refine⟨j,rfl,?_⟩;have h':(σ[j]?).getD none=some v:=Option.some.inj h;cases q:σ[j]? with
  |none=>rw[q] at h';cases h'
  |some o=>
   rw[q] at h';have h'':o=some v:=h';rw[h'']
theorem Iz{pins:List (Addr×Obj)}{σ:St}{H:Hp}{s s4:Shared}{fp:List Addr}{C D:Addr}{o:Obj}(S:BScope X scope tgs ix)(I:Inv X pins σ H s)(hf:∀b∈fp,Eo X pins H b)(hfo:∀b∈fp,b<s.heap.objs.size)
  (hC:s.heap.objs.size<=C) (hD:s.heap.objs.size<=D) (hDC:D≠C) {m:Str->Option Value} (hn:s4.heap.Ns C m) (hk:∀b u,s.heap.get? b=some u->s4.heap.get? b=some u) (hos:s4.os=s.os) (hg:s4.gens=s.gens)
  (hDo:s4.heap.get? D=some o) (hcell:∀v,o.data≠.cell v):Inv (cxB X scope tgs fp C s H) [(D,o)] (Ct tgs ix σ) H s4:=by
 have ok:=ND (tgs:=tgs) (ix:=ix) (C:=C) S I hf hfo hC;have sub:∀x c,(EV X.env scope.names []).lookup x=some c->X.env.cells.lookup x=some c:=El scope.names [] (λ_ _ z=>by simp at z);refine⟨ok,hos,by rw[hg];exact I.bare,Un.kept hk,⟨m,hn,λk x v h1 h2 h3=>?_⟩,λx c e=>?_,I.hok.fresh hC,λx c e=>I.freeC x c (sub x c e),λp hp=>?_,I.hok.kept hk,?_⟩
 ·obtain⟨hkl,j,hj,hσ⟩:=IR h2;have h1':(Cu scope.names)[k-tgs.length]?=some x:=by
   have:(tgs++Cu scope.names)[k]?=some x:=h1
   rwa [AAS hkl] at this
  have hx:x∈Cu scope.names:=AAV h1';have hXN:X.N[j]?=some x:=by
   have e:=congrArg (λl=>l[k-tgs.length]?) S.ixs;simp only[AAW,h1',hj,Option.map_some] at e;exact(Option.some.inj e).symm
  have kx:=JR S.fre x hx;obtain⟨m0,hn0,hl⟩:=I.loc;obtain⟨u,r,l⟩:=hl j x v hXN hσ (by rcases kx with z|z;exact .inr (.inl z);exact .inr (.inr z));refine⟨u,r,?_⟩;rcases l with ⟨z,_⟩|⟨_,c,hc,q⟩
  ·rcases kx with y|y<;>rw[z] at y<;>cases y
  ·refine .inr ⟨?_,c,J4 (GG hx) hc,?_⟩
   ·have h3':(relabel scope X.env).names.lookup x=some .local∨(relabel scope X.env).names.lookup x=some .cell∨(relabel scope X.env).names.lookup x=some .free:=h3;rcases h3' with z|z|z
    ·exfalso;rcases Dw z with w|w
     ·have lk:scope.names.lookup x=some .local:=w;have:=S.ndl x hx;rw[lk] at this;cases this
     ·exact absurd w.2 (by decide)
    ·exact .inl z
    ·exact .inr z
   ·obtain⟨oc,hoc,hd⟩:=q;exact⟨oc,hk c oc hoc,hd⟩
 ·obtain⟨v,oc,hoc,hd⟩:=I.cell x c (sub x c e);exact⟨v,oc,hk c oc hoc,hd⟩
 ·have e:p=(D,o):=by simpa[cxB] using hp
  subst e;refine⟨hDo,I.hok.fresh hD,hDC,λhz=>?_,hcell⟩;have hz':D∈frs X.stack:=hz;rcases AAJ.mp (I.stkSub D hz') with z|z
  ·exact absurd I.lt (by rw[←z];exact Nat.not_lt.mpr hD)
  ·exact I.nofs hD z
 ·show (List.replicate tgs.length none++Jl ix σ).length=(tgs++Cu scope.names).length;have e:=congrArg List.length S.ixs;simp only[AAG] at e;rw[AAH,AAH,AAk,e];unfold Jl;rw[AAG]
def Jb(X:Cx)(ifs:List Expr)(tc:TT):Prop:=
 ∀(pins:List (Addr×Obj)) (s:Shared) (σ:St) (H:Hp) (Q:Bool->Hp->Prop),Inv X pins σ H s->tc σ H Q->
  wpAny (model X.prog X.w) X.A (forIn ifs true λc r=>if r=true then do let ok ←isTrue c X.env (eval c X.env);pure (ForInStep.yield ok) else pure (ForInStep.yield r)) (TP X pins σ Q) X.xe s
noncomputable def X2:TT:=λ_ H Q=>Q true H
theorem Q8:Jb X [] X2:=λpins s σ H Q I h=>wpAny_tests_nil ⟨H,I,h⟩
theorem Q7{c:Expr}{tc:TT}(h:PT X c tc):Jb X [c] tc:=λpins s σ H Q I hw=>wpAny_tests_one (h pins s σ H Q I hw)
def GK(n:Nat)(g:TG):Prop:=∀x σ H Q,g x σ H Q->g x σ H λσ2 H2=>Q σ2 H2/\σ2.length=σ.length/\σ2.drop n=σ.drop n
theorem K6{n i:Nat}(h:i<n):GK n (FG i):=λx σ H Q q=>⟨q,by simp,by rw[List.drop_set_of_lt h]⟩
def ZP(tgs:List Str)(ix:List Nat)(g:TG)(tc:TT)(te:TE)(σ:St)(Q:VK)(J:It)(H1:Hp):Prop:=∃W:Nat->Nat->List V->Hp->Prop,(∃m,W 0 m [] H1)/\∀i m ys H,W i m ys H->
 (J.stop i H/\ys.length<=sizeLine/\∀p,H p=none->Q (.ref p) (upd H p (.lst ys))) ∨
 (J.go i H/\ys.length<sizeLine/\∃N:List V->Hp->Prop,(∀ys' H',N ys' H'->∃m',m'<m/\W (i+1) m' ys' H')/\∀x H',J.yld i H x H'->g x (Ct tgs ix σ) H' λσ2 H2=>tc σ2 H2 λb H3=>
  if b=true then te σ2 H3 λv H4=>N (ys++[v]) H4 else N ys H3)
noncomputable def Ji(tgs:List Str)(ix:List Nat)(wi:TI)(g:TG)(tc:TT)(te:TE):TE:=λσ H Q=>wi σ H λJ H1=>ZP tgs ix g tc te σ Q J H1
theorem HH{α:Type}{t:Sem α}{Q Q':α->Shared->Prop}{M:Model}{A:Around}{E:Value->Shared->Prop}{s:Shared}(h:wpAny M A t Q (λ_ _=>False) s)(hQ:∀a s,Q a s->Q' a s):wpAny M A t Q' E s:=AAh h hQ λ_ _ x=>x.elim
theorem O1{α:Type}{u:Sem Unit}{t:Sem α}{P:Unit->Shared->Prop}{Q:α->Shared->Prop}{M:Model}{A:Around}{E:Value->Shared->Prop}{s:Shared}(hu:u=pure ())(h:wpAny M A u P E s)(k:∀s',P () s'->wpAny M A t Q E s'):wpAny M A t Q E s:=by
 subst hu;have z:wpAny M A ((pure ():Sem Unit) >>= λ_=>t) Q E s:=AAA (AAh h (λ_ s' p=>k s' p) λ_ _ x=>x);exact z
end
section
variable{X:Cx}{scope:Scope}{tgs:List Str}{ix:List Nat}
noncomputable abbrev FM(its:List Value)(k:Nat):Obj:={ cls:=.type "list",data:=.seq its.toArray k }
theorem Nc{fp:List Addr}{C:Addr}{s0:Shared}{H0:Hp}{pins:List (Addr×Obj)}{σ σ6:St}{H:Hp}{s:Shared}(I:Inv (cxB X scope tgs fp C s0 H0) pins σ6 H s)(l6:σ6.length=(Ct tgs ix σ).length)
  (d6:σ6.drop tgs.length=(Ct tgs ix σ).drop tgs.length):Inv (cxB X scope tgs fp C s0 H0) pins (Ct tgs ix σ) H s:=by
 refine I.weak l6.symm λk v e=>?_;obtain⟨hk,_⟩:=IR e;have e1:σ6[k]?=(σ6.drop tgs.length)[k-tgs.length]?:=by rw[List.getElem?_drop];congr 1;omega
 have e2:(Ct tgs ix σ)[k]?=((Ct tgs ix σ).drop tgs.length)[k-tgs.length]?:=by rw[List.getElem?_drop];congr 1;omega
 rw[e1,d6,←e2];exact e
theorem JH{elt tg iter:Expr}{ifs:List Expr}{pos:Pos}{g:TG}{tc:TT}{te:TE}{pins:List (Addr×Obj)}{σ:St}{H2:Hp}{s2:Shared}{it:Addr}{fp:List Addr}{tn:Nat->Heap->Prop}{J:It}{Q:VK}
  (S:BScope X scope tgs ix) (ht:∀o v,letOwnedTupleGo tg o v=pure ()) (hc:X.calm=true) (hg:∀fp C s H,PG (cxB X scope tgs fp C s H) tg g) (hgk:GK tgs.length g) (hi:∀fp C s H,Jb (cxB X scope tgs fp C s H) ifs tc) (he:∀fp C s H,PE (cxB X scope tgs fp C s H) elt te)
  (I2:Inv X pins σ H2 s2) (T:JT X.prog X.w X.K tg J fp it tn) (t0:tn 0 s2.heap) (hf:∀b∈fp,Eo X pins H2 b)
  (W:Nat->Nat->List V->Hp->Prop) (w0:∃m,W 0 m [] H2)
  (Eu:∀i m ys H,W i m ys H->(J.stop i H/\ys.length<=sizeLine/\∀p,H p=none->Q (.ref p) (upd H p (.lst ys))) ∨
   (J.go i H/\ys.length<sizeLine/\∃N:List V->Hp->Prop,(∀ys' H',N ys' H'->∃m',m'<m/\W (i+1) m' ys' H')/\∀x H',J.yld i H x H'->g x (Ct tgs ix σ) H' λσ2 H2=>tc σ2 H2 λb H3=>
    if b=true then te σ2 H3 λv H4=>N (ys++[v]) H4 else N ys H3))
  {RR:Value->Addr->Result->Shared->Prop}
  (fin:∀(D C:Addr) (s':Shared) (H':Hp) (m:Str->Option Value),Inv X pins σ H' s'->Q (.ref D) H'->s'.heap.Ns C m->Eo X pins H' C->RR (.ref D) C (.ok .next) s') :
  wpAny (model X.prog X.w) X.A (newList []) (λacc s₃=>wpAny (model X.prog X.w) X.A (newFunctionEnv scope X.env.globals (EV X.env scope.names []) [] X.env.qual none .none (some X.env)) (λcenv s₄=>
   codeAny (model X.prog X.w) X.A (.compStart (.ListComp elt [⟨tg,iter,ifs,0⟩] scope pos) 0 (.ref it) acc { cenv with scope:=relabel scope X.env }) (RR acc cenv.locals) s₄) X.xe s₃) X.xe s2:=by
 refine AAo (wpAny_newFunctionEnv S.nocell (by intro y hy;simp at hy) (λh₁ hns₁ hsb₁=>?_) S.kind);dsimp only at hns₁ hsb₁ ⊢;generalize hH2:s2.heap.push { cls:=.type "list",dict:=none,data:=.seq ([]:List Value).toArray }=G2 at hns₁ hsb₁ ⊢;have hC:G2.objs.size=s2.heap.objs.size+1:=by rw[←hH2,Heap.size_push]
 have hCle:s2.heap.objs.size<=G2.objs.size:=by rw[hC];exact Nat.le_succ _
 have hDC:s2.heap.objs.size≠G2.objs.size:=by rw[hC];exact AAd (Nat.lt_succ_self _)
 have below:∀b,b<s2.heap.objs.size->b≠G2.objs.size/\b≠s2.heap.objs.size:=λb hb=>⟨by rw[hC];exact AAd (AAg hb),AAd hb⟩;have old:∀b o,s2.heap.get? b=some o->h₁.get? b=some o:=λb o e=>hsb₁.extBut b o (below b (Heap.lt_size e)).1 (AAC _ (hH2 ▸ AAC _ e));have hacc:h₁.get? s2.heap.objs.size=some (FM [] 0):=hsb₁.extBut _ _ hDC (AAC _ (hH2 ▸ AAD _ rfl));have hfo:∀b∈fp,b<s2.heap.objs.size:=λb hb=>let ⟨o,e,_⟩:=T.obj 0 _ t0 b hb;Heap.lt_size e
 have ok:=ND (tgs:=tgs) (ix:=ix) (C:=G2.objs.size) S I2 hf hfo hCle;have sub:∀x c,(EV X.env scope.names []).lookup x=some c->X.env.cells.lookup x=some c:=El scope.names [] (λ_ _ z=>by simp at z);have nDfs:s2.heap.objs.size∉frs X.stack:=λhz=>by
  rcases AAJ.mp (I2.stkSub _ hz) with z|z
  ·exact absurd I2.lt (by rw[←z];exact AAv _)
  ·exact I2.nofs (AAF _) z
 have nDcell:∀x c,(EV X.env scope.names []).lookup x=some c->c≠s2.heap.objs.size:=λx c e=>AAd (I2.cellLt (sub x c e));have ncell:∀(its:List Value) (k:Nat) (v:Option Value),(FM its k).data≠.cell v:=λits k v z=>by cases z
 have stat:∀{Hx:Hp} {o:Obj},(∀b∈fp,Hx b=none)->∀b∈fp,Eo (cxB X scope tgs fp G2.objs.size s2 H2) [(s2.heap.objs.size,o)] Hx b:=λ{Hx o} hn b hb=>
  ⟨hn b hb,(ok.exf b hb).1,ok.exfs b hb,.inl hb,(ok.exf b hb).2,λp hp z=>by
   have e:p=(s2.heap.objs.size,o):=by simpa[cxB] using hp
   subst e;exact absurd (hfo b hb) (by rw[←z];exact AAv _)⟩
 have loop:∀s₃:Shared,s₃={ s2 with heap:=h₁,toks:=s2.toks+([]:List (Str×Value)).length }->
   codeAny (model X.prog X.w) X.A (.compLoop (.ListComp elt [⟨tg,iter,ifs,0⟩] scope pos) 0 (.ref it) (.ref s2.heap.objs.size) (compEnvC scope (EV X.env scope.names []) G2.objs.size X.env)) (RR (.ref s2.heap.objs.size) G2.objs.size) s₃:=by
  rintro s₃ rfl;obtain⟨m0,w0⟩:=w0;refine codeAny_compLoop_tests (λn s=>∃i ys its k H,Inv (cxB X scope tgs fp G2.objs.size s2 H2) [(s2.heap.objs.size,FM its k)] (Ct tgs ix σ) H s/\tn i s.heap/\(∀b∈fp,H b=none)/\Vals ys its/\W i n ys H) ?_ m0
   ⟨0,[],[],0,H2,Iz S I2 hf hfo hCle (AAF _) hDC hns₁ old rfl rfl hacc (ncell _ _),T.keep 0 _ _ t0 λb _ o e=>old b o e,λb hb=>(hf b hb).1,.nil,w0⟩ (ht _)
  rintro n s ⟨i,ys,its,k,H,I,st,fr,rv,w⟩;rcases Eu i n ys H w with ⟨stop,hz,q⟩|⟨go,hz8,N,hN,step⟩
  ·refine thn (T.done (cxB X scope tgs fp G2.objs.size s2 H2) rfl rfl rfl hc i _ s _ H _ I (stat fr) st stop) λr s1 ⟨hr,I1⟩=>?_;subst hr;obtain⟨pe,pn,_⟩:=I1.pin (s2.heap.objs.size,FM its k) (AAa _ (by simp));have J0:Inv X pins σ H s1:=I2.call' I1.os I1.base I1.hok I1.bare λb hb=>⟨(hf b hb).2.2.2.1,(hf b hb).2.1,(hf b hb).2.2.2.2.1,(hf b hb).2.2.2.2.2⟩;have J1:Inv X pins σ (upd H s2.heap.objs.size (.lst ys)) s1:=J0.track (I2.fpOk (AAF _) pn) ⟨hz,its,k,rv,pe⟩;obtain⟨m,hn,_⟩:=I1.loc;exact fin _ _ s1 _ m J1 (q _ pn) hn (I2.fpOk hCle (by rw[Ay (Ne.symm hDC)];exact I1.free))
  ·refine thn (T.item (cxB X scope tgs fp G2.objs.size s2 H2) rfl rfl rfl hc i _ s _ H _ I (stat fr) st go) λr s1 ⟨u,hr,h1⟩=>?_;subst hr;refine O1 (ht _ _) h1 λs5 ⟨x,H5,I5,r5,y5,st5,fr5⟩=>?_;have I5':=I5.pinned (stat fr5) (T.obj _ _ st5);refine HH (hg fp G2.objs.size s2 H2 _ s5 _ H5 x u _ I5' r5 (hgk _ _ _ _ (step x H5 y5))) λ_ s6 ⟨σ6,H6,I6,q6,l6,d6⟩=>?_;refine HH (hi fp G2.objs.size s2 H2 _ s6 σ6 H6 _ I6 q6) λokb s7 ⟨H7,I7,q7⟩=>?_;cases okb with
   |false=>
    rw[if_neg AAf] at q7 ⊢;obtain⟨m',hm,w7⟩:=hN _ _ q7;refine⟨m',hm,i+1,ys,its,k,H7,Nc I7.unpinned l6 d6,T.keep _ _ _ st5 λb hb o e=>(I7.pin (b,o) (AAa _ (AAa _ (BV hb e)))).1,λb hb=>?_,rv,w7⟩;obtain⟨o,e,_⟩:=T.obj _ _ st5 b hb;exact(I7.pin (b,o) (AAa _ (AAa _ (BV hb e)))).2.1
   |true=>
    rw[if_pos rfl] at q7 ⊢;refine HH (he fp G2.objs.size s2 H2 _ s7 σ6 H7 _ I7 q7) λxv s8 ⟨v,H8,I8,rv8,q8⟩=>?_;obtain⟨m',hm,w8⟩:=hN _ _ q8;obtain⟨pe,pn,_⟩:=I8.pin (s2.heap.objs.size,FM its k) (AAa _ (AAb _ (by simp)));have hlen:=rv.length;refine call_meets PySem.F.slot_list_append ⟨_,pe,rfl⟩ PySem.F.entry_list_append (PySem.F.args_list_append_2 _ _) (PySem.list_append s2.heap.objs.size its.toArray k xv (by rw[List.size_toArray];omega)) ⟨pe,?_⟩;have hp:its.toArray.push xv=(its++[xv]).toArray:=by simp
    have q':∃k',(s8.heap.update s2.heap.objs.size (Obj.mapSeq (λa=>a.push xv))).get? s2.heap.objs.size=some (FM (its++[xv]) k'):=⟨_,by
     unfold FM;rw[←hp];exact PySem.IsL.update pe (λa=>a.push xv)⟩
    obtain⟨k',q'⟩:=q';have I9:Inv (cxB X scope tgs fp G2.objs.size s2 H2) [] σ6 H8 { s8 with heap:=s8.heap.update s2.heap.objs.size (Obj.mapSeq (λa=>a.push xv)) }:=
     (I8.pins_of (pins':=[]) (λp hp=>absurd hp (by simp))).turned (t':=s8.toks) (λb o hb e=>(Heap.get?_update_other s8.heap (Obj.mapSeq (λa=>a.push xv)) (Ne.symm hb)).trans e) pn hDC (.inr (AAF _)) nDcell (λp hp=>absurd hp (by simp[cxB]))
    have I10:Inv (cxB X scope tgs fp G2.objs.size s2 H2) [(s2.heap.objs.size,FM (its++[xv]) k')] σ6 H8 { s8 with heap:=s8.heap.update s2.heap.objs.size (Obj.mapSeq (λa=>a.push xv)) }:=
     I9.pins_of λp hp=>by
      have e:p=(s2.heap.objs.size,FM (its++[xv]) k'):=by simpa using hp
      subst e;exact⟨q',pn,hDC,nDfs,ncell _ _⟩
    refine⟨m',hm,i+1,ys++[v],its++[xv],k',H8,Nc I10 l6 d6,T.keep _ _ _ st5 λb hb o e=>?_,λb hb=>?_,rv.append (.cons rv8 .nil),w8⟩
    ·exact(Heap.get?_update_other s8.heap (Obj.mapSeq (λa=>a.push xv)) (Ne.symm (below b (hfo b hb)).2)).trans (I8.pin (b,o) (AAa _ (AAa _ (BV hb e)))).1
    ·obtain⟨o,e,_⟩:=T.obj _ _ st5 b hb;exact(I8.pin (b,o) (AAa _ (AAa _ (BV hb e)))).2.1
 exact codeAny_compStart_list (loop _ rfl) (T.self _ 0 _ _ _ (T.keep 0 _ _ t0 λb _ o e=>old b o e) (loop _ rfl))
theorem N1{elt tg iter:Expr}{ifs:List Expr}{pos:Pos}{wi:TI}{g:TG}{tc:TT}{te:TE}(S:BScope X scope tgs ix)(hc:X.calm=true)(hi:PI X tg iter wi)(hg:∀fp C s H,PG (cxB X scope tgs fp C s H) tg g)(hgk:GK tgs.length g)
  (hif:∀fp C s H,Jb (cxB X scope tgs fp C s H) ifs tc) (he:∀fp C s H,PE (cxB X scope tgs fp C s H) elt te) (hs:∀x,foldedSetIterable iter X.env x=pure x:=by intro _;rfl) (ht:∀o v,letOwnedTupleGo tg o v=pure ():=by intro _ _;rfl) :
  PE X (.ListComp elt [⟨tg,iter,ifs,0⟩] scope pos) (Ji tgs ix wi g tc te):=by
 intro pins s σ H Q I h;rw[eval_ListComp];refine wpAny_comprehension_free (use:=none) rfl hs (DL (S.cells I.ok)) S.kind S.loc ?_;show wpAny _ _ (eval iter X.env) _ _ s;refine thn (hi pins s σ H _ I h) λv s1 h1=>thn h1 λitv s2 h2=>?_;obtain⟨it,fp,tn,J,H2,e,I2,T,t0,f2,W,w0,Eu⟩:=h2;subst e;refine JH (RR:=λacc C=>compPost (model X.prog X.w) X.A X.xe none (EP X pins σ Q) acc C) S ht hc hg hgk hif he I2 T t0 f2 W w0 Eu ?_;intro D C s' H' m J1 q hn fC;obtain⟨f0,f1,f2,f3,f4,f5⟩:=fC;exact⟨m,hn,λh' sb=>⟨.ref D,H',J1.turned (t':=s'.toks) (λb o hb e=>(sb.2 b hb).trans e) f0 f1 f3 f4 f5,rfl,q⟩⟩
theorem My{i:Nat}{y:Str}{py:Pos}{elt tg iter:Expr}{ifs:List Expr}{pos spos:Pos}{wi:TI}{g:TG}{tc:TT}{te:TE}(hN:X.N.Nodup)(hiN:X.N[i]?=some y)(hy:X.env.scope.names.lookup y=some .local)
  (S:BScope X scope tgs ix) (hc:X.calm=true) (hi:PI X tg iter wi) (hg:∀fp C s H,PG (cxB X scope tgs fp C s H) tg g) (hgk:GK tgs.length g)
  (hif:∀fp C s H,Jb (cxB X scope tgs fp C s H) ifs tc) (he:∀fp C s H,PE (cxB X scope tgs fp C s H) elt te)
  (hsw:swapsWith (.ListComp elt [⟨tg,iter,ifs,0⟩] scope pos) (some (.Name y py)) spos.line X.env=pure true:=by rfl) (hs:∀x,foldedSetIterable iter X.env x=pure x:=by intro _;rfl) (ht:∀o v,letOwnedTupleGo tg o v=pure ():=by intro _ _;rfl) :
  PS X (.Assign [.Name y py] (.ListComp elt [⟨tg,iter,ifs,0⟩] scope pos) spos) (TN (Ji tgs ix wi g tc te) (FG i)):=by
 intro pins s σ H D0 I h;rw[exec_Assign_Name_used _ _ _ _ hsw];refine AAA (wpAny_standAt (AAA ?_));show wpAny _ X.A (do let _ ←comprehension (.ListComp elt [⟨tg,iter,ifs,0⟩] scope pos) scope X.env _ (newList []) false (eval iter X.env) (some (assign (.Name y py) X.env))) _ _ s;refine AAA (AAh (wpAny_comprehension_free (use:=some (assign (.Name y py) X.env)) (Q:=λ_ s'=>SP X pins D0 .next s') rfl hs (DL (S.cells I.ok)) S.kind S.loc ?_) (λ_ s' hq=>AAB (AAB hq)) λ_ _ e=>e);refine thn (hi pins s σ H _ I h) λv s1 h1=>thn h1 λitv s2 h2=>?_;obtain⟨it,fp,tn,J,H2,e,I2,T,t0,f2,W,w0,Eu⟩:=h2;subst e;refine JH (Q:=λx H1=>FG i x σ H1 D0.nx) (RR:=λacc C=>compPost (model X.prog X.w) X.A X.xe (some (assign (.Name y py) X.env)) (λ_ s'=>SP X pins D0 .next s') acc C) S ht hc hg hgk hif he I2 T t0 f2 W w0 Eu ?_;intro D C s' H' m J1 q hn fC;obtain⟨f0,f1,f2,f3,f4,f5⟩:=fC;show wpAny _ X.A (assign (.Name y py) X.env (.ref D)) _ _ _;refine wpAny_assign_Name (Jj (v:=.ref D) J1 hN hiN (.inl hy) rfl (λs'' I'' hsb=>?_) (.inr hy));obtain⟨a,sb,ha⟩:=hsb;have hCa:C≠a:=by
  rcases ha with z|z
  ·rw[z];exact f1
  ·exact Ne.symm (f4 y a z)
 exact⟨m,hn.sameBut sb hCa,λh' sb'=>⟨_,H',I''.turned (t':=s''.toks) (λb o hb e=>(sb'.2 b hb).trans e) f0 f1 f3 f4 f5,q⟩⟩
end
section
variable{X:Cx}
theorem MS:Cy X (.builtin "isinstance") (λxs H Q=>∃x T t b,xs=[x,.ty T]/\Gu X.K H x t/\PySem.W.kitOne X.K t (.type T)=some b/\Q (.bl b) H):=by
 intro pins s σ H xs us Q I r h;obtain⟨x,T,t,b,rfl,ty,e,q⟩:=h;obtain⟨u,w',rfl,rx,ry⟩:=QV r;cases ry;exact PU I rx ty e λtk=>⟨.bl b,H,I.tok tk,rfl,q⟩
end
noncomputable def Its(x:Str):It:=⟨λi _=>i<x.cps.size,λi H v H'=>H'=H/\∃c,x.cps[i]?=some c/\v=.str ⟨#[c]⟩,λi _=>i=x.cps.size⟩
theorem Yg{tg:Expr}{it:Addr}{x:Str}{u:Tok}:letOwnedTupleGo tg (.ref it) (.str x u)=pure ():=by
 unfold letOwnedTupleGo;cases tg<;>rfl
theorem LY{P:Program}{w:World}{K:PySem.W.Frag}{tg:Expr}(it:Addr)(ty:String)(x:Str)(t:Tok)
  (W:∀A:Around,A.handled=none->Walks P w A it [it] [it] x.cps.size (SignAt x) (λi h=>h.IsStrIter it ty x t i)) (sf:∀(A:Around) (i:Nat) (s:Shared) (Q:Value->Shared->Prop) (E:Value->Shared->Prop),s.heap.IsStrIter it ty x t i->Q (.ref it) s->wpAny (model P w) A (pyIter (.ref it)) Q E s) :
  JT P w K tg (Its x) [it] it (λi h=>h.IsStrIter it ty x t i) where
 mem:=by simp
 obj:=λi h st b hb=>by
  have e:b=it:=by simpa using hb
  subst e;obtain⟨o,e,c,d⟩:=st;exact⟨o,e,λv z=>by rw[d] at z;cases z⟩
 keep:=λi h h' st k=>by
  obtain⟨o,e,r⟩:=st;exact⟨o,k it (by simp) o e,r⟩
 item:=by
  intro X hP hw hK hc i pins s σ H E I hf st hg;subst hP hw hK;obtain⟨f0,f1,f2,f3,f4,f5⟩:=hf it (by simp);refine(W X.A (I.ok.hd hc)).item i s _ _ hg st λv h' tk hv st' kk=>?_;obtain⟨c,u,hcu,rfl⟩:=hv;have I1:Inv X pins σ H { s with heap:=h',toks:=tk }:=I.turned (λb o hb e=>kk b o (by simpa using hb) e) f0 f1 f3 f4 f5;exact⟨_,rfl,wpAny_of_eq Yg ⟨.str ⟨#[c]⟩,H,I1,⟨u,rfl⟩,⟨rfl,c,hcu,rfl⟩,st',λb hb=>(hf b hb).1⟩⟩
 done:=by
  intro X hP hw hK hc i pins s σ H E I hf st hg;subst hP hw hK;obtain⟨f0,f1,f2,f3,f4,f5⟩:=hf it (by simp);have hi:i=x.cps.size:=hg;subst hi;exact(W X.A (I.ok.hd hc)).done s _ _ st λh' tk kk=>⟨rfl,I.turned (λb o hb e=>kk b o (by simpa using hb) e) f0 f1 f3 f4 f5⟩
 self:=λA i s Q E st h=>sf A i s Q E st h
noncomputable def Zq(tl:TE):TI:=λσ H R=>tl σ H λv H1=>∃x,v=.str x/\R (Its x) H1
theorem WM{X:Cx}{tg l:Expr}{tl:TE}(hl:PE X l tl):PI X tg l (Zq tl):=by
 intro pins s σ H R I h;refine thn (hl pins s σ H _ I h) λv s1 ⟨y,H1,I1,r1,q1⟩=>?_;obtain⟨x,e,q⟩:=q1;subst e;obtain⟨t,rfl⟩:=r1;have fp:∀b∈[s1.heap.objs.size],Eo X pins H1 b:=λb hb=>by
  have e:b=s1.heap.objs.size:=by simpa using hb
  subst e;exact I1.fpOk (AAF _) (I1.hok.fresh (AAF _))
 cases ha:x.cps.all (·<128) with
 |false=>
  refine wpAny_pyIter_wide ha ?_;exact⟨s1.heap.objs.size,[s1.heap.objs.size],_,Its x,H1,rfl,I1.kept (t':=s1.toks) λb o e=>AAC _ e,LY _ "str_iterator" x t (λA hA=>Walks.strWide hA _ x t) (λ_ _ _ _ _ st h=>wpAny_pyIter_striter_wide st h),⟨_,AAD _ rfl,rfl,rfl⟩,fp,q⟩
 |true=>
  refine wpAny_pyIter_ascii ha ?_;exact⟨s1.heap.objs.size,[s1.heap.objs.size],_,Its x,H1,rfl,I1.kept (t':=s1.toks) λb o e=>AAC _ e,LY _ "str_ascii_iterator" x t (λA hA=>Walks.strAscii hA _ x t) (λ_ _ _ _ _ st h=>wpAny_pyIter_striter_ascii st h),⟨_,AAD _ rfl,rfl,rfl⟩,fp,q⟩
theorem Mt{α:Type}(d:α)(bs:List α):(List.range bs.length).map (λi=>bs.getD i d)=bs:=by
 apply List.ext_getElem
 ·simp
 ·intro i h1 h2;simp[List.getD,h2]
theorem Ot(bs:List Bool):((List.range bs.length).all λi=>bs.getD i true)=bs.all id:=by
 conv=>rhs;rw[←Mt true bs]
 rw[List.all_map];rfl
section
variable{X:Cx}
theorem Lb{P:Program}{w:World}{A:Around}{bs:List Bool}{its:List Value}(r:Vals (bs.map V.bl) its):TruthOf P w A (λi v=>its.toArray[i]?=some v) (λi=>bs.getD i true):=by
 intro i v s Q E hP hQ;have hi:its[i]?=some v:=by simpa using hP
 have hlt:i<its.length:=(AAU.mp hi).1;have hl:=r.length;rw[AAG] at hl;have hb:(bs.map V.bl)[i]?=some (V.bl (bs.getD i true)):=by
  rw[AAW,AAs (show i<bs.length by omega)];simp[List.getD,show i<bs.length by omega]
 obtain⟨u,hu,ru⟩:=r.get hb;rw[hi] at hu;cases hu;cases ru;exact wpAny_truthy_bool hQ
theorem NF(hc:X.calm=true){pins:List (Addr×Obj)}{s:Shared}{σ:St}{H:Hp}{a:Addr}{bs:List Bool}{Q:VK}{c:Bool}{f:(Nat->Bool)->List Nat->Bool}(I:Inv X pins σ H s)(ha:SqL X.K H a (bs.map V.bl))(hf:f (λi=>bs.getD i true) (List.range bs.length)=c)(q:Q (.bl c) H):
  wpAny (model X.prog X.w) X.A.in1 (pyIter (.ref a)) (λit s₂=>∃I fp wr n P St tr,it=.ref I/\Walks X.prog X.w X.A.in1 I fp wr n P St/\St 0 s₂.heap/\TruthOf X.prog X.w X.A.in1 P tr /\
   ∀h' tk,(∀b o,b∉wr->s₂.heap.get? b=some o->h'.get? b=some o)->EP X pins σ Q (.bool (f tr (List.range n))) { s₂ with heap:=h',toks:=tk }) X.xe s:=by
 obtain⟨its,r,p,hz⟩:=I.list ha;refine wpAny_pyIter_list p.isList ?_;have hlt:a<s.heap.objs.size:=by
  obtain⟨o,n,e,_⟩:=p;exact Heap.lt_size e
 have I1:Inv X pins σ H { s with heap:=s.heap.push { cls:=.type "list_iterator",data:=.fields #[.ref a,.int 0 0] } }:=I.kept (t':=s.toks) λb o e=>AAC _ e;obtain⟨f0,f1,f2,f3,f4,f5⟩:=I.fpOk (H':=H) (AAF _) (I.hok.fresh (AAF _));refine⟨s.heap.objs.size,_,_,_,_,_,_,rfl,Walks.list (prog:=X.prog) (w:=X.w) (A:=X.A.in1) (show X.A.handled=none from I.ok.hd hc) s.heap.objs.size a (AAd hlt) its.toArray,⟨⟨_,AAD _ rfl,rfl,rfl⟩,p.isList.push _⟩,Lb r,λh' tk kk=>?_⟩;have hl:=r.length;rw[AAG] at hl;rw[List.size_toArray,←hl,hf];exact⟨.bl c,H,I1.turned (t':=tk) (λb o hb e=>kk b o (by simpa using hb) e) f0 f1 f3 f4 f5,rfl,q⟩
theorem Pw(hc:X.calm=true):Cy X (.builtin "all") (λxs H Q=>∃(a:Addr) (bs:List Bool),xs=[.ref a]/\SqL X.K H a (bs.map V.bl)/\Q (.bl (bs.all id)) H):=by
 intro pins s σ H xs us Q I r h;obtain⟨a,bs,rfl,ha,q⟩:=h;obtain⟨u,rfl,ru⟩:=IG r;cases ru;exact call_all_walk (NF (f:=λtr l=>l.all tr) hc I ha (Ot bs) q)
end
mutual
inductive DatV (K:PySem.W.Frag) (H:Hp):V->PyData->Prop
 |non:DatV K H .non .none
 |bl (b:Bool):DatV K H (.bl b) (.bool b)
 |int (i:Int):DatV K H (.int i) (.int i)
 |str (x:Str):DatV K H (.str x) (.str x)
 |tup {a:Addr} {xs:List V} {ds:List PyData}:SqT K H a xs->DatVs K H xs ds->DatV K H (.ref a) (.tuple ds)
 |lst {a:Addr} {xs:List V} {ds:List PyData}:SqL K H a xs->DatVs K H xs ds->DatV K H (.ref a) (.list ds)
inductive DatVs (K:PySem.W.Frag) (H:Hp):List V->List PyData->Prop
 |nil:DatVs K H [] []
 |cons {v:V} {d:PyData} {vs:List V} {ds:List PyData}:DatV K H v d->DatVs K H vs ds->DatVs K H (v::vs) (d::ds)
end
section
variable{X:Cx}{pins:List (Addr×Obj)}{σ:St}{H:Hp}{s:Shared}
mutual
theorem DatV.reads(I:Inv X pins σ H s):∀{v:V} {d:PyData},DatV X.K H v d->∀{u:Value},RelV v u->∃as,Reads s.heap u d as
 |_,_,.non,_,r=>by cases r;exact⟨[],.none⟩
 |_,_,.bl b,_,r=>by cases r;exact⟨[],.bool b⟩
 |_,_,.int i,_,r=>by obtain⟨t,rfl⟩:=r;exact⟨[],.int i t⟩
 |_,_,.str x,_,r=>by obtain⟨t,rfl⟩:=r;exact⟨[],.str x t⟩
 |_,_,.tup hq hs,_,r=>by
  cases r;obtain⟨its,rv,⟨o,e,c,n,d⟩,_⟩:=I.tuple hq;obtain⟨as,ra⟩:=DatVs.reads I hs rv;exact⟨_,.tuple e c d (by simpa using ra)⟩
 |_,_,.lst hq hs,_,r=>by
  cases r;obtain⟨its,rv,⟨o,n,e,c,_,d⟩,_⟩:=I.list hq;obtain⟨as,ra⟩:=DatVs.reads I hs rv;exact⟨_,.list e c d (by simpa using ra)⟩
theorem DatVs.reads(I:Inv X pins σ H s):∀{vs:List V} {ds:List PyData},DatVs X.K H vs ds->∀{us:List Value},Vals vs us->∃as,ReadsAll s.heap us ds as
 |_,_,.nil,_,.nil=>⟨[],.nil⟩
 |_,_,.cons h t,_,.cons r rr=>by
  obtain⟨a,ra⟩:=DatV.reads I h r;obtain⟨b,rb⟩:=DatVs.reads I t rr;exact⟨_,.cons ra rb⟩
end
end
section
variable{X:Cx}
theorem Wl(hu:X.A.units+64<cLine):OpR X (compareOp .Eq) (λx y H Q=>∃d d',DatV X.K H x d/\DatV X.K H y d'/\SeqAt.shaped d=true/\SeqAt.shaped d'=true/\Q (.bl (PyData.eqv d d')) H):=by
 intro pins s σ H x y v u Q I rx ry h;obtain⟨d,d',h1,h2,s1,s2,q⟩:=h;obtain⟨as,ra⟩:=h1.reads I rx;obtain⟨bs,rb⟩:=h2.reads I ry;exact SeqAt.compareEq_shaped ra rb s1 s2 hu ⟨.bl _,H,I,rfl,q⟩
theorem Wh(hu:X.A.units+64<cLine):OpR X (compareOp .NotEq) (λx y H Q=>∃d d',DatV X.K H x d/\DatV X.K H y d'/\SeqAt.shaped d=true/\SeqAt.shaped d'=true/\Q (.bl (!PyData.eqv d d')) H):=by
 intro pins s σ H x y v u Q I rx ry h;obtain⟨d,d',h1,h2,s1,s2,q⟩:=h;obtain⟨as,ra⟩:=h1.reads I rx;obtain⟨bs,rb⟩:=h2.reads I ry;exact SeqAt.compareNe_shaped ra rb s1 s2 hu ⟨.bl _,H,I,rfl,q⟩
theorem Qr{A:Around}{k:Nat}(hr:Room k A):A.units+64<cLine:=hr.units
end
theorem Inv.turnedL{X:Cx}{pins:List (Addr×Obj)}{σ:St}{H:Hp}{s:Shared}{h':Heap}{t':Nat}{ch:List Addr}(I:Inv X pins σ H s)(k:∀b o,b∉ch->s.heap.get? b=some o->h'.get? b=some o)(hf:∀b∈ch,Eo X pins H b):Inv X pins σ H { s with heap:=h',toks:=t' }:=by
 have nit:∀b u,H b=some u->b∉ch:=λb u e z=>by rw[(hf b z).1] at e;cases e
 refine I.step (g':=s.gens) (d':=s.drawn) (ch:=ch) (λb hb=>⟨(hf b hb).2.2.2.1,(hf b hb).2.1,(hf b hb).2.2.2.2.1,(hf b hb).2.2.2.2.2⟩) (λb o _ _ hc e _=>k b o hc e) (λb o _ _ hc e _=>⟨o.slots,k b o hc e⟩) (λ_ _ _ _ n=>n)
  (λb o hc e=>⟨o,k b o hc e⟩) (λ_ _ e=>e) (λ_ _ _ e=>e) (λb ps e=>⟨#[],by rw[e];simp⟩) (λm hm=>?_) (λb u e=>?_) I.bare
 ·obtain⟨o,es,ep,ho,r⟩:=hm;exact⟨o,es,ep,k _ o (λz=>(hf _ z).2.1 rfl) ho,r⟩
 ·refine(I.hok b u e).stay (λc v hc q=>k c v ?_ q) (λ_ q=>q) λ_ _ q=>q;rcases hc with z|z
  ·rw[z];exact nit b u e
  ·exact nit c _ z
noncomputable def ItP(K:PySem.W.Frag)(n:Nat)(src:Nat->List V)(Cond:PySem.W.Frag->Hp->Prop):It:=
 ⟨λi H=>i<n/\Cond K H,λi H v H'=>∃T,H T=none/\v=.ref T/\H'=upd H T (.tup (src i)),λi H=>i=n/\Cond K H⟩
theorem F8{P:Program}{w:World}{K:PySem.W.Frag}{es:List Expr}{k0:Nat}{pos:Pos}{I0:Addr}{ι:Type}{fp wr:List Addr}{n:Nat}{src:Nat->List V}{good:ι->Prop}{Pt:ι->Nat->Array Value->Prop}{Sw:ι->Nat->Heap->Prop}{Mid:ι->Nat->Addr->Heap->Prop}{tn:Nat->Heap->Prop}{Cond:PySem.W.Frag->Hp->Prop}
  (W:∀A:Around,A.handled=none->∀z,good z->WalksT P w A I0 fp wr n (Pt z) (Sw z) (Mid z)) (hmem:I0∈wr) (hPt:∀z i vals,good z->Pt z i vals->Vals (src i) vals.toList) (hlen:∀i,(src i).length<=sizeLine)
  (obj:∀i h,tn i h->∀b∈wr,∃o,h.get? b=some o/\∀v,o.data≠.cell v)
  (keep:∀i h h',tn i h->(∀b∈wr,∀o,h.get? b=some o->h'.get? b=some o)->tn i h')
  (into:∀(X:Cx) (pins:List (Addr×Obj)) (σ:St) (H:Hp) (s:Shared) (i:Nat),X.prog=P->X.w=w->X.K=K->Inv X pins σ H s->Cond K H->tn i s.heap->∃z,good z/\Sw z i s.heap) (out:∀z i h,Sw z i h->tn i h)
  (self:∀(A:Around) (i:Nat) (s:Shared) (Q:Value->Shared->Prop) (E:Value->Shared->Prop),tn i s.heap->Q (.ref I0) s->wpAny (model P w) A (pyIter (.ref I0)) Q E s) :
  JT P w K (.Tuple es k0 pos) (ItP K n src Cond) wr I0 tn where
 mem:=hmem
 obj:=obj
 keep:=keep
 item:=by
  intro X hP hw hK hc i pins s σ H E I hf st hg;obtain⟨hi,hcond⟩:=hg;obtain⟨z,gz,sz⟩:=into X pins σ H s i hP hw hK I hcond st;have W':=W X.A (I.ok.hd hc) z gz;refine W'.item i s _ _ hi sz λT vals h' tk hp hT ht hm kk=>⟨_,rfl,?_⟩;have I1:Inv X pins σ H { s with heap:=h',toks:=tk }:=I.turnedL kk hf;refine W'.go es k0 pos i T _ _ _ hm λh2 st2 kk2=>?_;have I2:Inv X pins σ H { s with heap:=h2,toks:=tk }:=I1.turnedL (t':=tk) kk2 hf;have hn:H T=none:=I.hok.fresh hT;have ht2:IsTup h2 T vals:=by
   obtain⟨o,e,r⟩:=ht;exact⟨o,kk2 T o (W'.apart i T _ hm) e,r⟩
  refine⟨.ref T,upd H T (.tup (src i)),I2.track (I.fpOk hT hn) ⟨hlen i,vals.toList,hPt z i vals gz hp,by simpa using ht2⟩,rfl,⟨T,hn,rfl,rfl⟩,out z _ _ st2,λb hb=>?_⟩;have hbT:b≠T:=λz=>W'.apart i T _ hm (by rw[←z];exact hb);rw[Ay hbT];exact(hf b hb).1
 done:=by
  intro X hP hw hK hc i pins s σ H E I hf st hg;obtain⟨hi,hcond⟩:=hg;subst hi;obtain⟨z,gz,sz⟩:=into X pins σ H s i hP hw hK I hcond st;exact(W X.A (I.ok.hd hc) z gz).done s _ _ sz λh' tk kk=>⟨rfl,I.turnedL kk hf⟩
 self:=self
noncomputable def Fb(xs:List V)(i:Nat):List V:=[.int i,xs.getD i .non]
theorem JF{xs:List V}{its:List Value}(r:Vals xs its){i:Nat}{vals:Array Value}(h:∃t x,its.toArray[i]?=some x/\vals=#[.int i t,x]):Vals (Fb xs i) vals.toList:=by
 obtain⟨t,x,hx,rfl⟩:=h;have hx':its[i]?=some x:=by simpa using hx
 have hlt:i<its.length:=(AAU.mp hx').1;have hl:=r.length;have hv:xs[i]?=some (xs.getD i .non):=by
  rw[AAs (by omega)];simp[List.getD,show i<xs.length by omega]
 obtain⟨u,hu,ru⟩:=r.get hv;rw[hx'] at hu;cases hu;exact .cons ⟨t,rfl⟩ (.cons ru .nil)
theorem OO{P:Program}{w:World}{e it:Addr}{f:Nat->Heap->Prop}(A:Around)(i:Nat)(s:Shared)(Q:Value->Shared->Prop)(E:Value->Shared->Prop)(st:(∃old,IsEnum s.heap e it i old)/\f i s.heap)(h:Q (.ref e) s):wpAny (model P w) A (pyIter (.ref e)) Q E s:=by
 obtain⟨⟨old,he⟩,_⟩:=st;exact wpAny_pyIter_enum he h
theorem SQ{e it:Addr}{h:Heap}{i:Nat}{o:Obj}(he:∃old,IsEnum h e it i old)(ho:h.get? it=some o)(hd:∃vs,o.data=.fields vs):∀b∈[e,it],∃o,h.get? b=some o/\∀v,o.data≠.cell v:=λb hb=>by
 rcases AAJ.mp hb with z|z
 ·subst z;obtain⟨old,he⟩:=he;exact⟨_,he,λv q=>by cases q⟩
 ·rw[AAL.mp z];obtain⟨vs,hd⟩:=hd;exact⟨o,ho,λv q=>by rw[hd] at q;cases q⟩
theorem Mn{P:Program}{w:World}{K:PySem.W.Frag}{es:List Expr}{k0:Nat}{pos:Pos}(a e it:Addr)(xs:List V)(hei:e≠it)(hea:e≠a)(hai:a≠it):
  JT P w K (.Tuple es k0 pos) (ItP K xs.length (Fb xs) λK H=>SqL K H a xs) [e,it] e (λi h=>(∃old,IsEnum h e it i old)/\h.IsListIter it a i):=
 F8 (ι:=List Value) (good:=λits=>Vals xs its) (Pt:=λits i vals=>∃t x,its.toArray[i]?=some x/\vals=#[.int i t,x]) (Sw:=λits i h=>(∃old,IsEnum h e it i old)/\h.IsListIter it a i/\h.IsList a its.toArray)
  (λA hA its r=>by
   have hl:xs.length=its.toArray.size:=by rw[List.size_toArray];exact r.length
   rw[hl];exact WalksT.enumerateD (Draws.list (show A.in1.handled=none from hA) it a hai its.toArray) e hei (by simp[hei,hea]) (by simp))
  (by simp) (λits i vals r h=>JF r h) (λi=>(by show 2<=sizeLine;decide))
  (λi h st=>by obtain⟨o,ho,_,hd⟩:=st.2;exact SQ st.1 ho ⟨_,hd⟩)
  (λi h h' st k=>⟨by obtain⟨old,q⟩:=st.1;exact⟨old,k e (by simp) _ q⟩,st.2.at λo q=>k it (by simp) o q⟩)
  (λX pins σ H s i hP hw hK I hc st=>by
   subst hK;obtain⟨its,r,p,_⟩:=I.list hc;exact⟨its,r,st.1,st.2,p.isList⟩)
  (λz i h st=>⟨st.1,st.2.1⟩) (λA i s Q E st h=>OO (f:=λi h=>h.IsListIter it a i) A i s Q E st h)
end L2
namespace L2
open PySem PySem.Spec PyProof.Rows
open AutoSeq1 (wpAny_loadPart')
section
variable{X:Cx}{es:List Expr}{k0:Nat}{tpos:Pos}
noncomputable def XN(K:PySem.W.Frag)(ta:TA):TI:=λσ H R=>ta σ H λvs H1=>∃a xs,vs=[.ref a]/\SqL K H1 a xs/\R (ItP K xs.length (Fb xs) λK H=>SqL K H a xs) H1
theorem J5:bootBuiltins "enumerate" = some (.type "enumerate"):=by decide +kernel
theorem QZ{pins:List (Addr×Obj)}{σ:St}{H:Hp}{s:Shared}(I:Inv X pins σ H s):∀b∈[s.heap.objs.size+1,s.heap.objs.size],Eo X pins H b:=λb hb=>by
 have hb':b=s.heap.objs.size+1∨b=s.heap.objs.size:=by simpa using hb
 rcases hb' with e|e<;>subst e
 ·exact I.fpOk (Nat.le_succ _) (I.hok.fresh (Nat.le_succ _))
 ·exact I.fpOk (AAF _) (I.hok.fresh (AAF _))
theorem RD{a:Expr}{ta:TA}{p pos:Pos}(hg:Gl X "enumerate")(hm:X.mg "enumerate" = none)(ha:PA X [a] ta)(hs:starEach [a] X.env=[(false,eval a X.env)]:=by rfl):PI X (.Tuple es k0 tpos) (.Call (.Name "enumerate" p) [a] [] pos) (XN X.K ta):=by
 intro pins s σ H R I h;refine Call_ (GH I hg hm J5 (PyProof.Rows.callWith_type1 (thn (ha pos pins s σ H _ I h) λus s1 ⟨vs,H1,I1,r1,q1⟩=>?_) hs rfl));obtain⟨l,xs,e,hq,q⟩:=q1;subst e;obtain⟨u,rfl,ru⟩:=IG r1;cases ru;obtain⟨its,rv,pl,hz⟩:=I1.list hq;have hlt:l<s1.heap.objs.size:=by obtain⟨o,n,e,_⟩:=pl;exact Heap.lt_size e
 refine call_enumerate_list pl.isList λh' he hit hsz kk=>wpAny_pyIter_enum he ?_;exact⟨s1.heap.objs.size+1,[s1.heap.objs.size+1,s1.heap.objs.size],_,_,H1,rfl,I1.kept (t':=s1.toks) kk,Mn l _ _ xs (Nat.succ_ne_self _) (Nat.ne_of_gt (AAg hlt)) (AAd hlt),⟨⟨_,he⟩,hit⟩,QZ I1,q⟩
end
end L2
namespace L2
open PySem PySem.Spec PyProof.Rows
def KGet(P:Params)(K:PySem.W.Frag)(a:Addr)(y:V)(r:Option V):Prop:=
 ∃x es n r',y=.str x/\K.lookup a=some ⟨.type "dict",none,.dict es n,#[]⟩/\PySem.W.KeysLit P es.toList/\PySem.W.nsIn K a x=some r'/\RelO r r'/\(a==sysModules)=false
section
variable{X:Cx}{pins:List (Addr×Obj)}{σ:St}{H:Hp}{s:Shared}{a:Addr}{y v:V}{u:Value}{o:Option V}{A:Around}{E:Value->Shared->Prop}
theorem KGet.typeIs(I:Inv X pins σ H s)(g:KGet X.w.params X.K a y o):s.TypeIs (.ref a) "dict" := by
 obtain⟨x,es,n,r',_,hl,_⟩:=g;exact⟨_,I.kIn a _ hl,rfl⟩
theorem PR{Q:Value->Shared->Prop}(I:Inv X pins σ H s)(g:KGet X.w.params X.K a y (some v))(ry:RelV y u)(h:∀w' s',Inv X pins σ H s'->RelV v w'->Q w' s'):
  wpAny (model X.prog X.w) A (getItem (.ref a) u) Q E s:=by
 obtain⟨x,es,n,r',e,hl,hk,hn,ro,_⟩:=g;subst e;obtain⟨t,rfl⟩:=ry;obtain⟨w',rfl,rw'⟩:=RelO.some_of ro;exact wpAny_getItem_of (strKind_is X.prog X.w x t) (PySem.W.mapOf_K (prog:=X.prog) (λa o q=>I.kIn a o q) hl hk) (PySem.W.find_K hl hn) (h w' _ (I.tok _) rw')
theorem Zp{Q:Value->Shared->Prop}(I:Inv X pins σ H s)(g:KGet X.w.params X.K a y o)(ry:RelV y u)(h:∀s',Inv X pins σ H s'->Q (.bool o.isSome) s'):
  wpAny (model X.prog X.w) A (compareOp .In u (.ref a)) Q E s:=by
 obtain⟨x,es,n,r',e,hl,hk,hn,ro,lo⟩:=g;subst e;obtain⟨t,rfl⟩:=ry;refine wpAny_in_of (strKind_is X.prog X.w x t) lo (PySem.W.mapOf_K (prog:=X.prog) (λa o q=>I.kIn a o q) hl hk) ?_;rw[PySem.W.find_K hl hn,←ro.isSome_eq];exact h _ (I.tok _)
end
noncomputable def X9(P:Params)(K:PySem.W.Frag)(td ty:TE):TE:=λσ H Q=>td σ H λx H1=>ty σ H1 λy H2=>∃a v,x=.ref a/\KGet P K a y (some v)/\Q v H2
noncomputable def X8(P:Params)(K:PySem.W.Frag)(ty td:TE):TE:=λσ H Q=>ty σ H λy H1=>td σ H1 λx H2=>∃a o,x=.ref a/\KGet P K a y o/\Q (.bl o.isSome) H2
section
variable{X:Cx}{o i:Expr}{pos:Pos}{td ty:TE}
theorem T4(ho:PE X o td)(hi:PE X i ty)(hs:Xn i):PE X (.Subscript o i pos) (X9 X.w.params X.K td ty):=by
 intro pins s σ H Q I h;refine TQ PySem.F.slot_dict_getitem.lookup hs (thn (ho pins s σ H _ I h) λu s1 ⟨x,H1,I1,rx,q1⟩=>thn (hi pins s1 σ H1 _ I1 q1) λiv s2 ⟨y,H2,I2,ry,a,v,ex,g,q2⟩=>?_);subst ex;obtain rfl:u=Value.ref a:=rx;exact⟨g.typeIs I2,PR I2 g ry λw' s3 I3 rw'=>⟨v,H2,I3,rw',q2⟩⟩
theorem WX(hi:PE X i ty)(ho:PE X o td):PC X .In i o (X8 X.w.params X.K ty td):=by
 intro pins s σ H Q I h;refine thn (hi pins s σ H _ I h) λiv s1 ⟨y,H1,I1,ry,q1⟩=>thn (ho pins s1 σ H1 _ I1 q1) λu s2 ⟨x,H2,I2,rx,a,ov,ex,g,q2⟩=>?_;subst ex;obtain rfl:u=Value.ref a:=rx;exact Zp I2 g ry λs3 I3=>⟨.bl ov.isSome,H2,I3,rfl,q2⟩
end
noncomputable def Zd(tv:TE):TE:=λσ H Q=>tv σ H λv H1=>(∃x,v=.str x/\x.length<=sizeLine/\Q (.str x) H1)∨∃a:Int,v=.int a/\a.natAbs.log2<1920/\Q (.str (toString a)) H1
noncomputable def Nj:List TE->Str->TE
 |[],out=>λ_ H Q=>out.length<=sizeLine/\Q (.str out) H
 |t::r,out=>λσ H Q=>t σ H λv H1=>∃y,v=.str y/\(out++y).length<=sizeLine/\Nj r (out++y) σ H1 Q
def PJ(X:Cx)(es:List Expr)(ts:List TE):Prop:=
 ∀(out:Str) (pins:List (Addr×Obj)) (s:Shared) (σ:St) (H:Hp) (Q:VK),Inv X pins σ H s->Nj ts out σ H Q->wpAny (model X.prog X.w) X.A (joinParts out (evalEach es X.env)) (EP X pins σ Q) X.xe s
section
variable{X:Cx}{value e e2:Expr}{es:List Expr}{pos:Pos}{tv t t2:TE}{ts:List TE}
theorem WV(hv:PE X value tv):PE X (.FormattedValue value (-1) none pos) (Zd tv):=by
 intro pins s σ H Q I h;refine FormattedValue_plain (thn (hv pins s σ H _ I h) λu s1 ⟨v,H1,I1,r,q⟩=>?_);rcases q with ⟨x,e,hz,q⟩|⟨a,e,hz,q⟩
 ·subst e;obtain⟨t,rfl⟩:=r;exact formatField_str (λt' tk=>⟨.str x,H1,I1.tok _,⟨t',rfl⟩,q⟩) hz
 ·subst e;obtain⟨t,rfl⟩:=r;exact formatField_int_small hz ⟨.str (toString a),H1,I1.tok _,⟨_,rfl⟩,q⟩
theorem WK:PJ X [] []:=λout pins s σ H Q I h=>joinParts_nil ⟨.str out,H,I.tok _,⟨_,rfl⟩,h.2⟩ h.1
theorem T0(he:PE X e t)(hr:PJ X es ts):PJ X (e::es) (t::ts):=λout pins s σ H Q I h=>by
 show wpAny _ _ (joinParts out (eval e X.env::evalEach es X.env)) _ _ _;refine joinParts_cons (thn (he pins s σ H _ I h) λu s1 ⟨v,H1,I1,r,y,e,hz,q⟩=>?_);subst e;obtain⟨tk,rfl⟩:=r;exact⟨hz,hr _ pins s1 σ H1 Q I1 q⟩
theorem O0(h:PJ X (e::e2::es) (t::t2::ts)):PE X (.JoinedStr (e::e2::es) pos) (Nj (t::t2::ts) Str.empty):=λpins s σ H Q I q=>JoinedStr_many (h Str.empty pins s σ H Q I q)
end
end L2
namespace Nk
open PySem PySem.Spec PyProof.Rows
inductive NK where
 |int (i:Int)|tup (ks:List NK)
noncomputable instance:DecidableEq NK:=λ_ _=>Classical.propDecidable _
mutual
def NK.hash:NK->Int
 | .int i=>hashInt i
 | .tup ks=>reduceHash (Builtin.Tuple.tupleHashOf (NK.hashes ks))
def NK.hashes:List NK->List Int
 |[]=>[]
 |k::ks=>NK.hash k::NK.hashes ks
end
section
variable{prog:Program}{w:World}{A:Around}{E:Value->Shared->Prop}{s:Shared}
theorem hash_tup{a:Addr}{o:Obj}{items:Array Value}{n:Nat}{hs:List Int}{d:Nat}{Q:Int->Shared->Prop}(hu:A.units<cLine)(ho:s.heap.get? a=some o)(hc:o.cls=.type "tuple")(hd:o.data=.seq items n)
  (each:∀(P:Array Int->Shared->Prop),P hs.toArray { s with toks:=s.toks+d }->wpAny (model prog w) A.in1 (forIn items.toList (#[]:Array Int) λx r=>do let y ←pyHash x;pure (ForInStep.yield (r.push y))) P E s)
  (q:Q (reduceHash (Builtin.Tuple.tupleHashOf hs)) { s with toks:=s.toks+(d+1) }):wpAny (model prog w) A (pyHash (.ref a)) Q E s:=by
 have hT:s.TypeIs (.ref a) "tuple" := ⟨o,ho,hc⟩;show wpAny _ _ (pyHashByItsType (.ref a)) Q E s;unfold pyHashByItsType;refine AAA (wpAny_cRoomFor_or (.inr hu) (AAA (wpAny_specialOf hT PySem.F.slot_tuple_hash.lookup ?_)));rw[if_neg (by rw[beq_builtin_none];exact AAf)];refine AAA (wpAny_specialOf hT PySem.F.slot_tuple_hash.lookup ?_);show wpAny _ _ (callSpecialIfBoundUnlessNone? (.ref a) "__hash__" _ >>= _) Q E s;refine AAA (wpAny_callSpecialIfBoundUnlessNone?_slot hT PySem.F.slot_tuple_hash (AAc PySem.F.slot_tuple_hash hT PySem.F.entry_tuple_hash ?_ (PySem.F.args_tuple_hash_1 _)));show wpAny _ _ (Builtin.Tuple.tupleItemsOf (.ref a) >>= _) _ _ s;refine AAA (wpAny_tupleItemsOf ho hd (AAA ?_));rw[←Array.forIn_toList];refine each _ ?_;show wpAny _ _ (retInt (Builtin.Tuple.tupleHashOf hs.toArray.toList)) _ _ _;refine wpAny_ret_mkInt ?_;show wpAny _ _ (pyHashByItsType.reduced _) Q E _;unfold pyHashByItsType.reduced;unfold reduceHash at q;split
 ·rename_i hr;rw[if_pos hr] at q;exact AAB q
 ·rename_i hr;rw[if_neg hr] at q;exact AAA (wpAny_rule (AAB q))
end
end Nk
namespace Nk
open PySem PySem.Spec PyProof.Rows PySem.MeetsSeq PySem.SeqAt
noncomputable abbrev Cs:=Int×Int×List Int
noncomputable def csK(c:Cs):NK:=.tup [.int c.1,.int c.2.1,.tup (c.2.2.map NK.int)]
open L2 in
noncomputable def ZB(p:Addr)(l:List (Cs×Addr×V)):HO:=.ext λh=>∃(us:List Value) (o:Obj) (es:Array DictEntry) (ep:Nat),Vals (l.map (·.2.2)) us/\h.get? p=some o/\o.ExactDict/\o.data=.dict es ep /\
 es.toList=(l.zip us).map (λx=>{ key:=.ref x.1.2.1,hash:=(csK x.1.1).hash,val:=x.2 })/\(l.map (·.1)).Nodup/\l.length<=sizeLine/\(p==sysModules)=false
end Nk
namespace Mi
open PySem L2 Nk
inductive D where
 |non|bl (b:Bool)|int (i:Int)|str (x:Str)|ty (n:String)|scr (ns:List Int)|tup (xs:List D)|lst (xs:List D)|ref (n:Nat)
mutual
def En:D->D->Bool
 | .non,.non=>true
 | .bl a,.bl b=>a==b
 | .int a,.int b=>a==b
 | .str a,.str b=>a==b
 | .ty a,.ty b=>a==b
 | .scr a,.scr b=>a==b
 | .tup a,.tup b=>NH a b
 | .lst a,.lst b=>NH a b
 | .ref a,.ref b=>a==b
 |_,_=>false
def NH:List D->List D->Bool
 |[],[]=>true
 |a::as,b::bs=>En a b&&NH as bs
 |_,_=>false
end
mutual
theorem OX:∀{a b:D},En a b=true->a=b
 | .tup a,.tup b,h=>by unfold En at h;rw[LF h]
 | .lst a,.lst b,h=>by unfold En at h;rw[LF h]
 | .non,b,h=>by cases b<;>first|rfl|cases h
 | .bl a,b,h=>by cases b<;>first|(unfold En at h;rw[eq_of_beq h])|cases h
 | .int a,b,h=>by cases b<;>first|(unfold En at h;rw[eq_of_beq h])|cases h
 | .str a,b,h=>by cases b<;>first|(unfold En at h;rw[eq_of_beq h])|cases h
 | .ty a,b,h=>by cases b<;>first|(unfold En at h;rw[eq_of_beq h])|cases h
 | .scr a,b,h=>by cases b<;>first|(unfold En at h;rw[eq_of_beq h])|cases h
 | .ref a,b,h=>by cases b<;>first|(unfold En at h;rw[eq_of_beq h])|cases h
theorem LF:∀{a b:List D},NH a b=true->a=b
 |[],[],_=>rfl
 |a::as,b::bs,h=>by
  unfold NH at h;rw[Bool.and_eq_true] at h;rw[OX h.1,LF h.2]
end
mutual
theorem KA:∀a:D,En a a=true
 | .tup a=>by unfold En;exact HK a
 | .lst a=>by unfold En;exact HK a
 | .non=>rfl
 | .bl a=>by unfold En;exact beq_self_eq_true a
 | .int a=>by unfold En;exact beq_self_eq_true a
 | .str a=>by unfold En;exact beq_self_eq_true a
 | .ty a=>by unfold En;exact beq_self_eq_true a
 | .scr a=>by unfold En;exact beq_self_eq_true a
 | .ref a=>by unfold En;exact beq_self_eq_true a
theorem HK:∀a:List D,NH a a=true
 |[]=>rfl
 |a::as=>by unfold NH;rw[KA a,HK as];rfl
end
instance:DecidableEq D:=λa b=>if h:En a b=true then .isTrue (OX h) else .isFalse λe=>h (by rw[e];exact KA b)
inductive MO where
 |lst (xs:List D)|dK (kvs:List (Key×D))|dC (kvs:List (Cs×D))|ins (c:Str) (fs:List (Str×D))|dP (kvs:List (D×D))|exc (c:Str) (n:Option Nat)
abbrev Mh:=List MO
set_option genInjectivity false in
structure KW where
 fr:PySem.W.Frag
 w:World
instance:CoeOut KW PySem.W.Frag:=⟨KW.fr⟩
noncomputable abbrev _root_.L2.Cx.kw(X:Cx):KW:=⟨X.K,X.w⟩
noncomputable abbrev M(α:Type):=Mh->Option (α×Mh)
noncomputable abbrev Sl:=List (Option D)
noncomputable def ret{α:Type}(a:α):M α:=λμ=>some (a,μ)
noncomputable def bnd{α β:Type}(m:M α)(f:α->M β):M β:=λμ=>match m μ with
 |some (a,μ1)=>f a μ1
 |none=>none
noncomputable def Ba{α:Type}:M α:=λ_=>none
theorem AJ{α β:Type}{m:M α}{f:α->M β}{μ:Mh}{r:β×Mh}(h:bnd m f μ=some r):∃a μ1,m μ=some (a,μ1)/\f a μ1=some r:=by
 unfold bnd at h;cases e:m μ with
 |none=>rw[e] at h;cases h
 |some p=>obtain⟨a,μ1⟩:=p;rw[e] at h;exact⟨a,μ1,rfl,h⟩
@[simp] theorem ZR{α β:Type}(a:α)(f:α->M β):bnd (ret a) f=f a:=rfl
theorem AQ{α β:Type}{m:M α}{f:α->M β}{μ μ1:Mh}{a:α}(h:m μ=some (a,μ1)):bnd m f μ=f a μ1:=by unfold bnd;rw[h]
def ScrAt(K:PySem.W.Frag)(H:Hp)(a:Addr)(xs:List V):Prop:=
 (∃o,H a=some (.frz o (.lst xs)))∨∃(o:Obj) (its:Array Value) (n:Nat),K.lookup a=some o/\o.cls=.type "list" /\ o.dict=none/\o.data=.seq its n/\its.size<=sizeLine/\Vals xs its.toList
theorem ScrAt.sq{K:PySem.W.Frag}{H:Hp}{a:Addr}{xs:List V}(h:ScrAt K H a xs):SqL K H a xs:=h.elim (λz=>.inl (.inr z)) .inr
mutual
def Is(K:KW)(ι:Nat->Addr)(k:Nat)(H:Hp):D->V->Prop
 | .non,v=>v=.non
 | .bl b,v=>v=.bl b
 | .int i,v=>v=.int i
 | .str x,v=>v=.str x
 | .ty n,v=>v=.ty n
 | .scr ns,v=>∃p,v=.ref p/\ScrAt K H p (ns.map V.int)
 | .tup ds,v=>∃p vs,v=.ref p/\SqT K H p vs/\IsL K ι k H ds vs
 | .lst ds,v=>∃p vs,v=.ref p/\H p=some (.lst vs)/\(∀n,n<k->ι n≠p)/\IsL K ι k H ds vs
 | .ref n,v=>n<k/\v=.ref (ι n)
def IsL(K:KW)(ι:Nat->Addr)(k:Nat)(H:Hp):List D->List V->Prop
 |[],vs=>vs=[]
 |d::ds,vs=>∃v vs',vs=v::vs'/\Is K ι k H d v/\IsL K ι k H ds vs'
end
section
variable{K:KW}{ι ι' ι2:Nat->Addr}{k k' k2:Nat}{H H' H2:Hp}
theorem IsL.length:∀{ds:List D} {vs:List V},IsL K ι k H ds vs->vs.length=ds.length
 |[],_,h=>by unfold IsL at h;subst h;rfl
 |_::_,_,h=>by
  unfold IsL at h;obtain⟨v,vs',rfl,_,h⟩:=h;simp only[AAI,IsL.length h]
theorem IsL.get:∀{ds:List D} {vs:List V} {i:Nat} {d:D},IsL K ι k H ds vs->ds[i]?=some d->∃v,vs[i]?=some v/\Is K ι k H d v
 |[],_,_,_,_,e=>by simp at e
 |_::_,_,0,_,h,e=>by
  unfold IsL at h;obtain⟨v,vs',rfl,h1,_⟩:=h;simp at e;subst e;exact⟨v,rfl,h1⟩
 |_::_,_,i+1,d,h,e=>by
  unfold IsL at h;obtain⟨v,vs',rfl,_,h⟩:=h;obtain⟨u,e1,e2⟩:=IsL.get (i:=i) (d:=d) h (by simpa using e);exact⟨u,by simpa using e1,e2⟩
theorem IsL.append:∀{ds es:List D} {vs us:List V},IsL K ι k H ds vs->IsL K ι k H es us->IsL K ι k H (ds++es) (vs++us)
 |[],_,_,_,h,q=>by unfold IsL at h;subst h;exact q
 |_::_,_,_,_,h,q=>by
  unfold IsL at h;obtain⟨v,vs',rfl,h1,h⟩:=h;show IsL K ι k H (_::(_++_)) _;unfold IsL;exact⟨v,_,rfl,h1,IsL.append h q⟩
theorem IsL.take:∀(n:Nat) {ds:List D} {vs:List V},IsL K ι k H ds vs->IsL K ι k H (ds.take n) (vs.take n)
 |0,ds,vs,_=>by rw[List.take_zero,List.take_zero];unfold IsL;rfl
 |n+1,[],_,h=>by unfold IsL at h;subst h;simp only[List.take_nil];unfold IsL;rfl
 |n+1,_::_,_,h=>by
  unfold IsL at h;obtain⟨v,vs',rfl,h1,h⟩:=h;simp only[List.take_succ_cons];unfold IsL;exact⟨v,_,rfl,h1,IsL.take n h⟩
theorem IsL.drop:∀(n:Nat) {ds:List D} {vs:List V},IsL K ι k H ds vs->IsL K ι k H (ds.drop n) (vs.drop n)
 |0,_,_,h=>h
 |n+1,[],_,h=>by unfold IsL at h;subst h;simp only[List.drop_nil];unfold IsL;rfl
 |n+1,_::_,_,h=>by
  unfold IsL at h;obtain⟨v,vs',rfl,h1,h⟩:=h;simp only[List.drop_succ_cons];exact IsL.drop n h
theorem IsL.cons{d:D}{ds:List D}{v:V}{vs:List V}(h:Is K ι k H d v)(t:IsL K ι k H ds vs):IsL K ι k H (d::ds) (v::vs):=by
 unfold IsL;exact⟨v,vs,rfl,h,t⟩
theorem IsL.nil:IsL K ι k H [] []:=by unfold IsL;rfl
theorem IsL.one{d:D}{v:V}(h:Is K ι k H d v):IsL K ι k H [d] [v]:=.cons h .nil
theorem IsL.set{d:D}{v:V}(h1:Is K ι k H d v):∀{ds:List D} {vs:List V} (i:Nat),IsL K ι k H ds vs->IsL K ι k H (ds.set i d) (vs.set i v)
 |[],_,_,h=>by unfold IsL at h;subst h;exact .nil
 |_::_,_,0,h=>by
  unfold IsL at h;obtain⟨v,vs',rfl,_,h⟩:=h;exact .cons h1 h
 |_::_,_,i+1,h=>by
  unfold IsL at h;obtain⟨v,vs',rfl,h0,h⟩:=h;exact .cons h0 (IsL.set h1 i h)
theorem IsL.ofInts:∀(ns:List Int),IsL K ι k H (ns.map D.int) (ns.map V.int)
 |[]=>.nil
 |n::r=>.cons (by unfold Is;rfl) (IsL.ofInts r)
noncomputable def R9:HO->Bool
 | .lst _=>true
 | .dK _=>true
 | .ext _=>true
 | .ins _ _ _=>true
 |_=>false
def Muts(ι:Nat->Addr)(k:Nat)(H:Hp):Prop:=∀n,n<k->∃o,H (ι n)=some o/\R9 o=true
structure Ext(ι:Nat->Addr)(k:Nat)(H:Hp)(ι':Nat->Addr)(k':Nat)(H':Hp):Prop where
 le:k<=k'
 agree:∀n,n<k->ι' n=ι n
 fresh:∀n,k<=n->n<k'->H (ι' n)=none
 keep:∀p o,H p=some o->(∀n,n<k->ι n≠p)->H' p=some o
 was:Muts ι k H
 there:Muts ι k H'
theorem Ext.refl(h:Muts ι k H):Ext ι k H ι k H:=⟨AAF _,λ_ _=>rfl,λn h1 h2=>absurd h1 (by omega),λ_ _ e _=>e,h,h⟩
theorem Ext.trans(a:Ext ι k H ι' k' H')(b:Ext ι' k' H' ι2 k2 H2):Ext ι k H ι2 k2 H2 where
 le:=AAq a.le b.le
 agree:=λn h=>(b.agree n (AAN h a.le)).trans (a.agree n h)
 fresh:=λn h1 h2=>by
  rcases Nat.lt_or_ge n k' with z|z
  ·rw[b.agree n z];exact a.fresh n h1 z
  ·have q:=b.fresh n z h2;cases e:H (ι2 n) with
   |none=>rfl
   |some o=>
    by_cases hx:∃m,m<k/\ι m=ι2 n
    ·obtain⟨m,hm,e2⟩:=hx;obtain⟨o',q',_⟩:=a.there m hm;rw[e2,q] at q';cases q'
    ·have:=a.keep _ o e (λm hm e2=>hx ⟨m,hm,e2⟩);rw[q] at this;cases this
 keep:=λp o e hn=>b.keep p o (a.keep p o e hn) (λn hlt e2=>by
  rcases Nat.lt_or_ge n k with z|z
  ·rw[a.agree n z] at e2;exact hn n z e2
  ·have:=a.fresh n z hlt;rw[e2,e] at this;cases this)
 was:=a.was
 there:=λn h=>by
  have:=b.there n (AAN h a.le);rw[a.agree n h] at this;exact this
theorem Ext.out(a:Ext ι k H ι' k' H'){p:Addr}{o:HO}(e:H p=some o)(hn:∀n,n<k->ι n≠p):∀n,n<k'->ι' n≠p:=λn h e2=>by
 rcases Nat.lt_or_ge n k with z|z
 ·rw[a.agree n z] at e2;exact hn n z e2
 ·have:=a.fresh n z h;rw[e2,e] at this;cases this
theorem Muts.ne(a:Muts ι k H){p:Addr}{o:HO}(e:H p=some o)(hm:R9 o=false):∀n,n<k->ι n≠p:=λn hn e2=>by
 obtain⟨o',q,h⟩:=a n hn;rw[e2,e] at q;cases q;rw[hm] at h;cases h
theorem GS{p:Addr}{vs:List V}(a:Ext ι k H ι' k' H')(h:SqT K H p vs):SqT K H' p vs:=by
 rcases h with h|h
 ·rcases h with h|⟨o,h⟩
  ·exact .inl (.inl (a.keep p _ h (a.was.ne h rfl)))
  ·exact .inl (.inr ⟨o,a.keep p _ h (a.was.ne h rfl)⟩)
 ·exact .inr h
theorem KU{p:Addr}{vs:List V}(a:Ext ι k H ι' k' H')(h:ScrAt K H p vs):ScrAt K H' p vs:=by
 rcases h with ⟨o,h⟩|h
 ·exact .inl ⟨o,a.keep p _ h (a.was.ne h rfl)⟩
 ·exact .inr h
mutual
theorem Is.ext(a:Ext ι k H ι' k' H'):∀{d:D} {v:V},Is K ι k H d v->Is K ι' k' H' d v
 | .non,_,h=>by unfold Is at h ⊢;exact h
 | .bl _,_,h=>by unfold Is at h ⊢;exact h
 | .int _,_,h=>by unfold Is at h ⊢;exact h
 | .str _,_,h=>by unfold Is at h ⊢;exact h
 | .ty _,_,h=>by unfold Is at h ⊢;exact h
 | .scr ns,_,h=>by
  unfold Is at h ⊢;obtain⟨p,rfl,h⟩:=h;exact⟨p,rfl,KU a h⟩
 | .tup ds,_,h=>by
  unfold Is at h ⊢;obtain⟨p,vs,rfl,h1,h2⟩:=h;exact⟨p,vs,rfl,GS a h1,IsL.ext a h2⟩
 | .lst ds,_,h=>by
  unfold Is at h ⊢;obtain⟨p,vs,rfl,h1,hn,h2⟩:=h;exact⟨p,vs,rfl,a.keep p _ h1 hn,a.out h1 hn,IsL.ext a h2⟩
 | .ref n,_,h=>by
  unfold Is at h ⊢;obtain⟨h,rfl⟩:=h;exact⟨AAN h a.le,by rw[a.agree n h]⟩
theorem IsL.ext(a:Ext ι k H ι' k' H'):∀{ds:List D} {vs:List V},IsL K ι k H ds vs->IsL K ι' k' H' ds vs
 |[],_,h=>by unfold IsL at h ⊢;exact h
 |_::_,_,h=>by
  unfold IsL at h ⊢;obtain⟨v,vs',rfl,h1,h2⟩:=h;exact⟨v,vs',rfl,Is.ext a h1,IsL.ext a h2⟩
end
noncomputable def KVs(K:KW)(ι:Nat->Addr)(k:Nat)(H:Hp):List (Key×D)->List (Key×V)->Prop
 |[],r=>r=[]
 |(y,d)::l,r=>∃v r',r=(y,v)::r'/\Is K ι k H d v/\KVs K ι k H l r'
theorem KVs.ext(a:Ext ι k H ι' k' H'):∀{l:List (Key×D)} {r:List (Key×V)},KVs K ι k H l r->KVs K ι' k' H' l r
 |[],_,h=>h
 |(_,_)::_,_,h=>by
  obtain⟨v,r',rfl,h1,h2⟩:=h;exact⟨v,r',rfl,h1.ext a,h2.ext a⟩
noncomputable def csD(c:Cs):D:=.tup [.int c.1,.int c.2.1,.tup (c.2.2.map D.int)]
noncomputable def CVs(K:KW)(ι:Nat->Addr)(k:Nat)(H:Hp):List (Cs×D)->List (Cs×Addr×V)->Prop
 |[],r=>r=[]
 |(y,d)::l,r=>∃a v r',r=(y,a,v)::r'/\Is K ι k H (csD y) (.ref a)/\Is K ι k H d v/\CVs K ι k H l r'
theorem CVs.ext(a:Ext ι k H ι' k' H'):∀{l:List (Cs×D)} {r:List (Cs×Addr×V)},CVs K ι k H l r->CVs K ι' k' H' l r
 |[],_,h=>h
 |(_,_)::_,_,h=>by
  obtain⟨b,v,r',rfl,h1,h2,h3⟩:=h;exact⟨b,v,r',rfl,h1.ext a,h2.ext a,h3.ext a⟩
noncomputable def FVs(K:KW)(ι:Nat->Addr)(k:Nat)(H:Hp):List (Str×D)->List (Str×V)->Prop
 |[],r=>r=[]
 |(y,d)::l,r=>∃v r',r=(y,v)::r'/\Is K ι k H d v/\FVs K ι k H l r'
theorem FVs.ext(a:Ext ι k H ι' k' H'):∀{l:List (Str×D)} {r:List (Str×V)},FVs K ι k H l r->FVs K ι' k' H' l r
 |[],_,h=>h
 |(_,_)::_,_,h=>by
  obtain⟨v,r',rfl,h1,h2⟩:=h;exact⟨v,r',rfl,h1.ext a,h2.ext a⟩
mutual
def hD(w:World):D->Int
 | .int i=>hashInt i
 | .str x=>hashStr w x
 | .tup ks=>reduceHash (Builtin.Tuple.tupleHashOf (hDs w ks))
 |_=>0xFCA86420
def hDs(w:World):List D->List Int
 |[]=>[]
 |k::ks=>hD w k::hDs w ks
end
noncomputable def ZA(w:World)(p:Addr)(l:List (D×Addr×V)):HO:=.ext λh=>∃(us:List Value) (o:Obj) (es:Array DictEntry) (ep:Nat),Vals (l.map (·.2.2)) us/\h.get? p=some o/\o.ExactDict/\o.data=.dict es ep /\
 es.toList=(l.zip us).map (λx=>{ key:=.ref x.1.2.1,hash:=hD w x.1.1,val:=x.2 })/\(l.map (·.1)).Nodup/\l.length<=sizeLine/\(p==sysModules)=false
mutual
def Kz:D->Bool
 | .non=>true
 | .int _=>true
 | .str _=>true
 | .tup ds=>KzL ds
 |_=>false
def KzL:List D->Bool
 |[]=>true
 |d::ds=>Kz d&&KzL ds
end
mutual
def LC:D->Nat
 | .tup ks=>EJ ks+1
 |_=>0
def EJ:List D->Nat
 |[]=>0
 |k::ks=>max (LC k) (EJ ks)
end
noncomputable def PVs(K:KW)(ι:Nat->Addr)(k:Nat)(H:Hp):List (D×D)->List (D×Addr×V)->Prop
 |[],r=>r=[]
 |(y,d)::l,r=>∃a v r',r=(y,a,v)::r'/\(Kz y=true/\LC y<=8/\Is K ι k H y (.ref a))/\Is K ι k H d v/\PVs K ι k H l r'
theorem PVs.ext(a:Ext ι k H ι' k' H'):∀{l:List (D×D)} {r:List (D×Addr×V)},PVs K ι k H l r->PVs K ι' k' H' l r
 |[],_,h=>h
 |(_,_)::_,_,h=>by
  obtain⟨b,v,r',rfl,h1,h2,h3⟩:=h;exact⟨b,v,r',rfl,⟨h1.1,h1.2.1,h1.2.2.ext a⟩,h2.ext a,h3.ext a⟩
def BR(K:PySem.W.Frag)(c:Str)(C:Addr):Prop:=PySem.W.nsIn K mainGlobals c=some (some (.ref C))
noncomputable def XU(p C:Addr)(dx:Option Addr):HO:=.ext λh=>∃oe vs,h.get? p=some oe/\oe.cls=.ref C/\oe.dict=dx/\oe.data=.fields vs
def U1(H:Hp)(n:Option Nat)(dx:Option Addr):Prop:=match n with
 |none=>dx=none
 |some i=>∃d,dx=some d/\H d=some (.xd [("at",.int (i:Int))])
noncomputable def ObjIs(K:KW)(ι:Nat->Addr)(k:Nat)(H:Hp)(p:Addr):MO->HO->Prop
 | .lst ds,o=>∃vs,o=.lst vs/\IsL K ι k H ds vs
 | .dK l,o=>∃r,o=.dK r/\KVs K ι k H l r
 | .dC l,o=>∃r,o=ZB p r/\CVs K ι k H l r
 | .ins c l,o=>∃C dx r,o=.ins C dx r/\BR K c C/\H dx=some (.own p)/\FVs K ι k H l r
 | .dP l,o=>∃r,o=ZA K.w p r/\PVs K ι k H l r
 | .exc c n,o=>∃C dx,o=XU p C dx/\BR K c C/\U1 H n dx
structure RelH(K:KW)(ι:Nat->Addr)(μ:Mh)(H:Hp):Prop where
 inj:∀i j,i<μ.length->j<μ.length->ι i=ι j->i=j
 obj:∀n o,μ[n]?=some o->∃u,H (ι n)=some u/\ObjIs K ι μ.length H (ι n) o u
theorem ObjIs.mut{p:Addr}{o:MO}{u:HO}(h:ObjIs K ι k H p o u):R9 u=true:=by
 cases o with
 |lst ds=>obtain⟨vs,rfl,_⟩:=h;rfl
 |dK l=>obtain⟨r,rfl,_⟩:=h;rfl
 |dC l=>obtain⟨r,rfl,_⟩:=h;rfl
 |ins c l=>obtain⟨C,dx,r,rfl,_⟩:=h;rfl
 |dP l=>obtain⟨r,rfl,_⟩:=h;rfl
 |exc c n=>obtain⟨C,dx,rfl,_⟩:=h;rfl
theorem ObjIs.ext(a:Ext ι k H ι' k' H'){p:Addr}{o:MO}{u:HO}(h:ObjIs K ι k H p o u):ObjIs K ι' k' H' p o u:=by
 cases o with
 |lst ds=>obtain⟨vs,rfl,h⟩:=h;exact⟨vs,rfl,h.ext a⟩
 |dK l=>obtain⟨r,rfl,h⟩:=h;exact⟨r,rfl,h.ext a⟩
 |dC l=>obtain⟨r,rfl,h⟩:=h;exact⟨r,rfl,h.ext a⟩
 |ins c l=>obtain⟨C,dx,r,rfl,h0,h1,h⟩:=h;exact⟨C,dx,r,rfl,h0,a.keep dx _ h1 (a.was.ne h1 rfl),h.ext a⟩
 |dP l=>obtain⟨r,rfl,h⟩:=h;exact⟨r,rfl,h.ext a⟩
 |exc c n=>
  obtain⟨C,dx,rfl,h0,h1⟩:=h;refine⟨C,dx,rfl,h0,?_⟩;cases n with
  |none=>exact h1
  |some i=>
   obtain⟨d,e,q⟩:=h1;exact⟨d,e,a.keep d _ q (a.was.ne q rfl)⟩
theorem RelH.muts{μ:Mh}(r:RelH K ι μ H):Muts ι μ.length H:=λn hn=>by
 obtain⟨u,e,h⟩:=r.obj n μ[n] (by simp[hn]);exact⟨u,e,h.mut⟩
theorem RelH.ext0{μ:Mh}(r:RelH K ι μ H):Ext ι μ.length H ι μ.length H:=Ext.refl r.muts
theorem RelH.laid{μ:Mh}(r:RelH K ι μ H){p:Addr}(o:HO)(hp:H p=none):Ext ι μ.length H ι μ.length (upd H p o)/\RelH K ι μ (upd H p o):=by
 have kp:∀q u,H q=some u->upd H p o q=some u:=λq u e=>by rw[Ay (BU e hp)];exact e
 have a:Ext ι μ.length H ι μ.length (upd H p o):=⟨AAF _,λ_ _=>rfl,λn h1 h2=>absurd h1 (by omega),λq u e _=>kp q u e,r.muts,λn hn=>by
  obtain⟨u,e,h⟩:=r.muts n hn;exact⟨u,kp _ _ e,h⟩⟩
 refine⟨a,r.inj,λn o' e=>?_⟩;obtain⟨u,e1,h⟩:=r.obj n o' e;exact⟨u,kp _ _ e1,h.ext a⟩
theorem RelH.grown{μ:Mh}(r:RelH K ι μ H){p:Addr}{o:HO}{m:MO}(hp:H p=none)(h:ObjIs K ι μ.length H p m o):
  ∃ι',Ext ι μ.length H ι' (μ++[m]).length (upd H p o)/\RelH K ι' (μ++[m]) (upd H p o)/\ι' μ.length=p:=by
 have kp:∀q u,H q=some u->upd H p o q=some u:=λq u e=>by rw[Ay (BU e hp)];exact e
 let ι':Nat->Addr:=λn=>if n=μ.length then p else ι n
 have e0:ι' μ.length=p:=if_pos rfl;have e1:∀n,n<μ.length->ι' n=ι n:=λn hn=>if_neg (by omega);have a:Ext ι μ.length H ι' (μ++[m]).length (upd H p o):=⟨by simp,e1,λn h1 h2=>by
   have:n=μ.length:=by simp at h2;omega
   rw[this,e0];exact hp,λq u e _=>kp q u e,r.muts,λn hn=>by
  obtain⟨u,e,h⟩:=r.muts n hn;exact⟨u,kp _ _ e,h⟩⟩
 refine⟨ι',a,⟨λi j hi hj e=>?_,λn o' e=>?_⟩,e0⟩
 ·simp at hi hj;have old:∀i,i<μ.length->ι' i≠p:=λi hi e=>by
   obtain⟨u,q,_⟩:=r.muts i hi;rw[←e1 i hi,e,hp] at q;cases q
  rcases Nat.lt_or_ge i μ.length with zi|zi<;>rcases Nat.lt_or_ge j μ.length with zj|zj
  ·rw[e1 i zi,e1 j zj] at e;exact r.inj i j zi zj e
  ·have:j=μ.length:=by omega
   subst this;rw[e0] at e;exact absurd e (old i zi)
  ·have:i=μ.length:=by omega
   subst this;rw[e0] at e;exact absurd e.symm (old j zj)
  ·omega
 ·rcases Nat.lt_or_ge n μ.length with z|z
  ·rw[AAT z] at e;obtain⟨u,q,hq⟩:=r.obj n o' e;exact⟨u,by rw[e1 n z];exact kp _ _ q,by rw[e1 n z];exact hq.ext a⟩
  ·have hn:n=μ.length:=by
    have:=(AAU.mp e).1;simp at this;omega
   subst hn;rw[AAS (AAF _),Nat.sub_self] at e;simp at e;subst e;exact⟨o,by rw[e0,Be],by rw[e0];exact h.ext a⟩
theorem RelH.changed{μ:Mh}(r:RelH K ι μ H){n:Nat}{o:HO}{m:MO}(hn:n<μ.length)(h:ObjIs K ι μ.length H (ι n) m o):
  Ext ι μ.length H ι (μ.set n m).length (upd H (ι n) o)/\RelH K ι (μ.set n m) (upd H (ι n) o):=by
 have ne:∀i,i<μ.length->i≠n->ι i≠ι n:=λi hi hne e=>hne (r.inj i n hi hn e);have a:Ext ι μ.length H ι (μ.set n m).length (upd H (ι n) o):=⟨by simp,λ_ _=>rfl,λi h1 h2=>by simp at h2;omega,λq u e hq=>by rw[Ay (λz=>hq n hn z.symm)];exact e,r.muts,λi hi=>by
  by_cases z:i=n
  ·subst z;exact⟨o,Be,h.mut⟩
  ·obtain⟨u,e,hu⟩:=r.muts i hi;exact⟨u,by rw[Ay (ne i hi z)];exact e,hu⟩⟩
 refine⟨a,λi j hi hj=>r.inj i j (by simpa using hi) (by simpa using hj),λi o' e=>?_⟩;by_cases z:i=n
 ·subst z;rw[List.getElem?_set_self hn] at e;cases e;exact⟨o,Be,h.ext a⟩
 ·rw[AAl (Ne.symm z)] at e;have hi:i<μ.length:=(AAU.mp e).1;obtain⟨u,q,hq⟩:=r.obj i o' e;exact⟨u,by rw[Ay (ne i hi z)];exact q,hq.ext a⟩
structure RelS(K:KW)(ι:Nat->Addr)(k:Nat)(H:Hp)(τ:Sl)(σ:St):Prop where
 len:σ.length=τ.length
 get:∀(i:Nat) (d:D),τ[i]?=some (some d)->∃v,σ[i]?=some (some v)/\Is K ι k H d v
theorem RelS.ext{τ:Sl}{σ:St}(a:Ext ι k H ι' k' H')(r:RelS K ι k H τ σ):RelS K ι' k' H' τ σ:=⟨r.len,λi d e=>by
 obtain⟨v,e1,h⟩:=r.get i d e;exact⟨v,e1,h.ext a⟩⟩
theorem RelS.set{τ:Sl}{σ:St}(r:RelS K ι k H τ σ){d:D}{v:V}(i:Nat)(h:Is K ι k H d v):RelS K ι k H (τ.set i (some d)) (σ.set i (some v)):=⟨by simp[r.len],λj e q=>by
 by_cases z:i=j
 ·subst z;have hi:i<τ.length:=by
   have:=(AAU.mp q).1;simpa using this
  rw[List.getElem?_set_self hi] at q;cases q;exact⟨v,List.getElem?_set_self (by rw[r.len];exact hi),h⟩
 ·rw[AAl z] at q;obtain⟨u,e1,hu⟩:=r.get j e q;exact⟨u,by rw[AAl z];exact e1,hu⟩⟩
end
end Mi
namespace Mi
open PySem L2
noncomputable abbrev Exn:=Str×Option Nat
inductive Fl where
 |next|brk|cont|rt (d:D)|xc (x:Exn)
abbrev Aft(K:KW)(ι:Nat->Addr)(μ:Mh)(H:Hp)(μ':Mh)(φ:(Nat->Addr)->Hp->Prop):Prop:=
 ∀ι' H',Ext ι μ.length H ι' μ'.length H'->RelH K ι' μ' H'->φ ι' H'
noncomputable def tE(K:KW)(m:Sl->M D):TE:=λσ H Q=>∃ι μ τ d μ',RelH K ι μ H/\RelS K ι μ.length H τ σ/\m τ μ=some (d,μ') /\
 Aft K ι μ H μ' λι' H'=>∀v,Is K ι' μ'.length H' d v->Q v H'
noncomputable def tT(K:KW)(m:Sl->M Bool):TT:=λσ H Q=>∃ι μ τ b μ',RelH K ι μ H/\RelS K ι μ.length H τ σ/\m τ μ=some (b,μ') /\
 Aft K ι μ H μ' λ_ H'=>Q b H'
noncomputable def tL(K:KW)(m:Sl->M (List D)):TA:=λσ H Q=>∃ι μ τ ds μ',RelH K ι μ H/\RelS K ι μ.length H τ σ/\m τ μ=some (ds,μ') /\
 Aft K ι μ H μ' λι' H'=>∀vs,IsL K ι' μ'.length H' ds vs->Q vs H'
noncomputable def FlP(K:KW)(Dn:JU)(ι':Nat->Addr)(k:Nat)(H':Hp)(τ':Sl)(σ':St):Fl->Prop
 | .next=>Dn.nx σ' H'
 | .brk=>Dn.bk σ' H'
 | .cont=>Dn.ct σ' H'
 | .rt d=>∀v,Is K ι' k H' d v->Dn.rt v H'
 | .xc _=>False
noncomputable def tSt(K:KW)(m:Sl->M (Fl×Sl)):TS:=λDn σ H=>∃ι μ τ f τ' μ',RelH K ι μ H/\RelS K ι μ.length H τ σ/\m τ μ=some ((f,τ'),μ') /\
 Aft K ι μ H μ' λι' H'=>∀σ',RelS K ι' μ'.length H' τ' σ'->FlP K Dn ι' μ'.length H' τ' σ' f
structure RE(X:Cx)(e:Expr)(m:Sl->M D):Prop where
 pe:PE X e (tE X.kw m)
structure RT(X:Cx)(e:Expr)(m:Sl->M Bool):Prop where
 pe:PT X e (tT X.kw m)
structure RW(X:Cx)(e:Expr)(m:Sl->M Bool):Prop where
 pe:PW X e (tT X.kw m)
structure RA(X:Cx)(es:List Expr)(m:Sl->M (List D)):Prop where
 pe:PA X es (tL X.kw m)
structure RS(X:Cx)(st:Stmt)(m:Sl->M (Fl×Sl)):Prop where
 pe:PS X st (tSt X.kw m)
structure RSs(X:Cx)(st:List Stmt)(m:Sl->M (Fl×Sl)):Prop where
 pe:PSs X st (tSt X.kw m)
section
variable{X:Cx}{e a b c:Expr}{es:List Expr}{pos:Pos}
theorem PE.wk{t t':TE}(h:PE X e t)(w:∀σ H Q,t' σ H Q->t σ H Q):PE X e t':=λpins s σ H Q I q=>h pins s σ H Q I (w σ H Q q)
theorem RE.wk{m:Sl->M D}{t:TE}(h:PE X e t)(w:∀σ H Q,tE X.kw m σ H Q->t σ H Q):RE X e m:=⟨PE.wk h w⟩
theorem PT.wk{t t':TT}(h:PT X e t)(w:∀σ H Q,t' σ H Q->t σ H Q):PT X e t':=λpins s σ H Q I q=>h pins s σ H Q I (w σ H Q q)
theorem RT.wk{m:Sl->M Bool}{t:TT}(h:PT X e t)(w:∀σ H Q,tT X.kw m σ H Q->t σ H Q):RT X e m:=⟨PT.wk h w⟩
theorem PW.wk{t t':TT}(h:PW X e t)(w:∀σ H Q,t' σ H Q->t σ H Q):PW X e t':=λwh pins s σ H Q I q=>h wh pins s σ H Q I (w σ H Q q)
theorem RW.wk{m:Sl->M Bool}{t:TT}(h:PW X e t)(w:∀σ H Q,tT X.kw m σ H Q->t σ H Q):RW X e m:=⟨PW.wk h w⟩
theorem PA.wk{t t':TA}(h:PA X es t)(w:∀σ H Q,t' σ H Q->t σ H Q):PA X es t':=λp pins s σ H Q I q=>h p pins s σ H Q I (w σ H Q q)
theorem RA.wk{m:Sl->M (List D)}{t:TA}(h:PA X es t)(w:∀σ H Q,tL X.kw m σ H Q->t σ H Q):RA X es m:=⟨PA.wk h w⟩
theorem PS.wk{st:Stmt}{t t':TS}(h:PS X st t)(w:∀D σ H,t' D σ H->t D σ H):PS X st t':=λpins s σ H D I q=>h pins s σ H D I (w D σ H q)
theorem RS.wk{m:Sl->M (Fl×Sl)}{st:Stmt}{t:TS}(h:PS X st t)(w:∀D σ H,tSt X.kw m D σ H->t D σ H):RS X st m:=⟨PS.wk h w⟩
theorem PSs.wk{st:List Stmt}{t t':TS}(h:PSs X st t)(w:∀D σ H,t' D σ H->t D σ H):PSs X st t':=λpins s σ H D I q=>h pins s σ H D I (w D σ H q)
theorem RSs.wk{m:Sl->M (Fl×Sl)}{st:List Stmt}{t:TS}(h:PSs X st t)(w:∀D σ H,tSt X.kw m D σ H->t D σ H):RSs X st m:=⟨PSs.wk h w⟩
theorem OpR.wk{f:Value->Value->Sem Value}{r r':R2}(h:OpR X f r)(w:∀x y H Q,r' x y H Q->r x y H Q):OpR X f r':=λpins s σ H x y v u Q I rx ry q=>h pins s σ H x y v u Q I rx ry (w x y H Q q)
noncomputable def Kw:Expr->Bool
 | .Starred _ _=>true
 |_=>false
theorem A6{e:Expr}{es:List Expr}{env:Env}(h:Kw e=false):starEach (e::es) env=(false,eval e env)::starEach es env:=by
 cases e<;>first|rfl|cases h
theorem BJ{pos:Pos}{env:Env}:∀{es:List Expr},(es.all λe=>!Kw e)=true->(backTo pos (starEach es env)).any (·.1)=false
 |[],_=>rfl
 |e::es,h=>by
  rw[List.all_cons,Bool.and_eq_true] at h;have h1:Kw e=false:=by simpa using h.1
  have ih:=BJ (pos:=pos) (env:=env) h.2;rw[A6 h1];unfold backTo at ih ⊢;simpa using ih
noncomputable def AD(i:Nat):Sl->M D:=λτ μ=>match τ[i]? with
 |some (some d)=>some (d,μ)
 |_=>none
noncomputable def mC(d:D):Sl->M D:=λ_=>ret d
theorem AC(i:Nat){x:Str}(hN:X.N[i]?=some x:=by rfl)(hv:Vis X.env.scope x:=by first|exact Or.inl rfl|exact Or.inr (Or.inl rfl)|exact Or.inr (Or.inr rfl))(hd:(x==("__debug__" : Str))=false:=by decide)
  (hcd:(x==("__classdict__" : Str))=false:=by decide):RE X (.Name x pos) (AD i):=RE.wk (WO hN hv hd hcd) λσ H Q h=>by
 obtain⟨ι,μ,τ,d,μ',R,S,e,q⟩:=h;unfold AD at e;split at e
 ·rename_i d' ed;cases e;obtain⟨v,e1,h1⟩:=S.get i _ ed;exact⟨v,e1,q ι H R.ext0 R v h1⟩
 ·cases e
theorem Os{t:TE}{d:D}{v:V}(h:PE X e (tC v))(hd:∀ι k H,Is X.kw ι k H d v):RE X e (mC d):=RE.wk h λσ H Q h=>by
 obtain⟨ι,μ,τ,d,μ',R,S,e,q⟩:=h;cases e;exact q ι H R.ext0 R v (hd _ _ _)
theorem AG{i j}:RE X (.Constant (.int i) j pos) (mC (.int i)):=Os (t:=λ_ _ _=>True) WU λ_ _ _=>by unfold Is;rfl
theorem FS{i j}:RE X (.Constant (.bool i) j pos) (mC (.bl i)):=Os (t:=λ_ _ _=>True) Yc λ_ _ _=>by unfold Is;rfl
theorem DJ{j}:RE X (.Constant .none j pos) (mC .non):=Os (t:=λ_ _ _=>True) WT λ_ _ _=>by unfold Is;rfl
theorem AI{i j}:RE X (.Constant (.str i) j pos) (mC (.str i)):=Os (t:=λ_ _ _=>True) WQ λ_ _ _=>by unfold Is;rfl
theorem Tf{x:Str}{v:V}{u:Value}{d:D}(hm:X.mg x=some u)(r:RelV v u)(hd:∀ι k H,Is X.kw ι k H d v)(hg:Gl X x:=by rfl)(hdb:(x==("__debug__" : Str))=false:=by decide):RE X (.Name x pos) (mC d):=
 Os (t:=λ_ _ _=>True) (GZ hg hm r hdb) hd
noncomputable def mOp(g:D->D->M D)(ma mb:Sl->M D):Sl->M D:=λτ=>bnd (ma τ) λx=>bnd (mb τ) λy=>g x y
noncomputable def mUn(g:D->M D)(ma:Sl->M D):Sl->M D:=λτ=>bnd (ma τ) g
noncomputable def rM(K:KW)(g:D->D->M D):R2:=λx y H Q=>∃ι μ a b d μ',RelH K ι μ H/\Is K ι μ.length H a x/\Is K ι μ.length H b y/\g a b μ=some (d,μ') /\
 Aft K ι μ H μ' λι' H'=>∀v,Is K ι' μ'.length H' d v->Q v H'
noncomputable def rM1(K:KW)(g:D->M D):V->Hp->VK->Prop:=λx H Q=>∃ι μ a d μ',RelH K ι μ H/\Is K ι μ.length H a x/\g a μ=some (d,μ') /\
 Aft K ι μ H μ' λι' H'=>∀v,Is K ι' μ'.length H' d v->Q v H'
noncomputable def rMA(K:KW)(g:List D->M D):List V->Hp->VK->Prop:=λxs H Q=>∃ι μ as d μ',RelH K ι μ H/\IsL K ι μ.length H as xs/\g as μ=some (d,μ') /\
 Aft K ι μ H μ' λι' H'=>∀v,Is K ι' μ'.length H' d v->Q v H'
theorem Nm{K:KW}{g:D->D->M D}{ma mb:Sl->M D}{σ:St}{H:Hp}{Q:VK}(h:tE K (mOp g ma mb) σ H Q):tOp (rM K g) (tE K ma) (tE K mb) σ H Q:=by
 obtain⟨ι,μ,τ,d,μ',R,S,e,q⟩:=h;obtain⟨x,μ1,e1,e⟩:=AJ e;obtain⟨y,μ2,e2,e3⟩:=AJ e;refine⟨ι,μ,τ,x,μ1,R,S,e1,λι1 H1 E1 R1 v1 i1=>?_⟩;refine⟨ι1,μ1,τ,y,μ2,R1,S.ext E1,e2,λι2 H2 E2 R2 v2 i2=>?_⟩;exact⟨ι2,μ2,x,y,d,μ',R2,i1.ext E2,i2,e3,λι3 H3 E3 R3 v3 i3=>q ι3 H3 ((E1.trans E2).trans E3) R3 v3 i3⟩
theorem YB{K:KW}{g:D->M D}{ma:Sl->M D}{σ:St}{H:Hp}{Q:VK}(h:tE K (mUn g ma) σ H Q):tUn (rM1 K g) (tE K ma) σ H Q:=by
 obtain⟨ι,μ,τ,d,μ',R,S,e,q⟩:=h;obtain⟨x,μ1,e1,e⟩:=AJ e;refine⟨ι,μ,τ,x,μ1,R,S,e1,λι1 H1 E1 R1 v1 i1=>?_⟩;exact⟨ι1,μ1,x,d,μ',R1,i1,e,λι3 H3 E3 R3 v3 i3=>q ι3 H3 (E1.trans E3) R3 v3 i3⟩
theorem Ae{op:Operator}{g:D->D->M D}{ma mb:Sl->M D}(ho:OpR X (binaryOp op) (rM X.kw g))(ha:RE X a ma)(hb:RE X b mb):RE X (.BinOp a op b pos) (mOp g ma mb):=RE.wk (YZ ho ha.pe hb.pe) λ_ _ _ h=>Nm h
theorem Nx{op:UnaryOp}{g:D->M D}{ma:Sl->M D}(ho:UnR X (unaryOp op) (rM1 X.kw g))(ha:RE X a ma):RE X (.UnaryOp op a pos) (mUn g ma):=RE.wk (YX ho ha.pe) λ_ _ _ h=>YB h
theorem CB{op:CmpOp}{g:D->D->M D}{ma mb:Sl->M D}(ho:OpR X (compareOp op) (rM X.kw g))(ha:RE X a ma)(hb:RE X b mb)(hm:behindInMarks op b=false:=by first|exact Rh _|rfl):RE X (.Compare a [op] [b] pos) (mOp g ma mb):=
 RE.wk (T5 ho ha.pe hb.pe hm) λ_ _ _ h=>Nm h
theorem AV{g:D->D->M D}{ma mb:Sl->M D}(ho:IxR X (rM X.kw g))(ha:RE X a ma)(hb:RE X b mb)(hs:OY b:=by exact λ_ _=>rfl):RE X (.Subscript a b pos) (mOp g ma mb):=RE.wk (Ya ho ha.pe hb.pe hs) λ_ _ _ h=>Nm h
noncomputable def asB:D->M Bool
 | .bl b=>ret b
 |_=>Ba
noncomputable def Ac(m:Sl->M D):Sl->M Bool:=λτ=>bnd (m τ) asB
theorem Nh{K:KW}{m:Sl->M D}{σ:St}{H:Hp}{Q:Bool->Hp->Prop}(h:tT K (Ac m) σ H Q):tE K m σ H λx H'=>∃k,x=.bl k/\Q k H':=by
 obtain⟨ι,μ,τ,b,μ',R,S,e,q⟩:=h;obtain⟨x,μ1,e1,e⟩:=AJ e;refine⟨ι,μ,τ,x,μ1,R,S,e1,λι1 H1 E1 R1 v1 i1=>?_⟩;cases x with
 |bl k=>
  cases e;unfold Is at i1;exact⟨b,i1,q ι1 H1 E1 R1⟩
 |_=>cases e
theorem Au{op:CmpOp}{g:D->D->M D}{ma mb:Sl->M D}(ho:OpR X (compareOp op) (rM X.kw g))(ha:RE X a ma)(hb:RE X b mb)(hm:behindInMarks op b=false:=by first|exact Rh _|rfl):RT X (.Compare a [op] [b] pos) (Ac (mOp g ma mb)):=
 RT.wk (Tt ho ha.pe hb.pe hm) λσ H Q h=>Nm (Q:=λx H'=>∃k,x=.bl k/\Q k H') (Nh h)
theorem Kb{m:Sl->M D}(h:RE X e m)(he:∀whole,isTrue e X.env whole=(do let v ←whole;standAt e.pos;holding [v] (truthy v)):=by intro _;rfl):RT X e (Ac m):=
 RT.wk (WD h.pe he) λ_ _ _ q=>Nh q
noncomputable def Ip(ma mb:Sl->M Bool):Sl->M Bool:=λτ=>bnd (ma τ) λx=>if x=true then mb τ else ret false
noncomputable def mOr(ma mb:Sl->M Bool):Sl->M Bool:=λτ=>bnd (ma τ) λx=>if x=true then ret true else mb τ
noncomputable def M8(ma:Sl->M Bool):Sl->M Bool:=λτ=>bnd (ma τ) λx=>ret (!x)
theorem Mq{ma:Sl->M Bool}(ha:RT X a ma):RT X (.UnaryOp .Not a pos) (M8 ma):=RT.wk (WE ha.pe) λσ H Q h=>by
 obtain⟨ι,μ,τ,b,μ',R,S,e,q⟩:=h;obtain⟨x,μ1,e1,e⟩:=AJ e;cases e;exact⟨ι,μ,τ,x,_,R,S,e1,q⟩
theorem Nr{ma:Sl->M Bool}(ha:RT X a ma):RW X (.BoolOp .And [a] pos) ma:=⟨To ha.pe⟩
theorem Mp{ma:Sl->M Bool}(ha:RT X a ma):RW X (.BoolOp .Or [a] pos) ma:=⟨WA ha.pe⟩
theorem Qn{rest:List Expr}{ma mb:Sl->M Bool}(ha:RT X a ma)(hb:RW X (.BoolOp .And (b::rest) pos) mb):RW X (.BoolOp .And (a::b::rest) pos) (Ip ma mb):=RW.wk (WB ha.pe hb.pe) λσ H Q h=>by
 obtain⟨ι,μ,τ,z,μ',R,S,e,q⟩:=h;obtain⟨x,μ1,e1,e⟩:=AJ e;refine⟨ι,μ,τ,x,μ1,R,S,e1,λι1 H1 E1 R1=>?_⟩;cases x with
 |true=>exact⟨ι1,μ1,τ,z,μ',R1,S.ext E1,e,λι2 H2 E2 R2=>q ι2 H2 (E1.trans E2) R2⟩
 |false=>cases e;exact q ι1 H1 E1 R1
theorem Nq{rest:List Expr}{ma mb:Sl->M Bool}(ha:RT X a ma)(hb:RW X (.BoolOp .Or (b::rest) pos) mb):RW X (.BoolOp .Or (a::b::rest) pos) (mOr ma mb):=RW.wk (YS ha.pe hb.pe) λσ H Q h=>by
 obtain⟨ι,μ,τ,z,μ',R,S,e,q⟩:=h;obtain⟨x,μ1,e1,e⟩:=AJ e;refine⟨ι,μ,τ,x,μ1,R,S,e1,λι1 H1 E1 R1=>?_⟩;cases x with
 |true=>cases e;exact q ι1 H1 E1 R1
 |false=>exact⟨ι1,μ1,τ,z,μ',R1,S.ext E1,e,λι2 H2 E2 R2=>q ι2 H2 (E1.trans E2) R2⟩
theorem RW.rt{m:Sl->M Bool}(h:RW X e m):RT X e m:=⟨h.pe.pt⟩
noncomputable def mIf(mc:Sl->M Bool)(ma mb:Sl->M D):Sl->M D:=λτ=>bnd (mc τ) λx=>if x=true then ma τ else mb τ
theorem YJ{mc:Sl->M Bool}{ma mb:Sl->M D}(hc:RT X c mc)(ha:RE X a ma)(hb:RE X b mb):RE X (.IfExp c a b pos) (mIf mc ma mb):=RE.wk (RL hc.pe ha.pe hb.pe) λσ H Q h=>by
 obtain⟨ι,μ,τ,z,μ',R,S,e,q⟩:=h;obtain⟨x,μ1,e1,e⟩:=AJ e;refine⟨ι,μ,τ,x,μ1,R,S,e1,λι1 H1 E1 R1=>?_⟩;cases x with
 |true=>exact⟨ι1,μ1,τ,z,μ',R1,S.ext E1,e,λι2 H2 E2 R2=>q ι2 H2 (E1.trans E2) R2⟩
 |false=>exact⟨ι1,μ1,τ,z,μ',R1,S.ext E1,e,λι2 H2 E2 R2=>q ι2 H2 (E1.trans E2) R2⟩
noncomputable def DE(ma mb:Sl->M D):Sl->M D:=λτ=>bnd (ma τ) λx=>bnd (asB x) λc=>if c=true then mb τ else ret (.bl false)
noncomputable def UQ(ma mb:Sl->M D):Sl->M D:=λτ=>bnd (ma τ) λx=>bnd (asB x) λc=>if c=true then ret (.bl true) else mb τ
noncomputable def L5(ma:Sl->M D):Sl->M D:=λτ=>bnd (ma τ) λx=>bnd (asB x) λc=>ret (.bl (!c))
theorem Gr{x:D}{μ μ1:Mh}{c:Bool}(h:asB x μ=some (c,μ1)):x=.bl c/\μ1=μ:=by
 cases x with
 |bl k=>cases h;exact⟨rfl,rfl⟩
 |_=>cases h
theorem Ez{op}{m:Sl->M D}(h:RE X a m):RE X (.BoolOp op [a] pos) m:=⟨WR h.pe⟩
theorem Dc{rest:List Expr}{ma mb:Sl->M D}(ha:RE X a ma)(hb:RE X (.BoolOp .And (b::rest) pos) mb):RE X (.BoolOp .And (a::b::rest) pos) (DE ma mb):=RE.wk (WW ha.pe hb.pe) λσ H Q h=>by
 obtain⟨ι,μ,τ,z,μ',R,S,e,q⟩:=h;obtain⟨x,μ1,e1,e⟩:=AJ e;obtain⟨c,μ2,e2,e⟩:=AJ e;obtain⟨rfl,rfl⟩:=Gr e2;refine⟨ι,μ,τ,_,μ2,R,S,e1,λι1 H1 E1 R1 v1 i1=>⟨c,by unfold Is at i1;exact i1,?_⟩⟩;cases c with
 |true=>exact⟨ι1,μ2,τ,z,μ',R1,S.ext E1,e,λι2 H2 E2 R2=>q ι2 H2 (E1.trans E2) R2⟩
 |false=>cases e;exact q ι1 H1 E1 R1 _ (by unfold Is;rfl)
theorem YI{rest:List Expr}{ma mb:Sl->M D}(ha:RE X a ma)(hb:RE X (.BoolOp .Or (b::rest) pos) mb):RE X (.BoolOp .Or (a::b::rest) pos) (UQ ma mb):=RE.wk (YY ha.pe hb.pe) λσ H Q h=>by
 obtain⟨ι,μ,τ,z,μ',R,S,e,q⟩:=h;obtain⟨x,μ1,e1,e⟩:=AJ e;obtain⟨c,μ2,e2,e⟩:=AJ e;obtain⟨rfl,rfl⟩:=Gr e2;refine⟨ι,μ,τ,_,μ2,R,S,e1,λι1 H1 E1 R1 v1 i1=>⟨c,by unfold Is at i1;exact i1,?_⟩⟩;cases c with
 |true=>cases e;exact q ι1 H1 E1 R1 _ (by unfold Is;rfl)
 |false=>exact⟨ι1,μ2,τ,z,μ',R1,S.ext E1,e,λι2 H2 E2 R2=>q ι2 H2 (E1.trans E2) R2⟩
theorem Qz{ma:Sl->M D}(ha:RE X a ma):RE X (.UnaryOp .Not a pos) (L5 ma):=RE.wk (WS ha.pe) λσ H Q h=>by
 obtain⟨ι,μ,τ,z,μ',R,S,e,q⟩:=h;obtain⟨x,μ1,e1,e⟩:=AJ e;obtain⟨c,μ2,e2,e⟩:=AJ e;obtain⟨rfl,rfl⟩:=Gr e2;cases e;exact⟨ι,μ,τ,_,_,R,S,e1,λι1 H1 E1 R1 v1 i1=>⟨c,by unfold Is at i1;exact i1,q ι1 H1 E1 R1 _ (by unfold Is;rfl)⟩⟩
noncomputable def D6(g g':D->D->M D)(ma mb mc:Sl->M D):Sl->M D:=λτ=>bnd (ma τ) λx=>bnd (mb τ) λy=>bnd (g x y) λz=>bnd (asB z) λk=>if k=true then bnd (mc τ) λw=>g' y w else ret (.bl false)
noncomputable def AH:Sl->M (List D):=λ_=>ret []
noncomputable def AB(m:Sl->M D)(r:Sl->M (List D)):Sl->M (List D):=λτ=>bnd (m τ) λx=>bnd (r τ) λxs=>ret (x::xs)
theorem AE:RA X [] AH:=RA.wk GE λσ H Q h=>by
 obtain⟨ι,μ,τ,z,μ',R,S,e,q⟩:=h;cases e;exact q ι H R.ext0 R [] .nil
theorem AA{m:Sl->M D}{r:Sl->M (List D)}(h:RE X e m)(hr:RA X es r)(hs:starEach (e::es) X.env=(false,eval e X.env)::starEach es X.env:=by exact A6 rfl):RA X (e::es) (AB m r):=RA.wk (DP h.pe hr.pe hs) λσ H Q h=>by
 obtain⟨ι,μ,τ,z,μ',R,S,e,q⟩:=h;obtain⟨x,μ1,e1,e⟩:=AJ e;obtain⟨xs,μ2,e2,e⟩:=AJ e;cases e;exact⟨ι,μ,τ,x,μ1,R,S,e1,λι1 H1 E1 R1 v1 i1=>⟨ι1,μ1,τ,xs,_,R1,S.ext E1,e2,λι2 H2 E2 R2 vs i2=>q ι2 H2 (E1.trans E2) R2 _ (.cons (i1.ext E2) i2)⟩⟩
noncomputable def lim(n:Nat):M Unit:=λμ=>if n<=sizeLine then some ((),μ) else none
theorem CN{n:Nat}{μ μ1:Mh}{u:Unit}(h:lim n μ=some (u,μ1)):n<=sizeLine/\μ1=μ:=by
 unfold lim at h;split at h
 ·rename_i hn;cases h;exact⟨hn,rfl⟩
 ·cases h
theorem Ir{n:Nat}(h:n<=sizeLine)(μ:Mh):lim n μ=some ((),μ):=if_pos h
noncomputable def AY(ds:List D):M D:=bnd (lim ds.length) λ_=>ret (.tup ds)
noncomputable def Am(ds:List D):M D:=bnd (lim ds.length) λ_=>ret (.lst ds)
noncomputable def FA(ds:List D):M D:=bnd (lim ds.length) λ_=>λμ=>some (.ref μ.length,μ++[.lst ds])
noncomputable def AF(f:List D->M D)(m:Sl->M (List D)):Sl->M D:=λτ=>bnd (m τ) f
theorem OB{K:KW}{ι:Nat->Addr}{μ μ':Mh}{H:Hp}{ds:List D}{vs:List V}{d:D}{Q:VK}(R:RelH K ι μ H)(i:IsL K ι μ.length H ds vs)(e:AY ds μ=some (d,μ'))(q:Aft K ι μ H μ' λι' H'=>∀v,Is K ι' μ'.length H' d v->Q v H'):
  vs.length<=sizeLine/\∀p,H p=none->Q (.ref p) (upd H p (.tup vs)):=by
 obtain⟨u,μ1,e1,e2⟩:=AJ e;clear e;obtain⟨hl,e3⟩:=CN e1;cases e2;cases e3;refine⟨by rw[i.length];exact hl,λp hp=>?_⟩;obtain⟨E1,R1⟩:=R.laid (.tup vs) hp;exact q ι _ E1 R1 _ (by unfold Is;exact⟨p,vs,rfl,SqT.of Be,i.ext E1⟩)
theorem DQ{K:KW}{ι:Nat->Addr}{μ μ':Mh}{H:Hp}{ds:List D}{vs:List V}{d:D}{Q:VK}(R:RelH K ι μ H)(i:IsL K ι μ.length H ds vs)(e:Am ds μ=some (d,μ'))(q:Aft K ι μ H μ' λι' H'=>∀v,Is K ι' μ'.length H' d v->Q v H'):
  vs.length<=sizeLine/\∀p,H p=none->Q (.ref p) (upd H p (.lst vs)):=by
 obtain⟨u,μ1,e1,e2⟩:=AJ e;clear e;obtain⟨hl,e3⟩:=CN e1;cases e2;cases e3;refine⟨by rw[i.length];exact hl,λp hp=>?_⟩;obtain⟨E1,R1⟩:=R.laid (.lst vs) hp;have ho:∀n,n<μ.length->ι n≠p:=λn hn z=>by
  obtain⟨o,e,_⟩:=R.muts n hn;rw[z,hp] at e;cases e
 exact q ι _ E1 R1 _ (by unfold Is;exact⟨p,vs,rfl,Be,ho,i.ext E1⟩)
theorem Km{K:KW}{ι:Nat->Addr}{μ μ':Mh}{H:Hp}{ds:List D}{vs:List V}{d:D}{Q:VK}(R:RelH K ι μ H)(i:IsL K ι μ.length H ds vs)(e:FA ds μ=some (d,μ'))(q:Aft K ι μ H μ' λι' H'=>∀v,Is K ι' μ'.length H' d v->Q v H'):
  vs.length<=sizeLine/\∀p,H p=none->Q (.ref p) (upd H p (.lst vs)):=by
 obtain⟨u,μ1,e1,e2⟩:=AJ e;clear e;obtain⟨hl,e3⟩:=CN e1;cases e2;cases e3;refine⟨by rw[i.length];exact hl,λp hp=>?_⟩;obtain⟨ι',E1,R1,e0⟩:=R.grown (m:=.lst ds) hp ⟨vs,rfl,i⟩;exact q ι' _ E1 R1 _ (by unfold Is;exact⟨by simp,by rw[e0]⟩)
theorem Ev{K:KW}{f:List D->M D}{m:Sl->M (List D)}{σ:St}{H:Hp}{Q:VK}{R:List V->Hp->Prop}(h:tE K (AF f m) σ H Q)
  (hf:∀ι μ μ' H ds vs d,RelH K ι μ H->IsL K ι μ.length H ds vs->f ds μ=some (d,μ')->(Aft K ι μ H μ' λι' H'=>∀v,Is K ι' μ'.length H' d v->Q v H')->R vs H):tL K m σ H R:=by
 obtain⟨ι,μ,τ,z,μ',S1,S,e,q⟩:=h;obtain⟨ds,μ1,e1,e⟩:=AJ e;exact⟨ι,μ,τ,ds,μ1,S1,S,e1,λι1 H1 E1 R1 vs iv=>hf ι1 μ1 μ' H1 ds vs z R1 iv e λι2 H2 E2 R2=>q ι2 H2 (E1.trans E2) R2⟩
theorem AO{x1}{m:Sl->M (List D)}(h:RA X es m):RE X (.Tuple es x1 pos) (AF AY m):=RE.wk (RH h.pe) λ_ _ _ q=>Ev q λ_ _ _ _ _ _ _ R i e q=>OB R i e q
theorem Ax{m:Sl->M (List D)}(h:RA X es m):RE X (.List es pos) (AF Am m):=RE.wk (RK h.pe) λ_ _ _ q=>Ev q λ_ _ _ _ _ _ _ R i e q=>DQ R i e q
theorem Fh{m:Sl->M (List D)}(h:RA X es m):RE X (.List es pos) (AF FA m):=RE.wk (RK h.pe) λ_ _ _ q=>Ev q λ_ _ _ _ _ _ _ R i e q=>Km R i e q
theorem Ao{id:String}{x:Str}{g:List D->M D}{m:Sl->M (List D)}{p:Pos}(hc:Cy X (.builtin id) (rMA X.kw g))(hm:X.mg x=none)(hv:bootBuiltins x=some (.builtin id))(ha:RA X (e::es) m)(hg:Gl X x:=by rfl)(hn:x ≠ "__name__" := by decide)(hdb:(x==("__debug__" : Str))=false:=by decide)
  (he:starEach (e::es) X.env=(false,eval e X.env)::starEach es X.env:=by exact A6 rfl) (hpl:(backTo pos (starEach es X.env)).any (·.1)=false:=by exact BJ rfl):RE X (.Call (.Name x p) (e::es) [] pos) (AF g m):=
 RE.wk (FU hc hg hm hv ha.pe hn hdb he hpl) λ_ _ _ q=>Ev q λι μ μ' H ds vs d R i e q=>⟨ι,μ,ds,d,μ',R,i,e,q⟩
theorem CZ{T:String}{x:Str}{g:List D->M D}{m:Sl->M (List D)}{p:Pos}(hc:Cy X (.type T) (rMA X.kw g))(hm:X.mg x=none)(hv:bootBuiltins x=some (.type T))(ha:RA X (e::es) m)(hg:Gl X x:=by rfl)(hn:x ≠ "__name__" := by decide)(hdb:(x==("__debug__" : Str))=false:=by decide)
  (he:starEach (e::es) X.env=(false,eval e X.env)::starEach es X.env:=by exact A6 rfl) (hpl:(backTo pos (starEach es X.env)).any (·.1)=false:=by exact BJ rfl):RE X (.Call (.Name x p) (e::es) [] pos) (AF g m):=
 RE.wk (Jm hc hg hm hv ha.pe hn hdb he hpl) λ_ _ _ q=>Ev q λι μ μ' H ds vs d R i e q=>⟨ι,μ,ds,d,μ',R,i,e,q⟩
noncomputable def spM(K:KW)(n:Nat)(φ:List D->M D):Sp:=λvs H Q _=>vs.length=n/\rMA K φ vs H Q
theorem Th{n k:Nat}{φ:List D->M D}{f:Addr}{fd:FuncData}{ps:List Str}{x:Str}{m:Sl->M (List D)}{p:Pos}(F:FnOk X.prog X.w X.kw X.mg X.base CX0 k f fd ps (spM X.kw n φ))(hr:Room k X.A)(hm:X.mg x=some (.ref f))(hk:PySem.W.keepIn X.kw (.ref f)=true)(hb:Binds X.kw fd ps [])
  (hφ:∀ds μ r,φ ds μ=some r->ds.length=n) (ha:RA X (e::es) m) (hg:Gl X x:=by rfl) (hdb:(x==("__debug__" : Str))=false:=by decide) (he:starEach (e::es) X.env=(false,eval e X.env)::starEach es X.env:=by exact A6 rfl) (hpl:(backTo pos (starEach es X.env)).any (·.1)=false:=by exact BJ rfl) :
  RE X (.Call (.Name x p) (e::es) [] pos) (AF φ m):=
 RE.wk (N2 F hr hg hm hk hb .nil VC ha.pe hdb he hpl) λ_ _ _ q=>Ev q λι μ μ' H ds vs d R i e q=>by
  rw[AAZ];exact⟨by rw[i.length];exact hφ ds μ _ e,ι,μ,ds,d,μ',R,i,e,q⟩
end
section
variable{X:Cx}{e a c tg iter:Expr}{es:List Expr}{pos:Pos}{st:Stmt}{rest body:List Stmt}
noncomputable def BT:Sl->M (Fl×Sl):=λτ=>ret (.next,τ)
noncomputable def AS(m1 m2:Sl->M (Fl×Sl)):Sl->M (Fl×Sl):=λτ=>bnd (m1 τ) λr=>match r.1 with
 | .next=>m2 r.2
 |f=>ret (f,r.2)
theorem Az:RSs X [] BT:=RSs.wk Tv λDn σ H h=>by
 obtain⟨ι,μ,τ,f,τ',μ',R,S,e,q⟩:=h;cases e;exact q ι H R.ext0 R σ S
theorem AL{m1 m2:Sl->M (Fl×Sl)}(h1:RS X st m1)(h2:RSs X rest m2):RSs X (st::rest) (AS m1 m2):=RSs.wk (Q6 h1.pe h2.pe) λDn σ H h=>by
 obtain⟨ι,μ,τ,f,τ',μ',R,S,e,q⟩:=h;obtain⟨⟨f1,τ1⟩,μ1,e1,e⟩:=AJ e;refine⟨ι,μ,τ,f1,τ1,μ1,R,S,e1,λι1 H1 E1 R1 σ1 S1=>?_⟩;cases f1 with
 |next=>exact⟨ι1,μ1,τ1,f,τ',μ',R1,S1,e,λι2 H2 E2 R2=>q ι2 H2 (E1.trans E2) R2⟩
 |brk=>cases e;exact q ι1 H1 E1 R1 σ1 S1
 |cont=>cases e;exact q ι1 H1 E1 R1 σ1 S1
 |rt d=>cases e;exact q ι1 H1 E1 R1 σ1 S1
 |xc x=>cases e;exact q ι1 H1 E1 R1 σ1 S1
theorem AU{m:Sl->M (Fl×Sl)}(h:RS X st m):RSs X [st] m:=⟨Tu h.pe⟩
noncomputable def EH(m:Sl->M D):Sl->M (Fl×Sl):=λτ=>bnd (m τ) λ_=>ret (.next,τ)
theorem Ey{m:Sl->M D}(h:RE X e m)(hs:swapsWith e none pos.line X.env=pure false:=by rfl):RS X (.Expr e pos) (EH m):=RS.wk (Tw h.pe hs) λDn σ H h=>by
 obtain⟨ι,μ,τ,f,τ',μ',R,S,e,q⟩:=h;obtain⟨x,μ1,e1,e⟩:=AJ e;cases e;exact⟨ι,μ,_,x,_,R,S,e1,λι1 H1 E1 R1 v i1=>q ι1 H1 E1 R1 σ (S.ext E1)⟩
noncomputable def BA(m:Sl->M D):Sl->M (Fl×Sl):=λτ=>bnd (m τ) λd=>ret (.rt d,τ)
theorem Aq{m:Sl->M D}(h:RE X e m):RS X (.Return (some e) pos) (BA m):=RS.wk (WG h.pe) λDn σ H h=>by
 obtain⟨ι,μ,τ,f,τ',μ',R,S,e,q⟩:=h;obtain⟨x,μ1,e1,e⟩:=AJ e;cases e;exact⟨ι,μ,_,x,_,R,S,e1,λι1 H1 E1 R1 v i1=>q ι1 H1 E1 R1 σ (S.ext E1) v i1⟩
noncomputable def sIf(mc:Sl->M Bool)(m1 m2:Sl->M (Fl×Sl)):Sl->M (Fl×Sl):=λτ=>bnd (mc τ) λx=>if x=true then m1 τ else m2 τ
theorem Bg{mc:Sl->M Bool}{m1 m2:Sl->M (Fl×Sl)}(hc:RT X c mc)(h1:RSs X body m1)(h2:RSs X rest m2):RS X (.If c body rest pos) (sIf mc m1 m2):=RS.wk (YV hc.pe h1.pe h2.pe) λDn σ H h=>by
 obtain⟨ι,μ,τ,f,τ',μ',R,S,e,q⟩:=h;obtain⟨x,μ1,e1,e⟩:=AJ e;refine⟨ι,μ,τ,x,μ1,R,S,e1,λι1 H1 E1 R1=>?_⟩;cases x with
 |true=>exact⟨ι1,μ1,τ,f,τ',μ',R1,S.ext E1,e,λι2 H2 E2 R2=>q ι2 H2 (E1.trans E2) R2⟩
 |false=>exact⟨ι1,μ1,τ,f,τ',μ',R1,S.ext E1,e,λι2 H2 E2 R2=>q ι2 H2 (E1.trans E2) R2⟩
noncomputable def tG(K:KW)(bf:D->Sl->M Sl):TG:=λv σ H Q=>∃ι μ τ d τ' μ',RelH K ι μ H/\RelS K ι μ.length H τ σ/\Is K ι μ.length H d v/\bf d τ μ=some (τ',μ') /\
 Aft K ι μ H μ' λι' H'=>∀σ',RelS K ι' μ'.length H' τ' σ'->Q σ' H'
structure RG(X:Cx)(tg:Expr)(bf:D->Sl->M Sl):Prop where
 pe:PG X tg (tG X.kw bf)
theorem PG.wk{t t':TG}(h:PG X tg t)(w:∀v σ H Q,t' v σ H Q->t v σ H Q):PG X tg t':=λpins s σ H v u Q I r q=>h pins s σ H v u Q I r (w v σ H Q q)
theorem RG.wk{bf:D->Sl->M Sl}{t:TG}(h:PG X tg t)(w:∀v σ H Q,tG X.kw bf v σ H Q->t v σ H Q):RG X tg bf:=⟨PG.wk h w⟩
noncomputable def AM(i:Nat):D->Sl->M Sl:=λd τ=>ret (τ.set i (some d))
theorem Nl{K:KW}{i:Nat}{v:V}{σ:St}{H:Hp}{Q:St->Hp->Prop}(h:tG K (AM i) v σ H Q):FG i v σ H Q:=by
 obtain⟨ι,μ,τ,d,τ',μ',R,S,i1,e,q⟩:=h;cases e;exact q ι H R.ext0 R _ (S.set i i1)
theorem Di(i:Nat){x:Str}(hN:X.N.Nodup)(hi:X.N[i]?=some x:=by rfl)(hx:Loc X.env.scope x:=by first|exact Or.inl rfl|exact Or.inr rfl)(hf:X.fn x=true∨X.env.scope.names.lookup x=some .local:=by first|exact .inl rfl|exact .inr rfl|assumption):RG X (.Name x pos) (AM i):=
 RG.wk (Ah hN hi hx hf) λ_ _ _ _ h=>Nl h
noncomputable def JO:List Nat->List D->Sl->M Sl
 |[],[],τ=>ret τ
 |i::is,d::ds,τ=>bnd (AM i d τ) λτ1=>JO is ds τ1
 |_,_,_=>Ba
noncomputable def GN(is:List Nat):D->Sl->M Sl
 | .tup ds,τ=>if ds.length=is.length then JO is ds τ else Ba
 |_,_=>Ba
noncomputable def Fa:List Nat->TGs
 |[]=>Y6
 |i::is=>VM (FG i) (Fa is)
theorem G8{K:KW}:∀{is:List Nat} {ds:List D} {vs:List V} {τ τ':Sl} {σ:St} {ι:Nat->Addr} {μ μ':Mh} {H:Hp} {Q:St->Hp->Prop},RelH K ι μ H->RelS K ι μ.length H τ σ->IsL K ι μ.length H ds vs->JO is ds τ μ=some (τ',μ')->
  (μ'=μ->∀σ',RelS K ι μ.length H τ' σ'->Q σ' H)->Fa is vs σ H Q
 |[],[],_,_,_,_,_,_,_,_,_,R,S,i,e,q=>by
  cases e;unfold IsL at i;subst i;exact⟨rfl,q rfl _ S⟩
 |_::is,_::ds,_,τ,τ',σ,ι,μ,μ',H,Q,R,S,i,e,q=>by
  unfold IsL at i;obtain⟨v,vs',rfl,i1,i2⟩:=i;exact⟨v,vs',rfl,G8 (is:=is) (ds:=ds) R (S.set _ i1) i2 e q⟩
 |[],_::_,_,_,_,_,_,_,_,_,_,_,_,_,e,_=>by cases e
 |_::_,[],_,_,_,_,_,_,_,_,_,_,_,_,e,_=>by cases e
theorem GA{is:List Nat}{k:Nat}(hc:X.calm=true)(h:PGs X es (Fa is))(hn:(assignEach es X.env).length=is.length:=by rfl)(hst:(assignEach es X.env).findIdx? (·.1)=none:=by rfl):RG X (.Tuple es k pos) (GN is):=
 RG.wk (RF hc h hn hst) λv σ H Q h=>by
  obtain⟨ι,μ,τ,d,τ',μ',R,S,i1,e,q⟩:=h;cases d with
  |tup ds=>
   unfold Is at i1;obtain⟨p,vs,rfl,h1,h2⟩:=i1;have e':(if ds.length=is.length then JO is ds τ else Ba) μ=some (τ',μ'):=e;by_cases hl:ds.length=is.length
   ·rw[if_pos hl] at e';have e:=e';refine⟨p,vs,rfl,h1,by rw[h2.length,hl],G8 R S h2 e λz σ' S'=>?_⟩;subst z;exact q ι H R.ext0 R σ' S'
   ·rw[if_neg hl] at e';cases e'
  |_=>cases e
noncomputable def Ai(m:Sl->M D)(bf:D->Sl->M Sl):Sl->M (Fl×Sl):=λτ=>bnd (m τ) λd=>bnd (bf d τ) λτ'=>ret (.next,τ')
theorem Ni{K:KW}{m:Sl->M D}{bf:D->Sl->M Sl}{g:TG}{Dn:JU}{σ:St}{H:Hp}(hg:∀v H Q,tG K bf v σ H Q->g v σ H Q)(h:tSt K (Ai m bf) Dn σ H):TN (tE K m) g Dn σ H:=by
 obtain⟨ι,μ,τ,f,τ',μ',R,S,e,q⟩:=h;obtain⟨x,μ1,e1,e⟩:=AJ e;obtain⟨τ1,μ2,e2,e⟩:=AJ e;cases e;exact⟨ι,μ,τ,x,μ1,R,S,e1,λι1 H1 E1 R1 v i1=>hg _ _ _ ⟨ι1,μ1,τ,x,_,_,R1,S.ext E1,i1,e2,λι2 H2 E2 R2 σ' S'=>q ι2 H2 (E1.trans E2) R2 σ' S'⟩⟩
theorem AW(i:Nat){x:Str}{m:Sl->M D}{pos':Pos}(hN:X.N.Nodup)(he:RE X e m)(hi:X.N[i]?=some x:=by rfl)(hx:Loc X.env.scope x:=by first|exact Or.inl rfl|exact Or.inr rfl)(hs:swapsWith e (some (.Name x pos')) pos.line X.env=pure false:=by rfl)(hf:X.fn x=true∨X.env.scope.names.lookup x=some .local:=by first|exact .inl rfl|exact .inr rfl|assumption):
  RS X (.Assign [.Name x pos'] e pos) (Ai m (AM i)):=RS.wk (WF hN hi hx he.pe hs hf) λ_ _ _ h=>Ni (λ_ _ _ q=>Nl q) h
theorem IV{m:Sl->M D}{bf:D->Sl->M Sl}(he:RE X e m)(hg:RG X tg bf)(hs:swapsWithSole [tg] e pos.line X.env=pure false:=by rfl)(hw:swappedStores [tg] e X.env=pure none:=by rfl)
  (h1:(assignEach [tg] X.env).map (·.2)=[assign tg X.env]:=by rfl):RS X (.Assign [tg] e pos) (Ai m bf):=RS.wk (WI he.pe hg.pe hs hw h1) λ_ _ _ h=>Ni (λ_ _ _ q=>q) h
def ItM(K:KW)(J:It)(ds:List D)(ι:Nat->Addr)(μ:Mh)(H:Hp):Prop:=∀ι' (μ':Mh) H',Ext ι μ.length H ι' μ'.length H'->RelH K ι' μ' H'->
 (∀i,i<ds.length->J.go i H')/\J.stop ds.length H'/\∀(i:Nat) x H2 d,ds[i]?=some d->J.yld i H' x H2->Ext ι' μ'.length H' ι' μ'.length H2/\RelH K ι' μ' H2/\Is K ι' μ'.length H2 d x
theorem ItM.ext{K:KW}{J:It}{ds:List D}{ι ι':Nat->Addr}{μ μ':Mh}{H H':Hp}(h:ItM K J ds ι μ H)(E:Ext ι μ.length H ι' μ'.length H'):ItM K J ds ι' μ' H':=λι2 μ2 H2 E2 R2=>h ι2 μ2 H2 (E.trans E2) R2
noncomputable def tI(K:KW)(m:Sl->M (List D)):TI:=λσ H R=>∃ι μ τ ds μ',RelH K ι μ H/\RelS K ι μ.length H τ σ/\m τ μ=some (ds,μ') /\
 Aft K ι μ H μ' λι' H'=>∀J,ItM K J ds ι' μ' H'->R J H'
structure RI(X:Cx)(tg iter:Expr)(m:Sl->M (List D)):Prop where
 pe:PI X tg iter (tI X.kw m)
theorem PI.wk{t t':TI}(h:PI X tg iter t)(w:∀σ H R,t' σ H R->t σ H R):PI X tg iter t':=λpins s σ H R I q=>h pins s σ H R I (w σ H R q)
theorem RI.wk{m:Sl->M (List D)}{t:TI}(h:PI X tg iter t)(w:∀σ H R,tI X.kw m σ H R->t σ H R):RI X tg iter m:=⟨PI.wk h w⟩
theorem PI.or{t t':TI}(h:PI X tg iter t)(h':PI X tg iter t'):PI X tg iter (λσ H R=>t σ H R∨t' σ H R):=λpins s σ H R I q=>q.elim (h pins s σ H R I) (h' pins s σ H R I)
noncomputable def JP:D->M (List D)
 | .lst ds=>ret ds
 | .tup ds=>ret ds
 | .scr ns=>ret (ns.map D.int)
 |_=>Ba
noncomputable def CC(m:Sl->M D):Sl->M (List D):=λτ=>bnd (m τ) JP
theorem MC{K:KW}{ι:Nat->Addr}{μ:Mh}{H:Hp}{p:Addr}{vs:List V}{ds:List D}(st:∀ι' (μ':Mh) H',Ext ι μ.length H ι' μ'.length H'->RelH K ι' μ' H'->SqL K H' p vs)(i:IsL K ι μ.length H ds vs):ItM K (Itl K p) ds ι μ H:=by
 intro ι' μ' H' E R;have h:=st ι' μ' H' E R;have hl:=i.length;refine⟨λj hj=>⟨vs,vs[j],h,by simp⟩,⟨vs,h,by omega⟩,λj x H2 d hd y=>?_⟩;obtain⟨e,y⟩:=y;subst e;obtain⟨v,ev,iv⟩:=(i.ext E).get hd;have:=y vs h;rw[ev] at this;cases this;exact⟨R.ext0,R,iv⟩
theorem Ue{K:KW}{ι:Nat->Addr}{μ:Mh}{H:Hp}{p:Addr}{vs:List V}{ds:List D}(h:SqT K H p vs)(i:IsL K ι μ.length H ds vs):ItM K (Itt K p) ds ι μ H:=by
 intro ι' μ' H' E R;have h:=GS E h;have hl:=i.length;refine⟨λj hj=>⟨vs,vs[j],h,by simp⟩,⟨vs,h,by omega⟩,λj x H2 d hd y=>?_⟩;obtain⟨e,y⟩:=y;subst e;obtain⟨v,ev,iv⟩:=(i.ext E).get hd;have:=y vs h;rw[ev] at this;cases this;exact⟨R.ext0,R,iv⟩
theorem Tc{m:Sl->M D}{σ:St}{H:Hp}{R:It->Hp->Prop}{K:KW}(q:tI K (CC m) σ H R):VL K (tE K m) σ H R∨Y2 K (tE K m) σ H R:=by
 obtain⟨ι,μ,τ,ds,μ',R0,S,e,q⟩:=q;obtain⟨x,μ1,e1,e⟩:=AJ e;cases x with
 |lst es=>
  cases e;refine .inl ⟨ι,μ,τ,_,_,R0,S,e1,λι1 H1 E1 R1 v i1=>?_⟩;unfold Is at i1;obtain⟨p,vs,rfl,h1,hn,h2⟩:=i1;exact⟨p,rfl,⟨vs,SqL.of h1⟩,q ι1 H1 E1 R1 _ (MC (λι' μ' H' E _=>SqL.of (E.keep p _ h1 hn)) h2)⟩
 |tup es=>
  cases e;refine .inr ⟨ι,μ,τ,_,_,R0,S,e1,λι1 H1 E1 R1 v i1=>?_⟩;unfold Is at i1;obtain⟨p,vs,rfl,h1,h2⟩:=i1;exact⟨p,rfl,⟨vs,h1⟩,q ι1 H1 E1 R1 _ (Ue h1 h2)⟩
 |scr ns=>
  cases e;refine .inl ⟨ι,μ,τ,_,_,R0,S,e1,λι1 H1 E1 R1 v i1=>?_⟩;unfold Is at i1;obtain⟨p,rfl,h1⟩:=i1;exact⟨p,rfl,⟨_,h1.sq⟩,q ι1 H1 E1 R1 _ (MC (λι' μ' H' E _=>(KU E h1).sq) (IsL.ofInts ns))⟩
 |non=>cases e
 |bl _=>cases e
 |int _=>cases e
 |str _=>cases e
 |ty _=>cases e
 |ref _=>cases e
theorem Bh{m:Sl->M D}(h:RE X e m):RI X tg e (CC m):=RI.wk (PI.or (N0 h.pe) (WL h.pe)) λ_ _ _ q=>Tc q
noncomputable def Lj(lo hi:Int):List D:=(List.range (hi-lo).toNat).map λ(j:Nat)=>D.int (lo+(j:Int))
noncomputable def Qs:List D->M (List D)
 |[.int j]=>λμ=>if -(2 ^ 62)<=j/\j<2 ^ 62 then some (Lj 0 j,μ) else none
 |_=>Ba
noncomputable def Io(m:Sl->M (List D)):Sl->M (List D):=λτ=>bnd (m τ) Qs
theorem Ug{K:KW}{ι:Nat->Addr}{μ:Mh}{H:Hp}{lo hi:Int}:ItM K (Itr lo (hi-lo).toNat) (Lj lo hi) ι μ H:=by
 intro ι' μ' H' E R;have hl:(Lj lo hi).length=(hi-lo).toNat:=by simp[Lj]
 rw[hl];refine⟨λj hj=>hj,AAF _,λj x H2 d hd y=>?_⟩;obtain⟨e,y⟩:=y;subst e;unfold Lj at hd;rw[AAW] at hd;cases q:(List.range (hi-lo).toNat)[j]? with
 |none=>rw[q] at hd;cases hd
 |some z=>
  rw[q] at hd;have hz:z=j:=by
   have:=(AAU.mp q).2;simpa using this.symm
  subst hz;cases hd;exact⟨R.ext0,R,by unfold Is;exact y⟩
theorem G0{a:Expr}{m:Sl->M (List D)}{p:Pos}(hm:X.mg "range" = none)(ha:RA X [a] m)(hg:Gl X "range" := by rfl)(hs:starEach [a] X.env=[(false,eval a X.env)]:=by rfl):RI X tg (.Call (.Name "range" p) [a] [] pos) (Io m):=
 RI.wk (Oz hg hm ha.pe hs) λσ H R q=>by
  obtain⟨ι,μ,τ,ds,μ',R0,S,e,q⟩:=q;obtain⟨xs,μ1,e1,e⟩:=AJ e;refine⟨ι,μ,τ,xs,μ1,R0,S,e1,λι1 H1 E1 R1 vs i1=>?_⟩;unfold Qs at e;split at e
  ·rename_i j;split at e
   ·rename_i hb;cases e;unfold IsL Is at i1;obtain⟨v,vs',rfl,rfl,i2⟩:=i1;unfold IsL at i2;subst i2;refine⟨j,rfl,hb.1,hb.2,q ι1 H1 E1 R1 _ ?_⟩;have:=Ug (K:=X.kw) (ι:=ι1) (μ:=μ') (H:=H1) (lo:=0) (hi:=j);rw[Int.sub_zero] at this;exact this
   ·cases e
  ·cases e
noncomputable def FH(bf:D->Sl->M Sl)(mb:Sl->M (Fl×Sl)):List D->Sl->M (Fl×Sl)
 |[],τ=>ret (.next,τ)
 |x::xs,τ=>bnd (bf x τ) λτ1=>bnd (mb τ1) λr=>match r.1 with
  | .next=>FH bf mb xs r.2
  | .cont=>FH bf mb xs r.2
  | .brk=>ret (.next,r.2)
  | .rt d=>ret (.rt d,r.2)
  | .xc x=>ret (.xc x,r.2)
noncomputable def Dv(src:Sl->M (List D))(bf:D->Sl->M Sl)(mb:Sl->M (Fl×Sl)):Sl->M (Fl×Sl):=λτ=>bnd (src τ) λds=>FH bf mb ds τ
theorem Gz{src:Sl->M (List D)}{bf:D->Sl->M Sl}{mb:Sl->M (Fl×Sl)}(hp:PassesOwn (model X.prog X.w) X.A X.env X.xe)(hc:X.calm=true)(hi:RI X tg iter src)(hg:RG X tg bf)(hb:RSs X body mb)
  (hs:∀x,foldedSetIterable iter X.env x=pure x:=by intro _;rfl):RS X (.For tg iter body [] pos) (Dv src bf mb):=RS.wk (WH hp hc hi.pe hg.pe hb.pe hs) λDn σ H h=>by
 obtain⟨ι,μ,τ,f,τ',μ',R,S,e,q⟩:=h;obtain⟨ds,μ1,e1,e⟩:=AJ e;refine⟨ι,μ,τ,ds,μ1,R,S,e1,λι1 H1 E1 R1 J it=>?_⟩
 let W:Nat->Nat->St->Hp->Prop:=λi m σ H=>m=ds.length-i/\i<=ds.length/\∃ι μ τ f τ' μ',RelH X.kw ι μ H/\RelS X.kw ι μ.length H τ σ/\ItM X.kw J ds ι μ H/\FH bf mb (ds.drop i) τ μ=some ((f,τ'),μ') /\
  Aft X.kw ι μ H μ' λι' H'=>∀σ',RelS X.kw ι' μ'.length H' τ' σ'->FlP X.kw Dn ι' μ'.length H' τ' σ' f
 refine⟨W,⟨ds.length,by simp,AAi _,ι1,μ1,τ,f,τ',μ',R1,S.ext E1,it,e,λι2 H2 E2 R2=>q ι2 H2 (E1.trans E2) R2⟩,?_⟩;rintro i m σ H ⟨hm,hil,ι,μ,τ,f,τ',μ',R,S,it,e,q⟩;obtain⟨go,stop,yl⟩:=it ι μ H R.ext0 R;by_cases hlt:i<ds.length
 ·refine .inr ⟨go i hlt,λσ' H'=>W (i+1) (ds.length-(i+1)) σ' H',λσ' H' z=>⟨_,by omega,z⟩,λx H2 y=>?_⟩;have hd:ds[i]?=some ds[i]:=by simp[hlt]
  obtain⟨E2,R2,ix⟩:=yl i x H2 _ hd y;rw[List.drop_eq_getElem_cons hlt] at e;obtain⟨τ1,μ1,e1,e⟩:=AJ e;obtain⟨⟨f2,τ2⟩,μ2,e2,e⟩:=AJ e;refine⟨ι,μ,τ,_,τ1,μ1,R2,S.ext E2,ix,e1,λι3 H3 E3 R3 σ3 S3=>?_⟩;refine⟨ι3,μ1,τ1,f2,τ2,μ2,R3,S3,e2,λι4 H4 E4 R4 σ4 S4=>?_⟩;have E14:=(E2.trans E3).trans E4;cases f2 with
  |next=>exact⟨rfl,hlt,ι4,μ2,τ2,f,τ',μ',R4,S4,it.ext E14,e,λι5 H5 E5 R5=>q ι5 H5 (E14.trans E5) R5⟩
  |cont=>exact⟨rfl,hlt,ι4,μ2,τ2,f,τ',μ',R4,S4,it.ext E14,e,λι5 H5 E5 R5=>q ι5 H5 (E14.trans E5) R5⟩
  |brk=>cases e;exact q ι4 H4 E14 R4 σ4 S4
  |rt d=>cases e;exact q ι4 H4 E14 R4 σ4 S4
  |xc x=>cases e;exact q ι4 H4 E14 R4 σ4 S4
 ·have hi':i=ds.length:=by omega
  subst hi';rw[List.drop_length] at e;cases e;exact .inl ⟨stop,q ι H R.ext0 R σ S⟩
end
section
variable{X:Cx}{scope:Scope}{tgs:List Str}{ix:List Nat}{elt tg iter:Expr}{pos:Pos}
noncomputable def RB(ix:List Nat)(τ:Sl):Sl:=ix.map λj=>(τ[j]?).getD none
noncomputable def BB(n:Nat)(ix:List Nat)(τ:Sl):Sl:=List.replicate n none++RB ix τ
noncomputable def B3(bf:D->Sl->M Sl)(mc:Sl->M Bool)(me:Sl->M D)(τ0:Sl):List D->List D->M (List D)
 |[],ys=>ret ys
 |x::xs,ys=>bnd (bf x τ0) λτ1=>bnd (mc τ1) λc=>if c=true then bnd (me τ1) λy=>B3 bf mc me τ0 xs (ys++[y]) else B3 bf mc me τ0 xs ys
noncomputable def BE(n:Nat)(ix:List Nat)(src:Sl->M (List D))(bf:D->Sl->M Sl)(mc:Sl->M Bool)(me:Sl->M D)(fin:List D->M D):Sl->M D:=λτ=>bnd (src τ) λds=>bnd (lim ds.length) λ_=>bnd (B3 bf mc me (BB n ix τ) ds []) fin
noncomputable def BO:Sl->M Bool:=λ_=>ret true
theorem RelS.block{K:KW}{ι:Nat->Addr}{k:Nat}{H:Hp}{τ:Sl}{σ:St}(S:RelS K ι k H τ σ):RelS K ι k H (BB tgs.length ix τ) (Ct tgs ix σ):=by
 refine⟨by simp[BB,Ct,RB,Jl],λi d e=>?_⟩;unfold BB at e;have hk:tgs.length<=i:=by
  rcases Nat.lt_or_ge i tgs.length with z|z
  ·rw[AAT (by simpa using z),List.getElem?_replicate,if_pos z] at e;cases e
  ·exact z
 rw[AAS (by simpa using hk),AAk] at e;unfold RB at e;rw[AAW] at e;cases q:ix[i-tgs.length]? with
 |none=>rw[q] at e;cases e
 |some j=>
  rw[q] at e;have e':(τ[j]?).getD none=some d:=Option.some.inj e;cases q2:τ[j]? with
  |none=>rw[q2] at e';cases e'
  |some o=>
   rw[q2] at e';have e'':o=some d:=e';subst e'';obtain⟨v,ev,iv⟩:=S.get j d q2;refine⟨v,?_,iv⟩;unfold Ct;rw[AAS (by simpa using hk),AAk];unfold Jl;rw[AAW,q,Option.map_some,ev];rfl
theorem No{K:KW}{n:Nat}{src:Sl->M (List D)}{i:Nat}{mc:Sl->M Bool}{me:Sl->M D}{fin:List D->M D}{σ:St}{H:Hp}{Q:VK}(hn:tgs.length=n)(hf:∀ι μ μ' H ds vs d (Q:VK),RelH K ι μ H->IsL K ι μ.length H ds vs->fin ds μ=some (d,μ')->(Aft K ι μ H μ' λι' H'=>∀v,Is K ι' μ'.length H' d v->Q v H')->
   vs.length<=sizeLine/\∀p,H p=none->Q (.ref p) (upd H p (.lst vs)))
  (h:tE K (BE n ix src (AM i) mc me fin) σ H Q):Ji tgs ix (tI K src) (FG i) (tT K mc) (tE K me) σ H Q:=by
 subst hn;obtain⟨ι,μ,τ,d,μ',R,S,e,q⟩:=h;obtain⟨ds,μ1,e1,e5⟩:=AJ e;obtain⟨u,μ2,e2,e6⟩:=AJ e5;obtain⟨zs,μ3,e3,e7⟩:=AJ e6;obtain⟨hl,e4⟩:=CN e2;clear e e5 e6;subst e4;refine⟨ι,μ,τ,ds,_,R,S,e1,λι1 H1 E1 R1 J it=>?_⟩;refine⟨λi' m ys H=>m=ds.length-i'/\i'<=ds.length/\ys.length<=i'/\∃(ι:Nat->Addr) (μ:Mh) (as:List D),RelH K ι μ H/\RelS K ι μ.length H τ σ/\ItM K J ds ι μ H/\IsL K ι μ.length H as ys/\B3 (AM i) mc me (BB tgs.length ix τ) (ds.drop i') as μ=some (zs,μ3) /\
  Aft K ι μ H μ' λι' H'=>∀v,Is K ι' μ'.length H' d v->Q v H',⟨ds.length,by simp,AAi _,AAF _,ι1,_,[],R1,S.ext E1,it,.nil,e3,λι2 H2 E2 R2=>q ι2 H2 (E1.trans E2) R2⟩,?_⟩
 rintro i' m ys H ⟨hm,hil,hyl,ι,μ,as,R,S,it,ia,e3,q⟩;obtain⟨go,stop,yl⟩:=it ι μ H R.ext0 R;by_cases hlt:i'<ds.length
 ·refine .inr ⟨go i' hlt,by omega,λys' H'=>ys'.length<=i'+1/\∃(ι:Nat->Addr) (μ:Mh) (as:List D),RelH K ι μ H'/\RelS K ι μ.length H' τ σ/\ItM K J ds ι μ H'/\IsL K ι μ.length H' as ys'/\B3 (AM i) mc me (BB tgs.length ix τ) (ds.drop (i'+1)) as μ=some (zs,μ3) /\
   Aft K ι μ H' μ' λι' H'=>∀v,Is K ι' μ'.length H' d v->Q v H',λys' H' z=>⟨_,(by omega:ds.length-(i'+1)<m),rfl,hlt,z⟩,λx H2 y=>?_⟩
  have hd:ds[i']?=some ds[i']:=by simp[hlt]
  obtain⟨E2,R2,ix2⟩:=yl i' x H2 _ hd y;rw[List.drop_eq_getElem_cons hlt] at e3;obtain⟨τ1,μ1,e1,e3⟩:=AJ e3;cases e1;obtain⟨cc,μ2,e2,e3⟩:=AJ e3;have S2:=(S.ext E2).block (tgs:=tgs) (ix:=ix);show tT K mc _ H2 _;refine⟨ι,_,_,cc,μ2,R2,S2.set i ix2,e2,λι3 H3 E3 R3=>?_⟩;have E13:=E2.trans E3;cases cc with
  |false=>
   exact⟨by omega,ι3,μ2,as,R3,S.ext E13,it.ext E13,ia.ext E13,e3,λι5 H5 E5 R5=>q ι5 H5 (E13.trans E5) R5⟩
  |true=>
   obtain⟨y',μ4,e4,e3⟩:=AJ e3;refine⟨ι3,μ2,_,y',μ4,R3,(S2.set i ix2).ext E3,e4,λι4 H4 E4 R4 v iv=>?_⟩;have E14:=E13.trans E4;exact⟨by simp;omega,ι4,μ4,as++[y'],R4,S.ext E14,it.ext E14,(ia.ext E14).append (.one iv),e3,λι5 H5 E5 R5=>q ι5 H5 (E14.trans E5) R5⟩
 ·have hi':i'=ds.length:=by omega
  subst hi';rw[List.drop_length] at e3;cases e3;obtain⟨z1,z2⟩:=hf ι _ μ' H _ ys d Q R ia e7 q;exact .inl ⟨stop,z1,z2⟩
theorem CY{n:Nat}{ifs:List Expr}{src:Sl->M (List D)}{i:Nat}{mc:Sl->M Bool}{me:Sl->M D}(S:BScope X scope tgs ix)(hc:X.calm=true)(hi:RI X tg iter src)(hg:∀fp C s H,PG (cxB X scope tgs fp C s H) tg (FG i))(hif:∀fp C s H,Jb (cxB X scope tgs fp C s H) ifs (tT X.kw mc))(he:∀fp C s H,RE (cxB X scope tgs fp C s H) elt me)
  (hin:i<tgs.length:=by decide) (hn:tgs.length=n:=by rfl) (hs:∀x,foldedSetIterable iter X.env x=pure x:=by intro _;rfl) (ht:∀o v,letOwnedTupleGo tg o v=pure ():=by intro _ _;rfl):RE X (.ListComp elt [⟨tg,iter,ifs,0⟩] scope pos) (BE n ix src (AM i) mc me Am):=
 RE.wk (N1 (te:=tE X.kw me) S hc hi.pe hg (K6 hin) hif (λfp C s H=>(he fp C s H).pe) hs ht) λ_ _ _ h=>No hn (λ_ _ _ _ _ _ _ _ R i e q=>DQ R i e q) h
theorem Bn{K:KW}:Jb X [] (tT K BO):=λpins s σ H Q I h=>by
 obtain⟨ι,μ,τ,b,μ',R,S,e,q⟩:=h;cases e;exact Q8 pins s σ H Q I (q ι H R.ext0 R)
theorem GX{c:Expr}{mc:Sl->M Bool}(h:RT X c mc):Jb X [c] (tT X.kw mc):=Q7 h.pe
theorem F9(k:Nat){n:Nat}{y:Str}{py spos:Pos}{ifs:List Expr}{src:Sl->M (List D)}{i:Nat}{mc:Sl->M Bool}{me:Sl->M D}{fin:List D->M D}(hN:X.N.Nodup)(S:BScope X scope tgs ix)(hc:X.calm=true)(hi:RI X tg iter src)(hg:∀fp C s H,PG (cxB X scope tgs fp C s H) tg (FG i))(hif:∀fp C s H,Jb (cxB X scope tgs fp C s H) ifs (tT X.kw mc))(he:∀fp C s H,RE (cxB X scope tgs fp C s H) elt me)
  (hfin:∀ι μ μ' H ds vs d (Q:VK),RelH X.kw ι μ H->IsL X.kw ι μ.length H ds vs->fin ds μ=some (d,μ')->(Aft X.kw ι μ H μ' λι' H'=>∀v,Is X.kw ι' μ'.length H' d v->Q v H')->vs.length<=sizeLine/\∀p,H p=none->Q (.ref p) (upd H p (.lst vs)))
  (hiN:X.N[k]?=some y:=by rfl) (hy:X.env.scope.names.lookup y=some .local:=by rfl) (hin:i<tgs.length:=by decide) (hn:tgs.length=n:=by rfl)
  (hsw:swapsWith (.ListComp elt [⟨tg,iter,ifs,0⟩] scope pos) (some (.Name y py)) spos.line X.env=pure true:=by rfl) (hs:∀x,foldedSetIterable iter X.env x=pure x:=by intro _;rfl) (ht:∀o v,letOwnedTupleGo tg o v=pure ():=by intro _ _;rfl) :
  RS X (.Assign [.Name y py] (.ListComp elt [⟨tg,iter,ifs,0⟩] scope pos) spos) (Ai (BE n ix src (AM i) mc me fin) (AM k)):=
 RS.wk (My (te:=tE X.kw me) hN hiN hy S hc hi.pe hg (K6 hin) hif (λfp C s H=>(he fp C s H).pe) hsw hs ht) λDn σ H h=>by
  obtain⟨ι,μ,τ,f,τ',μ',R,S,e,q⟩:=h;obtain⟨x,μ1,e1,e⟩:=AJ e;obtain⟨τ1,μ2,e2,e⟩:=AJ e;cases e2;cases e;refine No hn hfin ⟨ι,μ,τ,x,_,R,S,e1,λι1 H1 E1 R1 v i1=>?_⟩;exact q ι1 H1 E1 R1 _ ((S.ext E1).set k i1)
mutual
def Cl(k:Nat):D->Prop
 | .tup ds=>ClL k ds
 | .lst ds=>ClL k ds
 | .ref n=>n<k
 |_=>True
def ClL(k:Nat):List D->Prop
 |[]=>True
 |d::ds=>Cl k d/\ClL k ds
end
noncomputable def ClO(k:Nat):MO->Prop
 | .lst ds=>ClL k ds
 | .dK l=>ClL k (l.map (·.2))
 | .dC l=>ClL k (l.map (·.2))
 | .ins _ l=>ClL k (l.map (·.2))
 | .dP l=>ClL k (l.map (·.1))/\ClL k (l.map (·.2))
 | .exc _ _=>True
section
variable{K:KW}{ι:Nat->Addr}{k k':Nat}{H:Hp}
mutual
theorem Is.down(hk:k<=k'):∀{d:D} {v:V},Cl k d->Is K ι k' H d v->Is K ι k H d v
 | .non,_,_,h=>by unfold Is at h ⊢;exact h
 | .bl _,_,_,h=>by unfold Is at h ⊢;exact h
 | .int _,_,_,h=>by unfold Is at h ⊢;exact h
 | .str _,_,_,h=>by unfold Is at h ⊢;exact h
 | .ty _,_,_,h=>by unfold Is at h ⊢;exact h
 | .scr _,_,_,h=>by unfold Is at h ⊢;exact h
 | .tup ds,_,c,h=>by
  unfold Is at h ⊢;obtain⟨p,vs,e,h1,h2⟩:=h;exact⟨p,vs,e,h1,IsL.down hk (by unfold Cl at c;exact c) h2⟩
 | .lst ds,_,c,h=>by
  unfold Is at h ⊢;obtain⟨p,vs,e,h1,hn,h2⟩:=h;exact⟨p,vs,e,h1,λn z=>hn n (AAN z hk),IsL.down hk (by unfold Cl at c;exact c) h2⟩
 | .ref n,_,c,h=>by
  unfold Is at h ⊢;exact⟨by unfold Cl at c;exact c,h.2⟩
theorem IsL.down(hk:k<=k'):∀{ds:List D} {vs:List V},ClL k ds->IsL K ι k' H ds vs->IsL K ι k H ds vs
 |[],_,_,h=>by unfold IsL at h ⊢;exact h
 |_::_,_,c,h=>by
  unfold IsL at h ⊢;unfold ClL at c;obtain⟨v,vs',e,h1,h2⟩:=h;exact⟨v,vs',e,Is.down hk c.1 h1,IsL.down hk c.2 h2⟩
end
mutual
theorem Is.cl:∀{d:D} {v:V},Is K ι k H d v->Cl k d
 | .non,_,_=>by unfold Cl;trivial
 | .bl _,_,_=>by unfold Cl;trivial
 | .int _,_,_=>by unfold Cl;trivial
 | .str _,_,_=>by unfold Cl;trivial
 | .ty _,_,_=>by unfold Cl;trivial
 | .scr _,_,_=>by unfold Cl;trivial
 | .tup ds,_,h=>by
  unfold Is at h;unfold Cl;obtain⟨p,vs,e,h1,h2⟩:=h;exact IsL.cl h2
 | .lst ds,_,h=>by
  unfold Is at h;unfold Cl;obtain⟨p,vs,e,h1,hn,h2⟩:=h;exact IsL.cl h2
 | .ref n,_,h=>by
  unfold Is at h;unfold Cl;exact h.1
theorem IsL.cl:∀{ds:List D} {vs:List V},IsL K ι k H ds vs->ClL k ds
 |[],_,_=>by unfold ClL;trivial
 |_::_,_,h=>by
  unfold IsL at h;unfold ClL;obtain⟨v,vs',e,h1,h2⟩:=h;exact⟨Is.cl h1,IsL.cl h2⟩
end
theorem KVs.cl:∀{l:List (Key×D)} {r:List (Key×V)},KVs K ι k H l r->ClL k (l.map (·.2))
 |[],_,_=>by unfold List.map ClL;trivial
 |(_,_)::_,_,h=>by
  obtain⟨v,r',e,h1,h2⟩:=h;rw[AAX];unfold ClL;exact⟨h1.cl,KVs.cl h2⟩
theorem KVs.down(hk:k<=k'):∀{l:List (Key×D)} {r:List (Key×V)},ClL k (l.map (·.2))->KVs K ι k' H l r->KVs K ι k H l r
 |[],_,_,h=>h
 |(_,_)::_,_,c,h=>by
  rw[AAX] at c;unfold ClL at c;obtain⟨v,r',e,h1,h2⟩:=h;exact⟨v,r',e,h1.down hk c.1,KVs.down hk c.2 h2⟩
theorem OV:∀l:List Int,ClL k (l.map D.int)
 |[]=>by unfold List.map ClL;trivial
 |_::l=>by unfold List.map ClL;exact⟨by unfold Cl;trivial,OV l⟩
theorem ZD(c:Nk.Cs):Cl k (csD c):=by
 unfold csD Cl ClL;refine⟨by unfold Cl;trivial,?_⟩;unfold ClL;refine⟨by unfold Cl;trivial,?_⟩;unfold ClL;exact⟨by unfold Cl;exact OV _,by unfold ClL;trivial⟩
theorem CVs.cl:∀{l:List (Nk.Cs×D)} {r:List (Nk.Cs×Addr×V)},CVs K ι k H l r->ClL k (l.map (·.2))
 |[],_,_=>by unfold List.map ClL;trivial
 |(_,_)::_,_,h=>by
  obtain⟨a,v,r',rfl,_,h1,h2⟩:=h;rw[AAX];unfold ClL;exact⟨h1.cl,CVs.cl h2⟩
theorem CVs.down(hk:k<=k'):∀{l:List (Nk.Cs×D)} {r:List (Nk.Cs×Addr×V)},ClL k (l.map (·.2))->CVs K ι k' H l r->CVs K ι k H l r
 |[],_,_,h=>h
 |(_,_)::_,_,c,h=>by
  rw[AAX] at c;unfold ClL at c;obtain⟨a,v,r',e,h0,h1,h2⟩:=h;exact⟨a,v,r',e,h0.down hk (ZD _),h1.down hk c.1,CVs.down hk c.2 h2⟩
theorem FVs.cl:∀{l:List (Str×D)} {r:List (Str×V)},FVs K ι k H l r->ClL k (l.map (·.2))
 |[],_,_=>by unfold List.map ClL;trivial
 |(_,_)::_,_,h=>by
  obtain⟨v,r',rfl,h1,h2⟩:=h;rw[AAX];unfold ClL;exact⟨h1.cl,FVs.cl h2⟩
theorem FVs.down(hk:k<=k'):∀{l:List (Str×D)} {r:List (Str×V)},ClL k (l.map (·.2))->FVs K ι k' H l r->FVs K ι k H l r
 |[],_,_,h=>h
 |(_,_)::_,_,c,h=>by
  rw[AAX] at c;unfold ClL at c;obtain⟨v,r',e,h1,h2⟩:=h;exact⟨v,r',e,h1.down hk c.1,FVs.down hk c.2 h2⟩
theorem PVs.cl:∀{l:List (D×D)} {r:List (D×Addr×V)},PVs K ι k H l r->ClL k (l.map (·.1))/\ClL k (l.map (·.2))
 |[],_,_=>by unfold List.map ClL;exact⟨trivial,trivial⟩
 |(_,_)::_,_,h=>by
  obtain⟨a,v,r',_,h1,h2,h3⟩:=h;rw[AAX,AAX];unfold ClL;exact⟨⟨h1.2.2.cl,(PVs.cl h3).1⟩,h2.cl,(PVs.cl h3).2⟩
theorem PVs.down(hk:k<=k'):∀{l:List (D×D)} {r:List (D×Addr×V)},ClL k (l.map (·.1))->ClL k (l.map (·.2))->PVs K ι k' H l r->PVs K ι k H l r
 |[],_,_,_,h=>h
 |(_,_)::_,_,b,c,h=>by
  rw[AAX] at b c;unfold ClL at b c;obtain⟨a,v,r',e,h1,h2,h3⟩:=h;exact⟨a,v,r',e,⟨h1.1,h1.2.1,h1.2.2.down hk b.1⟩,h2.down hk c.1,PVs.down hk b.2 c.2 h3⟩
theorem ObjIs.cl{p:Addr}{o:MO}{u:HO}(h:ObjIs K ι k H p o u):ClO k o:=by
 cases o with
 |lst ds=>obtain⟨vs,_,h⟩:=h;exact h.cl
 |dK l=>obtain⟨r,_,h⟩:=h;exact h.cl
 |dC l=>obtain⟨r,_,h⟩:=h;exact h.cl
 |ins c l=>obtain⟨C,dx,r,_,_,_,h⟩:=h;exact h.cl
 |dP l=>obtain⟨r,_,h⟩:=h;exact h.cl
 |exc c n=>exact trivial
theorem ObjIs.down(hk:k<=k'){p:Addr}{o:MO}{u:HO}(c:ClO k o)(h:ObjIs K ι k' H p o u):ObjIs K ι k H p o u:=by
 cases o with
 |lst ds=>obtain⟨vs,e,h⟩:=h;exact⟨vs,e,h.down hk c⟩
 |dK l=>obtain⟨r,e,h⟩:=h;exact⟨r,e,h.down hk c⟩
 |dC l=>obtain⟨r,e,h⟩:=h;exact⟨r,e,h.down hk c⟩
 |ins n l=>obtain⟨C,dx,r,e,h0,h1,h⟩:=h;exact⟨C,dx,r,e,h0,h1,h.down hk c⟩
 |dP l=>obtain⟨r,e,h⟩:=h;exact⟨r,e,h.down hk c.1 c.2⟩
 |exc c n=>exact h
end
def Zz(μ2 μ':Mh)(d' d:D):Prop:=(d'=d/\Cl μ'.length d)∨∃n ds,d'=.ref n/\μ2[n]?=some (.lst ds)/\μ'.length<=n/\d=.lst ds/\ClL μ'.length ds
structure FI(μ μ2 μ':Mh)(d' d:D):Prop where
 grow:∃g,μ2=μ'++g
 le:μ.length<=μ'.length
 old:∀(n:Nat) (o:MO),μ'[n]?=some o->μ[n]?=some o∨ClO μ'.length o
 conv:Zz μ2 μ' d' d
noncomputable def ES:Fl->D
 | .rt d=>d
 |_=>.non
theorem IN{K:KW}{ι ι2:Nat->Addr}{μ μ2 μ':Mh}{H H2:Hp}{d' d:D}(R:RelH K ι μ H)(E:Ext ι μ.length H ι2 μ2.length H2)(R2:RelH K ι2 μ2 H2)(t:FI μ μ2 μ' d' d):
  Ext ι μ.length H ι2 μ'.length H2/\RelH K ι2 μ' H2/\∀v,Is K ι2 μ2.length H2 d' v->Is K ι2 μ'.length H2 d v:=by
 obtain⟨⟨g,hg⟩,le,old,conv⟩:=t;have hle:μ'.length<=μ2.length:=by rw[hg];simp
 have hget:∀(n:Nat) (o:MO),μ'[n]?=some o->μ2[n]?=some o:=λn o e=>by
  rw[hg,AAT (AAU.mp e).1];exact e
 refine⟨⟨le,E.agree,λn h1 h2=>E.fresh n h1 (AAN h2 hle),E.keep,E.was,E.there⟩,⟨λi j hi hj=>R2.inj i j (AAN hi hle) (AAN hj hle),λn o e=>?_⟩,λv iv=>?_⟩
 ·obtain⟨u,q,hq⟩:=R2.obj n o (hget n o e);refine⟨u,q,hq.down hle ?_⟩;rcases old n o e with z|z
  ·obtain⟨u0,_,h0⟩:=R.obj n o z;have c:=h0.cl;cases o with
   |lst ds=>exact clL_mono le c
   |dK l=>exact clL_mono le c
   |dC l=>exact clL_mono le c
   |ins n l=>exact clL_mono le c
   |dP l=>exact⟨clL_mono le c.1,clL_mono le c.2⟩
   |exc c n=>exact trivial
  ·exact z
 ·rcases conv with ⟨rfl,c⟩|⟨n,ds,rfl,hn,hle2,rfl,c⟩
  ·exact iv.down hle c
  ·obtain⟨u,q,vs,rfl,il⟩:=R2.obj n _ hn;have hn2:n<μ2.length:=(AAU.mp hn).1;unfold Is at iv ⊢;refine⟨ι2 n,vs,iv.2,q,λm hm z=>?_,il.down hle c⟩;have:=R2.inj m n (AAN hm hle) hn2 z;omega
where
 cl_mono {k k':Nat} (h:k<=k'):∀{d:D},Cl k d->Cl k' d
  | .non,_=>by unfold Cl;trivial
  | .bl _,_=>by unfold Cl;trivial
  | .int _,_=>by unfold Cl;trivial
  | .str _,_=>by unfold Cl;trivial
  | .ty _,_=>by unfold Cl;trivial
  | .scr _,_=>by unfold Cl;trivial
  | .tup ds,c=>by unfold Cl at c ⊢;exact clL_mono h c
  | .lst ds,c=>by unfold Cl at c ⊢;exact clL_mono h c
  | .ref n,c=>by unfold Cl at c ⊢;exact AAN c h
 clL_mono {k k':Nat} (h:k<=k'):∀{ds:List D},ClL k ds->ClL k' ds
  |[],_=>by unfold ClL;trivial
  |_::_,c=>by unfold ClL at c ⊢;exact⟨cl_mono h c.1,clL_mono h c.2⟩
noncomputable def A9(n:Nat)(ds:List D):Sl:=ds.map some++List.replicate (n-ds.length) none
theorem RelS.start{K:KW}{ι:Nat->Addr}{k:Nat}{H:Hp}{N:List Str}{ds:List D}{vs:List V}(i:IsL K ι k H ds vs):RelS K ι k H (A9 N.length ds) (L2.start N vs):=by
 have hl:=i.length;refine⟨by simp[A9,L2.start,hl],λj d e=>?_⟩;unfold A9 at e;unfold L2.start;rcases Nat.lt_or_ge j ds.length with z|z
 ·rw[AAT (by simpa using z),AAW] at e;rw[AAT (by simpa[hl] using z),AAW];cases q:ds[j]? with
  |none=>rw[q] at e;cases e
  |some d0=>
   rw[q] at e;cases e;obtain⟨v,ev,iv⟩:=i.get q;exact⟨v,by rw[ev];rfl,iv⟩
 ·rw[AAS (by simpa using z),List.getElem?_replicate] at e;split at e<;>cases e
theorem Jw{P:Program}{w:World}{K:PySem.W.Frag}{mg:Str->Option Value}{base:Heap}{x qual:Str}{st:Stmt}{f:Addr}{fd:FuncData}{N ps:List Str}{k n:Nat}{φ:List D->M D}{mb:Sl->M (Fl×Sl)}(F:Fun K x qual st f fd)(S:Aj N ps (AK st))(hn:ps.length=n:=by rfl)
  (body:∀(cdv:Value) (A:Around) (outer:List Env) (s:Shared) (H:Hp) (E:XK),Room k (A.deeper (PyProof.Rows.envOfC qual (AK st) s.heap.objs.size f cdv))->RSs (BY CX0 P w K mg base N qual (AK st) f cdv A outer s H E).nox (Af st) mb)
  (run:∀ds μ d μ',φ ds μ=some (d,μ')->∃fl τ2 μ2,mb (A9 N.length ds) μ=some ((fl,τ2),μ2)/\(fl=.next∨∃d,fl=.rt d)/\FI μ μ2 μ' (ES fl) d):FnOk P w K mg base CX0 (k+1) f fd ps (spM ⟨K,w⟩ n φ):=by
 refine F.ok S (λvs H Q E h=>by rw[hn];exact h.1) (λcdv A outer s H vs Q E hr h=>⟨_,(body cdv A outer s H E hr).pe,?_⟩);obtain⟨hl,ι,μ,ds,d,μ',R,i,e,q⟩:=h;obtain⟨fl,τ2,μ2,e2,hfl,t⟩:=run ds μ d μ' e;refine⟨ι,μ,_,fl,τ2,μ2,R,RelS.start i,e2,λι2 H2 E2 R2 σ2 S2=>?_⟩;obtain⟨E3,R3,c⟩:=IN R E2 R2 t;rcases hfl with rfl|⟨d0,rfl⟩
 ·exact q ι2 H2 E3 R3 _ (c _ (by unfold ES Is;rfl))
 ·exact λv iv=>q ι2 H2 E3 R3 v (c v iv)
end
noncomputable def CW:D->M (List D)
 | .lst ds=>ret ds
 | .scr ns=>ret (ns.map D.int)
 | .ref n=>λμ=>match μ[n]? with
  |some (.lst ds)=>some (ds,μ)
  |_=>none
 |_=>Ba
section
variable{K:KW}{ι:Nat->Addr}{μ μ':Mh}{H:Hp}{d:D}{v:V}{ds:List D}
theorem DM(R:RelH K ι μ H)(i:Is K ι μ.length H d v)(e:CW d μ=some (ds,μ')):μ'=μ/\∃p vs,v=.ref p/\SqL K H p vs/\IsL K ι μ.length H ds vs:=by
 cases d with
 |lst es=>
  cases e;unfold Is at i;obtain⟨p,vs,rfl,h1,hn,h2⟩:=i;exact⟨rfl,p,vs,rfl,SqL.of h1,h2⟩
 |scr ns=>
  cases e;unfold Is at i;obtain⟨p,rfl,h1⟩:=i;exact⟨rfl,p,_,rfl,h1.sq,IsL.ofInts ns⟩
 |ref n=>
  unfold Is at i;obtain⟨hn,rfl⟩:=i;have e':(match μ[n]? with|some (.lst ds)=>some (ds,μ)|_=>none)=some (ds,μ'):=e;split at e'
  ·rename_i es hq;cases e';obtain⟨u,h1,vs,rfl,h2⟩:=R.obj n _ hq;exact⟨rfl,_,vs,rfl,SqL.of h1,h2⟩
  ·cases e'
 |_=>cases e
theorem CD{i:Int}(h:Is K ι μ.length H (.int i) v):v=.int i:=by unfold Is at h;exact h
theorem C9{i:Str}(h:Is K ι μ.length H (.str i) v):v=.str i:=by unfold Is at h;exact h
theorem R7{i:Bool}(h:Is K ι μ.length H (.bl i) v):v=.bl i:=by unfold Is at h;exact h
theorem NA(h:Is K ι μ.length H .non v):v=.non:=by unfold Is at h;exact h
theorem Y0{n:String}(h:Is K ι μ.length H (.ty n) v):v=.ty n:=by unfold Is at h;exact h
theorem ofI{k:Nat}(i:Int):Is K ι k H (.int i) (.int i):=by unfold Is;rfl
theorem ofS{k:Nat}(i:Str):Is K ι k H (.str i) (.str i):=by unfold Is;rfl
theorem ofB{k:Nat}(i:Bool):Is K ι k H (.bl i) (.bl i):=by unfold Is;rfl
theorem ofN{k:Nat}:Is K ι k H .non .non:=by unfold Is;rfl
theorem Gg{d:D}{vs:List V}{k:Nat}(h:IsL K ι k H [d] vs):∃v,vs=[v]/\Is K ι k H d v:=by
 unfold IsL at h;obtain⟨v,vs',rfl,h1,h2⟩:=h;unfold IsL at h2;subst h2;exact⟨v,rfl,h1⟩
theorem Uh{d d':D}{vs:List V}{k:Nat}(h:IsL K ι k H [d,d'] vs):∃v v',vs=[v,v']/\Is K ι k H d v/\Is K ι k H d' v':=by
 unfold IsL at h;obtain⟨v,vs',rfl,h1,h2⟩:=h;obtain⟨v',rfl,h3⟩:=Gg h2;exact⟨v,v',rfl,h1,h3⟩
theorem Xh{i:Int}{vs:List V}{k:Nat}(h:IsL K ι k H ds vs)(e:atI ds i=some d):∃v,atI vs i=some v/\Is K ι k H d v:=by
 unfold atI at e ⊢;rw[h.length];cases q:ixN ds.length i with
 |none=>rw[q] at e;cases e
 |some j=>
  rw[q] at e;exact h.get e
theorem SW{vs:List V}{k:Nat}{lo hi:Option Int}(h:IsL K ι k H ds vs):IsL K ι k H ((ds.drop (HT.sIx ds.length 0 lo)).take (HT.sIx ds.length ds.length hi-HT.sIx ds.length 0 lo)) (MM vs lo hi):=by
 unfold MM;rw[h.length];exact(h.drop _).take _
end
noncomputable def MF(C:Int->Int->Prop)[∀i j,Decidable (C i j)](g:Int->Int->D):D->D->M D
 | .int i,.int j=>λμ=>if C i j then some (g i j,μ) else none
 |_,_=>Ba
noncomputable def Dz:D->D->M D:=MF (λ_ _=>True) λi j=>.int (i-j)
noncomputable def G3:D->D->M D:=MF (λ_ j=>0<j/\j<1073741824) λi j=>.int (i / j)
noncomputable def FT:D->D->M D:=MF (λ_ j=>0<j) λi j=>.int (i % j)
noncomputable def Lp:D->D->M D:=MF (λi j=>0<=j/\j<=1000000/\i.natAbs<2 ^ 64) λi j=>.int (i ^ j.toNat)
noncomputable def FL:D->D->M D:=MF (λ_ _=>True) λi j=>.bl (decide (i<j))
noncomputable def GC:D->D->M D:=MF (λ_ _=>True) λi j=>.bl (decide (i<=j))
noncomputable def Ie:D->D->M D:=MF (λ_ _=>True) λi j=>.bl (decide (j<i))
section
variable{X:Cx}
theorem GF{f:Value->Value->Sem Value}{C:Int->Int->Prop}[∀i j,Decidable (C i j)]{g:Int->Int->D}{gv:Int->Int->V}(hg:∀i j ι k H,Is X.kw ι k H (g i j) (gv i j))(ho:OpR X f (rI C gv)):OpR X f (rM X.kw (MF C g)):=OpR.wk ho λx y H Q h=>by
 obtain⟨ι,μ,a,b,d,μ',R,ia,ib,e,q⟩:=h;cases a with
 |int i=>
  cases b with
  |int j=>
   have e':(if C i j then some (g i j,μ) else none)=some (d,μ'):=e;split at e'
   ·rename_i hc;cases e';exact⟨i,j,CD ia,CD ib,hc,q ι H R.ext0 R _ (hg i j _ _ _)⟩
   ·cases e'
  |_=>cases e
 |_=>cases e
theorem OpR.ofI0{f:Value->Value->Sem Value}{gv:Int->Int->V}(ho:OpR X f (rI0 gv)):OpR X f (rI (λ_ _=>True) gv):=OpR.wk ho λx y H Q h=>by
 obtain⟨i,j,h1,h2,_,q⟩:=h;exact⟨i,j,h1,h2,q⟩
theorem Fz:OpR X (binaryOp .Sub) (rM X.kw Dz):=GF (λ_ _ _ _ _=>ofI _) (OpR.ofI0 We)
theorem Kl:OpR X (binaryOp .FloorDiv) (rM X.kw G3):=GF (λ_ _ _ _ _=>ofI _) UC
theorem Ik:OpR X (binaryOp .Mod) (rM X.kw FT):=GF (λ_ _ _ _ _=>ofI _) Wj
theorem Rc:OpR X (binaryOp .Pow) (rM X.kw Lp):=GF (λ_ _ _ _ _=>ofI _) Wg
theorem O6:OpR X (compareOp .Lt) (rM X.kw FL):=GF (λ_ _ _ _ _=>ofB _) (OpR.ofI0 Yh)
theorem O7:OpR X (compareOp .LtE) (rM X.kw GC):=GF (λ_ _ _ _ _=>ofB _) (OpR.ofI0 Yi)
theorem Rf:OpR X (compareOp .Gt) (rM X.kw Ie):=GF (λ_ _ _ _ _=>ofB _) (OpR.ofI0 Yj)
noncomputable def Lq:D->M D
 | .int i=>ret (.int (-i))
 |_=>Ba
theorem N9:UnR X (unaryOp .USub) (rM1 X.kw Lq):=λpins s σ H x v Q I r h=>by
 obtain⟨ι,μ,a,d,μ',R,ia,e,q⟩:=h;cases a with
 |int i=>
  cases e;have z:=CD ia;subst z;exact Ve pins s σ H _ v Q I r ⟨i,rfl,q ι H R.ext0 R _ (ofI _)⟩
 |_=>cases e
noncomputable def C8:D->D->M D
 | .int i,.int j=>ret (.int (i+j))
 | .str i,.str j=>bnd (lim (i.length+j.length)) λ_=>ret (.str (i++j))
 | .lst a,.lst b=>Am (a++b)
 | .tup [],.tup b=>Ba
 | .tup (a::as),.tup b=>AY (a::as++b)
 |_,_=>Ba
theorem FW:OpR X (binaryOp .Add) (rM X.kw C8):=λpins s σ H x y v u Q I rx ry h=>by
 obtain⟨ι,μ,a,b,d,μ',R,ia,ib,e,q⟩:=h;unfold C8 at e;split at e
 ·cases e;cases CD ia;cases CD ib;exact Wm pins s σ H _ _ v u Q I rx ry ⟨_,_,rfl,rfl,q ι H R.ext0 R _ (ofI _)⟩
 ·obtain⟨_,μ1,e1,e2⟩:=AJ e;obtain⟨hl,rfl⟩:=CN e1;cases e2;cases C9 ia;cases C9 ib;exact M2 pins s σ H _ _ v u Q I rx ry ⟨_,_,rfl,rfl,hl,q ι H R.ext0 R _ (ofS _)⟩
 ·unfold Is at ia ib;obtain⟨p,vs,rfl,h1,hn,h2⟩:=ia;obtain⟨p',vs',rfl,h1',hn',h2'⟩:=ib;obtain⟨hl,w⟩:=DQ R (h2.append h2') e q;exact Kk pins s σ H _ _ v u Q I rx ry ⟨p,p',vs,vs',rfl,rfl,h1,h1',by rw[←AAH];exact hl,w⟩
 ·cases e
 ·rename_i a as bs;unfold Is at ia ib;obtain⟨p,vs,rfl,h1,h2⟩:=ia;obtain⟨p',vs',rfl,h1',h2'⟩:=ib;obtain⟨hl,w⟩:=OB R (h2.append h2') e q;refine UD pins s σ H _ _ v u Q I rx ry ⟨p,p',vs,vs',rfl,rfl,h1,h1',λz=>?_,by rw[←AAH];exact hl,λz=>?_,λ_=>w⟩
  ·have:=h2.length;rw[z] at this;cases this
  ·subst z;have hb:bs=[]:=by
    have:=h2'.length;cases bs with
    |nil=>rfl
    |cons _ _=>cases this
   subst hb;obtain⟨_,μ1,e1,e2⟩:=AJ e;obtain⟨hl,rfl⟩:=CN e1;cases e2;exact q ι H R.ext0 R _ (by unfold Is;exact⟨p,vs,rfl,h1,by rw[AAZ];exact h2⟩)
 ·cases e
noncomputable def DX:D->D->M D
 | .int i,.int j=>λμ=>if (-(2 ^ 64)<i/\i<2 ^ 64)∨(-(2 ^ 64)<j/\j<2 ^ 64) then some (.int (i * j),μ) else none
 | .lst a,.int j=>λμ=>if -(2 ^ 63)<=j/\j<2 ^ 63/\a.length * j.toNat<=sizeLine then Am (List.replicate j.toNat a).flatten μ else none
 |_,_=>Ba
theorem IsL.rep{K:KW}{ι:Nat->Addr}{k:Nat}{H:Hp}{ds:List D}{vs:List V}(h:IsL K ι k H ds vs):∀n:Nat,IsL K ι k H (List.replicate n ds).flatten (List.replicate n vs).flatten
 |0=>.nil
 |n+1=>by
  rw[AAj,AAj,List.flatten_cons,List.flatten_cons];exact h.append (IsL.rep h n)
theorem HQ:OpR X (binaryOp .Mult) (rM X.kw DX):=λpins s σ H x y v u Q I rx ry h=>by
 obtain⟨ι,μ,a,b,d,μ',R,ia,ib,e,q⟩:=h;unfold DX at e;split at e
 ·split at e
  ·rename_i hc;cases e;cases CD ia;cases CD ib;exact Wi pins s σ H _ _ v u Q I rx ry ⟨_,_,rfl,rfl,hc,q ι H R.ext0 R _ (ofI _)⟩
  ·cases e
 ·split at e
  ·rename_i hc;cases CD ib;unfold Is at ia;obtain⟨p,vs,rfl,h1,hn,h2⟩:=ia;obtain⟨hl,w⟩:=DQ R (h2.rep _) e q;exact Wf pins s σ H _ _ v u Q I rx ry ⟨p,_,vs,rfl,rfl,h1,hc.1,hc.2.1,by rw[h2.length];exact hc.2.2,w⟩
  ·cases e
 ·cases e
mutual
def toP(μ:Mh):D->Option PyData
 | .non=>some .none
 | .bl b=>some (.bool b)
 | .int i=>some (.int i)
 | .str x=>some (.str x)
 | .ty _=>none
 | .scr ns=>some (.list (ns.map PyData.int))
 | .tup ds=>(FK μ ds).map PyData.tuple
 | .lst ds=>(FK μ ds).map PyData.list
 | .ref _=>none
def FK(μ:Mh):List D->Option (List PyData)
 |[]=>some []
 |d::ds=>(toP μ d).bind λp=>(FK μ ds).map (p::·)
end
noncomputable def KO(μ:Mh):D->Option PyData
 | .ref n=>match μ[n]? with
  |some (.lst ds)=>(FK μ ds).map PyData.list
  |_=>none
 |d=>toP μ d
section
variable{K:KW}{ι:Nat->Addr}{μ:Mh}{H:Hp}{k:Nat}
theorem OS:∀(ns:List Int),DatVs K H (ns.map V.int) (ns.map PyData.int)
 |[]=>.nil
 |n::r=>.cons (.int n) (OS r)
mutual
theorem Is.dat:∀{d:D} {v:V} {p:PyData},Is K ι k H d v->toP μ d=some p->DatV K H v p
 | .non,_,_,h,e=>by unfold Is at h;unfold toP at e;cases e;subst h;exact .non
 | .bl b,_,_,h,e=>by unfold Is at h;unfold toP at e;cases e;subst h;exact .bl b
 | .int b,_,_,h,e=>by unfold Is at h;unfold toP at e;cases e;subst h;exact .int b
 | .str b,_,_,h,e=>by unfold Is at h;unfold toP at e;cases e;subst h;exact .str b
 | .ty b,_,_,h,e=>by unfold toP at e;cases e
 | .scr ns,_,_,h,e=>by
  unfold Is at h;unfold toP at e;cases e;obtain⟨p,rfl,h⟩:=h;exact .lst h.sq (OS ns)
 | .tup ds,_,_,h,e=>by
  unfold Is at h;unfold toP at e;obtain⟨p,vs,rfl,h1,h2⟩:=h;cases q:FK μ ds with
  |none=>rw[q] at e;cases e
  |some ps=>rw[q] at e;cases e;exact .tup h1 (IsL.dat h2 q)
 | .lst ds,_,_,h,e=>by
  unfold Is at h;unfold toP at e;obtain⟨p,vs,rfl,h1,_,h2⟩:=h;cases q:FK μ ds with
  |none=>rw[q] at e;cases e
  |some ps=>rw[q] at e;cases e;exact .lst (SqL.of h1) (IsL.dat h2 q)
 | .ref n,_,_,h,e=>by unfold toP at e;cases e
theorem IsL.dat:∀{ds:List D} {vs:List V} {ps:List PyData},IsL K ι k H ds vs->FK μ ds=some ps->DatVs K H vs ps
 |[],_,_,h,e=>by unfold IsL at h;unfold FK at e;cases e;subst h;exact .nil
 |d::ds,_,_,h,e=>by
  unfold IsL at h;unfold FK at e;obtain⟨v,vs',rfl,h1,h2⟩:=h;cases q:toP μ d with
  |none=>rw[q] at e;cases e
  |some p=>
   rw[q] at e;cases q2:FK μ ds with
   |none=>rw[q2] at e;cases e
   |some ps=>rw[q2] at e;cases e;exact .cons (Is.dat h1 q) (IsL.dat h2 q2)
end
theorem Ut(R:RelH K ι μ H){d:D}{v:V}{p:PyData}(h:Is K ι μ.length H d v)(e:KO μ d=some p):DatV K H v p:=by
 cases d with
 |ref n=>
  unfold Is at h;obtain⟨_,rfl⟩:=h;have e':(match μ[n]? with|some (.lst ds)=>(FK μ ds).map PyData.list|_=>none)=some p:=e;split at e'
  ·rename_i ds hq;obtain⟨u,h1,vs,rfl,h2⟩:=R.obj n _ hq;cases q:FK μ ds with
   |none=>rw[q] at e';cases e'
   |some ps=>rw[q] at e';cases e';exact .lst (SqL.of h1) (IsL.dat h2 q)
  ·cases e'
 |_=>exact Is.dat (μ:=μ) h e
end
noncomputable def Fy(neg:Bool)(a b:D):M D:=λμ=>match KO μ a,KO μ b with
 |some p,some q=>if SeqAt.shaped p=true/\SeqAt.shaped q=true then some (.bl (if neg then !PyData.eqv p q else PyData.eqv p q),μ) else none
 |_,_=>none
noncomputable def BF:D->D->M D:=Fy false
noncomputable def Dd:D->D->M D:=Fy true
theorem Ig{neg:Bool}{a b d:D}{μ μ':Mh}(e:Fy neg a b μ=some (d,μ')):∃p q,KO μ a=some p/\KO μ b=some q/\SeqAt.shaped p=true/\SeqAt.shaped q=true/\d=.bl (if neg then !PyData.eqv p q else PyData.eqv p q)/\μ'=μ:=by
 unfold Fy at e;split at e
 ·rename_i p q e1 e2;split at e
  ·rename_i h;cases e;exact⟨p,q,e1,e2,h.1,h.2,rfl,rfl⟩
  ·cases e
 ·cases e
theorem Cm{k:Nat}(hr:Room k X.A):OpR X (compareOp .Eq) (rM X.kw BF):=OpR.wk (Wl (Qr hr)) λx y H Q h=>by
 obtain⟨ι,μ,a,b,d,μ',R,ia,ib,e,q⟩:=h;obtain⟨p,p',e1,e2,s1,s2,rfl,rfl⟩:=Ig e;exact⟨p,p',Ut R ia e1,Ut R ib e2,s1,s2,q ι H R.ext0 R _ (ofB _)⟩
theorem Ly{k:Nat}(hr:Room k X.A):OpR X (compareOp .NotEq) (rM X.kw Dd):=OpR.wk (Wh (Qr hr)) λx y H Q h=>by
 obtain⟨ι,μ,a,b,d,μ',R,ia,ib,e,q⟩:=h;obtain⟨p,p',e1,e2,s1,s2,rfl,rfl⟩:=Ig e;exact⟨p,p',Ut R ia e1,Ut R ib e2,s1,s2,q ι H R.ext0 R _ (ofB _)⟩
noncomputable def isN:D->Bool
 | .non=>true
 |_=>false
noncomputable def JY(neg:Bool):D->D->M D
 |a,.non=>ret (.bl (if neg then !isN a else isN a))
 |_,_=>Ba
theorem OJ{K:KW}{ι:Nat->Addr}{k:Nat}{H:Hp}{a:D}{x:V}(h:Is K ι k H a x):decide (x=V.non)=isN a:=by
 cases a with
 |non=>unfold Is at h;subst h;rfl
 |bl b=>unfold Is at h;subst h;rfl
 |int b=>unfold Is at h;subst h;rfl
 |str b=>unfold Is at h;subst h;rfl
 |ty b=>unfold Is at h;subst h;rfl
 |scr ns=>unfold Is at h;obtain⟨p,rfl,_⟩:=h;rfl
 |tup ns=>unfold Is at h;obtain⟨p,o,rfl,_⟩:=h;rfl
 |lst ns=>unfold Is at h;obtain⟨p,o,rfl,_⟩:=h;rfl
 |ref ns=>unfold Is at h;obtain⟨_,rfl⟩:=h;rfl
theorem Yn:OpR X (compareOp .Is) (rM X.kw (JY false)):=OpR.wk Wk λx y H Q h=>by
 obtain⟨ι,μ,a,b,d,μ',R,ia,ib,e,q⟩:=h;cases b with
 |non=>cases e;exact⟨NA ib,by rw[OJ ia];exact q ι H R.ext0 R _ (ofB _)⟩
 |_=>cases e
theorem UG:OpR X (compareOp .IsNot) (rM X.kw (JY true)):=OpR.wk UB λx y H Q h=>by
 obtain⟨ι,μ,a,b,d,μ',R,ia,ib,e,q⟩:=h;cases b with
 |non=>cases e;exact⟨NA ib,by rw[OJ ia];exact q ι H R.ext0 R _ (ofB _)⟩
 |_=>cases e
noncomputable def Jz:D->Option V
 | .non=>some .non
 | .bl b=>some (.bl b)
 | .int i=>some (.int i)
 | .str x=>some (.str x)
 |_=>none
noncomputable def G9:List D->Option (List V)
 |[]=>some []
 |d::ds=>(Jz d).bind λv=>(G9 ds).map (v::·)
section
variable{K:KW}{ι:Nat->Addr}{H:Hp}{k:Nat}
theorem MK{d:D}{v x:V}(h:Is K ι k H d x)(e:Jz d=some v):x=v/\F2 v=true:=by
 cases d with
 |non=>cases e;unfold Is at h;exact⟨h,rfl⟩
 |bl b=>cases e;unfold Is at h;exact⟨h,rfl⟩
 |int b=>cases e;unfold Is at h;exact⟨h,rfl⟩
 |str b=>cases e;unfold Is at h;exact⟨h,rfl⟩
 |_=>cases e
theorem Jy:∀{ds:List D} {vs xs:List V},IsL K ι k H ds xs->G9 ds=some vs->xs=vs/\vs.all F2=true
 |[],_,_,h,e=>by cases e;unfold IsL at h;exact⟨h,rfl⟩
 |d::ds,_,_,h,e=>by
  unfold IsL at h;obtain⟨v,vs',rfl,h1,h2⟩:=h;unfold G9 at e;cases q:Jz d with
  |none=>rw[q] at e;cases e
  |some w=>
   rw[q] at e;cases q2:G9 ds with
   |none=>rw[q2] at e;cases e
   |some ws=>
    rw[q2] at e;cases e;obtain⟨rfl,f1⟩:=MK h1 q;obtain⟨rfl,f2⟩:=Jy h2 q2;exact⟨rfl,by rw[List.all_cons,f1,f2];rfl⟩
end
noncomputable def B4:D->M (List D)
 | .tup ds=>ret ds
 |d=>CW d
theorem Fu{K:KW}{ι:Nat->Addr}{μ μ':Mh}{H:Hp}{d:D}{v:V}{ds:List D}(R:RelH K ι μ H)(i:Is K ι μ.length H d v)(e:B4 d μ=some (ds,μ')):μ'=μ/\∃p vs,v=.ref p/\(SqL K H p vs∨SqT K H p vs)/\IsL K ι μ.length H ds vs:=by
 cases d with
 |tup es=>
  cases e;unfold Is at i;obtain⟨p,vs,rfl,h1,h2⟩:=i;exact⟨rfl,p,vs,rfl,.inr h1,h2⟩
 |lst es=>obtain⟨h,p,vs,a,b,c⟩:=DM R i e;exact⟨h,p,vs,a,.inl b,c⟩
 |scr es=>obtain⟨h,p,vs,a,b,c⟩:=DM R i e;exact⟨h,p,vs,a,.inl b,c⟩
 |ref es=>obtain⟨h,p,vs,a,b,c⟩:=DM R i e;exact⟨h,p,vs,a,.inl b,c⟩
 |_=>cases e
noncomputable def JB(neg:Bool)(a b:D):M D:=bnd (B4 b) λds=>λμ=>match Jz a,G9 ds with
 |some x,some xs=>some (.bl (if neg then !inV x xs else inV x xs),μ)
 |_,_=>none
noncomputable def G1(neg:Bool):D->D->M D
 | .str i,.str j=>ret (.bl (if neg then !(!(Builtin.Str.occurrences j i 0 j.length 1).isEmpty) else !(Builtin.Str.occurrences j i 0 j.length 1).isEmpty))
 |a,b=>JB neg a b
theorem Q3{K:KW}{neg:Bool}{x y:V}{H:Hp}{Q:VK}{ι:Nat->Addr}{μ μ':Mh}{a b d:D}(R:RelH K ι μ H)(ia:Is K ι μ.length H a x)(ib:Is K ι μ.length H b y)(e:JB neg a b μ=some (d,μ'))(q:Aft K ι μ H μ' λι' H'=>∀v,Is K ι' μ'.length H' d v->Q v H'):rIn K neg x y H Q:=by
 obtain⟨ds,μ1,e1,e2⟩:=AJ e;obtain⟨hm,p,vs,rfl,h1,h2⟩:=Fu R ib e1;subst hm;split at e2
 ·rename_i w ws q1 q2;cases e2;obtain⟨rfl,f1⟩:=MK ia q1;obtain⟨rfl,f2⟩:=Jy h2 q2;exact⟨p,_,rfl,h1,f1,f2,q ι H R.ext0 R _ (ofB _)⟩
 ·cases e2
theorem Wp:OpR X (compareOp .In) (rM X.kw (G1 false)):=λpins s σ H x y v u Q I rx ry h=>by
 obtain⟨ι,μ,a,b,d,μ',R,ia,ib,e,q⟩:=h;unfold G1 at e;split at e
 ·cases e;cases C9 ia;cases C9 ib;exact O2 pins s σ H _ _ v u Q I rx ry ⟨_,_,rfl,rfl,q ι H R.ext0 R _ (ofB _)⟩
 ·exact O3 pins s σ H _ _ v u Q I rx ry (Q3 R ia ib e q)
theorem UF:OpR X (compareOp .NotIn) (rM X.kw (G1 true)):=λpins s σ H x y v u Q I rx ry h=>by
 obtain⟨ι,μ,a,b,d,μ',R,ia,ib,e,q⟩:=h;unfold G1 at e;split at e
 ·cases e;cases C9 ia;cases C9 ib;exact Ki pins s σ H _ _ v u Q I rx ry ⟨_,_,rfl,rfl,q ι H R.ext0 R _ (ofB _)⟩
 ·exact Kj pins s σ H _ _ v u Q I rx ry (Q3 R ia ib e q)
noncomputable def ixD(ds:List D)(i:Int):M D:=λμ=>(atI ds i).map λd=>(d,μ)
noncomputable def AT:D->D->M D
 | .str z,.int i=>λμ=>if z.length<=sizeLine then (atI z.cps.toList i).map λc=>(.str ⟨#[c]⟩,μ) else none
 |a,.int i=>bnd (B4 a) λds=>ixD ds i
 |_,_=>Ba
theorem Ap:IxR X (rM X.kw AT):=λva sl pins s σ H x y v u Q I rx ry h hsl=>by
 obtain⟨ι,μ,a,b,d,μ',R,ia,ib,e,q⟩:=h;unfold AT at e;split at e
 ·split at e
  ·rename_i z i hl;cases C9 ia;cases CD ib;cases qq:atI z.cps.toList i with
   |none=>rw[qq] at e;cases e
   |some c=>
    rw[qq] at e;cases e;exact M9 va sl pins s σ H _ _ v u Q I rx ry (.inr (.inr ⟨z,i,c,rfl,rfl,hl,qq,q ι H R.ext0 R _ (ofS _)⟩)) hsl
  ·cases e
 ·cases CD ib;obtain⟨ds,μ1,e1,e2⟩:=AJ e;obtain⟨hm,p,vs,rfl,h1,h2⟩:=Fu R ia e1;subst hm;rename_i i _;unfold ixD at e2;cases qq:atI ds i with
  |none=>rw[qq] at e2;cases e2
  |some c=>
   rw[qq] at e2;cases e2;obtain⟨w,ew,iw⟩:=Xh h2 qq;rcases h1 with h1|h1
   ·exact M9 va sl pins s σ H _ _ v u Q I rx ry (.inl ⟨p,vs,i,w,rfl,rfl,h1,ew,q ι H R.ext0 R _ iw⟩) hsl
   ·exact M9 va sl pins s σ H _ _ v u Q I rx ry (.inr (.inl ⟨p,vs,i,w,rfl,rfl,h1,ew,q ι H R.ext0 R _ iw⟩)) hsl
 ·cases e
noncomputable def Bk:List D->M D
 |[.str z]=>λμ=>if z.length<=sizeLine then some (.int z.length,μ) else none
 |[.ref n]=>λμ=>match μ[n]? with
  |some (.lst ds)=>some (.int ds.length,μ)
  |_=>none
 |[d]=>bnd (B4 d) λds=>ret (.int ds.length)
 |_=>Ba
theorem CU:Cy X (.builtin "len") (rMA X.kw Bk):=λpins s σ H xs us Q I r h=>by
 obtain⟨ι,μ,as,d,μ',R,ia,e,q⟩:=h;refine Sb pins s σ H xs us Q I r ?_;unfold Bk at e;split at e
 ·rename_i z;obtain⟨v,rfl,i1⟩:=Gg ia;split at e
  ·rename_i hl;cases e;cases C9 i1;exact⟨_,_,rfl,⟨hl,rfl⟩,q ι H R.ext0 R _ (ofI _)⟩
  ·cases e
 ·rename_i n;obtain⟨v,rfl,i1⟩:=Gg ia;unfold Is at i1;obtain⟨_,rfl⟩:=i1;split at e
  ·rename_i ds hq;cases e;obtain⟨u,h1,vs,rfl,h2⟩:=R.obj n _ hq;exact⟨_,_,rfl,.inl ⟨vs,SqL.of h1,rfl⟩,by rw[h2.length];exact q ι H R.ext0 R _ (ofI _)⟩
  ·cases e
 ·obtain⟨v,rfl,i1⟩:=Gg ia;obtain⟨ds,μ1,e1,e2⟩:=AJ e;obtain⟨hm,p,vs,rfl,h1,h2⟩:=Fu R i1 e1;subst hm;cases e2;rw[←h2.length] at q;rcases h1 with h1|h1
  ·exact⟨_,_,rfl,.inl ⟨vs,h1,rfl⟩,q ι H R.ext0 R _ (ofI _)⟩
  ·exact⟨_,_,rfl,.inr ⟨vs,h1,rfl⟩,q ι H R.ext0 R _ (ofI _)⟩
 ·cases e
noncomputable def FN(ds:List D)(lo hi:Option Int):List D:=(ds.drop (HT.sIx ds.length 0 lo)).take (HT.sIx ds.length ds.length hi-HT.sIx ds.length 0 lo)
noncomputable def Q5(lo hi:Option Int):D->M D
 | .tup ds=>if HT.sIx ds.length 0 lo=0/\HT.sIx ds.length ds.length hi=ds.length then Ba else ret (.tup (FN ds lo hi))
 |d=>bnd (CW d) λds=>ret (.lst (FN ds lo hi))
noncomputable def rMS(K:KW):V->Option Int->Option Int->Hp->VK->Prop:=λx lo hi H Q=>∃ι μ a d μ',RelH K ι μ H/\Is K ι μ.length H a x/\Q5 lo hi a μ=some (d,μ') /\
 Aft K ι μ H μ' λι' H'=>∀v,Is K ι' μ'.length H' d v->Q v H'
theorem Yq{K:KW}{ι:Nat->Addr}{μ:Mh}{H:Hp}{ds:List D}{vs:List V}{Q:VK}(R:RelH K ι μ H)(i:IsL K ι μ.length H ds vs)(q:Aft K ι μ H μ λι' H'=>∀v,Is K ι' μ.length H' (.lst ds) v->Q v H')(p:Addr)(hp:H p=none):Q (.ref p) (upd H p (.lst vs)):=by
 obtain⟨E1,R1⟩:=R.laid (.lst vs) hp;have ho:∀n,n<μ.length->ι n≠p:=λn hn z=>by
  obtain⟨o,e,_⟩:=R.muts n hn;rw[z,hp] at e;cases e
 exact q ι _ E1 R1 _ (by unfold Is;exact⟨p,vs,rfl,Be,ho,i.ext E1⟩)
theorem VF{K:KW}{ι:Nat->Addr}{μ:Mh}{H:Hp}{ds:List D}{vs:List V}{Q:VK}(R:RelH K ι μ H)(i:IsL K ι μ.length H ds vs)(q:Aft K ι μ H μ λι' H'=>∀v,Is K ι' μ.length H' (.tup ds) v->Q v H')(p:Addr)(hp:H p=none):Q (.ref p) (upd H p (.tup vs)):=by
 obtain⟨E1,R1⟩:=R.laid (.tup vs) hp;exact q ι _ E1 R1 _ (by unfold Is;exact⟨p,vs,rfl,SqT.of Be,i.ext E1⟩)
theorem Ym:SlR X (rMS X.kw):=λpins s σ H x v vl vu lo hi sl Q I rx hs pl pu h=>by
 obtain⟨ι,μ,a,d,μ',R,ia,e,q⟩:=h;refine(SlR.or TU Vo) pins s σ H x v vl vu lo hi sl Q I rx hs pl pu ?_;unfold Q5 at e;split at e
 ·rename_i ds;unfold Is at ia;obtain⟨p,vs,rfl,h1,h2⟩:=ia;split at e
  ·cases e
  ·rename_i hc;cases e;exact .inr ⟨p,vs,rfl,h1,by rw[h2.length];exact hc,λp hp=>VF R (SW h2) q p hp⟩
 ·obtain⟨ds,μ1,e1,e2⟩:=AJ e;obtain⟨hm,p,vs,rfl,h1,h2⟩:=DM R ia e1;subst hm;cases e2;exact .inl ⟨p,vs,rfl,h1,λp hp=>Yq R (SW h2) q p hp⟩
noncomputable def mSl(me:Sl->M D)(ml mh:Sl->M (Option Int)):Sl->M D:=λτ=>bnd (me τ) λx=>bnd (ml τ) λl=>bnd (mh τ) λh=>Q5 l h x
noncomputable def Br:Sl->M (Option Int):=λ_=>ret none
noncomputable def asI:D->M (Option Int)
 | .int i=>ret (some i)
 |_=>Ba
noncomputable def Bz(m:Sl->M D):Sl->M (Option Int):=λτ=>bnd (m τ) asI
noncomputable def tPt(K:KW)(m:Sl->M (Option Int)):TO:=λσ H Q=>∃ι μ τ b μ',RelH K ι μ H/\RelS K ι μ.length H τ σ/\m τ μ=some (b,μ')/\Aft K ι μ H μ' λ_ H'=>Q b H'
structure RO(X:Cx)(e:Option Expr)(m:Sl->M (Option Int)):Prop where
 pe:PO X e (tPt X.kw m)
theorem PO.wk{e:Option Expr}{t t':TO}(h:PO X e t)(w:∀σ H Q,t' σ H Q->t σ H Q):PO X e t':=λpins s σ H Q I q=>h pins s σ H Q I (w σ H Q q)
theorem RO.wk{e:Option Expr}{m:Sl->M (Option Int)}{t:TO}(h:PO X e t)(w:∀σ H Q,tPt X.kw m σ H Q->t σ H Q):RO X e m:=⟨PO.wk h w⟩
theorem CF:RO X none Br:=RO.wk Tz λσ H Q h=>by
 obtain⟨ι,μ,τ,b,μ',R,S,e,q⟩:=h;cases e;exact q ι H R.ext0 R
theorem Bt{e:Expr}{m:Sl->M D}(h:RE X e m):RO X (some e) (Bz m):=RO.wk (Ty h.pe) λσ H Q h=>by
 obtain⟨ι,μ,τ,b,μ',R,S,e,q⟩:=h;obtain⟨x,μ1,e1,e⟩:=AJ e;refine⟨ι,μ,τ,x,μ1,R,S,e1,λι1 H1 E1 R1 v i1=>?_⟩;cases x with
 |int i=>cases e;exact⟨i,CD i1,q ι1 H1 E1 R1⟩
 |_=>cases e
theorem U9{e:Expr}{lo hi:Option Expr}{me:Sl->M D}{ml mh:Sl->M (Option Int)}{pos p2:Pos}(he:RE X e me)(hl:RO X lo ml)(hh:RO X hi mh):RE X (.Subscript e (.Slice lo hi none p2) pos) (mSl me ml mh):=RE.wk (Ls Ym he.pe hl.pe hh.pe) λσ H Q h=>by
 obtain⟨ι,μ,τ,z,μ',R,S,e,q⟩:=h;obtain⟨x,μ1,e1,e⟩:=AJ e;obtain⟨l,μ2,e2,e⟩:=AJ e;obtain⟨u,μ3,e3,e⟩:=AJ e;refine⟨ι,μ,τ,x,μ1,R,S,e1,λι1 H1 E1 R1 v i1=>⟨ι1,μ1,τ,l,μ2,R1,S.ext E1,e2,λι2 H2 E2 R2=>⟨ι2,μ2,τ,u,μ3,R2,S.ext (E1.trans E2),e3,λι3 H3 E3 R3=>?_⟩⟩⟩;have E23:=E2.trans E3;exact⟨ι3,μ3,x,z,μ',R3,i1.ext E23,e,λι4 H4 E4 R4=>q ι4 H4 ((E1.trans E23).trans E4) R4⟩
noncomputable def tyD(μ:Mh):D->Option String
 | .non=>some "NoneType"
 | .bl _=>some "bool"
 | .int _=>some "int"
 | .str _=>some "str"
 | .tup _=>some "tuple"
 | .lst _=>some "list"
 | .scr _=>none
 | .ref n=>match μ[n]? with
  |some (.lst _)=>some "list"
  |some (.dK _)=>some "dict"
  |some (.dC _)=>none
  |some (.ins _ _)=>none
  |some (.dP _)=>none
  |some (.exc _ _)=>none
  |none=>none
 | .ty _=>none
noncomputable def Js(t T:String):Option Bool:=
 if t∈["NoneType", "bool", "int", "str", "tuple", "list", "dict"]/\T∈["bool", "int", "str", "tuple", "list", "dict"] then some (t==T||(t == "bool" && T == "int")) else none
theorem Ua{K:KW}{t T:String}{b:Bool}(h:Js t T=some b):PySem.W.kitOne K (.type t) (.type T)=some b:=by
 unfold Js at h;split at h
 ·rename_i hm;obtain⟨h1,h2⟩:=hm;simp only[AAJ,List.not_mem_nil,or_false] at h1 h2;rcases h1 with rfl|rfl|rfl|rfl|rfl|rfl|rfl<;>rcases h2 with rfl|rfl|rfl|rfl|rfl|rfl<;>(cases h;kernel_rfl)
 ·cases h
noncomputable def F1:List D->M D
 |[a,.ty T]=>λμ=>match tyD μ a with
  |some t=>(Js t T).map λb=>(.bl b,μ)
  |none=>none
 |_=>Ba
theorem HJ:Cy X (.builtin "isinstance") (rMA X.kw F1):=λpins s σ H xs us Q I r h=>by
 obtain⟨ι,μ,as,d,μ',R,ia,e,q⟩:=h;unfold F1 at e;split at e
 ·rename_i a T;obtain⟨v,v',rfl,i1,i2⟩:=Uh ia;cases Y0 i2;split at e
  ·rename_i t ht;cases hk:Js t T with
   |none=>rw[hk] at e;cases e
   |some b=>
    rw[hk] at e;cases e;have kit:=Ua (K:=X.kw) hk;have fin:=q ι H R.ext0 R _ (ofB b);have byTy:Gu X.kw H v (.type t)->wpAny (model X.prog X.w) X.A (call (.builtin "isinstance") us) (EP X pins σ Q) X.xe s:=λty=>
     MS pins s σ H _ us Q I r ⟨v,T,_,b,rfl,ty,kit,fin⟩
    cases a with
    |non=>cases ht;cases NA i1;exact byTy .non
    |bl x=>cases ht;cases R7 i1;exact byTy (.bl x)
    |int x=>cases ht;cases CD i1;exact byTy (.int x)
    |str x=>cases ht;cases C9 i1;exact byTy (.str x)
    |ty n=>cases ht
    |lst ds=>cases ht;unfold Is at i1;obtain⟨p,vs,rfl,h1,_⟩:=i1;exact byTy (.lst h1)
    |scr ns=>cases ht
    |ref n=>
     unfold Is at i1;obtain⟨_,rfl⟩:=i1;have ht:(match μ[n]? with|some (.lst _)=>some "list" |some (.dK _)=>some "dict" |some (.dC _)=>none|some (.ins _ _)=>none|some (.dP _)=>none|some (.exc _ _)=>none|none=>none)=some t:=ht;split at ht
     ·rename_i ds hq;cases ht;obtain⟨u,h1,vs,rfl,h2⟩:=R.obj n _ hq;exact byTy (.lst h1)
     ·rename_i ds hq;cases ht;obtain⟨u,h1,vs,rfl,h2⟩:=R.obj n _ hq;exact byTy (.dK h1)
     ·cases ht
     ·cases ht
     ·cases ht
     ·cases ht
     ·cases ht
    |tup ds=>
     cases ht;unfold Is at i1;obtain⟨p,vs,rfl,h1,h2⟩:=i1;obtain⟨its,_,⟨o,g1,g2,_⟩,_⟩:=I.tuple h1;obtain⟨u1,u2,rfl,r1,r2⟩:=Vals.two r;cases r1;cases r2;exact PySem.W.kia_one PySem.W.kitx_tuple I.kIn ⟨o,g1,g2⟩ kit (λz=>nomatch z) λtk=>⟨.bl b,H,I.tok _,rfl,fin⟩
  ·cases e
 ·cases e
noncomputable def JA:List D->M D
 |[.int i]=>ret (.int i)
 |[.bl b]=>ret (.int (if b then 1 else 0))
 |_=>Ba
theorem Sc:Cy X (.type "int") (rMA X.kw JA):=λpins s σ H xs us Q I r h=>by
 obtain⟨ι,μ,as,d,μ',R,ia,e,q⟩:=h;refine Pv pins s σ H xs us Q I r ?_;unfold JA at e;split at e
 ·obtain⟨v,rfl,i1⟩:=Gg ia;cases e;cases CD i1;exact .inl ⟨_,rfl,q ι H R.ext0 R _ (ofI _)⟩
 ·obtain⟨v,rfl,i1⟩:=Gg ia;cases e;cases R7 i1;exact .inr ⟨_,rfl,q ι H R.ext0 R _ (ofI _)⟩
 ·cases e
noncomputable def UN:List D->M D
 |[.int i,.int j]=>ret (.int (if j > i then j else i))
 |_=>Ba
noncomputable def PB:List D->M D
 |[.int i,.int j]=>ret (.int (if j<i then j else i))
 |_=>Ba
theorem ZF(hc:X.calm=true):Cy X (.builtin "max") (rMA X.kw UN):=λpins s σ H xs us Q I r h=>by
 obtain⟨ι,μ,as,d,μ',R,ia,e,q⟩:=h;refine Pr hc pins s σ H xs us Q I r ?_;unfold UN at e;split at e
 ·obtain⟨v,w,rfl,i1,i2⟩:=Uh ia;cases e;cases CD i1;cases CD i2;exact⟨_,_,rfl,q ι H R.ext0 R _ (ofI _)⟩
 ·cases e
theorem VP(hc:X.calm=true):Cy X (.builtin "min") (rMA X.kw PB):=λpins s σ H xs us Q I r h=>by
 obtain⟨ι,μ,as,d,μ',R,ia,e,q⟩:=h;refine Pq hc pins s σ H xs us Q I r ?_;unfold PB at e;split at e
 ·obtain⟨v,w,rfl,i1,i2⟩:=Uh ia;cases e;cases CD i1;cases CD i2;exact⟨_,_,rfl,q ι H R.ext0 R _ (ofI _)⟩
 ·cases e
noncomputable def DH:List D->M D
 |[.tup ds]=>ret (.tup ds)
 |[d]=>bnd (CW d) λds=>ret (.tup ds)
 |_=>Ba
theorem Fs:Cy X (.type "tuple") (rMA X.kw DH):=λpins s σ H xs us Q I r h=>by
 obtain⟨ι,μ,as,d,μ',R,ia,e,q⟩:=h;unfold DH at e;split at e
 ·obtain⟨v,rfl,i1⟩:=Gg ia;cases e;have i2:=i1;unfold Is at i1;obtain⟨p,vs,rfl,h1,h2⟩:=i1;exact MR pins s σ H _ us Q I r ⟨p,vs,rfl,h1,q ι H R.ext0 R _ i2⟩
 ·obtain⟨v,rfl,i1⟩:=Gg ia;obtain⟨ds,μ1,e1,e2⟩:=AJ e;obtain⟨hm,p,vs,rfl,h1,h2⟩:=DM R i1 e1;subst hm;cases e2;obtain⟨u,rfl,ru⟩:=Vals.one r;cases ru;obtain⟨its,rv,pl,hz⟩:=I.list h1;refine PySem.call_tuple_list pl.isList (λh' hk=>?_) (by rw[List.size_toArray,←rv.length];exact hz);have I1:Inv X pins σ H { s with heap:=h' }:=I.kept (t':=s.toks) hk;have I2:Inv X pins σ (upd H h'.objs.size (.tup vs)) { s with heap:=h'.push { cls:=.type "tuple",data:=.seq its.toArray } }:=I1.laid (t':=s.toks) (o:=.tup vs) (λb ob q=>AAC _ q) (AAF _) ⟨hz,its,rv,PyProof.Rows.IsTup.new _ _⟩;exact⟨.ref h'.objs.size,_,I2,rfl,VF R h2 q _ (I1.hok.fresh (AAF _))⟩
 ·cases e
end
section
variable{X:Cx}{e a b c o i f tg:Expr}{es:List Expr}{pos apos cpos:Pos}
theorem Qh{K:KW}{g g':D->D->M D}{ma mb mc:Sl->M D}{σ:St}{H:Hp}{Q:VK}(h:tE K (D6 g g' ma mb mc) σ H Q):Qi (rM K g) (rM K g') (tE K ma) (tE K mb) (tE K mc) σ H Q:=by
 obtain⟨ι,μ,τ,d,μ',R,S,e,q⟩:=h;obtain⟨x,μ1,e1,ee1⟩:=AJ e;obtain⟨y,μ2,e2,ee2⟩:=AJ ee1;obtain⟨z,μ3,e3,ee3⟩:=AJ ee2;obtain⟨k,μ4,e4,ee4⟩:=AJ ee3;obtain⟨hz,hm⟩:=Gr e4;subst hm;subst hz;refine⟨ι,μ,τ,x,μ1,R,S,e1,λι1 H1 E1 R1 v1 i1=>⟨ι1,μ1,τ,y,μ2,R1,S.ext E1,e2,λι2 H2 E2 R2 v2 i2=>?_⟩⟩;refine⟨ι2,μ2,x,y,_,_,R2,i1.ext E2,i2,e3,λι3 H3 E3 R3 v3 i3=>⟨k,R7 i3,?_⟩⟩;have E13:=(E1.trans E2).trans E3;cases k with
 |false=>cases ee4;exact q ι3 H3 E13 R3 _ (ofB _)
 |true=>
  obtain⟨w,μ5,e5,ee5⟩:=AJ ee4;exact⟨ι3,_,τ,w,μ5,R3,S.ext E13,e5,λι4 H4 E4 R4 v4 i4=>⟨ι4,μ5,y,w,d,μ',R4,i2.ext (E3.trans E4),i4,ee5,λι5 H5 E5 R5=>q ι5 H5 ((E13.trans E4).trans E5) R5⟩⟩
theorem IX{op op':CmpOp}{g g':D->D->M D}{ma mb mc:Sl->M D}(ho:OpR X (compareOp op) (rM X.kw g))(ho':OpR X (compareOp op') (rM X.kw g'))(ha:RE X a ma)(hb:RE X b mb)(hc:RE X c mc)(hm:lastMarks [op,op'] [b,c]=false:=by with_unfolding_all rfl):
  RE X (.Compare a [op,op'] [b,c] pos) (D6 g g' ma mb mc):=RE.wk (RU ho ho' ha.pe hb.pe hc.pe hm) λ_ _ _ h=>Qh h
theorem E7{x:Str}{n:String}(hm:X.mg x=none)(hv:bootBuiltins x=some (.type n))(hg:Gl X x:=by rfl)(hn:x ≠ "__name__" := by decide)(hdb:(x==("__debug__" : Str))=false:=by decide):RE X (.Name x pos) (mC (.ty n)):=
 Os (t:=λ_ _ _=>True) (T6 (v:=.ty n) hg hm hv rfl hn hdb) λ_ _ _=>by unfold Is;rfl
noncomputable def ET(d:D):M Unit:=bnd (CW d) λ_=>ret ()
noncomputable def Ch(g:D->List D->M D)(mo:Sl->M D)(ma:Sl->M (List D)):Sl->M D:=λτ=>bnd (mo τ) λx=>bnd (ET x) λ_=>bnd (ma τ) λxs=>g x xs
noncomputable def rMM(K:KW)(g:D->List D->M D):V->List V->Hp->VK->Prop:=λx xs H Q=>∃ι μ a as d μ',RelH K ι μ H/\Is K ι μ.length H a x/\IsL K ι μ.length H as xs/\g a as μ=some (d,μ') /\
 Aft K ι μ H μ' λι' H'=>∀v,Is K ι' μ'.length H' d v->Q v H'
theorem MI{K:KW}{ι:Nat->Addr}{μ μ':Mh}{H:Hp}{d:D}{v:V}{u:Unit}(R:RelH K ι μ H)(i:Is K ι μ.length H d v)(e:ET d μ=some (u,μ')):μ'=μ/\tyV K "list" v H:=by
 obtain⟨ds,μ1,e1,ee1⟩:=AJ e;cases ee1;obtain⟨hm,p,vs,rfl,h1,h2⟩:=DM R i e1;exact⟨hm,.inl ⟨rfl,vs,h1⟩⟩
theorem Pa{μ μ':Mh}{d:D}{u:Unit}(e:ET d μ=some (u,μ')):μ'=μ:=by
 obtain⟨ds,μ1,e1,ee1⟩:=AJ e;cases ee1;cases d with
 |lst _=>cases e1;rfl
 |scr _=>cases e1;rfl
 |ref n=>
  have e1:(match μ[n]? with|some (.lst ds)=>some (ds,μ)|_=>none)=some (ds,μ'):=e1;split at e1
  ·cases e1;rfl
  ·cases e1
 |_=>cases e1
theorem Qe{K:KW}{g:D->List D->M D}{mo:Sl->M D}{ma:Sl->M (List D)}{σ:St}{H:Hp}{Q:VK}(h:tE K (Ch g mo ma) σ H Q):tBM K "list" (rMM K g) (tE K mo) (tL K ma) σ H Q:=by
 obtain⟨ι,μ,τ,d,μ',R,S,e,q⟩:=h;obtain⟨x,μ1,e1,ee1⟩:=AJ e;obtain⟨u,μ2,e2,ee2⟩:=AJ ee1;obtain⟨as,μ3,e3,ee3⟩:=AJ ee2;have hm:=Pa e2;subst hm;refine⟨ι,μ,τ,x,_,R,S,e1,λι1 H1 E1 R1 v1 i1=>⟨(MI R1 i1 e2).2,?_⟩⟩;refine⟨ι1,_,τ,as,μ3,R1,S.ext E1,e3,λι2 H2 E2 R2 vs i2=>?_⟩;exact⟨ι2,μ3,x,as,d,μ',R2,i1.ext E2,i2,ee3,λι3 H3 E3 R3=>q ι3 H3 ((E1.trans E2).trans E3) R3⟩
theorem Dy{name:Str}{id:String}{g:D->List D->M D}{mo:Sl->M D}{ma:Sl->M (List D)}(slot:Slot "list" name id)(hty:typeOf (.builtin id)=pure (.type "method_descriptor"))(hm:MtR X id (rMM X.kw g))(ho:RE X o mo)(ha:RA X (e::es) ma)
  (hbase:attributeBase o name X.env (eval o X.env)=eval o X.env:=by rfl)
  (hfew:((backTo cpos (starEach (e::es) X.env)).all (λx=>!x.1)&&(backToKw cpos (keywordEach [] X.env)).all (λx=>x.1.isSome)
   && decide ((e::es).length+([]:List Keyword).length+(if ([]:List Keyword).isEmpty then 0 else 1)<30))=true:=by rfl)
  (hline:(apos.endLine==cpos.line)=true:=by rfl) (hs:starEach (e::es) X.env=(false,eval e X.env)::starEach es X.env:=by exact A6 rfl) (hplain:(backTo cpos (starEach es X.env)).any (·.1)=false:=by exact BJ rfl) :
  RE X (.Call (.Attribute o name apos) (e::es) [] cpos) (Ch g mo ma):=RE.wk (Yb PySem.F.plainAttrs_list slot hty hm ho.pe ha.pe hbase hfew hline hs hplain) λ_ _ _ h=>Qe h
noncomputable def IL(n:Nat)(k:List D->Option (D×List D)):M D:=λμ=>match μ[n]? with
 |some (.lst ds)=>(k ds).map λr=>(r.1,μ.set n (.lst r.2))
 |_=>none
theorem Jg{n:Nat}{k:List D->Option (D×List D)}{μ μ':Mh}{d:D}(e:IL n k μ=some (d,μ')):∃ds es,μ[n]?=some (.lst ds)/\k ds=some (d,es)/\μ'=μ.set n (.lst es):=by
 unfold IL at e;split at e
 ·rename_i ds hq;cases hk:k ds with
  |none=>rw[hk] at e;cases e
  |some r=>rw[hk] at e;cases e;exact⟨ds,r.2,hq,hk,rfl⟩
 ·cases e
theorem Nd{K:KW}{ι:Nat->Addr}{μ:Mh}{H:Hp}{n:Nat}{d:D}{es:List D}{ws:List V}{v:V}{Q:VK}{ds:List D}(R:RelH K ι μ H)(hn:μ[n]?=some (.lst ds))(iw:IsL K ι μ.length H es ws)(iv:Is K ι μ.length H d v)
  (q:Aft K ι μ H (μ.set n (.lst es)) λι' H'=>∀v,Is K ι' (μ.set n (.lst es)).length H' d v->Q v H'):Q v (upd H (ι n) (.lst ws)):=by
 have hlt:n<μ.length:=(AAU.mp hn).1;obtain⟨E1,R1⟩:=R.changed (m:=.lst es) (o:=.lst ws) hlt ⟨ws,rfl,iw⟩;exact q ι _ E1 R1 v (iv.ext E1)
noncomputable def HM:D->List D->M D
 | .ref n,[d]=>IL n λds=>if ds.length<sizeLine then some (.non,ds++[d]) else none
 |_,_=>Ba
theorem FY:MtR X "list.append" (rMM X.kw HM):=λpins s σ H x xs v us Q I rx rs h=>by
 obtain⟨ι,μ,a,as,d,μ',R,ia,ib,e,q⟩:=h;unfold HM at e;split at e
 ·rename_i n y;obtain⟨ds,es,h1,h2,rfl⟩:=Jg e;split at h2
  ·rename_i hl;cases h2;obtain⟨w,rfl,iw⟩:=Gg ib;unfold Is at ia;obtain⟨_,rfl⟩:=ia;obtain⟨u,g1,vs,rfl,g2⟩:=R.obj n _ h1;exact O9 pins s σ H _ _ v us Q I rx rs ⟨_,vs,w,rfl,rfl,g1,by rw[g2.length];exact hl,Nd R h1 (g2.append (.one iw)) ofN q⟩
  ·cases h2
 ·cases e
noncomputable def SJ:D->List D->M D
 | .ref n,[.lst zs]=>IL n λds=>if ds.length+zs.length<=sizeLine then some (.non,ds++zs) else none
 |_,_=>Ba
theorem L4:MtR X "list.extend" (rMM X.kw SJ):=λpins s σ H x xs v us Q I rx rs h=>by
 obtain⟨ι,μ,a,as,d,μ',R,ia,ib,e,q⟩:=h;unfold SJ at e;split at e
 ·rename_i n zs;obtain⟨ds,es,h1,h2,rfl⟩:=Jg e;split at h2
  ·rename_i hl;cases h2;obtain⟨w,rfl,iw⟩:=Gg ib;unfold Is at ia iw;obtain⟨_,rfl⟩:=ia;obtain⟨p,ws,rfl,k1,_,k2⟩:=iw;obtain⟨u,g1,vs,rfl,g2⟩:=R.obj n _ h1;exact O8 pins s σ H _ _ v us Q I rx rs ⟨_,p,vs,ws,rfl,rfl,g1,k1,by rw[g2.length,k2.length];exact hl,Nd R h1 (g2.append k2) ofN q⟩
  ·cases h2
 ·cases e
noncomputable def Z2:D->List D->M D
 | .ref n,[.int i,d]=>IL n λds=>if 0<=i/\i<2 ^ 62/\ds.length<sizeLine then some (.non,ds.take i.toNat++d::ds.drop i.toNat) else none
 |_,_=>Ba
noncomputable def Qm:D->D->D->M Unit
 | .ref n,.int k,d=>λμ=>match μ[n]? with
  |some (.lst ds)=>(ixN ds.length k).map λj=>((),μ.set n (.lst (ds.set j d)))
  |_=>none
 |_,_,_=>Ba
noncomputable def Sj(mo mi:Sl->M D):D->Sl->M Sl:=λd τ=>bnd (mo τ) λx=>bnd (mi τ) λy=>bnd (Qm x y d) λ_=>ret τ
theorem Om{x y d:D}{μ μ':Mh}{u:Unit}(e:Qm x y d μ=some (u,μ')):∃n k ds j,x=.ref n/\y=.int k/\μ[n]?=some (.lst ds)/\ixN ds.length k=some j/\μ'=μ.set n (.lst (ds.set j d)):=by
 unfold Qm at e;split at e
 ·rename_i n k;split at e
  ·rename_i ds hq;cases hk:ixN ds.length k with
   |none=>rw[hk] at e;cases e
   |some j=>rw[hk] at e;cases e;exact⟨n,k,ds,j,rfl,rfl,hq,hk,rfl⟩
  ·cases e
 ·cases e
theorem Qw{mo mi:Sl->M D}(ho:RE X o mo)(hi:RE X i mi)
  (ha:∀v,assign (.Subscript o i pos) X.env v=(do
   let ov ←holding [v] (eval o X.env)
   let iv ←holding [v,ov] (eval i X.env)
   standAt pos
   holding [v,ov,iv] (setItem ov iv v)
   release [v,ov,iv] []):=by intro _;rfl):RG X (.Subscript o i pos) (Sj mo mi):=RG.wk (WN ho.pe hi.pe Ql ha) λv σ H Q h=>by
 obtain⟨ι,μ,τ,d,τ',μ',R,S,i1,e,q⟩:=h;obtain⟨x,μ1,e1,ee1⟩:=AJ e;obtain⟨y,μ2,e2,ee2⟩:=AJ ee1;obtain⟨u,μ3,e3,ee3⟩:=AJ ee2;cases ee3;refine⟨ι,μ,_,x,μ1,R,S,e1,λι1 H1 E1 R1 v1 j1=>⟨ι1,μ1,_,y,μ2,R1,S.ext E1,e2,λι2 H2 E2 R2 v2 j2=>?_⟩⟩;obtain⟨n,k,ds,j,rfl,rfl,g1,g2,rfl⟩:=Om e3;have E12:=E1.trans E2;have j1':=j1.ext E2;unfold Is at j1';obtain⟨hlt,rfl⟩:=j1';cases CD j2;obtain⟨w,k1,vs,rfl,k2⟩:=R2.obj n _ g1;obtain⟨E3,R3⟩:=R2.changed (m:=.lst (ds.set j d)) (o:=.lst (vs.set j v)) hlt ⟨_,rfl,k2.set (i1.ext E12) j⟩;exact⟨_,vs,k,j,rfl,rfl,k1,by rw[k2.length];exact g2,q ι2 _ (E12.trans E3) R3 σ (S.ext (E12.trans E3))⟩
noncomputable def MB:D->Option Key
 | .int i=>some (.inl i)
 | .str x=>some (.inr x)
 |_=>none
noncomputable def EW:D->M (Nat×List (Key×D))
 | .ref n=>λμ=>match μ[n]? with
  |some (.dK l)=>some ((n,l),μ)
  |_=>none
 |_=>Ba
noncomputable def Bv(l:List (Key×D))(k:Key):Option D:=(l.find? λkv=>decide (kv.1=k)).map (·.2)
noncomputable def Lr(l:List (Key×D))(k:Key)(d:D):List (Key×D):=
 if (l.any λkv=>decide (kv.1=k))=true then l.map (λkv=>if kv.1=k then (kv.1,d) else kv) else l++[(k,d)]
noncomputable def Wu:Sl->M D:=λ_ μ=>some (.ref μ.length,μ++[.dK []])
theorem Tg:RE X (.Dict [] [] pos) Wu:=RE.wk RM λσ H Q h=>by
 obtain⟨ι,μ,τ,d,μ',R,S,e,q⟩:=h;cases e;intro p hp;obtain⟨ι',E1,R1,e0⟩:=R.grown (m:=.dK []) (o:=.dK []) hp ⟨[],rfl,rfl⟩;exact q ι' _ E1 R1 _ (by unfold Is;exact⟨by simp,by rw[e0]⟩)
section
variable{K:KW}{ι:Nat->Addr}{k:Nat}{H:Hp}
theorem KVs.val:∀{l:List (Key×D)} {r:List (Key×V)} (y:Key),KVs K ι k H l r->(Bv l y=none/\FQ r y=none)∨∃d v,Bv l y=some d/\FQ r y=some v/\Is K ι k H d v
 |[],_,y,h=>by cases h;exact .inl ⟨rfl,rfl⟩
 |(z,d)::l,_,y,h=>by
  obtain⟨v,r',rfl,h1,h2⟩:=h;by_cases hz:z=y
  ·subst hz;exact .inr ⟨d,v,by simp[Bv],by simp[FQ],h1⟩
  ·have:=KVs.val y h2;simpa[Bv,FQ,List.find?_cons,hz] using this
theorem KVs.any:∀{l:List (Key×D)} {r:List (Key×V)} (y:Key),KVs K ι k H l r->(l.any λkv=>decide (kv.1=y))=(r.any λkv=>decide (kv.1=y))
 |[],_,y,h=>by cases h;rfl
 |(z,d)::l,_,y,h=>by
  obtain⟨v,r',rfl,h1,h2⟩:=h;rw[List.any_cons,List.any_cons,KVs.any y h2]
theorem KVs.length:∀{l:List (Key×D)} {r:List (Key×V)},KVs K ι k H l r->r.length=l.length
 |[],_,h=>by cases h;rfl
 |(z,d)::l,_,h=>by
  obtain⟨v,r',rfl,h1,h2⟩:=h;rw[AAI,AAI,KVs.length h2]
theorem KVs.app:∀{l:List (Key×D)} {r:List (Key×V)} {y:Key} {d:D} {v:V},KVs K ι k H l r->Is K ι k H d v->KVs K ι k H (l++[(y,d)]) (r++[(y,v)])
 |[],_,y,d,v,h,h1=>by cases h;exact⟨v,[],rfl,h1,rfl⟩
 |(z,e)::l,_,y,d,v,h,h1=>by
  obtain⟨w,r',rfl,h2,h3⟩:=h;exact⟨w,_,rfl,h2,KVs.app h3 h1⟩
theorem KVs.mapPut:∀{l:List (Key×D)} {r:List (Key×V)} {y:Key} {d:D} {v:V},KVs K ι k H l r->Is K ι k H d v->KVs K ι k H (l.map λkv=>if kv.1=y then (kv.1,d) else kv) (r.map λkv=>if kv.1=y then (kv.1,v) else kv)
 |[],_,y,d,v,h,h1=>by cases h;rfl
 |(z,e)::l,_,y,d,v,h,h1=>by
  obtain⟨w,r',rfl,h2,h3⟩:=h;rw[AAX,AAX];by_cases hz:z=y
  ·subst hz;simp only[if_true];exact⟨v,_,rfl,h1,KVs.mapPut h3 h1⟩
  ·simp only[hz,if_false];exact⟨w,_,rfl,h2,KVs.mapPut h3 h1⟩
theorem KVs.put{l:List (Key×D)}{r:List (Key×V)}{y:Key}{d:D}{v:V}(h:KVs K ι k H l r)(h1:Is K ι k H d v):KVs K ι k H (Lr l y d) (GY r y v):=by
 unfold Lr GY;rw[h.any y];split
 ·exact h.mapPut h1
 ·exact h.app h1
theorem Kv{d:D}{y:Key}{v:V}(h:Is K ι k H d v)(e:MB d=some y):v=kV y:=by
 cases d with
 |int i=>cases e;unfold Is at h;exact h
 |str i=>cases e;unfold Is at h;exact h
 |_=>cases e
theorem EM{μ μ':Mh}{d:D}{v:V}{r:Nat×List (Key×D)}(R:RelH K ι μ H)(i:Is K ι μ.length H d v)(e:EW d μ=some (r,μ')):μ'=μ/\d=.ref r.1/\μ[r.1]?=some (.dK r.2)/\v=.ref (ι r.1)/\∃kvs,H (ι r.1)=some (.dK kvs)/\KVs K ι μ.length H r.2 kvs:=by
 cases d with
 |ref n=>
  have e:(match μ[n]? with|some (.dK l)=>some ((n,l),μ)|_=>none)=some (r,μ'):=e;split at e
  ·rename_i l hq;cases e;unfold Is at i;obtain⟨u,h1,kvs,rfl,h2⟩:=R.obj n _ hq;exact⟨rfl,rfl,hq,i.2,kvs,h1,h2⟩
  ·cases e
 |_=>cases e
end
noncomputable def SU(d y:D):M D:=bnd (EW d) λr=>λμ=>(MB y).map λk=>((Bv r.2 k).getD .non,μ)
noncomputable def K2(d:D):M Unit:=bnd (EW d) λ_=>ret ()
noncomputable def Ko(mo mi:Sl->M D):Sl->M D:=λτ=>bnd (mo τ) λx=>bnd (K2 x) λ_=>bnd (mi τ) λy=>SU x y
theorem Pb{μ μ':Mh}{d:D}{u:Unit}(e:K2 d μ=some (u,μ')):μ'=μ/\∃r,EW d μ=some (r,μ):=by
 obtain⟨r,μ1,e1,ee1⟩:=AJ e;cases ee1;cases d with
 |ref n=>
  have e2:(match μ[n]? with|some (.dK l)=>some ((n,l),μ)|_=>none)=some (r,μ'):=e1;split at e2
  ·cases e2;exact⟨rfl,_,e1⟩
  ·cases e2
 |_=>cases e1
theorem Q0{mo mi:Sl->M D}{k:Nat}(hr:Room k X.A)(ho:RE X o mo)(hi:RE X e mi)(m:M1 X o "get" apos e cpos:=by exact⟨rfl,rfl,rfl,rfl⟩):RE X (.Call (.Attribute o "get" apos) [e] [] cpos) (Ko mo mi):=RE.wk (RN (SF hr) ho.pe hi.pe m) λσ H Q h=>by
 obtain⟨ι,μ,τ,d,μ',R,S,e,q⟩:=h;obtain⟨x,μ1,e1,ee1⟩:=AJ e;obtain⟨u,μ4,e4,ee2⟩:=AJ ee1;obtain⟨y,μ2,e2,ee3⟩:=AJ ee2;obtain⟨r,μ3,e3,ee4⟩:=AJ ee3;obtain⟨hm,r0,e5⟩:=Pb e4;subst hm;refine⟨ι,μ,τ,x,_,R,S,e1,λι1 H1 E1 R1 v1 i1=>?_⟩;obtain⟨_,_,_,rfl,kvs0,g0,_⟩:=EM R1 i1 e5;refine⟨_,rfl,.inl ⟨kvs0,.inl g0⟩,ι1,_,τ,y,μ2,R1,S.ext E1,e2,λι2 H2 E2 R2 v2 i2=>?_⟩;obtain⟨hm,hx,g1,hv,kvs,g2,g3⟩:=EM R2 (i1.ext E2) e3;subst hm;cases hk:MB y with
 |none=>rw[hk] at ee4;cases ee4
 |some ky=>
  rw[hk] at ee4;cases ee4;cases Kv i2 hk;have hv':ι1 r0.1=ι2 r.1:=V.ref.inj hv;rw[hv'];refine⟨FQ kvs ky,DGet.k g2,?_⟩;rcases g3.val ky with ⟨z1,z2⟩|⟨dd,vv,z1,z2,z3⟩
  ·rw[z2];rw[z1] at q;exact q ι2 H2 (E1.trans E2) R2 _ ofN
  ·rw[z2];rw[z1] at q;exact q ι2 H2 (E1.trans E2) R2 vv z3
noncomputable def STq(neg:Bool)(y d:D):M D:=bnd (EW d) λr=>λμ=>(MB y).map λk=>(.bl (if neg then !(Bv r.2 k).isSome else (Bv r.2 k).isSome),μ)
theorem Vl{K:KW}{mi mo:Sl->M D}{σ:St}{H:Hp}{Q:VK}(h:tE K (mOp (STq false) mi mo) σ H Q):YD (tE K mi) (tE K mo) σ H Q:=by
 obtain⟨ι,μ,τ,d,μ',R,S,e,q⟩:=h;obtain⟨y,μ1,e1,ee1⟩:=AJ e;obtain⟨x,μ2,e2,ee2⟩:=AJ ee1;obtain⟨r,μ3,e3,ee3⟩:=AJ ee2;refine⟨ι,μ,τ,y,μ1,R,S,e1,λι1 H1 E1 R1 v1 i1=>⟨ι1,μ1,τ,x,μ2,R1,S.ext E1,e2,λι2 H2 E2 R2 v2 i2=>?_⟩⟩;obtain⟨hm,_,g1,rfl,kvs,g2,g3⟩:=EM R2 i2 e3;subst hm;cases hk:MB y with
 |none=>rw[hk] at ee3;cases ee3
 |some ky=>
  rw[hk] at ee3;cases ee3;cases Kv (i1.ext E2) hk;refine⟨_,FQ kvs ky,rfl,DGet.k g2,?_⟩;rcases g3.val ky with ⟨z1,z2⟩|⟨dd,vv,z1,z2,z3⟩
  ·rw[z2];rw[z1] at q;exact q ι2 H2 (E1.trans E2) R2 _ (ofB _)
  ·rw[z2];rw[z1] at q;exact q ι2 H2 (E1.trans E2) R2 _ (ofB _)
theorem V7{mo mi:Sl->M D}{k:Nat}(hr:Room k X.A)(hi:RE X i mi)(ho:RE X o mo)(h1:behindInMarks .In o=false:=by first|exact nobehind _ (by decide) (by decide)|rfl):RE X (.Compare i [.In] [o] pos) (mOp (STq false) mi mo):=RE.wk (RQ (WY (SF hr) hi.pe ho.pe) h1) λ_ _ _ h=>Vl h
noncomputable def Lh(mo mi mv:Sl->M D):Sl->M (Fl×Sl):=λτ=>bnd (mv τ) λv=>bnd (mo τ) λx=>bnd (mi τ) λy=>bnd (EW x) λr=>λμ=>match MB y with
 |some k=>if r.2.length<sizeLine then some ((.next,τ),μ.set r.1 (.dK (Lr r.2 k v))) else none
 |none=>none
theorem TZ{value:Expr}{pos':Pos}{mo mi mv:Sl->M D}{k:Nat}(hr:Room k X.A)(ho:RE X o mo)(hi:RE X i mi)(hv:RE X value mv)(hs:swapsWith value (some (.Subscript o i pos')) pos.line X.env=pure false:=by rfl):RS X (.Assign [.Subscript o i pos'] value pos) (Lh mo mi mv):=RS.wk (Tx (SF hr) ho.pe hi.pe hv.pe hs) λDn σ H h=>by
 obtain⟨ι,μ,τ,f,τ',μ',R,S,e,q⟩:=h;obtain⟨v,μ1,e1,ee1⟩:=AJ e;obtain⟨x,μ2,e2,ee2⟩:=AJ ee1;obtain⟨y,μ3,e3,ee3⟩:=AJ ee2;obtain⟨r,μ4,e4,ee4⟩:=AJ ee3;refine⟨ι,μ,τ,v,μ1,R,S,e1,λι1 H1 E1 R1 v1 i1=>⟨ι1,μ1,τ,x,μ2,R1,S.ext E1,e2,λι2 H2 E2 R2 v2 i2=>⟨ι2,μ2,τ,y,μ3,R2,S.ext (E1.trans E2),e3,λι3 H3 E3 R3 v3 i3=>?_⟩⟩⟩;obtain⟨hm,hx,g1,hv2,kvs,g2,g3⟩:=EM R3 (i2.ext E3) e4;subst hm;have E13:=(E1.trans E2).trans E3;cases hk:MB y with
 |none=>rw[hk] at ee4;cases ee4
 |some ky=>
  rw[hk] at ee4;have ee4:(if r.2.length<sizeLine then some ((Fl.next,τ),List.set μ4 r.1 (MO.dK (Lr r.2 ky v))) else none)=some ((f,τ'),μ'):=ee4;split at ee4
  ·rename_i hl;cases ee4;cases Kv i3 hk;have hlt:r.1<List.length μ4:=(AAU.mp g1).1;obtain⟨E4,R4⟩:=R3.changed (m:=.dK (Lr r.2 ky v)) (o:=.dK (GY kvs ky v1)) hlt ⟨_,rfl,g3.put (i1.ext (E2.trans E3))⟩;exact⟨_,_,hv2,DPut.k g2 (by rw[g3.length];exact hl),q ι3 _ (E13.trans E4) R4 σ (S.ext (E13.trans E4))⟩
  ·cases ee4
noncomputable def ZI:D->M (List D)
 | .str x=>ret (x.cps.toList.map λc=>.str ⟨#[c]⟩)
 |_=>Ba
noncomputable def Rm(m:Sl->M D):Sl->M (List D):=λτ=>bnd (m τ) ZI
theorem Uf{K:KW}{ι:Nat->Addr}{μ:Mh}{H:Hp}{x:Str}:ItM K (Its x) (x.cps.toList.map λc=>.str ⟨#[c]⟩) ι μ H:=by
 intro ι' μ' H' E R;have hl:(x.cps.toList.map λc=>D.str ⟨#[c]⟩).length=x.cps.size:=by simp
 rw[hl];refine⟨λj hj=>hj,rfl,λj v H2 d hd y=>?_⟩;obtain⟨e,c,hc,y⟩:=y;subst e;rw[AAW,Array.getElem?_toList,hc] at hd;cases hd;exact⟨R.ext0,R,by unfold Is;exact y⟩
theorem V1{m:Sl->M D}(h:RE X e m):RI X tg e (Rm m):=RI.wk (WM h.pe) λσ H R q=>by
 obtain⟨ι,μ,τ,ds,μ',R0,S,e,q⟩:=q;obtain⟨x,μ1,e1,ee1⟩:=AJ e;refine⟨ι,μ,τ,x,μ1,R0,S,e1,λι1 H1 E1 R1 v i1=>?_⟩;cases x with
 |str x=>cases ee1;exact⟨x,C9 i1,q ι1 H1 E1 R1 _ Uf⟩
 |_=>cases ee1
noncomputable def D9:Nat->List D->List D
 |_,[]=>[]
 |k,d::ds=>.tup [.int k,d]::D9 (k+1) ds
theorem J2:∀(k:Nat) (ds:List D),(D9 k ds).length=ds.length
 |_,[]=>rfl
 |k,_::ds=>by unfold D9;simp[J2 (k+1) ds]
theorem J3:∀(k:Nat) (ds:List D) (j:Nat),(D9 k ds)[j]?=(ds[j]?).map λd=>.tup [.int ((k+j:Nat):Int),d]
 |_,[],j=>by simp[D9]
 |k,d::ds,0=>by simp[D9]
 |k,d::ds,j+1=>by
  unfold D9;rw[List.getElem?_cons_succ,List.getElem?_cons_succ,J3 (k+1) ds j];have:k+1+j=k+(j+1):=by omega
  rw[this]
noncomputable def OK:List D->M (List D)
 |[.lst ds]=>ret ds
 |[.scr ns]=>ret (ns.map D.int)
 |_=>Ba
noncomputable def L7(m:Sl->M (List D)):Sl->M (List D):=λτ=>bnd (m τ) λas=>bnd (OK as) λds=>ret (D9 0 ds)
theorem Iy{K:KW}{ι:Nat->Addr}{μ:Mh}{H:Hp}{vs:List V}{ds:List D}{Cond:PySem.W.Frag->Hp->Prop}(st:∀ι' (μ':Mh) H',Ext ι μ.length H ι' μ'.length H'->RelH K ι' μ' H'->Cond K H')(i:IsL K ι μ.length H ds vs):
  ItM K (ItP K vs.length (Fb vs) Cond) (D9 0 ds) ι μ H:=by
 intro ι' μ' H' E R;have h:=st ι' μ' H' E R;rw[J2,←i.length];refine⟨λj hj=>⟨hj,h⟩,⟨rfl,h⟩,λj x H2 d hd y=>?_⟩;obtain⟨T,hT,rfl,rfl⟩:=y;obtain⟨E2,R2⟩:=R.laid (.tup (Fb vs j)) hT;refine⟨E2,R2,?_⟩;rw[J3] at hd;cases q:ds[j]? with
 |none=>rw[q] at hd;cases hd
 |some d0=>
  rw[q] at hd;cases hd;obtain⟨w,ew,iw⟩:=(i.ext E).get q;have e0:vs.getD j V.non=w:=by simp[List.getD,ew]
  have es:Fb vs j=[.int j,w]:=by unfold Fb;rw[e0]
  have key:IsL K ι' (List.length μ') (upd H' T (.tup (Fb vs j))) [.int ((0+j:Nat):Int),d0] [.int j,w]:=.cons (by unfold Is;simp) (.one (iw.ext E2));unfold Is;exact⟨T,_,rfl,SqT.of Be,(congrArg (IsL K ι' (List.length μ') (upd H' T (.tup (Fb vs j))) [.int ((0+j:Nat):Int),d0]) es).mpr key⟩
theorem Qu{p tpos:Pos}{k0:Nat}{m:Sl->M (List D)}(hm:X.mg "enumerate" = none)(ha:RA X [a] m)(hg:Gl X "enumerate" := by rfl)(hs:starEach [a] X.env=[(false,eval a X.env)]:=by rfl):RI X (.Tuple es k0 tpos) (.Call (.Name "enumerate" p) [a] [] pos) (L7 m):=
 RI.wk (RD hg hm ha.pe hs) λσ H R q=>by
  obtain⟨ι,μ,τ,ds,μ',R0,S,e,q⟩:=q;obtain⟨xs,μ1,e1,ee1⟩:=AJ e;obtain⟨zs,μ2,e2,ee2⟩:=AJ ee1;cases ee2;refine⟨ι,μ,τ,xs,μ1,R0,S,e1,λι1 H1 E1 R1 vs i1=>?_⟩;unfold OK at e2;split at e2
  ·cases e2;obtain⟨v,rfl,i2⟩:=Gg i1;unfold Is at i2;obtain⟨p,ws,rfl,h1,hn,h2⟩:=i2;exact⟨p,ws,rfl,SqL.of h1,q ι1 H1 E1 R1 _ (Iy (λι' μ' H' E _=>SqL.of (E.keep p _ h1 hn)) h2)⟩
  ·cases e2;obtain⟨v,rfl,i2⟩:=Gg i1;unfold Is at i2;obtain⟨p,rfl,h1⟩:=i2;exact⟨p,_,rfl,h1.sq,q ι1 H1 E1 R1 _ (Iy (λι' μ' H' E _=>(KU E h1).sq) (IsL.ofInts _))⟩
  ·cases e2
noncomputable def LE:List D->Option (List Bool)
 |[]=>some []
 | .bl b::ds=>(LE ds).map (b::·)
 |_=>none
theorem OW{K:KW}{ι:Nat->Addr}{k:Nat}{H:Hp}:∀{ds:List D} {vs:List V} {bs:List Bool},IsL K ι k H ds vs->LE ds=some bs->vs=bs.map V.bl
 |[],_,_,h,e=>by cases e;unfold IsL at h;exact h
 | .bl b::ds,_,_,h,e=>by
  unfold IsL at h;obtain⟨v,vs',rfl,h1,h2⟩:=h;unfold LE at e;cases q:LE ds with
  |none=>rw[q] at e;cases e
  |some bs=>
   rw[q] at e;cases e;unfold Is at h1;rw[h1,OW h2 q];rfl
 | .non::_,_,_,_,e=>by cases e
 | .int _::_,_,_,_,e=>by cases e
 | .str _::_,_,_,_,e=>by cases e
 | .ty _::_,_,_,_,e=>by cases e
 | .scr _::_,_,_,_,e=>by cases e
 | .tup _::_,_,_,_,e=>by cases e
 | .lst _::_,_,_,_,e=>by cases e
 | .ref _::_,_,_,_,e=>by cases e
noncomputable def U0:List D->M D
 |[.lst ds]=>λμ=>(LE ds).map λbs=>(.bl (bs.all id),μ)
 |_=>Ba
theorem ZG(hc:X.calm=true):Cy X (.builtin "all") (rMA X.kw U0):=λpins s σ H xs us Q I r h=>by
 obtain⟨ι,μ,as,d,μ',R,ia,e,q⟩:=h;refine Pw hc pins s σ H xs us Q I r ?_;unfold U0 at e;split at e
 ·rename_i ds;cases hb:LE ds with
  |none=>rw[hb] at e;cases e
  |some bs=>
   rw[hb] at e;cases e;obtain⟨v,rfl,i1⟩:=Gg ia;unfold Is at i1;obtain⟨p,vs,rfl,h1,_,h2⟩:=i1;exact⟨p,bs,rfl,SqL.of (by rw[←OW h2 hb];exact h1),q ι H R.ext0 R _ (ofB _)⟩
 ·cases e
end
theorem A5:bootBuiltins "len" = some (.builtin "len"):=by decide +kernel
theorem BD:bootBuiltins "isinstance" = some (.builtin "isinstance"):=by decide +kernel
theorem Sh:bootBuiltins "max" = some (.builtin "max"):=by decide +kernel
theorem MU:bootBuiltins "min" = some (.builtin "min"):=by decide +kernel
theorem Si:bootBuiltins "all" = some (.builtin "all"):=by decide +kernel
theorem Gq:bootBuiltins "int" = some (.type "int"):=by decide +kernel
theorem MT:bootBuiltins "str" = some (.type "str"):=by decide +kernel
theorem Px:bootBuiltins "bool" = some (.type "bool"):=by decide +kernel
theorem CV:bootBuiltins "tuple" = some (.type "tuple"):=by decide +kernel
theorem Sg:bootBuiltins "set" = some (.type "set"):=by decide +kernel
structure Fn(P:Program)(w:World)(K:PySem.W.Frag)(mg:Str->Option Value)(base:Heap)(x:Str)(ps:List Str)(k:Nat)(φ:List D->M D):Prop where
 len:∀ds μ r,φ ds μ=some r->ds.length=ps.length
 ex:∃f fd,FnOk P w K mg base CX0 k f fd ps (spM ⟨K,w⟩ ps.length φ)/\mg x=some (.ref f)/\PySem.W.keepIn K (.ref f)=true/\Binds K fd ps []
def Glo(K:PySem.W.Frag)(mg:Str->Option Value)(x:Str)(d:D):Prop:=∃u v,mg x=some u/\RelV v u/\∀w ι k H,Is ⟨K,w⟩ ι k H d v
section
variable{X:Cx}{e:Expr}{es:List Expr}{pos p:Pos}
theorem Aa{x:Str}{ps:List Str}{k j:Nat}{φ:List D->M D}{m:Sl->M (List D)}(F:Fn X.prog X.w X.kw X.mg X.base x ps k φ)(hr:Room j X.A)(ha:RA X (e::es) m)(hkj:k<=j:=by decide)(hg:Gl X x:=by rfl)(hdb:(x==("__debug__" : Str))=false:=by decide)
  (he:starEach (e::es) X.env=(false,eval e X.env)::starEach es X.env:=by exact A6 rfl) (hpl:(backTo pos (starEach es X.env)).any (·.1)=false:=by exact BJ rfl):RE X (.Call (.Name x p) (e::es) [] pos) (AF φ m):=by
 obtain⟨len,f,fd,F,hm,hk,hb⟩:=F;exact Th F (hr.mono hkj) hm hk hb len ha hg hdb he hpl
theorem Eh{x:Str}{d:D}(h:Glo X.kw X.mg x d)(hg:Gl X x:=by rfl)(hdb:(x==("__debug__" : Str))=false:=by decide):RE X (.Name x pos) (mC d):=by
 obtain⟨u,v,hm,r,hd⟩:=h;exact Tf hm r (hd _) hg hdb
end
theorem XT{P:Program}{w:World}{K:PySem.W.Frag}{mg:Str->Option Value}{base:Heap}{x qual:Str}{st:Stmt}{f:Addr}{fd:FuncData}{N ps:List Str}{k:Nat}{φ:List D->M D}{mb:Sl->M (Fl×Sl)}(F:Fun K x qual st f fd)(S:Aj N ps (AK st))(hm:mg x=some (.ref f))(hb:Binds K fd ps [])
  (body:∀(cdv:Value) (A:Around) (outer:List Env) (s:Shared) (H:Hp) (E:XK),Room k (A.deeper (PyProof.Rows.envOfC qual (AK st) s.heap.objs.size f cdv))->RSs (BY CX0 P w K mg base N qual (AK st) f cdv A outer s H E).nox (Af st) mb)
  (len:∀ds μ r,φ ds μ=some r->ds.length=ps.length)
  (run:∀ds μ d μ',φ ds μ=some (d,μ')->∃fl τ2 μ2,mb (A9 N.length ds) μ=some ((fl,τ2),μ2)/\(fl=.next∨∃d,fl=.rt d)/\FI μ μ2 μ' (ES fl) d):Fn P w K mg base x ps (k+1) φ:=
 ⟨len,f,fd,Jw F S rfl body run,hm,F.kp,hb⟩
theorem IP{μ g:Mh}{d:D}(h:Cl μ.length d):FI μ (μ++g) μ d d:=⟨⟨g,rfl⟩,AAF _,λ_ _ e=>.inl e,.inl ⟨rfl,h⟩⟩
section
variable{X:Cx}{e i:Expr}{es:List Expr}{pos p:Pos}
structure P4(w:World)(K:PySem.W.Frag)(mg:Str->Option Value)(x:Str)(t:Str->Option D):Prop where
 ex:∃ad,mg x=some (.ref ad)/\∀y:Str,∃r,KGet w.params K ad (.str y) r/\((t y=none/\r=none)∨∃d v,t y=some d/\r=some v/\∀ι k H,Is ⟨K,w⟩ ι k H d v)
noncomputable def MA(t:Str->Option D):D->M D
 | .str y=>λμ=>(t y).map λd=>(d,μ)
 |_=>Ba
noncomputable def XD(t:Str->Option D):D->M D
 | .str y=>λμ=>some (.bl (t y).isSome,μ)
 |_=>Ba
theorem Ny{x:Str}{t:Str->Option D}{mi:Sl->M D}(k:P4 X.w X.kw X.mg x t)(hi:RE X i mi)(hg:Gl X x:=by rfl)(hdb:(x==("__debug__" : Str))=false:=by decide)(hs:Xn i:=by exact λ_ _=>rfl):RE X (.Subscript (.Name x p) i pos) (mUn (MA t) mi):=by
 obtain⟨ad,hm,kk⟩:=k;refine RE.wk (T4 (GZ (v:=.ref ad) hg hm rfl hdb) hi.pe hs) λσ H Q h=>?_;obtain⟨ι,μ,τ,d,μ',R,S,e,q⟩:=h;obtain⟨y,μ1,e1,e2⟩:=AJ e;refine⟨ι,μ,τ,y,μ1,R,S,e1,λι1 H1 E1 R1 v1 i1=>?_⟩;cases y with
 |str y=>
  cases C9 i1;obtain⟨r,g,z⟩:=kk y;rcases z with ⟨z1,_⟩|⟨d0,v0,z1,rfl,z3⟩
  ·have e3:(t y).map (λd=>(d,μ1))=some (d,μ'):=e2;rw[z1] at e3;cases e3
  ·have e3:(t y).map (λd=>(d,μ1))=some (d,μ'):=e2;rw[z1] at e3;cases e3;exact⟨ad,v0,rfl,g,q ι1 H1 E1 R1 v0 (z3 _ _ _)⟩
 |_=>cases e2
theorem Vk{K:KW}{w:World}{t:Str->Option D}{mi:Sl->M D}{ad:Addr}{σ:St}{H:Hp}{Q:VK}(kk:∀y:Str,∃r,KGet w.params K ad (.str y) r/\((t y=none/\r=none)∨∃d v,t y=some d/\r=some v/\∀ι k H,Is K ι k H d v))
  (h:tE K (mUn (XD t) mi) σ H Q):X8 w.params K (tE K mi) (tC (.ref ad)) σ H Q:=by
 obtain⟨ι,μ,τ,d,μ',R,S,e,q⟩:=h;obtain⟨y,μ1,e1,e2⟩:=AJ e;refine⟨ι,μ,τ,y,μ1,R,S,e1,λι1 H1 E1 R1 v1 i1=>?_⟩;cases y with
 |str y=>
  cases C9 i1;obtain⟨r,g,z⟩:=kk y;cases e2;rcases z with ⟨z1,rfl⟩|⟨d0,v0,z1,rfl,z3⟩
  ·exact⟨ad,none,rfl,g,by rw[z1] at q;exact q ι1 H1 E1 R1 _ (ofB _)⟩
  ·exact⟨ad,some v0,rfl,g,by rw[z1] at q;exact q ι1 H1 E1 R1 _ (ofB _)⟩
 |_=>cases e2
theorem V3{x:Str}{t:Str->Option D}{mi:Sl->M D}(k:P4 X.w X.kw X.mg x t)(hi:RE X i mi)(hg:Gl X x:=by rfl)(hdb:(x==("__debug__" : Str))=false:=by decide)(h1:behindInMarks .In (.Name x p)=false:=by first|exact nobehind _ (by decide) (by decide)|rfl):RE X (.Compare i [.In] [.Name x p] pos) (mUn (XD t) mi):=by
 obtain⟨ad,hm,kk⟩:=k;exact RE.wk (RQ (WX hi.pe (GZ (v:=.ref ad) hg hm rfl hdb)) h1) λσ H Q h=>Vk kk h
noncomputable def Zs:D->M D
 | .str x=>λμ=>if x.length<=sizeLine then some (.str x,μ) else none
 |_=>Ba
noncomputable def UR(m:Sl->M D):Sl->M D:=mUn Zs m
theorem V6{m:Sl->M D}(h:RE X e m):RE X (.FormattedValue e (-1) none pos) (UR m):=RE.wk (WV h.pe) λσ H Q h=>by
 obtain⟨ι,μ,τ,d,μ',R,S,e,q⟩:=h;obtain⟨y,μ1,e1,e2⟩:=AJ e;refine⟨ι,μ,τ,y,μ1,R,S,e1,λι1 H1 E1 R1 v1 i1=>?_⟩;cases y with
 |str y=>
  have e3:(if y.length<=sizeLine then some (D.str y,μ1) else none)=some (d,μ'):=e2;split at e3
  ·rename_i hl;cases e3;exact .inl ⟨y,C9 i1,hl,q ι1 H1 E1 R1 _ (ofS _)⟩
  ·cases e3
 |_=>cases e2
noncomputable def G7:List (Sl->M D)->Str->Sl->M D
 |[],out=>λ_=>bnd (lim out.length) λ_=>ret (.str out)
 |m::r,out=>λτ=>bnd (m τ) λd=>match d with
  | .str y=>bnd (lim (out++y).length) λ_=>G7 r (out++y) τ
  |_=>Ba
noncomputable def OC(ms:List (Sl->M D)):Sl->M D:=G7 ms Str.empty
structure RJ(X:Cx)(es:List Expr)(ms:List (Sl->M D)):Prop where
 pe:PJ X es (ms.map (tE X.kw))
theorem V0:RJ X [] []:=⟨WK⟩
theorem Nt{m:Sl->M D}{ms:List (Sl->M D)}(h:RE X e m)(hr:RJ X es ms):RJ X (e::es) (m::ms):=⟨T0 h.pe hr.pe⟩
theorem Nn{K:KW}:∀{ms:List (Sl->M D)} {out:Str} {σ:St} {H:Hp} {Q:VK},tE K (G7 ms out) σ H Q->Nj (ms.map (tE K)) out σ H Q
 |[],out,σ,H,Q,h=>by
  obtain⟨ι,μ,τ,d,μ',R,S,e,q⟩:=h;obtain⟨_,μ1,e1,e2⟩:=AJ e;obtain⟨hl,hm⟩:=CN e1;subst hm;cases e2;exact⟨hl,q ι H R.ext0 R _ (ofS _)⟩
 |m::ms,out,σ,H,Q,h=>by
  obtain⟨ι,μ,τ,d,μ',R,S,e,q⟩:=h;obtain⟨y,μ1,e1,e2⟩:=AJ e;refine⟨ι,μ,τ,y,μ1,R,S,e1,λι1 H1 E1 R1 v1 i1=>?_⟩;cases y with
  |str y=>
   obtain⟨_,μ2,e3,e4⟩:=AJ e2;obtain⟨hl,hm⟩:=CN e3;subst hm;exact⟨y,C9 i1,hl,Nn ⟨ι1,_,τ,d,μ',R1,S.ext E1,e4,λι2 H2 E2 R2=>q ι2 H2 (E1.trans E2) R2⟩⟩
  |_=>cases e2
theorem Oq{e2:Expr}{m m2:Sl->M D}{ms:List (Sl->M D)}(h:RJ X (e::e2::es) (m::m2::ms)):RE X (.JoinedStr (e::e2::es) pos) (OC (m::m2::ms)):=RE.wk (O0 h.pe) λσ H Q h=>Nn h
end
end Mi
namespace L2
open PySem PySem.Spec PyProof.Rows Sem
section
variable{prog:Program}{w:World}{A:Around}{E:Value->Shared->Prop}{s:Shared}
theorem Cr{M:Model}{A:Around}{α:Type}{c:Prop}[Decidable c]{a b:Sem α}{Q:α->Shared->Prop}{E:Value->Shared->Prop}{s:Shared}(h:¬c)(hb:wpAny M A b Q E s):wpAny M A (if c then a else b) Q E s:=by
 rw[if_neg h];exact hb
theorem LZ{it t:Addr}{i:Nat}{items:Array Value}{Q:Value->Shared->Prop}(hh:A.handled=none)(hit:s.heap.IsTupleIter it t i)(ht:s.heap.IsTuple t items)
  (more:∀x h',items[i]?=some x->h'.IsTupleIter it t (i+1)->Heap.SameBut it s.heap h'->Q x { s with heap:=h' })
  (over:items[i]?=none->∀h' e,Heap.ExtBut it s.heap h'->(∃o,h'.get? e=some o/\o.cls=.type "StopIteration")->E (.ref e) { s with heap:=h' }) :
  wpAny (model prog w) A (Builtin.SmallTypes.nextOf (.ref it)) Q E s:=by
 have ty:=hit.typeIs;obtain⟨o,at_it,hc,hd⟩:=hit;obtain⟨ot,at_t,_,n,hdt⟩:=ht;have put:∀(k:Nat) (v:Value),(s.heap.update it (Obj.mapFields (λfs=>fs.set! k v))).get? it=some (Obj.mapFields (λfs=>fs.set! k v) o):=λk v=>Heap.get?_update_self _ at_it (Obj.isFreed_of_fields (Obj.data_mapFields hd _));unfold Builtin.SmallTypes.nextOf;refine AAA (wpAny_callSpecial?_slot ty F.slot_tuple_iterator_next (AAc F.slot_tuple_iterator_next ty F.entry_tuple_iterator_next ?_ (F.args_tuple_iterator_next_1 _)));have notNone:¬(Value.ref t==Value.none)=true:=AAf;refine AAA (m:=field (.ref it) 0) (AAt at_it hd (x:=.ref t) rfl ?_);refine Cr notNone ?_;refine AAA (m:=field (.ref it) 1) (AAt at_it hd (x:=.int i 0) rfl (AAA (m:=seqItems? (.ref t)) (AAu at_t hdt ?_)));have ei:((i:Int)).toNat=i:=Int.toNat_natCast i;cases hx:items[i]? with
 |some x=>
  dsimp only;rw[ei,hx];refine AAA (wpAny_setField at_it hd (by simp) (AAB ⟨x,rfl,AAB (more x _ hx ⟨_,put _ _,?_,?_⟩ (Heap.SameBut.update ..))⟩))
  ·exact(Obj.cls_mapFields ..).trans hc
  ·rw[Obj.data_mapFields hd];rfl
 |none=>
  dsimp only;rw[ei,hx];refine AAA (wpAny_rule (AAA (wpAny_setField at_it hd (by simp) ?_)));have first:firstArgMember (.type "StopIteration") []=pure Value.none:=by first|rfl|(unfold firstArgMember;rfl)
  unfold Builtin.SmallTypes.stopIteration newExc newTuple;refine AAA (AAA (AAo (AAA (wpAny_of_eq first (AAo (wpAny_raiseNew_none hh ?_) (by size_fits)))) (by size_fits)));exact over hx _ _ (((Heap.SameBut.update ..).extBut.push _).push _) ⟨_,AAD _ rfl,rfl⟩
theorem HD(hh:A.handled=none)(it t:Addr)(hne:t≠it)(items:Array Value):
  Draws prog w A it [it,t] items.size (λi v=>items[i]?=some v) (λi h=>h.IsTupleIter it t i/\h.IsTuple t items):=by
 refine⟨λi h st=>?_,λi h h' st k=>⟨?_,?_⟩,λi s Q E hi st q=>?_,λs Q E st q=>?_⟩
 ·obtain⟨⟨o,e,_⟩,_⟩:=st;exact⟨o,e⟩
 ·obtain⟨⟨o,e,r⟩,_⟩:=st;exact⟨o,k it (by simp) o e,r⟩
 ·obtain⟨_,⟨o,e,r⟩⟩:=st;exact⟨o,k t (by simp) o e,r⟩
 ·exact LZ hh st.1 st.2 (λx h' hx st' sb=>q x h' s.toks hx ⟨st',st.2.extBut sb.extBut hne⟩ sb) λno=>absurd no (by simp[hi])
 ·exact LZ hh st.1 st.2 (λx h' hx=>absurd hx (by simp)) λ_ h' e eb so=>q h' e eb so
noncomputable abbrev Gn(it:Addr):Obj:={ cls:=.type "enumerate",data:=.fields #[.none,.bool false,.ref it,rawInt 0,.none,.none] }
theorem SN(v:Value)(ob:Obj)(good:Heap->Prop)(hv:∀(prog:Program) (w:World) (A:Around) (E:Value->Shared->Prop) (s:Shared) (Q:Value->Shared->Prop),good s.heap->Q (.ref s.heap.objs.size) { s with heap:=s.heap.push ob }->wpAny (model prog w) A (pyIter v) Q E s):
  Meets (Builtin.«enumerate.__new__» ⟨[.type "enumerate",v],[]⟩) (λ_ R s=>good s.heap/\R (.ok (.ret (.ref (s.heap.push ob).objs.size))) { s with heap:=(s.heap.push ob).push (Gn s.heap.objs.size) }):=by
 refine .of_wp λprog w A R s ⟨g,q⟩=>?_;have own:=sub_enumerate;have walk:∀(A:Around) (E:Value->Shared->Prop) (Q:Value->Shared->Prop),Q (.ref s.heap.objs.size) { s with heap:=s.heap.push ob }->wpAny (model prog w) A (pyIter v) Q E s:=λA E Q z=>hv prog w A E s Q g z;obtain⟨hp,gs,dr,tk,os⟩:=s
 wp_walk
 refine wpAny_stack_any λst=>AAB ?_;split
 ·rename_i c _ _ _ _ _;cases (c==Value.type "enumerate")<;>(wp_walk using walk;exact⟨_,rfl,q⟩)
 ·wp_walk using walk
  exact⟨_,rfl,q⟩
end
end L2
namespace L2
open PySem PySem.Spec PyProof.Rows
theorem Mm{P:Program}{w:World}{K:PySem.W.Frag}{es:List Expr}{k0:Nat}{pos:Pos}(a e it:Addr)(xs:List V)(hei:e≠it)(hea:e≠a)(hai:a≠it):
  JT P w K (.Tuple es k0 pos) (ItP K xs.length (Fb xs) λK H=>SqT K H a xs) [e,it] e (λi h=>(∃old,IsEnum h e it i old)/\h.IsTupleIter it a i):=by
 refine F8 (ι:=List Value) (fp:=[e,it,a]) (Mid:=λits i T h=>(∃x,IsEnumOut h e it ((i:Int)+1) x T)/\(h.IsTupleIter it a (i+1)/\h.IsTuple a its.toArray)/\T≠e/\T≠it) (good:=λits=>Vals xs its) (Pt:=λits i vals=>∃t x,its.toArray[i]?=some x/\vals=#[.int i t,x]) (Sw:=λits i h=>(∃old,IsEnum h e it i old)/\h.IsTupleIter it a i/\h.IsTuple a its.toArray)
  (λA hA its r=>?walk) AAQ (λits i vals r h=>JF r h) (λi=>(by show 2<=sizeLine;decide)) (λi h st=>?obj) (λi h h' st k=>?keep) (λX pins σ H s i hP hw hK I hc st=>?into) (λz i h st=>⟨st.1,st.2.1⟩) (λA i s Q E st h=>?self)
 case walk=>
  have hl:xs.length=its.toArray.size:=by rw[List.size_toArray];exact r.length
  have D:=HD (prog:=P) (w:=w) (A:=A.in1) hA it a hai its.toArray;rw[hl];exact WalksT.enumerateD D e hei (by simp[hei,hea]) (by simp)
 case obj=>
  obtain⟨o,ho,_,hd⟩:=st.2;exact SQ st.1 ho ⟨_,hd⟩
 case keep=>
  obtain⟨⟨old,q⟩,o,ho,r⟩:=st;exact⟨⟨old,k e (by simp) _ q⟩,o,k it (by simp) o ho,r⟩
 case into=>
  subst hK;obtain⟨its,r,p,_⟩:=I.tuple hc;exact⟨its,r,st.1,st.2,p⟩
 case self=>exact OO (f:=λi h=>h.IsTupleIter it a i) A i s Q E st h
section
variable{X:Cx}{es:List Expr}{k0:Nat}{tpos:Pos}
noncomputable def XM(K:PySem.W.Frag)(ta:TA):TI:=λσ H R=>ta σ H λvs H1=>∃a xs,vs=[.ref a]/\SqT K H1 a xs/\R (ItP K xs.length (Fb xs) λK H=>SqT K H a xs) H1
theorem RC{a:Expr}{ta:TA}{p pos:Pos}(hg:Gl X "enumerate")(hm:X.mg "enumerate" = none)(ha:PA X [a] ta)(hs:starEach [a] X.env=[(false,eval a X.env)]:=by rfl):PI X (.Tuple es k0 tpos) (.Call (.Name "enumerate" p) [a] [] pos) (XM X.kw ta):=by
 intro pins s σ H R I h;refine Call_ (GH I hg hm J5 (PyProof.Rows.callWith_type1 (thn (ha pos pins s σ H _ I h) λus s1 ⟨vs,H1,I1,r1,q1⟩=>?_) hs rfl));obtain⟨l,xs,ev,hq,q⟩:=q1;subst ev;obtain⟨u,eu,ru⟩:=IG r1;subst eu;cases ru;obtain⟨its,rv,pl,hz⟩:=I1.tuple hq;have lt:l<s1.heap.objs.size:=by obtain⟨o,e,_⟩:=pl;exact Heap.lt_size e
 have new:=SN (.ref l) { cls:=.type "tuple_iterator",data:=.fields #[.ref l,.int 0 0] } (λh=>h.IsTuple l its.toArray) (λ_ _ _ _ _ _ g z=>wpAny_pyIter_tuple g z);refine callType_new F.called_enumerate (by decide) (F.typeCall_enumerate_1 _) (F.newCall_enumerate_1 _) (λobj=>F.args_object_init_2 obj _) F.entry_enumerate_new new ⟨pl,?_⟩;generalize hG:s1.heap.push { cls:=.type "tuple_iterator",data:=.fields #[.ref l,.int 0 0] }=G;have hsz:G.objs.size=s1.heap.objs.size+1:=by rw[←hG];exact Heap.size_push ..
 have at_e:(G.push (Gn s1.heap.objs.size)).get? (s1.heap.objs.size+1)=some (Gn s1.heap.objs.size):=by rw[←hsz];exact AAD _ rfl
 have he:IsEnum (G.push (Gn s1.heap.objs.size)) (s1.heap.objs.size+1) s1.heap.objs.size 0 .none:=at_e;have at_i:(G.push (Gn s1.heap.objs.size)).IsTupleIter s1.heap.objs.size l 0:=⟨_,AAC _ (hG ▸ AAD _ rfl),rfl,rfl⟩;show _/\_;rw[hsz];refine⟨⟨_,at_e,rfl⟩,wpAny_pyIter_enum he ?_⟩;refine⟨s1.heap.objs.size+1,[s1.heap.objs.size+1,s1.heap.objs.size],λi h=>(∃old,IsEnum h (s1.heap.objs.size+1) s1.heap.objs.size i old)/\h.IsTupleIter s1.heap.objs.size l i,_,H1,rfl,I1.kept (t':=s1.toks) λb o x=>AAC _ (hG ▸ AAC _ x),?_,⟨⟨_,he⟩,at_i⟩,QZ I1,q⟩;exact Mm l _ _ xs (Nat.succ_ne_self _) (Nat.ne_of_gt (AAg lt)) (AAd lt)
end
end L2
namespace Mi
open PySem L2
section
variable{X:Cx}{a:Expr}{es:List Expr}{pos:Pos}
noncomputable def Qb:List D->M (List D)
 |[.tup ds]=>ret ds
 |_=>Ba
noncomputable def Rn(m:Sl->M (List D)):Sl->M (List D):=λτ=>bnd (m τ) λas=>bnd (Qb as) λds=>ret (D9 0 ds)
theorem Qt{p tpos:Pos}{k0:Nat}{m:Sl->M (List D)}(hm:X.mg "enumerate" = none)(ha:RA X [a] m)(hg:Gl X "enumerate" := by rfl)(hs:starEach [a] X.env=[(false,eval a X.env)]:=by exact A6 rfl):RI X (.Tuple es k0 tpos) (.Call (.Name "enumerate" p) [a] [] pos) (Rn m):=
 RI.wk (RC hg hm ha.pe hs) λσ H R q=>by
  obtain⟨ι,μ,τ,ds,μ',R0,S,e,q⟩:=q;obtain⟨xs,μ1,e1,e2⟩:=AJ e;obtain⟨zs,μ2,e3,e4⟩:=AJ e2;cases e4;refine⟨ι,μ,τ,xs,μ1,R0,S,e1,λι1 H1 E1 R1 vs i1=>?_⟩;unfold Qb at e3;split at e3
  ·cases e3;obtain⟨v,rfl,i2⟩:=Gg i1;unfold Is at i2;obtain⟨p,ws,rfl,h1,h2⟩:=i2;exact⟨p,ws,rfl,h1,q ι1 H1 E1 R1 _ (Iy (λι' μ' H' E _=>GS E h1) h2)⟩
  ·cases e3
end
end Mi
namespace L2
open PySem PySem.Spec PyProof.Rows Sem
def TwoAt(h:Heap)(T:Addr)(a b:Value):Prop:=∃n,h.get? T=some { cls:=.type "tuple",data:=.seq #[a,b] n }
noncomputable abbrev DF(TI TO:Addr)(f0:Value):Obj:={ cls:=.type "zip",data:=.fields #[f0,.bool false,.bool false,.ref TI,.ref TO] }
theorem TwoAt.keep{h h':Heap}{T:Addr}{a b:Value}(x:TwoAt h T a b)(k:∀o,h.get? T=some o->h'.get? T=some o):TwoAt h' T a b:=by
 obtain⟨n,e⟩:=x;exact⟨n,k _ e⟩
section
variable{prog:Program}{w:World}{A:Around}{E:Value->Shared->Prop}{s:Shared}
theorem Nf{T:Addr}{a b x c d:Value}{k:Nat}{Q:Unit->Shared->Prop}(t:TwoAt s.heap T a b)(sh:(#[a,b]:Array Value).setIfInBounds k x=#[c,d])(h:∀h',TwoAt h' T c d->Heap.SameBut T s.heap h'->Q () { s with heap:=h' }):
  wpAny (model prog w) A (updateSeq T λxs=>xs.setIfInBounds k x) Q E s:=by
 obtain⟨n,e⟩:=t;refine wpAny_updateSeq e rfl (h _ ⟨n,?_⟩ (Heap.SameBut.update ..)) (by simp[sizeLine]) (by simp[sizeLine]);rw[Heap.get?_update_self _ e rfl];show some ({ cls:=.type "tuple",data:=.seq ((#[a,b]:Array Value).setIfInBounds k x) (if (((#[a,b]:Array Value).setIfInBounds k x).size==(#[a,b]:Array Value).size)=true then n else n+1) }:Obj)=_;rw[sh];rfl
structure JS(z TI TO i1 i2:Addr)(f1 f2:List Addr):Prop where
 zTI:z≠TI
 zTO:z≠TO
 io:TI≠TO
 z1:z∉f1
 z2:z∉f2
 o1:TO∉f1
 o2:TO∉f2
 n1:TI≠i1
 n2:TI≠i2
 m1:i1∈f1
 m2:i2∈f2
 x12:i1∉f2
 x21:i2∉f1
theorem P6{z TI TO i1 i2:Addr}{n k:Nat}{a b:Value}{P1 P2:Nat->Value->Prop}{S1 S2:Nat->Heap->Prop}{f1 f2:List Addr}{Q:Value->Shared->Prop}(ap:JS z TI TO i1 i2 f1 f2)
  (D1:Draws prog w A.in1 i1 f1 n P1 S1) (D2:Draws prog w A.in1 i2 f2 n P2 S2) (hk:k<n)
  (hz:s.heap.get? z=some (DF TI TO .none)) (hI:TwoAt s.heap TI (.ref i1) (.ref i2)) (hO:TwoAt s.heap TO a b) (s1:S1 k s.heap) (s2:S2 k s.heap)
  (q:∀x y T h' tk,P1 k x->P2 k y->s.heap.objs.size<=T->h'.IsTuple T #[x,y]->h'.get? z=some (DF TI TO (rawInt T))->TwoAt h' TI (.ref i1) (.ref i2)->TwoAt h' TO x y->S1 (k+1) h'->S2 (k+1) h'->(∀c o,c≠z->c≠TO->c≠i1->c≠i2->s.heap.get? c=some o->h'.get? c=some o)->Q (.ref T) { s with heap:=h',toks:=tk }) :
  wpAny (model prog w) A.in1 (Builtin.«zip.__next__» ⟨[.ref z],[]⟩) (λfin s'=>∃v,fin=.done (.ret v)/\Q v s') E s:=by
 obtain⟨nI,eI⟩:=id hI;refine AAA (m:=field (.ref z) 2) (AAt hz rfl (x:=.bool false) rfl ?_);refine AAA (m:=field (.ref z) 3) (AAt hz rfl (x:=.ref TI) rfl ?_);refine AAA (m:=seqItems? (.ref TI)) (AAu eI rfl ?_);refine Cr (by simp) ?_;refine AAA (m:=Builtin.SmallTypes.ownedTupleIsFree (.ref z)) ?_;unfold Builtin.SmallTypes.ownedTupleIsFree;refine AAA (m:=field (.ref z) 0) (AAt hz rfl (x:=.none) rfl (AAB ?_));rw[if_pos rfl];refine AAA (wpAny_rule ?_);refine AAA (m:=field (.ref z) 4) (AAt hz rfl (x:=.ref TO) rfl ?_);refine AAA (AAn hz (by simp) λh1 z1 b1=>?_);have k1:∀c o,c≠z->s.heap.get? c=some o->h1.get? c=some o:=λc o hc e=>(b1.2 c hc).trans e;have z1':h1.get? z=some (DF TI TO .ellipsis):=z1;have hI1:=hI.keep (h':=h1) λo e=>k1 TI o ap.zTI.symm e;have hO1:=hO.keep (h':=h1) λo e=>k1 TO o ap.zTO.symm e;have s11:=D1.frame _ _ h1 s1 λc hc o e=>k1 c o (λy=>ap.z1 (y ▸ hc)) e;have s21:=D2.frame _ _ h1 s2 λc hc o e=>k1 c o (λy=>ap.z2 (y ▸ hc)) e;refine AAA (m:=forIn [(Value.ref i1,0),(Value.ref i2,1)] _ _) ?_;rw[List.forIn_cons];refine AAA (AAA (wpAny_onRaise (AAA (D1.item k { s with heap:=h1 } _ _ hk s11 λx h2 t2 px s12 b2=>AAB ?_))));have k2:∀c o,c≠i1->h1.get? c=some o->h2.get? c=some o:=λc o hc e=>(b2.2 c hc).trans e;have ne1:∀{c:Addr},c∉f1->c≠i1:=λhc y=>hc (y ▸ ap.m1);have ne2:∀{c:Addr},c∉f2->c≠i2:=λhc y=>hc (y ▸ ap.m2);have hO2:=hO1.keep (h':=h2) λo e=>k2 TO o (ne1 ap.o1) e;have hI2:=hI1.keep (h':=h2) λo e=>k2 TI o ap.n1 e;have z2:=k2 z _ (ne1 ap.z1) z1';have s22:=D2.frame _ _ h2 s21 λc hc o e=>k2 c o (λy=>ap.x12 (y ▸ hc)) e;obtain⟨nO,eO⟩:=id hO2;refine AAA (m:=seqItems? (.ref TO)) (AAu eO rfl ?_);refine AAA (Nf (s:={ s with heap:=h2,toks:=t2 }) (c:=x) (d:=b) hO2 rfl λh3 hO3 b3=>AAA (wpAny_letGo (AAB ?_)));have k3:∀c o,c≠TO->h2.get? c=some o->h3.get? c=some o:=λc o hc e=>(b3.2 c hc).trans e;have hI3:=hI2.keep (h':=h3) λo e=>k3 TI o ap.io e;have z3:=k3 z _ ap.zTO z2;have s13:=D1.frame _ _ h3 s12 λc hc o e=>k3 c o (λy=>ap.o1 (y ▸ hc)) e;have s23:=D2.frame _ _ h3 s22 λc hc o e=>k3 c o (λy=>ap.o2 (y ▸ hc)) e;show wpAny _ _ (forIn [(Value.ref i2,1)] _ _) _ _ _;rw[List.forIn_cons];refine AAA (AAA (wpAny_onRaise (AAA (D2.item k { s with heap:=h3,toks:=t2 } _ _ hk s23 λy h4 t4 py s24 b4=>AAB ?_))));have k4:∀c o,c≠i2->h3.get? c=some o->h4.get? c=some o:=λc o hc e=>(b4.2 c hc).trans e;have hO4:=hO3.keep (h':=h4) λo e=>k4 TO o (ne2 ap.o2) e;have hI4:=hI3.keep (h':=h4) λo e=>k4 TI o ap.n2 e;have z4:=k4 z _ (ne2 ap.z2) z3;have s14:=D1.frame _ _ h4 s13 λc hc o e=>k4 c o (λy=>ap.x21 (y ▸ hc)) e;obtain⟨nO4,eO4⟩:=id hO4;refine AAA (m:=seqItems? (.ref TO)) (AAu eO4 rfl ?_);refine AAA (Nf (s:={ s with heap:=h4,toks:=t4 }) (c:=x) (d:=y) hO4 rfl λh5 hO5 b5=>AAA (wpAny_letGo (AAB ?_)));have k5:∀c o,c≠TO->h4.get? c=some o->h5.get? c=some o:=λc o hc e=>(b5.2 c hc).trans e;have hI5:=hI4.keep (h':=h5) λo e=>k5 TI o ap.io e;have z5:=k5 z _ ap.zTO z4;have s15:=D1.frame _ _ h5 s14 λc hc o e=>k5 c o (λy=>ap.o1 (y ▸ hc)) e;have s25:=D2.frame _ _ h5 s24 λc hc o e=>k5 c o (λy=>ap.o2 (y ▸ hc)) e;show wpAny _ _ (forIn [] _ _) _ _ _;rw[List.forIn_nil];refine AAB ?_;obtain⟨nO5,eO5⟩:=id hO5;refine AAA (m:=seqItems? (.ref TO)) (AAu eO5 rfl ?_);refine AAA (wpAny_newTuple ?_ (by simp[sizeLine]));have kp:∀c o,h5.get? c=some o->(h5.push { cls:=.type "tuple",data:=.seq #[x,y] }).get? c=some o:=λc o e=>AAC _ e;unfold Builtin.SmallTypes.ownedTupleHandOut;refine AAA (AAA (AAn (s:={ s with heap:=h5.push { cls:=.type "tuple",data:=.seq #[x,y] },toks:=t4 }) (kp z _ z5) (by simp) λh6 z6 b6=>AAn (s:={ s with heap:=h6,toks:=t4 }) z6 (by simp) λh7 z7 b7=>AAB ⟨_,rfl,?_⟩));have sz:h5.objs.size=s.heap.objs.size:=by rw[b5.1,b4.1,b3.1,b2.1,b1.1]
 have zlt:z<h5.objs.size:=Heap.lt_size z5;have k7:∀c o,c≠z->h5.get? c=some o->h7.get? c=some o:=λc o hc e=>(b7.2 c hc).trans ((b6.2 c hc).trans (kp c o e));refine q x y h5.objs.size h7 t4 px py (by rw[sz];exact AAF _) ?_ z7 (hI5.keep λo e=>k7 TI o ap.zTI.symm e) (hO5.keep λo e=>k7 TO o ap.zTO.symm e) (D1.frame _ _ h7 s15 λc hc o e=>k7 c o (λy=>ap.z1 (y ▸ hc)) e) (D2.frame _ _ h7 s25 λc hc o e=>k7 c o (λy=>ap.z2 (y ▸ hc)) e) ?_
 ·refine⟨{ cls:=.type "tuple",data:=.seq #[x,y] },?_,rfl,0,rfl⟩;have ne:h5.objs.size≠z:=Nat.ne_of_gt zlt;exact(b7.2 _ ne).trans ((b6.2 _ ne).trans (AAD _ rfl))
 ·intro c o c1 c2 c3 c4 e;exact k7 c o c1 (k5 c o c2 (k4 c o c4 (k3 c o c2 (k2 c o c3 (k1 c o c1 e)))))
theorem P5{z TI TO i1 i2:Addr}{n:Nat}{a b:Value}{P1:Nat->Value->Prop}{S1:Nat->Heap->Prop}{f1 f2:List Addr}{Q:PySem.Fin->Shared->Prop}(ap:JS z TI TO i1 i2 f1 f2)(D1:Draws prog w A.in1 i1 f1 n P1 S1)
  (hz:s.heap.get? z=some (DF TI TO .none)) (hI:TwoAt s.heap TI (.ref i1) (.ref i2)) (hO:TwoAt s.heap TO a b) (s1:S1 n s.heap)
  (q:∀h' e,(∀c o,c≠z->c≠i1->s.heap.get? c=some o->h'.get? c=some o)->(∃o,h'.get? e=some o/\o.cls=.type "StopIteration")->E (.ref e) { s with heap:=h' }) :
  wpAny (model prog w) A.in1 (Builtin.«zip.__next__» ⟨[.ref z],[]⟩) Q E s:=by
 obtain⟨nI,eI⟩:=id hI;refine AAA (m:=field (.ref z) 2) (AAt hz rfl (x:=.bool false) rfl (AAA (m:=field (.ref z) 3) (AAt hz rfl (x:=.ref TI) rfl (AAA (m:=seqItems? (.ref TI)) (AAu eI rfl ?_)))));refine Cr (by simp) (AAA (m:=Builtin.SmallTypes.ownedTupleIsFree (.ref z)) ?_);unfold Builtin.SmallTypes.ownedTupleIsFree;refine AAA (m:=field (.ref z) 0) (AAt hz rfl (x:=.none) rfl (AAB ?_));rw[if_pos rfl];refine AAA (wpAny_rule (AAA (m:=field (.ref z) 4) (AAt hz rfl (x:=.ref TO) rfl (AAA (AAn hz (by simp) λh1 z1 b1=>?_)))));have s11:=D1.frame _ _ h1 s1 λc hc o e=>(b1.2 c (λy=>ap.z1 (y ▸ hc))).trans e;refine AAA (m:=forIn [(Value.ref i1,0),(Value.ref i2,1)] _ _) ?_;rw[List.forIn_cons];refine AAA (AAA (wpAny_onRaise (AAA (D1.done { s with heap:=h1 } _ _ s11 λh2 e eb so=>?_))));have zne:z≠i1:=λy=>ap.z1 (y ▸ ap.m1);have z2:h2.get? z=some (DF TI TO .ellipsis):=eb z _ zne z1;obtain⟨oe,he,hce⟩:=so;refine AAn (s:={ s with heap:=h2 }) z2 (by simp) λh3 z3 b3=>q h3 e (λc o c1 c2 x=>(b3.2 c c1).trans (eb c o c2 ((b1.2 c c1).trans x))) ⟨oe,?_,hce⟩;have ez:e≠z:=λy=>by
  rw[y,z2] at he;cases he;exact absurd (Value.type.inj (show Value.type "zip" = Value.type "StopIteration" from hce)) (by decide)
 exact(b3.2 e ez).trans he
theorem Hu{z TI TO:Addr}{f0:Value}{Q:Value->Shared->Prop}(hz:s.heap.get? z=some (DF TI TO f0))(h:Q (.ref z) s):wpAny (model prog w) A (pyIter (.ref z)) Q E s:=wpAny_pyIter_zip hz h
theorem Of(hh:A.handled=none){z TI TO i1 i2:Addr}{n:Nat}{P1 P2:Nat->Value->Prop}{S1 S2:Nat->Heap->Prop}{f1 f2:List Addr}(ap:JS z TI TO i1 i2 f1 f2)
  (D1:Draws prog w A.in1 i1 f1 n P1 S1) (D2:Draws prog w A.in1 i2 f2 n P2 S2) :
  WalksT prog w A z (z::TI::TO::(f1++f2)) [z,TI,TO,i1,i2] n (λk vals=>∃x y,P1 k x/\P2 k y/\vals=#[x,y])
   (λk h=>h.get? z=some (DF TI TO .none)/\TwoAt h TI (.ref i1) (.ref i2)/\(∃a b,TwoAt h TO a b)/\S1 k h/\S2 k h)
   (λk T h=>h.get? z=some (DF TI TO (rawInt T))/\TwoAt h TI (.ref i1) (.ref i2)/\(∃a b,TwoAt h TO a b)/\S1 (k+1) h/\S2 (k+1) h/\T≠z/\T≠TI/\T≠TO/\T≠i1/\T≠i2) where
 sub:=λc hc=>by
  have hc':c=z∨c=TI∨c=TO∨c=i1∨c=i2:=by simpa using hc
  rcases hc' with e|e|e|e|e<;>subst e
  ·simp
  ·simp
  ·simp
  ·simp[ap.m1]
  ·simp[ap.m2]
 frame:=λk h h' st kp=>by
  obtain⟨a1,a2,⟨a,b,a3⟩,a4,a5⟩:=st;exact⟨kp z (by simp) _ a1,a2.keep λo e=>kp TI (by simp) o e,⟨a,b,a3.keep λo e=>kp TO (by simp) o e⟩,D1.frame _ _ _ a4 λc hc o e=>kp c (by simp[hc]) o e,D2.frame _ _ _ a5 λc hc o e=>kp c (by simp[hc]) o e⟩
 item:=λk s Q E hk st q=>by
  obtain⟨a1,a2,⟨a,b,a3⟩,a4,a5⟩:=st;have ty:s.TypeIs (.ref z) "zip" := ⟨_,a1,rfl⟩;unfold pyNext;refine AAA (wpAny_attempt (wpAny_callSpecial?_slot (name:=Str.ofString "__next__") ty F.slot_zip_next (AAc F.slot_zip_next ty F.entry_zip_next (P6 ap D1 D2 hk a1 a2 a3 a4 a5 λx y T h' tk px py hT tup b1 b2 b3 b4 b5 kp=>?_) (F.args_zip_next_1 _))));have lt:∀{c:Addr} {o:Obj},s.heap.get? c=some o->T≠c:=λe=>Nat.ne_of_gt (AAN (Heap.lt_size e) hT);obtain⟨o1,e1⟩:=D1.live _ _ a4;obtain⟨o2,e2⟩:=D2.live _ _ a5;obtain⟨n3,e3⟩:=a3;obtain⟨n4,e4⟩:=id a2;refine AAB (q T #[x,y] h' tk ⟨x,y,px,py,rfl⟩ hT tup ⟨b1,b2,⟨x,y,b3⟩,b4,b5,lt a1,lt e4,lt e3,lt e1,lt e2⟩ λc o hc e=>?_);exact kp c o (λz=>hc (by simp[z])) (λz=>hc (by simp[z])) (λz=>hc (by simp[z])) (λz=>hc (by simp[z])) e
 go:=λes k0 pos k T s Q E st q=>by
  obtain⟨a1,a2,a3,a4,a5,t1,t5,t2,t3,t4⟩:=st;refine wpAny_letOwnedTupleGo_zip a1 λh' hz' sb=>?_;have kp:∀c o,c≠z->s.heap.get? c=some o->h'.get? c=some o:=λc o hc e=>(sb.2 c hc).trans e;obtain⟨a,b,a3⟩:=a3;refine q h' ⟨hz',a2.keep λo e=>kp TI o ap.zTI.symm e,⟨a,b,a3.keep λo e=>kp TO o ap.zTO.symm e⟩,D1.frame _ _ _ a4 λc hc o e=>kp c o (λy=>ap.z1 (y ▸ hc)) e,D2.frame _ _ _ a5 λc hc o e=>kp c o (λy=>ap.z2 (y ▸ hc)) e⟩ λc o hc e=>kp c o (λy=>hc (by simp[y])) e
 apart:=λk T h st hT=>by
  obtain⟨_,_,_,_,_,t1,t5,t2,t3,t4⟩:=st;have hT':T=z∨T=TI∨T=TO∨T=i1∨T=i2:=by simpa using hT
  rcases hT' with e|e|e|e|e
  ·exact t1 e
  ·exact t5 e
  ·exact t2 e
  ·exact t3 e
  ·exact t4 e
 done:=λs Q E st q=>by
  obtain⟨a1,a2,⟨a,b,a3⟩,a4,a5⟩:=st;have ty:s.TypeIs (.ref z) "zip" := ⟨_,a1,rfl⟩;unfold pyNext;refine AAA (wpAny_attempt (wpAny_callSpecial?_slot (name:=Str.ofString "__next__") ty F.slot_zip_next (AAc F.slot_zip_next ty F.entry_zip_next (P5 ap D1 a1 a2 a3 a4 λh' e kp so=>?_) (F.args_zip_next_1 _))));obtain⟨o,ho,hc⟩:=so;refine AAA (wpAny_isInstance (T := "StopIteration") (b:=true) ⟨o,ho,hc⟩ isSubtype_stop (AAB (q h' s.toks λc o hc e=>?_)));exact kp c o (λy=>hc (by simp[y])) (λy=>hc (by simp[y])) e
 self:=λk s Q E st h=>Hu st.1 h
end
end L2
namespace L2
open PySem PySem.Spec PyProof.Rows
noncomputable abbrev Gx(a b:Value):Obj:={ cls:=.type "tuple",data:=.seq #[a,b] }
noncomputable abbrev zh2(h:Heap)(o1 o2:Obj):Heap:=(h.push o1).push o2
noncomputable abbrev zh4(h:Heap)(o1 o2:Obj):Heap:=((zh2 h o1 o2).push (Gx (.ref h.objs.size) (.ref (h.push o1).objs.size))).push (Gx .none .none)
noncomputable abbrev zh5(h:Heap)(o1 o2:Obj):Heap:=(zh4 h o1 o2).push (DF (zh2 h o1 o2).objs.size ((zh2 h o1 o2).push (Gx (.ref h.objs.size) (.ref (h.push o1).objs.size))).objs.size .none)
theorem Ss(v1 v2:Value)(o1 o2:Obj)(g1 g2:Heap->Prop)(g2p:∀h,g2 h->g2 (h.push o1))
  (w1:∀(prog:Program) (w:World) (A:Around) (E:Value->Shared->Prop) (s:Shared) (Q:Value->Shared->Prop),g1 s.heap->Q (.ref s.heap.objs.size) { s with heap:=s.heap.push o1 }->wpAny (model prog w) A (pyIter v1) Q E s)
  (w2:∀(prog:Program) (w:World) (A:Around) (E:Value->Shared->Prop) (s:Shared) (Q:Value->Shared->Prop),g2 s.heap->Q (.ref s.heap.objs.size) { s with heap:=s.heap.push o2 }->wpAny (model prog w) A (pyIter v2) Q E s) :
  Meets (Builtin.«zip.__new__» ⟨[.type "zip",v1,v2],[]⟩) (λ_ R s=>g1 s.heap/\g2 s.heap/\R (.ok (.ret (.ref (zh4 s.heap o1 o2).objs.size))) { s with heap:=zh5 s.heap o1 o2 }):=by
 refine .of_wp λprog w A R s ⟨x1,x2,q⟩=>?_;have own:=sub_zip;have walk1:∀(A:Around) (E:Value->Shared->Prop) (Q:Value->Shared->Prop),Q (.ref s.heap.objs.size) { s with heap:=s.heap.push o1 }->wpAny (model prog w) A (pyIter v1) Q E s:=λA E Q z=>w1 prog w A E s Q x1 z;have walk2:∀(A:Around) (E:Value->Shared->Prop) (Q:Value->Shared->Prop),Q (.ref (s.heap.push o1).objs.size) { s with heap:=zh2 s.heap o1 o2 }->wpAny (model prog w) A (pyIter v2) Q E { s with heap:=s.heap.push o1 }:=λA E Q z=>w2 prog w A E { s with heap:=s.heap.push o1 } Q (g2p _ x2) z;obtain⟨hp,gs,dr,tk,os⟩:=s
 wp_walk using walk1,walk2
 exact⟨_,rfl,q⟩
noncomputable def KB(xs ys:List V)(i:Nat):List V:=[xs.getD i .non,ys.getD i .non]
theorem Ob{xs ys:List V}{its jts:List Value}(r:Vals xs its)(r2:Vals ys jts){i:Nat}{vals:Array Value}(h:∃x y,its.toArray[i]?=some x/\jts.toArray[i]?=some y/\vals=#[x,y]):Vals (KB xs ys i) vals.toList:=by
 obtain⟨x,y,hx,hy,rfl⟩:=h;have one:∀{zs:List V} {us:List Value} {u:Value},Vals zs us->us.toArray[i]?=some u->RelV (zs.getD i .non) u:=λ{zs us u} rz hu=>by
  have hu':us[i]?=some u:=by simpa using hu
  have hl:=rz.length;have lt:i<zs.length:=by have:=(AAU.mp hu').1;omega
  obtain⟨u',e1,e2⟩:=rz.get (show zs[i]?=some zs[i] by simp[lt]);rw[hu'] at e1;cases e1;simpa[List.getD,lt] using e2
 exact .cons (one r hx) (.cons (one r2 hy) .nil)
theorem Oh{P:Program}{w:World}{K:PySem.W.Frag}{es:List Expr}{k0:Nat}{pos:Pos}(a b z TI TO i1 i2:Addr)(xs ys:List V)(hl:ys.length=xs.length)(ap:JS z TI TO i1 i2 [i1,a] [i2,b])(h1:a≠i1)(h2:b≠i2):
  JT P w K (.Tuple es k0 pos) (ItP K xs.length (KB xs ys) λK H=>SqT K H a xs/\SqT K H b ys) [z,TI,TO,i1,i2] z (λi h=>h.get? z=some (DF TI TO .none)/\TwoAt h TI (.ref i1) (.ref i2)/\(∃c d,TwoAt h TO c d)/\h.IsTupleIter i1 a i/\h.IsTupleIter i2 b i):=by
 refine F8 (ι:=List Value×List Value) (good:=λp=>Vals xs p.1/\Vals ys p.2) (Pt:=λp i vals=>∃x y,p.1.toArray[i]?=some x/\p.2.toArray[i]?=some y/\vals=#[x,y])
  (Sw:=λp i h=>h.get? z=some (DF TI TO .none)/\TwoAt h TI (.ref i1) (.ref i2)/\(∃c d,TwoAt h TO c d)/\(h.IsTupleIter i1 a i/\h.IsTuple a p.1.toArray)/\(h.IsTupleIter i2 b i/\h.IsTuple b p.2.toArray))
  (Mid:=λp i T h=>h.get? z=some (DF TI TO (rawInt T))/\TwoAt h TI (.ref i1) (.ref i2)/\(∃c d,TwoAt h TO c d)/\(h.IsTupleIter i1 a (i+1)/\h.IsTuple a p.1.toArray)/\(h.IsTupleIter i2 b (i+1)/\h.IsTuple b p.2.toArray)/\T≠z/\T≠TI/\T≠TO/\T≠i1/\T≠i2)
  (fp:=z::TI::TO::([i1,a]++[i2,b]))
  (λA hA p r=>?walk) AAQ (λp i vals r h=>Ob r.1 r.2 h) (λi=>(by show 2<=sizeLine;decide)) (λi h st=>?obj) (λi h h' st k=>?keep) (λX pins σ H s i hP hw hK I hc st=>?into) (λp i h st=>⟨st.1,st.2.1,st.2.2.1,st.2.2.2.1.1,st.2.2.2.2.1⟩) (λA i s Q E st h=>Hu st.1 h)
 case walk=>
  have l1:p.1.toArray.size=xs.length:=by rw[List.size_toArray];exact r.1.length.symm
  have l2:p.2.toArray.size=xs.length:=by rw[List.size_toArray,←hl];exact r.2.length.symm
  have D1:=HD (prog:=P) (w:=w) (A:=A.in1) hA i1 a h1 p.1.toArray;have D2:=HD (prog:=P) (w:=w) (A:=A.in1) hA i2 b h2 p.2.toArray;rw[l1] at D1;rw[l2] at D2;exact Of hA ap D1 D2
 case obj=>
  intro c hc;obtain⟨a1,⟨n1,a2⟩,⟨c0,d0,n2,a3⟩,⟨o4,a4,_,d4⟩,⟨o5,a5,_,d5⟩⟩:=st;have hc':c=z∨c=TI∨c=TO∨c=i1∨c=i2:=by simpa using hc
  rcases hc' with e|e|e|e|e<;>subst e
  ·exact⟨_,a1,λv q=>by cases q⟩
  ·exact⟨_,a2,λv q=>by cases q⟩
  ·exact⟨_,a3,λv q=>by cases q⟩
  ·exact⟨_,a4,λv q=>by rw[d4] at q;cases q⟩
  ·exact⟨_,a5,λv q=>by rw[d5] at q;cases q⟩
 case keep=>
  obtain⟨a1,a2,⟨c0,d0,a3⟩,⟨o4,a4,r4⟩,⟨o5,a5,r5⟩⟩:=st;exact⟨k z (by simp) _ a1,a2.keep λo e=>k TI (by simp) o e,⟨c0,d0,a3.keep λo e=>k TO (by simp) o e⟩,⟨o4,k i1 (by simp) o4 a4,r4⟩,⟨o5,k i2 (by simp) o5 a5,r5⟩⟩
 case into=>
  subst hK;obtain⟨c1,c2⟩:=hc;obtain⟨a1,a2,a3,a4,a5⟩:=st;obtain⟨its,r,p,_⟩:=I.tuple c1;obtain⟨jts,r2,p2,_⟩:=I.tuple c2;exact⟨(its,jts),⟨r,r2⟩,a1,a2,a3,⟨a4,p⟩,⟨a5,p2⟩⟩
section
theorem Sf:bootBuiltins "zip" = some (.type "zip"):=by decide +kernel
noncomputable def Y1(K:PySem.W.Frag)(ta:TA):TI:=λσ H R=>ta σ H λvs H1=>∃a b xs ys,vs=[.ref a,.ref b]/\SqT K H1 a xs/\SqT K H1 b ys/\ys.length=xs.length/\R (ItP K xs.length (KB xs ys) λK H=>SqT K H a xs/\SqT K H b ys) H1
end
section
variable{X:Cx}{es:List Expr}{k0:Nat}{tpos:Pos}
theorem nin{n l c:Nat}(h1:c≠n)(h2:c≠l):c∉([n,l]:List Nat):=λh=>by
 have h':c=n∨c=l:=by simpa using h
 exact h'.elim h1 h2
theorem zap(n l m:Nat)(hl:l<n)(hm:m<n):JS (n+4) (n+2) (n+3) n (n+1) [n,l] [n+1,m] where
 zTI:=(by omega:¬(n+4:Nat)=n+2)
 zTO:=(by omega:¬(n+4:Nat)=n+3)
 io:=(by omega:¬(n+2:Nat)=n+3)
 z1:=nin (by omega) (by omega)
 z2:=nin (by omega) (by omega)
 o1:=nin (by omega) (by omega)
 o2:=nin (by omega) (by omega)
 n1:=(by omega:¬(n+2:Nat)=n)
 n2:=(by omega:¬(n+2:Nat)=n+1)
 m1:=AAQ
 m2:=AAQ
 x12:=nin (by omega) (by omega)
 x21:=nin (by omega) (by omega)
theorem Uk{pins:List (Addr×Obj)}{σ:St}{H:Hp}{s:Shared}(I:Inv X pins σ H s)(c:Addr)(hc:s.heap.objs.size<=c):Eo X pins H c:=I.fpOk hc (I.hok.fresh hc)
theorem T1{a b:Expr}{ta:TA}{p pos:Pos}(hg:Gl X "zip")(hm:X.mg "zip" = none)(ha:PA X [a,b] ta)(hs:starEach [a,b] X.env=(false,eval a X.env)::starEach [b] X.env)(hpl:(backTo pos (starEach [b] X.env)).any (·.1)=false):
  PI X (.Tuple es k0 tpos) (.Call (.Name "zip" p) [a,b] [] pos) (Y1 X.kw ta):=by
 intro pins s σ H R I h;refine Call_ (GH I hg hm Sf (PyProof.Rows.callWith_type1 (thn (ha pos pins s σ H _ I h) λus s1 ⟨vs,H1,I1,r1,q1⟩=>?_) hs hpl));obtain⟨l,m,xs,ys,ev,hx,hy,hl,q⟩:=q1;subst ev;obtain⟨u1,u2,eu,ru1,ru2⟩:=Vals.two r1;subst eu;cases ru1;cases ru2;obtain⟨its,rx,px,_⟩:=I1.tuple hx;obtain⟨jts,ry,py,_⟩:=I1.tuple hy;have ltl:l<s1.heap.objs.size:=by obtain⟨o,e,_⟩:=px;exact Heap.lt_size e
 have ltm:m<s1.heap.objs.size:=by obtain⟨o,e,_⟩:=py;exact Heap.lt_size e
 have new:=Ss (.ref l) (.ref m) { cls:=.type "tuple_iterator",data:=.fields #[.ref l,.int 0 0] } { cls:=.type "tuple_iterator",data:=.fields #[.ref m,.int 0 0] } (λh=>h.IsTuple l its.toArray) (λh=>h.IsTuple m jts.toArray) (λh x=>x.push _) (λ_ _ _ _ _ _ g z=>wpAny_pyIter_tuple g z) (λ_ _ _ _ _ _ g z=>wpAny_pyIter_tuple g z);refine callType_new F.called_zip (by decide) (F.typeCall_zip_2 _ _) (F.newCall_zip_2 _ _) (λobj=>F.args_object_init_3 obj _ _) F.entry_zip_new new ⟨px,py,?_⟩;generalize ho1:({ cls:=.type "tuple_iterator",data:=.fields #[.ref l,.int 0 0] }:Obj)=o1;generalize ho2:({ cls:=.type "tuple_iterator",data:=.fields #[.ref m,.int 0 0] }:Obj)=o2;have n1:(s1.heap.push o1).objs.size=s1.heap.objs.size+1:=Heap.size_push ..;have n2:(zh2 s1.heap o1 o2).objs.size=s1.heap.objs.size+2:=by rw[Heap.size_push,n1]
 have n3:((zh2 s1.heap o1 o2).push (Gx (.ref s1.heap.objs.size) (.ref (s1.heap.push o1).objs.size))).objs.size=s1.heap.objs.size+3:=by rw[Heap.size_push,n2]
 have n4:(zh4 s1.heap o1 o2).objs.size=s1.heap.objs.size+4:=by rw[Heap.size_push,n3]
 have kp:∀c o,s1.heap.get? c=some o->(zh5 s1.heap o1 o2).get? c=some o:=λc o e=>AAC _ (AAC _ (AAC _ (AAC _ (AAC _ e))));have f1:o1.isFreed=false:=by rw[←ho1];rfl
 have f2:o2.isFreed=false:=by rw[←ho2];rfl
 have a1:(zh5 s1.heap o1 o2).get? s1.heap.objs.size=some o1:=AAC _ (AAC _ (AAC _ (AAC _ (AAD _ f1))));have a2:(zh5 s1.heap o1 o2).get? (s1.heap.objs.size+1)=some o2:=by rw[←n1];exact AAC _ (AAC _ (AAC _ (AAD _ f2)))
 have a3:(zh5 s1.heap o1 o2).get? (s1.heap.objs.size+2)=some (Gx (.ref s1.heap.objs.size) (.ref (s1.heap.objs.size+1))):=by
  rw[←n1,←n2];exact AAC _ (AAC _ (AAD _ rfl))
 have a4:(zh5 s1.heap o1 o2).get? (s1.heap.objs.size+3)=some (Gx .none .none):=by
  rw[←n3];exact AAC _ (AAD _ rfl)
 have a5:(zh5 s1.heap o1 o2).get? (s1.heap.objs.size+4)=some (DF (s1.heap.objs.size+2) (s1.heap.objs.size+3) .none):=by
  rw[←n4,←n2,←n3];exact AAD _ rfl
 show _/\_;rw[n4];refine⟨⟨_,a5,rfl⟩,Hu a5 ?_⟩;refine⟨s1.heap.objs.size+4,[s1.heap.objs.size+4,s1.heap.objs.size+2,s1.heap.objs.size+3,s1.heap.objs.size,s1.heap.objs.size+1],_,_,H1,rfl,I1.kept (t':=s1.toks) kp,
  Oh l m (s1.heap.objs.size+4) (s1.heap.objs.size+2) (s1.heap.objs.size+3) s1.heap.objs.size (s1.heap.objs.size+1) xs ys hl (zap _ l m ltl ltm) (AAd ltl) (AAd (AAg ltm)),⟨a5,⟨_,a3⟩,⟨_,_,_,a4⟩,⟨o1,a1,by rw[←ho1],by rw[←ho1];rfl⟩,⟨o2,a2,by rw[←ho2],by rw[←ho2];rfl⟩⟩,λc hc=>Uk I1 c ?_,q⟩
 have hc':c=s1.heap.objs.size+4∨c=s1.heap.objs.size+2∨c=s1.heap.objs.size+3∨c=s1.heap.objs.size∨c=s1.heap.objs.size+1:=by simpa using hc
 rcases hc' with e|e|e|e|e<;>subst e<;>first|exact AAF _|exact Nat.le_add_right _ _
end
end L2
namespace Mi
open PySem L2
section
variable{X:Cx}{a b:Expr}{es:List Expr}{pos:Pos}
noncomputable def Gv:List D->List D->List D
 |x::xs,y::ys=>.tup [x,y]::Gv xs ys
 |_,_=>[]
noncomputable def Fd:List D->M (List D)
 |[.tup xs,.tup ys]=>λμ=>if ys.length=xs.length then some (Gv xs ys,μ) else none
 |_=>Ba
noncomputable def PD(m:Sl->M (List D)):Sl->M (List D):=λτ=>bnd (m τ) Fd
theorem LL:∀{xs ys:List D},ys.length=xs.length->(Gv xs ys).length=xs.length
 |[],[],_=>rfl
 |x::xs,y::ys,h=>by unfold Gv;simp at h ⊢;exact LL h
 |[],_::_,h=>by simp at h
 |_::_,[],h=>by simp at h
theorem LM:∀{xs ys:List D} {j:Nat} {d:D},(Gv xs ys)[j]?=some d->∃x y,xs[j]?=some x/\ys[j]?=some y/\d=.tup [x,y]
 |[],_,j,d,h=>by simp[Gv] at h
 |_::_,[],j,d,h=>by simp[Gv] at h
 |x::xs,y::ys,0,d,h=>by simp[Gv] at h;exact⟨x,y,rfl,rfl,h.symm⟩
 |x::xs,y::ys,j+1,d,h=>by
  obtain⟨x',y',h1,h2,h3⟩:=LM (xs:=xs) (ys:=ys) (j:=j) (d:=d) (by simpa[Gv] using h);exact⟨x',y',by simpa using h1,by simpa using h2,h3⟩
theorem Ud{K:KW}{ι:Nat->Addr}{μ:Mh}{H:Hp}{vs ws:List V}{ds es:List D}{Cond:PySem.W.Frag->Hp->Prop}(st:∀ι' (μ':Mh) H',Ext ι μ.length H ι' μ'.length H'->RelH K ι' μ' H'->Cond K H')(i:IsL K ι μ.length H ds vs)(j:IsL K ι μ.length H es ws)(hl:es.length=ds.length):
  ItM K (ItP K vs.length (KB vs ws) Cond) (Gv ds es) ι μ H:=by
 intro ι' μ' H' E R;have h:=st ι' μ' H' E R;rw[LL hl,←i.length];refine⟨λj hj=>⟨hj,h⟩,⟨rfl,h⟩,λk x H2 d hd y=>?_⟩;obtain⟨T,hT,rfl,rfl⟩:=y;obtain⟨E2,R2⟩:=R.laid (.tup (KB vs ws k)) hT;refine⟨E2,R2,?_⟩;obtain⟨x,y,h1,h2,rfl⟩:=LM hd;obtain⟨v,ev,iv⟩:=(i.ext E).get h1;obtain⟨u,eu,iu⟩:=(j.ext E).get h2;have es':KB vs ws k=[v,u]:=by unfold KB;simp[List.getD,ev,eu]
 have key:IsL K ι' (List.length μ') (upd H' T (.tup (KB vs ws k))) [x,y] [v,u]:=.cons (iv.ext E2) (.one (iu.ext E2));unfold Is;exact⟨T,_,rfl,SqT.of Be,(congrArg (IsL K ι' (List.length μ') (upd H' T (.tup (KB vs ws k))) [x,y]) es').mpr key⟩
theorem Nu{p tpos:Pos}{k0:Nat}{m:Sl->M (List D)}(hm:X.mg "zip" = none)(ha:RA X [a,b] m)(hg:Gl X "zip" := by rfl)(hs:starEach [a,b] X.env=(false,eval a X.env)::starEach [b] X.env:=by exact A6 rfl)(hpl:(backTo pos (starEach [b] X.env)).any (·.1)=false:=by exact BJ rfl):
  RI X (.Tuple es k0 tpos) (.Call (.Name "zip" p) [a,b] [] pos) (PD m):=
 RI.wk (T1 hg hm ha.pe hs hpl) λσ H R q=>by
  obtain⟨ι,μ,τ,ds,μ',R0,S,e,q⟩:=q;obtain⟨xs,μ1,e1,e2⟩:=AJ e;refine⟨ι,μ,τ,xs,μ1,R0,S,e1,λι1 H1 E1 R1 vs i1=>?_⟩;unfold Fd at e2;split at e2
  ·rename_i xs ys;split at e2
   ·rename_i hl;cases e2;obtain⟨v,u,rfl,i2,i3⟩:=Uh i1;unfold Is at i2 i3;obtain⟨p,ws,rfl,h1,h2⟩:=i2;obtain⟨p',ws',rfl,h1',h2'⟩:=i3;exact⟨p,p',ws,ws',rfl,h1,h1',by rw[h2.length,h2'.length];exact hl,q ι1 H1 E1 R1 _ (Ud (λι' μ' H' E _=>⟨GS E h1,GS E h1'⟩) h2 h2' hl)⟩
   ·cases e2
  ·cases e2
end
end Mi
namespace L2
open PySem PySem.Spec PyProof.Rows Sem
noncomputable def Bw(xs:List Str):List Str:=xs.foldl (λys x=>if x∈ys then ys else ys++[x]) []
theorem Jn(xs:List Str)(x:Str):Bw (xs++[x])=if x∈Bw xs then Bw xs else Bw xs++[x]:=by
 unfold Bw;rw[List.foldl_append];rfl
theorem G4:∀(xs ys:List Str),(xs.foldl (λys x=>if x∈ys then ys else ys++[x]) ys).length<=ys.length+xs.length
 |[],ys=>AAF _
 |x::xs,ys=>by
  rw[List.foldl_cons];have:=G4 xs (if x∈ys then ys else ys++[x]);split at this<;>simp at this ⊢<;>(try split)<;>simp_all<;>omega
theorem UI(xs:List Str):(Bw xs).length<=xs.length:=by
 have:=G4 xs [];simpa[Bw] using this
section
variable{prog:Program}{w:World}{A:Around}{E:Value->Shared->Prop}{s:Shared}
theorem Qj{S:Addr}{xs:List Str}{x:Str}{t:Tok}{Q:Bool->Shared->Prop}(hS:s.heap.SetOf (strKind prog w) S (λk=>decide (k∈Bw xs)) (Bw xs).length)(room:xs.length+2<scanBound)
  (q:∀b h' tk,Heap.SameBut S s.heap h'->h'.SetOf (strKind prog w) S (λk=>decide (k∈Bw (xs++[x]))) (Bw (xs++[x])).length->Q b { s with heap:=h',toks:=tk }) :
  wpAny (model prog w) A (setAdd S (.str x t)) Q E s:=by
 unfold setAdd;refine AAm (AAA ((strKind prog w).pyHash (strKind_is prog w x t) ?_));have le:=UI xs;refine wpAny_setAddHashed_of (knd:=strKind prog w) (s:={ s with toks:=s.toks+1 }) (strKind_is prog w x t) rfl hS (by omega) λh' sb hS'=>q _ h' _ sb ?_;have e1:(λk':Str=>decide (k'∈Bw xs)||decide (k'=x))=λk'=>decide (k'∈Bw (xs++[x])):=by
  funext k'
  rw[Jn];split
  ·rename_i hx;by_cases e:k'=x
   ·subst e;simp[hx]
   ·simp[e]
  ·simp
 have e2:(if decide (x∈Bw xs)=true then (Bw xs).length else (Bw xs).length+1)=(Bw (xs++[x])).length:=by
  rw[Jn];by_cases hx:x∈Bw xs<;>simp[hx]
 rw[e1,e2] at hS';exact hS'
theorem Qk{I l S:Addr}{its:List Value}{ss:List Str}(hh:A.in1.handled=none)(hlI:l≠I)(hSI:S≠I)(hSl:S≠l)(rv:Vals (ss.map V.str) its)(room:ss.length+2<scanBound){R:Result->Shared->Prop}:
  ∀(m i:Nat) (s:Shared),ss.length-i=m->i<=ss.length->s.heap.IsListIter I l i->s.heap.IsList l its.toArray->s.heap.SetOf (strKind prog w) S (λk=>decide (k∈Bw (ss.take i))) (Bw (ss.take i)).length->
   (∀h' tk,(∀c o,c≠S->c≠I->s.heap.get? c=some o->h'.get? c=some o)->h'.SetOf (strKind prog w) S (λk=>decide (k∈Bw ss)) (Bw ss).length->R (.ok (.ret .none)) { s with heap:=h',toks:=tk })->
   codeAny (model prog w) A (.builtin "set.update.loop" ⟨[.ref S,.ref I],[]⟩) R s:=by
 have hl:its.length=ss.length:=by have:=rv.length;simpa using this.symm
 have W:=Walks.list (prog:=prog) (w:=w) hh I l hlI its.toArray;intro m
 induction m with
 |zero=>
  intro i s hm hi hit hls hS q;have ei:i=ss.length:=by omega
  subst ei;refine codeAny_builtin PyProof.Rows.F.entry_set_update_loop ?_;rw[Around.under_plainId PyProof.Rows.F.plain_set_update_loop _];refine AAA (m:=pyNext (.ref I)) (W.done s _ _ ⟨by rw[List.size_toArray,hl];exact hit,hls⟩ λh' tk kp=>AAB ?_);rw[List.take_length] at hS;obtain⟨o,es,ep,tb,ho,rest⟩:=hS;exact q h' tk (λc o _ c2 e=>kp c o (by simpa using c2) e) ⟨o,es,ep,tb,kp S o (by simpa using hSI) ho,rest⟩
 |succ m ih=>
  intro i s hm hi hit hls hS q;have lt:i<ss.length:=by omega
  refine codeAny_builtin PyProof.Rows.F.entry_set_update_loop ?_;rw[Around.under_plainId PyProof.Rows.F.plain_set_update_loop _];refine AAA (m:=pyNext (.ref I)) (W.item i s _ _ (by rw[List.size_toArray,hl];exact lt) ⟨hit,hls⟩ λv h' tk hv st kp=>?_);obtain⟨u,eu,ru⟩:=rv.get (show (ss.map V.str)[i]?=some (V.str ss[i]) by simp[lt]);have hv':its[i]?=some v:=by simpa using hv
  rw[eu] at hv';cases hv';obtain⟨t,rfl⟩:=ru;obtain⟨o,es,ep,tb,ho,rest⟩:=hS;have hS1:h'.SetOf (strKind prog w) S (λk=>decide (k∈Bw (ss.take i))) (Bw (ss.take i)).length:=⟨o,es,ep,tb,kp S o (by simpa using hSI) ho,rest⟩;refine AAA (AAm (Qj (s:={ s with heap:=h',toks:=tk }) hS1 (by rw[List.length_take];omega) λb h2 t2 sb hS2=>?_));have tk1:ss.take i++[ss[i]]=ss.take (i+1):=by rw[List.take_succ,AAs lt];rfl
  rw[tk1] at hS2;have k2:∀c o,c≠S->h'.get? c=some o->h2.get? c=some o:=λc o hc e=>(sb.2 c hc).trans e;refine AAB ⟨plainId_quiet PyProof.Rows.F.plain_set_update_loop _,ih (i+1) _ (by omega) lt (st.1.at λo e=>k2 I o hSI.symm e) (st.2.at λo e=>k2 l o hSl.symm e) hS2 λh3 t3 kp3 hS3=>?_⟩;exact q h3 t3 (λc o c1 c2 e=>kp3 c o c1 c2 (k2 c o c1 (kp c o (by simpa using c2) e))) hS3
end
section
variable{prog:Program}{w:World}{A:Around}{E:Value->Shared->Prop}{s:Shared}
set_option maxHeartbeats 2000000 in
theorem UP{T nid iid:String}{args:List Value}{Q Q₁:Value->Shared->Prop}(ft:TypeCalled T nid iid)(ok:checkTypeCall T ⟨args,[]⟩=pure ())
  (new:codeAny (model prog w) A.in1 (.call (.builtin nid) ⟨.type T::args,[]⟩) (wants Q₁ E) s)
  (init:∀x s₁,Q₁ x s₁->s₁.TypeIs x T/\codeAny (model prog w) A.in1 (.call (.builtin iid) ⟨x::args,[]⟩) (wants (λr s₂=>r=.none/\Q x s₂) E) s₁) :
  wpAny (model prog w) A (call (.type T) args) Q E s:=by
 have a1:=ft.notType;have a2:=ft.canCreate;have a3:=ft.made;have a4:=ft.sub;obtain⟨c,tl,a5⟩:=ft.mro;have step:codeAny (model prog w) A (.builtin "type.__call__" ⟨.type T::args,[]⟩) (wants Q E) s:=by
  refine codeAny_builtin F.entry_type_call ?_;rw[Around.under_plain (weight_type_call_type T args []) rfl];unfold Builtin.«type.__call__»
  iterate 3 (any_goals (first|assumption|wp_step))
  first|refine wpAny_of_eq ok ?_|refine AAA (wpAny_of_eq ok ?_)
  repeat (any_goals (first|assumption|wp_step))
  refine codeAny_mono new λr s₁ hr=>?_
  match r,hr with
  | .error e,hr=>exact hr
  | .ok (.ret x),hr=>
   obtain⟨ty,run⟩:=init x s₁ hr;have b1:=ft.init.lookup;have b2:=ft.init.bind x
   repeat (any_goals (first|assumption|wp_step))
   refine codeAny_mono run λr₂ s₂ hr₂=>?_
   match r₂,hr₂ with
   | .error e,hr₂=>exact hr₂
   | .ok (.ret y),hr₂=>
    obtain⟨ey,hq⟩:=hr₂;subst ey
    repeat (any_goals (first|assumption|wp_step))
 exact wpAny_call (codeAny_of_tree (AAB ⟨Code.quiet_builtin _ (by decide +kernel),step⟩))
noncomputable abbrev Cn(led:Bool):Obj:={ cls:=.type "set",data:=.set #[] 0 (.fresh 0 0 led) }
set_option maxHeartbeats 2000000 in
theorem Pp{l:Addr}{its:List Value}{ss:List Str}{Q:Value->Shared->Prop}(hh:A.handled=none)(hl:s.heap.IsList l its.toArray)(rv:Vals (ss.map V.str) its)(room:ss.length+2<scanBound)
  (q:∀h' tk,(∀c o,s.heap.get? c=some o->h'.get? c=some o)->h'.SetOf (strKind prog w) s.heap.objs.size (λk=>decide (k∈Bw ss)) (Bw ss).length->Q (.ref s.heap.objs.size) { s with heap:=h',toks:=tk }) :
  wpAny (model prog w) A (call (.type "set") [.ref l]) Q E s:=by
 refine UP F.called_set (F.typeCall_set_1 _) (code_set_new_1 (.ref l) (Q₁:=λx s₁=>∃led:Bool,x=.ref s.heap.objs.size/\s₁={ s with heap:=s.heap.push (Cn led) }) λled=>⟨led,rfl,rfl⟩) ?_;rintro x s₁ ⟨led,rfl,rfl⟩;have at_S:(s.heap.push (Cn led)).get? s.heap.objs.size=some (Cn led):=AAD _ rfl;have ty:Shared.TypeIs { s with heap:=s.heap.push (Cn led) } (.ref s.heap.objs.size) "set" := ⟨_,at_S,rfl⟩;have lt:l<s.heap.objs.size:=by obtain⟨o,e,_⟩:=hl;exact Heap.lt_size e
 have hl1:(s.heap.push (Cn led)).IsList l its.toArray:=hl.push _;have tyl:Shared.TypeIs { s with heap:=s.heap.push (Cn led) } (.ref l) "list" := hl1.typeIs;refine⟨ty,codeAny_call_builtin F.called_set.init.plain F.entry_set_init (check_set_init_1 ty ?_)⟩;have c1:=F.sub_list_set;have c2:=F.sub_list_frozenset;unfold Builtin.«set.__init__» noKeywords Builtin.Frozenset.updateFrom;have walk:∀(A:Around) (E:Value->Shared->Prop) (Q:Value->Shared->Prop),Q (.ref (s.heap.push (Cn led)).objs.size) { s with heap:=(s.heap.push (Cn led)).push { cls:=.type "list_iterator",data:=.fields #[.ref l,.int 0 0] } }->wpAny (model prog w) A (pyIter (.ref l)) Q E { s with heap:=s.heap.push (Cn led) }:=λA E Q z=>wpAny_pyIter_list hl1 z
 wp_walk using walk
 have sz:(s.heap.push (Cn led)).objs.size=s.heap.objs.size+1:=Heap.size_push ..;refine Qk (l:=l) (ss:=ss) (A:=A.in1.in1) (by simp[hh]) (by rw[sz];exact AAd (AAg lt)) (by rw[sz];exact AAd (Nat.lt_succ_self _)) (Nat.ne_of_gt lt) rv room ss.length 0 _ (Nat.sub_zero _) (AAi _) ⟨_,AAD _ rfl,rfl,rfl⟩ (hl1.push _) ?start λh' tk kp hS=>?fin
 case start=>
  exact(setObjOf_fresh (knd:=strKind prog w) led).setOf (AAC _ at_S) (by decide)
 case fin=>
  have ltS:∀{c:Addr} {o:Obj},s.heap.get? c=some o->c<s.heap.objs.size:=λe=>Heap.lt_size e;exact AAB (AAB ⟨rfl,q h' tk (λc o e=>kp c o (AAd (ltS e)) (by rw[sz];exact AAd (AAg (ltS e))) (AAC _ (AAC _ e))) hS⟩)
end
noncomputable def TV(P:Program)(w:World)(p:Addr)(ss:List Str):HO:=.ext λh=>h.SetOf (strKind P w) p (λk=>decide (k∈Bw ss)) (Bw ss).length
section
variable{X:Cx}
theorem Po(hc:X.calm=true):Cy X (.type "set") (λxs H Q=>∃a ss,xs=[.ref a]/\SqL X.kw H a (ss.map V.str)/\ss.length+2<scanBound/\∀p,H p=none->Q (.ref p) (upd H p (TV X.prog X.w p ss))):=by
 intro pins s σ H xs us Q I r h;obtain⟨a,ss,rfl,ha,room,q⟩:=h;obtain⟨u,rfl,ru⟩:=Vals.one r;cases ru;obtain⟨its,rv,pl,hz⟩:=I.list ha;refine Pp (I.ok.hd hc) pl.isList rv room λh' tk kp hS=>?_;refine⟨.ref s.heap.objs.size,_,I.laid (o:=TV X.prog X.w s.heap.objs.size ss) kp (AAF _) ?_,rfl,q _ (I.hok.fresh (AAF _))⟩;obtain⟨o,es,ep,t,e,rest⟩:=id hS;refine⟨hS,⟨o,e⟩,λh1 h2 z k=>?_⟩;obtain⟨o,es,ep,t,e,rest⟩:=z;exact⟨o,es,ep,t,k o e,rest⟩
theorem Ps:Cy X (.builtin "len") (λxs H Q=>∃p ss,xs=[.ref p]/\H p=some (TV X.prog X.w p ss)/\Q (.int (Bw ss).length) H):=by
 intro pins s σ H xs us Q I r h;obtain⟨p,ss,rfl,hp,q⟩:=h;obtain⟨u,rfl,ru⟩:=Vals.one r;cases ru;obtain⟨hS,_⟩:=I.hok p _ hp;obtain⟨o,es,ep,t,e,ex,hd,_,_,hb,hf,hn⟩:=hS;refine call_len_set e ex hd hf (by unfold scanBound at hb;omega) ?_;rw[hn];exact⟨.int (Bw ss).length,H,I.tok _,⟨_,rfl⟩,q⟩
end
end L2
namespace Mi
open PySem L2
noncomputable def HP:List D->Option (List Str)
 |[]=>some []
 | .str x::ds=>(HP ds).map (x::·)
 |_=>none
theorem Lc{K:KW}{ι:Nat->Addr}{k:Nat}{H:Hp}:∀{ds:List D} {vs:List V} {ss:List Str},IsL K ι k H ds vs->HP ds=some ss->vs=ss.map V.str
 |[],_,_,h,e=>by cases e;unfold IsL at h;exact h
 |d::ds,_,_,h,e=>by
  cases d with
  |str x=>
   unfold IsL at h;obtain⟨v,vs',rfl,h1,h2⟩:=h;have e':(HP ds).map (x::·)=some _:=e;cases q:HP ds with
   |none=>rw[q] at e';cases e'
   |some ss=>
    rw[q] at e';cases e';unfold Is at h1;rw[h1,Lc h2 q];rfl
  |_=>cases e
noncomputable def Fm(d:D):M D:=bnd (CW d) λds=>λμ=>match HP ds with
 |some ss=>if ss.length+2<scanBound then some (.int (Bw ss).length,μ) else none
 |none=>none
section
variable{X:Cx}{e:Expr}{pos p p2 pos2:Pos}
theorem Op{m:Sl->M D}(yl:X.mg "len" = none)(ys:X.mg "set" = none)(he:RE X e m)(hc:X.calm=true:=by rfl)(hgl:Gl X "len" := by rfl)(hgs:Gl X "set" := by rfl)(hst:Kw e=false:=by rfl):
  RE X (.Call (.Name "len" p) [.Call (.Name "set" p2) [e] [] pos2] [] pos) (mUn Fm m):=by
 have hs:PE X (.Call (.Name "set" p2) [e] [] pos2) _:=Jm (Po hc) hgs ys Mi.Sg (DP he.pe GE (A6 hst)) (by decide) (by decide) (A6 hst) rfl;refine RE.wk (FU Ps hgl yl Mi.A5 (DP hs GE (A6 rfl)) (by decide) (by decide) (A6 rfl) rfl) λσ H Q h=>?_;obtain⟨ι,μ,τ,d,μ',R,S,ev,q⟩:=h;obtain⟨x,μ1,e1,e2⟩:=AJ ev;obtain⟨ds,μ2,e3,e4⟩:=AJ e2;refine⟨ι,μ,τ,x,μ1,R,S,e1,λι1 H1 E1 R1 v1 i1=>?_⟩;obtain⟨hm,a,vs,rfl,h1,h2⟩:=DM R1 i1 e3;subst hm;cases hx:HP ds with
 |none=>rw[hx] at e4;cases e4
 |some ss=>
  rw[hx] at e4;have e5:(if ss.length+2<scanBound then some (D.int (Bw ss).length,μ2) else none)=some (d,μ'):=e4;split at e5
  ·rename_i room;cases e5;refine⟨a,ss,rfl,by rw[←Lc h2 hx];exact h1,room,λp hp=>?_⟩;obtain⟨E2,R2⟩:=R1.laid (TV X.prog X.w p ss) hp;exact⟨p,ss,rfl,Be,q ι1 _ (E1.trans E2) R2 _ (ofI _)⟩
  ·cases e5
end
inductive How where
 |all|drop|frz
noncomputable def RY(μ2:Mh):How->D->D
 | .frz,.ref n=>match μ2[n]? with
  |some (.lst ds)=>.lst ds
  |_=>.ref n
 |_,d=>d
noncomputable def Ij(μ μ2:Mh):How->Mh
 | .all=>μ2
 |_=>μ2.take μ.length
open Classical in
noncomputable def Bq(hw:How)(n ps:Nat)(mb:Sl->M (Fl×Sl)):List D->M D:=λds μ=>match mb (A9 n ds) μ with
 |some ((fl,_),μ2)=>if ds.length=ps/\(fl=.next∨∃d,fl=.rt d)/\FI μ μ2 (Ij μ μ2 hw) (ES fl) (RY μ2 hw (ES fl)) then some (RY μ2 hw (ES fl),Ij μ μ2 hw) else none
 |none=>none
theorem GM{hw:How}{n ps:Nat}{mb:Sl->M (Fl×Sl)}{ds:List D}{μ μ':Mh}{d:D}(h:Bq hw n ps mb ds μ=some (d,μ')):
  ds.length=ps/\∃fl τ2 μ2,mb (A9 n ds) μ=some ((fl,τ2),μ2)/\(fl=.next∨∃d,fl=.rt d)/\FI μ μ2 μ' (ES fl) d:=by
 unfold Bq at h;split at h
 ·rename_i fl τ2 μ2 e;split at h
  ·rename_i c;cases h;exact⟨c.1,fl,τ2,μ2,e,c.2.1,c.2.2⟩
  ·cases h
 ·cases h
theorem Fc{hw:How}{n ps:Nat}{mb:Sl->M (Fl×Sl)}{ds:List D}{μ μ2:Mh}{fl:Fl}{τ2:Sl}(e:mb (A9 n ds) μ=some ((fl,τ2),μ2))(hl:ds.length=ps)(hf:fl=.next∨∃d,fl=.rt d)(t:FI μ μ2 (Ij μ μ2 hw) (ES fl) (RY μ2 hw (ES fl))):
  Bq hw n ps mb ds μ=some (RY μ2 hw (ES fl),Ij μ μ2 hw):=by
 unfold Bq;rw[e];exact if_pos ⟨hl,hf,t⟩
theorem BZ{n ps:Nat}{mb:Sl->M (Fl×Sl)}{ds:List D}{μ g:Mh}{d:D}{τ2:Sl}(e:mb (A9 n ds) μ=some ((.rt d,τ2),μ++g))(hl:ds.length=ps)(c:Cl μ.length d):Bq .drop n ps mb ds μ=some (d,μ):=by
 have t:Ij μ (μ++g) .drop=μ:=by show (μ++g).take μ.length=μ;rw[List.take_left]
 have h:=Fc (hw:=.drop) e hl (.inr ⟨d,rfl⟩) (by rw[t];exact IP c);rw[t] at h;exact h
theorem HI{n ps:Nat}{mb:Sl->M (Fl×Sl)}{ds es:List D}{μ g:Mh}{k:Nat}{τ2:Sl}(e:mb (A9 n ds) μ=some ((.rt (.ref k),τ2),μ++g))(hl:ds.length=ps)(hk:μ.length<=k)(hg:(μ++g)[k]?=some (.lst es))(c:ClL μ.length es):Bq .frz n ps mb ds μ=some (.lst es,μ):=by
 have t:Ij μ (μ++g) .frz=μ:=by show (μ++g).take μ.length=μ;rw[List.take_left]
 have o:RY (μ++g) .frz (ES (.rt (.ref k)))=.lst es:=by
  show (match (μ++g)[k]? with|some (.lst ds)=>D.lst ds|_=>.ref k)=_;rw[hg]
 have h:=Fc (hw:=.frz) e hl (.inr ⟨_,rfl⟩) (by rw[t,o];exact⟨⟨g,rfl⟩,AAF _,λ_ _ z=>.inl z,.inr ⟨k,es,rfl,hg,hk,rfl,c⟩⟩);rw[t,o] at h;exact h
theorem JL{n ps:Nat}{mb:Sl->M (Fl×Sl)}{ds es:List D}{μ g:Mh}{τ2:Sl}(e:mb (A9 n ds) μ=some ((.rt (.lst es),τ2),μ++g))(hl:ds.length=ps)(c:ClL μ.length es):Bq .frz n ps mb ds μ=some (.lst es,μ):=by
 have t:Ij μ (μ++g) .frz=μ:=by show (μ++g).take μ.length=μ;rw[List.take_left]
 have h:=Fc (hw:=.frz) e hl (.inr ⟨_,rfl⟩) (by rw[t];exact IP (by show Cl _ (D.lst es);unfold Cl;exact c));rw[t] at h;exact h
theorem Cb(hw:How){P:Program}{w:World}{K:PySem.W.Frag}{mg:Str->Option Value}{base:Heap}{x qual:Str}{st:Stmt}{f:Addr}{fd:FuncData}{N ps:List Str}{k:Nat}{mb:Sl->M (Fl×Sl)}(F:Fun K x qual st f fd)(S:Aj N ps (AK st))(hm:mg x=some (.ref f))(hb:Binds K fd ps [])
  (body:∀(cdv:Value) (A:Around) (outer:List Env) (s:Shared) (H:Hp) (E:XK),Room k (A.deeper (PyProof.Rows.envOfC qual (AK st) s.heap.objs.size f cdv))->RSs (BY CX0 P w K mg base N qual (AK st) f cdv A outer s H E).nox (Af st) mb) :
  Fn P w K mg base x ps (k+1) (Bq hw N.length ps.length mb):=
 XT F S hm hb body (λds μ r h=>(GM (d:=r.1) (μ':=r.2) h).1) (λds μ d μ' h=>(GM h).2)
theorem Fn.mono{P:Program}{w:World}{K:PySem.W.Frag}{mg:Str->Option Value}{base:Heap}{x:Str}{ps:List Str}{j k:Nat}{φ:List D->M D}(F:Fn P w K mg base x ps j φ)(h:j<=k):Fn P w K mg base x ps k φ:=by
 obtain⟨len,f,fd,F,hm,hk,hb⟩:=F;exact⟨len,f,fd,F.mono h,hm,hk,hb⟩
theorem JE{P:Program}{w:World}{K:PySem.W.Frag}{mg:Str->Option Value}{base:Heap}{x qual:Str}{st:Stmt}{f:Addr}{fd:FuncData}{ps:List Str}{k:Nat}(F:Fun K x qual st f fd)(hm:mg x=some (.ref f))(hb:Binds K fd ps []):Fn P w K mg base x ps k (λ_=>Ba):=by
 refine⟨(λds μ r h=>absurd (show (none:Option (D×Mh))=some r from h) (by simp)),⟨f,fd,⟨λvs H Q E h=>?_,λA outer s H args us vs Q E _ _ _ _ h=>?_⟩,hm,F.kp,hb⟩⟩
 ·obtain⟨_,ι,μ,as,d,μ',_,_,e,_⟩:=h;cases e
 ·obtain⟨_,ι,μ,as,d,μ',_,_,e,_⟩:=h;cases e
section
variable{P:Program}{w:World}{K:PySem.W.Frag}{mg:Str->Option Value}{base h:Heap}{x:Str}
noncomputable def Gy:List Value->Option (List Str)
 |[]=>some []
 | .str s _::r=>(Gy r).map (s::·)
 |_::_=>none
theorem HN:∀{us:List Value} {xs:List Str},Gy us=some xs->Vals (xs.map V.str) us
 |[],xs,e=>by cases e;exact .nil
 |u::r,xs,e=>by
  cases u with
  |str s t=>
   have e:(Gy r).map (s::·)=some xs:=e;cases q:Gy r with
   |none=>rw[q] at e;cases e
   |some ys=>rw[q] at e;cases e;exact .cons ⟨t,rfl⟩ (HN q)
  |_=>cases e
def TupLit(K:PySem.W.Frag)(p:Addr)(xs:List Str):Prop:=∃od its n sl,K.lookup p=some ⟨.type "tuple",od,.seq its n,sl⟩/\Gy its.toList=some xs
theorem X1{p:Addr}{xs:List Str}{od:Option Addr}{its:Array Value}{n:Nat}{sl:Array (Option Value)}(l:K.lookup p=some ⟨.type "tuple",od,.seq its n,sl⟩)(e:Gy its.toList=some xs):TupLit K p xs:=⟨od,its,n,sl,l,e⟩
theorem MD{ι:Nat->Addr}{k:Nat}{H:Hp}:∀xs:List Str,IsL ⟨K,w⟩ ι k H (xs.map D.str) (xs.map V.str)
 |[]=>.nil
 |_::r=>.cons (by unfold Is;rfl) (MD r)
theorem TupLit.is{p:Addr}{xs:List Str}(h:TupLit K p xs)(hl:xs.length<=1000){ι:Nat->Addr}{k:Nat}{H:Hp}:Is ⟨K,w⟩ ι k H (.tup (xs.map D.str)) (.ref p):=by
 obtain⟨od,its,n,sl,l,e⟩:=h;have v:=HN e;unfold Is;refine⟨p,_,rfl,.inr ⟨_,its,n,l,rfl,rfl,?_,v⟩,MD xs⟩;have:=v.length;rw[AAG] at this;have z:its.size=xs.length:=by rw[this];simp
 rw[z];exact Nat.le_of_lt (Ol hl)
theorem Dk{i:Int}{t:Tok}(X:K.In h)(G:h.Ns mainGlobals mg)(a:PySem.W.nsIn K mainGlobals x=some (some (.int i t))):Glo K mg x (.int i):=
 ⟨_,.int i,PySem.W.mg_of X G a,⟨t,rfl⟩,λ_ _ _ _=>by unfold Is;rfl⟩
theorem Uj{s:Str}{t:Tok}(X:K.In h)(G:h.Ns mainGlobals mg)(a:PySem.W.nsIn K mainGlobals x=some (some (.str s t))):Glo K mg x (.str s):=
 ⟨_,.str s,PySem.W.mg_of X G a,⟨t,rfl⟩,λ_ _ _ _=>by unfold Is;rfl⟩
theorem K5{p:Addr}{xs:List Str}(X:K.In h)(G:h.Ns mainGlobals mg)(a:PySem.W.nsIn K mainGlobals x=some (some (.ref p)))(l:TupLit K p xs)(hl:xs.length<=1000):Glo K mg x (.tup (xs.map D.str)):=
 ⟨_,.ref p,PySem.W.mg_of X G a,rfl,λ_ _ _ _=>l.is hl⟩
noncomputable def TabIs(K:PySem.W.Frag):List DictEntry->List (Str×List Str)->Prop
 |[],t=>t=[]
 |e::es,t=>∃x ys t' tok p,t=(x,ys)::t'/\e.key=.str x tok/\e.val=.ref p/\TupLit K p ys/\ys.length<=1000/\TabIs K es t'
theorem TabIs.noref:∀{es:List DictEntry} {t:List (Str×List Str)},TabIs K es t->es.any (·.refKey)=false
 |[],_,_=>rfl
 |e::es,t,h=>by
  obtain⟨x,ys,t',tok,p,rfl,hk,_,_,_,r⟩:=h;rw[List.any_cons,r.noref,Bool.or_false];show DictEntry.refKey e=false;unfold DictEntry.refKey;rw[hk]
noncomputable def KP(t:List (Str×List Str))(y:Str):Option D:=(t.find? (·.1==y)).map λp=>.tup (p.2.map D.str)
theorem TabIs.find:∀{es:List DictEntry} {t:List (Str×List Str)} (y:Str),TabIs K es t->(es.find? (·.key.isStr y)=none/\KP t y=none)∨∃e p ys,es.find? (·.key.isStr y)=some e/\e.val=.ref p/\TupLit K p ys/\ys.length<=1000/\KP t y=some (.tup (ys.map D.str))
 |[],t,y,h=>by cases (show t=[] from h);exact .inl ⟨rfl,rfl⟩
 |e::es,t,y,h=>by
  obtain⟨x,ys,t',tok,p,rfl,hk,hv,l,hl,r⟩:=h;have q:e.key.isStr y=(x==y):=by rw[hk];rfl
  cases b:(x==y) with
  |true=>
   right;refine⟨e,p,ys,?_,hv,l,hl,?_⟩
   ·rw[List.find?_cons];simp only[q,b]
   ·unfold KP;rw[List.find?_cons];simp only[b];rfl
  |false=>
   have z1:(e::es).find? (·.key.isStr y)=es.find? (·.key.isStr y):=by rw[List.find?_cons];simp only[q,b]
   have z2:KP ((x,ys)::t') y=KP t' y:=by unfold KP;rw[List.find?_cons];simp only[b]
   rw[z1,z2];exact r.find y
theorem UZ{ad:Addr}{es:Array DictEntry}{n:Nat}{t:List (Str×List Str)}(X:K.In h)(G:h.Ns mainGlobals mg)(a:PySem.W.nsIn K mainGlobals x=some (some (.ref ad)))(l:K.lookup ad=some ⟨.type "dict",none,.dict es n,#[]⟩)(kl:PySem.W.KeysLit w.params es.toList)
  (hs:(ad==sysModules)=false) (T:TabIs K es.toList t):P4 w K mg x (KP t):=by
 refine⟨ad,PySem.W.mg_of X G a,λy=>?_⟩;have nr:=T.noref;rcases T.find y with ⟨f,g⟩|⟨e,p,ys,f,hv,tl,hl,g⟩
 ·refine⟨none,⟨y,es,n,none,rfl,l,kl,?_,trivial,hs⟩,.inl ⟨g,rfl⟩⟩;unfold PySem.W.nsIn;rw[l];simp only[f,nr];rfl
 ·refine⟨some (.ref p),⟨y,es,n,some (.ref p),rfl,l,kl,?_,rfl,hs⟩,.inr ⟨_,.ref p,g,rfl,λ_ _ _=>tl.is hl⟩⟩;unfold PySem.W.nsIn;rw[l];simp only[f,hv]
structure Df(K:PySem.W.Frag)(x:Str)(st:Stmt)(f:Addr)(fd:FuncData):Prop where
 a:PySem.W.nsIn K mainGlobals x=some (some (.ref f))
 F:Fun K x x st f fd
theorem ZC{st:Stmt}{f:Addr}{oc:Value}{od an:Option Addr}{osl:Array (Option Value)}{kV doc pm cdv ct:Value}(a:PySem.W.nsIn K mainGlobals x=some (some (.ref f)))(l:K.lookup f=some ⟨oc,od,.func (PySem.W.fnOf x x (Go st) (Af st) (AK st) .none kV doc pm an cdv ct),osl⟩)
  (c:PySem.W.codeIn K cdv x=true) (k:PySem.W.keepIn K (.ref f)=true):∃f fd,Df K x st f fd:=⟨f,_,a,XR l c k⟩
theorem SI(hw:How){qual:Str}{st:Stmt}{f:Addr}{fd:FuncData}{N ps:List Str}{k:Nat}{mb:Sl->M (Fl×Sl)}(F:Fun K x qual st f fd)(S:Aj N ps (AK st))
  (body:∀(cdv:Value) (A:Around) (outer:List Env) (s:Shared) (H:Hp) (E:XK),Room k (A.deeper (PyProof.Rows.envOfC qual (AK st) s.heap.objs.size f cdv))->RSs (BY CX0 P w K mg base N qual (AK st) f cdv A outer s H E).nox (Af st) mb) :
  FnOk P w K mg base CX0 (k+1) f fd ps (spM ⟨K,w⟩ ps.length (Bq hw N.length ps.length mb)):=
 Jw F S rfl body (λds μ d μ' h=>(GM h).2)
noncomputable def Np(K:PySem.W.Frag):Sp:=λvs H Q _=>∃(a:Addr) (ns:List Int),vs=[.ref a]/\ScrAt K H a (ns.map V.int)/\ns.length<=63/\∀H',Q (.bl true) H'
theorem Vh{k:Nat}{f:Addr}{fd:FuncData}{φ:List D->M D}(F:FnOk P w K mg base CX0 k f fd ["_law_script"] (spM ⟨K,w⟩ 1 φ))(hφ:∀ns:List Int,ns.length<=63->∃μ',φ [.scr ns] []=some (.bl true,μ')):FnOk P w K mg base CX0 k f fd ["_law_script"] (Np K):=
 F.imp λvs H Q E q=>by
  obtain⟨a,ns,rfl,s,hl,q⟩:=q;obtain⟨μ',e⟩:=hφ ns hl;refine⟨rfl,λ_=>a,[],[.scr ns],.bl true,μ',⟨λi j h=>absurd h (Nat.not_lt_zero _),λn o e=>by simp at e⟩,.one (by unfold Is;exact⟨a,rfl,s⟩),e,λι2 H2 E2 R2 v i=>?_⟩;unfold Is at i;rw[i];exact q H2
theorem Lf{H:Hp}{a:Addr}{xs:List V}(o:U3 H)(s:SqL K H a xs):ScrAt K H a xs:=by
 rcases s with z|z
 ·rcases z with z|⟨p,z⟩
  ·rcases o a with q|⟨p,ys,q⟩
   ·rw[q] at z;cases z
   ·rw[q] at z;cases z
  ·exact .inl ⟨p,z⟩
 ·exact .inr z
end
theorem Xr{l:PySem.W.OpenLaw}{q:Program}{loose:List Str}{XP:(Str->Option Value)->Heap->Prop}{YP:World->Heap->Prop}{d:DefRec}{K:Params->PySem.W.Frag}{k:Nat}(hn:l.most=some 63)(hdf:d.params.defaults=[])(hk:k<=60)
  (hY:∀(w:World) (h:Heap),YP w h->(K w.params).In h)
  (F:∀(w:World) (mg:Str->Option Value) (fa:Addr) (h:Heap),(K w.params).In h->h.Ns mainGlobals mg->mg d.name=some (.ref fa)->
   ∃fd:FuncData,(∀(s:Shared) (u:Value),BindsTo s fd ⟨[u],[]⟩ [("_law_script",u)])/\∀base:Heap,(K w.params).In base->base.Ns mainGlobals mg->FnOk l.prog w (K w.params) mg base CX0 k fa fd ["_law_script"] (Np (K w.params))) :
  PySem.W.WalkO q loose XP YP l.row.toRowW d [] (λf vs=>PySem.call f vs):=
 L2.TF (n:=63) (k:=k) (x := "_law_script") (CX:=λ_=>CX0) (sp:=λw=>Np (K w.params)) hn (by decide) hdf (Room.mono (j:=k) (k:=60) ⟨rfl,by decide,by decide⟩ hk) hY F (λ_ _ a ns hl o hS=>⟨a,ns,rfl,Lf o hS,hl,λ_=>rfl⟩) λ_ _ _ _ _ z=>z
def Pu{α:Type}(m:Sl->M α):Prop:=∀τ μ a μ',m τ μ=some (a,μ')->μ'=μ
def Pu2(g:D->D->M D):Prop:=∀x y μ a μ',g x y μ=some (a,μ')->μ'=μ
theorem Ts{i:Nat}:Pu (AD i):=λτ μ a μ' e=>by
 unfold AD at e;split at e
 ·cases e;rfl
 ·cases e
theorem Zl{d:D}:Pu (mC d):=λτ μ a μ' e=>by cases e;rfl
theorem Tq:Pu BO:=λτ μ a μ' e=>by cases e;rfl
theorem YT{g:D->D->M D}{ma mb:Sl->M D}(hg:Pu2 g)(ha:Pu ma)(hb:Pu mb):Pu (mOp g ma mb):=λτ μ a μ' e=>by
 obtain⟨x,μ1,e1,e2⟩:=AJ e;obtain⟨y,μ2,e3,e4⟩:=AJ e2;rw[hg _ _ _ _ _ e4,hb _ _ _ _ e3,ha _ _ _ _ e1]
theorem Tr{m:Sl->M D}(h:Pu m):Pu (Ac m):=λτ μ a μ' e=>by
 obtain⟨x,μ1,e1,e2⟩:=AJ e;have z:=h _ _ _ _ e1;cases x with
 |bl b=>cases e2;exact z
 |_=>cases e2
theorem WC{n:Bool}:Pu2 (Fy n):=λx y μ a μ' e=>by
 unfold Fy at e;split at e
 ·split at e
  ·cases e;rfl
  ·cases e
 ·cases e
theorem P3{d:D}{μ μ':Mh}{ds:List D}(e:CW d μ=some (ds,μ')):μ'=μ:=by
 cases d with
 |lst _=>cases e;rfl
 |scr _=>cases e;rfl
 |ref n=>
  have e:(match μ[n]? with|some (.lst ds)=>some (ds,μ)|_=>none)=some (ds,μ'):=e;split at e
  ·cases e;rfl
  ·cases e
 |_=>cases e
theorem P0{d:D}{μ μ':Mh}{ds:List D}(e:B4 d μ=some (ds,μ')):μ'=μ:=by
 cases d with
 |tup _=>cases e;rfl
 |_=>exact P3 (by unfold B4 at e;exact e)
theorem YU:Pu2 AT:=λx y μ a μ' e=>by
 unfold AT at e;split at e
 ·split at e
  ·rename_i z i hl;cases q:atI z.cps.toList i with
   |none=>rw[q] at e;cases e
   |some c=>rw[q] at e;cases e;rfl
  ·cases e
 ·obtain⟨ds,μ1,e1,e2⟩:=AJ e;have z:=P0 e1;unfold ixD at e2;rename_i i _;cases q:atI ds i with
  |none=>rw[q] at e2;cases e2
  |some c=>rw[q] at e2;cases e2;exact z
 ·cases e
section
variable{X:Cx}{scope:Scope}{tgs:List Str}{ix:List Nat}{e elt tg iter:Expr}{pos:Pos}
noncomputable def ZJ:D->M (List D)
 | .ref n=>λμ=>match μ[n]? with
  |some (.lst ds)=>some (ds,μ)
  |_=>none
 |_=>Ba
noncomputable def Gd(m:Sl->M D):Sl->M (List D):=λτ=>bnd (m τ) ZJ
noncomputable def ItP(K:KW)(J:It)(ds:List D)(ι:Nat->Addr)(μ:Mh)(H:Hp):Prop:=∀ι' H',Ext ι μ.length H ι' μ.length H'->RelH K ι' μ H'->
 (∀i,i<ds.length->J.go i H')/\J.stop ds.length H'/\∀(i:Nat) x H2 d,ds[i]?=some d->J.yld i H' x H2->Ext ι' μ.length H' ι' μ.length H2/\RelH K ι' μ H2/\Is K ι' μ.length H2 d x
theorem ItP.ext{K:KW}{J:It}{ds:List D}{ι ι':Nat->Addr}{μ:Mh}{H H':Hp}(h:ItP K J ds ι μ H)(E:Ext ι μ.length H ι' μ.length H'):ItP K J ds ι' μ H':=λι2 H2 E2 R2=>h ι2 H2 (E.trans E2) R2
noncomputable def tIP(K:KW)(m:Sl->M (List D)):TI:=λσ H R=>∃ι μ τ ds μ',RelH K ι μ H/\RelS K ι μ.length H τ σ/\m τ μ=some (ds,μ') /\
 Aft K ι μ H μ' λι' H'=>∀J,ItP K J ds ι' μ' H'->R J H'
structure RIP(X:Cx)(tg iter:Expr)(m:Sl->M (List D)):Prop where
 pe:PI X tg iter (tIP X.kw m)
theorem Qv{m:Sl->M D}(h:RE X e m):RIP X tg e (Gd m):=⟨PI.wk (N0 h.pe) λσ H Q q=>by
 obtain⟨ι,μ,τ,ds,μ',R0,S,e,q⟩:=q;obtain⟨x,μ1,e1,e⟩:=AJ e;cases x with
 |ref n=>
  have e:(match μ1[n]? with|some (.lst ds)=>some (ds,μ1)|_=>none)=some (ds,μ'):=e;split at e
  ·rename_i es hn;cases e;refine⟨ι,μ,τ,_,_,R0,S,e1,λι1 H1 E1 R1 v i1=>?_⟩;unfold Is at i1;obtain⟨hk,rfl⟩:=i1;obtain⟨u,hu,o⟩:=R1.obj n _ hn;obtain⟨vs,rfl,iv⟩:=o;refine⟨_,rfl,⟨vs,SqL.of hu⟩,q ι1 H1 E1 R1 _ ?_⟩;intro ι2 H2 E2 R2;obtain⟨u2,hu2,o2⟩:=R2.obj n _ hn;obtain⟨vs2,rfl,iv2⟩:=o2;rw[E2.agree n hk] at hu2;have hl:=iv2.length;refine⟨λj hj=>⟨vs2,vs2[j],SqL.of hu2,by simp⟩,⟨vs2,SqL.of hu2,by omega⟩,λj x H3 d hd y=>?_⟩;obtain⟨z,y⟩:=y;subst z;obtain⟨v,ev,iv3⟩:=iv2.get hd;have:=y vs2 (SqL.of hu2);rw[ev] at this;cases this;exact⟨R2.ext0,R2,iv3⟩
  ·cases e
 |_=>cases e⟩
theorem Qf{K:KW}{n:Nat}{src:Sl->M (List D)}{i:Nat}{mc:Sl->M Bool}{me:Sl->M D}{fin:List D->M D}{σ:St}{H:Hp}{Q:VK}(pc:Pu mc)(pm:Pu me)(hn:tgs.length=n)(hf:∀ι μ μ' H ds vs d (Q:VK),RelH K ι μ H->IsL K ι μ.length H ds vs->fin ds μ=some (d,μ')->(Aft K ι μ H μ' λι' H'=>∀v,Is K ι' μ'.length H' d v->Q v H')->
   vs.length<=sizeLine/\∀p,H p=none->Q (.ref p) (upd H p (.lst vs)))
  (h:tE K (BE n ix src (AM i) mc me fin) σ H Q):Ji tgs ix (tIP K src) (FG i) (tT K mc) (tE K me) σ H Q:=by
 subst hn;obtain⟨ι,μ,τ,d,μ',R,S,e,q⟩:=h;obtain⟨ds,ν,e1,e5⟩:=AJ e;obtain⟨u,μ2,e2,e6⟩:=AJ e5;obtain⟨zs,μ3,e3,e7⟩:=AJ e6;obtain⟨hl,e4⟩:=CN e2;clear e e5 e6;subst e4;refine⟨ι,μ,τ,ds,_,R,S,e1,λι1 H1 E1 R1 J it=>?_⟩;refine⟨λi' m ys H=>m=ds.length-i'/\i'<=ds.length/\ys.length<=i'/\∃(ι:Nat->Addr) (as:List D),RelH K ι μ2 H/\RelS K ι μ2.length H τ σ/\ItP K J ds ι μ2 H/\IsL K ι μ2.length H as ys/\B3 (AM i) mc me (BB tgs.length ix τ) (ds.drop i') as μ2=some (zs,μ3) /\
  Aft K ι μ2 H μ' λι' H'=>∀v,Is K ι' μ'.length H' d v->Q v H',⟨ds.length,by simp,AAi _,AAF _,ι1,[],R1,S.ext E1,it,.nil,e3,λι2 H2 E2 R2=>q ι2 H2 (E1.trans E2) R2⟩,?_⟩
 rintro i' m ys H ⟨hm,hil,hyl,ι,as,R,S,it,ia,e3,q⟩;obtain⟨go,stop,yl⟩:=it ι H R.ext0 R;by_cases hlt:i'<ds.length
 ·refine .inr ⟨go i' hlt,by omega,λys' H'=>ys'.length<=i'+1/\∃(ι:Nat->Addr) (as:List D),RelH K ι μ2 H'/\RelS K ι μ2.length H' τ σ/\ItP K J ds ι μ2 H'/\IsL K ι μ2.length H' as ys'/\B3 (AM i) mc me (BB tgs.length ix τ) (ds.drop (i'+1)) as μ2=some (zs,μ3) /\
   Aft K ι μ2 H' μ' λι' H'=>∀v,Is K ι' μ'.length H' d v->Q v H',λys' H' z=>⟨_,(by omega:ds.length-(i'+1)<m),rfl,hlt,z⟩,λx H2 y=>?_⟩
  have hd:ds[i']?=some ds[i']:=by simp[hlt]
  obtain⟨E2,R2,ix2⟩:=yl i' x H2 _ hd y;rw[List.drop_eq_getElem_cons hlt] at e3;obtain⟨τ1,μ1,e1,e3⟩:=AJ e3;cases e1;obtain⟨cc,μ5,e2,e3⟩:=AJ e3;have z5:=pc _ _ _ _ e2;subst z5;have S2:=(S.ext E2).block (tgs:=tgs) (ix:=ix);show tT K mc _ H2 _;refine⟨ι,_,_,cc,_,R2,S2.set i ix2,e2,λι3 H3 E3 R3=>?_⟩;have E13:=E2.trans E3;cases cc with
  |false=>
   exact⟨by omega,ι3,as,R3,S.ext E13,it.ext E13,ia.ext E13,e3,λι5 H5 E5 R5=>q ι5 H5 (E13.trans E5) R5⟩
  |true=>
   obtain⟨y',μ4,e4,e8⟩:=AJ e3;clear e3;have z4:=pm _ _ _ _ e4;subst z4;refine⟨ι3,_,_,y',_,R3,(S2.set i ix2).ext E3,e4,λι4 H4 E4 R4 v iv=>?_⟩;have E14:=E13.trans E4;exact⟨by simp;omega,ι4,as++[y'],R4,S.ext E14,it.ext E14,(ia.ext E14).append (.one iv),e8,λι5 H5 E5 R5=>q ι5 H5 (E14.trans E5) R5⟩
 ·have hi':i'=ds.length:=by omega
  subst hi';rw[List.drop_length] at e3;cases e3;obtain⟨z1,z2⟩:=hf ι _ μ' H _ ys d Q R ia e7 q;exact .inl ⟨stop,z1,z2⟩
theorem Lk{n:Nat}{ifs:List Expr}{src:Sl->M (List D)}{i:Nat}{mc:Sl->M Bool}{me:Sl->M D}(pc:Pu mc)(pm:Pu me)(S:BScope X scope tgs ix)(hc:X.calm=true)(hi:RIP X tg iter src)(hg:∀fp C s H,PG (cxB X scope tgs fp C s H) tg (FG i))(hif:∀fp C s H,Jb (cxB X scope tgs fp C s H) ifs (tT X.kw mc))(he:∀fp C s H,RE (cxB X scope tgs fp C s H) elt me)
  (hin:i<tgs.length:=by decide) (hn:tgs.length=n:=by rfl) (hs:∀x,foldedSetIterable iter X.env x=pure x:=by intro _;rfl) (ht:∀o v,letOwnedTupleGo tg o v=pure ():=by intro _ _;rfl):RE X (.ListComp elt [⟨tg,iter,ifs,0⟩] scope pos) (BE n ix src (AM i) mc me Am):=
 RE.wk (N1 (te:=tE X.kw me) S hc hi.pe hg (K6 hin) hif (λfp C s H=>(he fp C s H).pe) hs ht) λ_ _ _ h=>Qf pc pm hn (λ_ _ _ _ _ _ _ _ R i e q=>DQ R i e q) h
noncomputable def Xl(n:Nat):D->M D
 | .lst b=>λμ=>match μ[n]? with
  |some (.lst a)=>Am (a++b) μ
  |_=>none
 |_=>Ba
noncomputable def Ih(a b:D):M D:=match a with
 | .ref n=>Xl n b
 |_=>C8 a b
theorem M5:OpR X (binaryOp .Add) (rM X.kw Ih):=λpins s σ H x y v u Q I rx ry h=>by
 obtain⟨ι,μ,a,b,d,μ',R,ia,ib,e,q⟩:=h;cases a with
 |ref n=>
  cases b with
  |lst bs=>
   have e:(match μ[n]? with|some (.lst a)=>Am (a++bs) μ|_=>none)=some (d,μ'):=e;split at e
   ·rename_i as hn;obtain⟨w,hu,o⟩:=R.obj n _ hn;obtain⟨vs,rfl,iv⟩:=o;unfold Is at ia ib;obtain⟨hk,rfl⟩:=ia;obtain⟨p',vs',rfl,h1',hn',h2'⟩:=ib;obtain⟨hl,w⟩:=DQ R (iv.append h2') e q;exact Kk pins s σ H _ _ v u Q I rx ry ⟨_,p',vs,vs',rfl,rfl,hu,h1',by rw[←AAH];exact hl,w⟩
   ·cases e
  |_=>cases e
 |_=>exact FW pins s σ H _ _ v u Q I rx ry ⟨ι,μ,_,b,d,μ',R,ia,ib,e,q⟩
end
end Mi
namespace K1
open PySem L2 Mi
noncomputable def sl(xs:List Str):D:=.tup (xs.map D.str)
noncomputable def Ek:D:=.str "abcdefghijklmnopqrstuvwxyz"
noncomputable def GL:D:=.int 9
noncomputable def HF:D:=.int 5
noncomputable def FE:D:=sl ["+", "-", "=", "<", "and", "or"]
noncomputable def Ho:D:=sl ["safe", "steady", "whole"]
noncomputable def Dm:D:=.int 6
noncomputable def DS:D:=.int 2
noncomputable def Dl:D:=.int 4
noncomputable def EL:D:=.int 60
noncomputable def DR:D:=.int 400
noncomputable def Do:D:=.int 2
noncomputable def EK:D:=.int 10
noncomputable def EA:D:=sl ["not", "and", "or"]
noncomputable def tab_PARTS:List (Str×List Str):=[("put",["box", "expression"]),("get",["variable", "box"]),("let",["variable", "expression"]),("unless",["expression", "target"]),("jump",["target"]),("tell",["expression"]),("done",[])]
noncomputable def BL:Str->Option D:=KP tab_PARTS
noncomputable def D4  : Sl->M (Fl×Sl):=
  (BA (DE (AF F1 (AB (AD 0) (AB (mC (.ty "int")) AH))) (DE (L5 (AF F1 (AB (AD 0) (AB (mC (.ty "bool")) AH)))) (D6 GC GC (AD 1) (AD 0) (AD 2)))))
noncomputable def Ei  : Sl->M (Fl×Sl):=
  (BA (DE (AF F1 (AB (AD 0) (AB (mC (.ty "str")) AH))) (DE (D6 GC GC (mC (.int 1)) (AF Bk (AB (AD 0) AH)) (mC (.int 8))) (AF U0 (AB (BE 1 [] (Rm (AD 0)) (AM 0) BO (mOp (G1 false) (AD 0) (mC Ek)) Am) AH)))))
noncomputable def A8(aK:List D->M D):Sl->M (Fl×Sl):=
  (AS (sIf (Ac (mOp BF (mOp AT (AD 0) (mC (.int 0))) (mC (.str "num")))) (BA (AF Am AH)) BT)
  (AS (sIf (Ac (mOp BF (mOp AT (AD 0) (mC (.int 0))) (mC (.str "var")))) (BA (AF Am (AB (mOp AT (AD 0) (mC (.int 1))) AH))) BT)
  (AS (Ai (AF FA AH) (AM 1))
  (AS (Dv (CC (mSl (AD 0) (Bz (mC (.int 1))) Br)) (AM 2) (EH (Ch SJ (AD 1) (AB (AF aK (AB (AD 2) AH)) AH))))
  (BA (AD 1))))))
noncomputable def D5  : Sl->M (Fl×Sl):=
  (BA (DE (AF F1 (AB (AD 0) (AB (mC (.ty "tuple")) AH))) (D6 GC GC (AD 1) (AF Bk (AB (AD 0) AH)) (AD 2))))
noncomputable def Ca  : Sl->M (Fl×Sl):=
  (BA (mOp BF (mUn Fm (AD 0)) (AF Bk (AB (AD 0) AH))))
noncomputable def A1(aK:List D->M D):Sl->M (Fl×Sl):=
  (AS (Ai (AF FA AH) (AM 1))
  (AS (Dv (PD (AB (mUn (MA BL) (mOp AT (AD 0) (mC (.int 0)))) (AB (mSl (AD 0) (Bz (mC (.int 1))) Br) AH))) (GN [2,3]) (AS (sIf (Ac (mOp BF (AD 2) (mC (.str "variable")))) (EH (Ch HM (AD 1) (AB (AD 3) AH))) BT)
  (sIf (Ac (mOp BF (AD 2) (mC (.str "expression")))) (EH (Ch SJ (AD 1) (AB (AF aK (AB (AD 3) AH)) AH))) BT)))
  (BA (AD 1))))
noncomputable def B1  : Sl->M (Fl×Sl):=
  (AS (sIf (Ac (mOp FL (AD 1) (AF Bk (AB (AD 0) AH)))) (BA (mOp AT (AD 0) (AD 1))) BT)
  (BA (mC (.int 0))))
noncomputable def Fk  : Sl->M (Fl×Sl):=
  (BA (AF FA (AB (AF UN (AB (mC (.int 0)) (AB (mOp Dz (AD 0) (mOp Lp (mC (.int 10)) (mC (.int 9)))) AH))) (AB (mOp FT (AD 0) (mC (.int 2147483647))) (AB (mC (.int 0)) AH)))))
noncomputable def EI  : Sl->M (Fl×Sl):=
  (AS (sIf (Ac (mOp Ie (mOp AT (AD 0) (mC (.int 0))) (mC (.int 0)))) (AS (Ai (mOp FT (mOp AT (AD 0) (mC (.int 0))) (AD 1)) (AM 2))
  (AS (Ai (mOp G3 (mOp AT (AD 0) (mC (.int 0))) (AD 1)) (Sj (AD 0) (mC (.int 0))))
  (BA (AD 2)))) BT)
  (AS (Ai (mOp C8 (mOp AT (AD 0) (mC (.int 2))) (mC (.int 1))) (Sj (AD 0) (mC (.int 2))))
  (AS (Ai (mOp FT (mOp DX (mOp C8 (mOp C8 (mOp AT (AD 0) (mC (.int 1))) (mOp DX (mC (.int 7919)) (mOp AT (AD 0) (mC (.int 2))))) (mC (.int 1))) (mC (.int 48271))) (mC (.int 2147483647))) (AM 3))
  (AS (Ai (mOp FT (mOp DX (AD 3) (mOp C8 (mOp G3 (AD 3) (mC (.int 1009))) (mC (.int 69621)))) (mC (.int 2147483647))) (AM 3))
  (AS (Ai (mOp FT (mOp DX (AD 3) (mOp C8 (mOp G3 (AD 3) (mC (.int 2003))) (mC (.int 40692)))) (mC (.int 2147483399))) (AM 3))
  (BA (mOp FT (mOp C8 (mOp DX (AD 3) (mC (.int 48271))) (mOp G3 (AD 3) (mC (.int 7)))) (AD 1))))))))
noncomputable def Gc(Z3:List D->M D)(aX:List D->M D):Sl->M (Fl×Sl):=
  (AS (Ai (AF Z3 (AB (AD 0) (AB (mC (.int 10)) AH))) (AM 3))
  (AS (sIf (mOr (Ac (mOp BF (AD 2) (mC (.int 1)))) (Ac (mOp FL (AD 3) (mC (.int 3))))) (AS (sIf (mOr (Ac (mOp BF (AD 1) (AF Am AH))) (Ac (mOp BF (AF Z3 (AB (AD 0) (AB (mC (.int 2)) AH))) (mC (.int 0))))) (BA (AF AY (AB (mC (.str "num")) (AB (AF Z3 (AB (AD 0) (AB (mC (.int 10)) AH))) AH)))) BT)
  (BA (AF AY (AB (mC (.str "var")) (AB (mOp AT (AD 1) (AF Z3 (AB (AD 0) (AB (AF Bk (AB (AD 1) AH)) AH)))) AH))))) BT)
  (AS (sIf (Ac (mOp BF (AD 3) (mC (.int 3)))) (BA (AF AY (AB (mC (.str "not")) (AB (AF aX (AB (AD 0) (AB (AD 1) (AB (mOp Dz (AD 2) (mC (.int 1))) AH)))) AH)))) BT)
  (AS (Ai (mOp AT (AF Am (AB (mC (.str "+")) (AB (mC (.str "-")) (AB (mC (.str "=")) (AB (mC (.str "<")) (AB (mC (.str "and")) (AB (mC (.str "or")) AH))))))) (mOp Dz (AD 3) (mC (.int 4)))) (AM 4))
  (AS (Ai (AF aX (AB (AD 0) (AB (AD 1) (AB (mOp Dz (AD 2) (mC (.int 1))) AH)))) (AM 5))
  (AS (Ai (AF aX (AB (AD 0) (AB (AD 1) (AB (AF PB (AB (mOp Dz (AD 2) (mC (.int 1))) (AB (mC (.int 2)) AH))) AH)))) (AM 6))
  (BA (mOp AT (AF Am (AB (AF AY (AB (AD 4) (AB (AD 5) (AB (AD 6) AH)))) (AB (AF AY (AB (AD 4) (AB (AD 6) (AB (AD 5) AH)))) AH))) (AF Z3 (AB (AD 0) (AB (mC (.int 2)) AH)))))))))))
noncomputable def Kn(Z3:List D->M D)(aX:List D->M D):Sl->M (Fl×Sl):=
  (AS (Ai (AF Z3 (AB (AD 0) (AB (mC (.int 8)) AH))) (AM 6))
  (AS (Ai (mOp AT (AF Am (AB (mC (.int 1)) (AB (mC (.int 2)) (AB (mC (.int 3)) (AB (mC (.int 5)) AH))))) (AF Z3 (AB (AD 0) (AB (mC (.int 4)) AH)))) (AM 7))
  (AS (sIf (Ac (mOp Ie (AD 4) (mC (.int 9)))) (Ai (AF PB (AB (AD 7) (AB (mC (.int 2)) AH))) (AM 7)) BT)
  (AS (Ai (mOp C8 (AD 3) (mOp DX (AF Am (AB (mC (.str "v")) AH)) (AF JA (AB (AD 5) AH)))) (AM 8))
  (AS (sIf (Ip (Ac (mOp FL (AD 6) (mC (.int 2)))) (Ac (mOp Dd (AD 1) (AF Am AH)))) (BA (AF AY (AB (mC (.str "put")) (AB (mOp AT (AD 1) (AF Z3 (AB (AD 0) (AB (AF Bk (AB (AD 1) AH)) AH)))) (AB (AF aX (AB (AD 0) (AB (AD 8) (AB (AD 7) AH)))) AH))))) BT)
  (AS (sIf (Ip (Ac (mOp FL (AD 6) (mC (.int 4)))) (Ac (mOp Dd (AD 2) (AF Am AH)))) (BA (AF AY (AB (mC (.str "get")) (AB (mOp AT (AD 3) (AF Z3 (AB (AD 0) (AB (AF Bk (AB (AD 3) AH)) AH)))) (AB (mOp AT (AD 2) (AF Z3 (AB (AD 0) (AB (AF Bk (AB (AD 2) AH)) AH)))) AH))))) BT)
  (AS (sIf (Ac (mOp FL (AD 6) (mC (.int 5)))) (BA (AF AY (AB (mC (.str "let")) (AB (mOp AT (AD 3) (AF Z3 (AB (AD 0) (AB (AF Bk (AB (AD 3) AH)) AH)))) (AB (AF aX (AB (AD 0) (AB (AD 8) (AB (AD 7) AH)))) AH))))) BT)
  (AS (sIf (Ac (mOp BF (AD 6) (mC (.int 5)))) (BA (AF AY (AB (mC (.str "unless")) (AB (AF aX (AB (AD 0) (AB (AD 8) (AB (AD 7) AH)))) (AB (AF Z3 (AB (AD 0) (AB (mOp C8 (AD 4) (mC (.int 1))) AH))) AH))))) BT)
  (AS (sIf (Ac (mOp BF (AD 6) (mC (.int 6)))) (BA (AF AY (AB (mC (.str "jump")) (AB (AF Z3 (AB (AD 0) (AB (mOp C8 (AD 4) (mC (.int 1))) AH))) AH)))) BT)
  (BA (mOp AT (AF Am (AB (AF AY (AB (mC (.str "tell")) (AB (AF aX (AB (AD 0) (AB (AD 8) (AB (AD 7) AH)))) AH))) (AB (AF AY (AB (mC (.str "done")) AH)) AH))) (AF JA (AB (AD 5) AH)))))))))))))
noncomputable def CT:List D->M D:=Bq .drop 2 2 (B1)
noncomputable def Gj:List D->M D:=Bq .all 1 1 (Fk)
noncomputable def BC:List D->M D:=Bq .drop 4 2 (EI)
noncomputable def DD:Nat->List D->M D
 |0=>λ_=>Ba
 |n+1=>Bq .drop 7 3 (Gc BC (DD n))
noncomputable def HB:List D->M D:=Bq .drop 9 6 (Kn BC (DD 6))
noncomputable def CP:List D->M D:=Bq .drop 3 3 (D5)
noncomputable def CO:List D->M D:=Bq .drop 3 3 (D4)
noncomputable def CA:List D->M D:=Bq .drop 1 1 (Ei)
noncomputable def B2:List D->M D:=Bq .drop 1 1 (Ca)
noncomputable def BQ:Nat->List D->M D
 |0=>λ_=>Ba
 |n+1=>Bq .frz 3 1 (A8 (BQ n))
noncomputable def DC:List D->M D:=Bq .frz 4 1 (A1 (BQ 6))
end K1
namespace Mi
open PySem L2 PyProof.Rows
section
variable{X:Cx}{e a b c:Expr}{pos:Pos}
theorem Ra:OpR X (binaryOp .Add) (λx y H Q=>∃a b ys,x=.ref a/\y=.ref b/\SqT X.kw H a []/\SqT X.kw H b ys/\Q (.ref b) H):=by
 intro pins s σ H x y v u Q I rx ry h;obtain⟨a,b,ys,rfl,rfl,ha,hb,q⟩:=h;cases rx;cases ry;obtain⟨its,r1,p1,_⟩:=I.tuple ha;obtain⟨its2,r2,p2,_⟩:=I.tuple hb;cases r1;obtain⟨⟨cls,dd,data,sl⟩,ho,hc,n,hd⟩:=p1;obtain⟨⟨cls2,dd2,data2,sl2⟩,ho2,hc2,n2,hd2⟩:=p2;simp only at hc hd hc2 hd2;subst hc hd hc2 hd2;exact concat_meets ⟨_,ho,rfl⟩ ⟨_,ho2,rfl⟩ noFill_tuple_add seq_tuple_add PySem.F.slot_tuple_add PySem.F.entry_tuple_add (PySem.F.args_tuple_add_2 _ _) (tuple_addW0 a b _ _ n n2 dd dd2 sl sl2 rfl) ⟨ho,ho2,⟨.ref b,H,I,rfl,q⟩⟩
noncomputable def A7(a b:D):M D:=match a,b with
 | .tup [],.tup ds=>ret (.tup ds)
 |a,b=>C8 a b
theorem Bb:OpR X (binaryOp .Add) (rM X.kw A7):=λpins s σ H x y v u Q I rx ry h=>by
 obtain⟨ι,μ,a,b,d,μ',R,ia,ib,e,q⟩:=h;unfold A7 at e;split at e
 ·rename_i ds;cases e;unfold Is at ia;obtain⟨p,vs,rfl,h1,h2⟩:=ia;unfold IsL at h2;subst h2;have ib2:=ib;unfold Is at ib;obtain⟨p',vs',rfl,h1',h2'⟩:=ib;exact Ra pins s σ H _ _ v u Q I rx ry ⟨p,p',vs',rfl,rfl,h1,h1',q ι H R.ext0 R _ ib2⟩
 ·exact FW pins s σ H x y v u Q I rx ry ⟨ι,μ,_,_,d,μ',R,ia,ib,e,q⟩
theorem Ja{prog:Program}{w:World}{A:Around}{E:Value->Shared->Prop}{s:Shared}{t sl:Addr}{items:Array Value}{vl vu:Value}{lo hi:Option Int}{Q:Value->Shared->Prop}(ht:IsTup s.heap t items)(hs:s.heap.IsSliceOf sl vl vu .none)(pl:IsPart vl lo)(pu:IsPart vu hi)
  (h1:HT.sIx items.size 0 lo=0) (h2:HT.sIx items.size items.size hi=items.size) (h:Q (.ref t) s):wpAny (model prog w) A (getItem (.ref t) (.ref sl)) Q E s:=by
 obtain⟨os,hos,hcs,hds⟩:=id hs;have hTs:s.TypeIs (.ref sl) "slice" := ⟨os,hos,hcs⟩;unfold getItem
 try with_reducible refine AAm ?_
 first|refine AAA (AAB ?_)|skip
 refine AAA (wpAny_sequenceKey ht.typeIs (by decide) ?_);refine AAA (wpAny_callSpecial?_slot (name:=Str.ofString "__getitem__") ht.typeIs PyProof.Rows.slot_tuple_getitem
  (AAc PyProof.Rows.slot_tuple_getitem ht.typeIs entry_tuple_getitem ?_ (args_tuple_getitem _ _)))
 show wpAny _ _ (Builtin.Tuple.tupleItemsOf (.ref t) >>= _) _ _ s;refine AAA (tupleItemsOf_ ht ?_);refine AAA (wpAny_typeOf hTs ?_);rw[if_pos (by decide)];refine AAA (HT.Eb hs pl pu ?_);have hyes:((((HT.sIx items.size 0 lo:Nat):Int)==0&&(1:Int)==1&&(HT.sIx items.size items.size hi-HT.sIx items.size 0 lo)==items.size)=true):=by rw[h1,h2];simp
 show wpAny _ _ (if (((HT.sIx items.size 0 lo:Nat):Int)==0&&(1:Int)==1&&(HT.sIx items.size items.size hi-HT.sIx items.size 0 lo)==items.size)=true then _ else _) _ _ s;rw[if_pos hyes];refine AAA (m:=Builtin.Tuple.tupleIsExact (.ref t)) ?_;unfold Builtin.Tuple.tupleIsExact;refine AAA (wpAny_typeOf ht.typeIs (AAB ?_));rw[if_pos (by decide)];refine AAA (wpAny_rule ?_);exact AAB ⟨_,rfl,AAB h⟩
theorem TR:SlR X (λx lo hi H Q=>∃a xs,x=.ref a/\SqT X.kw H a xs/\HT.sIx xs.length 0 lo=0/\HT.sIx xs.length xs.length hi=xs.length/\Q (.ref a) H):=by
 intro pins s σ H x v vl vu lo hi sl Q I rx hs pl pu h;obtain⟨a,xs,rfl,hx,h1,h2,q⟩:=h;cases rx;obtain⟨its,r,ht,hz⟩:=I.tuple hx;have hlen:its.toArray.size=xs.length:=by rw[List.size_toArray];exact r.length.symm
 refine⟨"tuple",_,PyProof.Rows.slot_tuple_getitem.lookup,ht.typeIs,?_⟩;exact Ja ht hs pl pu (by rw[hlen];exact h1) (by rw[hlen];exact h2) ⟨.ref a,H,I,rfl,q⟩
theorem SX{ds:List D}{lo hi:Option Int}(h1:HT.sIx ds.length 0 lo=0)(h2:HT.sIx ds.length ds.length hi=ds.length):FN ds lo hi=ds:=by
 unfold FN;rw[h1,h2];simp
noncomputable def Ic(lo hi:Option Int):D->M D
 | .tup ds=>ret (.tup (FN ds lo hi))
 |d=>bnd (CW d) λds=>ret (.lst (FN ds lo hi))
noncomputable def Zj(K:KW):V->Option Int->Option Int->Hp->VK->Prop:=λx lo hi H Q=>∃ι μ a d μ',RelH K ι μ H/\Is K ι μ.length H a x/\Ic lo hi a μ=some (d,μ') /\
 Aft K ι μ H μ' λι' H'=>∀v,Is K ι' μ'.length H' d v->Q v H'
theorem Yl:SlR X (Zj X.kw):=λpins s σ H x v vl vu lo hi sl Q I rx hs pl pu h=>by
 obtain⟨ι,μ,a,d,μ',R,ia,e,q⟩:=h;by_cases c:∃ds,a=.tup ds/\HT.sIx ds.length 0 lo=0/\HT.sIx ds.length ds.length hi=ds.length
 ·obtain⟨ds,rfl,h1,h2⟩:=c;have e:some (D.tup (FN ds lo hi),μ)=some (d,μ'):=e;rw[SX h1 h2] at e;cases e;have ia2:=ia;unfold Is at ia;obtain⟨p,vs,rfl,g1,g2⟩:=ia;exact TR pins s σ H _ v vl vu lo hi sl Q I rx hs pl pu ⟨p,vs,rfl,g1,by rw[g2.length];exact h1,by rw[g2.length];exact h2,q ι H R.ext0 R _ ia2⟩
 ·refine Ym pins s σ H x v vl vu lo hi sl Q I rx hs pl pu ⟨ι,μ,a,d,μ',R,ia,?_,q⟩;cases a with
  |tup ds=>
   show (if HT.sIx ds.length 0 lo=0/\HT.sIx ds.length ds.length hi=ds.length then (Ba:M D) else ret (D.tup (FN ds lo hi))) μ=_;rw[if_neg (λz=>c ⟨ds,rfl,z.1,z.2⟩)];exact e
  |_=>exact e
noncomputable def Ej(me:Sl->M D)(ml mh:Sl->M (Option Int)):Sl->M D:=λτ=>bnd (me τ) λx=>bnd (ml τ) λl=>bnd (mh τ) λh=>Ic l h x
theorem DI{e:Expr}{lo hi:Option Expr}{me:Sl->M D}{ml mh:Sl->M (Option Int)}{pos p2:Pos}(he:RE X e me)(hl:RO X lo ml)(hh:RO X hi mh):RE X (.Subscript e (.Slice lo hi none p2) pos) (Ej me ml mh):=RE.wk (Ls Yl he.pe hl.pe hh.pe) λσ H Q h=>by
 obtain⟨ι,μ,τ,z,μ',R,S,e,q⟩:=h;obtain⟨x,μ1,e1,e⟩:=AJ e;obtain⟨l,μ2,e2,e⟩:=AJ e;obtain⟨u,μ3,e3,e⟩:=AJ e;refine⟨ι,μ,τ,x,μ1,R,S,e1,λι1 H1 E1 R1 v i1=>⟨ι1,μ1,τ,l,μ2,R1,S.ext E1,e2,λι2 H2 E2 R2=>⟨ι2,μ2,τ,u,μ3,R2,S.ext (E1.trans E2),e3,λι3 H3 E3 R3=>?_⟩⟩⟩;have E23:=E2.trans E3;exact⟨ι3,μ3,x,z,μ',R3,i1.ext E23,e,λι4 H4 E4 R4=>q ι4 H4 ((E1.trans E23).trans E4) R4⟩
end
end Mi
namespace Mi
open PySem L2
open PyProof.Rows hiding St
end Mi
namespace Mi
open PySem L2
end Mi
local macro_rules | `(tactic| wtm_at "l")=>`(tactic| repeat first|exact Mi.Ts|exact Mi.Zl|exact Mi.Tq|exact Mi.YU|exact Mi.WC|exact Mi.pu_nil|exact Mi.pu_inst|exact Mi.pu_len|apply Mi.Tr|apply Mi.YT|apply Mi.pu_cons|apply Mi.pu_disp|apply Mi.pu_or|apply Mi.pu_and|apply Mi.pu_not)
namespace Ht
open PySem PySem.SetTable
end Ht
namespace Ht
open PySem PySem.SetTable
open PyProof.Rows
end Ht
namespace Ht
open PySem PySem.Spec PyProof.Rows Sem L2
end Ht
namespace Ht
open PySem PySem.Spec PyProof.Rows Sem L2 PySem.SetTable
end Ht
namespace Ht
end Ht
namespace L2
open PySem PySem.Spec PyProof.Rows Sem Ht
end L2
namespace Mi
open PySem L2 Ht
end Mi
namespace L2
open PySem PySem.Spec PyProof.Rows Sem Ht
end L2
namespace Mi
open PySem L2 Ht
end Mi
namespace L2
open PySem PySem.Spec PyProof.Rows Sem Ht
end L2
namespace Mi
open PySem L2 Ht
end Mi
namespace L2
open PySem PySem.Spec PyProof.Rows Sem Ht
end L2
namespace Mi
open PySem L2 Ht
end Mi
namespace L2
open PySem PySem.Spec PyProof.Rows Sem
end L2
namespace L2
open PySem PySem.Spec PyProof.Rows
end L2
namespace Mi
open PySem L2
end Mi
namespace Pk
open PySem PySem.Spec PyProof.Rows L2 Mi PySem.MeetsSeq PySem.SeqAt
mutual
def draws:D->Nat
 | .tup ks=>HE ks+1
 |_=>1
def HE:List D->Nat
 |[]=>0
 |k::ks=>draws k+HE ks
end
mutual
def At(h:Heap):D->Value->Prop
 | .non,v=>v=.none
 | .int i,v=>∃t,v=.int i t
 | .str x,v=>∃t,v=.str x t
 | .tup ks,v=>∃a o items n,v=.ref a/\h.get? a=some o/\o.cls=.type "tuple" /\ o.data=.seq items n/\Ats h ks items.toList
 |_,_=>False
def Ats(h:Heap):List D->List Value->Prop
 |[],vs=>vs=[]
 |k::ks,vs=>∃v vs',vs=v::vs'/\At h k v/\Ats h ks vs'
end
theorem NJ{h:Heap}{v:Value}(a:At h .non v):v=.none:=by unfold At at a;exact a
theorem LH{h:Heap}{i:Int}{v:Value}(a:At h (.int i) v):∃t,v=.int i t:=by unfold At at a;exact a
theorem LG{h:Heap}{x:Str}{v:Value}(a:At h (.str x) v):∃t,v=.str x t:=by unfold At at a;exact a
theorem GO{h:Heap}{ks:List D}{v:Value}(a:At h (.tup ks) v):∃a o items n,v=.ref a/\h.get? a=some o/\o.cls=.type "tuple" /\ o.data=.seq items n/\Ats h ks items.toList:=by unfold At at a;exact a
theorem At.shape{h:Heap}{v:Value}:∀{k:D},At h k v->(k=.non/\v=.none)∨(∃i t,k=.int i/\v=.int i t)∨(∃x t,k=.str x/\v=.str x t)∨∃ks a,k=.tup ks/\v=.ref a
 | .non,a=>.inl ⟨rfl,NJ a⟩
 | .int i,a=>.inr (.inl ⟨i,(LH a).choose,rfl,(LH a).choose_spec⟩)
 | .str i,a=>.inr (.inr (.inl ⟨i,(LG a).choose,rfl,(LG a).choose_spec⟩))
 | .tup ks,a=>.inr (.inr (.inr (by obtain⟨x,_,_,_,e,_⟩:=GO a;exact⟨ks,x,rfl,e⟩)))
 | .bl _,a | .ty _,a | .scr _,a | .lst _,a | .ref _,a=>by unfold At at a;exact a.elim
mutual
theorem At.inj{h:Heap}:∀{k j:D} {v:Value},At h k v->At h j v->k=j
 | .tup ks,j,v,a,b=>by
  rcases b.shape with ⟨rfl,e⟩|⟨i,t,rfl,e⟩|⟨x,t,rfl,e⟩|⟨js,y,rfl,e⟩
  ·obtain⟨_,_,_,_,e2,_⟩:=GO a;rw[e] at e2;cases e2
  ·obtain⟨_,_,_,_,e2,_⟩:=GO a;rw[e] at e2;cases e2
  ·obtain⟨_,_,_,_,e2,_⟩:=GO a;rw[e] at e2;cases e2
  ·obtain⟨x,o,items,n,rfl,h1,_,h3,h4⟩:=GO a;obtain⟨x',o',items',n',e',h1',_,h3',h4'⟩:=GO b;cases e';rw[h1] at h1';cases h1';rw[h3] at h3';cases h3';rw[Ats.inj h4 h4']
 | .non,j,v,a,b=>by
  cases NJ a;rcases b.shape with ⟨rfl,e⟩|⟨i,t,rfl,e⟩|⟨x,t,rfl,e⟩|⟨js,y,rfl,e⟩<;>first|rfl|cases e
 | .int i,j,v,a,b=>by
  obtain⟨t,rfl⟩:=LH a;rcases b.shape with ⟨rfl,e⟩|⟨i,t,rfl,e⟩|⟨x,t,rfl,e⟩|⟨js,y,rfl,e⟩
  ·cases e
  ·injection e with e1 _;rw[e1]
  ·cases e
  ·cases e
 | .str i,j,v,a,b=>by
  obtain⟨t,rfl⟩:=LG a;rcases b.shape with ⟨rfl,e⟩|⟨i,t,rfl,e⟩|⟨x,t,rfl,e⟩|⟨js,y,rfl,e⟩
  ·cases e
  ·cases e
  ·injection e with e1 _;rw[e1]
  ·cases e
 | .bl _,_,_,a,_ | .ty _,_,_,a,_ | .scr _,_,_,a,_ | .lst _,_,_,a,_ | .ref _,_,_,a,_=>by unfold At at a;exact a.elim
theorem Ats.inj{h:Heap}:∀{ks js:List D} {vs:List Value},Ats h ks vs->Ats h js vs->ks=js
 |[],[],_,_,_=>rfl
 |[],_::_,vs,a,b=>by
  unfold Ats at a b;subst a;obtain⟨_,_,e,_⟩:=b;cases e
 |_::_,[],vs,a,b=>by
  unfold Ats at a b;subst b;obtain⟨_,_,e,_⟩:=a;cases e
 |k::ks,j::js,vs,a,b=>by
  unfold Ats at a b;obtain⟨v,vs',rfl,a1,a2⟩:=a;obtain⟨v',vs'',e,b1,b2⟩:=b;cases e;rw[At.inj a1 b1,Ats.inj a2 b2]
end
mutual
theorem At.kept{h h':Heap}:∀{k:D} {v:Value},At h k v->(∀a o items n,h.get? a=some o->o.cls=.type "tuple" -> o.data=.seq items n->h'.get? a=some o)->At h' k v
 | .non,v,a,_ | .int i,v,a,_ | .str i,v,a,_=>by unfold At at a ⊢;exact a
 | .tup ks,v,a,kp=>by
  unfold At at a ⊢;obtain⟨x,o,items,n,rfl,h1,h2,h3,h4⟩:=a;exact⟨x,o,items,n,rfl,kp x o items n h1 h2 h3,h2,h3,Ats.kept h4 kp⟩
 | .bl _,_,a,_ | .ty _,_,a,_ | .scr _,_,a,_ | .lst _,_,a,_ | .ref _,_,a,_=>by unfold At at a;exact a.elim
theorem Ats.kept{h h':Heap}:∀{ks:List D} {vs:List Value},Ats h ks vs->(∀a o items n,h.get? a=some o->o.cls=.type "tuple" -> o.data=.seq items n->h'.get? a=some o)->Ats h' ks vs
 |[],vs,a,_=>by unfold Ats at a ⊢;exact a
 |k::ks,vs,a,kp=>by
  unfold Ats at a ⊢;obtain⟨v,vs',rfl,a1,a2⟩:=a;exact⟨v,vs',rfl,At.kept a1 kp,Ats.kept a2 kp⟩
end
section
variable{prog:Program}{w:World}
theorem PY{A:Around}{E:Value->Shared->Prop}{s:Shared}{Q:Int->Shared->Prop}(hu:A.units<cLine)(q:Q 0xFCA86420 { s with toks:=s.toks+1 }):wpAny (model prog w) A (pyHash .none) Q E s:=by
 show wpAny _ _ (pyHashByItsType .none) Q E s;refine PySem.W.pyHash_slot (T := "NoneType") rfl F.slot_NoneType_hash F.entry_NoneType_hash (F.args_NoneType_hash_1 _) (beq_builtin_none _) (.inr hu) (AAA (AAB ?_));refine AAA (wpAny_mkInt (AAB ⟨0xFCA86420,_,rfl,?_⟩));exact q
mutual
theorem At.hash:∀{k:D} {v:Value} {A:Around} {E:Value->Shared->Prop} {s:Shared} {Q:Int->Shared->Prop},A.units+LC k<cLine->At s.heap k v->Q (hD w k) { s with toks:=s.toks+draws k }->wpAny (model prog w) A (pyHash v) Q E s
 | .non,v,A,E,s,Q,hu,hk,q=>by
  unfold At at hk;subst hk;exact PY (by omega) q
 | .int i,v,A,E,s,Q,hu,hk,q=>by
  unfold At at hk;obtain⟨t,rfl⟩:=hk;exact wpAny_pyHash_int q
 | .str i,v,A,E,s,Q,hu,hk,q=>by
  unfold At at hk;obtain⟨t,rfl⟩:=hk;exact wpAny_pyHash_str q
 | .tup ks,v,A,E,s,Q,hu,hk,q=>by
  unfold At at hk;obtain⟨a,o,items,n,rfl,h1,h2,h3,h4⟩:=hk;have hu':A.units+(EJ ks+1)<cLine:=hu;refine Nk.hash_tup (hs:=hDs w ks) (d:=HE ks) (by omega) h1 h2 h3 (λP p=>?_) q;exact Ats.hash (A:=A.in1) (by show A.units+1+EJ ks<cLine;omega) h4 (acc:=#[]) (by simpa using p)
 | .bl _,_,_,_,_,_,_,a,_ | .ty _,_,_,_,_,_,_,a,_ | .scr _,_,_,_,_,_,_,a,_ | .lst _,_,_,_,_,_,_,a,_ | .ref _,_,_,_,_,_,_,a,_=>by unfold At at a;exact a.elim
theorem Ats.hash:∀{ks:List D} {vs:List Value} {A:Around} {E:Value->Shared->Prop} {s:Shared} {acc:Array Int} {P:Array Int->Shared->Prop},A.units+EJ ks<cLine->Ats s.heap ks vs->P (acc++(hDs w ks).toArray) { s with toks:=s.toks+HE ks }->
  wpAny (model prog w) A (forIn vs acc λx r=>do let y ←pyHash x;pure (ForInStep.yield (r.push y))) P E s
 |[],vs,A,E,s,acc,P,hu,hk,q=>by
  unfold Ats at hk;subst hk;rw[List.forIn_nil];exact AAB (by simpa[hDs,HE] using q)
 |k::ks,vs,A,E,s,acc,P,hu,hk,q=>by
  unfold Ats at hk;obtain⟨v,vs',rfl,a1,a2⟩:=hk;rw[List.forIn_cons];have hu':A.units+max (LC k) (EJ ks)<cLine:=hu;refine AAA (AAA (At.hash (by omega) a1 (AAB ?_)));refine Ats.hash (by omega) (s:={ s with toks:=s.toks+draws k }) a2 ?_;simpa[hDs,HE,Nat.add_assoc] using q
end
end
theorem Ats.len{h:Heap}:∀{ks:List D} {vs:List Value},Ats h ks vs->vs.length=ks.length
 |[],_,a=>by unfold Ats at a;subst a;rfl
 |k::ks,_,a=>by
  unfold Ats at a;obtain⟨v,vs',rfl,_,a2⟩:=a;simp[Ats.len a2]
noncomputable def Iu(ks js:List D)(j:Nat):Bool:=decide (ks[j]?=js[j]?)
theorem PH{ks js:List D}:((List.range (min ks.length js.length)).all (Iu ks js)&&ks.length==js.length)=decide (D.tup ks=D.tup js):=by
 by_cases e:ks=js
 ·subst e;rw[AAP rfl,beq_self_eq_true,Bool.and_true,List.all_eq_true];intro j _;exact AAP rfl
 ·rw[AAO (λz=>e (D.tup.inj z))];by_cases hl:ks.length=js.length
  ·rw[beq_iff_eq.mpr hl,Bool.and_true,←Bool.not_eq_true];intro z;rw[List.all_eq_true] at z;refine e (List.ext_getElem? λj=>?_);by_cases hj:j<ks.length
   ·exact of_decide_eq_true (z j (List.mem_range.mpr (by omega)))
   ·rw[List.getElem?_eq_none (by omega),List.getElem?_eq_none (by omega)]
  ·rw[AAe.mpr hl,Bool.and_false]
theorem OI{h:Heap}{ks:List D}{v:Value}(a:At h (.tup ks) v):∃x items,v=.ref x/\h.IsTuple x items:=by
 unfold At at a;obtain⟨x,o,items,n,rfl,h1,h2,h3,_⟩:=a;exact⟨x,items,rfl,o,h1,h2,n,h3⟩
mutual
theorem At.eq:∀{k j:D} {u v:Value} {A:Around} {s:Shared},A.units+LC k<cLine->At s.heap k u->At s.heap j v->EqAt A s u v (decide (k=j))
 | .non,j,u,v,A,s,hu,a,b=>by
  have hu':A.units<cLine:=AAp (Nat.le_add_right _ _) hu;unfold At at a;subst a;cases j with
  |non=>unfold At at b;subst b;rw[AAP rfl];exact EqAt.same _
  |int i=>unfold At at b;obtain⟨t,rfl⟩:=b;rw[AAO (by intro z;cases z)];exact EqAt.none_int i t
  |str i=>unfold At at b;obtain⟨t,rfl⟩:=b;rw[AAO (by intro z;cases z)];exact EqAt.none_str i t
  |tup ks=>obtain⟨x,its,rfl,h⟩:=OI b;rw[AAO (by intro z;cases z)];exact EqAt.none_tuple h hu'
  |_=>unfold At at b;exact b.elim
 | .int i,j,u,v,A,s,hu,a,b=>by
  have hu':A.units<cLine:=AAp (Nat.le_add_right _ _) hu;unfold At at a;obtain⟨t,rfl⟩:=a;cases j with
  |non=>unfold At at b;subst b;rw[AAO (by intro z;cases z)];exact EqAt.int_none i t
  |int j=>
   unfold At at b;obtain⟨t',rfl⟩:=b;have:decide (D.int i=D.int j)=(i==j):=by
    by_cases e:i=j
    ·subst e;simp
    ·rw[AAO (λz=>e (D.int.inj z)),AAe.mpr e]
   rw[this];exact EqAt.int_int i t j t'
  |str j=>unfold At at b;obtain⟨t',rfl⟩:=b;rw[AAO (by intro z;cases z)];exact EqAt.int_str i t j t'
  |tup ks=>obtain⟨x,its,rfl,h⟩:=OI b;rw[AAO (by intro z;cases z)];exact EqAt.int_tuple i t h hu'
  |_=>unfold At at b;exact b.elim
 | .str i,j,u,v,A,s,hu,a,b=>by
  have hu':A.units<cLine:=AAp (Nat.le_add_right _ _) hu;unfold At at a;obtain⟨t,rfl⟩:=a;cases j with
  |non=>unfold At at b;subst b;rw[AAO (by intro z;cases z)];exact EqAt.str_none i t
  |str j=>
   unfold At at b;obtain⟨t',rfl⟩:=b;have:decide (D.str i=D.str j)=(i==j):=by
    by_cases e:i=j
    ·subst e;simp
    ·rw[AAO (λz=>e (D.str.inj z)),AAe.mpr e]
   rw[this];exact EqAt.str_str i t j t'
  |int j=>unfold At at b;obtain⟨t',rfl⟩:=b;rw[AAO (by intro z;cases z)];exact EqAt.str_int i t j t'
  |tup ks=>obtain⟨x,its,rfl,h⟩:=OI b;rw[AAO (by intro z;cases z)];exact EqAt.str_tuple i t h hu'
  |_=>unfold At at b;exact b.elim
 | .tup ks,j,u,v,A,s,hu,a,b=>by
  have hu0:A.units<cLine:=AAp (Nat.le_add_right _ _) hu;obtain⟨x0,its0,e0,h0⟩:=OI a;cases j with
  |non=>unfold At at b;subst b e0;rw[AAO (by intro z;cases z)];exact EqAt.tuple_none h0 hu0
  |int j=>unfold At at b;obtain⟨t',rfl⟩:=b;subst e0;rw[AAO (by intro z;cases z)];exact EqAt.tuple_int j t' h0 hu0
  |str j=>unfold At at b;obtain⟨t',rfl⟩:=b;subst e0;rw[AAO (by intro z;cases z)];exact EqAt.tuple_str j t' h0 hu0
  |tup js=>
   have a':=a;have b':=b;unfold At at a b;obtain⟨x,o,items,n,rfl,h1,h2,h3,h4⟩:=a;obtain⟨y,o',items',n',rfl,h1',h2',h3',h4'⟩:=b;have hu':A.units+(EJ ks+1)<cLine:=hu;by_cases e:x=y
   ·subst e;rw[At.inj a' b',AAP rfl];exact EqAt.same _
   ·rw[←PH];have l1:=h4.len;have l2:=h4'.len;rw[Array.length_toList] at l1 l2;rw[←l1,←l2];refine EqAt.of_refs e (RcAt.tuples ⟨o,h1,h2,n,h3⟩ ⟨o',h1',h2',n',h3'⟩ (by omega) λj g1 g2=>?_);have:=Ats.eqs (A:=A.in1) (by show A.units+1+EJ ks<cLine;omega) h4 h4' j (by simpa using g1) (by simpa using g2);simpa using this
  |_=>unfold At at b;exact b.elim
 | .bl _,_,_,_,_,_,_,a,_ | .ty _,_,_,_,_,_,_,a,_ | .scr _,_,_,_,_,_,_,a,_ | .lst _,_,_,_,_,_,_,a,_ | .ref _,_,_,_,_,_,_,a,_=>by unfold At at a;exact a.elim
theorem Ats.eqs:∀{ks js:List D} {us vs:List Value} {A:Around} {s:Shared},A.units+EJ ks<cLine->Ats s.heap ks us->Ats s.heap js vs->∀(j:Nat) (h1:j<us.length) (h2:j<vs.length),EqAt A s us[j] vs[j] (Iu ks js j)
 |[],js,us,vs,A,s,hu,a,b,j,h1,h2=>by unfold Ats at a;subst a;simp at h1
 |k::ks,[],us,vs,A,s,hu,a,b,j,h1,h2=>by unfold Ats at b;subst b;simp at h2
 |k::ks,l::js,us,vs,A,s,hu,a,b,j,h1,h2=>by
  unfold Ats at a b;obtain⟨u,us',rfl,a1,a2⟩:=a;obtain⟨v,vs',rfl,b1,b2⟩:=b;have hu':A.units+max (LC k) (EJ ks)<cLine:=hu;cases j with
  |zero=>
   have:=At.eq (k:=k) (j:=l) (A:=A) (by omega) a1 b1;have e:Iu (k::ks) (l::js) 0=decide (k=l):=by unfold Iu;simp
   rw[e];exact this
  |succ j=>
   have:=Ats.eqs (A:=A) (by omega) a2 b2 j (by simpa using h1) (by simpa using h2);have e:Iu (k::ks) (l::js) (j+1)=Iu ks js j:=by unfold Iu;simp
   rw[e];simpa using this
end
section
variable{prog:Program}{w:World}
theorem At.quiet:∀(d:Nat) {k:D} {v:Value} {A:Around} {E:Value->Shared->Prop} {s:Shared} {Q:Bool->Shared->Prop},LC k<=d->At s.heap k v->Q true s->wpAny (model prog w) A (eqIsQuiet d v) Q E s
 |d,.non,v,A,E,s,Q,hd,a,q=>by
  cases NJ a;unfold eqIsQuiet;exact AAB q
 |d,.int i,v,A,E,s,Q,hd,a,q=>by
  obtain⟨t,rfl⟩:=LH a;unfold eqIsQuiet;exact AAB q
 |d,.str i,v,A,E,s,Q,hd,a,q=>by
  obtain⟨t,rfl⟩:=LG a;unfold eqIsQuiet;exact AAB q
 |0,.tup ks,v,A,E,s,Q,hd,a,q=>by
  have hd':EJ ks+1<=0:=hd;omega
 |d'+1,.tup ks,v,A,E,s,Q,hd,a,q=>by
  have hd':EJ ks+1<=d'+1:=hd;obtain⟨x,o,items,n,rfl,h1,h2,h3,h4⟩:=GO a;have hT:s.TypeIs (.ref x) "tuple" := ⟨o,h1,h2⟩;unfold eqIsQuiet;refine AAA (wpAny_specialOf hT PySem.F.slot_tuple_eq.lookup ?_);show wpAny _ _ (isInstance (.ref x) (.type "tuple") >>= _) _ _ s;refine AAA (wpAny_isInstance hT isSubtype_tuple_tuple ?_);simp only[Bool.not_true,Bool.false_eq_true,if_false];refine AAA (AAu h1 h3 (AAA ?_));show wpAny _ _ (forIn items _ _) _ _ s;rw[←Array.forIn_toList];refine wpAny_forIn_list _ (λrest r s'=>r.1=none/\s'=s/\∃ks',EJ ks'<=d'/\Ats s.heap ks' rest) _ ?_ ?_ _ _ ⟨rfl,rfl,ks,by omega,h4⟩
  ·rintro y rest r s' ⟨hr,rfl,ks',hk,at'⟩;cases ks' with
   |nil=>unfold Ats at at';cases at'
   |cons k' ks'=>
    unfold Ats at at';obtain⟨_,_,e,a1,a2⟩:=at';cases e;have hk':max (LC k') (EJ ks')<=d':=hk;refine AAA (At.quiet d' (k:=k') (by omega) a1 ?_);simp only[Bool.not_true,Bool.false_eq_true,if_false];exact AAB ⟨rfl,rfl,ks',by omega,a2⟩
  ·rintro⟨r1,r2⟩ s' ⟨hr,rfl,_⟩;simp only at hr;subst hr;exact AAB q
 |_,.bl _,_,_,_,_,_,_,a,_|_,.ty _,_,_,_,_,_,_,a,_|_,.scr _,_,_,_,_,_,_,a,_|_,.lst _,_,_,_,_,_,_,a,_|_,.ref _,_,_,_,_,_,_,a,_=>by unfold At at a;exact a.elim
end
noncomputable def kind(prog:Program)(w:World):HeapKind prog w D where
 is:=λh k a=>At h k (.ref a)/\LC k<=8
 hash:=hD w
 draws:=draws
 room:=λA=>A.units+8<cLine
 inj:=λhx hy=>hx.1.inj hy.1
 keeps:=λ{h h' k a d o es ep} x ho hd hs=>⟨x.1.kept λb o' items n e _ e3=>by
  have hne:b≠d:=by
   intro z;subst z;rw[ho] at e;cases e;rw[hd] at e3;cases e3
  exact(hs.2 b hne).trans e,x.2⟩
 pyHash:=λhu hk h=>At.hash (by have:=hk.2;omega) hk.1 h
 eqBool:=λ{A E s x y a b Q} hu hx hy h=>At.eq (by have:=hx.2;omega) hx.1 hy.1 _ _ E Q h
 quiet:=λhk h=>At.quiet 8 hk.2 hk.1 h
end Pk
namespace Mi
open PySem L2 Pk
section
variable{X:Cx}
theorem YH{k:Nat}(hr:Room k X.A):(Pk.kind X.prog X.w).room X.A.in1:=by
 have:=hr.units;show X.A.units+1+8<cLine;omega
end
end Mi
namespace Mi
open PySem L2
end Mi
namespace Xc
open PySem L2
structure Zw(h h':Heap)(a:Addr)(i:Nat)(x:Value):Prop where
 other:∀b,b≠a->h'.get? b=h.get? b
 size:h'.objs.size=h.objs.size
 self:∀o vs,h.get? a=some o->o.data=.fields vs->∃o',h'.get? a=some o'/\o'.cls=o.cls/\o'.dict=o.dict/\o'.data=.fields (vs.setIfInBounds i x)
theorem Pl(o:Obj)(f):(o.mapFields f).dict=o.dict:=by
 obtain⟨c,d,dt,sl⟩:=o;cases dt<;>rfl
section
variable{M:Model}{A:Around}{E:Value->Shared->Prop}{s:Shared}{Q:Unit->Shared->Prop}{a:Addr}{o:Obj}{vs:Array Value}{i:Nat}{x:Value}
theorem KS(ho:s.heap.get? a=some o)(hd:o.data=.fields vs)(hi:i<vs.size)(q:∀h',Zw s.heap h' a i x->Q () { s with heap:=h' }):wpAny M A (setField (.ref a) i x) Q E s:=by
 refine wpAny_setField ho hd hi (q _ ⟨λb hb=>Heap.get?_update_other _ _ (Ne.symm hb),Heap.size_after_update ..,λo' vs' h1 h2=>?_⟩);have hd':=Obj.data_mapFields h2 λz:Array Value=>z.setIfInBounds i x;exact⟨_,Heap.get?_update_self _ h1 (Obj.isFreed_of_fields hd'),Obj.cls_mapFields ..,Pl ..,hd'⟩
end
structure Fly(h:Heap)(e:Addr)(cls:Value)(dx tb:Option Addr)(f:Value):Prop where
 ob:∃oe vs,h.get? e=some oe/\oe.cls=cls/\oe.dict=dx/\oe.data=.fields vs/\vs[1]?=some (match tb with|none=>Value.none|some T=>.ref T)
 tb:∀T,tb=some T->T≠e/\∃oT ts,h.get? T=some oT/\oT.data=.fields ts/\ts[3]?=some f
structure Lft(h h':Heap)(fs:List Addr)(e:Addr)(tb:Option Addr):Prop where
 keep:∀b o,b∉fs->b≠e->tb≠some b->h.get? b=some o->h'.get? b=some o
 slot:∀b o,b∈fs->h.get? b=some o->∃sl,h'.get? b=some { o with slots:=sl }
 there:∀b o,h.get? b=some o->∃o',h'.get? b=some o'
theorem Lft.refl{h:Heap}{fs:List Addr}{e:Addr}{tb:Option Addr}:Lft h h fs e tb:=⟨λ_ _ _ _ _ z=>z,λ_ o _ z=>⟨o.slots,z⟩,λ_ o z=>⟨o,z⟩⟩
section
variable{M:Model}{A:Around}{E:Value->Shared->Prop}{s:Shared}{Q:Unit->Shared->Prop}{base:Heap}{env:Env}{outer:List Env}{L e T:Addr}{oe:Obj}{vs:Array Value}{head:Value}{hn:Bool}{tb dx:Option Addr}{cls f:Value}
theorem Im{l:List Env}(hl:s.heap.FunFrames base l)(he:s.heap.get? e=some oe)(hd:oe.data=.fields vs):e∉frs l:=by
 intro z
 match hl.mem z with
 |⟨_,_,same,no⟩=>exact no vs (Option.some.inj (he.symm.trans same) ▸ hd)
theorem Jo(hfr:A.frames=some (env::outer))(hl:s.heap.FunFrames base (env::outer))(hf:env.frame=some L)(he:s.heap.get? e=some oe)(hd:oe.data=.fields vs)(h1:1<vs.size)
  (q:∀h' T,Lft s.heap h' (frs (env::outer)) e none->s.heap.objs.size<=T->Fly h' e oe.cls oe.dict (some T) (rawInt L)->Q () { s with heap:=h' }) :
  wpAny M A (do let a ←frameOf env;let pl ←entryPlaceOf L hn;let b ←EntryCells.newEntry head a .none (rawInt L) .none pl;setField (.ref e) 1 b) Q E s:=by
 have nf:=Im hl he hd;refine AAA (wpAny_frameOf_fun hfr hl hf λg hg=>AAA (wpAny_entryPlaceOf λpl hp=>?_));unfold EntryCells.newEntry newFields;refine AAA (AAo ?_ (hp.sizeOk5 _ _ _ _ _));generalize hob:({ cls:=.type "traceback",dict:=none,data:=.fields ([head,.ref L,.none,rawInt L,.none]++(if pl.isEmpty then List.replicate 6 Value.none else pl)).toArray }:Obj)=ob;obtain⟨ts,hts,h3⟩:∃ts,ob.data=.fields ts/\ts[3]?=some (rawInt L):=⟨_,by rw[←hob],by simp⟩;have gT:=AAD g (Obj.isFreed_of_fields hts);have ge:=AAC ob ((hg.2.1 e nf).trans he);have ne:g.objs.size≠e:=Nat.ne_of_gt (by rw[hg.1];exact Heap.lt_size he);refine KS ge hd h1 λg1 s1=>?_;obtain⟨o1,e1,c1,d1,v1⟩:=s1.self _ _ ge hd;have up:∀b o,b≠e->g.get? b=some o->g1.get? b=some o:=λb o hb z=>by
  rw[s1.other b hb];exact AAC ob z
 refine q g1 g.objs.size ⟨λb o hb hbe _ z=>up b o hbe ((hg.2.1 b hb).trans z),λb o hb z=>?_,λb o z=>?_⟩ (by rw[hg.1];exact AAF _) ⟨⟨o1,_,e1,c1,d1,v1,by simp[h1]⟩,λT hT=>?_⟩
 ·obtain⟨sl,z1⟩:=hg.2.2 b o z;exact⟨sl,up b _ (λw=>nf (w ▸ hb)) z1⟩
 ·by_cases hb:b=e
  ·exact⟨_,by rw[hb];exact e1⟩
  ·obtain⟨sl,z1⟩:=hg.2.2 b o z;exact⟨_,up b _ hb z1⟩
 ·cases hT;exact⟨ne,ob,ts,(s1.other _ ne).trans gT,hts,h3⟩
theorem UJ(hfr:A.frames=some (env::outer))(hl:s.heap.FunFrames base (env::outer))(hf:env.frame=some L)(fl:Fly s.heap e cls dx tb f)(hfl:f=.none∨f=rawInt L)
  (q:∀h' T,Lft s.heap h' (frs (env::outer)) e tb->(s.heap.objs.size<=T∨tb=some T)->Fly h' e cls dx (some T) (rawInt L)->Q () { s with heap:=h' }) :
  wpAny M A (noteFrame (.ref e) env) Q E s:=by
 obtain⟨⟨oe,vs,he,rfl,rfl,hd,h1⟩,ft⟩:=id fl;have sz:=(Array.getElem?_eq_some_iff.mp h1).1;unfold noteFrame;simp only[hf];refine AAA (AAt he hd h1 ?_);cases tb with
 |none=>
  rw[if_neg (by decide)];exact Jo hfr hl hf he hd sz λh' T k le fl'=>q h' T k (.inl le) fl'
 |some T=>
  obtain⟨nT,oT,ts,hT,dT,h3⟩:=ft T rfl;have sT:=(Array.getElem?_eq_some_iff.mp h3).1;rw[if_pos (show (Value.ref T != Value.none)=true from by simp)];refine AAA (AAt hT dT h3 ?_);rcases hfl with rfl|rfl
  ·rw[if_neg (show ¬((Value.none==rawInt L)=true) from by simp[rawInt])];refine AAA (KS hT dT sT λg s1=>?_);obtain⟨o1,e1,_,_,v1⟩:=s1.self _ _ hT dT;have nfT:=Im hl hT dT;have hl1:g.FunFrames base (env::outer):=hl.of_keeps λb o z nf=>⟨o,by rw[s1.other b (λw=>by subst w;rw[hT] at z;cases z;exact nf ts dT)];exact z,rfl⟩;refine Jo (s:={ s with heap:=g }) hfr hl1 hf ((s1.other e (Ne.symm nT)).trans he) hd sz λh' T' k le fl'=>q h' T' ⟨λb o hb hbe hbT z=>?_,λb o hb z=>?_,λb o z=>?_⟩ (.inl (by rw[←s1.size];exact le)) fl'
   ·exact k.keep b o hb hbe (by simp) ((s1.other b (λw=>hbT (by rw[w]))).trans z)
   ·exact k.slot b o hb ((s1.other b (λw=>nfT (w ▸ hb))).trans z)
   ·by_cases hb:b=T
    ·exact k.there b o1 (by rw[hb];exact e1)
    ·exact k.there b o ((s1.other b hb).trans z)
  ·rw[if_pos (show (rawInt L==rawInt L)=true from beq_self_eq_true _)];exact AAB (q s.heap T .refl (.inr rfl) fl)
theorem Pf{fr:Option Addr}{l:List Env}(hl:s.heap.FunFrames base l)(fl:Fly s.heap e cls dx (some T) f)(q:∀h',Lft s.heap h' (frs l) e (some T)->Fly h' e cls dx (some T) (fr.elim .none λz=>rawInt z)->Q () { s with heap:=h' }):
  wpAny M A (setFlight (.ref e) fr) Q E s:=by
 obtain⟨⟨oe,vs,he,rfl,rfl,hd,h1⟩,ft⟩:=id fl;obtain⟨nT,oT,ts,hT,dT,h3⟩:=ft T rfl;have sT:=(Array.getElem?_eq_some_iff.mp h3).1;have nf:=Im hl hT dT;unfold setFlight;refine AAA (AAt he hd h1 ?_);rw[if_pos (show (Value.ref T != Value.none)=true from by simp)];refine KS hT dT sT λg s1=>?_;obtain⟨o1,e1,_,_,v1⟩:=s1.self _ _ hT dT;refine q g ⟨λb o _ _ hb z=>(s1.other b (λw=>hb (by rw[w]))).trans z,λb o hb z=>⟨o.slots,(s1.other b (λw=>nf (w ▸ hb))).trans z⟩,λb o z=>?_⟩ ⟨⟨oe,vs,(s1.other e (Ne.symm nT)).trans he,rfl,rfl,hd,h1⟩,λT' hT'=>?_⟩
 ·by_cases hb:b=T
  ·exact⟨o1,by rw[hb];exact e1⟩
  ·exact⟨o,(s1.other b hb).trans z⟩
 ·cases hT';exact⟨nT,o1,_,e1,v1,by simp[sT]⟩
end
end Xc
namespace Mi
open PySem L2
mutual
def clB(k:Nat):D->Bool
 | .tup ds=>Gp k ds
 | .lst ds=>Gp k ds
 | .ref n=>Nat.blt n k
 |_=>true
def Gp(k:Nat):List D->Bool
 |[]=>true
 |d::ds=>match clB k d with
  |true=>Gp k ds
  |false=>false
end
noncomputable def ZE(k:Nat):MO->Bool
 | .lst ds=>Gp k ds
 | .dK l=>Gp k (l.map (·.2))
 | .dC l=>Gp k (l.map (·.2))
 | .ins _ l=>Gp k (l.map (·.2))
 | .dP l=>Gp k (l.map (·.1))&&Gp k (l.map (·.2))
 | .exc _ _=>true
mutual
theorem Sa{k:Nat}:∀{d:D},clB k d=true->Cl k d
 | .tup ds,h=>by unfold clB at h;unfold Cl;exact DT h
 | .lst ds,h=>by unfold clB at h;unfold Cl;exact DT h
 | .ref n,h=>by unfold clB at h;unfold Cl;exact Nat.blt_eq.mp h
 | .non,_ | .bl _,_ | .int _,_ | .str _,_ | .ty _,_ | .scr _,_=>by unfold Cl;trivial
theorem DT{k:Nat}:∀{ds:List D},Gp k ds=true->ClL k ds
 |[],_=>by unfold ClL;trivial
 |d::ds,h=>by
  unfold Gp at h;unfold ClL;cases e:clB k d with
  |true=>rw[e] at h;exact⟨Sa e,DT h⟩
  |false=>rw[e] at h;cases h
end
theorem Uv{k:Nat}{o:MO}(h:ZE k o=true):ClO k o:=by
 cases o with
 |lst ds=>exact DT h
 |dK l=>exact DT h
 |dC l=>exact DT h
 |ins _ l=>exact DT h
 |dP l=>
  have h:(Gp k (l.map (·.1))&&Gp k (l.map (·.2)))=true:=h;rw[Bool.and_eq_true] at h;exact⟨DT h.1,DT h.2⟩
 |exc c n=>exact trivial
noncomputable def GI(k:Nat):Nat->Mh->Option Mh
 |0,_=>some []
 |_+1,[]=>none
 |n+1,o::μ=>match ZE k o with
  |true=>match GI k n μ with
   |some r=>some (o::r)
   |none=>none
  |false=>none
theorem HA{k:Nat}:∀{n:Nat} {μ r:Mh},GI k n μ=some r->(∃g,μ=r++g)/\List.length r=n/\∀o∈r,ClO k o
 |0,μ,r,h=>by cases h;exact⟨⟨μ,rfl⟩,rfl,λo ho=>by cases ho⟩
 |_+1,[],r,h=>by cases h
 |n+1,o::μ,r,h=>by
  unfold GI at h;split at h
  ·rename_i hc;split at h
   ·rename_i r' hr;cases h;obtain⟨⟨g,rfl⟩,h2,h3⟩:=HA hr;refine⟨⟨g,rfl⟩,by rw[AAI,h2],λp hp=>?_⟩;rcases AAJ.mp hp with rfl|hp
    ·exact Uv hc
    ·exact h3 p hp
   ·cases h
  ·cases h
noncomputable def T8(μ:Mh)(hw:How)(d:D)(μ2:Mh):Option (D×Mh):=match hw with
 | .all=>some (d,μ2)
 | .drop=>match clB (List.length μ) d with
  |true=>match GI (List.length μ) (List.length μ) μ2 with
   |some r=>some (d,r)
   |none=>none
  |false=>none
 | .frz=>match d with
  | .ref n=>match Nat.ble (List.length μ) n with
   |true=>match μ2[n]? with
    |some (.lst ds)=>match Gp (List.length μ) ds with
     |true=>match GI (List.length μ) (List.length μ) μ2 with
      |some r=>some (.lst ds,r)
      |none=>none
     |false=>none
    |_=>none
   |false=>none
  |d=>match clB (List.length μ) d with
   |true=>match GI (List.length μ) (List.length μ) μ2 with
    |some r=>some (d,r)
    |none=>none
   |false=>none
theorem N5{μ μ2 μ':Mh}{hw:How}{d' d:D}(h:T8 μ hw d' μ2=some (d,μ')):(μ'=μ2/\d=d')∨FI μ μ2 μ' d' d:=by
 have dr:∀{d' d:D} {μ':Mh},(match clB (List.length μ) d' with|true=>(match GI (List.length μ) (List.length μ) μ2 with|some r=>some (d',r)|none=>none)|false=>none)=some (d,μ')->FI μ μ2 μ' d' d:=by
  intro d' d μ' h;split at h
  ·rename_i hc;split at h
   ·rename_i r hr;cases h;obtain⟨g,hl,ho⟩:=HA hr;exact⟨g,by rw[hl];exact AAF _,λn o e=>.inr (by rw[hl];exact ho o (AAV e)),.inl ⟨rfl,by rw[hl];exact Sa hc⟩⟩
   ·cases h
  ·cases h
 unfold T8 at h;split at h
 ·cases h;exact .inl ⟨rfl,rfl⟩
 ·exact .inr (dr h)
 ·split at h
  ·split at h
   ·rename_i n hn;split at h
    ·rename_i ds hq;split at h
     ·rename_i hc;split at h
      ·rename_i r hr;cases h;obtain⟨g,hl,ho⟩:=HA hr;exact .inr ⟨g,by rw[hl];exact AAF _,λn o e=>.inr (by rw[hl];exact ho o (AAV e)),.inr ⟨_,ds,rfl,hq,by rw[hl];exact AAE hn,rfl,by rw[hl];exact DT hc⟩⟩
      ·cases h
     ·cases h
    ·cases h
   ·cases h
  ·exact .inr (dr h)
noncomputable def SA:Fl->Bool
 | .next=>true
 | .rt _=>true
 |_=>false
theorem ME{f:Fl}(h:SA f=true):f=.next∨∃d,f=.rt d:=by
 cases f with
 |next=>exact .inl rfl
 |rt d=>exact .inr ⟨d,rfl⟩
 |_=>cases h
noncomputable def EB(hw:How)(n ps:Nat)(mb:Sl->M (Fl×Sl)):List D->M D:=λds μ=>match Nat.beq (List.length ds) ps with
 |true=>match mb (A9 n ds) μ with
  |some ((fl,_),μ2)=>match SA fl with
   |true=>T8 μ hw (ES fl) μ2
   |false=>none
  |none=>none
 |false=>none
theorem JK{hw:How}{n ps:Nat}{mb:Sl->M (Fl×Sl)}{ds:List D}{μ μ':Mh}{d:D}(h:EB hw n ps mb ds μ=some (d,μ')):
  ds.length=ps/\∃fl τ2 μ2,mb (A9 n ds) μ=some ((fl,τ2),μ2)/\(fl=.next∨∃d,fl=.rt d)/\((μ'=μ2/\d=ES fl)∨FI μ μ2 μ' (ES fl) d):=by
 unfold EB at h;split at h
 ·rename_i hl;split at h
  ·rename_i fl τ2 μ2 e;split at h
   ·rename_i hf;exact⟨Nat.eq_of_beq_eq_true hl,fl,τ2,μ2,e,ME hf,N5 h⟩
   ·cases h
  ·cases h
 ·cases h
section
variable{P:Program}{w:World}{K:PySem.W.Frag}{mg:Str->Option Value}{base:Heap}
theorem Pe(hw:How){x qual:Str}{st:Stmt}{f:Addr}{fd:FuncData}{N ps:List Str}{k:Nat}{mb:Sl->M (Fl×Sl)}(F:Fun K x qual st f fd)(S:Aj N ps (AK st))
  (body:∀(cdv:Value) (A:Around) (outer:List Env) (s:Shared) (H:Hp) (E:XK),Room k (A.deeper (PyProof.Rows.envOfC qual (AK st) s.heap.objs.size f cdv))->RSs (BY CX0 P w K mg base N qual (AK st) f cdv A outer s H E).nox (Af st) mb) :
  FnOk P w K mg base CX0 (k+1) f fd ps (spM ⟨K,w⟩ ps.length (EB hw N.length ps.length mb)):=by
 refine F.ok S (λvs H Q E h=>h.1) (λcdv A outer s H vs Q E hr h=>⟨_,(body cdv A outer s H E hr).pe,?_⟩);obtain⟨hl,ι,μ,ds,d,μ',R,i,e,q⟩:=h;obtain⟨_,fl,τ2,μ2,e2,hfl,t⟩:=JK e;refine⟨ι,μ,_,fl,τ2,μ2,R,RelS.start i,e2,λι2 H2 E2 R2 σ2 S2=>?_⟩;have z:Ext ι μ.length H ι2 μ'.length H2/\RelH ⟨K,w⟩ ι2 μ' H2/\∀v,Is ⟨K,w⟩ ι2 μ2.length H2 (ES fl) v->Is ⟨K,w⟩ ι2 μ'.length H2 d v:=by
  rcases t with ⟨rfl,rfl⟩|t
  ·exact⟨E2,R2,λv iv=>iv⟩
  ·exact IN R E2 R2 t
 obtain⟨E3,R3,c⟩:=z;rcases hfl with rfl|⟨d0,rfl⟩
 ·exact q ι2 H2 E3 R3 _ (c _ (by unfold ES Is;rfl))
 ·exact λv iv=>q ι2 H2 E3 R3 v (c v iv)
theorem DB(hw:How){x qual:Str}{st:Stmt}{f:Addr}{fd:FuncData}{N ps:List Str}{k:Nat}{mb:Sl->M (Fl×Sl)}(F:Fun K x qual st f fd)(S:Aj N ps (AK st))(hm:mg x=some (.ref f))(hb:Binds K fd ps [])
  (body:∀(cdv:Value) (A:Around) (outer:List Env) (s:Shared) (H:Hp) (E:XK),Room k (A.deeper (PyProof.Rows.envOfC qual (AK st) s.heap.objs.size f cdv))->RSs (BY CX0 P w K mg base N qual (AK st) f cdv A outer s H E).nox (Af st) mb) :
  Fn P w K mg base x ps (k+1) (EB hw N.length ps.length mb):=⟨λds μ r h=>(JK (d:=r.1) (μ':=r.2) h).1,f,fd,Pe hw F S body,hm,F.kp,hb⟩
end
end Mi
namespace Xc
open PySem L2 Mi
open PyProof.Rows (AllBare)
def Nw(X:Cx)(pins:List (Addr×Obj))(H:Hp)(b:Addr):Prop:=X.s₀.heap.get? b=none/\H b=none/\∀p∈X.pn++pins,p.1≠b
structure Lies(X:Cx)(pins:List (Addr×Obj))(x:Exn)(σ:St)(H:Hp)(a:Addr)(s:Shared):Prop where
 inv:Inv X pins σ H s
 ex:∃C dx tb f,BR X.K x.1 C/\Fly s.heap a (.ref C) dx tb f/\(f=.none∨f=rawInt X.env.locals)/\Nw X pins H a/\(∀T,tb=some T->Nw X pins H T)/\U1 H x.2 dx
def XP(X:Cx)(pins:List (Addr×Obj))(W:Exn->St->Hp->Prop)(e:Value)(s:Shared):Prop:=∃x a σ H,e=.ref a/\Lies X pins x σ H a s/\W x σ H
noncomputable def CX1(K:PySem.W.Frag)(P:Program)(w:World):CXT:=λouter H s E e s'=>∃(x:Exn) (a C:Addr) (dx tb:Option Addr) (H':Hp),e=.ref a/\s'.os=s.os/\AllBare s'.gens/\Un (frs outer) [] H H' s.heap s'.heap/\HOk P w H' s'.heap /\
 BR K x.1 C/\Fly s'.heap a (.ref C) dx tb .none/\(s.heap.get? a=none/\H' a=none)/\(∀T,tb=some T->s.heap.get? T=none/\H' T=none)/\U1 H' x.2 dx/\E (.str x.1 0) x.2 H'
noncomputable def wsh(W:Exn->Hp->Prop):XK:=λv n H=>∃c,v=.str c 0/\W (c,n) H
section
variable{X:Cx}{pins:List (Addr×Obj)}{σ:St}{H H':Hp}{s s':Shared}{a b:Addr}{x:Exn}{W:Exn->St->Hp->Prop}
theorem Inv.was(I:Inv X pins σ H s)(hx:X.ex=[])(h:s.heap.get? b=none):X.s₀.heap.get? b=none:=by
 cases e:X.s₀.heap.get? b with
 |none=>rfl
 |some o=>
  obtain⟨o',q⟩:=I.base.there b o e (by rw[hx];simp);rw[h] at q;cases q
theorem Inv.nw(I:Inv X pins σ H s)(hx:X.ex=[])(h:s.heap.get? b=none)(hH:H' b=none):Nw X pins H' b:=⟨Inv.was I hx h,hH,λp z q=>by
 have:=(I.pin p z).1;rw[q,h] at this;cases this⟩
theorem Nw.mono{pins':List (Addr×Obj)}(h:Nw X pins H b)(hp:∀p∈pins',p∈pins):Nw X pins' H b:=⟨h.1,h.2.1,λp z=>h.2.2 p ((AAK.mp z).elim (λq=>AAb _ q) λq=>AAa _ (hp p q))⟩
theorem Inv.less{pins':List (Addr×Obj)}(I:Inv X pins σ H s)(hp:∀p∈pins',p∈pins):Inv X pins' σ H s:=I.pins_of λp z=>I.pin p (AAa _ (hp p z))
theorem XP.less{pins':List (Addr×Obj)}{e:Value}(h:XP X pins W e s)(hp:∀p∈pins',p∈pins):XP X pins' W e s:=by
 obtain⟨x,a,σ,H,e,⟨I,C,dx,tb,f,h1,h2,hf,h3,h4,h5⟩,w⟩:=h;exact⟨x,a,σ,H,e,⟨Inv.less I hp,C,dx,tb,f,h1,h2,hf,h3.mono hp,λT z=>(h4 T z).mono hp,h5⟩,w⟩
theorem XP.call{e:Value}{W':Exn->Hp->Prop}(hx:X.ex=[])(I:Inv X pins σ H s)(h:CX1 X.K X.prog X.w X.stack H s (wsh W') e s')(hw:∀x H',W' x H'->W x σ H'):XP X pins W e s':=by
 obtain⟨⟨c,n⟩,a,C,dx,tb,H',rfl,os,bare,un,hok,hC,fl,fa,ft,sy,w⟩:=h;obtain⟨hh,g,d,t,os'⟩:=s';obtain rfl:os'=s.os:=os;have I':=I.call (h':=hh) (g':=g) (d':=d) (t':=t) (ch:=[]) un hok bare (λb z=>absurd z (by simp));have nw:∀b,s.heap.get? b=none->H' b=none->Nw X pins H' b:=λb h1 h2=>Inv.nw I hx h1 h2;obtain⟨c',e',w⟩:=w;cases e';exact⟨_,a,σ,H',rfl,⟨I',C,dx,tb,_,hC,fl,.inl rfl,nw a fa.1 fa.2,λT z=>nw T (ft T z).1 (ft T z).2,sy⟩,hw _ _ w⟩
theorem SB{g':Array GenState}{t':Nat}{d':Drawn}{ch:List Addr}(I:Inv X pins σ H s)
  (hch:∀b∈ch,X.s₀.heap.get? b=none/\b≠X.env.locals/\(∀x c,X.env.cells.lookup x=some c->c≠b)/\∀p∈X.pn++pins,p.1≠b)
  (keep:∀b o,b≠X.env.locals->b∉X.fs->b∉ch->s.heap.get? b=some o->H b=none->h'.get? b=some o)
  (slot:∀b o,b≠X.env.locals->b∈X.fs->b∉ch->s.heap.get? b=some o->H b=none->∃sl,h'.get? b=some { o with slots:=sl }) (free:∀b o,b∉ch->s.heap.get? b=some o->H b=none->H' b=none)
  (there:∀b o,b∉ch->s.heap.get? b=some o->∃o',h'.get? b=some o')
  (tups:∀b xs,H b=some (.tup xs)->H' b=some (.tup xs)) (frzs:∀b o u,H b=some (.frz o u)->H' b=some (.frz o u)) (tbls:∀b ps,H b=some (.tbl ps)->∃more,H' b=some (.tbl (ps++more)))
  (ns:∀m,s.heap.Ns X.env.locals m->h'.Ns X.env.locals m) (hok:HOk X.prog X.w H' h') (hg:AllBare g') :
  Inv X pins σ H' { s with heap:=h',gens:=g',drawn:=d',toks:=t' }:=by
 have neL:∀b o,X.s₀.heap.get? b=some o->b≠X.env.locals:=λb o e=>AAd (AAN (Heap.lt_size e) I.ok.above);have neC:∀b o,X.s₀.heap.get? b=some o->b∉X.ex->b∉ch:=λb o e hx hb=>by
  rw[(hch b hb).1] at e;cases e
 have cellK:∀x c,X.env.cells.lookup x=some c->∀v,s.heap.IsCell c v->h'.IsCell c v:=λx c e v ⟨o,ho,hd⟩=>by
  have nch:c∉ch:=λz=>(hch c z).2.2.1 x c e rfl;by_cases hc:c∈X.fs
  ·obtain⟨sl,q⟩:=slot c o (I.cne x c e) hc nch ho (I.freeC x c e);exact⟨_,q,hd⟩
  ·exact⟨o,keep c o (I.cne x c e) hc nch ho (I.freeC x c e),hd⟩
 refine⟨I.ok,I.os,hg,⟨λb o e n hb hx=>?_,λb o e n hb hx=>?_,λb o e n hx=>?_,λb o e hx=>?_,λb xs e=>tups b xs (I.base.tups b xs e),λb o xs e=>frzs b o xs (I.base.frzs b o xs e),λb ps e=>?_⟩,?_,λx c e=>?_,?_,λx c e=>?_,λp hp=>?_,hok,I.len⟩
 ·exact keep b o (neL b o e) hb (neC b o e hx) (I.base.keep b o e n hb hx) (I.base.free b o e n hx)
 ·obtain⟨sl,e1⟩:=I.base.slot b o e n hb hx;obtain⟨sl',e2⟩:=slot b _ (neL b o e) hb (neC b o e hx) e1 (I.base.free b o e n hx);exact⟨sl',e2⟩
 ·obtain⟨o',e1⟩:=I.base.there b o e hx;exact free b o' (neC b o e hx) e1 (I.base.free b o e n hx)
 ·obtain⟨o',e1⟩:=I.base.there b o e hx;exact there b o' (neC b o e hx) e1
 ·obtain⟨m1,e1⟩:=I.base.tbls b ps e;obtain⟨m2,e2⟩:=tbls b _ e1;exact⟨m1++m2,by rw[e2,Array.append_assoc]⟩
 ·obtain⟨m,hn,hl⟩:=I.loc;refine⟨m,ns m hn,λi x v e1 e2 e3=>?_⟩;obtain⟨u,r,l⟩:=hl i x v e1 e2 e3;refine⟨u,r,?_⟩;rcases l with l|⟨k,c,e,z⟩
  ·exact .inl l
  ·exact .inr ⟨k,c,e,cellK x c e _ z⟩
 ·obtain⟨v,z⟩:=I.cell x c e;exact⟨v,cellK x c e v z⟩
 ·obtain⟨m,⟨o,_,_,ho,_⟩,_⟩:=I.loc;exact free _ o (λz=>(hch _ z).2.1 rfl) ho I.free
 ·obtain⟨v,o,ho,hd⟩:=I.cell x c e;exact free c o (λz=>(hch c z).2.2.1 x c e rfl) ho (I.freeC x c e)
 ·obtain⟨e,n,ne,nf,d⟩:=I.pin p hp;have nch:p.1∉ch:=λz=>(hch p.1 z).2.2.2 p hp rfl;exact⟨keep p.1 p.2 ne nf nch e n,free p.1 p.2 nch e n,ne,nf,d⟩
theorem Inv.rec_ne{o:Obj}{vs:Array Value}(I:Inv X pins σ H s)(h:s.heap.get? b=some o)(hd:o.data=.fields vs):b≠X.env.locals/\∀y c,X.env.cells.lookup y=some c->c≠b:=by
 refine⟨λz=>?_,λy c e z=>?_⟩
 ·obtain⟨m,⟨o',es,ep,ho,hd',_⟩,_⟩:=I.loc;rw[z,ho] at h;cases h;rw[hd'] at hd;cases hd
 ·obtain⟨v,o',ho,hd'⟩:=I.cell y c e;rw[z,h] at ho;cases ho;rw[hd'] at hd;cases hd
theorem Lies.left(hx:X.ex=[]){h':Heap}{T:Addr}{C:Addr}{dx tb:Option Addr}{f f':Value}(I:Inv X pins σ H s)(hC:BR X.K x.1 C)(fl:Fly s.heap a (.ref C) dx tb f)(na:Nw X pins H a)(nt:∀T,tb=some T->Nw X pins H T)(sy:U1 H x.2 dx)
  (k:Lft s.heap h' (frs X.stack) a tb) (hT:s.heap.objs.size<=T∨tb=some T) (fl':Fly h' a (.ref C) dx (some T) f') (hf':f'=.none∨f'=rawInt X.env.locals):Lies X pins x σ H a { s with heap:=h' }:=by
 obtain⟨⟨oe,vs,he,_,_,hd,_⟩,ft⟩:=id fl
 let ch:List Addr:=a::tb.toList
 have nch:∀b,b∉ch->b≠a/\tb≠some b:=λb hb=>⟨λz=>hb (by rw[z];exact AAQ),λz=>hb (AAR _ (by rw[z];simp))⟩;have inch:∀b∈ch,b=a∨tb=some b:=λb hb=>by
  rcases AAJ.mp hb with z|z
  ·exact .inl z
  ·cases tb with
   |none=>simp at z
   |some T=>exact .inr (by simp at z;rw[z])
 have stk:∀b,b≠X.env.locals->b∉X.fs->b∉frs X.stack:=λb h1 h2 z=>(AAJ.mp (I.stkSub b z)).elim h1 h2;have any:∀b o,b∉ch->s.heap.get? b=some o->∃sl,h'.get? b=some { o with slots:=sl }:=λb o hb e=>by
  by_cases hf:b∈frs X.stack
  ·exact k.slot b o hf e
  ·exact⟨o.slots,k.keep b o hf (nch b hb).1 (nch b hb).2 e⟩
 have I':Inv X pins σ H { s with heap:=h',gens:=s.gens,drawn:=s.drawn,toks:=s.toks }:=by
  refine SB (H':=H) (ch:=ch) I (λb hb=>?_) (λb o h1 h2 h3 e _=>k.keep b o (stk b h1 h2) (nch b h3).1 (nch b h3).2 e) (λb o _ _ h3 e _=>any b o h3 e) (λ_ _ _ _ n=>n) (λb o _ e=>k.there b o e) (λ_ _ e=>e) (λ_ _ _ e=>e) (λb ps e=>⟨#[],by rw[e];simp⟩) (λm hm=>?_) (λb u e=>?_) I.bare
  ·rcases inch b hb with rfl|z
   ·exact⟨na.1,(Inv.rec_ne I he hd).1,(Inv.rec_ne I he hd).2,na.2.2⟩
   ·obtain⟨_,oT,ts,hT,dT,_⟩:=ft b z;exact⟨(nt b z).1,(Inv.rec_ne I hT dT).1,(Inv.rec_ne I hT dT).2,(nt b z).2.2⟩
  ·obtain⟨o,es,ep,ho,r⟩:=hm;have hL:X.env.locals∉ch:=λz=>by
    rcases inch _ z with q|q
    ·exact(Inv.rec_ne I he hd).1 q.symm
    ·obtain⟨_,oT,ts,hT,dT,_⟩:=ft _ q;exact(Inv.rec_ne I hT dT).1 rfl
   obtain⟨sl,e⟩:=any _ o hL ho;exact⟨_,es,ep,e,r⟩
  ·refine(I.hok b u e).stay (λc v hc q=>?_) (λ_ q=>q) λ_ _ q=>q;have hn:H c≠none:=by
    rcases hc with rfl|hc
    ·rw[e];simp
    ·rw[hc];simp
   refine k.keep c v (λz=>hn (I.stkFree c z)) (λz=>hn (by rw[z];exact na.2.1)) (λz=>hn (nt c z).2.1) q
 have nT:Nw X pins H T:=by
  rcases hT with hT|hT
  ·exact Inv.nw I hx (Heap.get?_none_of_le hT) (I.hok.fresh hT)
  ·exact nt T hT
 exact⟨I',C,dx,some T,f',hC,fl',hf',na,λT' z=>by cases z;exact nT,sy⟩
abbrev Own(X:Cx):Prop:=X.stack=X.env::X.outer/\X.env.frame=some X.env.locals/\X.ex=[]
section
variable{A:Around}{E:Value->Shared->Prop}{M:Model}{Q:Unit->Shared->Prop}
theorem Lies.note(ow:Own X)(hA:A.frames=some X.stack)(l:Lies X pins x σ H a s)(q:∀h',Lies X pins x σ H a { s with heap:=h' }->(∃C dx T,BR X.K x.1 C/\Fly h' a (.ref C) dx (some T) (rawInt X.env.locals))->Q () { s with heap:=h' }):wpAny M A (noteFrame (.ref a) X.env) Q E s:=by
 obtain⟨I,C,dx,tb,f,hC,fl,hf,na,nt,sy⟩:=l;rw[ow.1] at hA;have st:=I.stack;rw[ow.1] at st;exact UJ hA st ow.2.1 fl hf λh' T k hT fl'=>q h' (Lies.left ow.2.2 I hC fl na nt sy (by rw[ow.1];exact k) hT fl' (.inr rfl)) ⟨C,dx,T,hC,fl'⟩
theorem Lies.flight{fr:Option Addr}(ow:Own X)(l:Lies X pins x σ H a s)(ht:∃C dx T f,BR X.K x.1 C/\Fly s.heap a (.ref C) dx (some T) f)(hfr:fr=none∨fr=some X.env.locals)
  (q:∀h',Lies X pins x σ H a { s with heap:=h' }->(∃C dx T,BR X.K x.1 C/\Fly h' a (.ref C) dx (some T) (fr.elim .none λz=>rawInt z))->Q () { s with heap:=h' }):wpAny M A (setFlight (.ref a) fr) Q E s:=by
 obtain⟨I,C,dx,tb,f,hC,fl,hf,na,nt,sy⟩:=l;obtain⟨C',dx',T,f',hC',fl'⟩:=ht;have e1:tb=some T:=by
  obtain⟨⟨oe,vs,he,_,_,hd,h1⟩,_⟩:=fl;obtain⟨⟨oe',vs',he',_,_,hd',h1'⟩,_⟩:=fl';rw[he] at he';cases he';rw[hd] at hd';cases hd';rw[h1] at h1';cases tb with
  |none=>cases h1'
  |some T'=>cases h1';rfl
 subst e1;exact Pf I.stack fl λh' k fl''=>q h' (Lies.left ow.2.2 I hC fl na nt sy k (.inr rfl) fl'' (by
  rcases hfr with rfl|rfl
  ·exact .inl rfl
  ·exact .inr rfl)) ⟨C,dx,T,hC,fl''⟩
theorem WZ(ow:Own X)(hA:A.frames=some X.stack):PassesOwn M A X.env (XP X pins W):=by
 rintro e s ⟨x,a,σ,H,rfl,l,w⟩;refine Lies.note ow hA l λh' l' ⟨C,dx,T,hC,fl⟩=>?_;obtain⟨oe,vs,he,_,_,hd,h1⟩:=fl.ob;unfold cameBackBy;refine AAA (AAt he hd h1 ?_);rw[if_neg (by simp)];rw[ow.2.1];exact Lies.flight ow l' ⟨C,dx,T,_,hC,fl⟩ (.inr rfl) λh'' l'' _=>⟨x,a,σ,H,rfl,l'',w⟩
end
end
end Xc
namespace Xc
open PySem L2 Mi
noncomputable def FlX(K:KW)(Dn:JU)(W:Exn->St->Hp->Prop)(ι':Nat->Addr)(k:Nat)(H':Hp)(τ':Sl)(σ':St):Fl->Prop
 | .xc x=>W x σ' H'
 |f=>FlP K Dn ι' k H' τ' σ' f
def tSx(K:KW)(m:Sl->M (Fl×Sl))(Dn:JU)(W:Exn->St->Hp->Prop)(σ:St)(H:Hp):Prop:=∃ι μ τ f τ' μ',RelH K ι μ H/\RelS K ι μ.length H τ σ/\m τ μ=some ((f,τ'),μ') /\
 Aft K ι μ H μ' λι' H'=>∀σ',RelS K ι' μ'.length H' τ' σ'->FlX K Dn W ι' μ'.length H' τ' σ' f
structure XS(X:Cx)(st:Stmt)(m:Sl->M (Fl×Sl)):Prop where
 pe:∀pins s σ H Dn W,Inv X pins σ H s->tSx X.kw m Dn W σ H->wpAny (model X.prog X.w) X.A (exec st X.env) (SP X pins Dn) (XP X pins W) s
structure XSs(X:Cx)(st:List Stmt)(m:Sl->M (Fl×Sl)):Prop where
 pe:∀pins s σ H Dn W,Inv X pins σ H s->tSx X.kw m Dn W σ H->wpAny (model X.prog X.w) X.A (execs st X.env) (SP X pins Dn) (XP X pins W) s
def NoX(m:Sl->M (Fl×Sl)):Prop:=∀τ μ x τ' μ',m τ μ≠some ((.xc x,τ'),μ')
theorem Wq{m:Sl->M D}{g:D->Sl->M (Fl×Sl)}(h:∀d τ μ x τ' μ',g d τ μ≠some ((.xc x,τ'),μ')):NoX λτ=>bnd (m τ) λd=>g d τ:=λτ μ x τ' μ' e=>by
 obtain⟨d,μ1,_,e⟩:=AJ e;exact h _ _ _ _ _ _ e
theorem Wr{m:Sl->M D}{bf:D->Sl->M Sl}:NoX (Ai m bf):=Wq λd τ μ x τ' μ' e=>by
 obtain⟨_,_,_,e⟩:=AJ e;cases e
theorem UH{mo mi mv:Sl->M D}:NoX (Lh mo mi mv):=λτ μ x τ' μ' e=>by
 obtain⟨_,_,_,e⟩:=AJ e;obtain⟨_,_,_,e⟩:=AJ e;obtain⟨_,_,_,e⟩:=AJ e;obtain⟨r,_,_,e⟩:=AJ e;split at e
 ·split at e
  ·cases e
  ·cases e
 ·cases e
section
variable{Y:Cx}{st:Stmt}{rest body:List Stmt}{m m1 m2:Sl->M (Fl×Sl)}{mc:Sl->M Bool}{c:Expr}{pos:Pos}
theorem Hf(h:RS Y.nox st m)(nx:NoX m:=by first|exact Wr|exact nx_expr|exact nx_ret|exact nx_nil|exact nx_retN|exact UH):XS Y.nox st m:=⟨λpins s σ H Dn W I h0=>by
 refine AAh (h.pe pins s σ H Dn I ?_) (λ_ _ q=>q) λ_ _ z=>False.elim z;obtain⟨ι,μ,τ,f,τ',μ',R,S,e,q⟩:=h0;refine⟨ι,μ,τ,f,τ',μ',R,S,e,λι' H' E' R' σ' S'=>?_⟩;have q:=q ι' H' E' R' σ' S';cases f with
 |xc x=>exact absurd e (nx _ _ _ _ _)
 |_=>exact q⟩
theorem He:XSs Y.nox [] BT:=⟨λpins s σ H Dn W I h0=>by
 obtain⟨ι,μ,τ,f,τ',μ',R,S,e,q⟩:=h0;cases e;exact wpAny_execs_nil ⟨σ,H,I,q ι H R.ext0 R σ S⟩⟩
theorem BH(h:XS Y.nox st m):XSs Y.nox [st] m:=⟨λpins s σ H Dn W I h0=>by
 refine wpAny_execs_cons (thn (h.pe pins s σ H Dn W I h0) λf s1 q=>?_);cases f with
 |next=>exact wpAny_execs_nil q
 |_=>exact q⟩
theorem Ar(h1:XS Y.nox st m1)(h2:XSs Y.nox rest m2):XSs Y.nox (st::rest) (AS m1 m2):=⟨λpins s σ H Dn W I h0=>by
 obtain⟨ι,μ,τ,f,τ',μ',R,S,e,q⟩:=h0;obtain⟨⟨f1,τ1⟩,μ1,e1,e⟩:=AJ e;refine wpAny_execs_cons (thn (h1.pe pins s σ H { Dn with nx:=λσ' H'=>tSx Y.nox.kw m2 Dn W σ' H' } W I ⟨ι,μ,τ,f1,τ1,μ1,R,S,e1,λι1 H1 E1 R1 σ1 S1=>?_⟩) λf s1 q=>?_)
 ·cases f1 with
  |next=>exact⟨ι1,μ1,τ1,f,τ',μ',R1,S1,e,λι2 H2 E2 R2=>q ι2 H2 (E1.trans E2) R2⟩
  |brk=>cases e;exact q ι1 H1 E1 R1 σ1 S1
  |cont=>cases e;exact q ι1 H1 E1 R1 σ1 S1
  |rt d=>cases e;exact q ι1 H1 E1 R1 σ1 S1
  |xc x=>cases e;exact q ι1 H1 E1 R1 σ1 S1
 ·cases f with
  |next=>
   obtain⟨σ',H',I',q⟩:=q;exact h2.pe pins s1 σ' H' Dn W I' q
  |_=>exact q⟩
theorem LN(hc:RT Y.nox c mc)(h1:XSs Y.nox body m1)(h2:XSs Y.nox rest m2):XS Y.nox (.If c body rest pos) (sIf mc m1 m2):=⟨λpins s σ H Dn W I h0=>by
 obtain⟨ι,μ,τ,f,τ',μ',R,S,e,q⟩:=h0;obtain⟨x,μ1,e1,e⟩:=AJ e;refine wpAny_If (AAh (hc.pe pins s σ H (λb H1=>if b=true then tSx Y.nox.kw m1 Dn W σ H1 else tSx Y.nox.kw m2 Dn W σ H1) I ⟨ι,μ,τ,x,μ1,R,S,e1,λι1 H1 E1 R1=>?_⟩) (λd s1 ⟨H1,I1,q1⟩=>?_) λ_ _ z=>False.elim z)
 ·cases x with
  |true=>exact⟨ι1,μ1,τ,f,τ',μ',R1,S.ext E1,e,λι2 H2 E2 R2=>q ι2 H2 (E1.trans E2) R2⟩
  |false=>exact⟨ι1,μ1,τ,f,τ',μ',R1,S.ext E1,e,λι2 H2 E2 R2=>q ι2 H2 (E1.trans E2) R2⟩
 ·cases d with
  |true=>exact h1.pe pins s1 σ H1 Dn W I1 q1
  |false=>exact h2.pe pins s1 σ H1 Dn W I1 q1⟩
end
noncomputable abbrev Dx:=Sum D Exn
noncomputable def spX(K:KW)(n:Nat)(φ:List D->M Dx):Sp:=λvs H Q E=>vs.length=n/\∃ι μ ds r μ',RelH K ι μ H/\IsL K ι μ.length H ds vs/\φ ds μ=some (r,μ')/\Aft K ι μ H μ' λι' H'=>match r with
 | .inl d=>∀v,Is K ι' μ'.length H' d v->Q v H'
 | .inr x=>E (.str x.1 0) x.2 H'
structure FnX(P:Program)(w:World)(K:PySem.W.Frag)(mg:Str->Option Value)(base:Heap)(x:Str)(ps:List Str)(k:Nat)(φ:List D->M Dx):Prop where
 len:∀ds μ r,φ ds μ=some r->ds.length=ps.length
 ex:∃f fd,FnOk P w K mg base (CX1 K P w) k f fd ps (spX ⟨K,w⟩ ps.length φ)/\mg x=some (.ref f)/\PySem.W.keepIn K (.ref f)=true/\Binds K fd ps []
noncomputable def Al(φ:List D->M Dx)(m:Sl->M (List D)):Sl->M Dx:=λτ=>bnd (m τ) φ
structure XE(X:Cx)(e:Expr)(m:Sl->M Dx):Prop where
 pe:∀pins s σ H (Q:VK) (W:Exn->St->Hp->Prop),Inv X pins σ H s->(∃ι μ τ r μ',RelH X.kw ι μ H/\RelS X.kw ι μ.length H τ σ/\m τ μ=some (r,μ')/\Aft X.kw ι μ H μ' λι' H'=>match r with
  | .inl d=>∀v,Is X.kw ι' μ'.length H' d v->Q v H'
  | .inr x=>W x σ H')->wpAny (model X.prog X.w) X.A (eval e X.env) (EP X pins σ Q) (XP X pins W) s
section
variable{Y:Cx}{e:Expr}{es:List Expr}{pos p:Pos}
theorem Vz{X:Cx}{k:Nat}{f:Addr}{fd:FuncData}{ps:List Str}{sp:Sp}{pins:List (Addr×Obj)}{σ:St}{H:Hp}{s:Shared}{Q:VK}{us:List Value}{vs:List V}{W:Exn->St->Hp->Prop}(F:FnOk X.prog X.w X.K X.mg X.base (CX1 X.K X.prog X.w) k f fd ps sp)(hr:Room k X.A)(hb:Binds X.K fd ps [])(hx:X.ex=[])
  (I:Inv X pins σ H s) (r:Vals vs us) (h:sp vs H Q (wsh λx H'=>W x σ H')):wpAny (model X.prog X.w) X.A (call (.ref f) us) (EP X pins σ Q) (XP X pins W) s:=by
 have hl:(us++[]).length=ps.length:=by rw[AAZ,←r.length];exact F.len _ _ _ _ h
 have b:=hb s us I.kIn hl;rw[AAZ] at b;refine wpAny_call (codeAny_mono (F.run X.A X.stack s H ⟨us,[]⟩ us vs Q _ hr I.env0 b r h) λr s' hq=>?_);cases r with
 |error e=>exact XP.call hx I hq λ_ _ z=>z
 |ok fl=>
  cases fl with
  |ret u=>exact I.after hq
  |_=>exact False.elim hq
theorem BM{x:Str}{ps:List Str}{k j:Nat}{φ:List D->M Dx}{m:Sl->M (List D)}(F:FnX Y.nox.prog Y.nox.w Y.nox.kw Y.nox.mg Y.nox.base x ps k φ)(hr:Room j Y.nox.A)(ha:RA Y.nox (e::es) m)(hkj:k<=j:=by decide)(hg:Gl Y.nox x:=by rfl)(hdb:(x==("__debug__" : Str))=false:=by decide)
  (he:starEach (e::es) Y.nox.env=(false,eval e Y.nox.env)::starEach es Y.nox.env:=by exact A6 rfl) (hpl:(backTo pos (starEach es Y.nox.env)).any (·.1)=false:=by exact BJ rfl) (hx:Y.nox.ex=[]:=by rfl):XE Y.nox (.Call (.Name x p) (e::es) [] pos) (Al φ m):=⟨λpins s σ H Q W I h0=>by
 obtain⟨len,f,fd,F,hm,hk,hb⟩:=F;obtain⟨ι,μ,τ,r,μ',R,S,e0,q⟩:=h0;obtain⟨ds,μ1,e1,e2⟩:=AJ e0;refine wpAny_Call_Name_kw (Fo I hg hm ?_ hdb);refine PySem.W.callWith_K (h₀:=Y.nox.base) I.ok.mod.kin hk (AAh (ha.pe pos pins s σ H (λvs H1=>spX Y.nox.kw ps.length φ vs H1 Q (wsh λx H'=>W x σ H')) I ⟨ι,μ,τ,ds,μ1,R,S,e1,λι1 H1 E1 R1 vs iv=>?_⟩) (λus s1 ⟨vs,H1,I1,r1,q1⟩=>⟨I1.kIn,?_⟩) λ_ _ z=>False.elim z) he hpl
 ·refine⟨by rw[iv.length];exact len _ _ _ e2,ι1,μ1,ds,r,μ',R1,iv,e2,λι2 H2 E2 R2=>?_⟩;have q:=q ι2 H2 (E1.trans E2) R2;cases r with
  |inl d=>exact q
  |inr x=>exact⟨x.1,rfl,q⟩
 ·exact Vz F (hr.mono hkj) hb hx I1 r1 q1⟩
noncomputable def Ak(m:Sl->M Dx):Sl->M (Fl×Sl):=λτ=>bnd (m τ) λr=>match r with
 | .inl _=>ret (.next,τ)
 | .inr x=>ret (.xc x,τ)
theorem As{m:Sl->M Dx}(h:XE Y.nox e m)(hs:swapsWith e none pos.line Y.nox.env=pure false:=by rfl):XS Y.nox (.Expr e pos) (Ak m):=⟨λpins s σ H Dn W I h0=>by
 obtain⟨ι,μ,τ,f,τ',μ',R,S,e0,q⟩:=h0;obtain⟨r,μ1,e1,e2⟩:=AJ e0;refine wpAny_Expr_any (thn (h.pe pins s σ H (λ_ H1=>Dn.nx σ H1) W I ⟨ι,μ,τ,r,μ1,R,S,e1,λι1 H1 E1 R1=>?_⟩) λv s1 ⟨x,H1,I1,r1,q1⟩=>⟨σ,H1,I1,q1⟩) I.quiet hs;cases r with
 |inl d=>cases e2;exact λv _=>q ι1 H1 E1 R1 σ (S.ext E1)
 |inr x=>cases e2;exact q ι1 H1 E1 R1 σ (S.ext E1)⟩
noncomputable def vals(φ:List D->M Dx):List D->M D:=λds μ=>match φ ds μ with
 |some (.inl d,μ')=>some (d,μ')
 |_=>none
theorem Og{φ:List D->M Dx}{ds:List D}{μ μ':Mh}{d:D}(h:vals φ ds μ=some (d,μ')):φ ds μ=some (.inl d,μ'):=by
 unfold vals at h;split at h
 ·rename_i d' μ1 e;cases h;exact e
 ·cases h
theorem Ms{X:Cx}{x:Str}{ps:List Str}{k j:Nat}{φ:List D->M Dx}{m:Sl->M (List D)}(F:FnX X.prog X.w X.kw X.mg X.base x ps k φ)(hr:Room j X.A)(ha:RA X (e::es) m)(hkj:k<=j:=by decide)(hg:Gl X x:=by rfl)(hdb:(x==("__debug__" : Str))=false:=by decide)
  (he:starEach (e::es) X.env=(false,eval e X.env)::starEach es X.env:=by exact A6 rfl) (hpl:(backTo pos (starEach es X.env)).any (·.1)=false:=by exact BJ rfl):RE X (.Call (.Name x p) (e::es) [] pos) (AF (vals φ) m):=by
 obtain⟨len,f,fd,F,hm,hk,hb⟩:=F;refine RE.wk (N2 (E:=λ_ _ _=>False) F (hr.mono hkj) hg hm hk hb .nil (λ_ _ _ _ _ _ _ h=>?_) ha.pe hdb he hpl) λ_ _ _ q=>Ev q λι μ μ' H ds vs d R i e q=>?_
 ·obtain⟨x,a,C,dx,tb,H',_,_,_,_,_,_,_,_,_,_,z⟩:=h;exact False.elim z
 ·rw[AAZ];have e':=Og e;exact⟨by rw[i.length];exact len ds μ _ e',ι,μ,ds,.inl d,μ',R,i,e',q⟩
theorem V5{X:Cx}{x:Str}{k j:Nat}{φ:List D->M D}(F:Fn X.prog X.w X.kw X.mg X.base x [] k φ)(hr:Room j X.A)(hkj:k<=j:=by decide)(hg:Gl X x:=by rfl)(hdb:(x==("__debug__" : Str))=false:=by decide):RE X (.Call (.Name x p) [] [] pos) (AF φ AH):=by
 obtain⟨len,f,fd,F,hm,hk,hb⟩:=F;refine RE.wk (RV (E:=E0) F (hr.mono hkj) hg hm hk hb .nil VC hdb) λσ H Q q=>?_;obtain⟨ι,μ,τ,d,μ',R,S,e,q⟩:=q;exact⟨rfl,ι,μ,[],d,μ',R,.nil,e,q⟩
end
end Xc
namespace Xc
open PySem L2 Mi
open PyProof.Rows (AllBare)
section
variable{Y:Cx}{body:List Stmt}{e tg iter:Expr}{pos:Pos}
theorem V9{X:Cx}{wi:TI}{g:TG}(ow:Own X)(hc:X.calm=true)(hx:∀e s,X.xe e s->False)(hi:PI X tg iter wi)(hg:PG X tg g){tb:JU->(Exn->St->Hp->Prop)->St->Hp->Prop}
  (hb:∀pins s σ H D W,Inv X pins σ H s->tb D W σ H->wpAny (model X.prog X.w) X.A (execs body X.env) (SP X pins D) (XP X pins W) s) (hs:∀x,foldedSetIterable iter X.env x=pure x) {pins:List (Addr×Obj)} {s:Shared} {σ:St} {H:Hp} {D:JU} {W:Exn->St->Hp->Prop} (I:Inv X pins σ H s)
  (h:YA wi g (λD' σ' H'=>tb D' W σ' H') D σ H):wpAny (model X.prog X.w) X.A (exec (.For tg iter body [] pos) X.env) (SP X pins D) (XP X pins W) s:=by
 have hp:PassesOwn (model X.prog X.w) X.A X.env (XP X pins W):=WZ ow I.ok.frames;have no:∀{α:Type} {t:Sem α} {Q:α->Shared->Prop} {s:Shared},wpAny (model X.prog X.w) X.A t Q X.xe s->wpAny (model X.prog X.w) X.A t Q (XP X pins W) s:=λh=>AAh h (λ_ _ q=>q) λe s z=>(hx e s z).elim;refine wpAny_For (no (thn (hi pins s σ H _ I h) λv s1 h1=>h1) |> λz=>AAh z (λv s1 h1=>no (thn h1 λitv s2 h2=>h2) |> λz=>AAh z (λitv s2 h2=>?_) λ_ _ q=>q) λ_ _ q=>q) hs;obtain⟨it,fp,tn,J,H2,e,I2,T,st2,f2,Wt,⟨m0,w0⟩,Eu⟩:=h2;subst e;have stat:∀{H':Hp},(∀b∈fp,H' b=none)->∀b∈fp,Eo X pins H' b:=λhn b hb=>⟨hn b hb,(f2 b hb).2⟩;refine codeAny_forLoop_any (λn s'=>∃i σ' H',Inv X pins σ' H' s'/\tn i s'.heap/\(∀b∈fp,H' b=none)/\Wt i n σ' H') ?_ m0 ⟨0,σ,H2,I2,st2,λb hb=>(f2 b hb).1,w0⟩;rintro n s3 ⟨i,σ3,H3,I3,st3,fr3,w3⟩;rcases Eu i n σ3 H3 w3 with ⟨stop,qn⟩|⟨go,N,hN,step⟩
 ·refine wpAny_passesOwn hp (thn (T.done X rfl rfl rfl hc i pins s3 σ3 H3 _ I3 (stat fr3) st3 stop) λr s4 ⟨hr,I4⟩=>?_);subst hr;exact wpAny_execs_nil ⟨σ3,H3,I4,qn⟩
 ·refine wpAny_passesOwn hp (thn (T.item X rfl rfl rfl hc i pins s3 σ3 H3 _ I3 (stat fr3) st3 go) λr s4 ⟨u,hr,h4⟩=>?_);subst hr;refine wpAny_passesOwn hp (thn h4 λ_ s5 ⟨x,H5,I5,r5,y5,st5,fr5⟩=>?_);have I5':=I5.pinned (stat fr5) (T.obj _ _ st5);refine wpAny_passesOwn hp (AAh (no (hg _ s5 σ3 H5 x u _ I5' r5 (step x H5 y5))) (λ_ s6 ⟨σ6,H6,I6,q6⟩=>?_) λ_ _ z=>z);refine wpAny_passesOwn hp (AAh (hb _ s6 σ6 H6 _ W I6 q6) (λf s7 q7=>?_) λ_ _ z=>z.less λp hp=>AAb _ hp);have again:∀{σ7:St} {H7:Hp},Inv X (pins++Ii fp s5.heap) σ7 H7 s7->N σ7 H7->∃m,m<n/\∃i σ' H',Inv X pins σ' H' s7/\tn i s7.heap/\(∀b∈fp,H' b=none)/\Wt i m σ' H':=λ{σ7 H7} I7 n7=>by
   obtain⟨m',hm,w7⟩:=hN σ7 H7 n7;refine⟨m',hm,i+1,σ7,H7,I7.unpinned,T.keep _ _ _ st5 λb hb o e=>(I7.pin (b,o) (AAa _ (AAa _ (BV hb e)))).1,λb hb=>?_,w7⟩;obtain⟨o,e,d⟩:=T.obj _ _ st5 b hb;exact(I7.pin (b,o) (AAa _ (AAa _ (BV hb e)))).2.1
  cases f with
  |next=>obtain⟨σ7,H7,I7,n7⟩:=q7;exact again I7 n7
  |cont=>obtain⟨σ7,H7,I7,n7⟩:=q7;exact again I7 n7
  |brk=>obtain⟨σ7,H7,I7,q7⟩:=q7;exact⟨σ7,H7,I7.unpinned,q7⟩
  |ret v=>obtain⟨x7,σ7,H7,I7,r7,q7⟩:=q7;exact⟨x7,σ7,H7,I7.unpinned,r7,q7⟩
theorem F3{src:Sl->M (List D)}{bf:D->Sl->M Sl}{mb:Sl->M (Fl×Sl)}(hi:RI Y.nox tg iter src)(hg:RG Y.nox tg bf)(hb:XSs Y.nox body mb)(hc:Y.nox.calm=true:=by rfl)(ow:Own Y.nox:=by exact⟨rfl,rfl,rfl⟩)
  (hs:∀x,foldedSetIterable iter Y.nox.env x=pure x:=by intro _;rfl):XS Y.nox (.For tg iter body [] pos) (Dv src bf mb):=⟨λpins s σ H Dn Wx I h0=>by
 refine V9 (X:=Y.nox) ow hc (λ_ _ z=>z) hi.pe hg.pe (tb:=λD W σ H=>tSx Y.nox.kw mb D W σ H) (λpins s σ H D W I h=>hb.pe pins s σ H D W I h) hs I ?_;obtain⟨ι,μ,τ,f,τ',μ',R,S,e,q⟩:=h0;obtain⟨ds,μ1,e1,e⟩:=AJ e;refine⟨ι,μ,τ,ds,μ1,R,S,e1,λι1 H1 E1 R1 J it=>?_⟩
 let W:Nat->Nat->St->Hp->Prop:=λi m σ H=>m=ds.length-i/\i<=ds.length/\∃ι μ τ f τ' μ',RelH Y.nox.kw ι μ H/\RelS Y.nox.kw ι μ.length H τ σ/\ItM Y.nox.kw J ds ι μ H/\FH bf mb (ds.drop i) τ μ=some ((f,τ'),μ') /\
  Aft Y.nox.kw ι μ H μ' λι' H'=>∀σ',RelS Y.nox.kw ι' μ'.length H' τ' σ'->FlX Y.nox.kw Dn Wx ι' μ'.length H' τ' σ' f
 refine⟨W,⟨ds.length,by simp,AAi _,ι1,μ1,τ,f,τ',μ',R1,S.ext E1,it,e,λι2 H2 E2 R2=>q ι2 H2 (E1.trans E2) R2⟩,?_⟩;rintro i m σ H ⟨hm,hil,ι,μ,τ,f,τ',μ',R,S,it,e,q⟩;obtain⟨go,stop,yl⟩:=it ι μ H R.ext0 R;by_cases hlt:i<ds.length
 ·refine .inr ⟨go i hlt,λσ' H'=>W (i+1) (ds.length-(i+1)) σ' H',λσ' H' z=>⟨_,by omega,z⟩,λx H2 y=>?_⟩;have hd:ds[i]?=some ds[i]:=by simp[hlt]
  obtain⟨E2,R2,ix⟩:=yl i x H2 _ hd y;rw[List.drop_eq_getElem_cons hlt] at e;obtain⟨τ1,μ1,e1,e⟩:=AJ e;obtain⟨⟨f2,τ2⟩,μ2,e2,e⟩:=AJ e;refine⟨ι,μ,τ,_,τ1,μ1,R2,S.ext E2,ix,e1,λι3 H3 E3 R3 σ3 S3=>?_⟩;refine⟨ι3,μ1,τ1,f2,τ2,μ2,R3,S3,e2,λι4 H4 E4 R4 σ4 S4=>?_⟩;have E14:=(E2.trans E3).trans E4;cases f2 with
  |next=>exact⟨rfl,hlt,ι4,μ2,τ2,f,τ',μ',R4,S4,it.ext E14,e,λι5 H5 E5 R5=>q ι5 H5 (E14.trans E5) R5⟩
  |cont=>exact⟨rfl,hlt,ι4,μ2,τ2,f,τ',μ',R4,S4,it.ext E14,e,λι5 H5 E5 R5=>q ι5 H5 (E14.trans E5) R5⟩
  |brk=>cases e;exact q ι4 H4 E14 R4 σ4 S4
  |rt d=>cases e;exact q ι4 H4 E14 R4 σ4 S4
  |xc x=>cases e;exact q ι4 H4 E14 R4 σ4 S4
 ·have hi':i=ds.length:=by omega
  subst hi';rw[List.drop_length] at e;cases e;exact .inl ⟨stop,q ι H R.ext0 R σ S⟩⟩
end
noncomputable def Cw(hw:How)(n ps:Nat)(mb:Sl->M (Fl×Sl)):List D->M Dx:=λds μ=>match Nat.beq (List.length ds) ps with
 |true=>match mb (A9 n ds) μ with
  |some ((.xc x,_),μ2)=>some (.inr x,μ2)
  |some ((fl,_),μ2)=>match SA fl with
   |true=>match T8 μ hw (ES fl) μ2 with
    |some (d,μ')=>some (.inl d,μ')
    |none=>none
   |false=>none
  |none=>none
 |false=>none
theorem JJ{hw:How}{n ps:Nat}{mb:Sl->M (Fl×Sl)}{ds:List D}{μ μ':Mh}{r:Dx}(h:Cw hw n ps mb ds μ=some (r,μ')):
  ds.length=ps/\((∃x τ2,r=.inr x/\mb (A9 n ds) μ=some ((.xc x,τ2),μ'))∨∃d fl τ2 μ2,r=.inl d/\mb (A9 n ds) μ=some ((fl,τ2),μ2)/\(fl=.next∨∃d,fl=.rt d)/\((μ'=μ2/\d=ES fl)∨FI μ μ2 μ' (ES fl) d)):=by
 unfold Cw at h;split at h
 ·rename_i hl;refine⟨Nat.eq_of_beq_eq_true hl,?_⟩;split at h
  ·rename_i x τ2 μ2 e;cases h;exact .inl ⟨x,τ2,rfl,e⟩
  ·rename_i fl τ2 μ2 _ e;split at h
   ·rename_i hf;split at h
    ·rename_i d μ3 ho;cases h;exact .inr ⟨d,fl,τ2,μ2,rfl,e,ME hf,N5 ho⟩
    ·cases h
   ·cases h
  ·cases h
 ·cases h
section
variable{P:Program}{w:World}{K:PySem.W.Frag}{mg:Str->Option Value}{base:Heap}
theorem W0{N:List Str}{qual:Str}{scope:Scope}{f:Addr}{cd:Value}{A:Around}{outer:List Env}{s s':Shared}{H:Hp}{E:XK}{W:Exn->St->Hp->Prop}{e:Value}
  (h:XP (BY (CX1 K P w) P w K mg base N qual scope f cd A outer s H E) [] W e s') (hw:∀x σ H',W x σ H'->E (.str x.1 0) x.2 H'):(BY (CX1 K P w) P w K mg base N qual scope f cd A outer s H E).xe e s':=by
 obtain⟨x,a,σ,H',rfl,l,wx⟩:=h;show wpAny _ _ (leaving _ _) _ _ s';unfold leaving;have fr:=l.inv.ok.frames;refine AAA (Lies.note (X:=BY (CX1 K P w) P w K mg base N qual scope f cd A outer s H E) ⟨rfl,rfl,rfl⟩ fr l λh1 l1 ⟨C,dx,T,hC,fl⟩=>?_);refine Lies.flight (X:=BY (CX1 K P w) P w K mg base N qual scope f cd A outer s H E) (s:={ s' with heap:=h1 }) ⟨rfl,rfl,rfl⟩ l1 ⟨C,dx,T,_,hC,fl⟩ (.inl rfl) λh2 l2 ⟨C',dx',T',hC',fl'⟩=>?_;obtain⟨I,C2,dx2,tb,f2,hC2,fl2,_,na,nt,sy⟩:=l2;have same:tb=some T'/\dx2=dx'/\C2=C':=by
  obtain⟨⟨oe,vs,he,c1,d1,hd,h1⟩,_⟩:=fl2;obtain⟨⟨oe',vs',he',c2,d2,hd',h1'⟩,_⟩:=fl';rw[he] at he';cases he';rw[hd] at hd';cases hd';rw[h1] at h1';rw[c1] at c2;refine⟨?_,d1.symm.trans d2,by cases c2;rfl⟩;cases tb with
  |none=>cases h1'
  |some T'=>cases h1';rfl
 obtain⟨rfl,rfl,rfl⟩:=same;exact⟨x,a,C2,dx2,some T',H',rfl,I.os,I.bare,I.base,I.hok,hC',fl',⟨na.1,na.2.1⟩,λT z=>⟨(nt T z).1,(nt T z).2.1⟩,sy,hw _ _ _ wx⟩
theorem XP.unwish{X:Cx}{F:Value->Shared->Prop}{pins:List (Addr×Obj)}{W:Exn->St->Hp->Prop}{e:Value}{s:Shared}(h:XP (X.wish F) pins W e s):XP X pins W e s:=by
 obtain⟨x,a,σ,H,e,⟨I,r⟩,w⟩:=h;exact⟨x,a,σ,H,e,⟨I.unwish,r⟩,w⟩
theorem DA(hw:How){x qual:Str}{st:Stmt}{f:Addr}{fd:FuncData}{N ps:List Str}{k:Nat}{mb:Sl->M (Fl×Sl)}(F:Fun K x qual st f fd)(S:Aj N ps (AK st))(hm:mg x=some (.ref f))(hb:Binds K fd ps [])
  (body:∀(cdv:Value) (A:Around) (outer:List Env) (s:Shared) (H:Hp) (E:XK),Room k (A.deeper (PyProof.Rows.envOfC qual (AK st) s.heap.objs.size f cdv))->XSs (BY CX0 P w K mg base N qual (AK st) f cdv A outer s H E).nox (Af st) mb) :
  FnX P w K mg base x ps (k+1) (Cw hw N.length ps.length mb):=by
 refine⟨λds μ r h=>(JJ (r:=r.1) (μ':=r.2) h).1,f,fd,?_,hm,F.kp,hb⟩;obtain⟨oc,od,kV,doc,pm,an,cdv,ct,osl,rfl,lk,hcd⟩:=F.ex;refine VN lk hcd S (λvs H Q E h=>h.1) λA outer s H vs Q E hr h=>?_;obtain⟨hl,ι,μ,ds,r,μ',R,i,e,q⟩:=h;refine⟨λD σ H'=>tSx ⟨K,w⟩ mb D (λx _ H'=>E (.str x.1 0) x.2 H') σ H',λpins s1 σ H' D I h1=>?_,?_⟩
 ·exact AAh ((body cdv A outer s H E hr).pe pins s1 σ H' D _ (I.wish _) h1) (λ_ _ z=>SP.unwish (X:=BY (CX1 K P w) P w K mg base N qual (AK st) f cdv A outer s H E) z) λe s' z=>W0 ((XP.unwish (X:=BY (CX1 K P w) P w K mg base N qual (AK st) f cdv A outer s H E) z).less λp hp=>nomatch hp) λ_ _ _ q=>q
 ·obtain⟨_,⟨x,τ2,rfl,e2⟩|⟨d,fl,τ2,μ2,rfl,e2,hfl,t⟩⟩:=JJ e
  ·exact⟨ι,μ,_,.xc x,τ2,μ',R,RelS.start i,e2,λι2 H2 E2 R2 σ2 S2=>q ι2 H2 E2 R2⟩
  ·refine⟨ι,μ,_,fl,τ2,μ2,R,RelS.start i,e2,λι2 H2 E2 R2 σ2 S2=>?_⟩;have z:Ext ι μ.length H ι2 μ'.length H2/\RelH ⟨K,w⟩ ι2 μ' H2/\∀v,Is ⟨K,w⟩ ι2 μ2.length H2 (ES fl) v->Is ⟨K,w⟩ ι2 μ'.length H2 d v:=by
    rcases t with ⟨rfl,rfl⟩|t
    ·exact⟨E2,R2,λv iv=>iv⟩
    ·exact IN R E2 R2 t
   obtain⟨E3,R3,c⟩:=z;rcases hfl with rfl|⟨d0,rfl⟩
   ·exact q ι2 H2 E3 R3 _ (c _ (by unfold ES Is;rfl))
   ·exact λv iv=>q ι2 H2 E3 R3 v (c v iv)
end
end Xc
namespace Xc
open PySem L2 Mi
abbrev bmV:List Value:=[.type "ValueError",.type "Exception",.type "BaseException",.type "object"]
structure Ec(K:PySem.W.Frag)(c:Str)(C:Addr):Prop where
 at_:BR K c C
 ex:PySem.W.excIn K C bmV "ValueError.__new__" = true
theorem Ec.obj{K:PySem.W.Frag}{c:Str}{C:Addr}{h:Heap}(e:Ec K c C)(X:K.In h):∃bm N nm q bs hdct sn sub ab col dd k0 k1 k2 k3 k5 mN,mN "__init__" = none/\∀h',K.In h'->h'.get? C=some (excClassObj nm q C N bs bm hdct sn sub ab col dd k0 k1 k2 k3 k5 "ValueError.__new__")/\h'.Ns N mN/\OwnTail h' bmV bm:=by
 have q:=e.ex;unfold PySem.W.excIn at q;cases l:K.lookup C with
 |none=>rw[l] at q;cases q
 |some o=>
  rw[l] at q;split at q
  ·rename_i dd cd sl w;cases w;split at q
   ·rename_i C' bm k0 k1 k2 k3 n k5 h1 h2;simp only[Bool.and_eq_true,beq_iff_eq,Bool.not_eq_true'] at q;obtain⟨⟨⟨⟨⟨z1,z2⟩,z3⟩,z4⟩,z5⟩,z6⟩:=q;have hsl:sl=#[k0,k1,k2,k3,some (.builtin "ValueError.__new__"),k5]:=by
     rw[←z2];exact Array.toList_inj.mp h2
    refine⟨bm,cd.ns,cd.name,cd.qualname,cd.bases,cd.hasDict,cd.slotNames,cd.subclasses,cd.abstract,cd.collection,dd,k0,k1,k2,k3,k5,_,PySem.W.nsMap_none_of_in X z5 z6,λh' X'=>⟨?_,?_,PySem.W.tail_of_in X' z4⟩⟩
    ·rw[X' _ _ l,hsl];cases cd;dsimp only at h1 z3;subst h1 z3 z1;rfl
    ·obtain⟨o,es,ep,ho,r⟩:=(Heap.Ns.of_isNs (PySem.W.isNs_of_in X z5):h.Ns cd.ns _);unfold PySem.W.nsOkIn at z5;cases l2:K.lookup cd.ns with
     |none=>rw[l2] at z5;cases z5
     |some o2=>
      have:=X _ _ l2;rw[ho] at this;cases this;exact⟨o,es,ep,X' _ _ l2,r⟩
   ·cases q
  ·cases q
theorem Lw{P:Program}{w:World}{H:Hp}{h:Heap}{a:Addr}{o:HO}(x:ObjOk P w H h a o):∃u,h.get? a=some u:=by
 cases o with
 |lst xs=>obtain⟨_,_,_,_,e⟩:=x;exact⟨_,e⟩
 |tup xs=>obtain⟨_,_,_,o,e,_⟩:=x;exact⟨o,e⟩
 |dK kvs=>obtain⟨_,_,_,_,o,_,_,e,_⟩:=x;exact⟨o,e⟩
 |dT kvs=>obtain⟨_,_,_,_,o,_,_,e,_⟩:=x;exact⟨o,e⟩
 |set S n=>obtain⟨o,_,_,_,e,_⟩:=x;exact⟨o,e⟩
 |ins C dx fs=>obtain⟨_,_,_,e,_⟩:=x;exact⟨_,e⟩
 |own y=>exact x
 |xd fs=>obtain⟨_,⟨o,_,_,e,_⟩,_⟩:=x;exact⟨o,e⟩
 |rng lo hi=>obtain⟨_,_,_,e⟩:=x;exact⟨_,e⟩
 |frz ob u=>exact⟨ob,x.1⟩
 |tbl ps=>exact⟨_,x⟩
 |met f y=>exact⟨_,x⟩
 |ext φ=>exact x.2.1
noncomputable def KY(c:Str)(m:Sl->M (List D)):Sl->M (Fl×Sl):=λτ=>bnd (m τ) λds=>bnd (lim ds.length) λ_=>ret (.xc (c,none),τ)
section
variable{Y:Cx}{x:Str}{C:Addr}{e:Expr}{es:List Expr}{np cpos pos:Pos}{m:Sl->M (List D)}
theorem P7(cl:Ec Y.nox.K x C)(hm:Y.nox.mg x=some (.ref C))(ha:RA Y.nox (e::es) m)(hg:Gl Y.nox x:=by rfl)(hdb:(x==("__debug__" : Str))=false:=by decide)(hc:Y.nox.calm=true:=by rfl)(hx:Y.nox.ex=[]:=by rfl)
  (he:starEach (e::es) Y.nox.env=(false,eval e Y.nox.env)::starEach es Y.nox.env:=by exact A6 rfl) (hpl:(backTo cpos (starEach (e::es) Y.nox.env)).any (·.1)=false:=by exact BJ rfl) :
  XS Y.nox (.Raise (some (.Call (.Name x np) (e::es) [] cpos)) none pos) (KY x m):=⟨λpins s σ H Dn W I h0=>by
 obtain⟨ι,μ,τ,f,τ',μ',R,S,e0,q⟩:=h0;obtain⟨ds,μ1,e1,e2⟩:=AJ e0;obtain⟨_,μ2,e3,e4⟩:=AJ e2;obtain⟨hl,rfl⟩:=CN e3;cases e4;obtain⟨bm,N,nm,q',bs,hdct,sn,sub,ab,col,dd,k0,k1,k2,k3,k5,mN,hni,ob⟩:=cl.obj I.kIn;refine wpAny_Raise_call_subT (C:=C) (nm:=nm) (q:=q') (N:=N) (bs:=bs) (bm:=bm) (bmB:=bmV) (hdct:=hdct) (sn:=sn) (sub:=sub) (ab:=ab) (col:=col) (dd:=dd) (k0:=k0) (k1:=k1) (k2:=k2) (k3:=k3) (k5:=k5) PySem.F.excBase_ValueError (mN:=mN) ((ob _ I.kIn).2.2.hasType (by decide +kernel)) (I.ok.hd hc) hpl hni
  (Fo I hg hm ⟨rfl,?_⟩ hdb)
 have hb:backTo cpos (starEach (e::es) Y.nox.env)=(false,(backTo cpos (starEach (e::es) Y.nox.env)).head!.2)::(backTo cpos (starEach es Y.nox.env)):=by rw[he];rfl
 rw[hb];refine PySem.Calls.evalArgs_plain ?_;rw[←hb];refine AAh (ha.pe cpos pins s σ H (λvs H1=>vs.length<=sizeLine/\W (x,none) σ H1) I ⟨ι,μ,_,ds,_,R,S,e1,λι1 H1 E1 R1 vs iv=>⟨by rw[iv.length];exact hl,q ι1 H1 E1 R1 σ (S.ext E1)⟩⟩) (λus s1 ⟨vs,H1,I1,r1,q1,q2⟩=>?_) λ_ _ z=>False.elim z;obtain⟨hC,hN,T⟩:=ob _ I1.kIn;refine⟨rfl,by rw[←r1.length];exact q1,hC,hN,T,λh' a hm=>?_⟩;obtain⟨t,h1,h2,h3⟩:=hm.there;have hH:H1 a=none:=by
  cases z:H1 a with
  |none=>rfl
  |some u=>
   obtain⟨o,w⟩:=Lw (I1.hok a u z);rw[hm.new] at w;cases w
 exact⟨(x,none),a,σ,H1,rfl,⟨I1.kept (t':=s1.toks) hm.keeps,C,none,none,.none,cl.at_,⟨⟨_,_,h1,rfl,rfl,rfl,rfl⟩,(λT z=>nomatch z)⟩,.inl rfl,Inv.nw I1 hx hm.new hH,(λT z=>nomatch z),rfl⟩,q2⟩⟩
end
structure Cd(K:PySem.W.Frag)(d:Str)(Da:Addr):Prop where
 at_:BR K d Da
 ty:PySem.W.typeIn K (.ref Da)=some (.type "type")
 cl:(PySem.W.clsIn K Da).isSome=true
 ex:PySem.W.subIn K (.ref Da) (.type "BaseException")=some true
section
variable{K:PySem.W.Frag}{M:Model}{A:Around}{E:Value->Shared->Prop}{s:Shared}{Q:Bool->Shared->Prop}{a C Da:Addr}{oe:Obj}{d:Str}{b:Bool}
theorem Ge{h:Heap}(X:K.In h)(z:(PySem.W.clsIn K Da).isSome=true):PySem.W.Looks M h (isType (.ref Da)) true:=by
 obtain⟨cd,e⟩:∃cd:ClassData,∃c d sl,K.lookup Da=some ⟨c,d,.cls cd,sl⟩:=by
  revert z
  unfold PySem.W.clsIn;split<;>intro z
  ·next o=>exact⟨_,_,_,_,o⟩
  ·cases z
 obtain⟨_,_,_,o⟩:=e;rintro _ _ _ ⟨_,_,_,_,_⟩ same fits;exact PySem.ks_wpAny_isType_cls (same _ _ (X _ _ o)) rfl fits
theorem M6(X:K.In s.heap)(cd:Cd K d Da)(he:s.heap.get? a=some oe)(hc:oe.cls=.ref C)(hs:PySem.W.subIn K (.ref C) (.ref Da)=some b)(q:Q b s):wpAny M A (excMatches (.ref a) (.ref Da)) Q E s:=by
 obtain⟨h,g,dr,tk,os⟩:=s;have l1:=PySem.W.looks_typeIn (M:=M) X cd.ty;have l2:=Ge (M:=M) X cd.cl;have l3:=PySem.W.looks_subIn (M:=M) X cd.ex;have l4:=PySem.W.looks_subIn (M:=M) X hs;have l5:PySem.W.Looks M h (typeOf (.ref a)) (.ref C):=hc ▸ (PySem.W.Looks.ld he).andThen .now;have t0:=tc_notTuple;unfold excMatches isInstance;refine AAA (AAA (l1.at ?_));rw[t0];refine AAB ?_;simp only[Bool.false_eq_true,if_false];refine AAA (AAB ?_);unfold isExcClass;simp only[List.forIn_cons,List.forIn_nil];refine AAA (AAA (AAA (AAA (l2.at ?_))));rw[if_pos rfl];refine l3.at ?_;rw[if_neg (by decide)];refine AAB (AAB (AAA (l5.at (AAA (AAA (AAA (l4.at ?_)))))));cases b with
 |true=>
  rw[if_pos rfl];exact AAB (AAB (AAB q))
 |false=>
  rw[if_neg (by decide)];exact AAB (AAB (AAB q))
end
noncomputable abbrev hnd(X:Cx)(e:Value):Cx:={ X with A:=X.A.mark (some e),calm:=false,xe:=λ_ _=>False }
theorem Wo{X:Cx}(ok:X.Ok)(e:Value):(hnd X e).Ok:=
 ⟨ok.mod,ok.kind,ok.glob,ok.blt,ok.above,ok.inj,ok.has,ok.cab,(λh=>nomatch h),ok.frames,ok.stk,ok.exf,ok.bs,ok.bsz,ok.noex,ok.exfs,ok.funs,ok.frf⟩
section
variable{X:Cx}{pins:List (Addr×Obj)}{σ:St}{H:Hp}{s:Shared}{e:Value}
theorem Inv.hnd(I:Inv X pins σ H s)(e:Value):Inv (hnd X e) pins σ H s:=⟨Wo I.ok e,I.os,I.bare,I.base,I.loc,I.cell,I.free,I.freeC,I.pin,I.hok,I.len⟩
theorem Inv.unhnd(ok:X.Ok)(I:Inv (Xc.hnd X e) pins σ H s):Inv X pins σ H s:=⟨ok,I.os,I.bare,I.base,I.loc,I.cell,I.free,I.freeC,I.pin,I.hok,I.len⟩
theorem Inv.track{a:Addr}{o:HO}(I:Inv X pins σ H s)(nw:Nw X pins H a)(hr:∃ob vs,s.heap.get? a=some ob/\ob.data=.fields vs)(new:ObjOk X.prog X.w (upd H a o) s.heap a o):Inv X pins σ (upd H a o) s:=by
 obtain⟨ob,vs,ha,hd⟩:=hr;obtain⟨nL,nC⟩:=Inv.rec_ne I ha hd;have ne:∀b u,X.s₀.heap.get? b=some u->b≠a:=λb u e z=>by rw[z,nw.1] at e;cases e
 refine⟨I.ok,I.os,I.bare,⟨I.base.keep,I.base.slot,λb u e n hx=>?_,I.base.there,λb xs e=>?_,λb u v e=>?_,λb ps e=>?_⟩,I.loc,I.cell,?_,λx c e=>?_,λp hp=>?_,λb u e=>?_,I.len⟩
 ·rw[Ay (ne b u e)];exact I.base.free b u e n hx
 ·have:=I.base.tups b xs e;rw[Ay (BU this nw.2.1)];exact this
 ·have:=I.base.frzs b u v e;rw[Ay (BU this nw.2.1)];exact this
 ·obtain⟨m,this⟩:=I.base.tbls b ps e;exact⟨m,by rw[Ay (BU this nw.2.1)];exact this⟩
 ·rw[Ay (Ne.symm nL)];exact I.free
 ·rw[Ay (nC x c e)];exact I.freeC x c e
 ·obtain⟨e1,e2,e3⟩:=I.pin p hp;exact⟨e1,by rw[Ay (nw.2.2 p hp)];exact e2,e3⟩
 ·by_cases hb:b=a
  ·subst hb;rw[Be] at e;cases e;exact new
  ·rw[Ay hb] at e;exact(I.hok b u e).stay (λc v _ q=>q) (λc q=>by rw[Ay (BU q nw.2.1)];exact q) λc xs q=>by rw[Ay (BU q nw.2.1)];exact q
theorem Fi{M:Model}{A:Around}{E:Value->Shared->Prop}{n:Str}{i:Nat}{pos:Pos}{Q:Unit->Shared->Prop}(I:Inv X pins σ H s)(hN:X.N.Nodup)(hi:X.N[i]?=some n)(hl:X.env.scope.names.lookup n=some .local)
  (q:∀s',Inv X pins (σ.set i none) H s'->Q () s'):wpAny M A (do bindName X.env n .none;unbindBehindTheSuite X.env n pos) Q E s:=by
 obtain⟨m,hn,hlc⟩:=id I.loc;have hcls:(X.env.scope.kind==.class||(X.env.scope.kind==.module&&X.env.locals != X.env.globals))=false:=by rw[I.ok.kind];rfl
 refine wpAny_nameGoes_keeps hl hn hcls λh' v hn' hs=>q _ ?_;have I0:Inv X pins (σ.set i none) H s:=I.weak (by simp) λj w e=>by
  by_cases hj:j=i
  ·subst hj;rw[List.getElem?_set] at e;simp at e
  ·rw[AAl (Ne.symm hj)] at e;exact e
 have nL:∀b,H b≠none->b≠X.env.locals:=λb z w=>z (by rw[w];exact I.free);have kp:∀b o,b≠X.env.locals->s.heap.get? b=some o->h'.get? b=some o:=λb o hb e=>(hs.2 b hb).trans e;refine⟨I.ok,I.os,I.bare,⟨λb o e n hb hx=>?_,λb o e n hb hx=>?_,I.base.free,λb o e hx=>?_,I.base.tups,I.base.frzs,I.base.tbls⟩,⟨_,hn',λj y w e1 e2 e3=>?_⟩,λy c e=>?_,I.free,I.freeC,λp hp=>?_,λb u e=>?_,by simpa using I.len⟩
 ·exact kp b o (AAd (AAN (Heap.lt_size e) I.ok.above)) (I.base.keep b o e n hb hx)
 ·obtain⟨sl,e1⟩:=I.base.slot b o e n hb hx;exact⟨sl,kp b _ (AAd (AAN (Heap.lt_size e) I.ok.above)) e1⟩
 ·obtain⟨o',e1⟩:=I.base.there b o e hx;exact⟨o',kp b _ (AAd (AAN (Heap.lt_size e) I.ok.above)) e1⟩
 ·by_cases hj:j=i
  ·subst hj;rw[List.getElem?_set] at e2;simp at e2
  ·rw[AAl (Ne.symm hj)] at e2;obtain⟨u,r,lk⟩:=hlc j y w e1 e2 e3;refine⟨u,r,?_⟩;have hy:y≠n:=λz=>hj (Il hN e1 (z ▸ hi));rcases lk with ⟨k,e⟩|⟨k,c,e,z⟩
   ·exact .inl ⟨k,by simp[hy,e]⟩
   ·exact .inr ⟨k,c,e,z.sameBut hs (I.cne y c e)⟩
 ·obtain⟨w,z⟩:=I.cell y c e;exact⟨w,z.sameBut hs (I.cne y c e)⟩
 ·obtain⟨e,n,ne,nf,d⟩:=I.pin p hp;exact⟨kp p.1 p.2 ne e,n,ne,nf,d⟩
 ·refine(I.hok b u e).stay (λc v hc q=>kp c v (nL c ?_) q) (λ_ q=>q) λ_ _ q=>q;rcases hc with rfl|hc
  ·rw[e];simp
  ·rw[hc];simp
end
noncomputable def Ka(i:Nat)(mh:Sl->M (Fl×Sl))(x:Exn)(τ:Sl):M (Fl×Sl):=λμ=>bnd (mh (τ.set i (some (.ref (List.length μ))))) (λr=>ret (r.1,r.2.set i none)) (μ++[.exc x.1 x.2])
noncomputable def Vp(mb:Sl->M (Fl×Sl))(i:Nat)(ok:List Str)(mh:Sl->M (Fl×Sl)):Sl->M (Fl×Sl):=λτ=>bnd (mb τ) λr=>match r.1 with
 | .xc x=>if x.1∈ok then Ka i mh x r.2 else Ba
 |_=>ret r
theorem RelS.clear{K:KW}{ι:Nat->Addr}{k:Nat}{H:Hp}{τ:Sl}{σ:St}(S:RelS K ι k H τ σ)(i:Nat):RelS K ι k H (τ.set i none) (σ.set i none):=by
 refine⟨by simpa using S.len,λj d e=>?_⟩;by_cases hj:i=j
 ·subst hj;rw[List.getElem?_set] at e;simp at e
 ·rw[AAl hj] at e ⊢;exact S.get j d e
def Oa(K:PySem.W.Frag)(ok:List Str)(Da:Addr):Prop:=∀c∈ok,∀C,BR K c C->PySem.W.subIn K (.ref C) (.ref Da)=some true
section
variable{Y:Cx}{body suite:List Stmt}{b₀:Stmt}{d n:Str}{Da:Addr}{np hpos pos:Pos}{mb mh:Sl->M (Fl×Sl)}{ok:List Str}{i:Nat}
theorem TY(cd:Cd Y.nox.K d Da)(hm:Y.nox.mg d=some (.ref Da))(bl:Oa Y.nox.K ok Da)(hN:Y.nox.N.Nodup)(hb:XSs Y.nox body mb)(hh:∀e:Value,RSs (hnd Y.nox e) (b₀::suite) mh)(hi:Y.nox.N[i]?=some n:=by rfl)(hl:Y.nox.env.scope.names.lookup n=some .local:=by rfl)
  (hg:Gl Y.nox d:=by rfl) (hdb:(d==("__debug__" : Str))=false:=by decide) (ow:Own Y.nox:=by exact⟨rfl,rfl,rfl⟩) (hfn:Y.nox.fn n=true:=by rfl) :
  RS Y.nox (.Try body [.ExceptHandler (some (.Name d np)) (some n) (b₀::suite) hpos] [] [] pos) (Vp mb i ok mh):=⟨λpins s σ H Dn I h0=>by
 obtain⟨ι,μ,τ,f,τ',μ',R,S,e0,q⟩:=h0;obtain⟨⟨f1,τ1⟩,μ1,e1,e2⟩:=AJ e0
 let W:Exn->St->Hp->Prop:=λx σ1 H1=>f1=.xc x/\∃ι1,Ext ι μ.length H ι1 μ1.length H1/\RelH Y.nox.kw ι1 μ1 H1/\RelS Y.nox.kw ι1 μ1.length H1 τ1 σ1
 refine wpAny_Try_except (AAh (hb.pe pins s σ H Dn W I ⟨ι,μ,τ,f1,τ1,μ1,R,S,e1,λι1 H1 E1 R1 σ1 S1=>?_⟩) (λfl s1 q1=>?_) λe s1 z=>?_)
 ·cases f1 with
  |xc x=>exact⟨rfl,ι1,E1,R1,S1⟩
  |next=>cases e2;exact q ι1 H1 E1 R1 σ1 S1
  |brk=>cases e2;exact q ι1 H1 E1 R1 σ1 S1
  |cont=>cases e2;exact q ι1 H1 E1 R1 σ1 S1
  |rt d=>cases e2;exact q ι1 H1 E1 R1 σ1 S1
 ·cases fl with
  |next=>exact wpAny_execs_nil q1
  |_=>exact q1
 ·obtain⟨x,a,σ1,H1,rfl,l,rfl,ι1,E1,R1,S1⟩:=z;have e2:(if x.1∈ok then Ka i mh x τ1 else Ba) μ1=some ((f,τ'),μ'):=e2;by_cases hx:x.1∈ok
  ·rw[if_pos hx] at e2;obtain⟨⟨f2,τ2⟩,μ2,e3,e4⟩:=AJ e2;cases e4;refine Lies.note ow I.ok.frames l λh1 l1 ⟨C,dx,T,hC,fl1⟩=>?_;refine Lies.flight ow l1 ⟨C,dx,T,_,hC,fl1⟩ (.inl rfl) λh2 l2 ⟨C2,dx2,T2,hC2,fl2⟩=>?_;obtain⟨oe,vs,he,hc,hdx,hd,hv⟩:=id fl2.ob;refine wpAny_handleBy_cons (codeAny_handlers_test ?_) (by intro w;cases w);refine Fo (X:=hnd Y.nox (.ref a)) (Inv.hnd l2.inv (.ref a)) hg hm ?_ hdb;refine M6 (l2.inv.kIn) cd he hc (bl _ hx _ hC2) ?_;rw[if_pos rfl];refine codeAny_handlers_suite_as ?_;refine Lies.flight ow l2 ⟨C2,dx2,T2,_,hC2,fl2⟩ (.inl rfl) λh3 l3 ⟨C3,dx3,T3,hC3,fl3⟩=>?_;obtain⟨I3,C4,dx4,tb4,f4,hC4,fl4,_,na,nt,sy⟩:=l3;obtain⟨oe4,vs4,he4,hc4,hdx4,hd4,_⟩:=id fl4.ob;have I4:=Inv.track I3 na ⟨oe4,vs4,he4,hd4⟩ (o:=XU a C4 dx4) ⟨⟨oe4,vs4,he4,hc4,hdx4,hd4⟩,⟨oe4,he4⟩,λg1 g2 ⟨o,v,w1,w2⟩ k=>⟨o,v,k _ w1,w2⟩⟩;obtain⟨ι5,E5,R5,e5⟩:=R1.grown (m:=.exc x.1 x.2) na.2.1 ⟨C4,dx4,rfl,hC4,sy⟩;refine IQ (X:=hnd Y.nox (.ref a)) (Inv.hnd I4 (.ref a)) hN hi (.inl hl) (v:=.ref a) (u:=.ref a) rfl (λs5 I5=>?_) (.inl hfn);have S5:RelS Y.nox.kw ι5 (μ1++[MO.exc x.1 x.2]).length (upd H1 a (XU a C4 dx4)) (τ1.set i (some (.ref μ1.length))) (σ1.set i (some (.ref a))):=(S1.ext E5).set i (by unfold Is;exact⟨by simp,by rw[e5]⟩);refine AAh ((hh (.ref a)).pe pins s5 _ _ { nx:=λσ' H'=>Dn.nx (σ'.set i none) H',rt:=Dn.rt,bk:=λσ' H'=>Dn.bk (σ'.set i none) H',ct:=λσ' H'=>Dn.ct (σ'.set i none) H' } I5 ⟨ι5,_,_,f2,τ2,μ',R5,S5,e3,λι6 H6 E6 R6 σ6 S6=>?_⟩) (λfl s6 q6=>?_) λ_ _ z=>False.elim z
   ·have z:=q ι6 H6 ((E1.trans E5).trans E6) R6 (σ6.set i none) (RelS.clear S6 i);cases f2 with
    |next=>exact z
    |brk=>exact z
    |cont=>exact z
    |rt d=>exact z
    |xc x=>exact z
   ·have ok0:=I.ok;cases fl with
    |next=>obtain⟨σ6,H6,I6,q6⟩:=q6;exact Fi (Inv.unhnd ok0 I6) hN hi hl λs7 I7=>⟨_,H6,I7,q6⟩
    |brk=>obtain⟨σ6,H6,I6,q6⟩:=q6;exact Fi (Inv.unhnd ok0 I6) hN hi hl λs7 I7=>⟨_,H6,I7,q6⟩
    |cont=>obtain⟨σ6,H6,I6,q6⟩:=q6;exact Fi (Inv.unhnd ok0 I6) hN hi hl λs7 I7=>⟨_,H6,I7,q6⟩
    |ret u=>obtain⟨v,σ6,H6,I6,r6,q6⟩:=q6;exact Fi (Inv.unhnd ok0 I6) hN hi hl λs7 I7=>⟨v,_,H6,I7,r6,q6⟩
  ·rw[if_neg hx] at e2;cases e2⟩
end
structure Ea(K:PySem.W.Frag)(C:Addr):Prop where
 ga:PySem.W.findIn K (.ref C) "__getattribute__" = some (some (.builtin "BaseException.__getattribute__"))
 gh:PySem.W.findIn K (.ref C) "__getattr__" = some none
 cl:PySem.W.findIn K (.ref C) "__class__" = some (some (.builtin "object.__class__"))
 dg:PySem.W.specialIn K (.builtin "object.__class__") "__get__" = some (some (.builtin "getset_descriptor.__get__"))
 tk:PySem.W.takesIn K (.builtin "object.__class__")=some true
 mo:PySem.W.mroIn K C (.type "object")=some true
 mb:PySem.W.subIn K (.ref C) (.type "BaseException")=some true
 cs:(PySem.W.clsIn K C).isSome=true
section
variable{prog:Program}{w:World}{A:Around}{E:Value->Shared->Prop}{s:Shared}{K:PySem.W.Frag}{a C:Addr}{ox:Obj}{od:Option Obj}
open PySem.W in
theorem Pn(f:Ea K C):findObj K C od "__class__" = some (.bind (.builtin "getset_descriptor.__get__") (.builtin "object.__class__")):=by
 cases e:PySem.W.clsIn K C with
 |none=>exact absurd f.cs (by rw[e];decide)
 |some cd=>simp only[findObj,e,f.cl,Option.bind_some,f.dg,f.tk]
open PySem.W in
theorem NG{Q:Value->Shared->Prop}(X:K.In s.heap)(I:InstAt s.heap a ox C od)(f:Ea K C){n:Nat}(q:Q (.ref C) s):wpAny (model prog w) A (call (.builtin "BaseException.__getattribute__") [.ref a,.str "__class__" n]) Q E s:=by
 have hty:=I.type (M:=model prog w);have hsb:=looks_subIn (M:=model prog w) X f.mb;have hfd:=looks_find (M:=model prog w) X I (Pn f);refine wpAny_call (codeAny_call_builtin PySem.F.attr_ValueError.ga.plain PySem.F.entry_bexc_ga ?_);simp only[checkBuiltinCall,show builtinKind "BaseException.__getattribute__" = some .slot by decide +kernel,show splitId "BaseException.__getattribute__" = some ("BaseException", "__getattribute__") by decide +kernel,isInstance]
 repeat (any_goals (first|assumption|with_reducible refine hfd.at ?_|with_reducible refine hty.at ?_|with_reducible refine hsb.at ?_|with_reducible refine wpAny_of_eq (a:=()) (PySem.F.args_bexc_ga (.ref a) (.str "__class__" n)) ?_|wp_step))
 refine class_get (ox:=ox) (od:=od) X I f.mo ?_;exact AAB q
open PySem.W in
theorem Pg{Q:Option Value->Shared->Prop}(X:K.In s.heap)(I:InstAt s.heap a ox C od)(f:Ea K C)(h:Q (some (.ref C)) { s with toks:=s.toks+1 }):wpAny (model prog w) A (getAttr? (.ref a) "__class__") Q E s:=by
 cases s with|mk hp gs dr tk out=>
 have hty:=I.type (M:=model prog w);have hga:=looks_findIn (M:=model prog w) X f.ga;have hgh:=looks_findIn (M:=model prog w) X f.gh;simp only[getAttr?,getAttrBy?,getAttrBy]
 repeat (first|with_reducible refine hty.at ?_|with_reducible refine hga.at ?_|with_reducible refine hgh.at ?_|wp_step)
 rw[PySem.F.attr_ValueError.ga.bind (.ref a)];refine AAB (NG (s:=⟨hp,gs,dr,tk+1,out⟩) X I f ?_);exact handed_on rfl (AAB h)
theorem Kt(f:Ea K C):PySem.W.KitX K (.ref a) (.ref C) (λh=>∃ox od,PySem.W.InstAt h a ox C od) where
 ty:=λ_ _ _ ⟨_,_,I⟩=>I.type
 it:=λ_ _ X _=>Ge X f.cs
 ne:=λh tp dd its n sl X htp=>by
  have z:=f.cs;unfold PySem.W.clsIn at z;split at z
  ·rename_i ho;have e:=X _ _ ho;refine Bool.eq_false_iff.mpr λq=>?_;have q:Value.ref C=.ref tp:=beq_iff_eq.mp q;cases q;rw[htp] at e;cases e
  ·cases z
 ca:=λX ⟨_,_,I⟩ k=>Pg X I f k
end
noncomputable def L6(tab:List (Str×Bool))(ma:Sl->M D):Sl->M D:=λτ=>bnd (ma τ) λd μ=>match d with
 | .ref n=>match μ[n]? with
  |some (.exc c _)=>match tab.lookup c with
   |some b=>some (.bl b,μ)
   |none=>none
  |_=>none
 |_=>none
theorem G6{tab:List (Str×Bool)}{ma:Sl->M D}{τ:Sl}{μ μ':Mh}{d:D}(h:L6 tab ma τ μ=some (d,μ')):∃n c k b,ma τ μ=some (.ref n,μ')/\μ'[n]?=some (.exc c k)/\tab.lookup c=some b/\d=.bl b:=by
 obtain⟨x,μ1,e1,e⟩:=AJ h;split at e
 ·rename_i n;split at e
  ·rename_i c k hq;split at e
   ·rename_i b hb;cases e;exact⟨n,c,k,b,e1,hq,hb,rfl⟩
   ·cases e
  ·cases e
 ·cases e
structure Tb(K:PySem.W.Frag)(tab:List (Str×Bool))(vs:List Value):Prop where
 ok:∀c b,tab.lookup c=some b->∀C,BR K c C->Ea K C/\PySem.W.kitAny K (.ref C) vs=some b
section
variable{X:Cx}{e:Expr}{p q pos:Pos}{tab:List (Str×Bool)}{ma:Sl->M D}{x:Str}
theorem Kx{K:PySem.W.Frag}{w:World}{P:Program}{ι:Nat->Addr}{μ:Mh}{H:Hp}{h:Heap}{n:Nat}{c:Str}{k:Option Nat}(R:RelH ⟨K,w⟩ ι μ H)(hok:HOk P w H h)(hq:μ[n]?=some (.exc c k)):∃C,BR K c C/\∃ox od,PySem.W.InstAt h (ι n) ox C od:=by
 obtain⟨u,h1,C,dx,rfl,hC,sy⟩:=R.obj n _ hq;obtain⟨⟨oe,vs,e1,e2,e3,e4⟩,_⟩:=hok _ _ h1;refine⟨C,hC,oe,?_⟩;have no:PySem.W.notCls oe=true:=by unfold PySem.W.notCls;rw[e4]
 cases k with
 |none=>exact⟨none,e1,e2,no,by rw[e3,show dx=none from sy];trivial⟩
 |some i=>
  obtain⟨d,rfl,hd⟩:=sy;obtain⟨o,ho⟩:=Lw (hok _ _ hd);exact⟨some o,e1,e2,no,by rw[e3];exact ho⟩
theorem OE{K:PySem.W.Frag}{t v:Value}{b:Bool}(h:PySem.W.kitAny K t [v]=some b):PySem.W.kitOne K t v=some b:=by
 unfold PySem.W.kitAny at h;cases e:PySem.W.kitOne K t v with
 |none=>rw[e] at h;cases h
 |some z=>
  rw[e] at h;cases z with
  |true=>exact h
  |false=>exact h
theorem V4{Da:Addr}(hy:X.mg "isinstance" = none)(ha:RE X e ma)(hm:X.mg x=some (.ref Da))(tb:Tb X.K tab [.ref Da])(hg:Gl X x:=by rfl)(hgi:Gl X "isinstance" := by rfl)(hdb:(x==("__debug__" : Str))=false:=by decide)
  (h1:starEach [e,.Name x q] X.env=(false,eval e X.env)::starEach [.Name x q] X.env:=by exact A6 rfl):RE X (.Call (.Name "isinstance" p) [e,.Name x q] [] pos) (L6 tab ma):=by
 refine RE.wk (FU (r:=λxs H Q=>∃a b,xs=[.ref a,.ref Da]/\(∀h,HOk X.prog X.w H h->∃C,Ea X.K C/\PySem.W.kitOne X.K (.ref C) (.ref Da)=some b/\∃ox od,PySem.W.InstAt h a ox C od)/\Q (.bl b) H) (λpins s σ H xs us Q I r h=>?_) hgi hy Mi.BD (DP ha.pe (DP (GZ hg hm (v:=.ref Da) rfl hdb) GE rfl) h1) (by decide) (by decide) h1 (BJ rfl)) λσ H Q h=>?_
 ·obtain⟨a,b,rfl,hi,q⟩:=h;obtain⟨u1,u2,rfl,r1,r2⟩:=Vals.two r;cases r1;cases r2;obtain⟨C,f,kit,I'⟩:=hi _ I.hok;exact PySem.W.kia_one (Kt f) I.kIn I' kit (λz=>nomatch z) λtk=>⟨.bl b,H,I.tok _,rfl,q⟩
 ·obtain⟨ι,μ,τ,d,μ',R,S,e,q⟩:=h;obtain⟨n,c,k,b,e1,hq,hb,rfl⟩:=G6 e;refine⟨ι,μ,τ,.ref n,μ',R,S,e1,λι1 H1 E1 R1 v iv=>?_⟩;unfold Is at iv;obtain⟨_,rfl⟩:=iv;refine⟨ι1 n,b,rfl,λh hok=>?_,q ι1 H1 E1 R1 _ (by unfold Is;rfl)⟩;obtain⟨C,hC,I'⟩:=Kx R1 hok hq;obtain⟨f,kit⟩:=tb.ok c b hb C hC;exact⟨C,f,OE kit,I'⟩
end
section
variable{X:Cx}{e:Expr}{es:List Expr}{p q pos:Pos}{tab:List (Str×Bool)}{ma:Sl->M D}{x:Str}
theorem Te{T:String}(hy:X.mg "isinstance" = none)(ha:RE X e ma)(hb:RE X (.Name x q) (mC (.ty T)))(tb:Tb X.K tab [.type T])(hgi:Gl X "isinstance" := by rfl)
  (h1:starEach [e,.Name x q] X.env=(false,eval e X.env)::starEach [.Name x q] X.env:=by exact A6 rfl):RE X (.Call (.Name "isinstance" p) [e,.Name x q] [] pos) (L6 tab ma):=by
 refine RE.wk (FU (r:=λxs H Q=>∃a b,xs=[.ref a,.ty T]/\(∀h,HOk X.prog X.w H h->∃C,Ea X.K C/\PySem.W.kitOne X.K (.ref C) (.type T)=some b/\∃ox od,PySem.W.InstAt h a ox C od)/\Q (.bl b) H) (λpins s σ H xs us Q I r h=>?_) hgi hy Mi.BD (DP ha.pe (DP hb.pe GE rfl) h1) (by decide) (by decide) h1 (BJ rfl)) λσ H Q h=>?_
 ·obtain⟨a,b,rfl,hi,q⟩:=h;obtain⟨u1,u2,rfl,r1,r2⟩:=Vals.two r;cases r1;cases r2;obtain⟨C,f,kit,I'⟩:=hi _ I.hok;exact PySem.W.kia_one (Kt f) I.kIn I' kit (λz=>nomatch z) λtk=>⟨.bl b,H,I.tok _,rfl,q⟩
 ·obtain⟨ι,μ,τ,d,μ',R,S,e,q⟩:=h;obtain⟨n,c,k,b,e1,hq,hb,rfl⟩:=G6 e;refine⟨ι,μ,τ,.ref n,μ',R,S,e1,λι1 H1 E1 R1 v iv=>⟨ι1,μ',τ,.ty T,μ',R1,S.ext E1,rfl,λι2 H2 E2 R2 v2 iv2=>?_⟩⟩;have iv:=iv.ext E2;unfold Is at iv iv2;obtain⟨_,rfl⟩:=iv;subst iv2;refine⟨ι2 n,b,rfl,λh hok=>?_,q ι2 H2 (E1.trans E2) R2 _ (by unfold Is;rfl)⟩;obtain⟨C,hC,I'⟩:=Kx R2 hok hq;obtain⟨f,kit⟩:=tb.ok c b hb C hC;exact⟨C,f,OE kit,I'⟩
structure NM(X:Cx)(es:List Expr)(Ds:List Addr):Prop where
 pe:PA X es (λ_ H Q=>Q (Ds.map V.ref) H)
theorem Ws:NM X [] []:=⟨GE⟩
theorem E9{Da:Addr}{Ds:List Addr}(hm:X.mg x=some (.ref Da))(h:NM X es Ds)(hg:Gl X x:=by rfl)(hdb:(x==("__debug__" : Str))=false:=by decide):NM X (.Name x q::es) (Da::Ds):=
 ⟨PA.wk (DP (GZ hg hm (v:=.ref Da) rfl hdb) h.pe (A6 rfl)) λ_ _ _ z=>z⟩
theorem Nv:∀{Ds:List Addr} {us:List Value},Vals (Ds.map V.ref) us->us=Ds.map Value.ref
 |[],_,.nil=>rfl
 |_::_,_,.cons r t=>by cases r;rw[Nv t];rfl
theorem Td{x1:Nat}{Ds:List Addr}(hy:X.mg "isinstance" = none)(ha:RE X e ma)(nm:NM X es Ds)(tb:Tb X.K tab (Ds.map Value.ref))(hl:Ds.length<=100:=by exact AAE rfl)(hgi:Gl X "isinstance" := by rfl)
  (h1:starEach [e,.Tuple es x1 q] X.env=(false,eval e X.env)::starEach [.Tuple es x1 q] X.env:=by exact A6 rfl):RE X (.Call (.Name "isinstance" p) [e,.Tuple es x1 q] [] pos) (L6 tab ma):=by
 refine RE.wk (FU (r:=λxs H Q=>∃a t b,xs=[.ref a,.ref t]/\H t=some (.tup (Ds.map V.ref))/\(∀h,HOk X.prog X.w H h->∃C,Ea X.K C/\PySem.W.kitAny X.K (.ref C) (Ds.map Value.ref)=some b/\∃ox od,PySem.W.InstAt h a ox C od)/\Q (.bl b) H) (λpins s σ H xs us Q I r h=>?_) hgi hy Mi.BD (DP ha.pe (DP (RH nm.pe) GE rfl) h1) (by decide) (by decide) h1 (BJ rfl)) λσ H Q h=>?_
 ·obtain⟨a,t,b,rfl,ht,hi,q⟩:=h;obtain⟨u1,u2,rfl,r1,r2⟩:=Vals.two r;cases r1;cases r2;obtain⟨C,f,kit,I'⟩:=hi _ I.hok;obtain⟨_,its,r,⟨o,g1,g2,n,g3⟩⟩:=I.hok _ _ ht;rw[Nv r] at g3;obtain⟨oc,od,odt,osl⟩:=o;dsimp only at g2 g3;subst g2 g3;exact PySem.W.kia_tup (Kt f) I.kIn I' g1 kit (λz=>nomatch z) λtk=>⟨.bl b,H,I.tok _,rfl,q⟩
 ·obtain⟨ι,μ,τ,d,μ',R,S,e,q⟩:=h;obtain⟨n,c,k,b,e1,hq,hb,rfl⟩:=G6 e;refine⟨ι,μ,τ,.ref n,μ',R,S,e1,λι1 H1 E1 R1 v iv=>⟨by rw[AAG];exact AAq hl (by decide),λt ht=>?_⟩⟩;obtain⟨E2,R2⟩:=R1.laid (.tup (Ds.map V.ref)) ht;unfold Is at iv;obtain⟨_,rfl⟩:=iv;refine⟨ι1 n,t,b,rfl,Be,λh hok=>?_,q ι1 _ (E1.trans E2) R2 _ (by unfold Is;rfl)⟩;obtain⟨C,hC,I'⟩:=Kx R2 hok hq;obtain⟨f,kit⟩:=tb.ok c b hb C hC;exact⟨C,f,kit,I'⟩
end
section
variable{K:PySem.W.Frag}{c d:Str}{C Da:Addr}{b:Bool}{vs:List Value}
theorem Fq{C':Addr}(a:PySem.W.nsIn K mainGlobals c=some (some (.ref C)))(h:BR K c C'):C'=C:=by
 unfold BR at h;rw[a] at h;cases h;rfl
theorem cls_mk(a:PySem.W.nsIn K mainGlobals c=some (some (.ref C))):∃C,BR K c C:=⟨C,a⟩
theorem ec_mk(a:PySem.W.nsIn K mainGlobals c=some (some (.ref C)))(q:PySem.W.excIn K C bmV "ValueError.__new__" = true):∀C,BR K c C->Ec K c C:=λC' h=>by
 obtain rfl:=Fq a h;exact⟨h,q⟩
theorem cd_mk(a:PySem.W.nsIn K mainGlobals d=some (some (.ref Da)))(t:PySem.W.typeIn K (.ref Da)=some (.type "type"))(l:PySem.W.isClsIn K Da=true)(s:PySem.W.subIn K (.ref Da) (.type "BaseException")=some true):∀C,BR K d C->Cd K d C:=λC' h=>by
 obtain rfl:=Fq a h;exact⟨h,t,l,s⟩
theorem bl_mk(a:PySem.W.nsIn K mainGlobals c=some (some (.ref C)))(e:PySem.W.nsIn K mainGlobals d=some (some (.ref Da)))(s:PySem.W.subIn K (.ref C) (.ref Da)=some true):∀D',BR K d D'->Oa K [c] D':=λD' h c' hc C' h'=>by
 obtain rfl:=Fq e h;obtain rfl:=AAL.mp hc;obtain rfl:=Fq a h';exact s
theorem ea_mk(h1:PySem.W.findIn K (.ref C) "__getattribute__" = some (some (.builtin "BaseException.__getattribute__")))(h2:PySem.W.findIn K (.ref C) "__getattr__" = some none)(h3:PySem.W.findIn K (.ref C) "__class__" = some (some (.builtin "object.__class__")))
  (h4:PySem.W.specialIn K (.builtin "object.__class__") "__get__" = some (some (.builtin "getset_descriptor.__get__"))) (h5:PySem.W.takesIn K (.builtin "object.__class__")=some true) (h6:PySem.W.mroIn K C (.type "object")=some true) (h7:PySem.W.subIn K (.ref C) (.type "BaseException")=some true)
  (h8:PySem.W.isClsIn K C=true):Ea K C:=⟨h1,h2,h3,h4,h5,h6,h7,h8⟩
noncomputable def NsL(K:PySem.W.Frag):List Str->List Addr->Prop
 |[],Ds=>Ds=[]
 |c::cs,Ds=>∃C r,Ds=C::r/\BR K c C/\NsL K cs r
theorem NsL.nil:NsL K [] []:=rfl
theorem NsL.cons{cs:List Str}{Ds:List Addr}(h:BR K c C)(r:NsL K cs Ds):NsL K (c::cs) (C::Ds):=⟨C,Ds,rfl,h,r⟩
theorem tb_mk(a:PySem.W.nsIn K mainGlobals c=some (some (.ref C)))(f:Ea K C)(k:PySem.W.kitAny K (.ref C) vs=some b):Tb K [(c,b)] vs:=⟨λc' b' h C' h'=>by
 have e:c'=c/\b'=b:=by
  unfold List.lookup at h;split at h
  ·rename_i z;have z:c'=c:=eq_of_beq z;cases h;exact⟨z,rfl⟩
  ·cases h
 obtain⟨rfl,rfl⟩:=e;obtain rfl:=Fq a h';exact⟨f,k⟩⟩
noncomputable def NsV(K:PySem.W.Frag):List Str->List Value->Prop
 |[],vs=>vs=[]
 |c::cs,vs=>∃C r,vs=.ref C::r/\BR K c C/\NsV K cs r
theorem NsV.nil:NsV K [] []:=rfl
theorem NsV.cons{cs:List Str}{vs:List Value}(h:PySem.W.nsIn K mainGlobals c=some (some (.ref C)))(r:NsV K cs vs):NsV K (c::cs) (.ref C::vs):=⟨C,vs,rfl,h,r⟩
theorem NsV.one:∀{cs:List Str} {vs:List Value} {Es:List Addr},NsV K cs vs->NsL K cs Es->Es.map Value.ref=vs
 |[],_,_,h,h'=>by rw[show _=[] from h,show _=[] from h'];rfl
 |_::_,_,_,⟨C,r,e,h,t⟩,⟨C',r',e',h',t'⟩=>by
  obtain rfl:=Fq h h';rw[e,e',AAX,NsV.one t t']
theorem tbT_mk{cs:List Str}{vs:List Value}(a:PySem.W.nsIn K mainGlobals c=some (some (.ref C)))(l:NsV K cs vs)(f:Ea K C)(k:PySem.W.kitAny K (.ref C) vs=some b):∀Es,NsL K cs Es->Tb K [(c,b)] (Es.map Value.ref):=λEs h=>by
 rw[NsV.one l h];exact tb_mk a f k
end
noncomputable def isS:D->Bool
 | .str _=>true
 |_=>false
noncomputable def Bd:D->Bool
 | .non | .bl _ | .int _ | .str _ | .tup _ | .lst _=>true
 |_=>false
noncomputable def eqS(y:D)(v:Value):Bool:=match v,y with
 | .str x _,.str a=>x==a
 |_,_=>false
noncomputable def NB(y d:D):M D:=bnd (B4 d) λds=>λμ=>if ds.all isS=true/\Bd y=true then some (.bl (ds.any λz=>decide (z=y)),μ) else none
theorem LA{K:KW}{ι:Nat->Addr}{k:Nat}{H:Hp}{y:D}:∀{ds:List D} {vs:List V} {us:List Value},IsL K ι k H ds vs->Vals vs us->ds.all isS=true->us.any (eqS y)=ds.any (λz=>decide (z=y))/\∀v∈us,∃x t,v=.str x t
 |[],_,_,h,r,_=>by
  unfold Mi.IsL at h;subst h;cases r;exact⟨rfl,λv hv=>nomatch hv⟩
 |d::ds,_,_,h,r,ha=>by
  unfold Mi.IsL at h;obtain⟨v,vs',rfl,h1,h2⟩:=h;rw[List.all_cons,Bool.and_eq_true] at ha;cases r with
  |cons r1 r2=>
   obtain⟨e,m⟩:=LA h2 r2 ha.2;cases d with
   |str x=>
    unfold Is at h1;subst h1;obtain⟨t,rfl⟩:=r1;refine⟨?_,λv hv=>(AAJ.mp hv).elim (λz=>⟨x,t,z⟩) (m v)⟩;rw[List.any_cons,List.any_cons,e];congr 1;cases y with
    |str a=>
     show (x==a)=decide (D.str x=D.str a);by_cases hx:x=a
     ·rw[hx,AAP rfl];exact beq_self_eq_true a
     ·rw[AAe.mpr hx,AAO λz=>hx (by cases z;rfl)]
    |_=>rfl
   |_=>cases ha.1
theorem SM{X:Cx}{A:Around}{pins:List (Addr×Obj)}{σ:St}{H:Hp}{s:Shared}{ι:Nat->Addr}{k:Nat}{y:D}{v:V}{u w:Value}(hu:A.units<cLine)(I:Inv X pins σ H s)(iy:Is X.kw ι k H y v)(r:RelV v u)(hy:Bd y=true)(hw:∃x t,w=.str x t):SeqAt.EqAt A s w u (eqS y w):=by
 obtain⟨x,t,rfl⟩:=hw;cases y with
 |non=>unfold Is at iy;subst iy;cases r;exact SeqAt.EqAt.str_none x t
 |bl b=>unfold Is at iy;subst iy;cases r;exact SeqAt.EqAt.str_bool x t b
 |int i=>unfold Is at iy;subst iy;obtain⟨t',rfl⟩:=r;exact SeqAt.EqAt.str_int x t i t'
 |str a=>unfold Is at iy;subst iy;obtain⟨t',rfl⟩:=r;exact SeqAt.EqAt.str_str x t a t'
 |tup ds=>
  unfold Is at iy;obtain⟨p,vs,rfl,h1,_⟩:=iy;cases r;obtain⟨its,_,pl,_⟩:=I.tuple h1;exact SeqAt.EqAt.str_tuple x t pl hu
 |lst ds=>
  unfold Is at iy;obtain⟨p,vs,rfl,h1,_⟩:=iy;cases r;obtain⟨its,_,pl,_⟩:=I.list (SqL.of h1);exact SeqAt.EqAt.str_list x t pl.isList hu
 |_=>cases hy
theorem Re{X:Cx}{k:Nat}(hr:Room k X.A):OpR X (compareOp .In) (rM X.kw NB):=λpins s σ H x y v u Q I rx ry h=>by
 obtain⟨ι,μ,a,b,d,μ',R,ia,ib,e,q⟩:=h;obtain⟨ds,μ1,e1,e2⟩:=AJ e;obtain⟨hm,p,vs,rfl,h1,h2⟩:=Fu R ib e1;subst hm;split at e2
 ·rename_i hz;cases e2;cases ry;have hu:X.A.in1.units<cLine:=AAp (Nat.le_add_right _ 8) (YH hr);rcases h1 with h1|h1
  ·obtain⟨its,rv,pl,_⟩:=I.list h1;obtain⟨e3,hm⟩:=LA (y:=a) h2 rv hz.1;refine PySem.SeqAt.in_listAt (eqS a) pl.isList (λw hw=>SM hu I ia rx hz.2 (hm w (by simpa using hw))) ⟨.bl _,H,I,rfl,?_⟩;rw[show its.toArray.any (eqS a)=its.any (eqS a) by simp,e3];exact q ι H R.ext0 R _ (ofB _)
  ·obtain⟨its,rv,pl,_⟩:=I.tuple h1;obtain⟨e3,hm⟩:=LA (y:=a) h2 rv hz.1;refine PySem.SeqAt.in_tupleAt (eqS a) pl (λw hw=>SM hu I ia rx hz.2 (hm w (by simpa using hw))) ⟨.bl _,H,I,rfl,?_⟩;rw[show its.toArray.any (eqS a)=its.any (eqS a) by simp,e3];exact q ι H R.ext0 R _ (ofB _)
 ·cases e2
end Xc
namespace Mi
open PySem PySem.W PyProof.Rows L2
noncomputable def DK(a b:D):M D:=match a,b with
 | .ref n,.lst bs=>λμ=>match μ[n]? with
  |some (.lst as)=>FA (as++bs) μ
  |_=>none
 | .lst as,.lst bs=>FA (as++bs)
 |_,_=>Ba
section
variable{X:Cx}
theorem E8:OpR X (binaryOp .Add) (rM X.kw DK):=λpins s σ H x y v u Q I rx ry h=>by
 obtain⟨ι,μ,a,b,d,μ',R,ia,ib,e,q⟩:=h;unfold DK at e;split at e
 ·rename_i n bs;split at e
  ·rename_i as hn;obtain⟨w,hu,o⟩:=R.obj n _ hn;obtain⟨vs,rfl,iv⟩:=o;unfold Is at ia ib;obtain⟨hk,rfl⟩:=ia;obtain⟨p',vs',rfl,h1',hn',h2'⟩:=ib;obtain⟨hl,w⟩:=Km R (iv.append h2') e q;exact Kk pins s σ H _ _ v u Q I rx ry ⟨_,p',vs,vs',rfl,rfl,hu,h1',by rw[←AAH];exact hl,w⟩
  ·cases e
 ·rename_i as bs;unfold Is at ia ib;obtain⟨p,vs,rfl,h1,hn,h2⟩:=ia;obtain⟨p',vs',rfl,h1',hn',h2'⟩:=ib;obtain⟨hl,w⟩:=Km R (h2.append h2') e q;exact Kk pins s σ H _ _ v u Q I rx ry ⟨p,p',vs,vs',rfl,rfl,h1,h1',by rw[←AAH];exact hl,w⟩
 ·cases e
end
end Mi
namespace L2
open PySem PySem.Spec PyProof.Rows
section
variable{X:Cx}{scope:Scope}{tgs:List Str}{ix:List Nat}
noncomputable def La(P:Program)(w:World)(A:Around):Option Expr->Env->(Bool->Shared->Prop)->(Value->Shared->Prop)->Shared->Prop
 |none,_,Q,_,s=>Q true s
 |some c,env,Q,E,s=>wpAny (model P w) A (isTrue c env (eval c env)) Q E s
theorem Qc{P:Program}{w:World}{A:Around}{env:Env}{Q Q':Bool->Shared->Prop}{E:Value->Shared->Prop}{s:Shared}:∀{co:Option Expr},La P w A co env Q (λ_ _=>False) s->(∀b s,Q b s->Q' b s)->La P w A co env Q' E s
 |none,h,k=>k _ _ h
 |some _,h,k=>HH h k
def Vg(P:Program)(w:World)(A:Around)(tg elt:Expr)(co:Option Expr)(it acc:Value)(env:Env)(R:Result->Shared->Prop)(G:Shared->Prop)(r:Option Value)(s1:Shared):Prop:=match r with
 |none=>R (.ok .next) s1
 |some v=>wpAny (model P w) A (letOwnedTupleGo tg it v) (λ_ s0=>wpAny (model P w) A (assign tg env v) (λ_ s2=>
   La P w A co env (λok s3=>if ok=true then wpAny (model P w) A (eval elt env) (λx s4=>wpAny (model P w) A (call (.builtin "list.append") [acc,x]) (λ_ s5=>G s5) (notedBy (model P w) A env λe s'=>R (.error e) s') s4) (notedBy (model P w) A env λe s'=>R (.error e) s') s3 else G s3)
    (notedBy (model P w) A env λe s'=>R (.error e) s') s2) (notedBy (model P w) A env λe s'=>R (.error e) s') s0) (notedBy (model P w) A env λe s'=>R (.error e) s') s1
theorem Ro{P:Program}{w:World}{A:Around}{tg elt iter:Expr}{pos:Pos}{it acc:Value}{env:Env}{R:Result->Shared->Prop}{s:Shared}(I:Nat->Shared->Prop):∀(co:Option Expr),
  (∀n s,I n s->wpAny (model P w) A (pyNext it) (Vg P w A tg elt co it acc env R λs5=>∃m,m<n/\I m s5) (notedBy (model P w) A env λe s'=>R (.error e) s') s)->∀n,I n s->
  codeAny (model P w) A (.compLoop (.ListComp elt [⟨tg,iter,co.toList,0⟩] scope pos) 0 it acc env) R s
 |none,Eu,n,h=>PySem.W.kcp_loop I (λn s hI=>AAh (Eu n s hI) (λr s1 q=>match r,q with
   |none,q=>q
   |some v,q=>AAh q (λ_ _ q=>AAh q (λ_ _ q=>by
     have q':=q;dsimp only[La] at q';rw[if_pos rfl] at q';exact q') λ_ _ x=>x) λ_ _ x=>x) λ_ _ x=>x) n h
 |some c,Eu,n,h=>PySem.W.kct_loop I (λn s hI=>AAh (Eu n s hI) (λr s1 q=>match r,q with
   |none,q=>q
   |some v,q=>q) λ_ _ x=>x) n h
def U2(X:Cx)(co:Option Expr)(tc:TT):Prop:=
 ∀(pins:List (Addr×Obj)) (s:Shared) (σ:St) (H:Hp) (Q:Bool->Hp->Prop),Inv X pins σ H s->tc σ H Q->La X.prog X.w X.A co X.env (TP X pins σ Q) X.xe s
theorem MJ{n:Nat}:∀{is:List Nat},(∀i∈is,i<n)->∀vs σ H (Q:St->Hp->Prop),Mi.Fa is vs σ H Q->Mi.Fa is vs σ H λσ2 H2=>Q σ2 H2/\σ2.length=σ.length/\σ2.drop n=σ.drop n
 |[],_,vs,σ,H,Q,h=>⟨h.1,h.2,rfl,rfl⟩
 |i::is,hi,vs,σ,H,Q,h=>by
  obtain⟨v,vr,rfl,h⟩:=h;refine⟨v,vr,rfl,?_⟩;have z:=MJ (is:=is) (λj hj=>hi j (AAR _ hj)) vr _ H Q h;have e1:(σ.set i (some v)).length=σ.length:=by simp
  have e2:(σ.set i (some v)).drop n=σ.drop n:=by rw[List.drop_set_of_lt (hi i (by simp))]
  rw[e1,e2] at z;exact z
theorem XO{n k:Nat}{is:List Nat}{K:PySem.W.Frag}(h:∀i∈is,i<n):GK n (XQ K k (Mi.Fa is)):=λx σ H Q q=>by
 obtain⟨a,xs,e,h1,h2,h3⟩:=q;exact⟨a,xs,e,h1,h2,MJ h _ _ _ _ h3⟩
theorem MN{elt tg iter:Expr}{co:Option Expr}{pos:Pos}{g:TG}{tc:TT}{te:TE}{pins:List (Addr×Obj)}{σ:St}{H2:Hp}{s2:Shared}{it:Addr}{fp:List Addr}{tn:Nat->Heap->Prop}{J:It}{Q:VK}
  (S:BScope X scope tgs ix) (hc:X.calm=true) (hg:∀fp C s H,PG (cxB X scope tgs fp C s H) tg g) (hgk:GK tgs.length g) (hi:∀fp C s H,U2 (cxB X scope tgs fp C s H) co tc) (he:∀fp C s H,PE (cxB X scope tgs fp C s H) elt te)
  (I2:Inv X pins σ H2 s2) (T:JT X.prog X.w X.kw tg J fp it tn) (t0:tn 0 s2.heap) (hf:∀b∈fp,Eo X pins H2 b)
  (W:Nat->Nat->List V->Hp->Prop) (w0:∃m,W 0 m [] H2)
  (Eu:∀i m ys H,W i m ys H->(J.stop i H/\ys.length<=sizeLine/\∀p,H p=none->Q (.ref p) (upd H p (.lst ys))) ∨
   (J.go i H/\ys.length<sizeLine/\∃N:List V->Hp->Prop,(∀ys' H',N ys' H'->∃m',m'<m/\W (i+1) m' ys' H')/\∀x H',J.yld i H x H'->g x (Ct tgs ix σ) H' λσ2 H2=>tc σ2 H2 λb H3=>
    if b=true then te σ2 H3 λv H4=>N (ys++[v]) H4 else N ys H3))
  {RR:Value->Addr->Result->Shared->Prop}
  (fin:∀(D C:Addr) (s':Shared) (H':Hp) (m:Str->Option Value),Inv X pins σ H' s'->Q (.ref D) H'->s'.heap.Ns C m->Eo X pins H' C->RR (.ref D) C (.ok .next) s') :
  wpAny (model X.prog X.w) X.A (newList []) (λacc s₃=>wpAny (model X.prog X.w) X.A (newFunctionEnv scope X.env.globals (EV X.env scope.names []) [] X.env.qual none .none (some X.env)) (λcenv s₄=>
   codeAny (model X.prog X.w) X.A (.compStart (.ListComp elt [⟨tg,iter,co.toList,0⟩] scope pos) 0 (.ref it) acc { cenv with scope:=relabel scope X.env }) (RR acc cenv.locals) s₄) X.xe s₃) X.xe s2:=by
 refine AAo (wpAny_newFunctionEnv S.nocell (by intro y hy;simp at hy) (λh₁ hns₁ hsb₁=>?_) S.kind);dsimp only at hns₁ hsb₁ ⊢;generalize hH2:s2.heap.push { cls:=.type "list",dict:=none,data:=.seq ([]:List Value).toArray }=G2 at hns₁ hsb₁ ⊢;have hC:G2.objs.size=s2.heap.objs.size+1:=by rw[←hH2,Heap.size_push]
 have hCle:s2.heap.objs.size<=G2.objs.size:=by rw[hC];exact Nat.le_succ _
 have hDC:s2.heap.objs.size≠G2.objs.size:=by rw[hC];exact AAd (Nat.lt_succ_self _)
 have below:∀b,b<s2.heap.objs.size->b≠G2.objs.size/\b≠s2.heap.objs.size:=λb hb=>⟨by rw[hC];exact AAd (AAg hb),AAd hb⟩;have old:∀b o,s2.heap.get? b=some o->h₁.get? b=some o:=λb o e=>hsb₁.extBut b o (below b (Heap.lt_size e)).1 (AAC _ (hH2 ▸ AAC _ e));have hacc:h₁.get? s2.heap.objs.size=some (FM [] 0):=hsb₁.extBut _ _ hDC (AAC _ (hH2 ▸ AAD _ rfl));have hfo:∀b∈fp,b<s2.heap.objs.size:=λb hb=>let ⟨o,e,_⟩:=T.obj 0 _ t0 b hb;Heap.lt_size e
 have ok:=ND (tgs:=tgs) (ix:=ix) (C:=G2.objs.size) S I2 hf hfo hCle;have sub:∀x c,(EV X.env scope.names []).lookup x=some c->X.env.cells.lookup x=some c:=El scope.names [] (λ_ _ z=>by simp at z);have nDfs:s2.heap.objs.size∉frs X.stack:=λhz=>by
  rcases AAJ.mp (I2.stkSub _ hz) with z|z
  ·exact absurd I2.lt (by rw[←z];exact AAv _)
  ·exact I2.nofs (AAF _) z
 have nDcell:∀x c,(EV X.env scope.names []).lookup x=some c->c≠s2.heap.objs.size:=λx c e=>AAd (I2.cellLt (sub x c e));have ncell:∀(its:List Value) (k:Nat) (v:Option Value),(FM its k).data≠.cell v:=λits k v z=>by cases z
 have stat:∀{Hx:Hp} {o:Obj},(∀b∈fp,Hx b=none)->∀b∈fp,Eo (cxB X scope tgs fp G2.objs.size s2 H2) [(s2.heap.objs.size,o)] Hx b:=λ{Hx o} hn b hb=>
  ⟨hn b hb,(ok.exf b hb).1,ok.exfs b hb,.inl hb,(ok.exf b hb).2,λp hp z=>by
   have e:p=(s2.heap.objs.size,o):=by simpa[cxB] using hp
   subst e;exact absurd (hfo b hb) (by rw[←z];exact AAv _)⟩
 have loop:∀s₃:Shared,s₃={ s2 with heap:=h₁,toks:=s2.toks+([]:List (Str×Value)).length }->
   codeAny (model X.prog X.w) X.A (.compLoop (.ListComp elt [⟨tg,iter,co.toList,0⟩] scope pos) 0 (.ref it) (.ref s2.heap.objs.size) (compEnvC scope (EV X.env scope.names []) G2.objs.size X.env)) (RR (.ref s2.heap.objs.size) G2.objs.size) s₃:=by
  rintro s₃ rfl;obtain⟨m0,w0⟩:=w0;refine Ro (λn s=>∃i ys its k H,Inv (cxB X scope tgs fp G2.objs.size s2 H2) [(s2.heap.objs.size,FM its k)] (Ct tgs ix σ) H s/\tn i s.heap/\(∀b∈fp,H b=none)/\Vals ys its/\W i n ys H) co ?_ m0
   ⟨0,[],[],0,H2,Iz S I2 hf hfo hCle (AAF _) hDC hns₁ old rfl rfl hacc (ncell _ _),T.keep 0 _ _ t0 λb _ o e=>old b o e,λb hb=>(hf b hb).1,.nil,w0⟩
  rintro n s ⟨i,ys,its,k,H,I,st,fr,rv,w⟩;rcases Eu i n ys H w with ⟨stop,hz,q⟩|⟨go,hz8,N,hN,step⟩
  ·refine thn (T.done (cxB X scope tgs fp G2.objs.size s2 H2) rfl rfl rfl hc i _ s _ H _ I (stat fr) st stop) λr s1 ⟨hr,I1⟩=>?_;subst hr;obtain⟨pe,pn,_⟩:=I1.pin (s2.heap.objs.size,FM its k) (AAa _ (by simp));have J0:Inv X pins σ H s1:=I2.call' I1.os I1.base I1.hok I1.bare λb hb=>⟨(hf b hb).2.2.2.1,(hf b hb).2.1,(hf b hb).2.2.2.2.1,(hf b hb).2.2.2.2.2⟩;have J1:Inv X pins σ (upd H s2.heap.objs.size (.lst ys)) s1:=J0.track (I2.fpOk (AAF _) pn) ⟨hz,its,k,rv,pe⟩;obtain⟨m,hn,_⟩:=I1.loc;exact fin _ _ s1 _ m J1 (q _ pn) hn (I2.fpOk hCle (by rw[Ay (Ne.symm hDC)];exact I1.free))
  ·refine thn (T.item (cxB X scope tgs fp G2.objs.size s2 H2) rfl rfl rfl hc i _ s _ H _ I (stat fr) st go) λr s1 ⟨u,hr,h1⟩=>?_;subst hr;refine thn h1 λ_ s5 ⟨x,H5,I5,r5,y5,st5,fr5⟩=>?_;have I5':=I5.pinned (stat fr5) (T.obj _ _ st5);refine HH (hg fp G2.objs.size s2 H2 _ s5 _ H5 x u _ I5' r5 (hgk _ _ _ _ (step x H5 y5))) λ_ s6 ⟨σ6,H6,I6,q6,l6,d6⟩=>?_;refine Qc (hi fp G2.objs.size s2 H2 _ s6 σ6 H6 _ I6 q6) λokb s7 ⟨H7,I7,q7⟩=>?_;cases okb with
   |false=>
    rw[if_neg AAf] at q7 ⊢;obtain⟨m',hm,w7⟩:=hN _ _ q7;refine⟨m',hm,i+1,ys,its,k,H7,Nc I7.unpinned l6 d6,T.keep _ _ _ st5 λb hb o e=>(I7.pin (b,o) (AAa _ (AAa _ (BV hb e)))).1,λb hb=>?_,rv,w7⟩;obtain⟨o,e,_⟩:=T.obj _ _ st5 b hb;exact(I7.pin (b,o) (AAa _ (AAa _ (BV hb e)))).2.1
   |true=>
    rw[if_pos rfl] at q7 ⊢;refine HH (he fp G2.objs.size s2 H2 _ s7 σ6 H7 _ I7 q7) λxv s8 ⟨v,H8,I8,rv8,q8⟩=>?_;obtain⟨m',hm,w8⟩:=hN _ _ q8;obtain⟨pe,pn,_⟩:=I8.pin (s2.heap.objs.size,FM its k) (AAa _ (AAb _ (by simp)));have hlen:=rv.length;refine call_meets PySem.F.slot_list_append ⟨_,pe,rfl⟩ PySem.F.entry_list_append (PySem.F.args_list_append_2 _ _) (PySem.list_append s2.heap.objs.size its.toArray k xv (by rw[List.size_toArray];omega)) ⟨pe,?_⟩;have hp:its.toArray.push xv=(its++[xv]).toArray:=by simp
    have q':∃k',(s8.heap.update s2.heap.objs.size (Obj.mapSeq (λa=>a.push xv))).get? s2.heap.objs.size=some (FM (its++[xv]) k'):=⟨_,by
     unfold FM;rw[←hp];exact PySem.IsL.update pe (λa=>a.push xv)⟩
    obtain⟨k',q'⟩:=q';have I9:Inv (cxB X scope tgs fp G2.objs.size s2 H2) [] σ6 H8 { s8 with heap:=s8.heap.update s2.heap.objs.size (Obj.mapSeq (λa=>a.push xv)) }:=
     (I8.pins_of (pins':=[]) (λp hp=>absurd hp (by simp))).turned (t':=s8.toks) (λb o hb e=>(Heap.get?_update_other s8.heap (Obj.mapSeq (λa=>a.push xv)) (Ne.symm hb)).trans e) pn hDC (.inr (AAF _)) nDcell (λp hp=>absurd hp (by simp[cxB]))
    have I10:Inv (cxB X scope tgs fp G2.objs.size s2 H2) [(s2.heap.objs.size,FM (its++[xv]) k')] σ6 H8 { s8 with heap:=s8.heap.update s2.heap.objs.size (Obj.mapSeq (λa=>a.push xv)) }:=
     I9.pins_of λp hp=>by
      have e:p=(s2.heap.objs.size,FM (its++[xv]) k'):=by simpa using hp
      subst e;exact⟨q',pn,hDC,nDfs,ncell _ _⟩
    refine⟨m',hm,i+1,ys++[v],its++[xv],k',H8,Nc I10 l6 d6,T.keep _ _ _ st5 λb hb o e=>?_,λb hb=>?_,rv.append (.cons rv8 .nil),w8⟩
    ·exact(Heap.get?_update_other s8.heap (Obj.mapSeq (λa=>a.push xv)) (Ne.symm (below b (hfo b hb)).2)).trans (I8.pin (b,o) (AAa _ (AAa _ (BV hb e)))).1
    ·obtain⟨o,e,_⟩:=T.obj _ _ st5 b hb;exact(I8.pin (b,o) (AAa _ (AAa _ (BV hb e)))).2.1
 exact codeAny_compStart_list (loop _ rfl) (T.self _ 0 _ _ _ (T.keep 0 _ _ t0 λb _ o e=>old b o e) (loop _ rfl))
theorem RP{elt tg iter:Expr}(co:Option Expr){pos:Pos}{wi:TI}{g:TG}{tc:TT}{te:TE}(S:BScope X scope tgs ix)(hc:X.calm=true)(hi:PI X tg iter wi)(hg:∀fp C s H,PG (cxB X scope tgs fp C s H) tg g)(hgk:GK tgs.length g)
  (hif:∀fp C s H,U2 (cxB X scope tgs fp C s H) co tc) (he:∀fp C s H,PE (cxB X scope tgs fp C s H) elt te) (hs:∀x,foldedSetIterable iter X.env x=pure x:=by intro _;rfl) :
  PE X (.ListComp elt [⟨tg,iter,co.toList,0⟩] scope pos) (Ji tgs ix wi g tc te):=by
 intro pins s σ H Q I h;rw[eval_ListComp];refine wpAny_comprehension_free (use:=none) rfl hs (DL (S.cells I.ok)) S.kind S.loc ?_;show wpAny _ _ (eval iter X.env) _ _ s;refine thn (hi pins s σ H _ I h) λv s1 h1=>thn h1 λitv s2 h2=>?_;obtain⟨it,fp,tn,J,H2,e,I2,T,t0,f2,W,w0,Eu⟩:=h2;subst e;refine MN (RR:=λacc C=>compPost (model X.prog X.w) X.A X.xe none (EP X pins σ Q) acc C) S hc hg hgk hif he I2 T t0 f2 W w0 Eu ?_;intro D C s' H' m J1 q hn fC;obtain⟨f0,f1,f2,f3,f4,f5⟩:=fC;exact⟨m,hn,λh' sb=>⟨.ref D,H',J1.turned (t':=s'.toks) (λb o hb e=>(sb.2 b hb).trans e) f0 f1 f3 f4 f5,rfl,q⟩⟩
end
end L2
namespace Mi
open PySem L2
section
variable{X:Cx}{scope:Scope}{tgs:List Str}{ix:List Nat}{elt iter:Expr}{pos:Pos}
theorem Jk{K:KW}:U2 X none (tT K BO):=λpins s σ H Q I h=>by
 obtain⟨ι,μ,τ,b,μ',R,S,e,q⟩:=h;cases e;exact⟨H,I,q ι H R.ext0 R⟩
theorem Qg{K:KW}{n:Nat}{src:Sl->M (List D)}{bf:D->Sl->M Sl}{g:TG}{mc:Sl->M Bool}{me:Sl->M D}{fin:List D->M D}{σ:St}{H:Hp}{Q:VK}(hn:tgs.length=n)(hg:∀v σ H Q,tG K bf v σ H Q->g v σ H Q)(hf:∀ι μ μ' H ds vs d (Q:VK),RelH K ι μ H->IsL K ι μ.length H ds vs->fin ds μ=some (d,μ')->(Aft K ι μ H μ' λι' H'=>∀v,Is K ι' μ'.length H' d v->Q v H')->
   vs.length<=sizeLine/\∀p,H p=none->Q (.ref p) (upd H p (.lst vs)))
  (h:tE K (BE n ix src bf mc me fin) σ H Q):Ji tgs ix (tI K src) g (tT K mc) (tE K me) σ H Q:=by
 subst hn;obtain⟨ι,μ,τ,d,μ',R,S,e,q⟩:=h;obtain⟨ds,μ1,e1,e5⟩:=AJ e;obtain⟨u,μ2,e2,e6⟩:=AJ e5;obtain⟨zs,μ3,e3,e7⟩:=AJ e6;obtain⟨hl,e4⟩:=CN e2;clear e e5 e6;subst e4;refine⟨ι,μ,τ,ds,_,R,S,e1,λι1 H1 E1 R1 J it=>?_⟩;refine⟨λi' m ys H=>m=ds.length-i'/\i'<=ds.length/\ys.length<=i'/\∃(ι:Nat->Addr) (μ:Mh) (as:List D),RelH K ι μ H/\RelS K ι μ.length H τ σ/\ItM K J ds ι μ H/\IsL K ι μ.length H as ys/\B3 bf mc me (BB tgs.length ix τ) (ds.drop i') as μ=some (zs,μ3) /\
  Aft K ι μ H μ' λι' H'=>∀v,Is K ι' μ'.length H' d v->Q v H',⟨ds.length,by simp,AAi _,AAF _,ι1,_,[],R1,S.ext E1,it,.nil,e3,λι2 H2 E2 R2=>q ι2 H2 (E1.trans E2) R2⟩,?_⟩
 rintro i' m ys H ⟨hm,hil,hyl,ι,μ,as,R,S,it,ia,e3,q⟩;obtain⟨go,stop,yl⟩:=it ι μ H R.ext0 R;by_cases hlt:i'<ds.length
 ·refine .inr ⟨go i' hlt,by omega,λys' H'=>ys'.length<=i'+1/\∃(ι:Nat->Addr) (μ:Mh) (as:List D),RelH K ι μ H'/\RelS K ι μ.length H' τ σ/\ItM K J ds ι μ H'/\IsL K ι μ.length H' as ys'/\B3 bf mc me (BB tgs.length ix τ) (ds.drop (i'+1)) as μ=some (zs,μ3) /\
   Aft K ι μ H' μ' λι' H'=>∀v,Is K ι' μ'.length H' d v->Q v H',λys' H' z=>⟨_,(by omega:ds.length-(i'+1)<m),rfl,hlt,z⟩,λx H2 y=>?_⟩
  have hd:ds[i']?=some ds[i']:=by simp[hlt]
  obtain⟨E2,R2,ix2⟩:=yl i' x H2 _ hd y;rw[List.drop_eq_getElem_cons hlt] at e3;obtain⟨τ1,μ1,e1,e5⟩:=AJ e3;clear e3;obtain⟨cc,μ2,e2,e6⟩:=AJ e5;clear e5;have S2:=(S.ext E2).block (tgs:=tgs) (ix:=ix);refine hg _ _ _ _ ⟨ι,_,_,_,τ1,μ1,R2,S2,ix2,e1,λι0 H0 E0 R0 σ0 S0=>?_⟩;have E20:=E2.trans E0;refine⟨ι0,_,_,cc,μ2,R0,S0,e2,λι3 H3 E3 R3=>?_⟩;have E13:=E20.trans E3;cases cc with
  |false=>
   exact⟨by omega,ι3,μ2,as,R3,S.ext E13,it.ext E13,ia.ext E13,e6,λι5 H5 E5 R5=>q ι5 H5 (E13.trans E5) R5⟩
  |true=>
   obtain⟨y',μ4,e4,e8⟩:=AJ e6;refine⟨ι3,μ2,_,y',μ4,R3,S0.ext E3,e4,λι4 H4 E4 R4 v iv=>?_⟩;have E14:=E13.trans E4;exact⟨by simp;omega,ι4,μ4,as++[y'],R4,S.ext E14,it.ext E14,(ia.ext E14).append (.one iv),e8,λι5 H5 E5 R5=>q ι5 H5 (E14.trans E5) R5⟩
 ·have hi':i'=ds.length:=by omega
  subst hi';rw[List.drop_length] at e3;cases e3;obtain⟨z1,z2⟩:=hf ι _ μ' H _ ys d Q R ia e7 q;exact .inl ⟨stop,z1,z2⟩
theorem Vj{K:KW}{is:List Nat}{v:V}{σ:St}{H:Hp}{Q:St->Hp->Prop}(h:tG K (GN is) v σ H Q):XQ K is.length (Fa is) v σ H Q:=by
 obtain⟨ι,μ,τ,d,τ',μ',R,S,i1,e,q⟩:=h;cases d with
 |tup ds=>
  unfold Is at i1;obtain⟨p,vs,rfl,h1,h2⟩:=i1;have e':(if ds.length=is.length then JO is ds τ else Ba) μ=some (τ',μ'):=e;by_cases hl:ds.length=is.length
  ·rw[if_pos hl] at e';refine⟨p,vs,rfl,h1,by rw[h2.length,hl],G8 R S h2 e' λz σ' S'=>?_⟩;subst z;exact q ι H R.ext0 R σ' S'
  ·rw[if_neg hl] at e';cases e'
 |_=>cases e
theorem Ll(co:Option Expr){n:Nat}{es:List Expr}{kk:Nat}{tp:Pos}{is:List Nat}{src:Sl->M (List D)}{mc:Sl->M Bool}{me:Sl->M D}(S:BScope X scope tgs ix)(hc:X.calm=true)(hi:RI X (.Tuple es kk tp) iter src)(hg:∀fp C s H,PGs (cxB X scope tgs fp C s H) es (Fa is))(hif:∀fp C s H,U2 (cxB X scope tgs fp C s H) co (tT X.kw mc))(he:∀fp C s H,RE (cxB X scope tgs fp C s H) elt me)
  (hlen:∀fp C s H,(assignEach es (cxB X scope tgs fp C s H).env).length=is.length:=by intro _ _ _ _;rfl) (hst:∀fp C s H,(assignEach es (cxB X scope tgs fp C s H).env).findIdx? (·.1)=none:=by intro _ _ _ _;rfl)
  (hin:∀i∈is,i<tgs.length:=by decide) (hn:tgs.length=n:=by rfl) (hs:∀x,foldedSetIterable iter X.env x=pure x:=by intro _;rfl):RE X (.ListComp elt [⟨.Tuple es kk tp,iter,co.toList,0⟩] scope pos) (BE n ix src (GN is) mc me Am):=
 RE.wk (RP co (te:=tE X.kw me) S hc hi.pe (λfp C s H=>RF (X:=cxB X scope tgs fp C s H) hc (hg fp C s H) (hlen fp C s H) (hst fp C s H)) (XO hin) hif (λfp C s H=>(he fp C s H).pe) hs) λ_ _ _ h=>Qg hn (λ_ _ _ _ h=>Vj h) (λ_ _ _ _ _ _ _ _ R i e q=>DQ R i e q) h
end
end Mi
namespace K4
open PySem L2 Mi K1 Xc
noncomputable def m_is_expression(aE:List D->M D)(aC:List D->M D)(aD:List D->M D):Sl->M (Fl×Sl):=
  (AS (sIf (mOr (Ac (mOp FL (AD 1) (mC (.int 1)))) (mOr (M8 (Ac (AF F1 (AB (AD 0) (AB (mC (.ty "tuple")) AH))))) (Ac (mOp BF (AF Bk (AB (AD 0) AH)) (mC (.int 0)))))) (BA (mC (.bl false))) BT)
  (AS (Ai (mOp AT (AD 0) (mC (.int 0))) (AM 2))
  (AS (sIf (Ac (mOp NB (AD 2) (mC FE))) (BA (DE (mOp BF (AF Bk (AB (AD 0) AH)) (mC (.int 3))) (DE (AF aE (AB (mOp AT (AD 0) (mC (.int 1))) (AB (mOp Dz (AD 1) (mC (.int 1))) AH))) (AF aE (AB (mOp AT (AD 0) (mC (.int 2))) (AB (mOp Dz (AD 1) (mC (.int 1))) AH)))))) BT)
  (AS (sIf (Ac (mOp Dd (AF Bk (AB (AD 0) AH)) (mC (.int 2)))) (BA (mC (.bl false))) BT)
  (AS (sIf (Ac (mOp BF (AD 2) (mC (.str "num")))) (BA (AF aC (AB (mOp AT (AD 0) (mC (.int 1))) (AB (mC (.int 0)) (AB (mC GL) AH))))) BT)
  (AS (sIf (Ac (mOp BF (AD 2) (mC (.str "var")))) (BA (AF aD (AB (mOp AT (AD 0) (mC (.int 1))) AH))) BT)
  (BA (DE (mOp BF (AD 2) (mC (.str "not"))) (AF aE (AB (mOp AT (AD 0) (mC (.int 1))) (AB (mOp Dz (AD 1) (mC (.int 1))) AH)))))))))))
noncomputable def m_is_part(aE:List D->M D)(aC:List D->M D)(aD:List D->M D):Sl->M (Fl×Sl):=
  (AS (sIf (Ac (mOp BF (AD 0) (mC (.str "expression")))) (BA (AF aE (AB (AD 1) (AB (mC HF) AH)))) BT)
  (AS (sIf (Ac (mOp BF (AD 0) (mC (.str "target")))) (BA (AF aC (AB (AD 1) (AB (mC (.int 0)) (AB (AD 2) AH))))) BT)
  (BA (AF aD (AB (AD 1) AH)))))
noncomputable def FB  : Sl->M (Fl×Sl):=
  (sIf (M8 (Ac (AD 0))) (KY "NoMaking" (AB (AD 1) AH)) BT)
noncomputable def BW(Z4:List D->M Dx)(aC:List D->M D):Sl->M (Fl×Sl):=
  (AS (Ak (Al Z4 (AB (mOp NB (AD 0) (mC Ho)) (AB (mC (.str "a kind is safe, steady or whole")) AH))))
  (AS (Ak (Al Z4 (AB (AF aC (AB (AD 1) (AB (mC Do) (AB (mC EK) AH)))) (AB (mC (.str "a size is a whole number from 2 to 10")) AH))))
  (Ak (Al Z4 (AB (AF aC (AB (AD 2) (AB (mC (.int 0)) (AB (mOp Dz (AD 1) (mC (.int 1))) AH)))) (AB (mC (.str "a begin is a worth of its box")) AH))))))
noncomputable def Bj(Z4:List D->M Dx)(Z8:List D->M D)(aD:List D->M D)(aF:List D->M Dx)(aI:List D->M D):Sl->M (Fl×Sl):=
  (AS (Ak (Al Z4 (AB (AF Z8 (AB (AD 0) (AB (mC (.int 0)) (AB (mC Dm) AH)))) (AB (mC (.str "boxes are a tuple of at most six")) AH))))
  (AS (Dv (CC (AD 0)) (AM 1) (AS (Ak (Al Z4 (AB (AF Z8 (AB (AD 1) (AB (mC (.int 5)) (AB (mC (.int 5)) AH)))) (AB (mC (.str "a box is a tuple of five parts")) AH))))
  (AS (Ak (Al Z4 (AB (AF aD (AB (mOp AT (AD 1) (mC (.int 0))) AH)) (AB (mC (.str "a box has a name")) AH))))
  (Ak (Al aF (AB (mOp AT (AD 1) (mC (.int 1))) (AB (mOp AT (AD 1) (mC (.int 2))) (AB (mOp AT (AD 1) (mC (.int 3))) AH))))))))
  (Ak (Al Z4 (AB (AF aI (AB (BE 1 [] (CC (AD 0)) (AM 0) BO (mOp AT (AD 0) (mC (.int 0))) Am) AH)) (AB (mC (.str "two boxes have one name")) AH))))))
noncomputable def Bi(Z4:List D->M Dx)(Z8:List D->M D)(aD:List D->M D)(aC:List D->M D)(aI:List D->M D):Sl->M (Fl×Sl):=
  (AS (Ak (Al Z4 (AB (AF Z8 (AB (AD 0) (AB (mC DS) (AB (mC Dl) AH)))) (AB (mC (.str "hands are a tuple of two to four")) AH))))
  (AS (Dv (CC (AD 0)) (AM 1) (AS (Ak (Al Z4 (AB (AF Z8 (AB (AD 1) (AB (mC (.int 3)) (AB (mC (.int 3)) AH)))) (AB (mC (.str "a hand is a tuple of three parts")) AH))))
  (AS (Ak (Al Z4 (AB (AF aD (AB (mOp AT (AD 1) (mC (.int 0))) AH)) (AB (mC (.str "a hand has a name")) AH))))
  (AS (Ak (Al Z4 (AB (AF aC (AB (mOp AT (AD 1) (mC (.int 1))) (AB (mC (.int 0)) (AB (mC DR) AH)))) (AB (mC (.str "a told count is a whole number from 0 to 400")) AH))))
  (Ak (Al Z4 (AB (AF Z8 (AB (mOp AT (AD 1) (mC (.int 2))) (AB (mC (.int 0)) (AB (mC EL) AH)))) (AB (mC (.str "rows are a tuple of at most sixty")) AH))))))))
  (Ak (Al Z4 (AB (AF aI (AB (BE 1 [] (CC (AD 0)) (AM 0) BO (mOp AT (AD 0) (mC (.int 0))) Am) AH)) (AB (mC (.str "two hands have one name")) AH))))))
noncomputable def m_check_endingX(Z4:List D->M Dx):Sl->M (Fl×Sl):=
  (sIf (Ac (AD 1)) (Ak (Al Z4 (AB (mOp Dd (AD 0) (mC (.str "tell"))) (AB (mC (.str "the writer tells nothing")) AH)))) (Ak (Al Z4 (AB (mOp Dd (AD 0) (mC (.str "done"))) (AB (mC (.str "a reader ends by telling")) AH)))))
noncomputable def m_check_formX(Z4:List D->M Dx)(Z8:List D->M D)(cy:List D->M D):Sl->M (Fl×Sl):=
  (AS (Ak (Al Z4 (AB (AF Z8 (AB (AD 0) (AB (mC (.int 1)) (AB (mC (.int 3)) AH)))) (AB (mC (.str "a row is a tuple of one to three parts")) AH))))
  (AS (Ak (Al Z4 (AB (DE (AF F1 (AB (mOp AT (AD 0) (mC (.int 0))) (AB (mC (.ty "str")) AH))) (mUn (XD BL) (mOp AT (AD 0) (mC (.int 0))))) (AB (mC (.str "a row begins with one of seven words")) AH))))
  (AS (Ai (mUn (MA BL) (mOp AT (AD 0) (mC (.int 0)))) (AM 2))
  (AS (Ak (Al Z4 (AB (mOp BF (AF Bk (AB (AD 0) AH)) (mOp A7 (mC (.int 1)) (AF Bk (AB (AD 2) AH)))) (AB (mC (.str "a row has the parts of its word")) AH))))
  (Dv (PD (AB (AD 2) (AB (Ej (AD 0) (Bz (mC (.int 1))) Br) AH))) (GN [3,4]) (Ak (Al Z4 (AB (AF cy (AB (AD 3) (AB (AD 4) (AB (AD 1) AH)))) (AB (OC [(mC (.str "a row has another thing than its ")),(UR (AD 3))]) AH)))))))))
noncomputable def m_check_variablesX(bO:List D->M D)(Z4:List D->M Dx):Sl->M (Fl×Sl):=
  (AS (Dv (CC (AF bO (AB (AD 0) AH))) (AM 2) (AS (Ak (Al Z4 (AB (mOp (G1 true) (AD 2) (mC EA)) (AB (mC (.str "a variable is called like a word of expressions")) AH))))
  (Ak (Al Z4 (AB (UQ (AD 1) (mOp Dd (AD 2) (mC (.str "v")))) (AB (mC (.str "a reader has no variable v")) AH))))))
  (sIf (Ac (mOp (G1 false) (mOp AT (AD 0) (mC (.int 0))) (AF AY (AB (mC (.str "get")) (AB (mC (.str "let")) AH))))) (Ak (Al Z4 (AB (mOp Dd (mOp AT (AD 0) (mC (.int 1))) (mC (.str "v"))) (AB (mC (.str "the variable v is set by no row")) AH)))) BT))
noncomputable def m_check_rowsX(bX:List D->M Dx)(a0:List D->M Dx)(af:List D->M Dx)(Z4:List D->M Dx):Sl->M (Fl×Sl):=
  (Dv (CC (mOp AT (AD 0) (mC (.int 2)))) (AM 3) (AS (Ak (Al bX (AB (AD 3) (AB (AF Bk (AB (mOp AT (AD 0) (mC (.int 2))) AH)) AH))))
  (AS (Ak (Al a0 (AB (mOp AT (AD 3) (mC (.int 0))) (AB (AD 1) AH))))
  (AS (Ak (Al af (AB (AD 3) (AB (AD 1) AH))))
  (AS (sIf (Ac (mOp BF (mOp AT (AD 3) (mC (.int 0))) (mC (.str "put")))) (Ak (Al Z4 (AB (mOp BF (Ko (AD 2) (mOp AT (AD 3) (mC (.int 1)))) (mOp AT (AD 0) (mC (.int 0)))) (AB (mC (.str "a hand puts a box that it does not write")) AH)))) BT)
  (sIf (Ac (mOp BF (mOp AT (AD 3) (mC (.int 0))) (mC (.str "get")))) (Ak (Al Z4 (AB (mOp (STq false) (mOp AT (AD 3) (mC (.int 2))) (AD 2)) (AB (mC (.str "a hand gets a box that is none")) AH)))) BT))))))
noncomputable def m_check_makingX(Z4:List D->M Dx)(Z8:List D->M D)(aF:List D->M Dx)(bM:List D->M Dx)(bQ:List D->M Dx)(bV:List D->M Dx):Sl->M (Fl×Sl):=
  (AS (Ak (Al Z4 (AB (AF Z8 (AB (AD 0) (AB (mC (.int 5)) (AB (mC (.int 5)) AH)))) (AB (mC (.str "a making is a tuple of five parts")) AH))))
  (AS (Ak (Al aF (AB (mOp AT (AD 0) (mC (.int 0))) (AB (mOp AT (AD 0) (mC (.int 1))) (AB (mOp AT (AD 0) (mC (.int 2))) AH)))))
  (AS (Ak (Al bM (AB (mOp AT (AD 0) (mC (.int 3))) AH)))
  (AS (Ak (Al bQ (AB (mOp AT (AD 0) (mC (.int 4))) AH)))
  (AS (Ai (BE 1 [] (CC (mOp AT (AD 0) (mC (.int 4)))) (AM 0) BO (mOp AT (AD 0) (mC (.int 0))) Am) (AM 1))
  (AS (Ai Wu (AM 2))
  (AS (Dv (CC (mOp AT (AD 0) (mC (.int 3)))) (AM 3) (AS (Ak (Al Z4 (AB (mOp NB (mOp AT (AD 3) (mC (.int 4))) (AD 1)) (AB (mC (.str "the hand of a box is none")) AH))))
  (Lh (AD 2) (mOp AT (AD 3) (mC (.int 0))) (mOp AT (AD 3) (mC (.int 4))))))
  (Dv (Rn (AB (mOp AT (AD 0) (mC (.int 4))) AH)) (GN [4,5]) (Ak (Al bV (AB (AD 5) (AB (mOp BF (AD 4) (mC (.int 0))) (AB (AD 2) AH)))))))))))))
noncomputable def m_Lmaking(Z3:List D->M D)(dN:List D->M D):Sl->M (Fl×Sl):=
  (AS (Ai (AF Am (AB (mC (.str "w")) (AB (mC (.str "r")) (AB (mC (.str "put")) (AB (mC (.str "makes")) (AB (mC (.str "box")) (AB (mC (.str "hand")) (AB (mC (.str "abcdefgh")) (AB (mC (.str "z")) (AB (mC (.str "not")) (AB (mC (.str "v")) (AB (mC (.str "safe")) (AB (mC (.str "x")) AH))))))))))))) (AM 1))
  (AS (Ai (AF Z3 (AB (AD 0) (AB (mC (.int 12)) AH))) (AM 2))
  (AS (Ai (mOp A7 (Ej (AD 1) (Bz (AD 2)) Br) (Ej (AD 1) Br (Bz (AD 2)))) (AM 1))
  (AS (Ai (Ej (AD 1) Br (Bz (mOp A7 (mC (.int 2)) (AF Z3 (AB (AD 0) (AB (mC (.int 3)) AH)))))) (AM 3))
  (AS (Ai (AF FA AH) (AM 4))
  (AS (Dv (Io (AB (AF Z3 (AB (AD 0) (AB (mC (.int 7)) AH))) AH)) (AM 5) (AS (Ai (mOp A7 (mC (.int 2)) (AF Z3 (AB (AD 0) (AB (mC (.int 9)) AH)))) (AM 6))
  (AS (Ai (mOp AT (AF Am (AB (mC (.str "safe")) (AB (mC (.str "steady")) (AB (mC (.str "whole")) AH)))) (AF Z3 (AB (AD 0) (AB (mC (.int 3)) AH)))) (AM 7))
  (EH (Ch HM (AD 4) (AB (AF AY (AB (mOp AT (AD 1) (mOp Dz (mC (.int 11)) (AD 5))) (AB (AD 7) (AB (AD 6) (AB (AF Z3 (AB (AD 0) (AB (AD 6) AH))) (AB (mOp AT (AD 3) (AF Z3 (AB (AD 0) (AB (AF Bk (AB (AD 3) AH)) AH)))) AH)))))) AH))))))
  (AS (Ai (AF FA AH) (AM 8))
  (AS (Ai (AF Z3 (AB (AD 0) (AB (mOp DX (mC (.int 9)) (AF Bk (AB (AD 3) AH))) AH))) (AM 9))
  (AS (Dv (L7 (AB (AD 3) AH)) (GN [5,10]) (AS (Ai (mOp AT (AF Am (AB (mC (.int 0)) (AB (mC (.int 1)) (AB (mC (.int 3)) (AB (mC (.int 5)) (AB (mC (.int 7)) AH)))))) (AF Z3 (AB (AD 0) (AB (mC (.int 5)) AH)))) (AM 11))
  (AS (sIf (Ac (mOp BF (AD 5) (AD 9))) (Ai (mC (.int 60)) (AM 11)) BT)
  (AS (Ai (BE 1 [10] (Gd (AD 4)) (AM 0) (Ac (mOp BF (mOp AT (AD 0) (mC (.int 4))) (AD 1))) (mOp AT (AD 0) (mC (.int 0))) Am) (AM 12))
  (AS (Ai (Ej (AF Am (AB (mC (.str "x")) (AB (mC (.str "abcdefgh")) (AB (mC (.str "tell")) (AB (mC (.str "vv")) (AB (mC (.str "if")) AH)))))) Br (Bz (mOp A7 (mC (.int 1)) (AF Z3 (AB (AD 0) (AB (mC (.int 5)) AH)))))) (AM 13))
  (AS (Ai (BE 1 [4,5,11,12,13,0] (Io (AB (AD 11) AH)) (AM 0) BO (AF dN (AB (AD 6) (AB (AD 4) (AB (BE 1 [] (Gd (AD 1)) (AM 0) BO (mOp AT (AD 0) (mC (.int 0))) Am) (AB (AD 5) (AB (AD 3) (AB (mOp BF (AD 2) (mC (.int 0))) AH))))))) Am) (AM 14))
  (EH (Ch HM (AD 8) (AB (AF AY (AB (AD 10) (AB (mOp AT (AF Am (AB (mC (.int 0)) (AB (mC (.int 1)) (AB (mC (.int 9)) (AB (mC (.int 99)) (AB (mC (.int 400)) AH)))))) (AF Z3 (AB (AD 0) (AB (mC (.int 5)) AH)))) (AB (AF DH (AB (AD 14) AH)) AH)))) AH)))))))))
  (AS (Ai (mOp A7 (mC (.int 2)) (AF Z3 (AB (AD 0) (AB (mC (.int 9)) AH)))) (AM 6))
  (AS (Ai (mOp AT (AF Am (AB (mC (.str "safe")) (AB (mC (.str "steady")) (AB (mC (.str "whole")) AH)))) (AF Z3 (AB (AD 0) (AB (mC (.int 3)) AH)))) (AM 7))
  (BA (AF AY (AB (AD 7) (AB (AD 6) (AB (AF Z3 (AB (AD 0) (AB (AD 6) AH))) (AB (AF DH (AB (AD 4) AH)) (AB (AF DH (AB (AD 8) AH)) AH))))))))))))))))))
noncomputable def m_Ltower  : Sl->M (Fl×Sl):=
  (AS (Ai (AF AY (AB (mC (.str "num")) (AB (mC (.int 1)) AH))) (AM 2))
  (AS (Dv (Io (AB (AD 1) AH)) (AM 3) (Ai (mIf (Ac (mOp BF (AD 0) (mC (.str "not")))) (AF AY (AB (mC (.str "not")) (AB (AD 2) AH))) (AF AY (AB (AD 0) (AB (AF AY (AB (mC (.str "num")) (AB (mC (.int 0)) AH))) (AB (AD 2) AH))))) (AM 2)))
  (BA (AD 2))))
noncomputable def m_Lbad_exprs(aY:List D->M D):Sl->M (Fl×Sl):=
  (AS (Ai (AF AY (AB (mC (.str "num")) (AB (mC (.int 1)) AH))) (AM 0))
  (AS (Ai (AF Am (AB (mC .non) (AB (mC (.int 5)) (AB (mC (.str "x")) (AB (AF AY AH) (AB (AF AY (AB (mC (.str "num")) AH)) (AB (AF AY (AB (mC (.str "num")) (AB (mC (.int 10)) AH))) (AB (AF AY (AB (mC (.str "num")) (AB (mUn Lq (mC (.int 1))) AH))) (AB (AF AY (AB (mC (.str "num")) (AB (mC (.bl true)) AH))) (AB (AF AY (AB (mC (.str "num")) (AB (mC (.str "1")) AH))) (AB (AF AY (AB (mC (.str "num")) (AB (mC (.int 1)) (AB (mC (.int 2)) AH)))) (AB (AF AY (AB (mC .non) AH)) AH)))))))))))) (AM 1))
  (AS (Ai (mOp A7 (AD 1) (AF Am (AB (AF AY (AB (mC (.str "var")) AH)) (AB (AF AY (AB (mC (.str "var")) (AB (mC (.str "")) AH))) (AB (AF AY (AB (mC (.str "var")) (AB (mC (.str "A")) AH))) (AB (AF AY (AB (mC (.str "var")) (AB (mC (.str "not")) AH))) (AB (AF AY (AB (mC (.str "var")) (AB (mC (.str "and")) AH))) (AB (AF AY (AB (mC (.str "var")) (AB (mC (.str "or")) AH))) (AB (AF AY (AB (mC (.str "var")) (AB (mC .non) AH))) AH))))))))) (AM 1))
  (AS (Ai (mOp A7 (AD 1) (AF Am (AB (AF AY (AB (mC (.str "var")) (AB (mC (.str "abcdefghi")) AH))) (AB (AF AY (AB (mC (.str "var")) (AB (AF Am (AB (mC (.str "x")) AH)) AH))) (AB (AF AY (AB (mC (.str "var")) (AB (mC (.str "x")) (AB (mC (.str "y")) AH)))) (AB (AF AY (AB (mC (.str "not")) AH)) (AB (AF AY (AB (mC (.str "not")) (AB (AD 0) (AB (AD 0) AH)))) (AB (AF AY (AB (mC (.str "+")) (AB (AD 0) AH))) AH)))))))) (AM 1))
  (AS (Ai (mOp A7 (AD 1) (AF Am (AB (AF AY (AB (mC (.str "+")) (AB (AD 0) (AB (AD 0) (AB (AD 0) AH))))) (AB (AF AY (AB (mC (.str "*")) (AB (AD 0) (AB (AD 0) AH)))) (AB (AF AY (AB (mC (.str "Num")) (AB (mC (.int 1)) AH))) (AB (AF Am (AB (mC (.str "num")) (AB (mC (.int 1)) AH))) (AB (AF AY (AB (AF AY (AB (mC (.str "num")) (AB (mC (.int 1)) AH))) AH)) (AB (AF AY (AB (mC (.str "<=")) (AB (AD 0) (AB (AD 0) AH)))) AH)))))))) (AM 1))
  (AS (Ai (mOp A7 (AD 1) (AF Am (AB (AF AY (AB (mC (.str "not")) (AB (AF AY (AB (mC (.str "num")) (AB (mC (.int 10)) AH))) AH))) (AB (AF AY (AB (mC (.str "and")) (AB (AD 0) (AB (mC .non) AH)))) (AB (AF AY (AB (mC (.str "or")) (AB (AF AY (AB (mC (.str "var")) (AB (mC (.str "1")) AH))) (AB (AD 0) AH)))) (AB (AF AY (AB (mC (.str "=")) (AB (AD 0) AH))) (AB (AF AY (AB (mC (.str "")) (AB (AD 0) (AB (AD 0) AH)))) AH))))))) (AM 1))
  (BA (mOp A7 (AD 1) (AF Am (AB (AF aY (AB (mC (.str "not")) (AB (mC (.int 5)) AH))) (AB (AF aY (AB (mC (.str "+")) (AB (mC (.int 5)) AH))) (AB (AF aY (AB (mC (.str "<")) (AB (mC (.int 6)) AH))) (AB (AF aY (AB (mC (.str "not")) (AB (mC (.int 2000)) AH))) AH)))))))))))))
noncomputable def m_Lbad_expr(bu:List D->M D)(Z3:List D->M D):Sl->M (Fl×Sl):=
  (AS (Ai (AF bu AH) (AM 1))
  (AS (Ai (mOp AT (AD 1) (AF Z3 (AB (AD 0) (AB (AF Bk (AB (AD 1) AH)) AH)))) (AM 2))
  (AS (sIf (Ac (mOp BF (AF Z3 (AB (AD 0) (AB (mC (.int 3)) AH))) (mC (.int 0)))) (BA (AF AY (AB (mOp AT (AF Am (AB (mC (.str "+")) (AB (mC (.str "and")) (AB (mC (.str "<")) AH)))) (AF Z3 (AB (AD 0) (AB (mC (.int 3)) AH)))) (AB (AF AY (AB (mC (.str "num")) (AB (mC (.int 2)) AH))) (AB (AD 2) AH))))) BT)
  (BA (AD 2)))))
noncomputable def m_Lbad_rows  : Sl->M (Fl×Sl):=
  (AS (Ai (mOp AT (mOp AT (AD 1) (mC (.int 4))) (AD 2)) (GN [3,4,5]))
  (AS (Ai (AF Bk (AB (AD 5) AH)) (AM 6))
  (AS (Ai (AF AY (AB (mC (.str "num")) (AB (mC (.int 1)) AH))) (AM 7))
  (AS (Ai (BE 1 [3] (CC (mOp AT (AD 1) (mC (.int 3)))) (AM 0) (Ac (mOp BF (mOp AT (AD 0) (mC (.int 4))) (AD 1))) (mOp AT (AD 0) (mC (.int 0))) Am) (AM 8))
  (AS (Ai (BE 1 [3] (CC (mOp AT (AD 1) (mC (.int 3)))) (AM 0) (Ac (mOp Dd (mOp AT (AD 0) (mC (.int 4))) (AD 1))) (mOp AT (AD 0) (mC (.int 0))) Am) (AM 9))
  (AS (Ai (AF FA (AB (mC .non) (AB (AF Am AH) (AB (mC (.str "jump")) (AB (AF AY AH) (AB (AF AY (AB (mC (.int 5)) AH)) (AB (AF AY (AB (mC (.str "jump")) AH)) (AB (AF AY (AB (mC (.str "jump")) (AB (mC (.int 0)) (AB (mC (.int 0)) AH)))) (AB (AF Am (AB (mC (.str "jump")) (AB (mC (.int 0)) AH))) (AB (AF AY (AB (mC (.str "Jump")) (AB (mC (.int 0)) AH))) (AB (AF AY (AB (AF Am (AB (mC (.str "jump")) AH)) (AB (mC (.int 0)) AH))) (AB (AF AY (AB (mC (.str "go")) (AB (mC (.int 0)) AH))) AH)))))))))))) (AM 10))
  (AS (Ai (mOp DK (AD 10) (AF Am (AB (AF AY (AB (mC (.str "put")) AH)) (AB (AF AY (AB (mC (.str "put")) (AB (mC (.str "nobox")) (AB (AD 7) AH)))) (AB (AF AY (AB (mC (.str "put")) (AB (mC .non) (AB (AD 7) AH)))) (AB (AF AY (AB (mC (.str "put")) (AB (mC (.str "nobox")) AH))) (AB (AF AY (AB (mC (.str "put")) (AB (AF Am (AB (mC (.str "b")) AH)) (AB (AD 7) AH)))) AH))))))) (AM 10))
  (AS (Ai (mOp DK (AD 10) (AF Am (AB (AF AY (AB (mC (.str "get")) (AB (mC (.str "x")) AH))) (AB (AF AY (AB (mC (.str "get")) (AB (mC (.str "x")) (AB (mC (.str "nobox")) AH)))) (AB (AF AY (AB (mC (.str "get")) (AB (mC (.str "x")) (AB (mC .non) AH)))) (AB (AF AY (AB (mC (.str "get")) (AB (mC (.str "x")) (AB (AF Am (AB (mC (.str "b")) AH)) AH)))) (AB (AF AY (AB (mC (.str "let")) (AB (mC (.str "x")) AH))) AH))))))) (AM 10))
  (AS (Ai (mOp DK (AD 10) (AF Am (AB (AF AY (AB (mC (.str "let")) (AB (mC (.str "x")) (AB (AD 7) (AB (AD 7) AH))))) (AB (AF AY (AB (mC (.str "unless")) (AB (AD 7) AH))) (AB (AF AY (AB (mC (.str "unless")) (AB (AD 7) (AB (mC (.int 0)) (AB (mC (.int 0)) AH))))) (AB (AF AY (AB (mC (.str "tell")) AH)) (AB (AF AY (AB (mC (.str "done")) (AB (mC (.int 0)) AH))) AH))))))) (AM 10))
  (AS (EH (Ch HM (AD 10) (AB (AF AY (AB (mC (.str "tell")) (AB (AD 7) (AB (AD 7) AH)))) AH)))
  (AS (Ai (mOp DK (AD 10) (BE 1 [7] (CC (AF Am (AB (mUn Lq (mC (.int 1))) (AB (mOp A7 (AD 6) (mC (.int 1))) (AB (mC (.bl true)) (AB (mC (.bl false)) (AB (mC .non) (AB (mC (.str "0")) (AB (mOp Lp (mC (.int 10)) (mC (.int 30))) (AB (AF AY (AB (mC (.int 0)) AH)) AH)))))))))) (AM 0) BO (AF AY (AB (mC (.str "unless")) (AB (AD 1) (AB (AD 0) AH)))) Am)) (AM 10))
  (AS (Ai (mOp DK (AD 10) (BE 1 [] (CC (AF Am (AB (mUn Lq (mC (.int 1))) (AB (mOp A7 (AD 6) (mC (.int 1))) (AB (mC (.bl true)) (AB (mC (.bl false)) (AB (mC .non) (AB (mC (.str "0")) (AB (mOp Lp (mC (.int 10)) (mC (.int 30))) AH))))))))) (AM 0) BO (AF AY (AB (mC (.str "jump")) (AB (AD 0) AH))) Am)) (AM 10))
  (AS (Ai (mOp DK (AD 10) (BE 1 [7] (CC (AD 9)) (AM 0) BO (AF AY (AB (mC (.str "put")) (AB (AD 0) (AB (AD 1) AH)))) Am)) (AM 10))
  (AS (Ai (AF Am (AB (mC (.str "")) (AB (mC (.str "A")) (AB (mC (.str "not")) (AB (mC (.str "and")) (AB (mC (.str "or")) (AB (mC (.str "v")) (AB (mC .non) (AB (mC (.int 5)) (AB (mC (.str "abcdefghi")) (AB (AF Am (AB (mC (.str "x")) AH)) (AB (mC (.bl true)) AH)))))))))))) (AM 11))
  (AS (Ai (mOp DK (mOp Ih (AD 10) (BE 1 [7] (CC (AD 11)) (AM 0) BO (AF AY (AB (mC (.str "let")) (AB (AD 0) (AB (AD 1) AH)))) Am)) (BE 1 [9,8] (CC (AD 11)) (AM 0) BO (AF AY (AB (mC (.str "get")) (AB (AD 0) (AB (mOp AT (mOp A7 (AD 2) (AD 1)) (mC (.int 0))) AH)))) Am)) (AM 10))
  (AS (Ai (AF AY (AB (mC (.str "var")) (AB (mC (.str "v")) AH))) (AM 12))
  (AS (sIf (Ac (mOp BF (AD 2) (mC (.int 0)))) (BA (mOp Ih (AD 10) (AF Am (AB (AF AY (AB (mC (.str "tell")) (AB (AD 7) AH))) (AB (AF AY (AB (mC (.str "tell")) (AB (AD 12) AH))) AH))))) BT)
  (AS (Ai (mOp DK (AD 10) (AF Am (AB (AF AY (AB (mC (.str "done")) AH)) (AB (AF AY (AB (mC (.str "let")) (AB (mC (.str "x")) (AB (AD 12) AH)))) (AB (AF AY (AB (mC (.str "unless")) (AB (AF AY (AB (mC (.str "not")) (AB (AD 12) AH))) (AB (mC (.int 0)) AH)))) (AB (AF AY (AB (mC (.str "tell")) (AB (AF AY (AB (mC (.str "+")) (AB (AD 7) (AB (AD 12) AH)))) AH))) AH)))))) (AM 10))
  (BA (mOp Ih (AD 10) (BE 1 [12] (CC (AD 8)) (AM 0) BO (AF AY (AB (mC (.str "put")) (AB (AD 0) (AB (AD 1) AH)))) Am)))))))))))))))))))))
noncomputable def m_Lwith_row  : Sl->M (Fl×Sl):=
  (AS (Ai (mOp AT (mOp AT (AD 0) (mC (.int 4))) (AD 1)) (GN [4,5,6]))
  (AS (Ai (AF AY (AB (AD 4) (AB (AD 5) (AB (mOp A7 (mOp A7 (Ej (AD 6) Br (Bz (AD 2))) (AF AY (AB (AD 3) AH))) (Ej (AD 6) (Bz (mOp A7 (AD 2) (mC (.int 1)))) Br)) AH)))) (AM 7))
  (BA (mOp A7 (Ej (AD 0) Br (Bz (mC (.int 4)))) (AF AY (AB (mOp A7 (mOp A7 (Ej (mOp AT (AD 0) (mC (.int 4))) Br (Bz (AD 1))) (AF AY (AB (AD 7) AH))) (Ej (mOp AT (AD 0) (mC (.int 4))) (Bz (mOp A7 (AD 1) (mC (.int 1)))) Br)) AH))))))
noncomputable def m_Lotherwise(Z3:List D->M D)(cP:List D->M D)(cR:List D->M D):Sl->M (Fl×Sl):=
  (AS (sIf (Ac (mOp Ie (AF Z3 (AB (AD 0) (AB (mC (.int 3)) AH))) (mC (.int 0)))) (AS (Ai (AF cP (AB (AD 0) (AB (AD 1) (AB (AD 2) AH)))) (AM 3))
  (BA (mOp AT (AD 3) (AF Z3 (AB (AD 0) (AB (AF Bk (AB (AD 3) AH)) AH)))))) BT)
  (AS (Ai (AF cR (AB (AD 0) AH)) (AM 4))
  (AS (Ai (BE 1 [2,1] (CC (mOp AT (AD 1) (mC (.int 3)))) (AM 0) (Ac (mOp BF (mOp AT (AD 0) (mC (.int 4))) (mOp AT (mOp AT (mOp AT (AD 2) (mC (.int 4))) (AD 1)) (mC (.int 0))))) (mOp AT (AD 0) (mC (.int 0))) Am) (AM 5))
  (AS (Ai (mOp DK (AF Am (AB (AF AY (AB (mC (.str "let")) (AB (mC (.str "x")) (AB (AD 4) AH)))) (AB (AF AY (AB (mC (.str "unless")) (AB (AD 4) (AB (mC (.int 0)) AH)))) AH))) (BE 1 [4] (CC (AD 5)) (AM 0) BO (AF AY (AB (mC (.str "put")) (AB (AD 0) (AB (AD 1) AH)))) Am)) (AM 3))
  (AS (sIf (Ac (mOp Ie (AD 2) (mC (.int 0)))) (EH (Ch HM (AD 3) (AB (AF AY (AB (mC (.str "tell")) (AB (AD 4) AH))) AH))) BT)
  (BA (mOp AT (AD 3) (AF Z3 (AB (AD 0) (AB (AF Bk (AB (AD 3) AH)) AH))))))))))
noncomputable def Fj  : Sl->M (Fl×Sl):=
  (AS (sIf (Ac (mOp (G1 false) (mOp AT (AD 0) (mC (.int 0))) (AF AY (AB (mC (.str "unless")) (AB (mC (.str "jump")) AH))))) (BA (mOp A7 (Ej (AD 0) Br (Bz (mUn Lq (mC (.int 1))))) (AF AY (AB (mC (.int 0)) AH)))) BT)
  (BA (AD 0)))
noncomputable def m_Lrefused(aG:List D->M Dx):Sl->M (Fl×Sl):=
  (AS (Ai (mC (.bl false)) (AM 1))
  (AS (Vp (Ak (Al aG (AB (AD 0) AH))) 2 ["NoMaking"] (AS (Ai (L6 [("NoMaking",false)] (AD 2)) (AM 3))
  (Ai (DE (L6 [("NoMaking",true)] (AD 2)) (DE (L6 [("NoMaking",true)] (AD 2)) (L5 (AD 3)))) (AM 1))))
  (BA (AD 1))))
noncomputable def m_law(bL:List D->M D)(dL:List D->M D)(c5:List D->M D)(cz:List D->M D)(aG:List D->M Dx)(Z3:List D->M D)(bq:List D->M D)(bS:List D->M D)(cg:List D->M D)(aY:List D->M D):Sl->M (Fl×Sl):=
  (AS (Ai (AF c5 (AB (AF dL (AB (AF bL (AB (AD 0) (AB (mC (.int 0)) AH))) AH)) AH)) (GN [1,2,3,4,5]))
  (AS (sIf (Ac (mOp BF (AD 4) (AF AY AH))) (Ai (AF AY (AB (AF AY (AB (mC (.str "only")) (AB (mC (.str "steady")) (AB (mC (.int 4)) (AB (mC (.int 3)) (AB (mOp AT (mOp AT (AD 5) (mC (.int 1))) (mC (.int 0))) AH)))))) AH)) (AM 4)) BT)
  (AS (Ai (AF DH (AB (BE 3 [] (CC (AD 5)) (GN [0,1,2]) BO (AF AY (AB (AD 0) (AB (AD 1) (AB (Ej (mOp A7 (AD 2) (AF AY (AB (AF AY (AB (mC (.str "jump")) (AB (mC (.int 0)) AH))) AH))) Br (Bz (mC (.int 8)))) AH)))) Am) AH)) (AM 5))
  (AS (Ai (AF DH (AB (BE 3 [] (CC (AD 5)) (GN [0,1,2]) BO (AF AY (AB (AD 0) (AB (AD 1) (AB (AF DH (AB (BE 1 [] (CC (AD 2)) (AM 0) BO (AF cz (AB (AD 0) AH)) Am) AH)) AH)))) Am) AH)) (AM 5))
  (AS (Ai (AF AY (AB (AD 1) (AB (AD 2) (AB (AD 3) (AB (AD 4) (AB (AD 5) AH)))))) (AM 6))
  (AS (sIf (Ac (mOp (JY true) (AF (vals aG) (AB (AD 6) AH)) (mC .non))) (BA (mC (.bl false))) BT)
  (AS (Dv (CC (mOp A7 (AF Am (AB (AF bL (AB (AD 0) (AB (mC (.int 1)) AH))) AH)) (Ej (AD 0) (Bz (mC (.int 2))) (Bz (mC (.int 22)))))) (AM 7) (AS (Ai (AF dL (AB (AD 7) AH)) (AM 8))
  (AS (Ai (mOp DX (AF Z3 (AB (AD 8) (AB (AF Bk (AB (AD 5) AH)) AH))) (AF JA (AB (mOp Ie (AF Z3 (AB (AD 8) (AB (mC (.int 3)) AH))) (mC (.int 0))) AH))) (AM 9))
  (AS (Ai (AF Z3 (AB (AD 8) (AB (AF Bk (AB (mOp AT (mOp AT (AD 5) (AD 9)) (mC (.int 2))) AH)) AH))) (AM 10))
  (sIf (M8 (Ac (AF cg (AB (AF bS (AB (AD 6) (AB (AD 9) (AB (AD 10) (AB (AF bq (AB (AD 8) (AB (AD 6) (AB (AD 9) AH)))) AH))))) AH)))) (BA (mC (.bl false))) BT)))))
  (AS (Ai (AF aY (AB (mOp AT (AF Am (AB (mC (.str "not")) (AB (mC (.str "+")) (AB (mC (.str "or")) (AB (mC (.str "<")) AH))))) (mOp FT (AF bL (AB (AD 0) (AB (mC (.int 1)) AH))) (mC (.int 4)))) (AB (mC (.int 4)) AH))) (AM 11))
  (BA (DE (mOp (JY false) (AF (vals aG) (AB (AF bS (AB (AD 6) (AB (mC (.int 1)) (AB (mC (.int 0)) (AB (AF AY (AB (mC (.str "tell")) (AB (AD 11) AH))) AH))))) AH)) (mC .non)) (mOp (JY false) (AF (vals aG) (AB (AD 6) AH)) (mC .non))))))))))))
noncomputable def top(i:Nat):Stmt:=PySem.Challenge.pw_strongboxes_k04_rows_that_are_none.main.body.getD i (.Pass ⟨0,0,0,0⟩)
section
variable{P:Program}{w:World}{K:PySem.W.Frag}{mg:Str->Option Value}{base:Heap}
noncomputable abbrev Dq:Stmt:=top 15
theorem sc_is_whole:Aj ["thing", "least", "most"] ["thing", "least", "most"] (AK Dq):=⟨rfl,rfl,rfl,by decide +kernel,rfl,by decide +kernel,by decide +kernel⟩
theorem Mu{k:Nat}{f:Addr}(cQ:mg "int" = none)(aB:mg "isinstance" = none)(fe:mg "bool" = none)(cdv:Value)(A:Around)(outer:List Env)(s:Shared)(H:Hp)(E:XK)(hr:Room k (A.deeper (PyProof.Rows.envOfC "is_whole" (AK Dq) s.heap.objs.size f cdv))):
  RSs (BY CX0 P w K mg base ["thing", "least", "most"] "is_whole" (AK Dq) f cdv A outer s H E).nox (Af Dq) (D4):=by
 have nd:=sc_is_whole.nd;exact(AU (Aq (Dc (Ao HJ aB Mi.BD (AA (AC 0) (AA (E7 cQ Mi.Gq) AE))) (Dc (Qz (Ao HJ aB Mi.BD (AA (AC 0) (AA (E7 fe Mi.Px) AE)))) (Ez (IX O7 O7 (AC 1) (AC 0) (AC 2)))))))
noncomputable abbrev Ee:Stmt:=top 16
theorem sc_is_name:Aj ["thing"] ["thing"] (AK Ee):=⟨rfl,rfl,rfl,by decide +kernel,rfl,by decide +kernel,by decide +kernel⟩
theorem Ov{k:Nat}{f:Addr}(eK:mg "str" = none)(aB:mg "isinstance" = none)(aA:mg "len" = none)(f7:mg "all" = none)(cT:Glo K mg "LETTERS" Ek)(cdv:Value)(A:Around)(outer:List Env)(s:Shared)(H:Hp)(E:XK)(hr:Room k (A.deeper (PyProof.Rows.envOfC "is_name" (AK Ee) s.heap.objs.size f cdv))):
  RSs (BY CX0 P w K mg base ["thing"] "is_name" (AK Ee) f cdv A outer s H E).nox (Af Ee) (Ei):=by
 have nd:=sc_is_name.nd;exact(AU (Aq (Dc (Ao HJ aB Mi.BD (AA (AC 0) (AA (E7 eK Mi.MT) AE))) (Dc (IX O7 O7 AG (Ao CU aA Mi.A5 (AA (AC 0) AE)) AG) (Ez (Ao (ZG rfl) f7 Mi.Si (AA (CY (tgs:=["sign"]) (ix:=[]) (i:=0) (n:=1) ⟨rfl,by decide +kernel,by decide +kernel,trivial,rfl,by decide +kernel⟩ rfl (V1 (AC 0)) (λ_ _ _ _=>Ah (i:=0) (show List.Nodup (["sign"]:List Str) from by decide +kernel) rfl (Or.inl rfl)) (λ_ _ _ _=>Bn) (λ_ _ _ _=>(CB Wp (AC 0) (Eh cT)))) AE)))))))
noncomputable abbrev B6:Stmt:=top 17
theorem sc_is_expression:Aj ["thing", "deep", "word"] ["thing", "deep"] (AK B6):=⟨rfl,rfl,rfl,by decide +kernel,rfl,by decide +kernel,by decide +kernel⟩
theorem HX{aE:List D->M D}{ai:Nat}{aC:List D->M D}{aP:Nat}{aD:List D->M D}{aV:Nat}{k:Nat}{f:Addr}(aS:Fn P w K mg base "is_expression" ["thing", "deep"] ai aE)(ac:ai<=k)(aL:Fn P w K mg base "is_whole" ["thing", "least", "most"] aP aC)(aZ:aP<=k)(aU:Fn P w K mg base "is_name" ["thing"] aV aD)(au:aV<=k)(aT:mg "tuple" = none)(aB:mg "isinstance" = none)(aA:mg "len" = none)(bG:Glo K mg "PAIR_WORDS" FE)(bo:Glo K mg "GREATEST" GL)(cdv:Value)(A:Around)(outer:List Env)(s:Shared)(H:Hp)(E:XK)(hr:Room k (A.deeper (PyProof.Rows.envOfC "is_expression" (AK B6) s.heap.objs.size f cdv))):
  RSs (BY CX0 P w K mg base ["thing", "deep", "word"] "is_expression" (AK B6) f cdv A outer s H E).nox (Af B6) (m_is_expression aE aC aD):=by
 have nd:=sc_is_expression.nd;exact(AL (Bg (RW.rt (Nq (Au O6 (AC 1) AG) (Nq (Mq (Kb (Ao HJ aB Mi.BD (AA (AC 0) (AA (E7 aT Mi.CV) AE))))) (Mp (Au (Cm hr) (Ao CU aA Mi.A5 (AA (AC 0) AE)) AG))))) (AU (Aq FS)) Az)
   (AL (AW 2 nd (AV Ap (AC 0) AG))
   (AL (Bg (Au (Re hr) (AC 2) (Eh bG)) (AU (Aq (Dc (CB (Cm hr) (Ao CU aA Mi.A5 (AA (AC 0) AE)) AG) (Dc (Aa (hkj:=ac) aS hr (AA (AV Ap (AC 0) AG) (AA (Ae Fz (AC 1) AG) AE))) (Ez (Aa (hkj:=ac) aS hr (AA (AV Ap (AC 0) AG) (AA (Ae Fz (AC 1) AG) AE)))))))) Az)
   (AL (Bg (Au (Ly hr) (Ao CU aA Mi.A5 (AA (AC 0) AE)) AG) (AU (Aq FS)) Az)
   (AL (Bg (Au (Cm hr) (AC 2) AI) (AU (Aq (Aa (hkj:=aZ) aL hr (AA (AV Ap (AC 0) AG) (AA AG (AA (Eh bo) AE)))))) Az)
   (AL (Bg (Au (Cm hr) (AC 2) AI) (AU (Aq (Aa (hkj:=au) aU hr (AA (AV Ap (AC 0) AG) AE)))) Az)
   (AU (Aq (Dc (CB (Cm hr) (AC 2) AI) (Ez (Aa (hkj:=ac) aS hr (AA (AV Ap (AC 0) AG) (AA (Ae Fz (AC 1) AG) AE)))))))))))))
noncomputable abbrev CK:Stmt:=top 18
theorem sc_variables_in:Aj ["expression", "names", "part"] ["expression"] (AK CK):=⟨rfl,rfl,rfl,by decide +kernel,rfl,by decide +kernel,by decide +kernel⟩
theorem IZ{aK:List D->M D}{ao:Nat}{k:Nat}{f:Addr}(aq:Fn P w K mg base "variables_in" ["expression"] ao aK)(bd:ao<=k)(cdv:Value)(A:Around)(outer:List Env)(s:Shared)(H:Hp)(E:XK)(hr:Room k (A.deeper (PyProof.Rows.envOfC "variables_in" (AK CK) s.heap.objs.size f cdv))):
  RSs (BY CX0 P w K mg base ["expression", "names", "part"] "variables_in" (AK CK) f cdv A outer s H E).nox (Af CK) (A8 aK):=by
 have nd:=sc_variables_in.nd;exact(AL (Bg (Au (Cm hr) (AV Ap (AC 0) AG) AI) (AU (Aq (Ax AE))) Az)
   (AL (Bg (Au (Cm hr) (AV Ap (AC 0) AG) AI) (AU (Aq (Ax (AA (AV Ap (AC 0) AG) AE)))) Az)
   (AL (AW 1 nd (Fh AE))
   (AL (Gz PassesOwn.never rfl (Bh (U9 (AC 0) (Bt AG) CF)) (Di 2 nd) (AU (Ey (Dy PySem.F.slot_list_extend PySem.F.type_list_extend L4 (AC 1) (AA (Aa (hkj:=bd) aq hr (AA (AC 2) AE)) AE)))))
   (AU (Aq (AC 1)))))))
noncomputable abbrev Dr:Stmt:=top 32
theorem sc_is_tuple:Aj ["thing", "least", "most"] ["thing", "least", "most"] (AK Dr):=⟨rfl,rfl,rfl,by decide +kernel,rfl,by decide +kernel,by decide +kernel⟩
theorem Mv{k:Nat}{f:Addr}(aT:mg "tuple" = none)(aB:mg "isinstance" = none)(aA:mg "len" = none)(cdv:Value)(A:Around)(outer:List Env)(s:Shared)(H:Hp)(E:XK)(hr:Room k (A.deeper (PyProof.Rows.envOfC "is_tuple" (AK Dr) s.heap.objs.size f cdv))):
  RSs (BY CX0 P w K mg base ["thing", "least", "most"] "is_tuple" (AK Dr) f cdv A outer s H E).nox (Af Dr) (D5):=by
 have nd:=sc_is_tuple.nd;exact(AU (Aq (Dc (Ao HJ aB Mi.BD (AA (AC 0) (AA (E7 aT Mi.CV) AE))) (Ez (IX O7 O7 (AC 1) (Ao CU aA Mi.A5 (AA (AC 0) AE)) (AC 2))))))
noncomputable abbrev Ed:Stmt:=top 39
theorem sc_is_part:Aj ["part", "thing", "length"] ["part", "thing", "length"] (AK Ed):=⟨rfl,rfl,rfl,by decide +kernel,rfl,by decide +kernel,by decide +kernel⟩
theorem Ou{aE:List D->M D}{ai:Nat}{aC:List D->M D}{aP:Nat}{aD:List D->M D}{aV:Nat}{k:Nat}{f:Addr}(aS:Fn P w K mg base "is_expression" ["thing", "deep"] ai aE)(ac:ai<=k)(aL:Fn P w K mg base "is_whole" ["thing", "least", "most"] aP aC)(aZ:aP<=k)(aU:Fn P w K mg base "is_name" ["thing"] aV aD)(au:aV<=k)(cV:Glo K mg "DEEPEST" HF)(cdv:Value)(A:Around)(outer:List Env)(s:Shared)(H:Hp)(E:XK)(hr:Room k (A.deeper (PyProof.Rows.envOfC "is_part" (AK Ed) s.heap.objs.size f cdv))):
  RSs (BY CX0 P w K mg base ["part", "thing", "length"] "is_part" (AK Ed) f cdv A outer s H E).nox (Af Ed) (m_is_part aE aC aD):=by
 have nd:=sc_is_part.nd;exact(AL (Bg (Au (Cm hr) (AC 0) AI) (AU (Aq (Aa (hkj:=ac) aS hr (AA (AC 1) (AA (Eh cV) AE))))) Az)
   (AL (Bg (Au (Cm hr) (AC 0) AI) (AU (Aq (Aa (hkj:=aZ) aL hr (AA (AC 1) (AA AG (AA (AC 2) AE)))))) Az)
   (AU (Aq (Aa (hkj:=au) aU hr (AA (AC 1) AE))))))
noncomputable abbrev CJ:Stmt:=top 42
theorem sc_variables_of:Aj ["row", "names", "part", "thing"] ["row"] (AK CJ):=⟨rfl,rfl,rfl,by decide +kernel,rfl,by decide +kernel,by decide +kernel⟩
theorem IY{aK:List D->M D}{ao:Nat}{k:Nat}{f:Addr}(aq:Fn P w K mg base "variables_in" ["expression"] ao aK)(bd:ao<=k)(eJ:mg "zip" = none)(bR:P4 w K mg "PARTS" BL)(cdv:Value)(A:Around)(outer:List Env)(s:Shared)(H:Hp)(E:XK)(hr:Room k (A.deeper (PyProof.Rows.envOfC "variables_of" (AK CJ) s.heap.objs.size f cdv))):
  RSs (BY CX0 P w K mg base ["row", "names", "part", "thing"] "variables_of" (AK CJ) f cdv A outer s H E).nox (Af CJ) (A1 aK):=by
 have nd:=sc_variables_of.nd;exact(AL (AW 1 nd (Fh AE))
   (AL (Gz PassesOwn.never rfl (Nu eJ (AA (Ny bR (AV Ap (AC 0) AG)) (AA (U9 (AC 0) (Bt AG) CF) AE))) (GA (is:=[2,3]) rfl (A0 (Ah (i:=2) nd rfl (by first|exact Or.inl rfl|exact Or.inr rfl)) (A0 (Ah (i:=3) nd rfl (by first|exact Or.inl rfl|exact Or.inr rfl)) Dj))) (AL (Bg (Au (Cm hr) (AC 2) AI) (AU (Ey (Dy PySem.F.slot_list_append PySem.F.type_list_append FY (AC 1) (AA (AC 3) AE)))) Az)
   (AU (Bg (Au (Cm hr) (AC 2) AI) (AU (Ey (Dy PySem.F.slot_list_extend PySem.F.type_list_extend L4 (AC 1) (AA (Aa (hkj:=bd) aq hr (AA (AC 3) AE)) AE)))) Az))))
   (AU (Aq (AC 1)))))
noncomputable abbrev C5:Stmt:=top 36
theorem sc_are_unlike:Aj ["names"] ["names"] (AK C5):=⟨rfl,rfl,rfl,by decide +kernel,rfl,by decide +kernel,by decide +kernel⟩
theorem Kd{k:Nat}{f:Addr}(aA:mg "len" = none)(gC:mg "set" = none)(cdv:Value)(A:Around)(outer:List Env)(s:Shared)(H:Hp)(E:XK)(hr:Room k (A.deeper (PyProof.Rows.envOfC "are_unlike" (AK C5) s.heap.objs.size f cdv))):
  RSs (BY CX0 P w K mg base ["names"] "are_unlike" (AK C5) f cdv A outer s H E).nox (Af C5) (Ca):=by
 have nd:=sc_are_unlike.nd;exact(AU (Aq (CB (Cm hr) (Op aA gC (AC 0)) (Ao CU aA Mi.A5 (AA (AC 0) AE)))))
noncomputable abbrev GT:Stmt:=top 31
theorem sc_needX:Aj ["holds", "words"] ["holds", "words"] (AK GT):=⟨rfl,rfl,rfl,by decide +kernel,rfl,by decide +kernel,by decide +kernel⟩
theorem Ti{bP:Addr}{k:Nat}{f:Addr}(mc_NoMaking:mg "NoMaking" = some (.ref bP))(ec_NoMaking:Ec K "NoMaking" bP)(cdv:Value)(A:Around)(outer:List Env)(s:Shared)(H:Hp)(E:XK)(hr:Room k (A.deeper (PyProof.Rows.envOfC "need" (AK GT) s.heap.objs.size f cdv))):
  XSs (BY CX0 P w K mg base ["holds", "words"] "need" (AK GT) f cdv A outer s H E).nox (Af GT) (FB):=by
 have nd:=sc_needX.nd;exact(BH (LN (Mq (Kb (AC 0))) (BH (P7 ec_NoMaking mc_NoMaking (AA (AC 1) AE))) He))
noncomputable abbrev B7:Stmt:=top 33
theorem sc_check_worthsX:Aj ["kind", "size", "begin"] ["kind", "size", "begin"] (AK B7):=⟨rfl,rfl,rfl,by decide +kernel,rfl,by decide +kernel,by decide +kernel⟩
theorem HY{Z4:List D->M Dx}{aH:Nat}{aC:List D->M D}{aP:Nat}{k:Nat}{f:Addr}(Z7:FnX P w K mg base "need" ["holds", "words"] aH Z4)(Z9:aH<=k)(aL:Fn P w K mg base "is_whole" ["thing", "least", "most"] aP aC)(aZ:aP<=k)(dR:Glo K mg "KINDS" Ho)(bK:Glo K mg "LEAST_SIZE" Do)(bU:Glo K mg "MOST_SIZE" EK)(cdv:Value)(A:Around)(outer:List Env)(s:Shared)(H:Hp)(E:XK)(hr:Room k (A.deeper (PyProof.Rows.envOfC "check_worths" (AK B7) s.heap.objs.size f cdv))):
  XSs (BY CX0 P w K mg base ["kind", "size", "begin"] "check_worths" (AK B7) f cdv A outer s H E).nox (Af B7) (BW Z4 aC):=by
 have nd:=sc_check_worthsX.nd;exact(Ar (As (BM (hkj:=Z9) Z7 hr (AA (CB (Re hr) (AC 0) (Eh dR)) (AA AI AE))))
   (Ar (As (BM (hkj:=Z9) Z7 hr (AA (Aa (hkj:=aZ) aL hr (AA (AC 1) (AA (Eh bK) (AA (Eh bU) AE)))) (AA AI AE))))
   (BH (As (BM (hkj:=Z9) Z7 hr (AA (Aa (hkj:=aZ) aL hr (AA (AC 2) (AA AG (AA (Ae Fz (AC 1) AG) AE)))) (AA AI AE)))))))
noncomputable abbrev CM:Stmt:=top 34
theorem sc_check_boxesX:Aj ["boxes", "box"] ["boxes"] (AK CM):=⟨rfl,rfl,rfl,by decide +kernel,rfl,by decide +kernel,by decide +kernel⟩
theorem Ib{Z4:List D->M Dx}{aH:Nat}{Z8:List D->M D}{aQ:Nat}{aD:List D->M D}{aV:Nat}{aF:List D->M Dx}{aj:Nat}{aI:List D->M D}{bH:Nat}{k:Nat}{f:Addr}(Z7:FnX P w K mg base "need" ["holds", "words"] aH Z4)(Z9:aH<=k)(aJ:Fn P w K mg base "is_tuple" ["thing", "least", "most"] aQ Z8)(aO:aQ<=k)(aU:Fn P w K mg base "is_name" ["thing"] aV aD)(au:aV<=k)(aW:FnX P w K mg base "check_worths" ["kind", "size", "begin"] aj aF)(bY:aj<=k)(ak:Fn P w K mg base "are_unlike" ["names"] bH aI)(cZ:bH<=k)(bJ:Glo K mg "MOST_BOXES" Dm)(cdv:Value)(A:Around)(outer:List Env)(s:Shared)(H:Hp)(E:XK)(hr:Room k (A.deeper (PyProof.Rows.envOfC "check_boxes" (AK CM) s.heap.objs.size f cdv))):
  XSs (BY CX0 P w K mg base ["boxes", "box"] "check_boxes" (AK CM) f cdv A outer s H E).nox (Af CM) (Bj Z4 Z8 aD aF aI):=by
 have nd:=sc_check_boxesX.nd;exact(Ar (As (BM (hkj:=Z9) Z7 hr (AA (Aa (hkj:=aO) aJ hr (AA (AC 0) (AA AG (AA (Eh bJ) AE)))) (AA AI AE))))
   (Ar (F3 (Bh (AC 0)) (Di 1 nd) (Ar (As (BM (hkj:=Z9) Z7 hr (AA (Aa (hkj:=aO) aJ hr (AA (AC 1) (AA AG (AA AG AE)))) (AA AI AE))))
   (Ar (As (BM (hkj:=Z9) Z7 hr (AA (Aa (hkj:=au) aU hr (AA (AV Ap (AC 1) AG) AE)) (AA AI AE))))
   (BH (As (BM (hkj:=bY) aW hr (AA (AV Ap (AC 1) AG) (AA (AV Ap (AC 1) AG) (AA (AV Ap (AC 1) AG) AE)))))))))
   (BH (As (BM (hkj:=Z9) Z7 hr (AA (Aa (hkj:=cZ) ak hr (AA (CY (tgs:=["box"]) (ix:=[]) (i:=0) (n:=1) ⟨rfl,by decide +kernel,by decide +kernel,trivial,rfl,by decide +kernel⟩ rfl (Bh (AC 0)) (λ_ _ _ _=>Ah (i:=0) (show List.Nodup (["box"]:List Str) from by decide +kernel) rfl (Or.inl rfl)) (λ_ _ _ _=>Bn) (λ_ _ _ _=>(AV Ap (AC 0) AG))) AE)) (AA AI AE)))))))
noncomputable abbrev CL:Stmt:=top 35
theorem sc_check_handsX:Aj ["hands", "hand"] ["hands"] (AK CL):=⟨rfl,rfl,rfl,by decide +kernel,rfl,by decide +kernel,by decide +kernel⟩
theorem Ia{Z4:List D->M Dx}{aH:Nat}{Z8:List D->M D}{aQ:Nat}{aD:List D->M D}{aV:Nat}{aC:List D->M D}{aP:Nat}{aI:List D->M D}{bH:Nat}{k:Nat}{f:Addr}(Z7:FnX P w K mg base "need" ["holds", "words"] aH Z4)(Z9:aH<=k)(aJ:Fn P w K mg base "is_tuple" ["thing", "least", "most"] aQ Z8)(aO:aQ<=k)(aU:Fn P w K mg base "is_name" ["thing"] aV aD)(au:aV<=k)(aL:Fn P w K mg base "is_whole" ["thing", "least", "most"] aP aC)(aZ:aP<=k)(ak:Fn P w K mg base "are_unlike" ["names"] bH aI)(cZ:bH<=k)(aw:Glo K mg "LEAST_HANDS" DS)(bD:Glo K mg "MOST_HANDS" Dl)(av:Glo K mg "MOST_WITHIN" DR)(bT:Glo K mg "MOST_ROWS" EL)(cdv:Value)(A:Around)(outer:List Env)(s:Shared)(H:Hp)(E:XK)(hr:Room k (A.deeper (PyProof.Rows.envOfC "check_hands" (AK CL) s.heap.objs.size f cdv))):
  XSs (BY CX0 P w K mg base ["hands", "hand"] "check_hands" (AK CL) f cdv A outer s H E).nox (Af CL) (Bi Z4 Z8 aD aC aI):=by
 have nd:=sc_check_handsX.nd;exact(Ar (As (BM (hkj:=Z9) Z7 hr (AA (Aa (hkj:=aO) aJ hr (AA (AC 0) (AA (Eh aw) (AA (Eh bD) AE)))) (AA AI AE))))
   (Ar (F3 (Bh (AC 0)) (Di 1 nd) (Ar (As (BM (hkj:=Z9) Z7 hr (AA (Aa (hkj:=aO) aJ hr (AA (AC 1) (AA AG (AA AG AE)))) (AA AI AE))))
   (Ar (As (BM (hkj:=Z9) Z7 hr (AA (Aa (hkj:=au) aU hr (AA (AV Ap (AC 1) AG) AE)) (AA AI AE))))
   (Ar (As (BM (hkj:=Z9) Z7 hr (AA (Aa (hkj:=aZ) aL hr (AA (AV Ap (AC 1) AG) (AA AG (AA (Eh av) AE)))) (AA AI AE))))
   (BH (As (BM (hkj:=Z9) Z7 hr (AA (Aa (hkj:=aO) aJ hr (AA (AV Ap (AC 1) AG) (AA AG (AA (Eh bT) AE)))) (AA AI AE)))))))))
   (BH (As (BM (hkj:=Z9) Z7 hr (AA (Aa (hkj:=cZ) ak hr (AA (CY (tgs:=["hand"]) (ix:=[]) (i:=0) (n:=1) ⟨rfl,by decide +kernel,by decide +kernel,trivial,rfl,by decide +kernel⟩ rfl (Bh (AC 0)) (λ_ _ _ _=>Ah (i:=0) (show List.Nodup (["hand"]:List Str) from by decide +kernel) rfl (Or.inl rfl)) (λ_ _ _ _=>Bn) (λ_ _ _ _=>(AV Ap (AC 0) AG))) AE)) (AA AI AE)))))))
noncomputable abbrev B9:Stmt:=top 40
theorem sc_check_endingX:Aj ["word", "is_writer"] ["word", "is_writer"] (AK B9):=⟨rfl,rfl,rfl,by decide +kernel,rfl,by decide +kernel,by decide +kernel⟩
theorem Ha{Z4:List D->M Dx}{aH:Nat}{k:Nat}{f:Addr}(Z7:FnX P w K mg base "need" ["holds", "words"] aH Z4)(Z9:aH<=k)(cdv:Value)(A:Around)(outer:List Env)(s:Shared)(H:Hp)(E:XK)(hr:Room k (A.deeper (PyProof.Rows.envOfC "check_ending" (AK B9) s.heap.objs.size f cdv))):
  XSs (BY CX0 P w K mg base ["word", "is_writer"] "check_ending" (AK B9) f cdv A outer s H E).nox (Af B9) (m_check_endingX Z4):=by
 have nd:=sc_check_endingX.nd;exact(BH (LN (Kb (AC 1)) (BH (As (BM (hkj:=Z9) Z7 hr (AA (CB (Ly hr) (AC 0) AI) (AA AI AE))))) (BH (As (BM (hkj:=Z9) Z7 hr (AA (CB (Ly hr) (AC 0) AI) (AA AI AE)))))))
noncomputable abbrev Ck:Stmt:=top 38
theorem sc_check_formX:Aj ["row", "length", "parts", "part", "thing"] ["row", "length"] (AK Ck):=⟨rfl,rfl,rfl,by decide +kernel,rfl,by decide +kernel,by decide +kernel⟩
theorem JX{Z4:List D->M Dx}{aH:Nat}{Z8:List D->M D}{aQ:Nat}{cy:List D->M D}{fR:Nat}{k:Nat}{f:Addr}(Z7:FnX P w K mg base "need" ["holds", "words"] aH Z4)(Z9:aH<=k)(aJ:Fn P w K mg base "is_tuple" ["thing", "least", "most"] aQ Z8)(aO:aQ<=k)(dy:Fn P w K mg base "is_part" ["part", "thing", "length"] fR cy)(f9:fR<=k)(eK:mg "str" = none)(aB:mg "isinstance" = none)(aA:mg "len" = none)(eJ:mg "zip" = none)(bR:P4 w K mg "PARTS" BL)(cdv:Value)(A:Around)(outer:List Env)(s:Shared)(H:Hp)(E:XK)(hr:Room k (A.deeper (PyProof.Rows.envOfC "check_form" (AK Ck) s.heap.objs.size f cdv))):
  XSs (BY CX0 P w K mg base ["row", "length", "parts", "part", "thing"] "check_form" (AK Ck) f cdv A outer s H E).nox (Af Ck) (m_check_formX Z4 Z8 cy):=by
 have nd:=sc_check_formX.nd;exact(Ar (As (BM (hkj:=Z9) Z7 hr (AA (Aa (hkj:=aO) aJ hr (AA (AC 0) (AA AG (AA AG AE)))) (AA AI AE))))
   (Ar (As (BM (hkj:=Z9) Z7 hr (AA (Dc (Ao HJ aB Mi.BD (AA (AV Ap (AC 0) AG) (AA (E7 eK Mi.MT) AE))) (Ez (V3 bR (AV Ap (AC 0) AG)))) (AA AI AE))))
   (Ar (Hf (AW 2 nd (Ny bR (AV Ap (AC 0) AG))))
   (Ar (As (BM (hkj:=Z9) Z7 hr (AA (CB (Cm hr) (Ao CU aA Mi.A5 (AA (AC 0) AE)) (Ae Bb AG (Ao CU aA Mi.A5 (AA (AC 2) AE)))) (AA AI AE))))
   (BH (F3 (Nu eJ (AA (AC 2) (AA (DI (AC 0) (Bt AG) CF) AE))) (GA (is:=[3,4]) rfl (A0 (Ah (i:=3) nd rfl (by first|exact Or.inl rfl|exact Or.inr rfl)) (A0 (Ah (i:=4) nd rfl (by first|exact Or.inl rfl|exact Or.inr rfl)) Dj))) (BH (As (BM (hkj:=Z9) Z7 hr (AA (Aa (hkj:=f9) dy hr (AA (AC 3) (AA (AC 4) (AA (AC 1) AE)))) (AA (Oq (Nt AI (Nt (V6 (AC 3)) V0))) AE)))))))))))
noncomputable abbrev Bf:Stmt:=top 41
theorem sc_check_variablesX:Aj ["row", "is_writer", "name"] ["row", "is_writer"] (AK Bf):=⟨rfl,rfl,rfl,by decide +kernel,rfl,by decide +kernel,by decide +kernel⟩
theorem GB{bO:List D->M D}{dM:Nat}{Z4:List D->M Dx}{aH:Nat}{k:Nat}{f:Addr}(cJ:Fn P w K mg base "variables_of" ["row"] dM bO)(el:dM<=k)(Z7:FnX P w K mg base "need" ["holds", "words"] aH Z4)(Z9:aH<=k)(al:Glo K mg "NO_VARIABLES" EA)(cdv:Value)(A:Around)(outer:List Env)(s:Shared)(H:Hp)(E:XK)(hr:Room k (A.deeper (PyProof.Rows.envOfC "check_variables" (AK Bf) s.heap.objs.size f cdv))):
  XSs (BY CX0 P w K mg base ["row", "is_writer", "name"] "check_variables" (AK Bf) f cdv A outer s H E).nox (Af Bf) (m_check_variablesX bO Z4):=by
 have nd:=sc_check_variablesX.nd;exact(Ar (F3 (Bh (Aa (hkj:=el) cJ hr (AA (AC 0) AE))) (Di 2 nd) (Ar (As (BM (hkj:=Z9) Z7 hr (AA (CB UF (AC 2) (Eh al)) (AA AI AE))))
   (BH (As (BM (hkj:=Z9) Z7 hr (AA (YI (AC 1) (Ez (CB (Ly hr) (AC 2) AI))) (AA AI AE)))))))
   (BH (LN (Au Wp (AV Ap (AC 0) AG) (AO (AA AI (AA AI AE)))) (BH (As (BM (hkj:=Z9) Z7 hr (AA (CB (Ly hr) (AV Ap (AC 0) AG) AI) (AA AI AE))))) He)))
noncomputable abbrev Cj:Stmt:=top 37
theorem sc_check_rowsX:Aj ["hand", "is_writer", "writers", "row"] ["hand", "is_writer", "writers"] (AK Cj):=⟨rfl,rfl,rfl,by decide +kernel,rfl,by decide +kernel,by decide +kernel⟩
theorem JW{bX:List D->M Dx}{dj:Nat}{a0:List D->M Dx}{c7:Nat}{af:List D->M Dx}{cU:Nat}{Z4:List D->M Dx}{aH:Nat}{k:Nat}{f:Addr}(cY:FnX P w K mg base "check_form" ["row", "length"] dj bX)(fP:dj<=k)(bt:FnX P w K mg base "check_ending" ["word", "is_writer"] c7 a0)(eW:c7<=k)(bB:FnX P w K mg base "check_variables" ["row", "is_writer"] cU af)(dl:cU<=k)(Z7:FnX P w K mg base "need" ["holds", "words"] aH Z4)(Z9:aH<=k)(aA:mg "len" = none)(cdv:Value)(A:Around)(outer:List Env)(s:Shared)(H:Hp)(E:XK)(hr:Room k (A.deeper (PyProof.Rows.envOfC "check_rows" (AK Cj) s.heap.objs.size f cdv))):
  XSs (BY CX0 P w K mg base ["hand", "is_writer", "writers", "row"] "check_rows" (AK Cj) f cdv A outer s H E).nox (Af Cj) (m_check_rowsX bX a0 af Z4):=by
 have nd:=sc_check_rowsX.nd;exact(BH (F3 (Bh (AV Ap (AC 0) AG)) (Di 3 nd) (Ar (As (BM (hkj:=fP) cY hr (AA (AC 3) (AA (Ao CU aA Mi.A5 (AA (AV Ap (AC 0) AG) AE)) AE))))
   (Ar (As (BM (hkj:=eW) bt hr (AA (AV Ap (AC 3) AG) (AA (AC 1) AE))))
   (Ar (As (BM (hkj:=dl) bB hr (AA (AC 3) (AA (AC 1) AE))))
   (Ar (LN (Au (Cm hr) (AV Ap (AC 3) AG) AI) (BH (As (BM (hkj:=Z9) Z7 hr (AA (CB (Cm hr) (Q0 hr (AC 2) (AV Ap (AC 3) AG)) (AV Ap (AC 0) AG)) (AA AI AE))))) He)
   (BH (LN (Au (Cm hr) (AV Ap (AC 3) AG) AI) (BH (As (BM (hkj:=Z9) Z7 hr (AA (V7 hr (AV Ap (AC 3) AG) (AC 2)) (AA AI AE))))) He))))))))
noncomputable abbrev B8:Stmt:=top 30
theorem sc_check_makingX:Aj ["making", "hand_names", "writers", "box", "number", "hand"] ["making"] (AK B8):=⟨rfl,rfl,rfl,by decide +kernel,rfl,by decide +kernel,by decide +kernel⟩
theorem HZ{Z4:List D->M Dx}{aH:Nat}{Z8:List D->M D}{aQ:Nat}{aF:List D->M Dx}{aj:Nat}{bM:List D->M Dx}{dJ:Nat}{bQ:List D->M Dx}{dO:Nat}{bV:List D->M Dx}{dk:Nat}{k:Nat}{f:Addr}(Z7:FnX P w K mg base "need" ["holds", "words"] aH Z4)(Z9:aH<=k)(aJ:Fn P w K mg base "is_tuple" ["thing", "least", "most"] aQ Z8)(aO:aQ<=k)(aW:FnX P w K mg base "check_worths" ["kind", "size", "begin"] aj aF)(bY:aj<=k)(cO:FnX P w K mg base "check_boxes" ["boxes"] dJ bM)(et:dJ<=k)(cH:FnX P w K mg base "check_hands" ["hands"] dO bQ)(eY:dO<=k)(cW:FnX P w K mg base "check_rows" ["hand", "is_writer", "writers"] dk bV)(fI:dk<=k)(az:mg "enumerate" = none)(cdv:Value)(A:Around)(outer:List Env)(s:Shared)(H:Hp)(E:XK)(hr:Room k (A.deeper (PyProof.Rows.envOfC "check_making" (AK B8) s.heap.objs.size f cdv))):
  XSs (BY CX0 P w K mg base ["making", "hand_names", "writers", "box", "number", "hand"] "check_making" (AK B8) f cdv A outer s H E).nox (Af B8) (m_check_makingX Z4 Z8 aF bM bQ bV):=by
 have nd:=sc_check_makingX.nd;exact(Ar (As (BM (hkj:=Z9) Z7 hr (AA (Aa (hkj:=aO) aJ hr (AA (AC 0) (AA AG (AA AG AE)))) (AA AI AE))))
   (Ar (As (BM (hkj:=bY) aW hr (AA (AV Ap (AC 0) AG) (AA (AV Ap (AC 0) AG) (AA (AV Ap (AC 0) AG) AE)))))
   (Ar (As (BM (hkj:=et) cO hr (AA (AV Ap (AC 0) AG) AE)))
   (Ar (As (BM (hkj:=eY) cH hr (AA (AV Ap (AC 0) AG) AE)))
   (Ar (Hf (F9 1 (tgs:=["hand"]) (ix:=[]) (i:=0) (n:=1) nd ⟨rfl,by decide +kernel,by decide +kernel,trivial,rfl,by decide +kernel⟩ rfl (Bh (AV Ap (AC 0) AG)) (λ_ _ _ _=>Ah (i:=0) (show List.Nodup (["hand"]:List Str) from by decide +kernel) rfl (Or.inl rfl)) (λ_ _ _ _=>Bn) (λ_ _ _ _=>(AV Ap (AC 0) AG)) (λ_ _ _ _ _ _ _ _ R i e q=>DQ R i e q)))
   (Ar (Hf (AW 2 nd Tg))
   (Ar (F3 (Bh (AV Ap (AC 0) AG)) (Di 3 nd) (Ar (As (BM (hkj:=Z9) Z7 hr (AA (CB (Re hr) (AV Ap (AC 3) AG) (AC 1)) (AA AI AE))))
   (BH (Hf (TZ hr (AC 2) (AV Ap (AC 3) AG) (AV Ap (AC 3) AG))))))
   (BH (F3 (Qt az (AA (AV Ap (AC 0) AG) AE)) (GA (is:=[4,5]) rfl (A0 (Ah (i:=4) nd rfl (by first|exact Or.inl rfl|exact Or.inr rfl)) (A0 (Ah (i:=5) nd rfl (by first|exact Or.inl rfl|exact Or.inr rfl)) Dj))) (BH (As (BM (hkj:=fI) cW hr (AA (AC 5) (AA (CB (Cm hr) (AC 4) AG) (AA (AC 2) AE)))))))))))))))
noncomputable abbrev Du:Stmt:=top 44
theorem sc_Lcell_at:Aj ["_law_script", "_law_k"] ["_law_script", "_law_k"] (AK Du):=⟨rfl,rfl,rfl,by decide +kernel,rfl,by decide +kernel,by decide +kernel⟩
theorem Mx{k:Nat}{f:Addr}(aA:mg "len" = none)(cdv:Value)(A:Around)(outer:List Env)(s:Shared)(H:Hp)(E:XK)(hr:Room k (A.deeper (PyProof.Rows.envOfC "_law_cell_at" (AK Du) s.heap.objs.size f cdv))):
  RSs (BY CX0 P w K mg base ["_law_script", "_law_k"] "_law_cell_at" (AK Du) f cdv A outer s H E).nox (Af Du) (B1):=by
 have nd:=sc_Lcell_at.nd;exact(AL (Bg (Au O6 (AC 1) (Ao CU aA Mi.A5 (AA (AC 0) AE))) (AU (Aq (AV Ap (AC 0) (AC 1)))) Az)
   (AU (Aq AG)))
noncomputable abbrev GU:Stmt:=top 45
theorem sc_Lwell:Aj ["_law_cell"] ["_law_cell"] (AK GU):=⟨rfl,rfl,rfl,by decide +kernel,rfl,by decide +kernel,by decide +kernel⟩
theorem Tj{k:Nat}{f:Addr}(gO:mg "max" = none)(cdv:Value)(A:Around)(outer:List Env)(s:Shared)(H:Hp)(E:XK)(hr:Room k (A.deeper (PyProof.Rows.envOfC "_law_well" (AK GU) s.heap.objs.size f cdv))):
  RSs (BY CX0 P w K mg base ["_law_cell"] "_law_well" (AK GU) f cdv A outer s H E).nox (Af GU) (Fk):=by
 have nd:=sc_Lwell.nd;exact(AU (Aq (Fh (AA (Ao (ZF rfl) gO Mi.Sh (AA AG (AA (Ae Fz (AC 0) (Ae Rc AG AG)) AE))) (AA (Ae Ik (AC 0) AG) (AA AG AE))))))
noncomputable abbrev GW:Stmt:=top 46
theorem sc_Ldraw:Aj ["_law_well_here", "_law_base", "_law_found", "_law_number"] ["_law_well_here", "_law_base"] (AK GW):=⟨rfl,rfl,rfl,by decide +kernel,rfl,by decide +kernel,by decide +kernel⟩
theorem Tl{k:Nat}{f:Addr}(cdv:Value)(A:Around)(outer:List Env)(s:Shared)(H:Hp)(E:XK)(hr:Room k (A.deeper (PyProof.Rows.envOfC "_law_draw" (AK GW) s.heap.objs.size f cdv))):
  RSs (BY CX0 P w K mg base ["_law_well_here", "_law_base", "_law_found", "_law_number"] "_law_draw" (AK GW) f cdv A outer s H E).nox (Af GW) (EI):=by
 have nd:=sc_Ldraw.nd;exact(AL (Bg (Au Rf (AV Ap (AC 0) AG) AG) (AL (AW 2 nd (Ae Ik (AV Ap (AC 0) AG) (AC 1)))
   (AL (IV (Ae Kl (AV Ap (AC 0) AG) (AC 1)) (Qw (AC 0) AG))
   (AU (Aq (AC 2))))) Az)
   (AL (IV (Ae FW (AV Ap (AC 0) AG) AG) (Qw (AC 0) AG))
   (AL (AW 3 nd (Ae Ik (Ae HQ (Ae FW (Ae FW (AV Ap (AC 0) AG) (Ae HQ AG (AV Ap (AC 0) AG))) AG) AG) AG))
   (AL (AW 3 nd (Ae Ik (Ae HQ (AC 3) (Ae FW (Ae Kl (AC 3) AG) AG)) AG))
   (AL (AW 3 nd (Ae Ik (Ae HQ (AC 3) (Ae FW (Ae Kl (AC 3) AG) AG)) AG))
   (AU (Aq (Ae Ik (Ae FW (Ae HQ (AC 3) AG) (Ae Kl (AC 3) AG)) (AC 1)))))))))
noncomputable abbrev GV:Stmt:=top 47
theorem sc_Lexpr:Aj ["_law_well_here", "_law_names", "_law_deep", "_law_way", "_law_word", "_law_one", "_law_other"] ["_law_well_here", "_law_names", "_law_deep"] (AK GV):=⟨rfl,rfl,rfl,by decide +kernel,rfl,by decide +kernel,by decide +kernel⟩
theorem Tk{Z3:List D->M D}{aN:Nat}{aX:List D->M D}{dQ:Nat}{k:Nat}{f:Addr}(Z5:Fn P w K mg base "_law_draw" ["_law_well_here", "_law_base"] aN Z3)(Z6:aN<=k)(ay:Fn P w K mg base "_law_expr" ["_law_well_here", "_law_names", "_law_deep"] dQ aX)(bI:dQ<=k)(aA:mg "len" = none)(eL:mg "min" = none)(cdv:Value)(A:Around)(outer:List Env)(s:Shared)(H:Hp)(E:XK)(hr:Room k (A.deeper (PyProof.Rows.envOfC "_law_expr" (AK GV) s.heap.objs.size f cdv))):
  RSs (BY CX0 P w K mg base ["_law_well_here", "_law_names", "_law_deep", "_law_way", "_law_word", "_law_one", "_law_other"] "_law_expr" (AK GV) f cdv A outer s H E).nox (Af GV) (Gc Z3 aX):=by
 have nd:=sc_Lexpr.nd;exact(AL (AW 3 nd (Aa (hkj:=Z6) Z5 hr (AA (AC 0) (AA AG AE))))
   (AL (Bg (RW.rt (Nq (Au (Cm hr) (AC 2) AG) (Mp (Au O6 (AC 3) AG)))) (AL (Bg (RW.rt (Nq (Au (Cm hr) (AC 1) (Ax AE)) (Mp (Au (Cm hr) (Aa (hkj:=Z6) Z5 hr (AA (AC 0) (AA AG AE))) AG)))) (AU (Aq (AO (AA AI (AA (Aa (hkj:=Z6) Z5 hr (AA (AC 0) (AA AG AE))) AE))))) Az)
   (AU (Aq (AO (AA AI (AA (AV Ap (AC 1) (Aa (hkj:=Z6) Z5 hr (AA (AC 0) (AA (Ao CU aA Mi.A5 (AA (AC 1) AE)) AE)))) AE)))))) Az)
   (AL (Bg (Au (Cm hr) (AC 3) AG) (AU (Aq (AO (AA AI (AA (Aa (hkj:=bI) ay hr (AA (AC 0) (AA (AC 1) (AA (Ae Fz (AC 2) AG) AE)))) AE))))) Az)
   (AL (AW 4 nd (AV Ap (Ax (AA AI (AA AI (AA AI (AA AI (AA AI (AA AI AE))))))) (Ae Fz (AC 3) AG)))
   (AL (AW 5 nd (Aa (hkj:=bI) ay hr (AA (AC 0) (AA (AC 1) (AA (Ae Fz (AC 2) AG) AE)))))
   (AL (AW 6 nd (Aa (hkj:=bI) ay hr (AA (AC 0) (AA (AC 1) (AA (Ao (VP rfl) eL Mi.MU (AA (Ae Fz (AC 2) AG) (AA AG AE))) AE)))))
   (AU (Aq (AV Ap (Ax (AA (AO (AA (AC 4) (AA (AC 5) (AA (AC 6) AE)))) (AA (AO (AA (AC 4) (AA (AC 6) (AA (AC 5) AE)))) AE))) (Aa (hkj:=Z6) Z5 hr (AA (AC 0) (AA AG AE))))))))))))
noncomputable abbrev IU:Stmt:=top 48
theorem sc_Lrow:Aj ["_law_well_here", "_law_own", "_law_boxes", "_law_names", "_law_many", "_law_is_writer", "_law_way", "_law_deep", "_law_seen"] ["_law_well_here", "_law_own", "_law_boxes", "_law_names", "_law_many", "_law_is_writer"] (AK IU):=⟨rfl,rfl,rfl,by decide +kernel,rfl,by decide +kernel,by decide +kernel⟩
theorem V8{Z3:List D->M D}{aN:Nat}{aX:List D->M D}{dQ:Nat}{k:Nat}{f:Addr}(Z5:Fn P w K mg base "_law_draw" ["_law_well_here", "_law_base"] aN Z3)(Z6:aN<=k)(ay:Fn P w K mg base "_law_expr" ["_law_well_here", "_law_names", "_law_deep"] dQ aX)(bI:dQ<=k)(eL:mg "min" = none)(cQ:mg "int" = none)(aA:mg "len" = none)(cdv:Value)(A:Around)(outer:List Env)(s:Shared)(H:Hp)(E:XK)(hr:Room k (A.deeper (PyProof.Rows.envOfC "_law_row" (AK IU) s.heap.objs.size f cdv))):
  RSs (BY CX0 P w K mg base ["_law_well_here", "_law_own", "_law_boxes", "_law_names", "_law_many", "_law_is_writer", "_law_way", "_law_deep", "_law_seen"] "_law_row" (AK IU) f cdv A outer s H E).nox (Af IU) (Kn Z3 aX):=by
 have nd:=sc_Lrow.nd;exact(AL (AW 6 nd (Aa (hkj:=Z6) Z5 hr (AA (AC 0) (AA AG AE))))
   (AL (AW 7 nd (AV Ap (Ax (AA AG (AA AG (AA AG (AA AG AE))))) (Aa (hkj:=Z6) Z5 hr (AA (AC 0) (AA AG AE)))))
   (AL (Bg (Au Rf (AC 4) AG) (AU (AW 7 nd (Ao (VP rfl) eL Mi.MU (AA (AC 7) (AA AG AE))))) Az)
   (AL (AW 8 nd (Ae FW (AC 3) (Ae HQ (Ax (AA AI AE)) (CZ Sc cQ Mi.Gq (AA (AC 5) AE)))))
   (AL (Bg (RW.rt (Qn (Au O6 (AC 6) AG) (Nr (Au (Ly hr) (AC 1) (Ax AE))))) (AU (Aq (AO (AA AI (AA (AV Ap (AC 1) (Aa (hkj:=Z6) Z5 hr (AA (AC 0) (AA (Ao CU aA Mi.A5 (AA (AC 1) AE)) AE)))) (AA (Aa (hkj:=bI) ay hr (AA (AC 0) (AA (AC 8) (AA (AC 7) AE)))) AE)))))) Az)
   (AL (Bg (RW.rt (Qn (Au O6 (AC 6) AG) (Nr (Au (Ly hr) (AC 2) (Ax AE))))) (AU (Aq (AO (AA AI (AA (AV Ap (AC 3) (Aa (hkj:=Z6) Z5 hr (AA (AC 0) (AA (Ao CU aA Mi.A5 (AA (AC 3) AE)) AE)))) (AA (AV Ap (AC 2) (Aa (hkj:=Z6) Z5 hr (AA (AC 0) (AA (Ao CU aA Mi.A5 (AA (AC 2) AE)) AE)))) AE)))))) Az)
   (AL (Bg (Au O6 (AC 6) AG) (AU (Aq (AO (AA AI (AA (AV Ap (AC 3) (Aa (hkj:=Z6) Z5 hr (AA (AC 0) (AA (Ao CU aA Mi.A5 (AA (AC 3) AE)) AE)))) (AA (Aa (hkj:=bI) ay hr (AA (AC 0) (AA (AC 8) (AA (AC 7) AE)))) AE)))))) Az)
   (AL (Bg (Au (Cm hr) (AC 6) AG) (AU (Aq (AO (AA AI (AA (Aa (hkj:=bI) ay hr (AA (AC 0) (AA (AC 8) (AA (AC 7) AE)))) (AA (Aa (hkj:=Z6) Z5 hr (AA (AC 0) (AA (Ae FW (AC 4) AG) AE))) AE)))))) Az)
   (AL (Bg (Au (Cm hr) (AC 6) AG) (AU (Aq (AO (AA AI (AA (Aa (hkj:=Z6) Z5 hr (AA (AC 0) (AA (Ae FW (AC 4) AG) AE))) AE))))) Az)
   (AU (Aq (AV Ap (Ax (AA (AO (AA AI (AA (Aa (hkj:=bI) ay hr (AA (AC 0) (AA (AC 8) (AA (AC 7) AE)))) AE))) (AA (AO (AA AI AE)) AE))) (CZ Sc cQ Mi.Gq (AA (AC 5) AE))))))))))))))
noncomputable abbrev Eg:Stmt:=top 49
theorem sc_Lmaking:Aj ["_law_well_here", "_law_some", "_law_turn", "_law_names", "_law_boxes", "_law_k", "_law_size", "_law_kind", "_law_hands", "_law_longest", "_law_name", "_law_many", "_law_own", "_law_row_names", "_law_rows"] ["_law_well_here"] (AK Eg):=⟨rfl,rfl,rfl,by decide +kernel,rfl,by decide +kernel,by decide +kernel⟩
theorem Ox{Z3:List D->M D}{aN:Nat}{dN:List D->M D}{gQ:Nat}{k:Nat}{f:Addr}(Z5:Fn P w K mg base "_law_draw" ["_law_well_here", "_law_base"] aN Z3)(Z6:aN<=k)(fk:Fn P w K mg base "_law_row" ["_law_well_here", "_law_own", "_law_boxes", "_law_names", "_law_many", "_law_is_writer"] gQ dN)(gc:gQ<=k)(cL:mg "range" = none)(aA:mg "len" = none)(az:mg "enumerate" = none)(aT:mg "tuple" = none)(cdv:Value)(A:Around)(outer:List Env)(s:Shared)(H:Hp)(E:XK)(hr:Room k (A.deeper (PyProof.Rows.envOfC "_law_making" (AK Eg) s.heap.objs.size f cdv))):
  RSs (BY CX0 P w K mg base ["_law_well_here", "_law_some", "_law_turn", "_law_names", "_law_boxes", "_law_k", "_law_size", "_law_kind", "_law_hands", "_law_longest", "_law_name", "_law_many", "_law_own", "_law_row_names", "_law_rows"] "_law_making" (AK Eg) f cdv A outer s H E).nox (Af Eg) (m_Lmaking Z3 dN):=by
 have nd:=sc_Lmaking.nd;exact(AL (AW 1 nd (Ax (AA AI (AA AI (AA AI (AA AI (AA AI (AA AI (AA AI (AA AI (AA AI (AA AI (AA AI (AA AI AE))))))))))))))
   (AL (AW 2 nd (Aa (hkj:=Z6) Z5 hr (AA (AC 0) (AA AG AE))))
   (AL (AW 1 nd (Ae Bb (DI (AC 1) (Bt (AC 2)) CF) (DI (AC 1) CF (Bt (AC 2)))))
   (AL (AW 3 nd (DI (AC 1) CF (Bt (Ae Bb AG (Aa (hkj:=Z6) Z5 hr (AA (AC 0) (AA AG AE)))))))
   (AL (AW 4 nd (Fh AE))
   (AL (Gz PassesOwn.never rfl (G0 cL (AA (Aa (hkj:=Z6) Z5 hr (AA (AC 0) (AA AG AE))) AE)) (Di 5 nd) (AL (AW 6 nd (Ae Bb AG (Aa (hkj:=Z6) Z5 hr (AA (AC 0) (AA AG AE)))))
   (AL (AW 7 nd (AV Ap (Ax (AA AI (AA AI (AA AI AE)))) (Aa (hkj:=Z6) Z5 hr (AA (AC 0) (AA AG AE)))))
   (AU (Ey (Dy PySem.F.slot_list_append PySem.F.type_list_append FY (AC 4) (AA (AO (AA (AV Ap (AC 1) (Ae Fz AG (AC 5))) (AA (AC 7) (AA (AC 6) (AA (Aa (hkj:=Z6) Z5 hr (AA (AC 0) (AA (AC 6) AE))) (AA (AV Ap (AC 3) (Aa (hkj:=Z6) Z5 hr (AA (AC 0) (AA (Ao CU aA Mi.A5 (AA (AC 3) AE)) AE)))) AE)))))) AE)))))))
   (AL (AW 8 nd (Fh AE))
   (AL (AW 9 nd (Aa (hkj:=Z6) Z5 hr (AA (AC 0) (AA (Ae HQ AG (Ao CU aA Mi.A5 (AA (AC 3) AE))) AE))))
   (AL (Gz PassesOwn.never rfl (Qu az (AA (AC 3) AE)) (GA (is:=[5,10]) rfl (A0 (Ah (i:=5) nd rfl (by first|exact Or.inl rfl|exact Or.inr rfl)) (A0 (Ah (i:=10) nd rfl (by first|exact Or.inl rfl|exact Or.inr rfl)) Dj))) (AL (AW 11 nd (AV Ap (Ax (AA AG (AA AG (AA AG (AA AG (AA AG AE)))))) (Aa (hkj:=Z6) Z5 hr (AA (AC 0) (AA AG AE)))))
   (AL (Bg (Au (Cm hr) (AC 5) (AC 9)) (AU (AW 11 nd AG)) Az)
   (AL (AW 12 nd (Lk (by wtm_at "l") (by wtm_at "l") (tgs:=["_law_box"]) (ix:=[10]) (i:=0) (n:=1) ⟨rfl,by decide +kernel,by decide +kernel,⟨Or.inl rfl,trivial⟩,rfl,by decide +kernel⟩ rfl (Qv (AC 4)) (λ_ _ _ _=>Ah (i:=0) (show List.Nodup (["_law_box", "_law_name"]:List Str) from by decide +kernel) rfl (Or.inl rfl)) (λ_ _ _ _=>GX (Au (Cm hr) (AV Ap (AC 0) AG) (AC 1))) (λ_ _ _ _=>(AV Ap (AC 0) AG))))
   (AL (AW 13 nd (DI (Ax (AA AI (AA AI (AA AI (AA AI (AA AI AE)))))) CF (Bt (Ae Bb AG (Aa (hkj:=Z6) Z5 hr (AA (AC 0) (AA AG AE)))))))
   (AL (F9 14 (tgs:=["_law_j"]) (ix:=[4,5,11,12,13,0]) (i:=0) (n:=1) nd ⟨rfl,by decide +kernel,by decide +kernel,⟨Or.inl rfl,Or.inl rfl,Or.inl rfl,Or.inl rfl,Or.inl rfl,Or.inl rfl,trivial⟩,rfl,by decide +kernel⟩ rfl (G0 cL (AA (AC 11) AE)) (λ_ _ _ _=>Ah (i:=0) (show List.Nodup (["_law_j", "_law_boxes", "_law_k", "_law_many", "_law_own", "_law_row_names", "_law_well_here"]:List Str) from by decide +kernel) rfl (Or.inl rfl)) (λ_ _ _ _=>Bn) (λ_ _ _ _=>(Aa (hkj:=gc) fk hr (AA (AC 6) (AA (AC 4) (AA (Lk (by wtm_at "l") (by wtm_at "l") (tgs:=["_law_box"]) (ix:=[]) (i:=0) (n:=1) ⟨rfl,by decide +kernel,by decide +kernel,trivial,rfl,by decide +kernel⟩ rfl (Qv (AC 1)) (λ_ _ _ _=>Ah (i:=0) (show List.Nodup (["_law_box"]:List Str) from by decide +kernel) rfl (Or.inl rfl)) (λ_ _ _ _=>Bn) (λ_ _ _ _=>(AV Ap (AC 0) AG))) (AA (AC 5) (AA (AC 3) (AA (CB (Cm hr) (AC 2) AG) AE)))))))) (λ_ _ _ _ _ _ _ _ R i e q=>DQ R i e q))
   (AU (Ey (Dy PySem.F.slot_list_append PySem.F.type_list_append FY (AC 8) (AA (AO (AA (AC 10) (AA (AV Ap (Ax (AA AG (AA AG (AA AG (AA AG (AA AG AE)))))) (Aa (hkj:=Z6) Z5 hr (AA (AC 0) (AA AG AE)))) (AA (CZ Fs aT Mi.CV (AA (AC 14) AE)) AE)))) AE))))))))))
   (AL (AW 6 nd (Ae Bb AG (Aa (hkj:=Z6) Z5 hr (AA (AC 0) (AA AG AE)))))
   (AL (AW 7 nd (AV Ap (Ax (AA AI (AA AI (AA AI AE)))) (Aa (hkj:=Z6) Z5 hr (AA (AC 0) (AA AG AE)))))
   (AU (Aq (AO (AA (AC 7) (AA (AC 6) (AA (Aa (hkj:=Z6) Z5 hr (AA (AC 0) (AA (AC 6) AE))) (AA (CZ Fs aT Mi.CV (AA (AC 4) AE)) (AA (CZ Fs aT Mi.CV (AA (AC 8) AE)) AE)))))))))))))))))))
noncomputable abbrev FR:Stmt:=top 50
theorem sc_Ltower:Aj ["_law_word", "_law_many", "_law_found", "_law_k"] ["_law_word", "_law_many"] (AK FR):=⟨rfl,rfl,rfl,by decide +kernel,rfl,by decide +kernel,by decide +kernel⟩
theorem Q2{k:Nat}{f:Addr}(cL:mg "range" = none)(cdv:Value)(A:Around)(outer:List Env)(s:Shared)(H:Hp)(E:XK)(hr:Room k (A.deeper (PyProof.Rows.envOfC "_law_tower" (AK FR) s.heap.objs.size f cdv))):
  RSs (BY CX0 P w K mg base ["_law_word", "_law_many", "_law_found", "_law_k"] "_law_tower" (AK FR) f cdv A outer s H E).nox (Af FR) (m_Ltower):=by
 have nd:=sc_Ltower.nd;exact(AL (AW 2 nd (AO (AA AI (AA AG AE))))
   (AL (Gz PassesOwn.never rfl (G0 cL (AA (AC 1) AE)) (Di 3 nd) (AU (AW 2 nd (YJ (Au (Cm hr) (AC 0) AI) (AO (AA AI (AA (AC 2) AE))) (AO (AA (AC 0) (AA (AO (AA AI (AA AG AE))) (AA (AC 2) AE))))))))
   (AU (Aq (AC 2)))))
noncomputable abbrev C7:Stmt:=top 51
theorem sc_Lbad_exprs:Aj ["_law_one", "_law_some"] [] (AK C7):=⟨rfl,rfl,rfl,by decide +kernel,rfl,by decide +kernel,by decide +kernel⟩
theorem Kf{aY:List D->M D}{ci:Nat}{k:Nat}{f:Addr}(ar:Fn P w K mg base "_law_tower" ["_law_word", "_law_many"] ci aY)(bZ:ci<=k)(cdv:Value)(A:Around)(outer:List Env)(s:Shared)(H:Hp)(E:XK)(hr:Room k (A.deeper (PyProof.Rows.envOfC "_law_bad_exprs" (AK C7) s.heap.objs.size f cdv))):
  RSs (BY CX0 P w K mg base ["_law_one", "_law_some"] "_law_bad_exprs" (AK C7) f cdv A outer s H E).nox (Af C7) (m_Lbad_exprs aY):=by
 have nd:=sc_Lbad_exprs.nd;exact(AL (AW 0 nd (AO (AA AI (AA AG AE))))
   (AL (AW 1 nd (Ax (AA DJ (AA AG (AA AI (AA (AO AE) (AA (AO (AA AI AE)) (AA (AO (AA AI (AA AG AE))) (AA (AO (AA AI (AA (Nx N9 AG) AE))) (AA (AO (AA AI (AA FS AE))) (AA (AO (AA AI (AA AI AE))) (AA (AO (AA AI (AA AG (AA AG AE)))) (AA (AO (AA DJ AE)) AE)))))))))))))
   (AL (AW 1 nd (Ae Bb (AC 1) (Ax (AA (AO (AA AI AE)) (AA (AO (AA AI (AA AI AE))) (AA (AO (AA AI (AA AI AE))) (AA (AO (AA AI (AA AI AE))) (AA (AO (AA AI (AA AI AE))) (AA (AO (AA AI (AA AI AE))) (AA (AO (AA AI (AA DJ AE))) AE))))))))))
   (AL (AW 1 nd (Ae Bb (AC 1) (Ax (AA (AO (AA AI (AA AI AE))) (AA (AO (AA AI (AA (Ax (AA AI AE)) AE))) (AA (AO (AA AI (AA AI (AA AI AE)))) (AA (AO (AA AI AE)) (AA (AO (AA AI (AA (AC 0) (AA (AC 0) AE)))) (AA (AO (AA AI (AA (AC 0) AE))) AE)))))))))
   (AL (AW 1 nd (Ae Bb (AC 1) (Ax (AA (AO (AA AI (AA (AC 0) (AA (AC 0) (AA (AC 0) AE))))) (AA (AO (AA AI (AA (AC 0) (AA (AC 0) AE)))) (AA (AO (AA AI (AA AG AE))) (AA (Ax (AA AI (AA AG AE))) (AA (AO (AA (AO (AA AI (AA AG AE))) AE)) (AA (AO (AA AI (AA (AC 0) (AA (AC 0) AE)))) AE)))))))))
   (AL (AW 1 nd (Ae Bb (AC 1) (Ax (AA (AO (AA AI (AA (AO (AA AI (AA AG AE))) AE))) (AA (AO (AA AI (AA (AC 0) (AA DJ AE)))) (AA (AO (AA AI (AA (AO (AA AI (AA AI AE))) (AA (AC 0) AE)))) (AA (AO (AA AI (AA (AC 0) AE))) (AA (AO (AA AI (AA (AC 0) (AA (AC 0) AE)))) AE))))))))
   (AU (Aq (Ae Bb (AC 1) (Ax (AA (Aa (hkj:=bZ) ar hr (AA AI (AA AG AE))) (AA (Aa (hkj:=bZ) ar hr (AA AI (AA AG AE))) (AA (Aa (hkj:=bZ) ar hr (AA AI (AA AG AE))) (AA (Aa (hkj:=bZ) ar hr (AA AI (AA AG AE))) AE))))))))))))))
noncomputable abbrev DW:Stmt:=top 52
theorem sc_Lbad_expr:Aj ["_law_well_here", "_law_some", "_law_found"] ["_law_well_here"] (AK DW):=⟨rfl,rfl,rfl,by decide +kernel,rfl,by decide +kernel,by decide +kernel⟩
theorem Lo{bu:List D->M D}{du:Nat}{Z3:List D->M D}{aN:Nat}{k:Nat}{f:Addr}(cq:Fn P w K mg base "_law_bad_exprs" [] du bu)(fW:du<=k)(Z5:Fn P w K mg base "_law_draw" ["_law_well_here", "_law_base"] aN Z3)(Z6:aN<=k)(aA:mg "len" = none)(cdv:Value)(A:Around)(outer:List Env)(s:Shared)(H:Hp)(E:XK)(hr:Room k (A.deeper (PyProof.Rows.envOfC "_law_bad_expr" (AK DW) s.heap.objs.size f cdv))):
  RSs (BY CX0 P w K mg base ["_law_well_here", "_law_some", "_law_found"] "_law_bad_expr" (AK DW) f cdv A outer s H E).nox (Af DW) (m_Lbad_expr bu Z3):=by
 have nd:=sc_Lbad_expr.nd;exact(AL (AW 1 nd (V5 (hkj:=fW) cq hr))
   (AL (AW 2 nd (AV Ap (AC 1) (Aa (hkj:=Z6) Z5 hr (AA (AC 0) (AA (Ao CU aA Mi.A5 (AA (AC 1) AE)) AE)))))
   (AL (Bg (Au (Cm hr) (Aa (hkj:=Z6) Z5 hr (AA (AC 0) (AA AG AE))) AG) (AU (Aq (AO (AA (AV Ap (Ax (AA AI (AA AI (AA AI AE)))) (Aa (hkj:=Z6) Z5 hr (AA (AC 0) (AA AG AE)))) (AA (AO (AA AI (AA AG AE))) (AA (AC 2) AE)))))) Az)
   (AU (Aq (AC 2))))))
noncomputable abbrev DV:Stmt:=top 53
theorem sc_Lbad_rows:Aj ["_law_well_here", "_law_making_here", "_law_at", "_law_name", "_law_within_here", "_law_rows", "_law_many", "_law_one", "_law_own", "_law_others", "_law_some", "_law_bad", "_law_worth"] ["_law_well_here", "_law_making_here", "_law_at"] (AK DV):=⟨rfl,rfl,rfl,by decide +kernel,rfl,by decide +kernel,by decide +kernel⟩
theorem Ln{k:Nat}{f:Addr}(aA:mg "len" = none)(cdv:Value)(A:Around)(outer:List Env)(s:Shared)(H:Hp)(E:XK)(hr:Room k (A.deeper (PyProof.Rows.envOfC "_law_bad_rows" (AK DV) s.heap.objs.size f cdv))):
  RSs (BY CX0 P w K mg base ["_law_well_here", "_law_making_here", "_law_at", "_law_name", "_law_within_here", "_law_rows", "_law_many", "_law_one", "_law_own", "_law_others", "_law_some", "_law_bad", "_law_worth"] "_law_bad_rows" (AK DV) f cdv A outer s H E).nox (Af DV) (m_Lbad_rows):=by
 have nd:=sc_Lbad_rows.nd;exact(AL (IV (AV Ap (AV Ap (AC 1) AG) (AC 2)) (GA (is:=[3,4,5]) rfl (A0 (Ah (i:=3) nd rfl (by first|exact Or.inl rfl|exact Or.inr rfl)) (A0 (Ah (i:=4) nd rfl (by first|exact Or.inl rfl|exact Or.inr rfl)) (A0 (Ah (i:=5) nd rfl (by first|exact Or.inl rfl|exact Or.inr rfl)) Dj)))))
   (AL (AW 6 nd (Ao CU aA Mi.A5 (AA (AC 5) AE)))
   (AL (AW 7 nd (AO (AA AI (AA AG AE))))
   (AL (AW 8 nd (CY (tgs:=["_law_box"]) (ix:=[3]) (i:=0) (n:=1) ⟨rfl,by decide +kernel,by decide +kernel,⟨Or.inl rfl,trivial⟩,rfl,by decide +kernel⟩ rfl (Bh (AV Ap (AC 1) AG)) (λ_ _ _ _=>Ah (i:=0) (show List.Nodup (["_law_box", "_law_name"]:List Str) from by decide +kernel) rfl (Or.inl rfl)) (λ_ _ _ _=>GX (Au (Cm hr) (AV Ap (AC 0) AG) (AC 1))) (λ_ _ _ _=>(AV Ap (AC 0) AG))))
   (AL (AW 9 nd (CY (tgs:=["_law_box"]) (ix:=[3]) (i:=0) (n:=1) ⟨rfl,by decide +kernel,by decide +kernel,⟨Or.inl rfl,trivial⟩,rfl,by decide +kernel⟩ rfl (Bh (AV Ap (AC 1) AG)) (λ_ _ _ _=>Ah (i:=0) (show List.Nodup (["_law_box", "_law_name"]:List Str) from by decide +kernel) rfl (Or.inl rfl)) (λ_ _ _ _=>GX (Au (Ly hr) (AV Ap (AC 0) AG) (AC 1))) (λ_ _ _ _=>(AV Ap (AC 0) AG))))
   (AL (AW 10 nd (Fh (AA DJ (AA (Ax AE) (AA AI (AA (AO AE) (AA (AO (AA AG AE)) (AA (AO (AA AI AE)) (AA (AO (AA AI (AA AG (AA AG AE)))) (AA (Ax (AA AI (AA AG AE))) (AA (AO (AA AI (AA AG AE))) (AA (AO (AA (Ax (AA AI AE)) (AA AG AE))) (AA (AO (AA AI (AA AG AE))) AE)))))))))))))
   (AL (AW 10 nd (Ae E8 (AC 10) (Ax (AA (AO (AA AI AE)) (AA (AO (AA AI (AA AI (AA (AC 7) AE)))) (AA (AO (AA AI (AA DJ (AA (AC 7) AE)))) (AA (AO (AA AI (AA AI AE))) (AA (AO (AA AI (AA (Ax (AA AI AE)) (AA (AC 7) AE)))) AE))))))))
   (AL (AW 10 nd (Ae E8 (AC 10) (Ax (AA (AO (AA AI (AA AI AE))) (AA (AO (AA AI (AA AI (AA AI AE)))) (AA (AO (AA AI (AA AI (AA DJ AE)))) (AA (AO (AA AI (AA AI (AA (Ax (AA AI AE)) AE)))) (AA (AO (AA AI (AA AI AE))) AE))))))))
   (AL (AW 10 nd (Ae E8 (AC 10) (Ax (AA (AO (AA AI (AA AI (AA (AC 7) (AA (AC 7) AE))))) (AA (AO (AA AI (AA (AC 7) AE))) (AA (AO (AA AI (AA (AC 7) (AA AG (AA AG AE))))) (AA (AO (AA AI AE)) (AA (AO (AA AI (AA AG AE))) AE))))))))
   (AL (Ey (Dy PySem.F.slot_list_append PySem.F.type_list_append FY (AC 10) (AA (AO (AA AI (AA (AC 7) (AA (AC 7) AE)))) AE)))
   (AL (AW 10 nd (Ae E8 (AC 10) (CY (tgs:=["_law_odd"]) (ix:=[7]) (i:=0) (n:=1) ⟨rfl,by decide +kernel,by decide +kernel,⟨Or.inl rfl,trivial⟩,rfl,by decide +kernel⟩ rfl (Bh (Ax (AA (Nx N9 AG) (AA (Ae Bb (AC 6) AG) (AA FS (AA FS (AA DJ (AA AI (AA (Ae Rc AG AG) (AA (AO (AA AG AE)) AE)))))))))) (λ_ _ _ _=>Ah (i:=0) (show List.Nodup (["_law_odd", "_law_one"]:List Str) from by decide +kernel) rfl (Or.inl rfl)) (λ_ _ _ _=>Bn) (λ_ _ _ _=>(AO (AA AI (AA (AC 1) (AA (AC 0) AE))))))))
   (AL (AW 10 nd (Ae E8 (AC 10) (CY (tgs:=["_law_odd"]) (ix:=[]) (i:=0) (n:=1) ⟨rfl,by decide +kernel,by decide +kernel,trivial,rfl,by decide +kernel⟩ rfl (Bh (Ax (AA (Nx N9 AG) (AA (Ae Bb (AC 6) AG) (AA FS (AA FS (AA DJ (AA AI (AA (Ae Rc AG AG) AE))))))))) (λ_ _ _ _=>Ah (i:=0) (show List.Nodup (["_law_odd"]:List Str) from by decide +kernel) rfl (Or.inl rfl)) (λ_ _ _ _=>Bn) (λ_ _ _ _=>(AO (AA AI (AA (AC 0) AE)))))))
   (AL (AW 10 nd (Ae E8 (AC 10) (CY (tgs:=["_law_box"]) (ix:=[7]) (i:=0) (n:=1) ⟨rfl,by decide +kernel,by decide +kernel,⟨Or.inl rfl,trivial⟩,rfl,by decide +kernel⟩ rfl (Bh (AC 9)) (λ_ _ _ _=>Ah (i:=0) (show List.Nodup (["_law_box", "_law_one"]:List Str) from by decide +kernel) rfl (Or.inl rfl)) (λ_ _ _ _=>Bn) (λ_ _ _ _=>(AO (AA AI (AA (AC 0) (AA (AC 1) AE))))))))
   (AL (AW 11 nd (Ax (AA AI (AA AI (AA AI (AA AI (AA AI (AA AI (AA DJ (AA AG (AA AI (AA (Ax (AA AI AE)) (AA FS AE)))))))))))))
   (AL (AW 10 nd (Ae E8 (Ae M5 (AC 10) (CY (tgs:=["_law_odd"]) (ix:=[7]) (i:=0) (n:=1) ⟨rfl,by decide +kernel,by decide +kernel,⟨Or.inl rfl,trivial⟩,rfl,by decide +kernel⟩ rfl (Bh (AC 11)) (λ_ _ _ _=>Ah (i:=0) (show List.Nodup (["_law_odd", "_law_one"]:List Str) from by decide +kernel) rfl (Or.inl rfl)) (λ_ _ _ _=>Bn) (λ_ _ _ _=>(AO (AA AI (AA (AC 0) (AA (AC 1) AE))))))) (CY (tgs:=["_law_odd"]) (ix:=[9,8]) (i:=0) (n:=1) ⟨rfl,by decide +kernel,by decide +kernel,⟨Or.inl rfl,Or.inl rfl,trivial⟩,rfl,by decide +kernel⟩ rfl (Bh (AC 11)) (λ_ _ _ _=>Ah (i:=0) (show List.Nodup (["_law_odd", "_law_others", "_law_own"]:List Str) from by decide +kernel) rfl (Or.inl rfl)) (λ_ _ _ _=>Bn) (λ_ _ _ _=>(AO (AA AI (AA (AC 0) (AA (AV Ap (Ae Bb (AC 2) (AC 1)) AG) AE))))))))
   (AL (AW 12 nd (AO (AA AI (AA AI AE))))
   (AL (Bg (Au (Cm hr) (AC 2) AG) (AU (Aq (Ae M5 (AC 10) (Ax (AA (AO (AA AI (AA (AC 7) AE))) (AA (AO (AA AI (AA (AC 12) AE))) AE)))))) Az)
   (AL (AW 10 nd (Ae E8 (AC 10) (Ax (AA (AO (AA AI AE)) (AA (AO (AA AI (AA AI (AA (AC 12) AE)))) (AA (AO (AA AI (AA (AO (AA AI (AA (AC 12) AE))) (AA AG AE)))) (AA (AO (AA AI (AA (AO (AA AI (AA (AC 7) (AA (AC 12) AE)))) AE))) AE)))))))
   (AU (Aq (Ae M5 (AC 10) (CY (tgs:=["_law_box"]) (ix:=[12]) (i:=0) (n:=1) ⟨rfl,by decide +kernel,by decide +kernel,⟨Or.inl rfl,trivial⟩,rfl,by decide +kernel⟩ rfl (Bh (AC 8)) (λ_ _ _ _=>Ah (i:=0) (show List.Nodup (["_law_box", "_law_worth"]:List Str) from by decide +kernel) rfl (Or.inl rfl)) (λ_ _ _ _=>Bn) (λ_ _ _ _=>(AO (AA AI (AA (AC 0) (AA (AC 1) AE)))))))))))))))))))))))))))
noncomputable abbrev DU:Stmt:=top 54
theorem sc_Lwith_row:Aj ["_law_making_here", "_law_at", "_law_place", "_law_row_here", "_law_name", "_law_within_here", "_law_rows", "_law_hand"] ["_law_making_here", "_law_at", "_law_place", "_law_row_here"] (AK DU):=⟨rfl,rfl,rfl,by decide +kernel,rfl,by decide +kernel,by decide +kernel⟩
theorem Lm{k:Nat}{f:Addr}(cdv:Value)(A:Around)(outer:List Env)(s:Shared)(H:Hp)(E:XK)(hr:Room k (A.deeper (PyProof.Rows.envOfC "_law_with_row" (AK DU) s.heap.objs.size f cdv))):
  RSs (BY CX0 P w K mg base ["_law_making_here", "_law_at", "_law_place", "_law_row_here", "_law_name", "_law_within_here", "_law_rows", "_law_hand"] "_law_with_row" (AK DU) f cdv A outer s H E).nox (Af DU) (m_Lwith_row):=by
 have nd:=sc_Lwith_row.nd;exact(AL (IV (AV Ap (AV Ap (AC 0) AG) (AC 1)) (GA (is:=[4,5,6]) rfl (A0 (Ah (i:=4) nd rfl (by first|exact Or.inl rfl|exact Or.inr rfl)) (A0 (Ah (i:=5) nd rfl (by first|exact Or.inl rfl|exact Or.inr rfl)) (A0 (Ah (i:=6) nd rfl (by first|exact Or.inl rfl|exact Or.inr rfl)) Dj)))))
   (AL (AW 7 nd (AO (AA (AC 4) (AA (AC 5) (AA (Ae Bb (Ae Bb (DI (AC 6) CF (Bt (AC 2))) (AO (AA (AC 3) AE))) (DI (AC 6) (Bt (Ae Bb (AC 2) AG)) CF)) AE)))))
   (AU (Aq (Ae Bb (DI (AC 0) CF (Bt AG)) (AO (AA (Ae Bb (Ae Bb (DI (AV Ap (AC 0) AG) CF (Bt (AC 1))) (AO (AA (AC 7) AE))) (DI (AV Ap (AC 0) AG) (Bt (Ae Bb (AC 1) AG)) CF)) AE)))))))
noncomputable abbrev C6:Stmt:=top 55
theorem sc_Lotherwise:Aj ["_law_well_here", "_law_making_here", "_law_at", "_law_some", "_law_expr_here", "_law_own"] ["_law_well_here", "_law_making_here", "_law_at"] (AK C6):=⟨rfl,rfl,rfl,by decide +kernel,rfl,by decide +kernel,by decide +kernel⟩
theorem Ke{Z3:List D->M D}{aN:Nat}{cP:List D->M D}{eN:Nat}{cR:List D->M D}{eQ:Nat}{k:Nat}{f:Addr}(Z5:Fn P w K mg base "_law_draw" ["_law_well_here", "_law_base"] aN Z3)(Z6:aN<=k)(dG:Fn P w K mg base "_law_bad_rows" ["_law_well_here", "_law_making_here", "_law_at"] eN cP)(ff:eN<=k)(dB:Fn P w K mg base "_law_bad_expr" ["_law_well_here"] eQ cR)(fc:eQ<=k)(aA:mg "len" = none)(cdv:Value)(A:Around)(outer:List Env)(s:Shared)(H:Hp)(E:XK)(hr:Room k (A.deeper (PyProof.Rows.envOfC "_law_otherwise" (AK C6) s.heap.objs.size f cdv))):
  RSs (BY CX0 P w K mg base ["_law_well_here", "_law_making_here", "_law_at", "_law_some", "_law_expr_here", "_law_own"] "_law_otherwise" (AK C6) f cdv A outer s H E).nox (Af C6) (m_Lotherwise Z3 cP cR):=by
 have nd:=sc_Lotherwise.nd;exact(AL (Bg (Au Rf (Aa (hkj:=Z6) Z5 hr (AA (AC 0) (AA AG AE))) AG) (AL (AW 3 nd (Aa (hkj:=ff) dG hr (AA (AC 0) (AA (AC 1) (AA (AC 2) AE)))))
   (AU (Aq (AV Ap (AC 3) (Aa (hkj:=Z6) Z5 hr (AA (AC 0) (AA (Ao CU aA Mi.A5 (AA (AC 3) AE)) AE))))))) Az)
   (AL (AW 4 nd (Aa (hkj:=fc) dB hr (AA (AC 0) AE)))
   (AL (F9 5 (tgs:=["_law_box"]) (ix:=[2,1]) (i:=0) (n:=1) nd ⟨rfl,by decide +kernel,by decide +kernel,⟨Or.inl rfl,Or.inl rfl,trivial⟩,rfl,by decide +kernel⟩ rfl (Bh (AV Ap (AC 1) AG)) (λ_ _ _ _=>Ah (i:=0) (show List.Nodup (["_law_box", "_law_at", "_law_making_here"]:List Str) from by decide +kernel) rfl (Or.inl rfl)) (λ_ _ _ _=>GX (Au (Cm hr) (AV Ap (AC 0) AG) (AV Ap (AV Ap (AV Ap (AC 2) AG) (AC 1)) AG))) (λ_ _ _ _=>(AV Ap (AC 0) AG)) (λ_ _ _ _ _ _ _ _ R i e q=>DQ R i e q))
   (AL (AW 3 nd (Ae E8 (Ax (AA (AO (AA AI (AA AI (AA (AC 4) AE)))) (AA (AO (AA AI (AA (AC 4) (AA AG AE)))) AE))) (CY (tgs:=["_law_box"]) (ix:=[4]) (i:=0) (n:=1) ⟨rfl,by decide +kernel,by decide +kernel,⟨Or.inl rfl,trivial⟩,rfl,by decide +kernel⟩ rfl (Bh (AC 5)) (λ_ _ _ _=>Ah (i:=0) (show List.Nodup (["_law_box", "_law_expr_here"]:List Str) from by decide +kernel) rfl (Or.inl rfl)) (λ_ _ _ _=>Bn) (λ_ _ _ _=>(AO (AA AI (AA (AC 0) (AA (AC 1) AE))))))))
   (AL (Bg (Au Rf (AC 2) AG) (AU (Ey (Dy PySem.F.slot_list_append PySem.F.type_list_append FY (AC 3) (AA (AO (AA AI (AA (AC 4) AE))) AE)))) Az)
   (AU (Aq (AV Ap (AC 3) (Aa (hkj:=Z6) Z5 hr (AA (AC 0) (AA (Ao CU aA Mi.A5 (AA (AC 3) AE)) AE)))))))))))
noncomputable abbrev Ef:Stmt:=top 56
theorem sc_Lwithin:Aj ["_law_row_here"] ["_law_row_here"] (AK Ef):=⟨rfl,rfl,rfl,by decide +kernel,rfl,by decide +kernel,by decide +kernel⟩
theorem Ow{k:Nat}{f:Addr}(cdv:Value)(A:Around)(outer:List Env)(s:Shared)(H:Hp)(E:XK)(hr:Room k (A.deeper (PyProof.Rows.envOfC "_law_within" (AK Ef) s.heap.objs.size f cdv))):
  RSs (BY CX0 P w K mg base ["_law_row_here"] "_law_within" (AK Ef) f cdv A outer s H E).nox (Af Ef) (Fj):=by
 have nd:=sc_Lwithin.nd;exact(AL (Bg (Au Wp (AV Ap (AC 0) AG) (AO (AA AI (AA AI AE)))) (AU (Aq (Ae Bb (DI (AC 0) CF (Bt (Nx N9 AG))) (AO (AA AG AE))))) Az)
   (AU (Aq (AC 0))))
noncomputable abbrev Dt:Stmt:=top 57
theorem sc_Lrefused:Aj ["_law_thing", "_law_good", "e", "_law_others"] ["_law_thing"] (AK Dt):=⟨rfl,rfl,rfl,by decide +kernel,rfl,by decide +kernel,by decide +kernel⟩
theorem Mw{aG:List D->M Dx}{ah:Nat}{bW:Addr}{dZ:Addr}{eS:Addr}{eF:Addr}{eX:Addr}{eU:Addr}{eT:Addr}{dv:Addr}{bP:Addr}{k:Nat}{f:Addr}(aM:FnX P w K mg base "check_making" ["making"] ah aG)(ae:ah<=k)(mc_StrongError:mg "StrongError" = some (.ref bW))(mc_NoEvents:mg "NoEvents" = some (.ref dZ))(mc_NoLine:mg "NoLine" = some (.ref eS))(mc_NoPaper:mg "NoPaper" = some (.ref eF))(mc_NoStep:mg "NoStep" = some (.ref eX))(mc_NoText:mg "NoText" = some (.ref eU))(mc_NoUpon:mg "NoUpon" = some (.ref eT))(mc_TooMany:mg "TooMany" = some (.ref dv))(mc_NoMaking:mg "NoMaking" = some (.ref bP))(cd_StrongError:Cd K "StrongError" bW)(bl_StrongError:Oa K ["NoMaking"] bW)(tb_NoEvents_NoLine_NoPaper_NoStep_NoText_NoUpon_TooMany:Tb K [("NoMaking",false)] ([dZ,eS,eF,eX,eU,eT,dv].map Value.ref))(tb_NoMaking:Tb K [("NoMaking",true)] ([bP].map Value.ref))(tb_ValueError:Tb K [("NoMaking",true)] [.type "ValueError"])(aB:mg "isinstance" = none)(cn:mg "ValueError" = none)(cdv:Value)(A:Around)(outer:List Env)(s:Shared)(H:Hp)(E:XK)(hr:Room k (A.deeper (PyProof.Rows.envOfC "_law_refused" (AK Dt) s.heap.objs.size f cdv))):
  RSs (BY CX0 P w K mg base ["_law_thing", "_law_good", "e", "_law_others"] "_law_refused" (AK Dt) f cdv A outer s H E).nox (Af Dt) (m_Lrefused aG):=by
 have nd:=sc_Lrefused.nd;exact(AL (AW 1 nd FS)
   (AL (TY (i:=2) (ok:=["NoMaking"]) cd_StrongError mc_StrongError bl_StrongError nd (BH (As (BM (hkj:=ae) aM hr (AA (AC 0) AE)))) (λ_=>(AL (AW 3 nd (Td aB (AC 2) (E9 mc_NoEvents (E9 mc_NoLine (E9 mc_NoPaper (E9 mc_NoStep (E9 mc_NoText (E9 mc_NoUpon (E9 mc_TooMany Ws))))))) tb_NoEvents_NoLine_NoPaper_NoStep_NoText_NoUpon_TooMany))
   (AU (AW 1 nd (Dc (V4 aB (AC 2) mc_NoMaking tb_NoMaking) (Dc (Te aB (AC 2) (E7 cn PyProof.Rows.Boot.«ValueError») tb_ValueError) (Ez (Qz (AC 3))))))))))
   (AU (Aq (AC 1)))))
noncomputable abbrev Lg:Stmt:=top 58
theorem sc_law:Aj ["_law_script", "_law_kind", "_law_size", "_law_begin", "_law_boxes", "_law_hands", "_law_making_here", "_law_cell", "_law_well_here", "_law_at", "_law_place", "_law_deep"] ["_law_script"] (AK Lg):=⟨rfl,rfl,rfl,by decide +kernel,rfl,by decide +kernel,by decide +kernel⟩
theorem YK{bL:List D->M D}{ef:Nat}{dL:List D->M D}{fw:Nat}{c5:List D->M D}{fQ:Nat}{cz:List D->M D}{fS:Nat}{aG:List D->M Dx}{ah:Nat}{Z3:List D->M D}{aN:Nat}{bq:List D->M D}{d9:Nat}{bS:List D->M D}{eP:Nat}{cg:List D->M D}{fA:Nat}{aY:List D->M D}{ci:Nat}{k:Nat}{f:Addr}(bv:Fn P w K mg base "_law_cell_at" ["_law_script", "_law_k"] ef bL)(c8:ef<=k)(eG:Fn P w K mg base "_law_well" ["_law_cell"] fw dL)(fh:fw<=k)(dm:Fn P w K mg base "_law_making" ["_law_well_here"] fQ c5)(gH:fQ<=k)(eC:Fn P w K mg base "_law_within" ["_law_row_here"] fS cz)(gJ:fS<=k)(aM:FnX P w K mg base "check_making" ["making"] ah aG)(ae:ah<=k)(Z5:Fn P w K mg base "_law_draw" ["_law_well_here", "_law_base"] aN Z3)(Z6:aN<=k)(cw:Fn P w K mg base "_law_otherwise" ["_law_well_here", "_law_making_here", "_law_at"] d9 bq)(fV:d9<=k)(cS:Fn P w K mg base "_law_with_row" ["_law_making_here", "_law_at", "_law_place", "_law_row_here"] eP bS)(eE:eP<=k)(de:Fn P w K mg base "_law_refused" ["_law_thing"] fA cg)(fv:fA<=k)(ar:Fn P w K mg base "_law_tower" ["_law_word", "_law_many"] ci aY)(bZ:ci<=k)(aT:mg "tuple" = none)(aA:mg "len" = none)(cQ:mg "int" = none)(cdv:Value)(A:Around)(outer:List Env)(s:Shared)(H:Hp)(E:XK)(hr:Room k (A.deeper (PyProof.Rows.envOfC "law" (AK Lg) s.heap.objs.size f cdv))):
  RSs (BY CX0 P w K mg base ["_law_script", "_law_kind", "_law_size", "_law_begin", "_law_boxes", "_law_hands", "_law_making_here", "_law_cell", "_law_well_here", "_law_at", "_law_place", "_law_deep"] "law" (AK Lg) f cdv A outer s H E).nox (Af Lg) (m_law bL dL c5 cz aG Z3 bq bS cg aY):=by
 have nd:=sc_law.nd;exact(AL (IV (Aa (hkj:=gH) dm hr (AA (Aa (hkj:=fh) eG hr (AA (Aa (hkj:=c8) bv hr (AA (AC 0) (AA AG AE))) AE)) AE)) (GA (is:=[1,2,3,4,5]) rfl (A0 (Ah (i:=1) nd rfl (by first|exact Or.inl rfl|exact Or.inr rfl)) (A0 (Ah (i:=2) nd rfl (by first|exact Or.inl rfl|exact Or.inr rfl)) (A0 (Ah (i:=3) nd rfl (by first|exact Or.inl rfl|exact Or.inr rfl)) (A0 (Ah (i:=4) nd rfl (by first|exact Or.inl rfl|exact Or.inr rfl)) (A0 (Ah (i:=5) nd rfl (by first|exact Or.inl rfl|exact Or.inr rfl)) Dj)))))))
   (AL (Bg (Au (Cm hr) (AC 4) (AO AE)) (AU (AW 4 nd (AO (AA (AO (AA AI (AA AI (AA AG (AA AG (AA (AV Ap (AV Ap (AC 5) AG) AG) AE)))))) AE)))) Az)
   (AL (AW 5 nd (CZ Fs aT Mi.CV (AA (Ll none (tgs:=["_law_name", "_law_within_here", "_law_rows"]) (ix:=[]) (is:=[0,1,2]) (n:=3)  ⟨rfl,by decide +kernel,by decide +kernel,trivial,rfl,by decide +kernel⟩ rfl (Bh (AC 5)) (λ_ _ _ _=>(A0 (Ah (i:=0) (show List.Nodup (["_law_name", "_law_within_here", "_law_rows"]:List Str) from by decide +kernel) rfl (Or.inl rfl)) (A0 (Ah (i:=1) (show List.Nodup (["_law_name", "_law_within_here", "_law_rows"]:List Str) from by decide +kernel) rfl (Or.inl rfl)) (A0 (Ah (i:=2) (show List.Nodup (["_law_name", "_law_within_here", "_law_rows"]:List Str) from by decide +kernel) rfl (Or.inl rfl)) Dj)))) (λ_ _ _ _=>Jk) (λ_ _ _ _=>(AO (AA (AC 0) (AA (AC 1) (AA (DI (Ae Bb (AC 2) (AO (AA (AO (AA AI (AA AG AE))) AE))) CF (Bt AG)) AE)))))) AE)))
   (AL (AW 5 nd (CZ Fs aT Mi.CV (AA (Ll none (tgs:=["_law_name", "_law_within_here", "_law_rows"]) (ix:=[]) (is:=[0,1,2]) (n:=3)  ⟨rfl,by decide +kernel,by decide +kernel,trivial,rfl,by decide +kernel⟩ rfl (Bh (AC 5)) (λ_ _ _ _=>(A0 (Ah (i:=0) (show List.Nodup (["_law_name", "_law_within_here", "_law_rows"]:List Str) from by decide +kernel) rfl (Or.inl rfl)) (A0 (Ah (i:=1) (show List.Nodup (["_law_name", "_law_within_here", "_law_rows"]:List Str) from by decide +kernel) rfl (Or.inl rfl)) (A0 (Ah (i:=2) (show List.Nodup (["_law_name", "_law_within_here", "_law_rows"]:List Str) from by decide +kernel) rfl (Or.inl rfl)) Dj)))) (λ_ _ _ _=>Jk) (λ_ _ _ _=>(AO (AA (AC 0) (AA (AC 1) (AA (CZ Fs aT Mi.CV (AA (CY (tgs:=["_law_row_here"]) (ix:=[]) (i:=0) (n:=1) ⟨rfl,by decide +kernel,by decide +kernel,trivial,rfl,by decide +kernel⟩ rfl (Bh (AC 2)) (λ_ _ _ _=>Ah (i:=0) (show List.Nodup (["_law_row_here"]:List Str) from by decide +kernel) rfl (Or.inl rfl)) (λ_ _ _ _=>Bn) (λ_ _ _ _=>(Aa (hkj:=gJ) eC hr (AA (AC 0) AE)))) AE)) AE)))))) AE)))
   (AL (AW 6 nd (AO (AA (AC 1) (AA (AC 2) (AA (AC 3) (AA (AC 4) (AA (AC 5) AE)))))))
   (AL (Bg (Au UG (Ms (hkj:=ae) aM hr (AA (AC 6) AE)) DJ) (AU (Aq FS)) Az)
   (AL (Gz PassesOwn.never rfl (Bh (Ae Bb (Ax (AA (Aa (hkj:=c8) bv hr (AA (AC 0) (AA AG AE))) AE)) (DI (AC 0) (Bt AG) (Bt AG)))) (Di 7 nd) (AL (AW 8 nd (Aa (hkj:=fh) eG hr (AA (AC 7) AE)))
   (AL (AW 9 nd (Ae HQ (Aa (hkj:=Z6) Z5 hr (AA (AC 8) (AA (Ao CU aA Mi.A5 (AA (AC 5) AE)) AE))) (CZ Sc cQ Mi.Gq (AA (CB Rf (Aa (hkj:=Z6) Z5 hr (AA (AC 8) (AA AG AE))) AG) AE))))
   (AL (AW 10 nd (Aa (hkj:=Z6) Z5 hr (AA (AC 8) (AA (Ao CU aA Mi.A5 (AA (AV Ap (AV Ap (AC 5) (AC 9)) AG) AE)) AE))))
   (AU (Bg (Mq (Kb (Aa (hkj:=fv) de hr (AA (Aa (hkj:=eE) cS hr (AA (AC 6) (AA (AC 9) (AA (AC 10) (AA (Aa (hkj:=fV) cw hr (AA (AC 8) (AA (AC 6) (AA (AC 9) AE)))) AE))))) AE)))) (AU (Aq FS)) Az))))))
   (AL (AW 11 nd (Aa (hkj:=bZ) ar hr (AA (AV Ap (Ax (AA AI (AA AI (AA AI (AA AI AE))))) (Ae Ik (Aa (hkj:=c8) bv hr (AA (AC 0) (AA AG AE))) AG)) (AA AG AE))))
   (AU (Aq (Dc (CB Yn (Ms (hkj:=ae) aM hr (AA (Aa (hkj:=eE) cS hr (AA (AC 6) (AA AG (AA AG (AA (AO (AA AI (AA (AC 11) AE))) AE))))) AE)) DJ) (Ez (CB Yn (Ms (hkj:=ae) aM hr (AA (AC 6) AE)) DJ)))))))))))))
end
noncomputable def f_Lmaking:List D->M D:=Bq .drop 15 1 (m_Lmaking BC HB)
noncomputable def f_Lwithin:List D->M D:=EB .all 1 1 (Fj)
noncomputable def f_needX:List D->M Dx:=Cw .all 2 2 (FB)
noncomputable def BX:List D->M Dx:=Cw .all 3 3 (BW f_needX CO)
noncomputable def CS:List D->M Dx:=Cw .all 2 1 (Bj f_needX CP CA BX B2)
noncomputable def CQ:List D->M Dx:=Cw .all 2 1 (Bi f_needX CP CA CO B2)
noncomputable def f_is_expression:Nat->List D->M D
 |0=>λ_=>Ba
 |n+1=>Bq .drop 3 2 (m_is_expression (f_is_expression n) CO CA)
noncomputable def f_is_part:List D->M D:=EB .all 3 3 (m_is_part (f_is_expression 6) CO CA)
noncomputable def f_check_formX:List D->M Dx:=Cw .all 5 2 (m_check_formX f_needX CP f_is_part)
noncomputable def f_check_endingX:List D->M Dx:=Cw .all 2 2 (m_check_endingX f_needX)
noncomputable def f_check_variablesX:List D->M Dx:=Cw .all 3 2 (m_check_variablesX DC f_needX)
noncomputable def f_check_rowsX:List D->M Dx:=Cw .all 4 3 (m_check_rowsX f_check_formX f_check_endingX f_check_variablesX f_needX)
noncomputable def f_check_makingX:List D->M Dx:=Cw .all 6 1 (m_check_makingX f_needX CP BX CS CQ f_check_rowsX)
noncomputable def f_Lbad_rows:List D->M D:=EB .all 13 3 (m_Lbad_rows)
noncomputable def f_Ltower:List D->M D:=EB .all 4 2 (m_Ltower)
noncomputable def f_Lbad_exprs:List D->M D:=EB .all 2 0 (m_Lbad_exprs f_Ltower)
noncomputable def f_Lbad_expr:List D->M D:=EB .all 3 1 (m_Lbad_expr f_Lbad_exprs BC)
noncomputable def f_Lotherwise:List D->M D:=EB .all 6 3 (m_Lotherwise BC f_Lbad_rows f_Lbad_expr)
noncomputable def f_Lwith_row:List D->M D:=EB .all 8 4 (m_Lwith_row)
noncomputable def f_Lrefused:List D->M D:=EB .all 4 1 (m_Lrefused f_check_makingX)
noncomputable def f_law:List D->M D:=Bq .drop 12 1 (m_law CT Gj f_Lmaking f_Lwithin f_check_makingX BC f_Lotherwise f_Lwith_row f_Lrefused f_Ltower)
theorem all_mk{l:PySem.W.OpenLaw}{w:World}{K:PySem.W.Frag}{h:Heap}{mg:Str->Option Value}{fa:Addr}(hφ:∀ns:List Int,ns.length<=63->∃μ',f_law [.scr ns] []=some (.bl true,μ'))(X:K.In h)(G:h.Ns mainGlobals mg)(hfa:mg "law" = some (.ref fa))
  (dY:∃f fd,Df K "_law_cell_at" Du f fd)
  (fN:∃f fd,Df K "_law_well" GU f fd)
  (fK:∃f fd,Df K "_law_draw" GW f fd)
  (fH:∃f fd,Df K "_law_expr" GV f fd)
  (fZ:∃f fd,Df K "_law_row" IU f fd)
  (eD:∃f fd,Df K "_law_making" Eg f fd)
  (dz:∃f fd,Df K "_law_within" Ef f fd)
  (fG:∃f fd,Df K "need" GT f fd)
  (dU:∃f fd,Df K "is_tuple" Dr f fd)
  (dX:∃f fd,Df K "is_whole" Dq f fd)
  (be:∃f fd,Df K "check_worths" B7 f fd)
  (eB:∃f fd,Df K "is_name" Ee f fd)
  (cx:∃f fd,Df K "are_unlike" C5 f fd)
  (bz:∃f fd,Df K "check_boxes" CM f fd)
  (cI:∃f fd,Df K "check_hands" CL f fd)
  (bi:∃f fd,Df K "is_expression" B6 f fd)
  (dw:∃f fd,Df K "is_part" Ed f fd)
  (cb:∃f fd,Df K "check_form" Ck f fd)
  (bn:∃f fd,Df K "check_ending" B9 f fd)
  (cG:∃f fd,Df K "variables_in" CK f fd)
  (cK:∃f fd,Df K "variables_of" CJ f fd)
  (bC:∃f fd,Df K "check_variables" Bf f fd)
  (ce:∃f fd,Df K "check_rows" Cj f fd)
  (bc:∃f fd,Df K "check_making" B8 f fd)
  (dA:∃f fd,Df K "_law_bad_rows" DV f fd)
  (eR:∃f fd,Df K "_law_tower" FR f fd)
  (cu:∃f fd,Df K "_law_bad_exprs" C7 f fd)
  (dF:∃f fd,Df K "_law_bad_expr" DW f fd)
  (cm:∃f fd,Df K "_law_otherwise" C6 f fd)
  (dE:∃f fd,Df K "_law_with_row" DU f fd)
  (dc:∃f fd,Df K "_law_refused" Dt f fd)
  (gD:∃f fd,Df K "law" Lg f fd)
  (x_NoEvents:∃C,BR K "NoEvents" C)
  (x_NoLine:∃C,BR K "NoLine" C)
  (x_NoMaking:∃C,BR K "NoMaking" C)
  (x_NoPaper:∃C,BR K "NoPaper" C)
  (x_NoStep:∃C,BR K "NoStep" C)
  (x_NoText:∃C,BR K "NoText" C)
  (x_NoUpon:∃C,BR K "NoUpon" C)
  (x_StrongError:∃C,BR K "StrongError" C)
  (x_TooMany:∃C,BR K "TooMany" C)
  (xr_NoMaking:∀C,BR K "NoMaking" C->Ec K "NoMaking" C)
  (xc_StrongError:∀C,BR K "StrongError" C->Cd K "StrongError" C)
  (xb_StrongError:∀C,BR K "StrongError" C->Oa K ["NoMaking"] C)
  (xtb_NoEvents_NoLine_NoPaper_NoStep_NoText_NoUpon_TooMany:∀Ds,NsL K ["NoEvents", "NoLine", "NoPaper", "NoStep", "NoText", "NoUpon", "TooMany"] Ds->Tb K [("NoMaking",false)] (Ds.map Value.ref))
  (xtb_NoMaking:∀Ds,NsL K ["NoMaking"] Ds->Tb K [("NoMaking",true)] (Ds.map Value.ref))
  (xtb_ValueError:Tb K [("NoMaking",true)] [.type "ValueError"])
  (cr:PySem.W.nsIn K mainGlobals "ValueError" = some none)
  (gE:PySem.W.nsIn K mainGlobals "all" = some none)
  (fi:PySem.W.nsIn K mainGlobals "bool" = some none)
  (c9:PySem.W.nsIn K mainGlobals "enumerate" = some none)
  (gB:PySem.W.nsIn K mainGlobals "int" = some none)
  (cp:PySem.W.nsIn K mainGlobals "isinstance" = some none)
  (gM:PySem.W.nsIn K mainGlobals "len" = some none)
  (f6:PySem.W.nsIn K mainGlobals "max" = some none)
  (gK:PySem.W.nsIn K mainGlobals "min" = some none)
  (fF:PySem.W.nsIn K mainGlobals "range" = some none)
  (f8:PySem.W.nsIn K mainGlobals "set" = some none)
  (gI:PySem.W.nsIn K mainGlobals "str" = some none)
  (fE:PySem.W.nsIn K mainGlobals "tuple" = some none)
  (gG:PySem.W.nsIn K mainGlobals "zip" = some none)
  (cV:Glo K mg "DEEPEST" HF)
  (bo:Glo K mg "GREATEST" GL)
  (dR:Glo K mg "KINDS" Ho)
  (aw:Glo K mg "LEAST_HANDS" DS)
  (bK:Glo K mg "LEAST_SIZE" Do)
  (cT:Glo K mg "LETTERS" Ek)
  (bJ:Glo K mg "MOST_BOXES" Dm)
  (bD:Glo K mg "MOST_HANDS" Dl)
  (bT:Glo K mg "MOST_ROWS" EL)
  (bU:Glo K mg "MOST_SIZE" EK)
  (av:Glo K mg "MOST_WITHIN" DR)
  (al:Glo K mg "NO_VARIABLES" EA)
  (bG:Glo K mg "PAIR_WORDS" FE)
  (bR:P4 w K mg "PARTS" BL) :
  ∃fd:FuncData,(∀(s:Shared) (v:Value),BindsTo s fd ⟨[v],[]⟩ [("_law_script",v)])/\∀base:Heap,K.In base->base.Ns mainGlobals mg->FnOk l.prog w K mg base CX0 14 fa fd ["_law_script"] (Np K):=by
 have cn:=PySem.W.mg_none_of X G cr;have f7:=PySem.W.mg_none_of X G gE;have fe:=PySem.W.mg_none_of X G fi;have az:=PySem.W.mg_none_of X G c9;have cQ:=PySem.W.mg_none_of X G gB;have aB:=PySem.W.mg_none_of X G cp;have aA:=PySem.W.mg_none_of X G gM;have gO:=PySem.W.mg_none_of X G f6;have eL:=PySem.W.mg_none_of X G gK;have cL:=PySem.W.mg_none_of X G fF;have gC:=PySem.W.mg_none_of X G f8;have eK:=PySem.W.mg_none_of X G gI;have aT:=PySem.W.mg_none_of X G fE;have eJ:=PySem.W.mg_none_of X G gG;obtain⟨fa_Lcell_at,fd_Lcell_at,df⟩:=dY;have B1:=PySem.W.mg_of X G df.a;have gF:=df.F.binds (ps:=["_law_script", "_law_k"]) λ_ _ _ _ _ _ us hl=>match us,hl with | [_,_],_=>rfl
 obtain⟨fa_Lwell,fd_Lwell,fB⟩:=fN;have Fk:=PySem.W.mg_of X G fB.a;have gY:=fB.F.binds (ps:=["_law_cell"]) λ_ _ _ _ _ _ us hl=>match us,hl with | [_],_=>rfl
 obtain⟨fa_Ldraw,fd_Ldraw,fO⟩:=fK;have EI:=PySem.W.mg_of X G fO.a;have gX:=fO.F.binds (ps:=["_law_well_here", "_law_base"]) λ_ _ _ _ _ _ us hl=>match us,hl with | [_,_],_=>rfl
 obtain⟨fa_Lexpr,fd_Lexpr,eM⟩:=fH;have Gc:=PySem.W.mg_of X G eM.a;have fz:=eM.F.binds (ps:=["_law_well_here", "_law_names", "_law_deep"]) λ_ _ _ _ _ _ us hl=>match us,hl with | [_,_,_],_=>rfl
 obtain⟨fa_Lrow,fd_Lrow,fj⟩:=fZ;have Kn:=PySem.W.mg_of X G fj.a;have gd:=fj.F.binds (ps:=["_law_well_here", "_law_own", "_law_boxes", "_law_names", "_law_many", "_law_is_writer"]) λ_ _ _ _ _ _ us hl=>match us,hl with | [_,_,_,_,_,_],_=>rfl
 obtain⟨fa_Lmaking,fd_Lmaking,eA⟩:=eD;have m_Lmaking:=PySem.W.mg_of X G eA.a;have gP:=eA.F.binds (ps:=["_law_well_here"]) λ_ _ _ _ _ _ us hl=>match us,hl with | [_],_=>rfl
 obtain⟨fa_Lwithin,fd_Lwithin,d7⟩:=dz;have Fj:=PySem.W.mg_of X G d7.a;have gU:=d7.F.binds (ps:=["_law_row_here"]) λ_ _ _ _ _ _ us hl=>match us,hl with | [_],_=>rfl
 obtain⟨fa_needX,fd_needX,fL⟩:=fG;have FB:=PySem.W.mg_of X G fL.a;have gZ:=fL.F.binds (ps:=["holds", "words"]) λ_ _ _ _ _ _ us hl=>match us,hl with | [_,_],_=>rfl
 obtain⟨fa_is_tuple,fd_is_tuple,dW⟩:=dU;have D5:=PySem.W.mg_of X G dW.a;have gL:=dW.F.binds (ps:=["thing", "least", "most"]) λ_ _ _ _ _ _ us hl=>match us,hl with | [_,_,_],_=>rfl
 obtain⟨fa_is_whole,fd_is_whole,dh⟩:=dX;have D4:=PySem.W.mg_of X G dh.a;have gN:=dh.F.binds (ps:=["thing", "least", "most"]) λ_ _ _ _ _ _ us hl=>match us,hl with | [_,_,_],_=>rfl
 obtain⟨fa_check_worthsX,fd_check_worthsX,bp⟩:=be;have BW:=PySem.W.mg_of X G bp.a;have e9:=bp.F.binds (ps:=["kind", "size", "begin"]) λ_ _ _ _ _ _ us hl=>match us,hl with | [_,_,_],_=>rfl
 obtain⟨fa_is_name,fd_is_name,dn⟩:=eB;have Ei:=PySem.W.mg_of X G dn.a;have gR:=dn.F.binds (ps:=["thing"]) λ_ _ _ _ _ _ us hl=>match us,hl with | [_],_=>rfl
 obtain⟨fa_are_unlike,fd_are_unlike,ck⟩:=cx;have Ca:=PySem.W.mg_of X G ck.a;have fg:=ck.F.binds (ps:=["names"]) λ_ _ _ _ _ _ us hl=>match us,hl with | [_],_=>rfl
 obtain⟨fa_check_boxesX,fd_check_boxesX,cM⟩:=bz;have Bj:=PySem.W.mg_of X G cM.a;have fM:=cM.F.binds (ps:=["boxes"]) λ_ _ _ _ _ _ us hl=>match us,hl with | [_],_=>rfl
 obtain⟨fa_check_handsX,fd_check_handsX,cN⟩:=cI;have Bi:=PySem.W.mg_of X G cN.a;have fD:=cN.F.binds (ps:=["hands"]) λ_ _ _ _ _ _ us hl=>match us,hl with | [_],_=>rfl
 obtain⟨fa_is_expression,fd_is_expression,bA⟩:=bi;have m_is_expression:=PySem.W.mg_of X G bA.a;have c6:=bA.F.binds (ps:=["thing", "deep"]) λ_ _ _ _ _ _ us hl=>match us,hl with | [_,_],_=>rfl
 obtain⟨fa_is_part,fd_is_part,dq⟩:=dw;have m_is_part:=PySem.W.mg_of X G dq.a;have gS:=dq.F.binds (ps:=["part", "thing", "length"]) λ_ _ _ _ _ _ us hl=>match us,hl with | [_,_,_],_=>rfl
 obtain⟨fa_check_formX,fd_check_formX,cX⟩:=cb;have m_check_formX:=PySem.W.mg_of X G cX.a;have fU:=cX.F.binds (ps:=["row", "length"]) λ_ _ _ _ _ _ us hl=>match us,hl with | [_,_],_=>rfl
 obtain⟨fa_check_endingX,fd_check_endingX,bh⟩:=bn;have m_check_endingX:=PySem.W.mg_of X G bh.a;have eZ:=bh.F.binds (ps:=["word", "is_writer"]) λ_ _ _ _ _ _ us hl=>match us,hl with | [_,_],_=>rfl
 obtain⟨fa_variables_in,fd_variables_in,bN⟩:=cG;have A8:=PySem.W.mg_of X G bN.a;have dS:=bN.F.binds (ps:=["expression"]) λ_ _ _ _ _ _ us hl=>match us,hl with | [_],_=>rfl
 obtain⟨fa_variables_of,fd_variables_of,cF⟩:=cK;have A1:=PySem.W.mg_of X G cF.a;have fJ:=cF.F.binds (ps:=["row"]) λ_ _ _ _ _ _ us hl=>match us,hl with | [_],_=>rfl
 obtain⟨fa_check_variablesX,fd_check_variablesX,bF⟩:=bC;have m_check_variablesX:=PySem.W.mg_of X G bF.a;have d8:=bF.F.binds (ps:=["row", "is_writer"]) λ_ _ _ _ _ _ us hl=>match us,hl with | [_,_],_=>rfl
 obtain⟨fa_check_rowsX,fd_check_rowsX,cf⟩:=ce;have m_check_rowsX:=PySem.W.mg_of X G cf.a;have fT:=cf.F.binds (ps:=["hand", "is_writer", "writers"]) λ_ _ _ _ _ _ us hl=>match us,hl with | [_,_,_],_=>rfl
 obtain⟨fa_check_makingX,fd_check_makingX,bj⟩:=bc;have m_check_makingX:=PySem.W.mg_of X G bj.a;have eg:=bj.F.binds (ps:=["making"]) λ_ _ _ _ _ _ us hl=>match us,hl with | [_],_=>rfl
 obtain⟨fa_Lbad_rows,fd_Lbad_rows,dI⟩:=dA;have m_Lbad_rows:=PySem.W.mg_of X G dI.a;have fu:=dI.F.binds (ps:=["_law_well_here", "_law_making_here", "_law_at"]) λ_ _ _ _ _ _ us hl=>match us,hl with | [_,_,_],_=>rfl
 obtain⟨fa_Ltower,fd_Ltower,eV⟩:=eR;have m_Ltower:=PySem.W.mg_of X G eV.a;have gW:=eV.F.binds (ps:=["_law_word", "_law_many"]) λ_ _ _ _ _ _ us hl=>match us,hl with | [_,_],_=>rfl
 obtain⟨fa_Lbad_exprs,fd_Lbad_exprs,cj⟩:=cu;have m_Lbad_exprs:=PySem.W.mg_of X G cj.a;have fm:=cj.F.binds (ps:=[]) λ_ _ _ _ _ _ us hl=>match us,hl with | [],_=>rfl
 obtain⟨fa_Lbad_expr,fd_Lbad_expr,dD⟩:=dF;have m_Lbad_expr:=PySem.W.mg_of X G dD.a;have fq:=dD.F.binds (ps:=["_law_well_here"]) λ_ _ _ _ _ _ us hl=>match us,hl with | [_],_=>rfl
 obtain⟨fa_Lotherwise,fd_Lotherwise,cv⟩:=cm;have m_Lotherwise:=PySem.W.mg_of X G cv.a;have fY:=cv.F.binds (ps:=["_law_well_here", "_law_making_here", "_law_at"]) λ_ _ _ _ _ _ us hl=>match us,hl with | [_,_,_],_=>rfl
 obtain⟨fa_Lwith_row,fd_Lwith_row,dH⟩:=dE;have m_Lwith_row:=PySem.W.mg_of X G dH.a;have fo:=dH.F.binds (ps:=["_law_making_here", "_law_at", "_law_place", "_law_row_here"]) λ_ _ _ _ _ _ us hl=>match us,hl with | [_,_,_,_],_=>rfl
 obtain⟨fa_Lrefused,fd_Lrefused,di⟩:=dc;have m_Lrefused:=PySem.W.mg_of X G di.a;have gA:=di.F.binds (ps:=["_law_thing"]) λ_ _ _ _ _ _ us hl=>match us,hl with | [_],_=>rfl
 obtain⟨fa_law,fd_law,fX⟩:=gD;have m_law:=PySem.W.mg_of X G fX.a;have gf:=fX.F.binds (ps:=["_law_script"]) λ_ _ _ _ _ _ us hl=>match us,hl with | [_],_=>rfl
 obtain⟨dZ,at_NoEvents⟩:=x_NoEvents;have mc_NoEvents:=PySem.W.mg_of X G at_NoEvents;obtain⟨eS,at_NoLine⟩:=x_NoLine;have mc_NoLine:=PySem.W.mg_of X G at_NoLine;obtain⟨bP,at_NoMaking⟩:=x_NoMaking;have mc_NoMaking:=PySem.W.mg_of X G at_NoMaking;obtain⟨eF,at_NoPaper⟩:=x_NoPaper;have mc_NoPaper:=PySem.W.mg_of X G at_NoPaper;obtain⟨eX,at_NoStep⟩:=x_NoStep;have mc_NoStep:=PySem.W.mg_of X G at_NoStep;obtain⟨eU,at_NoText⟩:=x_NoText;have mc_NoText:=PySem.W.mg_of X G at_NoText;obtain⟨eT,at_NoUpon⟩:=x_NoUpon;have mc_NoUpon:=PySem.W.mg_of X G at_NoUpon;obtain⟨bW,at_StrongError⟩:=x_StrongError;have mc_StrongError:=PySem.W.mg_of X G at_StrongError;obtain⟨dv,at_TooMany⟩:=x_TooMany;have mc_TooMany:=PySem.W.mg_of X G at_TooMany;have ec_NoMaking:=xr_NoMaking _ at_NoMaking;have cd_StrongError:=xc_StrongError _ at_StrongError;have bl_StrongError:=xb_StrongError _ at_StrongError;have tb_NoEvents_NoLine_NoPaper_NoStep_NoText_NoUpon_TooMany:=xtb_NoEvents_NoLine_NoPaper_NoStep_NoText_NoUpon_TooMany _ (.cons at_NoEvents (.cons at_NoLine (.cons at_NoPaper (.cons at_NoStep (.cons at_NoText (.cons at_NoUpon (.cons at_TooMany NsL.nil)))))));have tb_NoMaking:=xtb_NoMaking _ (.cons at_NoMaking NsL.nil);have tb_ValueError:=xtb_ValueError;have e:=hfa.symm.trans m_law;cases e;refine⟨fd_law,λs v=>?_,λbase _ _=>?_⟩
 ·obtain⟨oc,od,kV,doc,pm,an,cdv,ct,osl,rfl,lk,hcd⟩:=fX.F.ex;exact .of_eq rfl
 have bv:Fn l.prog w K mg base "_law_cell_at" ["_law_script", "_law_k"] 1 (CT):=Cb (k:=0) .drop df.F sc_Lcell_at B1 gF (Mx aA);have eG:Fn l.prog w K mg base "_law_well" ["_law_cell"] 1 (Gj):=Cb (k:=0) .all fB.F sc_Lwell Fk gY (Tj gO);have Z5:Fn l.prog w K mg base "_law_draw" ["_law_well_here", "_law_base"] 1 (BC):=Cb (k:=0) .drop fO.F sc_Ldraw EI gX Tl;have ay:∀n:Nat,Fn l.prog w K mg base "_law_expr" ["_law_well_here", "_law_names", "_law_deep"] (n+2) (DD n):=λn=>by
  induction n with
  |zero=>exact JE eM.F Gc fz
  |succ n ih=>exact(Cb (k:=n+2) .drop eM.F sc_Lexpr Gc fz (Tk Z5 (by omega) ih (AAF _) aA eL)).mono (by omega)
 have fk:Fn l.prog w K mg base "_law_row" ["_law_well_here", "_law_own", "_law_boxes", "_law_names", "_law_many", "_law_is_writer"] 9 (HB):=Cb (k:=8) .drop fj.F sc_Lrow Kn gd (V8 Z5 (by decide) (ay 6) (by decide) eL cQ aA);have dm:Fn l.prog w K mg base "_law_making" ["_law_well_here"] 10 (f_Lmaking):=Cb (k:=9) .drop eA.F sc_Lmaking m_Lmaking gP (Ox Z5 (by decide) fk (by decide) cL aA az aT);have eC:Fn l.prog w K mg base "_law_within" ["_law_row_here"] 1 (f_Lwithin):=DB (k:=0) .all d7.F sc_Lwithin Fj gU Ow;have Z7:FnX l.prog w K mg base "need" ["holds", "words"] 1 (f_needX):=DA (k:=0) .all fL.F sc_needX FB gZ (Ti mc_NoMaking ec_NoMaking);have aJ:Fn l.prog w K mg base "is_tuple" ["thing", "least", "most"] 1 (CP):=Cb (k:=0) .drop dW.F sc_is_tuple D5 gL (Mv aT aB aA);have aL:Fn l.prog w K mg base "is_whole" ["thing", "least", "most"] 1 (CO):=Cb (k:=0) .drop dh.F sc_is_whole D4 gN (Mu cQ aB fe);have aW:FnX l.prog w K mg base "check_worths" ["kind", "size", "begin"] 2 (BX):=DA (k:=1) .all bp.F sc_check_worthsX BW e9 (HY Z7 (by decide) aL (by decide) dR bK bU);have aU:Fn l.prog w K mg base "is_name" ["thing"] 1 (CA):=Cb (k:=0) .drop dn.F sc_is_name Ei gR (Ov eK aB aA f7 cT);have ak:Fn l.prog w K mg base "are_unlike" ["names"] 1 (B2):=Cb (k:=0) .drop ck.F sc_are_unlike Ca fg (Kd aA gC);have cO:FnX l.prog w K mg base "check_boxes" ["boxes"] 3 (CS):=DA (k:=2) .all cM.F sc_check_boxesX Bj fM (Ib Z7 (by decide) aJ (by decide) aU (by decide) aW (by decide) ak (by decide) bJ);have cH:FnX l.prog w K mg base "check_hands" ["hands"] 2 (CQ):=DA (k:=1) .all cN.F sc_check_handsX Bi fD (Ia Z7 (by decide) aJ (by decide) aU (by decide) aL (by decide) ak (by decide) aw bD av bT);have aS:∀n:Nat,Fn l.prog w K mg base "is_expression" ["thing", "deep"] (n+2) (f_is_expression n):=λn=>by
  induction n with
  |zero=>exact JE bA.F m_is_expression c6
  |succ n ih=>exact(Cb (k:=n+2) .drop bA.F sc_is_expression m_is_expression c6 (HX ih (AAF _) aL (by omega) aU (by omega) aT aB aA bG bo)).mono (by omega)
 have dy:Fn l.prog w K mg base "is_part" ["part", "thing", "length"] 9 (f_is_part):=DB (k:=8) .all dq.F sc_is_part m_is_part gS (Ou (aS 6) (by decide) aL (by decide) aU (by decide) cV);have cY:FnX l.prog w K mg base "check_form" ["row", "length"] 10 (f_check_formX):=DA (k:=9) .all cX.F sc_check_formX m_check_formX fU (JX Z7 (by decide) aJ (by decide) dy (by decide) eK aB aA eJ bR);have bt:FnX l.prog w K mg base "check_ending" ["word", "is_writer"] 2 (f_check_endingX):=DA (k:=1) .all bh.F sc_check_endingX m_check_endingX eZ (Ha Z7 (by decide));have aq:∀n:Nat,Fn l.prog w K mg base "variables_in" ["expression"] (n+1) (BQ n):=λn=>by
  induction n with
  |zero=>exact JE bN.F A8 dS
  |succ n ih=>exact(Cb (k:=n+1) .frz bN.F sc_variables_in A8 dS (IZ ih (AAF _))).mono (by omega)
 have cJ:Fn l.prog w K mg base "variables_of" ["row"] 8 (DC):=Cb (k:=7) .frz cF.F sc_variables_of A1 fJ (IY (aq 6) (by decide) eJ bR);have bB:FnX l.prog w K mg base "check_variables" ["row", "is_writer"] 9 (f_check_variablesX):=DA (k:=8) .all bF.F sc_check_variablesX m_check_variablesX d8 (GB cJ (by decide) Z7 (by decide) al);have cW:FnX l.prog w K mg base "check_rows" ["hand", "is_writer", "writers"] 11 (f_check_rowsX):=DA (k:=10) .all cf.F sc_check_rowsX m_check_rowsX fT (JW cY (by decide) bt (by decide) bB (by decide) Z7 (by decide) aA);have aM:FnX l.prog w K mg base "check_making" ["making"] 12 (f_check_makingX):=DA (k:=11) .all bj.F sc_check_makingX m_check_makingX eg (HZ Z7 (by decide) aJ (by decide) aW (by decide) cO (by decide) cH (by decide) cW (by decide) az);have dG:Fn l.prog w K mg base "_law_bad_rows" ["_law_well_here", "_law_making_here", "_law_at"] 1 (f_Lbad_rows):=DB (k:=0) .all dI.F sc_Lbad_rows m_Lbad_rows fu (Ln aA);have ar:Fn l.prog w K mg base "_law_tower" ["_law_word", "_law_many"] 1 (f_Ltower):=DB (k:=0) .all eV.F sc_Ltower m_Ltower gW (Q2 cL);have cq:Fn l.prog w K mg base "_law_bad_exprs" [] 2 (f_Lbad_exprs):=DB (k:=1) .all cj.F sc_Lbad_exprs m_Lbad_exprs fm (Kf ar (by decide));have dB:Fn l.prog w K mg base "_law_bad_expr" ["_law_well_here"] 3 (f_Lbad_expr):=DB (k:=2) .all dD.F sc_Lbad_expr m_Lbad_expr fq (Lo cq (by decide) Z5 (by decide) aA);have cw:Fn l.prog w K mg base "_law_otherwise" ["_law_well_here", "_law_making_here", "_law_at"] 4 (f_Lotherwise):=DB (k:=3) .all cv.F sc_Lotherwise m_Lotherwise fY (Ke Z5 (by decide) dG (by decide) dB (by decide) aA);have cS:Fn l.prog w K mg base "_law_with_row" ["_law_making_here", "_law_at", "_law_place", "_law_row_here"] 1 (f_Lwith_row):=DB (k:=0) .all dH.F sc_Lwith_row m_Lwith_row fo Lm;have de:Fn l.prog w K mg base "_law_refused" ["_law_thing"] 13 (f_Lrefused):=DB (k:=12) .all di.F sc_Lrefused m_Lrefused gA (Mw aM (by decide) mc_StrongError mc_NoEvents mc_NoLine mc_NoPaper mc_NoStep mc_NoText mc_NoUpon mc_TooMany mc_NoMaking cd_StrongError bl_StrongError tb_NoEvents_NoLine_NoPaper_NoStep_NoText_NoUpon_TooMany tb_NoMaking tb_ValueError aB cn);exact Vh (φ:=f_law) (SI (k:=13) .drop fX.F sc_law (YK bv (by decide) eG (by decide) dm (by decide) eC (by decide) aM (by decide) Z5 (by decide) cw (by decide) cS (by decide) de (by decide) ar (by decide) aT aA cQ)) hφ
end K4
namespace K3
open PySem L2 Mi K1 Xc
noncomputable def FB  : Sl->M (Fl×Sl):=
  (sIf (M8 (Ac (AD 0))) (KY "NoMaking" (AB (AD 1) AH)) BT)
noncomputable def BW(Z4:List D->M Dx)(aC:List D->M D):Sl->M (Fl×Sl):=
  (AS (Ak (Al Z4 (AB (mOp NB (AD 0) (mC Ho)) (AB (mC (.str "a kind is safe, steady or whole")) AH))))
  (AS (Ak (Al Z4 (AB (AF aC (AB (AD 1) (AB (mC Do) (AB (mC EK) AH)))) (AB (mC (.str "a size is a whole number from 2 to 10")) AH))))
  (Ak (Al Z4 (AB (AF aC (AB (AD 2) (AB (mC (.int 0)) (AB (mOp Dz (AD 1) (mC (.int 1))) AH)))) (AB (mC (.str "a begin is a worth of its box")) AH))))))
noncomputable def Bj(Z4:List D->M Dx)(Z8:List D->M D)(aD:List D->M D)(aF:List D->M Dx)(aI:List D->M D):Sl->M (Fl×Sl):=
  (AS (Ak (Al Z4 (AB (AF Z8 (AB (AD 0) (AB (mC (.int 0)) (AB (mC Dm) AH)))) (AB (mC (.str "boxes are a tuple of at most six")) AH))))
  (AS (Dv (CC (AD 0)) (AM 1) (AS (Ak (Al Z4 (AB (AF Z8 (AB (AD 1) (AB (mC (.int 5)) (AB (mC (.int 5)) AH)))) (AB (mC (.str "a box is a tuple of five parts")) AH))))
  (AS (Ak (Al Z4 (AB (AF aD (AB (mOp AT (AD 1) (mC (.int 0))) AH)) (AB (mC (.str "a box has a name")) AH))))
  (Ak (Al aF (AB (mOp AT (AD 1) (mC (.int 1))) (AB (mOp AT (AD 1) (mC (.int 2))) (AB (mOp AT (AD 1) (mC (.int 3))) AH))))))))
  (Ak (Al Z4 (AB (AF aI (AB (BE 1 [] (CC (AD 0)) (AM 0) BO (mOp AT (AD 0) (mC (.int 0))) Am) AH)) (AB (mC (.str "two boxes have one name")) AH))))))
noncomputable def Bi(Z4:List D->M Dx)(Z8:List D->M D)(aD:List D->M D)(aC:List D->M D)(aI:List D->M D):Sl->M (Fl×Sl):=
  (AS (Ak (Al Z4 (AB (AF Z8 (AB (AD 0) (AB (mC DS) (AB (mC Dl) AH)))) (AB (mC (.str "hands are a tuple of two to four")) AH))))
  (AS (Dv (CC (AD 0)) (AM 1) (AS (Ak (Al Z4 (AB (AF Z8 (AB (AD 1) (AB (mC (.int 3)) (AB (mC (.int 3)) AH)))) (AB (mC (.str "a hand is a tuple of three parts")) AH))))
  (AS (Ak (Al Z4 (AB (AF aD (AB (mOp AT (AD 1) (mC (.int 0))) AH)) (AB (mC (.str "a hand has a name")) AH))))
  (AS (Ak (Al Z4 (AB (AF aC (AB (mOp AT (AD 1) (mC (.int 1))) (AB (mC (.int 0)) (AB (mC DR) AH)))) (AB (mC (.str "a told count is a whole number from 0 to 400")) AH))))
  (Ak (Al Z4 (AB (AF Z8 (AB (mOp AT (AD 1) (mC (.int 2))) (AB (mC (.int 0)) (AB (mC EL) AH)))) (AB (mC (.str "rows are a tuple of at most sixty")) AH))))))))
  (Ak (Al Z4 (AB (AF aI (AB (BE 1 [] (CC (AD 0)) (AM 0) BO (mOp AT (AD 0) (mC (.int 0))) Am) AH)) (AB (mC (.str "two hands have one name")) AH))))))
noncomputable def m_Lmaking(Z3:List D->M D)(dN:List D->M D):Sl->M (Fl×Sl):=
  (AS (Ai (AF Am (AB (mC (.str "w")) (AB (mC (.str "r")) (AB (mC (.str "put")) (AB (mC (.str "makes")) (AB (mC (.str "box")) (AB (mC (.str "hand")) (AB (mC (.str "abcdefgh")) (AB (mC (.str "z")) (AB (mC (.str "not")) (AB (mC (.str "v")) (AB (mC (.str "safe")) (AB (mC (.str "x")) AH))))))))))))) (AM 1))
  (AS (Ai (AF Z3 (AB (AD 0) (AB (mC (.int 12)) AH))) (AM 2))
  (AS (Ai (mOp A7 (Ej (AD 1) (Bz (AD 2)) Br) (Ej (AD 1) Br (Bz (AD 2)))) (AM 1))
  (AS (Ai (Ej (AD 1) Br (Bz (mOp A7 (mC (.int 2)) (AF Z3 (AB (AD 0) (AB (mC (.int 3)) AH)))))) (AM 3))
  (AS (Ai (AF FA AH) (AM 4))
  (AS (Dv (Io (AB (AF Z3 (AB (AD 0) (AB (mC (.int 7)) AH))) AH)) (AM 5) (AS (Ai (mOp A7 (mC (.int 2)) (AF Z3 (AB (AD 0) (AB (mC (.int 9)) AH)))) (AM 6))
  (AS (Ai (mOp AT (AF Am (AB (mC (.str "safe")) (AB (mC (.str "steady")) (AB (mC (.str "whole")) AH)))) (AF Z3 (AB (AD 0) (AB (mC (.int 3)) AH)))) (AM 7))
  (EH (Ch HM (AD 4) (AB (AF AY (AB (mOp AT (AD 1) (mOp Dz (mC (.int 11)) (AD 5))) (AB (AD 7) (AB (AD 6) (AB (AF Z3 (AB (AD 0) (AB (AD 6) AH))) (AB (mOp AT (AD 3) (AF Z3 (AB (AD 0) (AB (AF Bk (AB (AD 3) AH)) AH)))) AH)))))) AH))))))
  (AS (Ai (AF FA AH) (AM 8))
  (AS (Ai (AF Z3 (AB (AD 0) (AB (mOp DX (mC (.int 9)) (AF Bk (AB (AD 3) AH))) AH))) (AM 9))
  (AS (Dv (L7 (AB (AD 3) AH)) (GN [5,10]) (AS (Ai (mOp AT (AF Am (AB (mC (.int 0)) (AB (mC (.int 1)) (AB (mC (.int 3)) (AB (mC (.int 5)) (AB (mC (.int 7)) AH)))))) (AF Z3 (AB (AD 0) (AB (mC (.int 5)) AH)))) (AM 11))
  (AS (sIf (Ac (mOp BF (AD 5) (AD 9))) (Ai (mC (.int 60)) (AM 11)) BT)
  (AS (Ai (BE 1 [10] (Gd (AD 4)) (AM 0) (Ac (mOp BF (mOp AT (AD 0) (mC (.int 4))) (AD 1))) (mOp AT (AD 0) (mC (.int 0))) Am) (AM 12))
  (AS (Ai (Ej (AF Am (AB (mC (.str "x")) (AB (mC (.str "abcdefgh")) (AB (mC (.str "tell")) (AB (mC (.str "vv")) (AB (mC (.str "if")) AH)))))) Br (Bz (mOp A7 (mC (.int 1)) (AF Z3 (AB (AD 0) (AB (mC (.int 5)) AH)))))) (AM 13))
  (AS (Ai (BE 1 [4,5,11,12,13,0] (Io (AB (AD 11) AH)) (AM 0) BO (AF dN (AB (AD 6) (AB (AD 4) (AB (BE 1 [] (Gd (AD 1)) (AM 0) BO (mOp AT (AD 0) (mC (.int 0))) Am) (AB (AD 5) (AB (AD 3) (AB (mOp BF (AD 2) (mC (.int 0))) AH))))))) Am) (AM 14))
  (EH (Ch HM (AD 8) (AB (AF AY (AB (AD 10) (AB (mOp AT (AF Am (AB (mC (.int 0)) (AB (mC (.int 1)) (AB (mC (.int 9)) (AB (mC (.int 99)) (AB (mC (.int 400)) AH)))))) (AF Z3 (AB (AD 0) (AB (mC (.int 5)) AH)))) (AB (AF DH (AB (AD 14) AH)) AH)))) AH)))))))))
  (AS (Ai (mOp A7 (mC (.int 2)) (AF Z3 (AB (AD 0) (AB (mC (.int 9)) AH)))) (AM 6))
  (AS (Ai (mOp AT (AF Am (AB (mC (.str "safe")) (AB (mC (.str "steady")) (AB (mC (.str "whole")) AH)))) (AF Z3 (AB (AD 0) (AB (mC (.int 3)) AH)))) (AM 7))
  (BA (AF AY (AB (AD 7) (AB (AD 6) (AB (AF Z3 (AB (AD 0) (AB (AD 6) AH))) (AB (AF DH (AB (AD 4) AH)) (AB (AF DH (AB (AD 8) AH)) AH))))))))))))))))))
noncomputable def f_Lmaking:List D->M D:=Bq .drop 15 1 (m_Lmaking BC HB)
noncomputable def f_needX:List D->M Dx:=Cw .all 2 2 (FB)
noncomputable def BX:List D->M Dx:=Cw .all 3 3 (BW f_needX CO)
noncomputable def CS:List D->M Dx:=Cw .all 2 1 (Bj f_needX CP CA BX B2)
noncomputable def CQ:List D->M Dx:=Cw .all 2 1 (Bi f_needX CP CA CO B2)
end K3
namespace Mi
open PySem L2
section
variable{τ τ1:Sl}{μ μ1 μ2 μ3 μ4:Mh}{d x y z:D}{ds:List D}{ma mb mc:Sl->M D}{tc tb:Sl->M Bool}{b:Bool}{m1 m2:Sl->M (Fl×Sl)}{g g':D->D->M D}{r:Fl×Sl}
theorem Cp{i:Nat}(h:τ[i]?=some (some d)):AD i τ μ=some (d,μ):=by unfold AD;rw[h]
theorem GJ:mC d τ μ=some (d,μ):=rfl
theorem BK(h1:ma τ μ=some (x,μ1))(h2:mb τ μ1=some (y,μ2))(h3:g x y μ2=some (d,μ3)):mOp g ma mb τ μ=some (d,μ3):=by unfold mOp;rw[AQ h1,AQ h2,h3]
theorem VO{u:D->M D}(h1:ma τ μ=some (x,μ1))(h3:u x μ1=some (d,μ3)):mUn u ma τ μ=some (d,μ3):=by unfold mUn;rw[AQ h1,h3]
theorem Uo:AH τ μ=some ([],μ):=rfl
theorem Aw{as:Sl->M (List D)}(h1:ma τ μ=some (x,μ1))(h2:as τ μ1=some (ds,μ2)):AB ma as τ μ=some (x::ds,μ2):=by unfold AB;rw[AQ h1,AQ h2];rfl
theorem A4{f:List D->M D}{as:Sl->M (List D)}(h1:as τ μ=some (ds,μ1))(h2:f ds μ1=some (d,μ2)):AF f as τ μ=some (d,μ2):=by unfold AF;rw[AQ h1,h2]
theorem OM{f:D->List D->M D}{as:Sl->M (List D)}{u:Unit}(h1:ma τ μ=some (x,μ1))(h0:ET x μ1=some (u,μ2))(h2:as τ μ2=some (ds,μ3))(h3:f x ds μ3=some (d,μ4)):Ch f ma as τ μ=some (d,μ4):=by unfold Ch;rw[AQ h1,AQ h0,AQ h2,h3]
theorem CG(h:ma τ μ=some (.bl b,μ1)):Ac ma τ μ=some (b,μ1):=by unfold Ac;rw[AQ h];rfl
theorem Gm(h1:tc τ μ=some (true,μ1))(h2:tb τ μ1=some (b,μ2)):Ip tc tb τ μ=some (b,μ2):=by unfold Ip;rw[AQ h1,if_pos rfl,h2]
theorem K9(h1:tc τ μ=some (false,μ1)):Ip tc tb τ μ=some (false,μ1):=by unfold Ip;rw[AQ h1];rfl
theorem XX(h1:tc τ μ=some (true,μ1)):mOr tc tb τ μ=some (true,μ1):=by unfold mOr;rw[AQ h1];rfl
theorem XY(h1:tc τ μ=some (false,μ1))(h2:tb τ μ1=some (b,μ2)):mOr tc tb τ μ=some (b,μ2):=by unfold mOr;rw[AQ h1,if_neg (by decide),h2]
theorem SK(h1:ma τ μ=some (.bl true,μ1))(h2:mb τ μ1=some (d,μ2)):DE ma mb τ μ=some (d,μ2):=by
 unfold DE;rw[AQ h1,AQ (show asB (.bl true) μ1=some (true,μ1) from rfl),if_pos rfl,h2]
theorem Pj(h1:ma τ μ=some (x,μ1))(h2:mb τ μ1=some (y,μ2))(h3:g x y μ2=some (.bl true,μ3))(h4:mc τ μ3=some (z,μ4))(h5:g' y z μ4=some (d,μ4)):D6 g g' ma mb mc τ μ=some (d,μ4):=by
 unfold D6;rw[AQ h1,AQ h2,AQ h3,AQ (show asB (.bl true) μ3=some (true,μ3) from rfl),if_pos rfl,AQ h4,h5]
theorem Ph:Br τ μ=some (none,μ):=rfl
theorem Um{i:Int}(h:ma τ μ=some (.int i,μ1)):Bz ma τ μ=some (some i,μ1):=by unfold Bz;rw[AQ h];rfl
theorem Y7{l h:Sl->M (Option Int)}{a b:Option Int}(h1:ma τ μ=some (x,μ1))(h2:l τ μ1=some (a,μ2))(h3:h τ μ2=some (b,μ3))(h4:Q5 a b x μ3=some (d,μ4)):mSl ma l h τ μ=some (d,μ4):=by unfold mSl;rw[AQ h1,AQ h2,AQ h3,h4]
theorem XZ:BT τ μ=some ((.next,τ),μ):=rfl
theorem Bc(h1:m1 τ μ=some ((.next,τ1),μ1))(h2:m2 τ1 μ1=some (r,μ2)):AS m1 m2 τ μ=some (r,μ2):=by unfold AS;rw[AQ h1];exact h2
theorem Gk(h1:m1 τ μ=some ((.rt d,τ1),μ1)):AS m1 m2 τ μ=some ((.rt d,τ1),μ1):=by unfold AS;rw[AQ h1];rfl
theorem Uq(h1:ma τ μ=some (d,μ1)):EH ma τ μ=some ((.next,τ),μ1):=by unfold EH;rw[AQ h1];rfl
theorem K8(h1:ma τ μ=some (d,μ1)):BA ma τ μ=some ((.rt d,τ),μ1):=by unfold BA;rw[AQ h1];rfl
theorem HC(h1:tc τ μ=some (true,μ1))(h2:m1 τ μ1=some (r,μ2)):sIf tc m1 m2 τ μ=some (r,μ2):=by unfold sIf;rw[AQ h1,if_pos rfl,h2]
theorem De(h1:tc τ μ=some (false,μ1))(h2:m2 τ μ1=some (r,μ2)):sIf tc m1 m2 τ μ=some (r,μ2):=by unfold sIf;rw[AQ h1,if_neg (by decide),h2]
theorem D8{bf:D->Sl->M Sl}(h1:ma τ μ=some (d,μ1))(h2:bf d τ μ1=some (τ1,μ2)):Ai ma bf τ μ=some ((.next,τ1),μ2):=by unfold Ai;rw[AQ h1,AQ h2];rfl
theorem Up{i:Nat}(h:τ.set i (some d)=τ1):AM i d τ μ=some (τ1,μ):=by rw[←h];rfl
theorem XW{u:Unit}(h1:ma τ μ=some (x,μ1))(h2:mb τ μ1=some (y,μ2))(h3:Qm x y d μ2=some (u,μ3)):Sj ma mb d τ μ=some (τ,μ3):=by unfold Sj;rw[AQ h1,AQ h2,AQ h3];rfl
theorem Xa{src:Sl->M (List D)}{bf:D->Sl->M Sl}(h1:src τ μ=some (ds,μ1))(h2:FH bf m1 ds τ μ1=some (r,μ2)):Dv src bf m1 τ μ=some (r,μ2):=by unfold Dv;rw[AQ h1,h2]
theorem PL{i j:Int}(h:i<j):FL (.int i) (.int j) μ=some (.bl true,μ):=by show some (D.bl (decide (i<j)),μ)=_;rw[AAP h]
theorem Rv{i j:Int}(h:j<=i):FL (.int i) (.int j) μ=some (.bl false,μ):=by show some (D.bl (decide (i<j)),μ)=_;rw[AAO (by omega)]
theorem Zm{i j:Int}(h:i<=j):GC (.int i) (.int j) μ=some (.bl true,μ):=by show some (D.bl (decide (i<=j)),μ)=_;rw[AAP h]
theorem Zn{i j:Int}(h:j<i):Ie (.int i) (.int j) μ=some (.bl true,μ):=by show some (D.bl (decide (j<i)),μ)=_;rw[AAP h]
theorem Yv{i j:Int}(h:i<=j):Ie (.int i) (.int j) μ=some (.bl false,μ):=by show some (D.bl (decide (j<i)),μ)=_;rw[AAO (by omega)]
theorem VH{i j:Int}(h:0<j):FT (.int i) (.int j) μ=some (.int (i % j),μ):=by show (if 0<j then some (D.int (i % j),μ) else none)=_;rw[if_pos h]
theorem W8{i j:Int}(h:0<j)(h2:j<1073741824):G3 (.int i) (.int j) μ=some (.int (i / j),μ):=by show (if 0<j/\j<1073741824 then some (D.int (i / j),μ) else none)=_;rw[if_pos ⟨h,h2⟩]
theorem VG{i j:Int}(h:(-(2 ^ 64)<i/\i<2 ^ 64)∨(-(2 ^ 64)<j/\j<2 ^ 64)):DX (.int i) (.int j) μ=some (.int (i * j),μ):=by show (if (-(2 ^ 64)<i/\i<2 ^ 64)∨(-(2 ^ 64)<j/\j<2 ^ 64) then some (D.int (i * j),μ) else none)=_;rw[if_pos h]
theorem Yy{i j:Int}:C8 (.int i) (.int j) μ=some (.int (i+j),μ):=rfl
theorem Yr{i j:Int}:Dz (.int i) (.int j) μ=some (.int (i-j),μ):=rfl
theorem PM{x:Str}:F1 [.str x,.ty "str"] μ=some (.bl true,μ):=by
 show (Js "str" "str").map (λb=>(D.bl b,μ))=_;rw[show Js "str" "str" = some true from by decide];rfl
theorem Kr{n:Nat}{ds:List D}{i:Int}(h:μ[n]?=some (.lst ds))(h2:atI ds i=some d):AT (.ref n) (.int i) μ=some (d,μ):=by
 show bnd (B4 (.ref n)) (λds=>ixD ds i) μ=_;rw[AQ (show B4 (.ref n) μ=some (ds,μ) from by show (match μ[n]? with|some (.lst ds)=>some (ds,μ)|_=>none)=_;rw[h])];unfold ixD;rw[h2];rfl
theorem F0{ds:List D}{i:Int}(h2:atI ds i=some d):AT (.tup ds) (.int i) μ=some (d,μ):=by
 show bnd (B4 (.tup ds)) (λds=>ixD ds i) μ=_;rw[AQ (show B4 (.tup ds) μ=some (ds,μ) from rfl)];unfold ixD;rw[h2];rfl
theorem HS{ds:List D}{i:Int}(h2:atI ds i=some d):AT (.lst ds) (.int i) μ=some (d,μ):=by
 show bnd (B4 (.lst ds)) (λds=>ixD ds i) μ=_;rw[AQ (show B4 (.lst ds) μ=some (ds,μ) from rfl)];unfold ixD;rw[h2];rfl
theorem Ys{n j:Nat}{k:Int}{ds:List D}(h:μ[n]?=some (.lst ds))(h2:ixN ds.length k=some j):Qm (.ref n) (.int k) d μ=some ((),μ.set n (.lst (ds.set j d))):=by
 show (match μ[n]? with|some (.lst ds)=>(ixN ds.length k).map λj=>((),μ.set n (.lst (ds.set j d)))|_=>none)=_;rw[h];show (ixN ds.length k).map _=_;rw[h2];rfl
end
end Mi
local macro_rules | `(tactic| wtm_at "g")=>`(tactic| first|rfl|assumption)
local macro_rules | `(tactic| wtm_at "b")=>`(tactic| first
 |(with_reducible apply Mi.XZ)|(with_reducible apply Mi.Uo)|(with_reducible apply Mi.GJ)|(with_reducible apply Mi.Ph)|(with_reducible apply Mi.ev_retN)
 |((with_reducible apply Mi.Cp);first|rfl|assumption)
 |((with_reducible apply Mi.Gk);wtm_at "b")
 |((with_reducible apply Mi.Bc);(wtm_at "b");(wtm_at "b"))
 |((with_reducible apply Mi.D8);(wtm_at "b");(wtm_at "b"))
 |((with_reducible apply Mi.Up);rfl)
 |((with_reducible apply Mi.XW);(wtm_at "b");(wtm_at "b");(wtm_at "b"))
 |((with_reducible apply Mi.Uq);wtm_at "b")
 |((with_reducible apply Mi.K8);wtm_at "b")
 |((with_reducible apply Mi.HC);(wtm_at "b");(wtm_at "b"))
 |((with_reducible apply Mi.De);(wtm_at "b");(wtm_at "b"))
 |((with_reducible apply Mi.BK);(wtm_at "b");(wtm_at "b");(wtm_at "b"))
 |((with_reducible apply Mi.VO);(wtm_at "b");(wtm_at "b"))
 |((with_reducible apply Mi.A4);(wtm_at "b");(wtm_at "b"))
 |((with_reducible apply Mi.Aw);(wtm_at "b");(wtm_at "b"))
 |((with_reducible apply Mi.OM);(wtm_at "b");(wtm_at "b");(wtm_at "b");(wtm_at "b"))
 |((with_reducible apply Mi.CG);wtm_at "b")
 |((with_reducible apply Mi.ev_notT);wtm_at "b")
 |((with_reducible apply Mi.ev_notF);wtm_at "b")
 |((with_reducible apply Mi.Gm);(wtm_at "b");(wtm_at "b"))
 |((with_reducible apply Mi.K9);wtm_at "b")
 |((with_reducible apply Mi.XY);(wtm_at "b");(wtm_at "b"))
 |((with_reducible apply Mi.XX);wtm_at "b")
 |((with_reducible apply Mi.SK);(wtm_at "b");(wtm_at "b"))
 |((with_reducible apply Mi.ev_andVF);wtm_at "b")
 |((with_reducible apply Mi.ev_orVF);(wtm_at "b");(wtm_at "b"))
 |((with_reducible apply Mi.ev_orVT);wtm_at "b")
 |((with_reducible apply Mi.ev_notVT);wtm_at "b")
 |((with_reducible apply Mi.ev_notVF);wtm_at "b")
 |((with_reducible apply Mi.Pj);(wtm_at "b");(wtm_at "b");(wtm_at "b");(wtm_at "b");(wtm_at "b"))
 |((with_reducible apply Mi.ev_chainF);(wtm_at "b");(wtm_at "b");(wtm_at "b"))
 |((with_reducible apply Mi.Um);wtm_at "b")
 |((with_reducible apply Mi.Y7);(wtm_at "b");(wtm_at "b");(wtm_at "b");(wtm_at "b"))
 |wtm_at "g")
local macro_rules | `(tactic| wtm_at "e")=>`(tactic| first|assumption|decide|omega)
local macro_rules | `(tactic| wtm_at "g")=>`(tactic| first
 |((with_reducible apply Mi.Zm);wtm_at "e")|((with_reducible apply Mi.l_leF);wtm_at "e")|((with_reducible apply Mi.PL);wtm_at "e")|((with_reducible apply Mi.Rv);wtm_at "e")|((with_reducible apply Mi.Zn);wtm_at "e")|((with_reducible apply Mi.Yv);wtm_at "e")
 |(with_reducible apply Mi.l_inst_ii)|(with_reducible apply Mi.l_inst_ib)|(with_reducible apply Mi.PM)|(with_reducible apply Mi.l_inst_tt)|(with_reducible apply Mi.Yy)|(with_reducible apply Mi.Yr)|((with_reducible apply Mi.VH);wtm_at "e")|((with_reducible apply Mi.W8);(wtm_at "e");(wtm_at "e"))|((with_reducible apply Mi.VG);first|(left;omega)|(right;omega))
 |((with_reducible apply Mi.F0);rfl)|((with_reducible apply Mi.HS);rfl)|((with_reducible apply Mi.Kr);(first|assumption|rfl);(rfl))|((with_reducible apply Mi.Ys);(first|assumption|rfl);(rfl)))
namespace K1
open PySem L2 Mi
section
variable{μ:Mh}{x y:Str}
theorem Ry{i j:Int}:BF (.int i) (.int j) μ=some (.bl (i==j),μ):=rfl
theorem XB{i j:Int}(h:i=j):BF (.int i) (.int j) μ=some (.bl true,μ):=by rw[Ry,h,beq_self_eq_true]
theorem XC{i j:Int}(h:i≠j):BF (.int i) (.int j) μ=some (.bl false,μ):=by rw[Ry,AAe.mpr h]
theorem Ew(h:PyData.strOk x=true):SeqAt.shaped (.str x)=true:=by
 show (PyData.strOk x&&decide ((PyData.str x).depth<=64))=true;rw[h];rfl
theorem Rx(h1:PyData.strOk x=true)(h2:PyData.strOk y=true):BF (.str x) (.str y) μ=some (.bl (x==y),μ):=by
 show (if SeqAt.shaped (.str x)=true/\SeqAt.shaped (.str y)=true then some (D.bl (x==y),μ) else none)=_;rw[if_pos ⟨Ew h1,Ew h2⟩]
theorem Yu(h1:PyData.strOk x=true)(h2:PyData.strOk y=true):Dd (.str x) (.str y) μ=some (.bl (!(x==y)),μ):=by
 show (if SeqAt.shaped (.str x)=true/\SeqAt.shaped (.str y)=true then some (D.bl (!(x==y)),μ) else none)=_;rw[if_pos ⟨Ew h1,Ew h2⟩]
theorem W9(h1:PyData.strOk x=true)(h2:PyData.strOk y=true)(h:x=y):BF (.str x) (.str y) μ=some (.bl true,μ):=by rw[Rx h1 h2,h,beq_self_eq_true]
theorem XA(h1:PyData.strOk x=true)(h2:PyData.strOk y=true)(h:x≠y):BF (.str x) (.str y) μ=some (.bl false,μ):=by rw[Rx h1 h2,AAe.mpr h]
theorem Jx:∀xs:List Str,G9 (xs.map D.str)=some (xs.map V.str)
 |[]=>rfl
 |x::r=>by show (Jz (.str x)).bind _=_;rw[Jx r];rfl
theorem MG:∀xs:List Str,inV (.str x) (xs.map V.str)=decide (x∈xs)
 |[]=>rfl
 |y::r=>by
  have h:=MG r;unfold inV at h ⊢;rw[AAX,List.any_cons,h];show ((y==x)||decide (x∈r))=_;by_cases e:x=y
  ·subst e;simp
  ·have:(y==x)=false:=AAe.mpr λz=>e z.symm;rw[this,Bool.false_or];simp[e]
theorem Ks{neg:Bool}{ds:List D}{c:D}{xs:List Str}(h:B4 c μ=some (xs.map D.str,μ)):JB neg (.str x) c μ=some (.bl (if neg then !decide (x∈xs) else decide (x∈xs)),μ):=by
 unfold JB;rw[AQ h];simp only[Jx];show (match Jz (.str x),some (xs.map V.str) with|some x,some xs=>some (D.bl (if neg then !inV x xs else inV x xs),μ)|_,_=>none)=_;show some (D.bl (if neg then !inV (.str x) (xs.map V.str) else inV (.str x) (xs.map V.str)),μ)=_;rw[MG]
theorem VI{xs:List Str}(h:x∈xs):G1 false (.str x) (sl xs) μ=some (.bl true,μ):=by
 show JB false (.str x) (.tup (xs.map D.str)) μ=_;rw[Ks (ds:=[]) rfl,AAP h];rfl
theorem VJ{xs:List Str}(h:x∉xs):G1 false (.str x) (sl xs) μ=some (.bl false,μ):=by
 show JB false (.str x) (.tup (xs.map D.str)) μ=_;rw[Ks (ds:=[]) rfl,AAO h];rfl
theorem Iw{ds:List D}:Bk [.tup ds] μ=some (.int ds.length,μ):=rfl
theorem Ix{ds:List D}:Bk [.lst ds] μ=some (.int ds.length,μ):=rfl
end
end K1
local macro_rules | `(tactic| wtm_at "d")=>`(tactic| first|assumption|decide +kernel)
local macro_rules | `(tactic| wtm_at "g")=>`(tactic| first
 |(with_reducible apply K1.Iw)|(with_reducible apply K1.Ix)
 |((with_reducible apply K1.XB);wtm_at "e")|((with_reducible apply K1.XC);wtm_at "e")|((with_reducible apply K1.l_neIT);wtm_at "e")|((with_reducible apply K1.l_neIF);wtm_at "e")
 |((with_reducible apply K1.W9);(wtm_at "d");(wtm_at "d");(first|rfl|wtm_at "d"))|((with_reducible apply K1.XA);(wtm_at "d");(wtm_at "d");(wtm_at "d"))|((with_reducible apply K1.l_neST);(wtm_at "d");(wtm_at "d");(wtm_at "d"))|((with_reducible apply K1.l_neSF);(wtm_at "d");(wtm_at "d");(first|rfl|wtm_at "d"))
 |((with_reducible apply K1.VI);wtm_at "d")|((with_reducible apply K1.VJ);wtm_at "d")|((with_reducible apply K1.l_ninT);wtm_at "d"))
namespace K1
open PySem L2 Mi
end K1
local macro_rules | `(tactic| wtm_at "g")=>`(tactic| first
 |(with_reducible apply K1.v_need)|((with_reducible apply K1.v_is_whole);(wtm_at "e");(wtm_at "e"))|((with_reducible apply K1.v_is_tuple);(first|wtm_at "e" |simp);(first|wtm_at "e" |simp)))
namespace K1
open PySem L2 Mi
def WellAt(μ:Mh)(n:Nat):Prop:=∃a m c:Int,μ[n]?=some (.lst [.int a,.int m,.int c])/\0<=a
def Upd(n:Nat)(μ μ':Mh):Prop:=∃a m c:Int,0<=a/\μ'=μ.set n (.lst [.int a,.int m,.int c])
section
variable{μ μ1 μ2:Mh}{n:Nat}{d:D}{τ2:Sl}
theorem WellAt.lt(h:WellAt μ n):n<μ.length:=by
 obtain⟨_,_,_,h,_⟩:=h;exact(AAU.mp h).1
theorem WellAt.refl(h:WellAt μ n):Upd n μ μ:=by
 have hl:=h.lt;obtain⟨a,m,c,h,ha⟩:=h;refine⟨a,m,c,ha,?_⟩;apply List.ext_getElem?;intro j;rw[List.getElem?_set];split
 ·rename_i e;subst e;exact h
 ·rfl
theorem Upd.trans(h:Upd n μ μ1)(h2:Upd n μ1 μ2):Upd n μ μ2:=by
 obtain⟨a,m,c,ha,rfl⟩:=h;obtain⟨a2,m2,c2,ha2,rfl⟩:=h2;exact⟨a2,m2,c2,ha2,by rw[List.set_set]⟩
theorem Upd.len(h:Upd n μ μ1):μ1.length=μ.length:=by
 obtain⟨a,m,c,ha,rfl⟩:=h;simp
theorem Upd.well(h:Upd n μ μ1)(hn:n<μ.length):WellAt μ1 n:=by
 obtain⟨a,m,c,ha,rfl⟩:=h;exact⟨a,m,c,by rw[List.getElem?_set_self hn],ha⟩
theorem Upd.other(h:Upd n μ μ1){j:Nat}(hj:j≠n):μ1[j]?=μ[j]?:=by
 obtain⟨a,m,c,ha,rfl⟩:=h;rw[AAl (λe=>hj e.symm)]
theorem Upd.app{g:Mh}(h:Upd n (μ++g) μ1)(hn:n<μ.length):∃μ2,Upd n μ μ2/\μ1=μ2++g:=by
 obtain⟨a,m,c,ha,rfl⟩:=h;exact⟨_,⟨a,m,c,ha,rfl⟩,by rw[List.set_append_left _ _ hn]⟩
theorem SZ{k:Nat}{a m c:Int}:ClL k [D.int a,.int m,.int c]:=by simp[ClL,Cl]
theorem Upd.tells{g:Mh}(h:Upd n μ μ1)(c:Cl μ.length d):FI μ (μ1++g) μ1 d d:=by
 refine⟨⟨g,rfl⟩,by rw[h.len];exact AAF _,λj o e=>?_,.inl ⟨rfl,by rw[h.len];exact c⟩⟩;by_cases hj:j=n
 ·subst hj;obtain⟨a,m,c,ha,rfl⟩:=h;right;rw[List.getElem?_set] at e;simp at e;obtain⟨_,rfl⟩:=e;exact SZ
 ·left;rw[←h.other hj];exact e
theorem Fr{N ps:Nat}{mb:Sl->M (Fl×Sl)}{ds:List D}{g:Mh}(e:mb (A9 N ds) μ=some ((.rt d,τ2),μ1++g))(hl:ds.length=ps)(u:Upd n μ μ1)(c:Cl μ.length d):Bq .drop N ps mb ds μ=some (d,μ1):=by
 have t:Ij μ (μ1++g) .drop=μ1:=by show (μ1++g).take μ.length=μ1;rw[←u.len,List.take_left]
 have h:=Fc (hw:=.drop) e hl (.inr ⟨d,rfl⟩) (by rw[t];exact u.tells c);rw[t] at h;exact h
theorem UU{ds:List D}{i:Int}(hn:n<μ.length)(h2:atI ds i=some d):AT (.ref n) (.int i) (μ.set n (.lst ds))=some (d,μ.set n (.lst ds)):=Kr (List.getElem?_set_self hn) h2
end
end K1
local macro_rules | `(tactic| wtm_at "g")=>`(tactic| first
 |((with_reducible apply K1.UU);(assumption);(rfl))|((with_reducible apply K1.l_setSet);(assumption);(rfl)))
namespace K1
open PySem L2 Mi
section
variable{μ μ':Mh}{n:Nat}{b:Int}{τ2:Sl}
theorem Cg(w:WellAt μ n)(hb:0<b)(hb2:b<1073741824):∃r μ',BC [.ref n,.int b] μ=some (.int r,μ')/\0<=r/\r<b/\Upd n μ μ':=by
 have hn:=w.lt;obtain⟨a,m,c,h,ha⟩:=w;have hne:b≠0:=by omega
 by_cases h0:0<a
 ·have e:∃τ2,EI (A9 4 [.ref n,.int b]) μ=some ((.rt (.int (a % b)),τ2),μ.set n (.lst [.int (a / b),.int m,.int c])):=by
   refine' ⟨_,Eq.trans ?e ?f⟩
   case e=>unfold EI;wtm_at "b"
   case f=>rfl
  obtain⟨τ2,e⟩:=e;have u:Upd n μ (μ.set n (.lst [.int (a / b),.int m,.int c])):=⟨_,_,_,Int.ediv_nonneg ha (by omega),rfl⟩;exact⟨_,_,Fr (g:=[]) (by rw[AAZ];exact e) rfl u (by unfold Cl;trivial),Int.emod_nonneg _ hne,Int.emod_lt_of_pos _ hb,u⟩
 ·have e:∃q τ2,EI (A9 4 [.ref n,.int b]) μ=some ((.rt (.int (q % b)),τ2),μ.set n (.lst [.int a,.int m,.int (c+1)])):=by
   refine' ⟨_,_,Eq.trans ?e ?f⟩
   case e=>unfold EI;wtm_at "b"
   case f=>rfl
  obtain⟨q,τ2,e⟩:=e;have u:Upd n μ (μ.set n (.lst [.int a,.int m,.int (c+1)])):=⟨_,_,_,ha,rfl⟩;exact⟨_,_,Fr (g:=[]) (by rw[AAZ];exact e) rfl u (by unfold Cl;trivial),Int.emod_nonneg _ hne,Int.emod_lt_of_pos _ hb,u⟩
end
section
variable{μ μ1 μ2 μ':Mh}{b:Int}{d:D}{x y:Str}{τ τ2:Sl}
theorem FD{N:Nat}{ix:List Nat}{src:Sl->M (List D)}{bf:D->Sl->M Sl}{mc:Sl->M Bool}{me:Sl->M D}{fin:List D->M D}{ds es:List D}(h1:src τ μ=some (ds,μ1))(hl:ds.length<=sizeLine)(h2:B3 bf mc me (BB N ix τ) ds [] μ1=some (es,μ2))(h3:fin es μ2=some (d,μ')):BE N ix src bf mc me fin τ μ=some (d,μ'):=by
 unfold BE;rw[AQ h1,AQ (show lim ds.length μ1=some ((),μ1) from by unfold lim;rw[if_pos hl]),AQ h2,h3]
theorem JG{me:Sl->M D}{τ0:Sl}{F:D->D}:∀{xs ys:List D},(∀z∈xs,me (τ0.set 0 (some z)) μ=some (F z,μ))->B3 (AM 0) BO me τ0 xs ys μ=some (ys++xs.map F,μ)
 |[],ys,_=>by show some (ys,μ)=_;simp
 |z::xs,ys,h=>by
  show bnd (AM 0 z τ0) _ μ=_;rw[AQ (show AM 0 z τ0 μ=some (τ0.set 0 (some z),μ) from rfl),AQ (show BO (τ0.set 0 (some z)) μ=some (true,μ) from rfl),if_pos rfl,AQ (h z (by simp))];rw[JG λw hw=>h w (by simp[hw])];simp
theorem Bu{ds:List D}(h:ds.length<=sizeLine):Am ds μ=some (.lst ds,μ):=by
 unfold Am;rw[AQ (show lim ds.length μ=some ((),μ) from by unfold lim;rw[if_pos h])];rfl
def EN(x:Str):Prop:=∀c∈x.cps.toList,97<=c/\c<123
structure GoodName(x:Str):Prop where
 lo:1<=x.length
 hi:x.length<=8
 ab:EN x
theorem PK:∀c,c<123->97<=c->(!(Builtin.Str.occurrences "abcdefghijklmnopqrstuvwxyz" ⟨#[c]⟩ 0 (Str.length "abcdefghijklmnopqrstuvwxyz") 1).isEmpty)=true:=by decide +kernel
theorem GoodName.ok(h:GoodName x):PyData.strOk x=true:=by
 unfold PyData.strOk;rw[Array.all_eq_true_iff_forall_mem];intro c hc;have:=h.ab c (by simpa using hc);simp;omega
theorem MV:∀k:Nat,LE (List.replicate k (D.bl true))=some (List.replicate k true)
 |0=>rfl
 |k+1=>by
  rw[AAj,AAj];show (LE (List.replicate k (D.bl true))).map (true::·)=_;rw[MV k];rfl
theorem Jf(h:GoodName x):CA [.str x] μ=some (.bl true,μ):=
 BZ (g:=[]) (τ2:=_) (by
  rw[AAZ];have hs:x.length<=sizeLine:=AAq h.hi (by decide);have h1:(1:Int)<=x.length:=by have:=h.lo;omega
  have h8:(x.length:Int)<=8:=by have:=h.hi;omega
  have l:Bk [.str x] μ=some (.int x.length,μ):=by show (if x.length<=sizeLine then some (D.int x.length,μ) else none)=_;rw[if_pos hs]
  have hl:(x.cps.toList.map λc=>D.str ⟨#[c]⟩).length=x.length:=by simp[Str.length]
  have c:BE 1 [] (Rm (AD 0)) (AM 0) BO (mOp (G1 false) (AD 0) (mC Ek)) Am (A9 1 [.str x]) μ=some (.lst (List.replicate x.length (.bl true)),μ):=by
   refine FD (ds:=x.cps.toList.map λc=>D.str ⟨#[c]⟩) rfl (by rw[hl];exact hs) (JG (F:=λ_=>.bl true) λz hz=>?_) ?_
   ·rw[AAM] at hz;obtain⟨c,hc,rfl⟩:=hz;have:=h.ab c hc;refine BK (x:=.str ⟨#[c]⟩) (y:=Ek) (Cp rfl) GJ ?_;show some (D.bl (!(Builtin.Str.occurrences "abcdefghijklmnopqrstuvwxyz" ⟨#[c]⟩ 0 (Str.length "abcdefghijklmnopqrstuvwxyz") 1).isEmpty),μ)=_;rw[PK c this.2 this.1]
   ·rw[List.nil_append,List.map_const',hl];exact Bu (by rw[AAk];exact hs)
  have a:U0 [.lst (List.replicate x.length (.bl true))] μ=some (.bl true,μ):=by
   show (LE (List.replicate x.length (D.bl true))).map (λbs=>(D.bl (bs.all id),μ))=_;rw[MV];show some (D.bl ((List.replicate x.length true).all id),μ)=_;simp
  unfold Ei;wtm_at "b") rfl (by unfold Cl;trivial)
end
end K1
local macro_rules | `(tactic| wtm_at "e")=>`(tactic| first|assumption|(simp only[AAI,List.length_nil];first|decide|omega))
local macro_rules | `(tactic| wtm_at "g")=>`(tactic| ((with_reducible apply K1.Jf);assumption))
namespace K1
open PySem L2 Mi
inductive Ex where
 |num (i:Int)|var (x:Str)|neg (e:Ex)|pair (w:Str) (a b:Ex)
def Ex.toD:Ex->D
 | .num i=>.tup [.str "num",.int i]
 | .var x=>.tup [.str "var",.str x]
 | .neg e=>.tup [.str "not",e.toD]
 | .pair w a b=>.tup [.str w,a.toD,b.toD]
noncomputable def pairWords:List Str:=["+", "-", "=", "<", "and", "or"]
noncomputable def Ex.Ok:Nat->Ex->Prop
 |0,_=>False
 |_+1,.num i=>0<=i/\i<=9
 |_+1,.var x=>GoodName x
 |k+1,.neg e=>e.Ok k
 |k+1,.pair w a b=>w∈pairWords/\a.Ok k/\b.Ok k
def Ex.vars:Ex->List Str
 | .num _=>[]
 | .var x=>[x]
 | .neg e=>e.vars
 | .pair _ a b=>a.vars++b.vars
theorem Ex.Ok.succ:∀{k:Nat} {e:Ex},e.Ok k->e.Ok (k+1)
 |_+1,.num _,h=>h
 |_+1,.var _,h=>h
 |k+1,.neg e,h=>Ex.Ok.succ (k:=k) (e:=e) h
 |k+1,.pair _ a b,h=>⟨h.1,Ex.Ok.succ (k:=k) (e:=a) h.2.1,Ex.Ok.succ (k:=k) (e:=b) h.2.2⟩
theorem Ex.Ok.mono{k j:Nat}{e:Ex}(h:e.Ok k)(hj:k<=j):e.Ok j:=by
 induction hj with
 |refl=>exact h
 |step _ ih=>exact ih.succ
section
variable{μ μ1 μ2 μ3:Mh}{d x y:D}{τ τ1 τ2:Sl}{ma:Sl->M D}{ds es:List D}{r:Fl×Sl}{m1:Sl->M (Fl×Sl)}{bf:D->Sl->M Sl}
theorem EU(h1:ma τ μ=some (x,μ1))(h2:JP x μ1=some (ds,μ2)):CC ma τ μ=some (ds,μ2):=by unfold CC;rw[AQ h1,h2]
theorem Kp:JP (.tup ds) μ=some (ds,μ):=rfl
theorem Ru:JP (.lst ds) μ=some (ds,μ):=rfl
theorem Pi:FH bf m1 [] τ μ=some ((.next,τ),μ):=rfl
theorem NC(h1:bf x τ μ=some (τ1,μ1))(h2:m1 τ1 μ1=some ((.next,τ2),μ2))(h3:FH bf m1 ds τ2 μ2=some (r,μ3)):FH bf m1 (x::ds) τ μ=some (r,μ3):=by
 show bnd (bf x τ) _ μ=_;rw[AQ h1,AQ h2];exact h3
theorem XV{m:Sl->M (List D)}(h1:m τ μ=some (ds,μ1))(h2:Fd ds μ1=some (es,μ2)):PD m τ μ=some (es,μ2):=by unfold PD;rw[AQ h1,h2]
theorem W5:Fd [.tup [],.tup []] μ=some ([],μ):=rfl
theorem W4:Fd [.tup [x],.tup [y]] μ=some ([.tup [x,y]],μ):=rfl
theorem W3{x' y':D}:Fd [.tup [x,x'],.tup [y,y']] μ=some ([.tup [x,y],.tup [x',y']],μ):=rfl
theorem UX{i j:Nat}:GN [i,j] (.tup [x,y]) τ μ=some ((τ.set i (some x)).set j (some y),μ):=rfl
theorem W6:Q5 (some 1) none (.tup (x::ds)) μ=some (.tup ds,μ):=by
 have h1:HT.sIx (x::ds).length 0 (some 1)=1:=by rw[show (some (1:Int))=some ((1:Nat):Int) from rfl,HT.KZ];simp
 have h2:HT.sIx (x::ds).length (x::ds).length none=(x::ds).length:=rfl;show (if HT.sIx (x::ds).length 0 (some 1)=0/\HT.sIx (x::ds).length (x::ds).length none=(x::ds).length then (Mi.Ba:M D) else Mi.ret (D.tup (FN (x::ds) (some 1) none))) μ=_;rw[if_neg (by rw[h1];simp)];show some (D.tup (FN (x::ds) (some 1) none),μ)=_;unfold FN;rw[h1,h2];simp
theorem Hm(h:ds.length<=sizeLine):FA ds μ=some (.ref μ.length,μ++[.lst ds]):=by
 unfold FA;rw[AQ (show lim ds.length μ=some ((),μ) from by unfold lim;rw[if_pos h])]
theorem Ga(h:ds.length<=sizeLine):AY ds μ=some (.tup ds,μ):=by
 unfold AY;rw[AQ (show lim ds.length μ=some ((),μ) from by unfold lim;rw[if_pos h])];rfl
theorem UV:ET (.ref μ.length) (μ++[.lst ds])=some ((),μ++[.lst ds]):=by
 unfold ET;rw[AQ (show CW (.ref μ.length) (μ++[.lst ds])=some (ds,μ++[.lst ds]) from by
  unfold CW;dsimp only;rw[List.getElem?_concat_length])];rfl
theorem LX{k:List D->Option (D×List D)}(h:k ds=some (d,es)):IL μ.length k (μ++[.lst ds])=some (d,μ++[.lst es]):=by
 unfold IL;rw[List.getElem?_concat_length];show (k ds).map _=_;rw[h];show some (d,(μ++[MO.lst ds]).set μ.length (.lst es))=_;simp
theorem Yw(h:ds.length+es.length<=sizeLine):SJ (.ref μ.length) [.lst es] (μ++[.lst ds])=some (.non,μ++[.lst (ds++es)]):=LX (by rw[if_pos h])
theorem Yx(h:ds.length<sizeLine):HM (.ref μ.length) [d] (μ++[.lst ds])=some (.non,μ++[.lst (ds++[d])]):=LX (by rw[if_pos h])
theorem ON{i:Nat}{u v:Str}(h:τ[i]?=some (some (.str v)))(h1:(Str.empty++u).length<=sizeLine)(h2:v.length<=sizeLine)(h3:(Str.empty++u++v).length<=sizeLine):OC [mC (.str u),UR (AD i)] τ μ=some (.str (Str.empty++u++v),μ):=by
 have lm:∀k:Nat,k<=sizeLine->lim k μ=some ((),μ):=λk hk=>by unfold lim;rw[if_pos hk]
 unfold OC G7;rw[AQ GJ];dsimp only;rw[AQ (lm _ h1)];unfold G7;rw[AQ (show UR (AD i) τ μ=some (.str v,μ) from VO (Cp h) (by show (if v.length<=sizeLine then some (D.str v,μ) else none)=_;rw[if_pos h2]))];dsimp only;rw[AQ (lm _ h3)];unfold G7;rw[AQ (lm _ h3)];rfl
theorem Yd:BL "put" = some (.tup [.str "box",.str "expression"]):=by kernel_rfl
theorem Yf:BL "get" = some (.tup [.str "variable",.str "box"]):=by kernel_rfl
theorem Ye:BL "let" = some (.tup [.str "variable",.str "expression"]):=by kernel_rfl
theorem RX:BL "unless" = some (.tup [.str "expression",.str "target"]):=by kernel_rfl
theorem Wb:BL "jump" = some (.tup [.str "target"]):=by kernel_rfl
theorem Wa:BL "tell" = some (.tup [.str "expression"]):=by kernel_rfl
theorem Wc:BL "done" = some (.tup []):=by kernel_rfl
theorem W7{w:Str}(h:BL w=some d):MA BL (.str w) μ=some (d,μ):=by show (BL w).map _=_;rw[h];rfl
end
end K1
local macro_rules | `(tactic| wtm_at "k")=>`(tactic| first|assumption|decide|(simp only[AAI,List.length_nil,AAH,AAG];first|decide|omega))
local macro_rules | `(tactic| wtm_at "o")=>`(tactic| first|exact K1.Yd|exact K1.Yf|exact K1.Ye|exact K1.RX|exact K1.Wb|exact K1.Wa|exact K1.Wc)
local macro_rules | `(tactic| wtm_at "g")=>`(tactic| first
 |((with_reducible apply K1.EU);(wtm_at "b");(wtm_at "b"))|(with_reducible apply K1.Kp)|(with_reducible apply K1.Ru)|((with_reducible apply Mi.Xa);(wtm_at "b");(wtm_at "b"))|(with_reducible apply K1.Pi)|((with_reducible apply K1.NC);(wtm_at "b");(wtm_at "b");(wtm_at "b"))
 |((with_reducible apply K1.XV);(wtm_at "b");(wtm_at "b"))|(with_reducible apply K1.W5)|(with_reducible apply K1.W4)|(with_reducible apply K1.W3)|(with_reducible apply K1.UX)|(with_reducible apply K1.W6)
 |((with_reducible apply K1.Bu);wtm_at "k")|((with_reducible apply K1.Hm);wtm_at "k")|((with_reducible apply K1.Ga);wtm_at "k")|(with_reducible apply K1.UV)|((with_reducible apply K1.Yw);wtm_at "k")|((with_reducible apply K1.Yx);wtm_at "k")
 |((with_reducible apply K1.W7);wtm_at "o")|((with_reducible apply K1.l_kin);wtm_at "o")|((with_reducible apply K1.ON);(rfl);(decide +kernel);(decide +kernel);(decide +kernel)))
namespace K1
open PySem L2 Mi
section
variable{μ:Mh}{n:Nat}{b:Int}{x:Str}{τ2:Sl}
theorem Ex.vlen:∀{k:Nat} {e:Ex},e.Ok k->e.vars.length<=2 ^ k
 |k+1,.num _,_=>by simp[Ex.vars]
 |k+1,.var _,_=>by show 1<=2 ^ (k+1);exact Nat.one_le_two_pow
 |k+1,.neg e,h=>by have:=Ex.vlen (k:=k) (e:=e) h;show e.vars.length<=2 ^ (k+1);rw[Nat.pow_succ];omega
 |k+1,.pair _ a b,h=>by
  have h1:=Ex.vlen (k:=k) (e:=a) h.2.1;have h2:=Ex.vlen (k:=k) (e:=b) h.2.2;show (a.vars++b.vars).length<=2 ^ (k+1);rw[AAH,Nat.pow_succ];omega
theorem HG{k:Nat}:∀xs:List Str,ClL k (xs.map D.str)
 |[]=>by simp[ClL]
 |x::r=>by rw[AAX];unfold ClL;exact⟨by unfold Cl;trivial,HG r⟩
theorem C1:∀(k n:Nat) (e:Ex) (μ:Mh),k<=n->k<=6->e.Ok k->BQ n [e.toD] μ=some (.lst (e.vars.map D.str),μ)
 |0,_,_,_,_,_,h=>by cases h
 |_+1,0,_,_,hn,_,_=>by omega
 |k+1,n+1,.num i,μ,hn,h6,h=>JL (g:=[]) (τ2:=_) (by rw[AAZ];unfold A8 Ex.toD;wtm_at "b") rfl (HG [])
 |k+1,n+1,.var x,μ,hn,h6,h=>JL (es:=[.str x]) (g:=[]) (τ2:=_) (by rw[AAZ];unfold A8 Ex.toD;wtm_at "b") rfl (HG [x])
 |k+1,n+1,.neg e,μ,hn,h6,h=>by
  have ih:=C1 k n e (μ++[.lst []]) (by omega) (by omega) h;have hl:=Ex.vlen (k:=k) (e:=e) h;have hp:2 ^ k<=2 ^ 6:=Nat.pow_le_pow_right (by decide) (by omega);have hz:sizeLine=16777216:=by decide
  have hb:([]:List D).length+(e.vars.map D.str).length<=sizeLine:=by simp;omega
  have q:∃τ2,A8 (BQ n) (A9 3 [(Ex.neg e).toD]) μ=some ((.rt (.ref μ.length),τ2),μ++[.lst (e.vars.map D.str)]):=by
   refine' ⟨_,Eq.trans ?e1 ?e2⟩
   case e1=>unfold A8 Ex.toD;wtm_at "b"
   case e2=>rfl
  obtain⟨τ2,q⟩:=q;exact HI q rfl (AAF _) (List.getElem?_concat_length) (HG _)
 |k+1,n+1,.pair w a b,μ,hn,h6,h=>by
  obtain⟨hw,ha,hb⟩:=h;have ia:=C1 k n a (μ++[.lst []]) (by omega) (by omega) ha;have ib:=C1 k n b (μ++[.lst ([]++a.vars.map D.str)]) (by omega) (by omega) hb;have la:=Ex.vlen (k:=k) (e:=a) ha;have lb:=Ex.vlen (k:=k) (e:=b) hb;have hp:2 ^ k<=2 ^ 6:=Nat.pow_le_pow_right (by decide) (by omega);have hz:sizeLine=16777216:=by decide
  have hb1:([]:List D).length+(a.vars.map D.str).length<=sizeLine:=by simp;omega
  have hb2:([]++a.vars.map D.str).length+(b.vars.map D.str).length<=sizeLine:=by simp;omega
  have w1:PyData.strOk w=true/\w ≠ "num" /\ w ≠ "var" := by
   have hw:w∈(["+", "-", "=", "<", "and", "or"]:List Str):=hw;simp only[AAJ,List.not_mem_nil,or_false] at hw;rcases hw with rfl|rfl|rfl|rfl|rfl|rfl<;>decide +kernel
  obtain⟨w1,w2,w3⟩:=w1;have q:∃τ2,A8 (BQ n) (A9 3 [(Ex.pair w a b).toD]) μ=some ((.rt (.ref μ.length),τ2),μ++[.lst ([]++a.vars.map D.str++b.vars.map D.str)]):=by
   refine' ⟨_,?e⟩
   case e=>unfold A8 Ex.toD;wtm_at "b"
  obtain⟨τ2,q⟩:=q;have z:([]++a.vars.map D.str++b.vars.map D.str)=(Ex.pair w a b).vars.map D.str:=by simp[Ex.vars]
  rw[z] at q;exact HI q rfl (AAF _) (List.getElem?_concat_length) (HG _)
end
inductive Rw where
 |put (bx:Str) (e:Ex)|get (x bx:Str)|letr (x:Str) (e:Ex)|unless (e:Ex) (t:Int)|jump (t:Int)|tell (e:Ex)|done
def Rw.toD:Rw->D
 | .put bx e=>.tup [.str "put",.str bx,e.toD]
 | .get x bx=>.tup [.str "get",.str x,.str bx]
 | .letr x e=>.tup [.str "let",.str x,e.toD]
 | .unless e t=>.tup [.str "unless",e.toD,.int t]
 | .jump t=>.tup [.str "jump",.int t]
 | .tell e=>.tup [.str "tell",e.toD]
 | .done=>.tup [.str "done"]
noncomputable def Rw.Form(l:Int):Rw->Prop
 | .put bx e=>GoodName bx/\e.Ok 5
 | .get x bx=>GoodName x/\GoodName bx
 | .letr x e=>GoodName x/\e.Ok 5
 | .unless e t=>e.Ok 5/\0<=t/\t<=l
 | .jump t=>0<=t/\t<=l
 | .tell e=>e.Ok 5
 | .done=>True
def Rw.vars:Rw->List Str
 | .put _ e=>e.vars
 | .get x _=>[x]
 | .letr x e=>x::e.vars
 | .unless e _=>e.vars
 | .jump _=>[]
 | .tell e=>e.vars
 | .done=>[]
end K1
local macro_rules | `(tactic| wtm_at "g")=>`(tactic| first
 |((with_reducible apply K1.v_part_e);assumption)|((with_reducible apply K1.v_part_t);(assumption);(assumption))|((with_reducible apply K1.v_part_v);assumption)|((with_reducible apply K1.v_part_b);assumption))
namespace K1
open PySem L2 Mi
end K1
set_option maxHeartbeats 4000000
namespace K1
open PySem L2 Mi
section
variable{μ:Mh}
theorem TJ{e:Ex}(h:e.Ok 5):BQ 6 [e.toD] μ=some (.lst (e.vars.map D.str),μ):=C1 5 6 e μ (by decide) (by decide) h
end
end K1
local macro_rules | `(tactic| wtm_at "g")=>`(tactic| first
 |((with_reducible apply K1.TJ);assumption)|((with_reducible apply K1.l_in2T);wtm_at "d")|((with_reducible apply K1.l_in2F);wtm_at "d")|((with_reducible apply K1.v_endT);(wtm_at "d");(wtm_at "d"))|((with_reducible apply K1.v_endF);(wtm_at "d");(wtm_at "d")))
namespace K1
open PySem L2 Mi
section
variable{μ:Mh}{l:Int}{x:Str}{τ2:Sl}
theorem F7{r:Rw}{xs:List D}(h:xs=r.vars.map D.str)(q:∃τ2,A1 (BQ 6) (A9 4 [r.toD]) μ=some ((.rt (.ref μ.length),τ2),μ++[.lst xs])):DC [r.toD] μ=some (.lst (r.vars.map D.str),μ):=by
 obtain⟨τ2,q⟩:=q;rw[h] at q;exact HI q rfl (AAF _) List.getElem?_concat_length (HG _)
theorem IJ:∀{r:Rw},r.Form l->DC [r.toD] μ=some (.lst (r.vars.map D.str),μ)
 | .put bx e,⟨h1,h2⟩=>by
  have hl:=Ex.vlen h2;have hz:sizeLine=16777216:=by decide
  refine F7 (xs:=[]++e.vars.map D.str) rfl ?_;refine' ⟨_,?e1⟩
  case e1=>unfold A1 Rw.toD;wtm_at "b"
 | .get x bx,⟨h1,h2⟩=>by
  refine F7 (xs:=[]++[.str x]) rfl ?_;refine' ⟨_,?e1⟩
  case e1=>unfold A1 Rw.toD;wtm_at "b"
 | .letr x e,⟨h1,h2⟩=>by
  have hl:=Ex.vlen h2;have hz:sizeLine=16777216:=by decide
  refine F7 (xs:=[]++[.str x]++e.vars.map D.str) rfl ?_;refine' ⟨_,?e1⟩
  case e1=>unfold A1 Rw.toD;wtm_at "b"
 | .unless e t,⟨h1,h2,h3⟩=>by
  have hl:=Ex.vlen h1;have hz:sizeLine=16777216:=by decide
  refine F7 (xs:=[]++e.vars.map D.str) rfl ?_;refine' ⟨_,?e1⟩
  case e1=>unfold A1 Rw.toD;wtm_at "b"
 | .jump t,⟨h1,h2⟩=>by
  refine F7 (xs:=[]) rfl ?_;refine' ⟨_,?e1⟩
  case e1=>unfold A1 Rw.toD;wtm_at "b"
 | .tell e,h1=>by
  have h1:e.Ok 5:=h1;have hl:=Ex.vlen h1;have hz:sizeLine=16777216:=by decide
  refine F7 (xs:=[]++e.vars.map D.str) rfl ?_;refine' ⟨_,?e1⟩
  case e1=>unfold A1 Rw.toD;wtm_at "b"
 | .done,_=>by
  refine F7 (xs:=[]) rfl ?_;refine' ⟨_,?e1⟩
  case e1=>unfold A1 Rw.toD;wtm_at "b"
def ZK(wr:Bool)(x:Str):Prop:=PyData.strOk x=true/\x∉(["not", "and", "or"]:List Str)/\(wr=true∨x ≠ "v")
noncomputable def Rw.word:Rw->Str
 | .put _ _ => "put" | .get _ _ => "get" | .letr _ _ => "let" | .unless _ _ => "unless" | .jump _ => "jump" | .tell _ => "tell" | .done => "done"
noncomputable def Rw.setOk:Rw->Prop
 | .get x _=>x ≠ "v"
 | .letr x _=>x ≠ "v"
 |_=>True
end
end K1
set_option maxHeartbeats 4000000
namespace K1
open PySem L2 Mi
section
variable{μ:Mh}{n:Nat}
theorem HL{L:List (Key×D)}(h:μ[n]?=some (.dK L)):EW (.ref n) μ=some ((n,L),μ):=by unfold EW;dsimp only;rw[h]
end
end K1
local macro_rules | `(tactic| wtm_at "g")=>`(tactic| first
 |((with_reducible apply K1.ev_dget1);(wtm_at "b");(assumption);(wtm_at "b");(assumption))|((with_reducible apply K1.l_din);(assumption);(assumption)))
namespace K1
open PySem L2 Mi
section
variable{l:Int}{x:Str}
noncomputable def Rw.Tab(L:List (Key×D))(nm:Str):Rw->Prop
 | .put bx _=>Bv L (.inr bx)=some (.str nm)
 | .get _ bx=>(Bv L (.inr bx)).isSome=true
 |_=>True
noncomputable def Rw.EndOk(wr:Bool):Rw->Prop
 | .tell _=>wr=false
 | .done=>wr=true
 |_=>True
structure Rw.Ok(L:List (Key×D))(nm:Str)(wr:Bool)(l:Int)(r:Rw):Prop where
 form:r.Form l
 ends:r.EndOk wr
 vars:∀x∈r.vars,ZK wr x
 set:r.setOk
 tab:r.Tab L nm
end
end K1
set_option maxHeartbeats 4000000
namespace K1
open PySem L2 Mi
section
variable{μ:Mh}{x:Str}{τ2:Sl}
theorem OA:∀(xs ys:List Str),(ys++xs).Nodup->(xs.foldl (λys x=>if x∈ys then ys else ys++[x]) ys)=ys++xs
 |[],ys,_=>by simp
 |x::xs,ys,h=>by
  have hx:x∉ys:=by
   intro hm;rw[List.nodup_append] at h;exact h.2.2 x hm x (by simp) rfl
  show xs.foldl _ (if x∈ys then ys else ys++[x])=_;rw[if_neg hx,OA xs (ys++[x]) (by simpa using h)];simp
theorem KQ:∀xs:List Str,HP (xs.map D.str)=some xs
 |[]=>rfl
 |x::r=>by
  show (HP (r.map D.str)).map (x::·)=_;rw[KQ r];rfl
theorem KL{xs:List Str}(h:xs.Nodup)(hl:xs.length<=1000):B2 [.lst (xs.map D.str)] μ=some (.bl true,μ):=by
 have e:Fm (.lst (xs.map D.str)) μ=some (.int xs.length,μ):=by
  unfold Fm;rw[AQ (show CW (.lst (xs.map D.str)) μ=some (xs.map D.str,μ) from rfl),KQ];show (if xs.length+2<scanBound then some (D.int (Bw xs).length,μ) else none)=_;rw[if_pos (by have:scanBound=4096:=rfl;omega)];have:Bw xs=xs:=by unfold Bw;rw[OA xs [] (by simpa using h)];simp
  rw[this]
 have hq:((xs.length:Nat):Int)=((xs.map D.str).length:Nat):=by simp
 exact BZ (g:=[]) (τ2:=_) (by rw[AAZ];unfold Ca;wtm_at "b") rfl (by unfold Cl;trivial)
structure Bx where
 nm:Str
 kd:Str
 sz:Int
 bg:Int
 wr:Str
def Bx.toD(b:Bx):D:=.tup [.str b.nm,.str b.kd,.int b.sz,.int b.bg,.str b.wr]
def HV(kd:Str)(sz bg:Int):Prop:=kd∈(["safe", "steady", "whole"]:List Str)/\2<=sz/\sz<=10/\0<=bg/\bg<=sz-1
structure Hd where
 nm:Str
 wi:Int
 rs:List Rw
def Hd.toD(h:Hd):D:=.tup [.str h.nm,.int h.wi,.tup (h.rs.map Rw.toD)]
end
end K1
set_option maxHeartbeats 4000000
namespace K1
open PySem L2 Mi
section
noncomputable def kv(b:Bx):Key×D:=(.inr b.nm,.str b.wr)
theorem Tp{bs:List Bx}{b:Bx}(h:b.nm∉bs.map Bx.nm):Lr (bs.map kv) (.inr b.nm) (.str b.wr)=(bs++[b]).map kv:=by
 unfold Lr;rw[if_neg]
 ·simp[kv]
 ·intro z;rw[List.any_eq_true] at z;obtain⟨p,hp,e⟩:=z;rw[AAM] at hp;obtain⟨c,hc,rfl⟩:=hp;have e:=of_decide_eq_true e;have e2:(Sum.inr c.nm:Key)=.inr b.nm:=e;exact h (AAM.mpr ⟨c,hc,Sum.inr.inj e2⟩)
theorem KK:∀{bs:List Bx} {b:Bx},(bs.map Bx.nm).Nodup->b∈bs->Bv (bs.map kv) (.inr b.nm)=some (.str b.wr)
 |c::bs,b,hd,hb=>by
  unfold Bv;rw[AAX,List.find?_cons];rw[AAX,List.nodup_cons] at hd;by_cases e:c.nm=b.nm
  ·have hbc:b=c:=by
    rcases AAJ.mp hb with z|z
    ·exact z
    ·exact absurd (show b.nm∈bs.map Bx.nm from AAM.mpr ⟨b,z,rfl⟩) (by rw[←e];exact hd.1)
   subst hbc;simp[kv]
  ·have hb':b∈bs:=by
    rcases AAJ.mp hb with z|z
    ·exact absurd (by rw[z]) e
    ·exact z
   have:decide ((kv c).1=(Sum.inr b.nm:Key))=false:=AAO (by intro z;exact e (Sum.inr.inj (show (Sum.inr c.nm:Key)=.inr b.nm from z)));simp only[this];exact KK hd.2 hb'
structure Mk where
 kd:Str
 sz:Int
 bg:Int
 bs:List Bx
 hs:List Hd
def Mk.toD(m:Mk):D:=.tup [.str m.kd,.int m.sz,.int m.bg,.tup (m.bs.map Bx.toD),.tup (m.hs.map Hd.toD)]
structure Mk.Ok(m:Mk):Prop where
 worth:HV m.kd m.sz m.bg
 boxes:∀b∈m.bs,GoodName b.nm/\HV b.kd b.sz b.bg
 most:m.bs.length<=6
 unlike:(m.bs.map Bx.nm).Nodup
 hands:∀h∈m.hs,GoodName h.nm/\0<=h.wi/\h.wi<=400/\h.rs.length<=60
 least:2<=m.hs.length
 mosth:m.hs.length<=4
 unlikeh:(m.hs.map Hd.nm).Nodup
 writers:∀b∈m.bs,b.wr∈m.hs.map Hd.nm
 rows:∀(i:Nat) (h:Hd),m.hs[i]?=some h->∀r∈h.rs,r.Ok (m.bs.map kv) h.nm (i==0) h.rs.length
end
end K1
set_option maxHeartbeats 4000000
namespace K1
open PySem L2 Mi
section
variable{μ:Mh}{x y:Str}
theorem Jh:∀xs:List Str,FK μ (xs.map D.str)=some (xs.map PyData.str)
 |[]=>rfl
 |x::r=>by
  rw[AAX];unfold FK;rw[Jh r];rfl
theorem L9:∀{xs:List Str},(∀x∈xs,PyData.strOk x=true)->PyData.canLayAll0 (xs.map PyData.str)=true/\PyData.depthAll (xs.map PyData.str)=0
 |[],_=>⟨rfl,rfl⟩
 |x::r,h=>by
  obtain⟨h1,h2⟩:=L9 (xs:=r) λy hy=>h y (by simp[hy]);refine⟨?_,?_⟩
  ·rw[AAX];unfold PyData.canLayAll0;rw[h1,Bool.and_true];exact h x (by simp)
  ·rw[AAX];unfold PyData.depthAll;rw[h2];rfl
theorem Ld{xs:List Str}(h:∀x∈xs,PyData.strOk x=true):SeqAt.shaped (.list (xs.map PyData.str))=true:=by
 obtain⟨h1,h2⟩:=L9 h;show (PyData.canLayAll0 (xs.map PyData.str)&&decide (PyData.depthAll (xs.map PyData.str)+1<=64))=true;rw[h1,h2];rfl
theorem Hn{neg:Bool}{xs:List Str}(h:∀x∈xs,PyData.strOk x=true):Fy neg (.lst (xs.map D.str)) (.lst []) μ=some (.bl (if neg then !(PyData.eqv (.list (xs.map PyData.str)) (.list [])) else PyData.eqv (.list (xs.map PyData.str)) (.list [])),μ):=by
 have e1:KO μ (.lst (xs.map D.str))=some (.list (xs.map PyData.str)):=by
  show (FK μ (xs.map D.str)).map PyData.list=_;rw[Jh];rfl
 have e2:KO μ (.lst [])=some (.list []):=rfl;unfold Fy;rw[e1,e2];show (if SeqAt.shaped (.list (xs.map PyData.str))=true/\SeqAt.shaped (.list [])=true then _ else none)=_;rw[if_pos ⟨Ld h,rfl⟩]
theorem UW:BF (.lst []) (.lst []) μ=some (.bl true,μ):=Hn (neg:=false) (xs:=[]) (by simp)
theorem Kq:Dd (.lst []) (.lst []) μ=some (.bl false,μ):=Hn (neg:=true) (xs:=[]) (by simp)
theorem Rz{xs:List Str}(h:∀x∈xs,PyData.strOk x=true)(hn:xs≠[]):BF (.lst (xs.map D.str)) (.lst []) μ=some (.bl false,μ):=by
 cases xs with
 |nil=>exact absurd rfl hn
 |cons x r=>exact Hn (neg:=false) h
theorem Iv{xs:List Str}(h:∀x∈xs,PyData.strOk x=true)(hn:xs≠[]):Dd (.lst (xs.map D.str)) (.lst []) μ=some (.bl true,μ):=by
 cases xs with
 |nil=>exact absurd rfl hn
 |cons x r=>exact Hn (neg:=true) h
theorem GD{α:Type}{f:α->D}{xs:List α}{i:Int}(h1:0<=i)(h2:i<xs.length):∃a∈xs,atI (xs.map f) i=some (f a):=by
 obtain⟨k,rfl⟩:=Int.eq_ofNat_of_zero_le h1;have hk:k<xs.length:=by omega
 refine⟨xs[k],List.getElem_mem hk,?_⟩;unfold atI ixN;rw[if_pos h1,if_pos (by rw[AAG];exact h2)];show (xs.map f)[(k:Int).toNat]?=_;simp[hk]
theorem Ex.cl{k:Nat}:∀e:Ex,Cl k e.toD
 | .num _=>by simp[Ex.toD,Cl,ClL]
 | .var _=>by simp[Ex.toD,Cl,ClL]
 | .neg e=>by have:=Ex.cl (k:=k) e;simp[Ex.toD,Cl,ClL,this]
 | .pair _ a b=>by have h1:=Ex.cl (k:=k) a;have h2:=Ex.cl (k:=k) b;simp[Ex.toD,Cl,ClL,h1,h2]
end
end K1
local macro_rules | `(tactic| wtm_at "g")=>`(tactic| first
 |with_reducible assumption|(with_reducible apply K1.UW)|(with_reducible apply K1.Kq)|((with_reducible apply K1.Rz);(assumption);(assumption))|((with_reducible apply K1.Iv);(assumption);(assumption))|((with_reducible apply K1.l_minT);omega)|((with_reducible apply K1.l_minF);omega)|((with_reducible apply Mi.HS);assumption))
namespace K1
open PySem L2 Mi
section
variable{μ μ2 μ':Mh}{w:Nat}{x:Str}
noncomputable abbrev VE:Sl->M (Fl×Sl):=(AS (sIf (mOr (Ac (mOp BF (AD 1) (AF Am AH))) (Ac (mOp BF (AF BC (AB (AD 0) (AB (mC (.int 2)) AH))) (mC (.int 0))))) (BA (AF AY (AB (mC (.str "num")) (AB (AF BC (AB (AD 0) (AB (mC (.int 10)) AH))) AH)))) BT)
  (BA (AF AY (AB (mC (.str "var")) (AB (mOp AT (AD 1) (AF BC (AB (AD 0) (AB (AF Bk (AB (AD 1) AH)) AH)))) AH)))))
theorem UT{k:Nat}{j r1:Int}{ns:List Str}(hw:WellAt μ w)(hns:∀x∈ns,GoodName x)(hl:ns.length<=1000):∃(e:Ex) (μ':Mh) (τ':Sl),VE [some (.ref w),some (.lst (ns.map D.str)),some (.int j),some (.int r1),none,none,none] μ=some ((.rt e.toD,τ'),μ')/\e.Ok (k+1)/\(∀x∈e.vars,x∈ns)/\Upd w μ μ':=by
 by_cases h0:ns=[]
 ·subst h0;obtain⟨r2,μ2,d2,a2,b2,u2⟩:=Cg (b:=10) hw (by decide) (by decide);refine⟨.num r2,μ2,[some (.ref w),some (.lst []),some (.int j),some (.int r1),none,none,none],?_,⟨a2,by omega⟩,by simp[Ex.vars],u2⟩;unfold Ex.toD;show VE [some (.ref w),some (.lst []),some (.int j),some (.int r1),none,none,none] μ=_;wtm_at "b"
 ·have hok:∀x∈ns,PyData.strOk x=true:=λx hx=>(hns x hx).ok;obtain⟨r2,μ2,d2,a2,b2,u2⟩:=Cg (b:=2) hw (by decide) (by decide);have w2:=u2.well hw.lt;by_cases hr:r2=0
  ·obtain⟨r3,μ3,d3,a3,b3,u3⟩:=Cg (b:=10) w2 (by decide) (by decide);refine⟨.num r3,μ3,[some (.ref w),some (.lst (ns.map D.str)),some (.int j),some (.int r1),none,none,none],?_,⟨a3,by omega⟩,by simp[Ex.vars],u2.trans u3⟩;unfold Ex.toD;wtm_at "b"
  ·have hp:0<ns.length:=List.length_pos_iff.mpr h0;obtain⟨r3,μ3,d3,a3,b3,u3⟩:=Cg (b:=((ns.map D.str).length:Nat)) w2 (by simp;omega) (by simp;omega);obtain⟨x,hx,px⟩:=GD (f:=D.str) (xs:=ns) a3 (by simpa using b3);refine⟨.var x,μ3,[some (.ref w),some (.lst (ns.map D.str)),some (.int j),some (.int r1),none,none,none],?_,hns x hx,by simp[Ex.vars,hx],u2.trans u3⟩;unfold Ex.toD;wtm_at "b"
end
end K1
set_option maxHeartbeats 4000000
namespace K1
open PySem L2 Mi
section
variable{μ μ1 μ2 μ':Mh}{n w:Nat}{d:D}{x:Str}{τ1 τ2:Sl}
theorem Upd.fin{N ps:Nat}{mb:Sl->M (Fl×Sl)}{ds:List D}(e:mb (A9 N ds) μ=some ((.rt d,τ2),μ1))(hl:ds.length=ps)(u:Upd w μ μ1)(c:Cl μ.length d):Bq .drop N ps mb ds μ=some (d,μ1):=
 Fr (g:=[]) (by rw[AAZ];exact e) hl u c
theorem QR{i:Int}(h1:4<=i)(h2:i<10):∃x∈pairWords,atI [D.str "+",.str "-",.str "=",.str "<",.str "and",.str "or"] (i-4)=some (.str x):=
 GD (f:=D.str) (xs:=pairWords) (by omega) (by show i-4<6;omega)
theorem IK{w:Nat}{ns:List Str}(hns:∀x∈ns,GoodName x)(hl:ns.length<=1000):∀(k n:Nat) (j:Int) (μ:Mh),j=k->1<=k->k<=n->WellAt μ w->∃(e:Ex) (μ':Mh),DD n [.ref w,.lst (ns.map D.str),.int j] μ=some (e.toD,μ')/\e.Ok k/\(∀x∈e.vars,x∈ns)/\Upd w μ μ'
 |0,_,_,_,_,h,_,_=>by omega
 |_+1,0,_,_,_,_,h,_=>by omega
 |k+1,n+1,j,μ,hj,_,hn,hw=>by
  obtain⟨r1,μ1,d1,a1,b1,u1⟩:=Cg (b:=10) hw (by decide) (by decide);have w1:=u1.well hw.lt;by_cases c:j=1∨r1<3
  ·obtain⟨e,μ',τ',q,ok,vs,u⟩:=UT (k:=k) (j:=j) (r1:=r1) w1 hns hl;refine⟨e,μ',?_,ok,vs,u1.trans u⟩;refine Upd.fin (τ2:=τ') ?_ rfl (u1.trans u) (Ex.cl e);have t:mOr (Ac (mOp BF (AD 2) (mC (.int 1)))) (Ac (mOp FL (AD 3) (mC (.int 3)))) [some (.ref w),some (.lst (ns.map D.str)),some (.int j),some (.int r1),none,none,none] μ1=some (true,μ1):=by
    by_cases c1:j=1
    ·wtm_at "b"
    ·have c2:r1<3:=by omega
     wtm_at "b"
   exact Bc (τ1:=[some (.ref w),some (.lst (ns.map D.str)),some (.int j),some (.int r1),none,none,none]) (μ1:=μ1) (D8 (A4 (ds:=[.ref w,.int 10]) (μ1:=μ) rfl d1) rfl) (Gk (HC t q))
  ·have c1:j≠1:=by omega
   have c2:3<=r1:=by omega
   by_cases c3:r1=3
   ·obtain⟨e,μ',q,ok,vs,u⟩:=IK hns hl k n (j-1) μ1 (by omega) (by omega) (by omega) w1;refine⟨.neg e,μ',?_,ok,vs,u1.trans u⟩;refine Upd.fin (τ2:=[some (.ref w),some (.lst (ns.map D.str)),some (.int j),some (.int r1),none,none,none]) ?_ rfl (u1.trans u) (Ex.cl (.neg e));unfold Ex.toD;refine Bc (τ1:=[some (.ref w),some (.lst (ns.map D.str)),some (.int j),some (.int r1),none,none,none]) (μ1:=μ1) (D8 (A4 (ds:=[.ref w,.int 10]) (μ1:=μ) rfl d1) rfl) ?_;wtm_at "b"
   ·have c4:4<=r1:=by omega
    obtain⟨wd,hwd,pw⟩:=QR c4 b1;obtain⟨a,μ2,q2,ok2,vs2,u2⟩:=IK hns hl k n (j-1) μ1 (by omega) (by omega) (by omega) w1;have w2:=u2.well w1.lt;obtain⟨b,μ3,q3,ok3,vs3,u3,kb,j2,m2⟩:∃(b:Ex) (μ3:Mh),DD n [.ref w,.lst (ns.map D.str),.int (if 2<j-1 then 2 else j-1)] μ2=some (b.toD,μ3)/\b.Ok k/\(∀x∈b.vars,x∈ns)/\Upd w μ2 μ3/\True/\True/\True:=by
     by_cases z:2<j-1
     ·obtain⟨b,μ3,q3,ok3,vs3,u3⟩:=IK hns hl (min k 2) n 2 μ2 (by omega) (by omega) (by omega) w2;exact⟨b,μ3,by rw[if_pos z];exact q3,ok3.mono (by omega),vs3,u3,trivial,trivial,trivial⟩
     ·obtain⟨b,μ3,q3,ok3,vs3,u3⟩:=IK hns hl k n (j-1) μ2 (by omega) (by omega) (by omega) w2;exact⟨b,μ3,by rw[if_neg z];exact q3,ok3,vs3,u3,trivial,trivial,trivial⟩
    have w3:=u3.well w2.lt;obtain⟨r4,μ4,d4,a4,b4,u4⟩:=Cg (b:=2) w3 (by decide) (by decide);have U:=u1.trans (u2.trans (u3.trans u4));have mn:PB [.int (j-1),.int 2] μ2=some (.int (if 2<j-1 then 2 else j-1),μ2):=rfl;have fin:∀(e:Ex),atI [D.tup [.str wd,a.toD,b.toD],.tup [.str wd,b.toD,a.toD]] r4=some e.toD->DD (n+1) [.ref w,.lst (ns.map D.str),.int j] μ=some (e.toD,μ4):=by
     intro e he;refine Upd.fin (τ2:=[some (.ref w),some (.lst (ns.map D.str)),some (.int j),some (.int r1),some (.str wd),some a.toD,some b.toD]) ?_ rfl U (Ex.cl e);refine Bc (τ1:=[some (.ref w),some (.lst (ns.map D.str)),some (.int j),some (.int r1),none,none,none]) (μ1:=μ1) (D8 (A4 (ds:=[.ref w,.int 10]) (μ1:=μ) rfl d1) rfl) ?_;refine Bc (τ1:=[some (.ref w),some (.lst (ns.map D.str)),some (.int j),some (.int r1),none,none,none]) (μ1:=μ1) (by wtm_at "b") ?_;refine Bc (τ1:=[some (.ref w),some (.lst (ns.map D.str)),some (.int j),some (.int r1),none,none,none]) (μ1:=μ1) (by wtm_at "b") ?_;refine Bc (τ1:=[some (.ref w),some (.lst (ns.map D.str)),some (.int j),some (.int r1),some (.str wd),none,none]) (μ1:=μ1) (D8 (d:=.str wd) (μ1:=μ1) (by wtm_at "b") rfl) ?_;refine Bc (τ1:=[some (.ref w),some (.lst (ns.map D.str)),some (.int j),some (.int r1),some (.str wd),some a.toD,none]) (μ1:=μ2) (D8 (d:=a.toD) (μ1:=μ2) (by wtm_at "b") rfl) ?_;refine Bc (τ1:=[some (.ref w),some (.lst (ns.map D.str)),some (.int j),some (.int r1),some (.str wd),some a.toD,some b.toD]) (μ1:=μ3) (D8 (d:=b.toD) (μ1:=μ3) (A4 (ds:=[.ref w,.lst (ns.map D.str),.int (if 2<j-1 then 2 else j-1)]) (μ1:=μ2) rfl q3) rfl) ?_;wtm_at "b"
    by_cases z:r4=0
    ·refine⟨.pair wd a b,μ4,fin _ (by subst z;rfl),⟨hwd,ok2,ok3⟩,λx hx=>?_,U⟩;rcases AAK.mp (show x∈a.vars++b.vars from hx) with q|q
     ·exact vs2 x q
     ·exact vs3 x q
    ·have z1:r4=1:=by omega
     refine⟨.pair wd b a,μ4,fin _ (by subst z1;rfl),⟨hwd,ok3,ok2⟩,λx hx=>?_,U⟩;rcases AAK.mp (show x∈b.vars++a.vars from hx) with q|q
     ·exact vs3 x q
     ·exact vs2 x q
end
end K1
set_option maxHeartbeats 4000000
namespace K1
open PySem L2 Mi
noncomputable def Fv(ns:List Str)(wr:Bool):List Str:=ns++(if wr then (["v"]:List Str) else [])
noncomputable def Rw.From(own bxs ns:List Str):Rw->Prop
 | .put bx _=>bx∈own
 | .get x bx=>x∈ns/\bx∈bxs
 | .letr x _=>x∈ns
 |_=>True
structure Rw.Drawn(own bxs ns:List Str)(wr:Bool)(l:Int)(r:Rw):Prop where
 form:r.Form l
 ends:r.EndOk wr
 vars:∀x∈r.vars,x∈Fv ns wr
 frm:r.From own bxs ns
section
variable{μ μ1 μ2 μ':Mh}{w:Nat}{d:D}{x y:Str}{τ τ1 τ2:Sl}
theorem Rw.cl{k:Nat}(r:Rw):Cl k r.toD:=by
 cases r with
 |put bx e=>have:=Ex.cl (k:=k) e;simp[Rw.toD,Cl,ClL,this]
 |letr bx e=>have:=Ex.cl (k:=k) e;simp[Rw.toD,Cl,ClL,this]
 | «unless» e t=>have:=Ex.cl (k:=k) e;simp[Rw.toD,Cl,ClL,this]
 |tell e=>have:=Ex.cl (k:=k) e;simp[Rw.toD,Cl,ClL,this]
 |_=>simp[Rw.toD,Cl,ClL]
theorem Us{i:Int}(h1:0<=i)(h2:i<4):∃k:Int,1<=k/\k<=5/\atI [D.int 1,.int 2,.int 3,.int 5] i=some (.int k):=by
 obtain⟨k,hk,e⟩:=GD (f:=D.int) (xs:=[1,2,3,5]) h1 (by show i<4;exact h2);simp at hk;exact⟨k,by omega,by omega,e⟩
theorem TW{ns:List Str}{wr:Bool}(hl:ns.length<=1000){τ:Sl}(h3:τ[3]?=some (some (.lst (ns.map D.str))))(h5:τ[5]?=some (some (.bl wr))):mOp C8 (AD 3) (mOp DX (AF Am (AB (mC (.str "v")) AH)) (AF JA (AB (AD 5) AH))) τ μ=some (.lst ((Fv ns wr).map D.str),μ):=by
 have hz:sizeLine=16777216:=by decide
 have s3:AD 3 τ μ=some (.lst (ns.map D.str),μ):=Cp h3;have s5:AD 5 τ μ=some (.bl wr,μ):=Cp h5;cases wr with
 |true=>
  have m:DX (.lst [.str "v"]) (.int 1) μ=some (.lst [.str "v"],μ):=rfl;have a:C8 (.lst (ns.map D.str)) (.lst [.str "v"]) μ=some (.lst (ns.map D.str++[.str "v"]),μ):=Bu (by simp;omega);have e:(Fv ns true).map D.str=ns.map D.str++[.str "v"]:=by simp[Fv]
  rw[e];exact BK s3 (BK (x:=.lst [.str "v"]) (y:=.int 1) (μ1:=μ) (μ2:=μ) rfl (A4 (ds:=[.bl true]) (μ1:=μ) (Aw s5 rfl) rfl) m) a
 |false=>
  have m:DX (.lst [.str "v"]) (.int 0) μ=some (.lst [],μ):=rfl;have a:C8 (.lst (ns.map D.str)) (.lst []) μ=some (.lst (ns.map D.str++[]),μ):=Bu (by simp;omega);have e:(Fv ns false).map D.str=ns.map D.str++[]:=by simp[Fv]
  rw[e];exact BK s3 (BK (x:=.lst [.str "v"]) (y:=.int 0) (μ1:=μ) (μ2:=μ) rfl (A4 (ds:=[.bl false]) (μ1:=μ) (Aw s5 rfl) rfl) m) a
theorem Xs{w:Nat}{own bxs ns:List Str}{many:Int}{wr:Bool}(hw:WellAt μ w)(hm:0<=many)(hm2:many<=60)(ho:∀x∈own,GoodName x)(hb:∀x∈bxs,GoodName x)(hn:∀x∈ns,GoodName x)(hne:ns≠[])(lo:own.length<=100)(lb:bxs.length<=100)(ln:ns.length<=100):
  ∃(r:Rw) (μ':Mh),HB [.ref w,.lst (own.map D.str),.lst (bxs.map D.str),.lst (ns.map D.str),.int many,.bl wr] μ=some (r.toD,μ')/\r.Drawn own bxs ns wr many/\Upd w μ μ':=by
 obtain⟨r1,μ1,d1,a1,b1,u1⟩:=Cg (b:=8) hw (by decide) (by decide);have w1:=u1.well hw.lt;obtain⟨r2,μ2,d2,a2,b2,u2⟩:=Cg (b:=4) w1 (by decide) (by decide);have w2:=u2.well w1.lt;obtain⟨k0,k1,k2,ka⟩:=Us a2 b2;have ho':∀x∈own,PyData.strOk x=true:=λx hx=>(ho x hx).ok;have hb':∀x∈bxs,PyData.strOk x=true:=λx hx=>(hb x hx).ok;have hs:∀x∈Fv ns wr,GoodName x:=by
  intro x hx;rcases AAK.mp (show x∈ns++(if wr then (["v"]:List Str) else []) from hx) with z|z
  ·exact hn x z
  ·cases wr with
   |true=>
    simp at z;subst z;exact⟨by decide +kernel,by decide +kernel,by unfold EN;decide +kernel⟩
   |false=>simp at z
 have hsl:(Fv ns wr).length<=1000:=by
  unfold Fv;rw[AAH];cases wr<;>simp<;>omega
 obtain⟨k,k3,k4,kd⟩:∃k:Int,1<=k/\k<=5/\sIf (Ac (mOp Ie (AD 4) (mC (.int 9)))) (Ai (AF PB (AB (AD 7) (AB (mC (.int 2)) AH))) (AM 7)) BT [some (.ref w),some (.lst (own.map D.str)),some (.lst (bxs.map D.str)),some (.lst (ns.map D.str)),some (.int many),some (.bl wr),some (.int r1),some (.int k0),none] μ2=some ((.next,[some (.ref w),some (.lst (own.map D.str)),some (.lst (bxs.map D.str)),some (.lst (ns.map D.str)),some (.int many),some (.bl wr),some (.int r1),some (.int k),none]),μ2):=by
  by_cases c:9<many
  ·refine⟨if 2<k0 then 2 else k0,by split<;>omega,by split<;>omega,?_⟩;exact HC (μ1:=μ2) (by wtm_at "b") (D8 (d:=.int (if 2<k0 then 2 else k0)) (μ1:=μ2) (A4 (ds:=[.int k0,.int 2]) (μ1:=μ2) rfl rfl) rfl)
  ·refine⟨k0,k1,k2,?_⟩;wtm_at "b"
 have kn:((k.toNat:Nat):Int)=k:=by omega
 have X:∀ν:Mh,WellAt ν w->∃(e:Ex) (μ':Mh),DD 6 [.ref w,.lst ((Fv ns wr).map D.str),.int k] ν=some (e.toD,μ')/\e.Ok 5/\(∀x∈e.vars,x∈Fv ns wr)/\Upd w ν μ':=by
  intro ν hν;obtain⟨e,μ',q,ok,vs,u⟩:=IK hs hsl k.toNat 6 k ν kn.symm (by omega) (by omega) hν;exact⟨e,μ',q,ok.mono (by omega),vs,u⟩
 have P:∀(r:Rw) (μ':Mh) (τ':Sl),Upd w μ2 μ'->
   (AS (sIf (Ip (Ac (mOp FL (AD 6) (mC (.int 2)))) (Ac (mOp Dd (AD 1) (AF Am AH)))) (BA (AF AY (AB (mC (.str "put")) (AB (mOp AT (AD 1) (AF BC (AB (AD 0) (AB (AF Bk (AB (AD 1) AH)) AH)))) (AB (AF (DD 6) (AB (AD 0) (AB (AD 8) (AB (AD 7) AH)))) AH))))) BT)
  (AS (sIf (Ip (Ac (mOp FL (AD 6) (mC (.int 4)))) (Ac (mOp Dd (AD 2) (AF Am AH)))) (BA (AF AY (AB (mC (.str "get")) (AB (mOp AT (AD 3) (AF BC (AB (AD 0) (AB (AF Bk (AB (AD 3) AH)) AH)))) (AB (mOp AT (AD 2) (AF BC (AB (AD 0) (AB (AF Bk (AB (AD 2) AH)) AH)))) AH))))) BT)
  (AS (sIf (Ac (mOp FL (AD 6) (mC (.int 5)))) (BA (AF AY (AB (mC (.str "let")) (AB (mOp AT (AD 3) (AF BC (AB (AD 0) (AB (AF Bk (AB (AD 3) AH)) AH)))) (AB (AF (DD 6) (AB (AD 0) (AB (AD 8) (AB (AD 7) AH)))) AH))))) BT)
  (AS (sIf (Ac (mOp BF (AD 6) (mC (.int 5)))) (BA (AF AY (AB (mC (.str "unless")) (AB (AF (DD 6) (AB (AD 0) (AB (AD 8) (AB (AD 7) AH)))) (AB (AF BC (AB (AD 0) (AB (mOp C8 (AD 4) (mC (.int 1))) AH))) AH))))) BT)
  (AS (sIf (Ac (mOp BF (AD 6) (mC (.int 6)))) (BA (AF AY (AB (mC (.str "jump")) (AB (AF BC (AB (AD 0) (AB (mOp C8 (AD 4) (mC (.int 1))) AH))) AH)))) BT)
  (BA (mOp AT (AF Am (AB (AF AY (AB (mC (.str "tell")) (AB (AF (DD 6) (AB (AD 0) (AB (AD 8) (AB (AD 7) AH)))) AH))) (AB (AF AY (AB (mC (.str "done")) AH)) AH))) (AF JA (AB (AD 5) AH))))))))) [some (.ref w),some (.lst (own.map D.str)),some (.lst (bxs.map D.str)),some (.lst (ns.map D.str)),some (.int many),some (.bl wr),some (.int r1),some (.int k),some (.lst ((Fv ns wr).map D.str))] μ2=some ((.rt r.toD,τ'),μ')->
   HB [.ref w,.lst (own.map D.str),.lst (bxs.map D.str),.lst (ns.map D.str),.int many,.bl wr] μ=some (r.toD,μ'):=by
  intro r μ' τ' u q;refine Upd.fin (τ2:=τ') ?_ rfl (u1.trans (u2.trans u)) (Rw.cl r);refine Bc (τ1:=[some (.ref w),some (.lst (own.map D.str)),some (.lst (bxs.map D.str)),some (.lst (ns.map D.str)),some (.int many),some (.bl wr),some (.int r1),none,none]) (μ1:=μ1) (D8 (A4 (ds:=[.ref w,.int 8]) (μ1:=μ) rfl d1) rfl) ?_;refine Bc (τ1:=[some (.ref w),some (.lst (own.map D.str)),some (.lst (bxs.map D.str)),some (.lst (ns.map D.str)),some (.int many),some (.bl wr),some (.int r1),some (.int k0),none]) (μ1:=μ2) (D8 (d:=.int k0) (μ1:=μ2) (by wtm_at "b") rfl) ?_;refine Bc kd ?_;exact Bc (D8 (TW (by omega) rfl rfl) rfl) q
 have hlen:∀xs:List Str,xs.length<=100->xs≠[]->(0:Int)<((xs.map D.str).length:Nat)/\(((xs.map D.str).length:Nat):Int)<1073741824:=by
  intro xs h1 h2;have:=List.length_pos_iff.mpr h2;simp;omega
 by_cases cA:r1<2/\own≠[]
 ·obtain⟨cA1,cA2⟩:=cA;obtain⟨p1,p2⟩:=hlen own lo cA2;obtain⟨r3,μ3,d3,a3,b3,u3⟩:=Cg w2 p1 p2;obtain⟨bx,hbx,px⟩:=GD (f:=D.str) (xs:=own) a3 (by simpa using b3);obtain⟨e,μ4,q4,ok,vs,u4⟩:=X μ3 (u3.well w2.lt);refine⟨.put bx e,μ4,P _ μ4 _ (u3.trans u4) (Gk (HC (Gm (CG (BK (x:=.int r1) (μ1:=μ2) rfl GJ (PL cA1))) (CG (BK (x:=.lst (own.map D.str)) (μ1:=μ2) rfl (A4 (ds:=[]) (μ1:=μ2) rfl (Bu (by decide))) (Iv ho' cA2)))) (K8 (A4 (ds:=[.str "put",.str bx,e.toD]) (μ1:=μ4) (Aw (μ1:=μ2) GJ (Aw (μ1:=μ3) (BK (x:=.lst (own.map D.str)) (y:=.int r3) (μ1:=μ2) (μ2:=μ3) rfl (A4 (ds:=[.ref w,.int ((own.map D.str).length:Nat)]) (μ1:=μ2) rfl d3) (HS px)) (Aw (μ1:=μ4) (A4 (ds:=[.ref w,.lst ((Fv ns wr).map D.str),.int k]) (μ1:=μ3) rfl q4) rfl))) (Ga (show 3<=sizeLine by decide)))))),⟨⟨ho bx hbx,ok⟩,trivial,vs,hbx⟩,u1.trans (u2.trans (u3.trans u4))⟩
 have tA:∀{τ:Sl},τ[1]?=some (some (.lst (own.map D.str)))->τ[6]?=some (some (.int r1))->Ip (Ac (mOp FL (AD 6) (mC (.int 2)))) (Ac (mOp Dd (AD 1) (AF Am AH))) τ μ2=some (false,μ2):=by
  intro τ h1 h6;have s1:AD 1 τ μ2=some (.lst (own.map D.str),μ2):=Cp h1;have s6:AD 6 τ μ2=some (.int r1,μ2):=Cp h6;by_cases c:r1<2
  ·have c0:own=[]:=by rcases Classical.em (own=[]) with z|z;exact z;exact absurd ⟨c,z⟩ cA
   subst c0;exact Gm (CG (BK s6 GJ (PL c))) (CG (BK s1 (A4 (ds:=[]) (μ1:=μ2) rfl (Bu (by decide))) Kq))
  ·exact K9 (CG (BK s6 GJ (Rv (by omega))))
 have tA':=tA (τ:=[some (.ref w),some (.lst (own.map D.str)),some (.lst (bxs.map D.str)),some (.lst (ns.map D.str)),some (.int many),some (.bl wr),some (.int r1),some (.int k),some (.lst ((Fv ns wr).map D.str))]) rfl rfl;by_cases cB:r1<4/\bxs≠[]
 ·obtain⟨cB1,cB2⟩:=cB;obtain⟨p1,p2⟩:=hlen ns ln hne;obtain⟨r3,μ3,d3,a3,b3,u3⟩:=Cg w2 p1 p2;obtain⟨x,hx,px⟩:=GD (f:=D.str) (xs:=ns) a3 (by simpa using b3);have w3:=u3.well w2.lt;obtain⟨p3,p4⟩:=hlen bxs lb cB2;obtain⟨r4,μ4,d4,a4,b4,u4⟩:=Cg w3 p3 p4;obtain⟨bx,hbx,pb⟩:=GD (f:=D.str) (xs:=bxs) a4 (by simpa using b4);refine⟨.get x bx,μ4,P _ μ4 _ (u3.trans u4) (Bc (De tA' rfl) (Gk (HC (Gm (CG (BK (x:=.int r1) (μ1:=μ2) rfl GJ (PL cB1))) (CG (BK (x:=.lst (bxs.map D.str)) (μ1:=μ2) rfl (A4 (ds:=[]) (μ1:=μ2) rfl (Bu (by decide))) (Iv hb' cB2)))) (K8 (A4 (ds:=[.str "get",.str x,.str bx]) (μ1:=μ4) (Aw (μ1:=μ2) GJ (Aw (μ1:=μ3) (BK (x:=.lst (ns.map D.str)) (y:=.int r3) (μ1:=μ2) (μ2:=μ3) rfl (A4 (ds:=[.ref w,.int ((ns.map D.str).length:Nat)]) (μ1:=μ2) rfl d3) (HS px)) (Aw (μ1:=μ4) (BK (x:=.lst (bxs.map D.str)) (y:=.int r4) (μ1:=μ3) (μ2:=μ4) rfl (A4 (ds:=[.ref w,.int ((bxs.map D.str).length:Nat)]) (μ1:=μ3) rfl d4) (HS pb)) rfl))) (Ga (show 3<=sizeLine by decide))))))),⟨⟨hn x hx,hb bx hbx⟩,trivial,?_,hx,hbx⟩,u1.trans (u2.trans (u3.trans u4))⟩;intro y hy;have:y=x:=by simpa[Rw.vars] using hy
  subst this;exact AAb _ hx
 have tB':Ip (Ac (mOp FL (AD 6) (mC (.int 4)))) (Ac (mOp Dd (AD 2) (AF Am AH))) [some (.ref w),some (.lst (own.map D.str)),some (.lst (bxs.map D.str)),some (.lst (ns.map D.str)),some (.int many),some (.bl wr),some (.int r1),some (.int k),some (.lst ((Fv ns wr).map D.str))] μ2=some (false,μ2):=by
  by_cases c:r1<4
  ·have c0:bxs=[]:=by rcases Classical.em (bxs=[]) with z|z;exact z;exact absurd ⟨c,z⟩ cB
   subst c0;exact Gm (CG (BK (x:=.int r1) (μ1:=μ2) rfl GJ (PL c))) (CG (BK (x:=.lst []) (μ1:=μ2) rfl (A4 (ds:=[]) (μ1:=μ2) rfl (Bu (by decide))) Kq))
  ·exact K9 (CG (BK (x:=.int r1) (μ1:=μ2) rfl GJ (Rv (by omega))))
 by_cases cC:r1<5
 ·obtain⟨p1,p2⟩:=hlen ns ln hne;obtain⟨r3,μ3,d3,a3,b3,u3⟩:=Cg w2 p1 p2;obtain⟨x,hx,px⟩:=GD (f:=D.str) (xs:=ns) a3 (by simpa using b3);obtain⟨e,μ4,q4,ok,vs,u4⟩:=X μ3 (u3.well w2.lt);refine⟨.letr x e,μ4,P _ μ4 _ (u3.trans u4) (Bc (De tA' rfl) (Bc (De tB' rfl) (Gk (HC (CG (BK (x:=.int r1) (μ1:=μ2) rfl GJ (PL cC))) (K8 (A4 (ds:=[.str "let",.str x,e.toD]) (μ1:=μ4) (Aw (μ1:=μ2) GJ (Aw (μ1:=μ3) (BK (x:=.lst (ns.map D.str)) (y:=.int r3) (μ1:=μ2) (μ2:=μ3) rfl (A4 (ds:=[.ref w,.int ((ns.map D.str).length:Nat)]) (μ1:=μ2) rfl d3) (HS px)) (Aw (μ1:=μ4) (A4 (ds:=[.ref w,.lst ((Fv ns wr).map D.str),.int k]) (μ1:=μ3) rfl q4) rfl))) (Ga (show 3<=sizeLine by decide)))))))),⟨⟨hn x hx,ok⟩,trivial,?_,hx⟩,u1.trans (u2.trans (u3.trans u4))⟩;intro y hy;rcases AAJ.mp (show y∈x::e.vars from hy) with z|z
  ·subst z;exact AAb _ hx
  ·exact vs y z
 by_cases cD:r1=5
 ·obtain⟨e,μ3,q3,ok,vs,u3⟩:=X μ2 w2;obtain⟨r4,μ4,d4,a4,b4,u4⟩:=Cg (b:=many+1) (u3.well w2.lt) (by omega) (by omega);have cC':5<=r1:=by omega
  exact⟨.unless e r4,μ4,P _ μ4 _ (u3.trans u4) (by simp only[Rw.toD];exact Bc (De tA' rfl) (Bc (De tB' rfl) (by wtm_at "b"))),⟨⟨ok,a4,by omega⟩,trivial,vs,trivial⟩,u1.trans (u2.trans (u3.trans u4))⟩
 by_cases cE:r1=6
 ·obtain⟨r4,μ4,d4,a4,b4,u4⟩:=Cg (b:=many+1) w2 (by omega) (by omega);have cC':5<=r1:=by omega
  exact⟨.jump r4,μ4,P _ μ4 _ u4 (by simp only[Rw.toD];exact Bc (De tA' rfl) (Bc (De tB' rfl) (by wtm_at "b"))),⟨⟨a4,by omega⟩,trivial,by simp[Rw.vars],trivial⟩,u1.trans (u2.trans u4)⟩
 ·obtain⟨e,μ3,q3,ok,vs,u3⟩:=X μ2 w2;have cC':5<=r1:=by omega
  cases wr with
  |true=>
   have ii:JA [.bl true] μ3=some (.int 1,μ3):=rfl;exact⟨.done,μ3,P _ μ3 _ u3 (by simp only[Rw.toD];exact Bc (De tA' rfl) (Bc (De tB' rfl) (by wtm_at "b"))),⟨trivial,rfl,by simp[Rw.vars],trivial⟩,u1.trans (u2.trans u3)⟩
  |false=>
   have ii:JA [.bl false] μ3=some (.int 0,μ3):=rfl;exact⟨.tell e,μ3,P _ μ3 _ u3 (by simp only[Rw.toD];exact Bc (De tA' rfl) (Bc (De tB' rfl) (by wtm_at "b"))),⟨ok,rfl,vs,trivial⟩,u1.trans (u2.trans u3)⟩
end
end K1
set_option maxHeartbeats 4000000
namespace K1
open PySem L2 Mi
section
variable{μ μ' g:Mh}{w:Nat}{l:Int}{τ2:Sl}
theorem WellAt.app(h:WellAt μ w):WellAt (μ++g) w:=by
 have hl:=h.lt;obtain⟨a,m,c,h,ha⟩:=h;exact⟨a,m,c,by rw[AAT hl];exact h,ha⟩
theorem TK{b:Int}(hw:WellAt μ w)(hb:0<b)(hb2:b<1073741824):∃r μ',BC [.ref w,.int b] (μ++g)=some (.int r,μ'++g)/\0<=r/\r<b/\Upd w μ μ':=by
 obtain⟨r,ν,e,h1,h2,u⟩:=Cg (hw.app (g:=g)) hb hb2;obtain⟨μ',u',rfl⟩:=u.app hw.lt;exact⟨r,μ',e,h1,h2,u'⟩
theorem Vd:∀ns:List Int,∃c:Int,CT [.scr ns,.int 0] μ=some (.int c,μ)
 |[]=>by
  have l:Bk [.scr []] μ=some (.int 0,μ):=rfl;exact⟨0,BZ (g:=[]) (τ2:=_) (by rw[AAZ];unfold B1;wtm_at "b") rfl (by unfold Cl;trivial)⟩
 |c::ns=>by
  have l:Bk [.scr (c::ns)] μ=some (.int ((((c::ns).map D.int).length:Nat):Int),μ):=rfl;have h0:(0:Int)<((((c::ns).map D.int).length:Nat):Int):=by simp
  have i:AT (.scr (c::ns)) (.int 0) μ=some (.int c,μ):=by
   show bnd (B4 (.scr (c::ns))) (λds=>ixD ds 0) μ=_;rw[AQ (show B4 (.scr (c::ns)) μ=some ((c::ns).map D.int,μ) from rfl)];unfold ixD;rw[show atI ((c::ns).map D.int) 0=some (.int c) from by
    unfold atI ixN;rw[if_pos (by decide),if_pos h0];rfl]
   rfl
  exact⟨c,BZ (g:=[]) (τ2:=_) (by rw[AAZ];unfold B1;wtm_at "b") rfl (by unfold Cl;trivial)⟩
theorem Yt:Lp (.int 10) (.int 9) μ=some (.int 1000000000,μ):=by
 show (if (0:Int)<=9/\(9:Int)<=1000000/\(10:Int).natAbs<2 ^ 64 then some (D.int ((10:Int) ^ (9:Int).toNat),μ) else none)=_;rw[if_pos (by decide)];rfl
theorem Vb{c:Int}:∃a m:Int,0<=a/\Gj [.int c] μ=some (.ref μ.length,μ++[.lst [.int a,.int m,.int 0]]):=by
 refine⟨if c-1000000000 > 0 then c-1000000000 else 0,c % 2147483647,by split<;>omega,?_⟩;have p:=Yt (μ:=μ);have mx:UN [.int 0,.int (c-1000000000)] μ=some (.int (if c-1000000000 > 0 then c-1000000000 else 0),μ):=rfl;have e:Fk (A9 1 [.int c]) μ=some ((.rt (.ref μ.length),A9 1 [.int c]),μ++[.lst [.int (if c-1000000000 > 0 then c-1000000000 else 0),.int (c % 2147483647),.int 0]]):=by
  unfold Fk;wtm_at "b"
 exact Fc (hw:=.all) e rfl (.inr ⟨_,rfl⟩) ⟨⟨[],by simp[Ij]⟩,by simp[Ij],λj o q=>by
  have q:(μ++[MO.lst [.int (if c-1000000000 > 0 then c-1000000000 else 0),.int (c % 2147483647),.int 0]])[j]?=some o:=q;by_cases hj:j<μ.length
  ·left;rw[AAT hj] at q;exact q
  ·right;rw[AAS (by omega)] at q;have:j-μ.length=0:=by
    have:=(AAU.mp q).1;simp at this;omega
   rw[this] at q;cases q;exact SZ,.inl ⟨rfl,by show Cl _ (D.ref μ.length);unfold Cl;simp[Ij]⟩⟩
theorem Y5:GoodName "abcdefgh" := ⟨by decide +kernel,by decide +kernel,by unfold EN;decide +kernel⟩
end
end K1
set_option maxHeartbeats 4000000
namespace K1
open PySem L2 Mi
section
variable{μ:Mh}{n w:Nat}{d:D}{x y:Str}{τ:Sl}{ds es:List D}
theorem PN(h:μ[n]?=some (.lst ds)):ET (.ref n) μ=some ((),μ):=by
 unfold ET;rw[AQ (show CW (.ref n) μ=some (ds,μ) from by unfold CW;dsimp only;rw[h])];rfl
theorem X0{k:List D->Option (D×List D)}(h:μ[n]?=some (.lst ds))(hk:k ds=some (d,es)):IL n k μ=some (d,μ.set n (.lst es)):=by
 unfold IL;rw[h];show (k ds).map _=_;rw[hk];rfl
theorem UY(h:μ[n]?=some (.lst ds))(hl:ds.length<sizeLine):HM (.ref n) [d] μ=some (.non,μ.set n (.lst (ds++[d]))):=X0 h (by rw[if_pos hl])
theorem ML(k:Nat)(h:k<=ds.length):FN ds (some (k:Int)) none=ds.drop k:=by
 unfold FN;rw[HT.KZ,Nat.min_eq_left h];show (ds.drop k).take (ds.length-k)=_;exact List.take_of_length_le (by simp)
theorem SV(k:Nat):FN ds none (some (k:Int))=ds.take k:=by
 unfold FN;rw[HT.KZ];show (ds.drop 0).take (min k ds.length-0)=_;rw[List.drop_zero,Nat.sub_zero];by_cases h:k<=ds.length
 ·rw[Nat.min_eq_left h]
 ·rw[Nat.min_eq_right (by omega),List.take_length,List.take_of_length_le (by omega)]
theorem Rt{ma:Sl->M D}(h1:ma τ μ=some (.ref n,μ))(h:μ[n]?=some (.lst ds)):Gd ma τ μ=some (ds,μ):=by
 unfold Gd;rw[AQ h1];show (match μ[n]? with|some (.lst ds)=>some (ds,μ)|_=>none)=_;rw[h]
noncomputable def base11:List Str:=["w", "r", "put", "makes", "box", "hand", "z", "not", "v", "safe", "x"]
noncomputable def IS(x:Str):List Str:=base11.take 6++x::base11.drop 6
theorem NI:base11.Nodup:=by decide +kernel
theorem Py:∀y∈base11,GoodName y:=by
 have h:∀y∈base11,(1<=y.length/\y.length<=8)/\EN y:=by unfold EN;decide +kernel
 exact λy hy=>⟨(h y hy).1.1,(h y hy).1.2,(h y hy).2⟩
theorem Oj:(IS x).Perm (x::base11):=by
 unfold IS;refine List.perm_middle.trans ?_;rw[List.take_append_drop]
structure OZ(sm:List Str):Prop where
 len:sm.length=12
 nd:sm.Nodup
 good:∀y∈sm,GoodName y
theorem UK(h:x∉base11)(hx:GoodName x){sm:List Str}(p:sm.Perm (IS x)):OZ sm:=by
 have p:=p.trans Oj;refine⟨by rw[p.length_eq];rfl,p.nodup_iff.mpr (List.nodup_cons.mpr ⟨h,NI⟩),λy hy=>?_⟩;rcases AAJ.mp (p.mem_iff.mp hy) with z|z
 ·rw[z];exact hx
 ·exact Py y z
theorem IW{sm:List Str}(t:Nat):(sm.drop t++sm.take t).Perm sm:=by
 refine List.perm_append_comm.trans ?_;rw[List.take_append_drop]
end
end K1
set_option maxHeartbeats 4000000
namespace K1
open PySem L2 Mi
section
variable{x:Str}
theorem OF{i:Int}(h1:0<=i)(h2:i<3):∃k∈(["safe", "steady", "whole"]:List Str),atI [D.str "safe",.str "steady",.str "whole"] i=some (.str k):=
 GD (f:=D.str) (xs:=["safe", "steady", "whole"]) h1 (by show i<3;exact h2)
theorem V2{sm:List Str}(h:sm.length=12){k:Nat}(hk:k<12):∃x,sm.reverse[k]?=some x/\x∈sm/\atI (sm.map D.str) (11-(k:Int))=some (.str x):=by
 have hk':11-k<sm.length:=by omega
 refine⟨sm[11-k],?_,List.getElem_mem hk',?_⟩
 ·rw[List.getElem?_reverse (by omega)];rw[show sm.length-1-k=11-k from by omega];exact AAs hk'
 ·unfold atI ixN;rw[if_pos (by omega),if_pos (by rw[AAG];omega)];show (sm.map D.str)[(11-(k:Int)).toNat]?=_;rw[show (11-(k:Int)).toNat=11-k from by omega,AAW,AAs hk'];rfl
structure U5(sm ns:List Str)(k:Nat)(bs:List Bx):Prop where
 nms:bs.map Bx.nm=sm.reverse.take k
 wor:∀b∈bs,HV b.kd b.sz b.bg
 wri:∀b∈bs,b.wr∈ns
end
end K1
set_option maxHeartbeats 4000000
namespace K1
open PySem L2 Mi
section
variable{μ μ1 μ2:Mh}{n:Nat}{l:Int}{d:D}{x y:Str}{τ:Sl}
noncomputable def own(bs:List Bx)(nm:Str):List Str:=(bs.filter λb=>b.wr==nm).map Bx.nm
theorem SR{bs:List Bx}{nm:Str}{rn:List Str}{wr:Bool}{l:Int}(hnd:(bs.map Bx.nm).Nodup)(hrn:∀y∈rn,GoodName y/\y∉(["v", "not", "and", "or"]:List Str)){r:Rw}(h:r.Drawn (own bs nm) (bs.map Bx.nm) rn wr l):r.Ok (bs.map kv) nm wr l:=by
 have nv:∀y∈rn,y ≠ "v" := λy hy z=>(hrn y hy).2 (by rw[z];simp);refine⟨h.form,h.ends,λx hx=>?_,?_,?_⟩
 ·rcases AAK.mp (show x∈rn++(if wr then (["v"]:List Str) else []) from h.vars x hx) with z|z
  ·refine⟨(hrn x z).1.ok,λq=>(hrn x z).2 ?_,.inr (nv x z)⟩;simp at q ⊢;exact .inr q
  ·cases wr with
   |true=>
    simp at z;subst z;exact⟨by decide +kernel,by decide +kernel,.inl rfl⟩
   |false=>simp at z
 ·have f:=h.frm;cases r with
  |get x bx=>exact nv x f.1
  |letr x e=>exact nv x f
  |_=>trivial
 ·have f:=h.frm;cases r with
  |put bx e=>
   have f:bx∈own bs nm:=f;unfold own at f;rw[AAM] at f;obtain⟨b,hb,rfl⟩:=f;rw[List.mem_filter] at hb;have e2:b.wr=nm:=beq_iff_eq.mp hb.2;show Bv (bs.map kv) (.inr b.nm)=some (.str nm);rw[KK hnd hb.1,e2]
  |get x bx=>
   have f:bx∈bs.map Bx.nm:=f.2;rw[AAM] at f;obtain⟨b,hb,rfl⟩:=f;show (Bv (bs.map kv) (.inr b.nm)).isSome=true;rw[KK hnd hb];rfl
  |_=>trivial
theorem M0{nm:Str}(hn:PyData.strOk nm=true):∀(bs:List Bx) (ys:List D),(∀b∈bs,PyData.strOk b.wr=true)->B3 (AM 0) (Ac (mOp BF (mOp AT (AD 0) (mC (.int 4))) (AD 1))) (mOp AT (AD 0) (mC (.int 0))) [none,some (.str nm)] (bs.map Bx.toD) ys μ=some (ys++(own bs nm).map D.str,μ)
 |[],ys,_=>by show some (ys,μ)=_;simp[own]
 |b::bs,ys,h=>by
  have ih:=λys=>M0 hn bs ys λq hq=>h q (by simp[hq]);have hb:=h b (by simp);show bnd (AM 0 b.toD [none,some (.str nm)]) _ μ=_;rw[AQ (show AM 0 b.toD [none,some (.str nm)] μ=some ([some b.toD,some (.str nm)],μ) from rfl)];have t:Ac (mOp BF (mOp AT (AD 0) (mC (.int 4))) (AD 1)) [some b.toD,some (.str nm)] μ=some (b.wr==nm,μ):=CG (BK (x:=.str b.wr) (y:=.str nm) (μ1:=μ) (μ2:=μ) (BK (x:=b.toD) (y:=.int 4) (μ1:=μ) (μ2:=μ) rfl rfl (F0 rfl)) rfl (Rx hb hn));rw[AQ t];by_cases c:b.wr=nm
  ·have c':(b.wr==nm)=true:=beq_iff_eq.mpr c;rw[c',if_pos rfl,AQ (BK (x:=b.toD) (y:=.int 0) (d:=.str b.nm) (μ1:=μ) (μ2:=μ) (μ3:=μ) rfl rfl (F0 rfl)),ih];simp[own,c']
  ·have c':(b.wr==nm)=false:=AAe.mpr c;rw[c',if_neg (by decide),ih];simp[own,c']
theorem NE{bs:List Bx}(hl:bs.length<=1000){ma:Sl->M D}(hm:ma τ μ=some (.ref n,μ))(h:μ[n]?=some (.lst (bs.map Bx.toD))):BE 1 [] (Gd ma) (AM 0) BO (mOp AT (AD 0) (mC (.int 0))) Am τ μ=some (.lst ((bs.map Bx.nm).map D.str),μ):=by
 have hz:sizeLine=16777216:=by decide
 have go:∀(xs:List Bx) (ys:List D),B3 (AM 0) BO (mOp AT (AD 0) (mC (.int 0))) (BB 1 [] τ) (xs.map Bx.toD) ys μ=some (ys++(xs.map Bx.nm).map D.str,μ):=by
  intro xs
  induction xs with
  |nil=>intro ys;show some (ys,μ)=_;simp
  |cons a xs ih=>
   intro ys;show bnd (AM 0 a.toD (BB 1 [] τ)) _ μ=_;rw[AQ (show AM 0 a.toD (BB 1 [] τ) μ=some ((BB 1 [] τ).set 0 (some a.toD),μ) from rfl),AQ (show BO ((BB 1 [] τ).set 0 (some a.toD)) μ=some (true,μ) from rfl),if_pos rfl,AQ (BK (x:=a.toD) (y:=.int 0) (d:=.str a.nm) (μ1:=μ) (μ2:=μ) (μ3:=μ) (Cp rfl) GJ (F0 rfl)),ih];simp
 exact FD (Rt hm h) (by simp;omega) (go bs []) (Bu (by simp;omega))
noncomputable abbrev Zf:Sl->M D:=(AF HB (AB (AD 6) (AB (AD 4) (AB (BE 1 [] (Gd (AD 1)) (AM 0) BO (mOp AT (AD 0) (mC (.int 0))) Am) (AB (AD 5) (AB (AD 3) (AB (mOp BF (AD 2) (mC (.int 0))) AH)))))))
end
end K1
set_option maxHeartbeats 4000000
namespace K1
open PySem L2 Mi
section
structure Xo(bs:List Bx)(i:Nat)(h:Hd):Prop where
 lo:0<=h.wi
 hi:h.wi<=400
 most:h.rs.length<=60
 rows:∀r∈h.rs,r.Ok (bs.map kv) h.nm (i==0) h.rs.length
theorem UO{i:Int}(h1:0<=i)(h2:i<5):∃k:Int,0<=k/\k<=60/\atI [D.int 0,.int 1,.int 3,.int 5,.int 7] i=some (.int k):=by
 obtain⟨k,hk,e⟩:=GD (f:=D.int) (xs:=[0,1,3,5,7]) h1 (by show i<5;exact h2);simp at hk;exact⟨k,by omega,by omega,e⟩
theorem Oe{i:Int}(h1:0<=i)(h2:i<5):∃k:Int,0<=k/\k<=400/\atI [D.int 0,.int 1,.int 9,.int 99,.int 400] i=some (.int k):=by
 obtain⟨k,hk,e⟩:=GD (f:=D.int) (xs:=[0,1,9,99,400]) h1 (by show i<5;exact h2);simp at hk;exact⟨k,by omega,by omega,e⟩
end
end K1
set_option maxHeartbeats 4000000
namespace K1
open PySem L2 Mi
section
variable{x:Str}
theorem Hr{α:Type}{f:α->D}{k:Nat}(h:∀a,Cl k (f a)):∀xs:List α,ClL k (xs.map f)
 |[]=>by simp[ClL]
 |x::r=>by rw[AAX];unfold ClL;exact⟨h x,Hr h r⟩
theorem Bx.cl{k:Nat}(b:Bx):Cl k b.toD:=by simp[Bx.toD,Cl,ClL]
theorem Hd.cl{k:Nat}(b:Hd):Cl k b.toD:=by
 have:=Hr (k:=k) (f:=Rw.toD) (λr=>r.cl) b.rs;simp[Hd.toD,Cl,ClL,this]
theorem Mk.cl{k:Nat}(m:Mk):Cl k m.toD:=by
 have h1:=Hr (k:=k) (f:=Bx.toD) (λr=>r.cl) m.bs;have h2:=Hr (k:=k) (f:=Hd.toD) (λr=>r.cl) m.hs;simp[Mk.toD,Cl,ClL,h1,h2]
end
end K1
set_option maxHeartbeats 4000000
namespace K1
open PySem L2 Mi
end K1
namespace L2
open PySem PySem.Spec PyProof.Rows
end L2
namespace Mi
open PySem L2 Ht
end Mi
namespace Sq
open PySem PySem.W PyProof.Rows
end Sq
namespace Nk
open PySem PySem.Spec PyProof.Rows HT
end Nk
namespace Hs
open PySem PySem.SetTable
end Hs
namespace Hs
open PySem PySem.SetTable Ht
end Hs
set_option maxHeartbeats 4000000
namespace Hs
open PySem PySem.Spec PyProof.Rows Nk
end Hs
set_option maxHeartbeats 4000000
namespace Hs
open PySem PySem.Spec PyProof.Rows Nk PySem.SetTable Ht
end Hs
set_option maxHeartbeats 4000000
namespace Hs
open PySem PySem.Spec PyProof.Rows Nk PySem.SetTable Ht
end Hs
set_option maxHeartbeats 4000000
namespace Hs
open PySem PySem.Spec PyProof.Rows Nk PySem.SetTable Ht
end Hs
set_option maxHeartbeats 4000000
namespace Hs
open PySem PySem.Spec PyProof.Rows Nk PySem.SetTable Ht
end Hs
set_option maxHeartbeats 4000000
namespace Hs
open PySem PySem.Spec PyProof.Rows Nk PySem.SetTable Ht
end Hs
set_option maxHeartbeats 4000000
namespace Hs
open PySem PySem.Spec PyProof.Rows Sem L2 Nk PySem.SetTable Ht
section
variable{α:Type}[DecidableEq α]
end
end Hs
namespace Hs
open PySem PySem.Spec PyProof.Rows Sem L2 Nk Ht
end Hs
set_option maxHeartbeats 4000000
namespace Nk
open PySem PySem.Spec PyProof.Rows Ht
end Nk
namespace Nk
open PySem PySem.Spec PyProof.Rows L2 Mi
end Nk
namespace Mi
open PySem L2 Ht Nk
end Mi
namespace Hs
open PySem PySem.Spec PyProof.Rows Sem L2 Nk Ht
end Hs
namespace Nk
open PySem PySem.Spec PyProof.Rows PySem.SeqAt
end Nk
set_option maxHeartbeats 4000000
namespace Hs
open PySem PySem.Spec PyProof.Rows PySem.SeqAt Nk Ht
end Hs
set_option maxHeartbeats 4000000
namespace Hs
open PySem PySem.Spec PyProof.Rows Nk PySem.SetTable Ht L2
end Hs
set_option maxHeartbeats 4000000
namespace Hs
open PySem PySem.Spec PyProof.Rows Nk PySem.SetTable Ht L2
end Hs
set_option maxHeartbeats 4000000
namespace Hs
open PySem PySem.Spec PyProof.Rows Nk PySem.SetTable Ht L2
end Hs
namespace Mi
open PySem L2 Ht Nk
end Mi
namespace Mi
open PySem L2 Ht Nk PySem.SeqAt
end Mi
set_option maxHeartbeats 2000000
namespace Mi
open PySem PySem.Spec PyProof.Rows L2 Ht Nk Hs
end Mi
set_option maxHeartbeats 2000000
namespace Mi
open PySem PySem.Spec PyProof.Rows L2 Ht Nk Hs
end Mi
namespace L2
open PySem PySem.Spec PyProof.Rows
end L2
namespace Mi
open PySem L2
end Mi
set_option maxHeartbeats 2000000
namespace Xt
open PySem PySem.Spec PyProof.Rows Sem L2 Ht
section
variable{s:Shared}
set_option hygiene false in
local macro_rules | `(tactic| wtm_at "s")=>`(tactic| (
 refine AAA (wpAny_storeSet_of (s:={ s with toks:=s.toks+1 }) ho hd ?_ (by rw[sizeLine_eq];unfold scanBound at room;omega));have ho1:=get_put ho hd es1 t2;have sb1:=Heap.SameBut.update s.heap a (Obj.putSet es1 t2);by_cases hf:(!wd&&t2.tooFull)=true
 ·rw[if_pos hf];have rp:=relayAll_perm t2 es1 (SetTable.grown es1.size);have rf:=relayAll_fits t2 es1 (SetTable.grown es1.size);have rl:=relay_led t2 es1 (SetTable.grown es1.size);generalize relayAll t2 es1 (SetTable.grown es1.size)=ry at rp rf rl;obtain⟨es3,t3,gv3⟩:=ry;dsimp only at rp rf rl ⊢;have s3:es3.size=es1.size:=by simpa using rp.length_eq
  cases gv3
  all_goals
   first
    |refine AAA (AAB ?_)
    |refine AAA (wpAny_rule ?_)
   refine AAA (wpAny_storeSet_of (s:={ s with heap:=s.heap.update a (Obj.putSet es1 t2),toks:=s.toks+1 }) ho1 rfl ?_ (by rw[sizeLine_eq];unfold scanBound at room;omega));exact AAB (AAB (wrap es3 t3 _ o _ _ (sb1.trans (Heap.SameBut.update _ a _)) (get_put ho1 rfl es3 t3) rp rf (rl.1.trans fl.2.1) (rl.2 fl.2.2)))
 ·rw[if_neg hf];exact AAB (AAB (wrap es1 t2 _ o _ _ sb1 ho1 (.refl _) fl.1 fl.2.1 fl.2.2))))
end
end Xt
set_option maxHeartbeats 2000000
namespace Xt
open PySem PySem.Spec PyProof.Rows Sem L2 Ht
end Xt
set_option maxHeartbeats 2000000
namespace Xt
open PySem PySem.Spec PyProof.Rows Sem L2 Ht
end Xt
set_option maxHeartbeats 2000000
namespace Xt
open PySem PySem.Spec PyProof.Rows Sem L2 Ht
end Xt
set_option maxHeartbeats 2000000
namespace Xt
open PySem PySem.Spec PyProof.Rows Sem L2 Ht
end Xt
namespace L2
open PySem PySem.Spec PyProof.Rows Sem Ht Xt
end L2
namespace Mi
open PySem L2 Ht Xt
end Mi
namespace Mi
open PySem L2
end Mi
namespace Kst
open PySem L2 Mi
end Kst
namespace Mi
open PySem L2
def WP{α:Type}(m:M α)(μ:Mh)(Q:α->Mh->Prop):Prop:=∃a μ',m μ=some (a,μ')/\Q a μ'
section
variable{α β:Type}{m:M α}{f:α->M β}{μ μ':Mh}{Q Q':α->Mh->Prop}{R:β->Mh->Prop}{a:α}
theorem BI(h:m μ=some (a,μ'))(q:Q a μ'):WP m μ Q:=⟨a,μ',h,q⟩
theorem Ag(h:WP m μ Q)(k:∀a μ',Q a μ'->Q' a μ'):WP m μ Q':=by
 obtain⟨a,μ',e,q⟩:=h;exact⟨a,μ',e,k a μ' q⟩
theorem An(h:WP m μ λa μ1=>WP (f a) μ1 R):WP (bnd m f) μ R:=by
 obtain⟨a,μ1,e,b,μ2,e2,q⟩:=h;exact⟨b,μ2,by rw[AQ e];exact e2,q⟩
theorem BN(q:Q a μ):WP (ret a) μ Q:=⟨a,μ,rfl,q⟩
end
section
variable{τ τ1:Sl}{μ μ1:Mh}{d x y:D}{ds:List D}{ma mb:Sl->M D}{ra:Sl->M (List D)}{tc tb:Sl->M Bool}{m1 m2:Sl->M (Fl×Sl)}{g:D->D->M D}{QD:D->Mh->Prop}{QB:Bool->Mh->Prop}{QL:List D->Mh->Prop}{QS:Fl×Sl->Mh->Prop}{QO:Option Int->Mh->Prop}{i j:Int}{n:Nat}
theorem Ad{i:Nat}(h:τ[i]?=some (some d))(q:QD d μ):WP (AD i τ) μ QD:=BI (Cp h) q
theorem Cq(q:QD d μ):WP (mC d τ) μ QD:=⟨d,μ,rfl,q⟩
theorem A3(h:WP (ma τ) μ λx μ1=>WP (mb τ) μ1 λy μ2=>WP (g x y) μ2 QD):WP (mOp g ma mb τ) μ QD:=An (Ag h λ_ _ z=>An z)
theorem QH{u:D->M D}(h:WP (ma τ) μ λx μ1=>WP (u x) μ1 QD):WP (mUn u ma τ) μ QD:=An h
theorem AZ{f:List D->M D}(h:WP (ra τ) μ λds μ1=>WP (f ds) μ1 QD):WP (AF f ra τ) μ QD:=An h
theorem Bl(q:QL [] μ):WP (AH τ) μ QL:=⟨[],μ,rfl,q⟩
theorem Ab(h:WP (ma τ) μ λx μ1=>WP (ra τ) μ1 λds μ2=>QL (x::ds) μ2):WP (AB ma ra τ) μ QL:=An (Ag h λ_ _ z=>An (Ag z λ_ _ z=>BN z))
theorem QI{l h:Sl->M (Option Int)}(z:WP (ma τ) μ λx μ1=>WP (l τ) μ1 λa μ2=>WP (h τ) μ2 λb μ3=>WP (Ic a b x) μ3 QD):WP (Ej ma l h τ) μ QD:=An (Ag z λ_ _ z=>An (Ag z λ_ _ z=>An z))
theorem Jc(q:QO none μ):WP (Br τ) μ QO:=⟨none,μ,rfl,q⟩
theorem NV(h:WP (ma τ) μ λd μ1=>∃i,d=.int i/\QO (some i) μ1):WP (Bz ma τ) μ QO:=An (Ag h λ_ _ ⟨i,e,q⟩=>by subst e;exact BN q)
theorem VY{mc:Sl->M Bool}(h:WP (mc τ) μ λb μ1=>(b=true->WP (ma τ) μ1 QD)/\(b=false->WP (mb τ) μ1 QD)):WP (mIf mc ma mb τ) μ QD:=An (Ag h λb _ z=>by cases b;exact z.2 rfl;exact z.1 rfl)
theorem BG(h:WP (ma τ) μ λd μ1=>∃b,d=.bl b/\QB b μ1):WP (Ac ma τ) μ QB:=An (Ag h λ_ _ ⟨b,e,q⟩=>by subst e;exact BN q)
theorem IB(h:WP (tc τ) μ λb μ1=>QB (!b) μ1):WP (M8 tc τ) μ QB:=An (Ag h λ_ _ q=>BN q)
noncomputable def orK(m:M Bool)(QB:Bool->Mh->Prop):Bool->Mh->Prop
 |true,μ=>QB true μ
 |false,μ=>WP m μ QB
theorem QJ(h:WP (tc τ) μ (orK (tb τ) QB)):WP (mOr tc tb τ) μ QB:=An (Ag h λb _ z=>by cases b;exact z;exact BN z)
theorem TC(h:WP (ma τ) μ λd μ1=>∃b,d=.bl b/\(b=true->WP (mb τ) μ1 QD)/\(b=false->QD (.bl false) μ1)):WP (DE ma mb τ) μ QD:=An (Ag h λd μ1 ⟨b,e,z⟩=>by
 subst e;refine An (BN ?_);cases b
 ·exact BN (z.2 rfl)
 ·exact z.1 rfl)
noncomputable def Ng(m2:Sl->M (Fl×Sl))(QS:Fl×Sl->Mh->Prop):Fl×Sl->Mh->Prop
 |(.next,τ1),μ1=>WP (m2 τ1) μ1 QS
 |r,μ1=>QS r μ1
theorem AN(h:WP (m2 τ1) μ1 QS):Ng m2 QS (.next,τ1) μ1:=h
theorem FP(h:QS (.rt d,τ1) μ1):Ng m2 QS (.rt d,τ1) μ1:=h
theorem AX(h:WP (m1 τ) μ (Ng m2 QS)):WP (AS m1 m2 τ) μ QS:=An (Ag h λr _ z=>by
 obtain⟨fl,τ1⟩:=r;cases fl
 ·exact z
 ·exact BN z
 ·exact BN z
 ·exact BN z
 ·exact BN z)
theorem Va{x:Exn}(h:QS (.xc x,τ1) μ1):Ng m2 QS (.xc x,τ1) μ1:=h
theorem A2{i:Nat}(h:WP (ma τ) μ λd μ1=>QS (.next,τ.set i (some d)) μ1):WP (Ai ma (AM i) τ) μ QS:=An (Ag h λ_ _ q=>An (BN (BN q)))
theorem Mf{bf:D->Sl->M Sl}(h:WP (ma τ) μ λd μ1=>WP (bf d τ) μ1 λτ1 μ2=>QS (.next,τ1) μ2):WP (Ai ma bf τ) μ QS:=An (Ag h λ_ _ q=>An (Ag q λ_ _ z=>BN z))
theorem Cz(h:WP (ma τ) μ λd μ1=>QS (.rt d,τ) μ1):WP (BA ma τ) μ QS:=An (Ag h λ_ _ q=>BN q)
theorem Hk(h:WP (ma τ) μ λ_ μ1=>QS (.next,τ) μ1):WP (EH ma τ) μ QS:=An (Ag h λ_ _ q=>BN q)
theorem CI(q:QS (.next,τ) μ):WP (BT τ) μ QS:=⟨_,μ,rfl,q⟩
noncomputable def ifK(m1 m2:Sl->M (Fl×Sl))(τ:Sl)(QS:Fl×Sl->Mh->Prop):Bool->Mh->Prop
 |true,μ=>WP (m1 τ) μ QS
 |false,μ=>WP (m2 τ) μ QS
theorem EG(h:WP (m1 τ) μ QS):ifK m1 m2 τ QS true μ:=h
theorem C0(h:WP (m2 τ) μ QS):ifK m1 m2 τ QS false μ:=h
theorem Er{b:Bool}(h1:b=true->WP (m1 τ) μ QS)(h2:b=false->WP (m2 τ) μ QS):ifK m1 m2 τ QS b μ:=by cases b;exact h2 rfl;exact h1 rfl
theorem Cc(h:WP (tc τ) μ (ifK m1 m2 τ QS)):WP (sIf tc m1 m2 τ) μ QS:=An (Ag h λb _ z=>by cases b;exact z;exact z)
theorem IC{src:Sl->M (List D)}{bf:D->Sl->M Sl}(h:WP (src τ) μ λds μ1=>WP (FH bf m1 ds τ) μ1 QS):WP (Dv src bf m1 τ) μ QS:=An h
noncomputable def OD(I:Sl->Mh->Prop)(QS:Fl×Sl->Mh->Prop):Fl×Sl->Mh->Prop
 |(.next,τ),μ=>I τ μ
 |(.cont,τ),μ=>I τ μ
 |(.brk,τ),μ=>QS (.next,τ) μ
 |(.rt d,τ),μ=>QS (.rt d,τ) μ
 |(.xc x,τ),μ=>QS (.xc x,τ) μ
theorem Ci{I:Sl->Mh->Prop}(h:I τ μ):OD I QS (.next,τ) μ:=h
theorem DZ{bf:D->Sl->M Sl}(I:List D->Sl->Mh->Prop)(step:∀x xs τ μ,I (x::xs) τ μ->WP (bf x τ) μ λτ1 μ1=>WP (m1 τ1) μ1 (OD (I xs) QS))(fin:∀τ μ,I [] τ μ->QS (.next,τ) μ):∀{ds:List D} {τ:Sl} {μ:Mh},I ds τ μ->WP (FH bf m1 ds τ) μ QS
 |[],τ,μ,h=>BN (fin τ μ h)
 |x::xs,τ,μ,h=>An (Ag (step x xs τ μ h) λτ1 μ1 z=>An (Ag z λr μ2 z=>by
   obtain⟨fl,τ2⟩:=r;cases fl
   ·exact DZ I step fin z
   ·exact BN z
   ·exact DZ I step fin z
   ·exact BN z
   ·exact BN z))
theorem Gw{I:Sl->Mh->Prop}{x:Exn}(h:QS (.xc x,τ) μ):OD I QS (.xc x,τ) μ:=h
theorem EZ{QT:Sl->Mh->Prop}{i:Nat}(q:QT (τ.set i (some d)) μ):WP (AM i d τ) μ QT:=⟨_,μ,rfl,q⟩
theorem ID{QT:Sl->Mh->Prop}{i j:Nat}(q:QT ((τ.set i (some x)).set j (some y)) μ):WP (GN [i,j] (.tup [x,y]) τ) μ QT:=⟨_,μ,rfl,q⟩
theorem Fg{N:Nat}{ix:List Nat}{src:Sl->M (List D)}{bf:D->Sl->M Sl}{fin:List D->M D}(h:WP (src τ) μ λds μ1=>ds.length<=sizeLine/\WP (B3 bf tc ma (BB N ix τ) ds []) μ1 λes μ2=>WP (fin es) μ2 QD):WP (BE N ix src bf tc ma fin τ) μ QD:=An (Ag h λds μ1 z=>An (BI (Ir z.1 μ1) (An z.2)))
theorem Hl{bf:D->Sl->M Sl}{τ0:Sl}(I:List D->List D->Mh->Prop)(step:∀x xs ys μ,I (x::xs) ys μ->WP (bf x τ0) μ λτ1 μ1=>WP (tc τ1) μ1 λc μ2=>(c=true->WP (ma τ1) μ2 λy μ3=>I xs (ys++[y]) μ3)/\(c=false->I xs ys μ2))(fin:∀ys μ,I [] ys μ->QL ys μ):∀{ds ys:List D} {μ:Mh},I ds ys μ->WP (B3 bf tc ma τ0 ds ys) μ QL
 |[],ys,μ,h=>BN (fin ys μ h)
 |x::xs,ys,μ,h=>An (Ag (step x xs ys μ h) λτ1 μ1 z=>An (Ag z λc μ2 z=>by
   cases c
   ·exact Hl I step fin (z.2 rfl)
   ·exact An (Ag (z.1 rfl) λy μ3 z=>Hl I step fin z)))
theorem NZ(q:QD (.int (i+j)) μ):WP (A7 (.int i) (.int j)) μ QD:=⟨_,μ,rfl,q⟩
theorem VV(q:QD (.int (i-j)) μ):WP (Dz (.int i) (.int j)) μ QD:=⟨_,μ,rfl,q⟩
theorem QM(h:0<j)(q:QD (.int (i % j)) μ):WP (FT (.int i) (.int j)) μ QD:=BI (VH h) q
theorem QK(h:(-(2 ^ 64)<i/\i<2 ^ 64)∨(-(2 ^ 64)<j/\j<2 ^ 64))(q:QD (.int (i * j)) μ):WP (DX (.int i) (.int j)) μ QD:=BI (VG h) q
theorem QN(q:QD (.bl (decide (i<j))) μ):WP (FL (.int i) (.int j)) μ QD:=⟨_,μ,rfl,q⟩
theorem NX(q:QD (.bl (decide (j<i))) μ):WP (Ie (.int i) (.int j)) μ QD:=⟨_,μ,rfl,q⟩
theorem F6(q:QD (.bl (i==j)) μ):WP (BF (.int i) (.int j)) μ QD:=⟨_,μ,rfl,q⟩
theorem Me(q:QD (.bl (!(i==j))) μ):WP (Dd (.int i) (.int j)) μ QD:=⟨_,μ,rfl,q⟩
theorem NW{b:Bool}(q:QD (.int (if b then 1 else 0)) μ):WP (JA [.bl b]) μ QD:=⟨_,μ,rfl,q⟩
theorem GQ(h:ds.length<=sizeLine)(q:QD (.tup ds) μ):WP (AY ds) μ QD:=by
 refine BI (a:=.tup ds) (μ':=μ) ?_ q;unfold AY;rw[AQ (Ir h _)];rfl
theorem EF(h:ds.length<=sizeLine)(q:QD (.lst ds) μ):WP (Am ds) μ QD:=by
 refine BI (a:=.lst ds) (μ':=μ) ?_ q;unfold Am;rw[AQ (Ir h _)];rfl
theorem Hj(h:ds.length<=sizeLine)(q:QD (.ref μ.length) (μ++[.lst ds])):WP (FA ds) μ QD:=by
 refine BI (a:=.ref μ.length) (μ':=μ++[.lst ds]) ?_ q;unfold FA;rw[AQ (Ir h _)]
theorem EO(h2:atI ds i=some d)(q:QD d μ):WP (AT (.tup ds) (.int i)) μ QD:=BI (F0 h2) q
theorem EQ(h2:atI ds i=some d)(q:QD d μ):WP (AT (.lst ds) (.int i)) μ QD:=BI (HS h2) q
theorem VW(h:WP (ma τ) μ λd μ1=>WP (JP d) μ1 QL):WP (CC ma τ) μ QL:=An h
theorem S9(q:QL ds μ):WP (JP (.tup ds)) μ QL:=⟨_,μ,rfl,q⟩
theorem TB(q:QL ds μ):WP (JP (.lst ds)) μ QL:=⟨_,μ,rfl,q⟩
theorem NU(h:WP (ra τ) μ λds μ1=>∃j:Nat,ds=[.int j]/\j<1000000/\QL ((List.range j).map λ(i:Nat)=>.int (i:Int)) μ1):WP (Io ra τ) μ QL:=An (Ag h λds μ1 ⟨j,e,hj,q⟩=>by
 subst e;refine BI (a:=Lj 0 j) (μ':=μ1) ?_ ?_
 ·have hj2:-(2 ^ 62)<=(j:Int)/\(j:Int)<2 ^ 62:=⟨by omega,by omega⟩;unfold Qs;simp only[];rw[if_pos hj2]
 ·have e:Lj 0 (j:Int)=(List.range j).map λ(i:Nat)=>.int (i:Int):=by
   unfold Lj;rw[show ((j:Int)-0).toNat=j by omega];congr 1
   funext i
   rw[Int.zero_add]
  rw[e];exact q)
theorem Hi(q:QD (.tup ds) μ):WP (DH [.lst ds]) μ QD:=⟨_,μ,rfl,q⟩
theorem NT(h:μ[n]?=some (.lst ds))(q:QD (.tup ds) μ):WP (DH [.ref n]) μ QD:=by
 refine BI (a:=.tup ds) (μ':=μ) ?_ q;show bnd (CW (.ref n)) (λds=>ret (D.tup ds)) μ=_;rw[AQ (show CW (.ref n) μ=some (ds,μ) from by show (match μ[n]? with|some (.lst ds)=>some (ds,μ)|_=>none)=_;rw[h])];rfl
theorem Ff(q:QD (.int ds.length) μ):WP (Bk [.tup ds]) μ QD:=⟨_,μ,rfl,q⟩
theorem NY{gs:Mh}{i:Nat}(ht:τ[i]?=some (some (.ref gs.length)))(hs:ds.length<sizeLine)(h:WP (ra τ) (gs++[.lst ds]) λes μ1=>∃gs' y,es=[y]/\μ1=gs'++[.lst ds]/\gs'.length=gs.length/\QD .non (gs'++[.lst (ds++[y])])):WP (Ch HM (AD i) ra τ) (gs++[.lst ds]) QD:=by
 unfold Ch;refine An (BI (Cp ht) ?_);have hg:ET (.ref gs.length) (gs++[.lst ds])=some ((),gs++[.lst ds]):=by
  unfold ET;rw[AQ (show CW (.ref gs.length) (gs++[.lst ds])=some (ds,gs++[.lst ds]) from by show (match (gs++[MO.lst ds])[gs.length]? with|some (.lst ds')=>some (ds',gs++[MO.lst ds])|_=>none)=some (ds,gs++[MO.lst ds]);rw[AAS (AAF _)];simp)];rfl
 refine An (BI hg (An (Ag h ?_)));rintro es μ1 ⟨gs',y,rfl,rfl,hl,q⟩;refine BI (a:=.non) (μ':=gs'++[.lst (ds++[y])]) ?_ q;show IL gs.length (λds=>if ds.length<sizeLine then some (.non,ds++[y]) else none) (gs'++[.lst ds])=_;unfold IL;rw[←hl,AAS (AAF _)];simp[hs]
theorem KI{N ps:Nat}{mb:Sl->M (Fl×Sl)}{ds:List D}{QD:D->Mh->Prop}(hl:ds.length=ps)(h:WP (mb (A9 N ds)) μ λr μ2=>∃d τ2 gs,r=(.rt d,τ2)/\μ2=μ++gs/\Cl μ.length d/\QD d μ):WP (Bq .drop N ps mb ds) μ QD:=by
 obtain⟨r,μ2,e,d,τ2,gs,rfl,rfl,c,q⟩:=h;exact BI (BZ e hl c) q
end
mutual
def Pz:D->Prop
 | .non=>True
 | .int _=>True
 | .str x=>PyData.strOk x=true
 | .tup ds=>PzL ds
 | .lst ds=>PzL ds
 |_=>False
def PzL:List D->Prop
 |[]=>True
 |d::ds=>Pz d/\PzL ds
end
mutual
def dpt:D->Nat
 | .tup ds=>Hc ds+1
 | .lst ds=>Hc ds+1
 |_=>0
def Hc:List D->Nat
 |[]=>0
 |d::ds=>max (dpt d) (Hc ds)
end
mutual
def toZ:D->PyData
 | .int i=>.int i
 | .str x=>.str x
 | .tup ds=>.tuple (EC ds)
 | .lst ds=>.list (EC ds)
 |_=>.none
def EC:List D->List PyData
 |[]=>[]
 |d::ds=>toZ d::EC ds
end
mutual
theorem Mo(μ:Mh):∀{d:D},Pz d->toP μ d=some (toZ d)
 | .non,_=>rfl
 | .int _,_=>rfl
 | .str _,_=>rfl
 | .tup ds,h=>by unfold Pz at h;unfold toP toZ;rw[KN μ h];rfl
 | .lst ds,h=>by unfold Pz at h;unfold toP toZ;rw[KN μ h];rfl
 | .bl _,h | .ty _,h | .scr _,h | .ref _,h=>by unfold Pz at h;exact h.elim
theorem KN(μ:Mh):∀{ds:List D},PzL ds->FK μ ds=some (EC ds)
 |[],_=>by unfold FK EC;rfl
 |d::ds,h=>by
  unfold PzL at h;unfold FK EC;rw[Mo μ h.1,KN μ h.2];rfl
end
mutual
theorem KM:∀{d:D},Pz d->PyData.canLay0 (toZ d)=true/\PyData.depth (toZ d)=dpt d
 | .non,_=>⟨rfl,rfl⟩
 | .int _,_=>⟨rfl,rfl⟩
 | .str _,h=>by unfold Pz at h;exact⟨h,rfl⟩
 | .tup ds,h=>by
  unfold Pz at h;obtain⟨h1,h2⟩:=IM h;unfold toZ dpt;exact⟨h1,by show PyData.depthAll (EC ds)+1=_;rw[h2]⟩
 | .lst ds,h=>by
  unfold Pz at h;obtain⟨h1,h2⟩:=IM h;unfold toZ dpt;exact⟨h1,by show PyData.depthAll (EC ds)+1=_;rw[h2]⟩
 | .bl _,h | .ty _,h | .scr _,h | .ref _,h=>by unfold Pz at h;exact h.elim
theorem IM:∀{ds:List D},PzL ds->PyData.canLayAll0 (EC ds)=true/\PyData.depthAll (EC ds)=Hc ds
 |[],_=>by unfold EC Hc;exact⟨rfl,rfl⟩
 |d::ds,h=>by
  unfold PzL at h;obtain⟨h1,h2⟩:=KM h.1;obtain⟨h3,h4⟩:=IM h.2;unfold EC Hc;refine⟨?_,?_⟩
  ·show (PyData.canLay0 (toZ d)&&PyData.canLayAll0 (EC ds))=true;rw[h1,h3];rfl
  ·show max (PyData.depth (toZ d)) (PyData.depthAll (EC ds))=_;rw[h2,h4]
end
mutual
theorem eqZ:∀{a b:D},Pz a->Pz b->(PyData.eqv (toZ a) (toZ b)=true↔a=b)
 | .non,b,_,hb=>by
  cases b<;>first|exact⟨λ_=>rfl,λ_=>rfl⟩|(unfold Pz at hb;exact hb.elim)|(unfold toZ;exact⟨λz=>(by cases z),λz=>(by cases z)⟩)
 | .int i,b,_,hb=>by
  cases b with
  |int j=>exact⟨λz=>by have:(i==j)=true:=z;rw[beq_iff_eq.mp this],λz=>by cases z;show (i==i)=true;simp⟩
  |_=>first|(unfold Pz at hb;exact hb.elim)|(unfold toZ;exact⟨λz=>(by cases z),λz=>(by cases z)⟩)
 | .str i,b,_,hb=>by
  cases b with
  |str j=>exact⟨λz=>by have:(i==j)=true:=z;rw[beq_iff_eq.mp this],λz=>by cases z;show (i==i)=true;simp⟩
  |_=>first|(unfold Pz at hb;exact hb.elim)|(unfold toZ;exact⟨λz=>(by cases z),λz=>(by cases z)⟩)
 | .tup xs,b,ha,hb=>by
  cases b with
  |tup ys=>
   unfold Pz at ha hb;unfold toZ;have:=Xb ha hb;exact⟨λz=>by rw[this.mp z],λz=>by cases z;exact this.mpr rfl⟩
  |_=>first|(unfold Pz at hb;exact hb.elim)|(unfold toZ;exact⟨λz=>(by cases z),λz=>(by cases z)⟩)
 | .lst xs,b,ha,hb=>by
  cases b with
  |lst ys=>
   unfold Pz at ha hb;unfold toZ;have:=Xb ha hb;exact⟨λz=>by rw[this.mp z],λz=>by cases z;exact this.mpr rfl⟩
  |_=>first|(unfold Pz at hb;exact hb.elim)|(unfold toZ;exact⟨λz=>(by cases z),λz=>(by cases z)⟩)
 | .bl _,_,h,_ | .ty _,_,h,_ | .scr _,_,h,_ | .ref _,_,h,_=>by unfold Pz at h;exact h.elim
theorem Xb:∀{as bs:List D},PzL as->PzL bs->(PyData.eqvAll (EC as) (EC bs)=true↔as=bs)
 |[],[],_,_=>by unfold EC;exact⟨λ_=>rfl,λ_=>rfl⟩
 |[],_::_,_,_=>by unfold EC;exact⟨λz=>(by cases z),λz=>(by cases z)⟩
 |_::_,[],_,_=>by unfold EC;exact⟨λz=>(by cases z),λz=>(by cases z)⟩
 |a::as,b::bs,ha,hb=>by
  unfold PzL at ha hb;unfold EC;have h1:=eqZ ha.1 hb.1;have h2:=Xb ha.2 hb.2;show (PyData.eqv (toZ a) (toZ b)&&PyData.eqvAll (EC as) (EC bs))=true↔_;rw[Bool.and_eq_true,h1,h2];exact⟨λ⟨x,y⟩=>by rw[x,y],λz=>by cases z;exact⟨rfl,rfl⟩⟩
end
section
variable{μ:Mh}{a b:D}{QD:D->Mh->Prop}
theorem LB{neg:Bool}(ha:Pz a)(hb:Pz b)(da:dpt a<=64)(db:dpt b<=64):∃e:Bool,(e=true↔a=b)/\Fy neg a b μ=some (.bl (if neg then !e else e),μ):=by
 refine⟨PyData.eqv (toZ a) (toZ b),eqZ ha hb,?_⟩;obtain⟨a1,a2⟩:=KM ha;obtain⟨b1,b2⟩:=KM hb;have s1:SeqAt.shaped (toZ a)=true:=by
  show (PyData.canLay0 (toZ a)&&decide (PyData.depth (toZ a)<=64))=true;rw[a1,AAP (by omega)];rfl
 have s2:SeqAt.shaped (toZ b)=true:=by
  show (PyData.canLay0 (toZ b)&&decide (PyData.depth (toZ b)<=64))=true;rw[b1,AAP (by omega)];rfl
 have e1:KO μ a=some (toZ a):=by
  cases a with
  |ref n=>unfold Pz at ha;exact ha.elim
  |_=>exact Mo μ ha
 have e2:KO μ b=some (toZ b):=by
  cases b with
  |ref n=>unfold Pz at hb;exact hb.elim
  |_=>exact Mo μ hb
 unfold Fy;rw[e1,e2];exact if_pos ⟨s1,s2⟩
theorem VZ(ha:Pz a)(hb:Pz b)(da:dpt a<=64)(db:dpt b<=64)(q:∀e:Bool,(e=true↔a=b)->QD (.bl e) μ):WP (BF a b) μ QD:=by
 obtain⟨e,h1,h2⟩:=LB (μ:=μ) (neg:=false) ha hb da db;exact BI h2 (q e h1)
theorem VX(ha:Pz a)(hb:Pz b)(da:dpt a<=64)(db:dpt b<=64)(q:∀e:Bool,(e=true↔a=b)->QD (.bl (!e)) μ):WP (Dd a b) μ QD:=by
 obtain⟨e,h1,h2⟩:=LB (μ:=μ) (neg:=true) ha hb da db;exact BI h2 (q e h1)
end
theorem Q4{α:Type}{f:α->D}:∀{xs:List α},(∀a∈xs,Pz (f a))->PzL (xs.map f)
 |[],_=>by unfold List.map PzL;trivial
 |x::xs,h=>by unfold List.map PzL;exact⟨h x AAQ,Q4 λa ha=>h a (AAR _ ha)⟩
theorem OQ{α:Type}{f:α->D}{k:Nat}:∀{xs:List α},(∀a∈xs,dpt (f a)<=k)->Hc (xs.map f)<=k
 |[],_=>by unfold List.map Hc;omega
 |x::xs,h=>by
  unfold List.map Hc;have:=h x AAQ;have:=OQ λa ha=>h a (AAR x ha);omega
end Mi
namespace Mi
section
variable{b:Bool}{i:Int}
theorem Av{P:Bool->Prop}(h:P b):∃b',D.bl b=D.bl b'/\P b':=⟨b,rfl,h⟩
theorem Nb{P:Int->Prop}(h:P i):∃i',D.int i=D.int i'/\P i':=⟨i,rfl,h⟩
theorem KJ{n:Nat}{P:Nat->Prop}(e:i=n)(hn:n<1000000)(h:P n):∃j:Nat,[D.int i]=[D.int j]/\j<1000000/\P j:=⟨n,by rw[e],hn,h⟩
end
end Mi
local macro_rules | `(tactic| wtm_at "j")=>`(tactic| first|assumption|decide|omega|exact AAE rfl)
local macro_rules | `(tactic| wtm_at "m")=>`(tactic| first
 |(with_reducible apply Mi.AX)|(with_reducible apply Mi.AN)|(with_reducible apply Mi.A2)|(with_reducible apply Mi.Cz)|(with_reducible apply Mi.FP)|(with_reducible apply Mi.Hk)|(with_reducible apply Mi.CI)|(with_reducible apply Mi.Cc)|(with_reducible apply Mi.EG)|(with_reducible apply Mi.C0)|(with_reducible apply Mi.A3)|(with_reducible apply Mi.Cq)|((with_reducible apply Mi.Ad);rfl)|(with_reducible apply Mi.Ab)|(with_reducible apply Mi.Bl)|(with_reducible apply Mi.AZ)|(with_reducible apply Mi.QH)
 |(with_reducible apply Mi.BG)|(with_reducible apply Mi.Av)|(with_reducible apply Mi.IB)|(with_reducible apply Mi.wq_and)|(with_reducible apply Mi.QJ)|(with_reducible apply Mi.IC)|(with_reducible apply Mi.Fg)|(with_reducible apply Mi.VW)|(with_reducible apply Mi.S9)|(with_reducible apply Mi.TB)|(with_reducible apply Mi.NU)|(with_reducible apply Mi.QI)|(with_reducible apply Mi.Jc)|(with_reducible apply Mi.NV)|(with_reducible apply Mi.Nb)
 |(with_reducible apply Mi.NZ)|(with_reducible apply Mi.wq_add)|(with_reducible apply Mi.VV)|(with_reducible apply Mi.QN)|(with_reducible apply Mi.NX)|(with_reducible apply Mi.wq_ge)|(with_reducible apply Mi.F6)|(with_reducible apply Mi.Me)|(with_reducible apply Mi.wq_isF)|(with_reducible apply Mi.wq_isT)|(with_reducible apply Mi.NW)|(with_reducible apply Mi.wq_neB)|(with_reducible apply Mi.wq_tupT)|(with_reducible apply Mi.Hi)|(with_reducible apply Mi.Ff)|(with_reducible apply Mi.wq_true)|(with_reducible apply Mi.EZ)
 |((with_reducible apply Mi.QM);(wtm_at "j"))|((with_reducible apply Mi.wq_fdiv);(wtm_at "j");(wtm_at "j"))|((with_reducible apply Mi.GQ);(wtm_at "j"))|((with_reducible apply Mi.EF);(wtm_at "j"))|((with_reducible apply Mi.Hj);(wtm_at "j"))|((with_reducible apply Mi.EO);rfl)|((with_reducible apply Mi.EQ);rfl))
local macro_rules | `(tactic| wtm_at "r")=>`(tactic| repeat wtm_at "m")
namespace Mi
open PySem L2
section
variable{τ τ1:Sl}{μ μ1:Mh}{x y:D}{ds:List D}{ma:Sl->M D}{ra:Sl->M (List D)}{tc:Sl->M Bool}{QD:D->Mh->Prop}{QL:List D->Mh->Prop}
theorem GR{α:Type}(f:α->D)(p:α->Bool)(F:α->D){bf:D->Sl->M Sl}{τ0:Sl}{xs:List α}(h:∀a∈xs,WP (bf (f a) τ0) μ λτ1 μ1=>μ1=μ/\WP (tc τ1) μ λc μ2=>c=p a/\μ2=μ/\(p a=true->WP (ma τ1) μ λy μ3=>y=F a/\μ3=μ))(q:QL ((xs.filter p).map F) μ):WP (B3 bf tc ma τ0 (xs.map f) []) μ QL:=by
 refine Hl (I:=λrest ys μ'=>∃a b,a++b=xs/\rest=b.map f/\ys=(a.filter p).map F/\μ'=μ) (λz zs ys μ' hI=>?_) (λys μ' hI=>?_) ⟨[],xs,rfl,rfl,rfl,rfl⟩
 ·obtain⟨a,b,hab,hr,rfl,rfl⟩:=hI;cases b with
  |nil=>cases hr
  |cons w b=>
   rw[AAX] at hr;obtain⟨e1,e2⟩:=List.cons.inj hr;subst e1;have hw:w∈xs:=by rw[←hab];simp
   refine Ag (h w hw) λτ1 μ1 ⟨e,z⟩=>?_;subst e;refine Ag z λc μ2 ⟨e3,e4,z2⟩=>?_;subst e3 e4;refine⟨λhc=>Ag (z2 hc) λy μ3 ⟨e5,e6⟩=>?_,λhc=>?_⟩
   ·subst e5 e6;exact⟨a++[w],b,by rw[←hab];simp,e2,by rw[List.filter_append,AAY,List.filter_cons_of_pos hc];rfl,rfl⟩
   ·exact⟨a++[w],b,by rw[←hab];simp,e2,by rw[List.filter_append,AAY,List.filter_cons_of_neg (by rw[hc];exact AAf)];simp,rfl⟩
 ·obtain⟨a,b,hab,hr,rfl,rfl⟩:=hI;cases b with
  |cons w b=>cases hr
  |nil=>
   rw[AAZ] at hab;subst hab;exact q
theorem VU(h:WP (ra τ) μ λds μ1=>∃xs ys,ds=[.tup xs,.tup ys]/\ys.length=xs.length/\QL (Gv xs ys) μ1):WP (PD ra τ) μ QL:=An (Ag h λds μ1 ⟨xs,ys,e,hl,q⟩=>by
 subst e;refine BI (a:=Gv xs ys) (μ':=μ1) ?_ q;exact if_pos hl)
theorem F5{x y:Str}(h1:PyData.strOk x=true)(h2:PyData.strOk y=true)(q:QD (.bl (x==y)) μ):WP (BF (.str x) (.str y)) μ QD:=by
 refine VZ (by unfold Pz;exact h1) (by unfold Pz;exact h2) (by show 0<=64;omega) (by show 0<=64;omega) λe he=>?_;have:e=(x==y):=by
  rw[Bool.eq_iff_iff,he,beq_iff_eq];exact⟨λz=>by cases z;rfl,λz=>by rw[z]⟩
 rw[this];exact q
end
section
variable{ι2 ι':Nat->Addr}{k k2 k':Nat}
variable(ag:∀n,n<k->ι' n=ι2 n)(am:∀m,m<k'->∃n,n<k2/\ι' m=ι2 n)(hk:k<=k')
include ag am hk
end
theorem QP{bf:D->Sl->M Sl}{m1:Sl->M (Fl×Sl)}{QS:Fl×Sl->Mh->Prop}{m:Nat}{τ:Sl}{μ:Mh}(I:Nat->Sl->Mh->Prop)(step:∀(j:Nat) τ μ,j<m->I j τ μ->WP (bf (.int (j:Int)) τ) μ λτ1 μ1=>WP (m1 τ1) μ1 (OD (I (j+1)) QS))(last:∀τ μ,I m τ μ->QS (.next,τ) μ)(h:I 0 τ μ):WP (FH bf m1 ((List.range m).map λ(i:Nat)=>D.int (i:Int)) τ) μ QS:=by
 refine DZ (I:=λrest τ μ=>∃j,j<=m/\rest=(List.range' j (m-j)).map (λ(i:Nat)=>D.int (i:Int))/\I j τ μ) ?_ ?_ ⟨0,AAi _,by rw[Nat.sub_zero,←List.range_eq_range'],h⟩
 ·rintro x xs τ μ ⟨j,hj,hr,hI⟩;have hlt:j<m:=by
   rcases Nat.lt_or_ge j m with z|z
   ·exact z
   ·rw[show m-j=0 by omega] at hr;cases hr
  rw[show m-j=(m-(j+1))+1 by omega,List.range'_succ,AAX] at hr;obtain⟨e3,e4⟩:=List.cons.inj hr;subst e3;refine Ag (step j τ μ hlt hI) λτ1 μ1 z=>Ag z λr μ2 z2=>?_;obtain⟨fl,τ2⟩:=r;cases fl
  ·exact⟨j+1,hlt,e4,z2⟩
  ·exact z2
  ·exact⟨j+1,hlt,e4,z2⟩
  ·exact z2
  ·exact z2
 ·rintro τ μ ⟨j,hj,hr,hI⟩;have hj':j=m:=by
   have:=congrArg List.length hr;simp at this;omega
  subst hj';exact last τ μ hI
theorem Cv{μ:Mh}{N ps:Nat}{mb:Sl->M (Fl×Sl)}{ds:List D}{QD:D->Mh->Prop}(hl:Nat.beq ds.length ps=true)(h:WP (mb (A9 N ds)) μ λr μ2=>∃d τ2,r=(.rt d,τ2)/\QD d μ2):WP (EB .all N ps mb ds) μ QD:=by
 obtain⟨r,μ2,e,d,τ2,rfl,q⟩:=h;refine BI (a:=d) (μ':=μ2) ?_ q;unfold EB;rw[hl,e];rfl
end Mi
namespace K21
open PySem L2 Mi
end K21
namespace Mi
open PySem L2
end Mi
namespace K21
open PySem L2 Mi
end K21
namespace K41
open PySem L2 Mi
end K41
namespace K41
open PySem L2 Mi Ht Nk Hs
end K41
namespace Mi
open PySem L2
end Mi
namespace K41
open PySem L2 Mi Ht Nk Hs
end K41
namespace K21
open PySem L2 Mi
end K21
namespace Mi
open PySem L2
end Mi
namespace K21
open PySem L2 Mi
end K21
namespace Mi
open PySem L2
end Mi
namespace K21
open PySem L2 Mi
end K21
namespace K21
open PySem L2 Mi Xt
end K21
namespace K21
open PySem L2 Mi
end K21
namespace Mi
open PySem L2
end Mi
namespace K21
open PySem L2 Mi
end K21
namespace Mi
open PySem L2
end Mi
namespace K21
open PySem L2 Mi
end K21
namespace Mi
open PySem L2
section
variable{τ:Sl}{μ μ1:Mh}{d x y:D}{ma mb:Sl->M D}{QD:D->Mh->Prop}{QB:Bool->Mh->Prop}{QS:Fl×Sl->Mh->Prop}{i j:Int}
theorem Hh{x y:Str}(h1:PyData.strOk x=true)(h2:PyData.strOk y=true)(q:QD (.bl (!(x==y))) μ):WP (Dd (.str x) (.str y)) μ QD:=by
 refine VX (by unfold Pz;exact h1) (by unfold Pz;exact h2) (by show 0<=64;omega) (by show 0<=64;omega) λe he=>?_;have:e=(x==y):=by
  rw[Bool.eq_iff_iff,he,beq_iff_eq];exact⟨λz=>by cases z;rfl,λz=>by rw[z]⟩
 rw[this];exact q
theorem IA(h:i=j)(q:QD (.bl true) μ):WP (BF (.int i) (.int j)) μ QD:=F6 (by rw[beq_iff_eq.mpr h];exact q)
theorem GP(h:i≠j)(q:QD (.bl false) μ):WP (BF (.int i) (.int j)) μ QD:=F6 (by rw[AAe.mpr h];exact q)
theorem LR(h:i≠j)(q:QD (.bl true) μ):WP (Dd (.int i) (.int j)) μ QD:=Me (by rw[AAe.mpr h];exact q)
theorem LS(h:i=j)(q:QD (.bl false) μ):WP (Dd (.int i) (.int j)) μ QD:=Me (by rw[beq_iff_eq.mpr h];exact q)
theorem S8(h:i<j)(q:QD (.bl true) μ):WP (FL (.int i) (.int j)) μ QD:=QN (by rw[AAP h];exact q)
theorem NS(h:¬i<j)(q:QD (.bl false) μ):WP (FL (.int i) (.int j)) μ QD:=QN (by rw[AAO h];exact q)
theorem H9(q:QD (.bl true) μ):WP (JY false .non .non) μ QD:=⟨_,μ,rfl,q⟩
theorem QF(q:QD (.bl false) μ):WP (JY true .non .non) μ QD:=⟨_,μ,rfl,q⟩
theorem NQ{m:M Bool}(h:QB true μ):orK m QB true μ:=h
theorem KH{m:M Bool}(h:WP m μ QB):orK m QB false μ:=h
noncomputable def Wz(m1 m2:M D)(QD:D->Mh->Prop):Bool->Mh->Prop
 |true,μ=>WP m1 μ QD
 |false,μ=>WP m2 μ QD
theorem NR{mc:Sl->M Bool}(h:WP (mc τ) μ (Wz (ma τ) (mb τ) QD)):WP (mIf mc ma mb τ) μ QD:=VY (Ag h λb _ z=>by cases b;exact⟨λe=>(nomatch e),λ_=>z⟩;exact⟨λ_=>z,λe=>(nomatch e)⟩)
theorem LT{m1 m2:M D}(h:WP m1 μ QD):Wz m1 m2 QD true μ:=h
theorem LU{m1 m2:M D}(h:WP m2 μ QD):Wz m1 m2 QD false μ:=h
noncomputable def Sk(m:M D)(QD:D->Mh->Prop):D->Mh->Prop
 | .bl true,μ=>WP m μ QD
 | .bl false,μ=>QD (.bl false) μ
 |_,_=>False
theorem EY(h:WP (ma τ) μ (Sk (mb τ) QD)):WP (DE ma mb τ) μ QD:=TC (Ag h λd μ1 z=>by
 match d,z with
 | .bl true,z=>exact⟨true,rfl,λ_=>z,λe=>(nomatch e)⟩
 | .bl false,z=>exact⟨false,rfl,λe=>(nomatch e),λ_=>z⟩)
theorem Dp{m:M D}(h:WP m μ QD):Sk m QD (.bl true) μ:=h
theorem Fe{m:M D}(h:QD (.bl false) μ):Sk m QD (.bl false) μ:=h
noncomputable def Wd(m:M D)(QD:D->Mh->Prop):D->Mh->Prop
 | .bl true,μ=>QD (.bl true) μ
 | .bl false,μ=>WP m μ QD
 |_,_=>False
theorem NP(h:WP (ma τ) μ (Wd (mb τ) QD)):WP (UQ ma mb τ) μ QD:=by
 obtain⟨d,μ1,e,z⟩:=h;unfold UQ
 match d,e,z with
 | .bl true,e,z=>exact⟨.bl true,μ1,by rw[AQ e];rfl,z⟩
 | .bl false,e,z=>
  obtain⟨d2,μ2,e2,q⟩:=z;exact⟨d2,μ2,by rw[AQ e];exact e2,q⟩
theorem LP{m:M D}(h:QD (.bl true) μ):Wd m QD (.bl true) μ:=h
theorem LQ{m:M D}(h:WP m μ QD):Wd m QD (.bl false) μ:=h
theorem QE(h:WP (ma τ) μ λd μ1=>∃b,d=.bl b/\QD (.bl (!b)) μ1):WP (L5 ma τ) μ QD:=by
 obtain⟨d,μ1,e,b,rfl,q⟩:=h;refine⟨.bl (!b),μ1,?_,q⟩;unfold L5;rw[AQ e];rfl
theorem QG{mo mi mv:Sl->M D}(h:WP (mv τ) μ λv μ1=>WP (mo τ) μ1 λx μ2=>WP (mi τ) μ2 λy μ3=>∃n l k,x=.ref n/\μ3[n]?=some (.dK l)/\MB y=some k/\l.length<1000/\QS (.next,τ) (μ3.set n (.dK (Lr l k v)))):WP (Lh mo mi mv τ) μ QS:=by
 unfold Lh;refine An (Ag h λv μ1 h=>An (Ag h λx μ2 h=>An (Ag h λy μ3 ⟨n,l,k,e1,e2,e3,e4,q⟩=>?_)));subst e1;refine An (BI (show EW (.ref n) μ3=some ((n,l),μ3) from by unfold EW;dsimp only;rw[e2]) ?_);refine⟨_,_,?_,q⟩;rw[e3];dsimp only;rw[if_pos (by rw[sizeLine_eq];omega)]
end
end Mi
local macro_rules | `(tactic| wtm_at "f")=>`(tactic| (decide +kernel))
local macro_rules | `(tactic| wtm_at "h")=>`(tactic| first|omega|(focus (simp;done)))
local macro_rules | `(tactic| wtm_at "n")=>`(tactic| first
 |((with_reducible apply Mi.wqa_eqF);(wtm_at "f");(wtm_at "f");(wtm_at "f"))|((with_reducible apply Mi.wqa_eqT);(wtm_at "f");(wtm_at "f");(wtm_at "f"))|((with_reducible apply Mi.wqa_neT);(wtm_at "f");(wtm_at "f");(wtm_at "f"))|((with_reducible apply Mi.wqa_neF);(wtm_at "f");(wtm_at "f");(wtm_at "f"))
 |((with_reducible apply Mi.IA);(wtm_at "h"))|((with_reducible apply Mi.GP);(wtm_at "h"))|((with_reducible apply Mi.LR);(wtm_at "h"))|((with_reducible apply Mi.LS);(wtm_at "h"))|((with_reducible apply Mi.S8);(wtm_at "h"))|((with_reducible apply Mi.NS);(wtm_at "h"))|((with_reducible apply Mi.wqa_gtT);(wtm_at "h"))|((with_reducible apply Mi.wqa_gtF);(wtm_at "h"))|((with_reducible apply Mi.wqa_geT);(wtm_at "h"))|((with_reducible apply Mi.wqa_geF);(wtm_at "h"))|((with_reducible apply Mi.wqa_leT);(wtm_at "h"))
 |(with_reducible apply Mi.H9)|(with_reducible apply Mi.QF)|(with_reducible apply Mi.wqa_isI)|(with_reducible apply Mi.wqa_isP)|(with_reducible apply Mi.wqa_andT)|(with_reducible apply Mi.wqa_andF)|(with_reducible apply Mi.NQ)|(with_reducible apply Mi.KH)|(with_reducible apply Mi.NR)|(with_reducible apply Mi.LT)|(with_reducible apply Mi.LU)|(with_reducible apply Mi.EY)|(with_reducible apply Mi.Dp)|(with_reducible apply Mi.Fe)|(with_reducible apply Mi.NP)|(with_reducible apply Mi.LP)|(with_reducible apply Mi.LQ)|(with_reducible apply Mi.wqa_chain)
 |wtm_at "m")
local macro_rules | `(tactic| wtm_at "q")=>`(tactic| repeat wtm_at "n")
namespace Xc
open PySem L2 Mi
section
variable{τ:Sl}{μ:Mh}{d:D}{ds:List D}{ra:Sl->M (List D)}{QX:Dx->Mh->Prop}{QD:D->Mh->Prop}{QS:Fl×Sl->Mh->Prop}{φ:List D->M Dx}{m:Sl->M Dx}
noncomputable def Ur(QX:Dx->Mh->Prop):Fl×Sl->Mh->Prop
 |(.next,_),μ=>QX (.inl .non) μ
 |(.rt d,_),μ=>QX (.inl d) μ
 |(.xc x,_),μ=>QX (.inr x) μ
 |_,_=>False
theorem Dh{N ps:Nat}{mb:Sl->M (Fl×Sl)}(hl:Nat.beq (List.length ds) ps=true)(h:WP (mb (A9 N ds)) μ (Ur QX)):WP (Cw .all N ps mb ds) μ QX:=by
 obtain⟨⟨fl,τ2⟩,μ2,e,q⟩:=h;cases fl with
 |next=>exact⟨_,μ2,by unfold Cw;rw[hl,e];rfl,q⟩
 |rt d=>exact⟨_,μ2,by unfold Cw;rw[hl,e];rfl,q⟩
 |xc x=>exact⟨_,μ2,by unfold Cw;rw[hl,e],q⟩
 |brk=>exact False.elim q
 |cont=>exact False.elim q
theorem wxk_next(q:QX (.inl .non) μ):Ur QX (.next,τ) μ:=q
theorem wxk_xc{x:Exn}(q:QX (.inr x) μ):Ur QX (.xc x,τ) μ:=q
noncomputable def exK(τ:Sl)(QS:Fl×Sl->Mh->Prop):Dx->Mh->Prop
 | .inl _,μ=>QS (.next,τ) μ
 | .inr x,μ=>QS (.xc x,τ) μ
theorem wx_exprX(h:WP (m τ) μ (exK τ QS)):WP (Ak m τ) μ QS:=An (Ag h λr μ1 z=>by
 cases r with
 |inl d=>exact BN z
 |inr x=>exact BN z)
theorem wxk_l(q:QS (.next,τ) μ):exK τ QS (.inl d) μ:=q
theorem wxk_r{x:Exn}(q:QS (.xc x,τ) μ):exK τ QS (.inr x) μ:=q
theorem wx_dispX(h:WP (ra τ) μ λds μ1=>WP (φ ds) μ1 QX):WP (Al φ ra τ) μ QX:=An h
theorem P9{c:Str}(h:WP (ra τ) μ λds μ1=>ds.length<=sizeLine/\QS (.xc (c,none),τ) μ1):WP (KY c ra τ) μ QS:=An (Ag h λds μ1 z=>An (BI (Ir z.1 μ1) (BN z.2)))
theorem KD(h:WP (φ ds) μ λr μ1=>∃d,r=.inl d/\QD d μ1):WP (vals φ ds) μ QD:=by
 obtain⟨r,μ1,e,d,rfl,q⟩:=h;exact⟨d,μ1,by unfold vals;rw[e],q⟩
noncomputable def ZU(i:Nat)(ok:List Str)(mh:Sl->M (Fl×Sl))(QS:Fl×Sl->Mh->Prop):Fl×Sl->Mh->Prop
 |(.xc x,τ),μ=>x.1∈ok/\WP (mh (τ.set i (some (.ref (List.length μ))))) (μ++[.exc x.1 x.2]) λr μ1=>QS (r.1,r.2.set i none) μ1
 |r,μ=>QS r μ
theorem VT{mb mh:Sl->M (Fl×Sl)}{i:Nat}{ok:List Str}(h:WP (mb τ) μ (ZU i ok mh QS)):WP (Vp mb i ok mh τ) μ QS:=An (Ag h λr μ1 z=>by
 obtain⟨fl,τ1⟩:=r;cases fl with
 |xc x=>
  obtain⟨h1,h2⟩:=z;show WP (if x.1∈ok then Ka i mh x τ1 else Ba) μ1 QS;rw[if_pos h1];obtain⟨r,μ2,e,q⟩:=h2;refine⟨(r.1,r.2.set i none),μ2,?_,q⟩;unfold Ka;rw[AQ e];rfl
 |_=>exact BN z)
theorem Ma{tab:List (Str×Bool)}{ma:Sl->M D}{b:Bool}(h:WP (ma τ) μ λd μ1=>∃n c k,d=.ref n/\μ1[n]?=some (.exc c k)/\tab.lookup c=some b/\QD (.bl b) μ1):WP (L6 tab ma τ) μ QD:=An (Ag h λd μ1 ⟨n,c,k,e,h1,h2,q⟩=>by
 subst e;refine⟨.bl b,μ1,?_,q⟩;show (match μ1[n]? with|some (.exc c _)=>(match tab.lookup c with|some b=>some (D.bl b,μ1)|none=>none)|_=>none)=_;rw[h1];show (match tab.lookup c with|some b=>some (D.bl b,μ1)|none=>none)=_;rw[h2])
theorem Mb{y:D}{xs:List Str}(hy:Bd y=true)(q:QD (.bl ((xs.map D.str).any λz=>decide (z=y))) μ)(hd:B4 d μ=some (xs.map D.str,μ)):WP (NB y d) μ QD:=by
 refine⟨_,μ,?_,q⟩;unfold NB;rw[AQ hd];have:(xs.map D.str).all isS=true:=by simp[isS]
 exact if_pos ⟨this,hy⟩
end
end Xc
local macro_rules | `(tactic| wtm_at "p")=>`(tactic| first
 |(with_reducible apply Xc.wx_exprX)|(with_reducible apply Xc.wx_dispX)|(with_reducible apply Xc.wxk_l)|(with_reducible apply Xc.wxk_r)|(with_reducible apply Xc.wxk_next)|(with_reducible apply Xc.wxk_xc)|(with_reducible apply Mi.Va)|(with_reducible apply Mi.Ci)|(with_reducible apply Mi.Gw)|(with_reducible apply Mi.wkk_loopR)
 |wtm_at "n")
local macro_rules | `(tactic| wtm_at "a")=>`(tactic| repeat wtm_at "p")
namespace K3
open PySem L2 Mi K1 Xc
noncomputable abbrev nom:Exn:=("NoMaking",none)
noncomputable def Db(d:D)(a b:Int):Bool:=match d with
 | .tup ds=>decide (a<=(ds.length:Int))&&decide ((ds.length:Int)<=b)
 |_=>false
noncomputable def BS(d:D)(a b:Int):Bool:=match d with
 | .int i=>decide (a<=i)&&decide (i<=b)
 |_=>false
noncomputable def Cf(x:Str):Bool:=decide (1<=x.length)&&(decide (x.length<=8)&&x.cps.toList.all λc=>decide (97<=c)&&decide (c<123))
noncomputable def Fx:List Str:=["", "abcdefghi", "A", "a1", "a b", "a.", "w\n", "-", "1"]
noncomputable def By(d:D):Bool:=match d with
 | .str x=>Cf x
 |_=>false
def NmP(d:D):Prop:=∀x,d=.str x->GoodName x∨x∈Fx
noncomputable def kinds3:List Str:=["safe", "steady", "whole"]
noncomputable def Gf(d:D):Bool:=(kinds3.map D.str).any λz=>decide (z=d)
noncomputable def ER(k s b:D):Bool:=Gf k&&(BS s 2 10&&(match s with | .int i=>BS b 0 (i-1)|_=>false))
theorem BP{x:Str}(h:GoodName x):Cf x=true:=by
 unfold Cf;rw[AAP h.lo,AAP h.hi,Bool.true_and,Bool.true_and,List.all_eq_true];intro c hc;have:=h.ab c hc;simp[this]
theorem Pc:∀x∈Fx,Cf x=false:=by decide +kernel
section
variable{μ:Mh}{QX:Dx->Mh->Prop}{d k s b:D}{w:Str}{τ:Sl}
theorem wx_need{c:Bool}(h1:c=true->QX (.inl .non) μ)(h2:c=false->QX (.inr nom) μ):WP (f_needX [.bl c,.str w]) μ QX:=by
 unfold f_needX;refine Dh rfl ?_;unfold FB;cases c with
 |true=>
  refine Cc ?_;refine IB ?_;wtm_at "a";refine C0 ?_;wtm_at "a";exact h1 rfl
 |false=>
  refine Cc ?_;refine IB ?_;wtm_at "a";refine EG ?_;refine P9 ?_;wtm_at "a";exact⟨AAE rfl,h2 rfl⟩
theorem L8{ma mb mc:Sl->M D}{i j l:Int}(h1:ma τ μ=some (.int i,μ))(h2:mb τ μ=some (.int j,μ))(h3:mc τ μ=some (.int l,μ)):D6 GC GC ma mb mc τ μ=some (.bl (decide (i<=j)&&decide (j<=l)),μ):=by
 unfold D6;rw[AQ h1,AQ h2,AQ (show GC (.int i) (.int j) μ=some (.bl (decide (i<=j)),μ) from rfl),AQ (show asB (.bl (decide (i<=j))) μ=some (decide (i<=j),μ) from rfl)];by_cases h:i<=j
 ·rw[AAP h,if_pos rfl,AQ h3,Bool.true_and];rfl
 ·rw[AAO h,if_neg (by decide),Bool.false_and];rfl
theorem Nz{N ps:Nat}{mb:Sl->M (Fl×Sl)}{ds:List D}(e:mb (A9 N ds) μ=some ((.rt d,A9 N ds),μ))(hl:ds.length=ps)(c:Cl μ.length d):Bq .drop N ps mb ds μ=some (d,μ):=BZ (g:=[]) (by rw[AAZ];exact e) hl c
theorem Co{a b:Int}(h:Bd d=true):CP [d,.int a,.int b] μ=some (.bl (Db d a b),μ):=by
 cases d with
 |tup ds=>
  refine BZ (g:=[]) (τ2:=[some (.tup ds),some (.int a),some (.int b)]) ?_ rfl (by simp[Cl]);rw[AAZ];unfold D5;have e:=L8 (μ:=μ) (τ:=[some (.tup ds),some (.int a),some (.int b)]) (ma:=AD 1) (mb:=AF Bk (AB (AD 0) AH)) (mc:=AD 2) (i:=a) (j:=ds.length) (l:=b) rfl rfl rfl;show bnd (D6 GC GC (AD 1) (AF Bk (AB (AD 0) AH)) (AD 2) [some (.tup ds),some (.int a),some (.int b)]) _ μ=_;rw[AQ e];rfl
 |non|bl _|int _|str _|lst _=>exact Nz (by kernel_rfl) rfl (by simp[Cl])
 |_=>cases h
theorem DO{a b:Int}(h:Bd d=true):CO [d,.int a,.int b] μ=some (.bl (BS d a b),μ):=by
 cases d with
 |int i=>
  refine BZ (g:=[]) (τ2:=[some (.int i),some (.int a),some (.int b)]) ?_ rfl (by simp[Cl]);rw[AAZ];unfold D4;have e:=L8 (μ:=μ) (τ:=[some (.int i),some (.int a),some (.int b)]) (ma:=AD 1) (mb:=AD 0) (mc:=AD 2) (i:=a) (j:=i) (l:=b) rfl rfl rfl;show bnd (D6 GC GC (AD 1) (AD 0) (AD 2) [some (.int i),some (.int a),some (.int b)]) _ μ=_;rw[AQ e];rfl
 |non|bl _|tup _|str _|lst _=>exact Nz (by kernel_rfl) rfl (by simp[Cl])
 |_=>cases h
theorem Xz{x:Str}(h:x∈Fx):CA [.str x] μ=some (.bl false,μ):=by
 unfold Fx at h;simp only[AAJ,List.not_mem_nil,or_false] at h;rcases h with rfl|rfl|rfl|rfl|rfl|rfl|rfl|rfl|rfl<;>exact Nz (by kernel_rfl) rfl (by simp[Cl])
theorem Et(h:Bd d=true)(hn:NmP d):CA [d] μ=some (.bl (By d),μ):=by
 cases d with
 |str x=>
  rcases hn x rfl with g|g
  ·rw[show By (.str x)=true from BP g];exact Jf g
  ·rw[show By (.str x)=false from Pc x g];exact Xz g
 |non|bl _|tup _|int _|lst _=>exact Nz (by kernel_rfl) rfl (by simp[Cl])
 |_=>cases h
theorem Rg:∀(xs ys:List Str),ys.Nodup->¬(ys++xs).Nodup->(xs.foldl (λys x=>if x∈ys then ys else ys++[x]) ys).length<ys.length+xs.length
 |[],ys,h,z=>by rw[AAZ] at z;exact absurd h z
 |x::xs,ys,h,z=>by
  show (xs.foldl _ (if x∈ys then ys else ys++[x])).length<_;by_cases hx:x∈ys
  ·rw[if_pos hx];have:=G4 xs ys;simp only[AAI];omega
  ·rw[if_neg hx];have:=Rg xs (ys++[x]) (by rw[List.nodup_append];exact⟨h,by simp,by intro a ha b hb e;simp at hb;subst hb e;exact hx ha⟩) (by rw[List.append_assoc];exact z);simp only[AAH,AAI,List.length_nil] at this ⊢;omega
theorem LW{xs:List Str}(hl:xs.length<=1000):B2 [.lst (xs.map D.str)] μ=some (.bl (decide xs.Nodup),μ):=by
 by_cases h:xs.Nodup
 ·rw[AAP h];exact KL h hl
 ·rw[AAO h];have e:Fm (.lst (xs.map D.str)) μ=some (.int (Bw xs).length,μ):=by
   unfold Fm;rw[AQ (show CW (.lst (xs.map D.str)) μ=some (xs.map D.str,μ) from rfl),KQ];show (if xs.length+2<scanBound then some (D.int (Bw xs).length,μ) else none)=_;rw[if_pos (by have:scanBound=4096:=rfl;omega)]
  have q:=Rg xs [] (by simp) (by simpa using h);have hq:((Bw xs).length:Int)≠((xs.map D.str).length:Nat):=by
   rw[AAG];have:(Bw xs).length<xs.length:=by simpa[Bw] using q
   omega
  exact BZ (g:=[]) (τ2:=_) (by rw[AAZ];unfold Ca;wtm_at "b") rfl (by unfold Cl;trivial)
theorem wx_worths(hk:Bd k=true)(hs:Bd s=true)(hb:Bd b=true)(h1:ER k s b=true->QX (.inl .non) μ)(h2:ER k s b=false->QX (.inr nom) μ):WP (BX [k,s,b]) μ QX:=by
 unfold BX;refine Dh rfl ?_;unfold BW;wtm_at "a";refine Mb (xs:=kinds3) hk ?_ rfl;change WP (AB _ AH _) μ _;wtm_at "a";refine wx_need (λe1=>?_) (λe1=>?_)
 ·wtm_at "a";refine BI (DO hs) ?_;wtm_at "a";refine wx_need (λe2=>?_) (λe2=>?_)
  ·wtm_at "a";cases s with
   |int i=>
    refine BI (a:=.int (i-1)) rfl ?_;wtm_at "a";refine BI (DO hb) ?_;wtm_at "a";refine wx_need (λe3=>?_) (λe3=>?_)
    ·wtm_at "a";exact h1 (by unfold ER;show (Gf k&&(BS (.int i) 2 10&&BS b 0 (i-1)))=true;rw[show Gf k=true from e1,e2,e3];rfl)
    ·wtm_at "a";exact h2 (by unfold ER;show (Gf k&&(BS (.int i) 2 10&&BS b 0 (i-1)))=false;rw[show Gf k=true from e1,e2,e3];rfl)
   |_=>cases e2
  ·wtm_at "a";exact h2 (by unfold ER;rw[e2,Bool.false_and,Bool.and_false])
 ·wtm_at "a";exact h2 (by unfold ER;rw[show Gf k=false from e1,Bool.false_and])
end
noncomputable def JZ:D->Str
 | .tup (.str x::_)=>x
 |_ => ""
noncomputable def JN:D->Bool
 | .tup [n,k,s,b,_]=>By n&&ER k s b
 |_=>false
def ZQ(d:D):Prop:=Bd d=true/\∀n k s b w,d=.tup [n,k,s,b,w]->Bd n=true/\NmP n/\Bd k=true/\Bd s=true/\Bd b=true
noncomputable def JM:D->Bool
 | .tup ds=>decide (ds.length<=6)&&(ds.all JN&&decide (ds.map JZ).Nodup)
 |_=>false
def Sr(d:D):Prop:=Bd d=true/\∀ds,d=.tup ds->∀x∈ds,ZQ x
noncomputable def FF:D->Bool
 | .tup [n,w,r]=>By n&&(BS w 0 400&&Db r 0 60)
 |_=>false
def U6(d:D):Prop:=Bd d=true/\∀n w r,d=.tup [n,w,r]->Bd n=true/\NmP n/\Bd w=true/\Bd r=true
noncomputable def JC:D->Bool
 | .tup ds=>(decide (2<=ds.length)&&decide (ds.length<=4))&&(ds.all FF&&decide (ds.map JZ).Nodup)
 |_=>false
def So(d:D):Prop:=Bd d=true/\∀ds,d=.tup ds->∀x∈ds,U6 x
theorem LD{n k s b w:D}:JN (.tup [n,k,s,b,w])=(By n&&ER k s b):=rfl
theorem Em{ds:List D}:JM (.tup ds)=(decide (ds.length<=6)&&(ds.all JN&&decide (ds.map JZ).Nodup)):=rfl
theorem Fp{n w r:D}:FF (.tup [n,w,r])=(By n&&(BS w 0 400&&Db r 0 60)):=rfl
theorem D7{ds:List D}:JC (.tup ds)=((decide (2<=ds.length)&&decide (ds.length<=4))&&(ds.all FF&&decide (ds.map JZ).Nodup)):=rfl
theorem Jp{n:D}(h:By n=true):∃x,n=.str x:=by
 cases n with
 |str x=>exact⟨x,rfl⟩
 |_=>cases h
theorem ZS{d:D}(h:Db d 5 5=true):∃n k s b w,d=.tup [n,k,s,b,w]:=by
 cases d with
 |tup ds=>
  match ds,h with
  |[n,k,s,b,w],_=>exact⟨n,k,s,b,w,rfl⟩
  |[],h | [_],h | [_,_],h | [_,_,_],h | [_,_,_,_],h=>cases h
  |_::_::_::_::_::_::r,h=>
   unfold Db at h;simp only[Bool.and_eq_true,decide_eq_true_eq,AAI] at h;omega
 |_=>cases h
theorem ZT{d:D}(h:Db d 3 3=true):∃n w r,d=.tup [n,w,r]:=by
 cases d with
 |tup ds=>
  match ds,h with
  |[n,w,r],_=>exact⟨n,w,r,rfl⟩
  |[],h | [_],h | [_,_],h=>cases h
  |_::_::_::_::r,h=>
   unfold Db at h;simp only[Bool.and_eq_true,decide_eq_true_eq,AAI] at h;omega
 |_=>cases h
theorem Se{d:D}(h:Db d 5 5=false):JN d=false:=by
 unfold JN;split
 ·cases h
 ·rfl
theorem PZ{d:D}(h:Db d 3 3=false):FF d=false:=by
 unfold FF;split
 ·cases h
 ·rfl
section
variable{μ:Mh}{QX:Dx->Mh->Prop}{d k s b:D}{w:Str}{τ:Sl}
theorem at0(x:D)(r:List D):atI (x::r) 0=some x:=by
 have:ixN (x::r).length 0=some 0:=by
  unfold ixN;rw[if_pos (by decide),if_pos (by simp)];rfl
 unfold atI;rw[this];rfl
theorem Gb{P:D->Bool}(hP:∀d,P d=true->∃x r,d=.tup (.str x::r)){ds:List D}(h:ds.all P=true)(hl:ds.length<=1000){ma:Sl->M D}(hm:ma τ μ=some (.tup ds,μ)):BE 1 [] (CC ma) (AM 0) BO (mOp AT (AD 0) (mC (.int 0))) Am τ μ=some (.lst ((ds.map JZ).map D.str),μ):=by
 have hz:sizeLine=16777216:=by decide
 have go:∀(xs:List D) (ys:List D),xs.all P=true->B3 (AM 0) BO (mOp AT (AD 0) (mC (.int 0))) (BB 1 [] τ) xs ys μ=some (ys++(xs.map JZ).map D.str,μ):=by
  intro xs
  induction xs with
  |nil=>intro ys _;show some (ys,μ)=_;simp
  |cons a xs ih=>
   intro ys z;rw[List.all_cons,Bool.and_eq_true] at z;obtain⟨x,r,rfl⟩:=hP a z.1;show bnd (AM 0 (.tup (.str x::r)) (BB 1 [] τ)) _ μ=_;rw[AQ (show AM 0 (.tup (.str x::r)) (BB 1 [] τ) μ=some ((BB 1 [] τ).set 0 (some (.tup (.str x::r))),μ) from rfl),AQ (show BO ((BB 1 [] τ).set 0 (some (.tup (.str x::r)))) μ=some (true,μ) from rfl),if_pos rfl,AQ (BK (Cp rfl) GJ (F0 (d:=.str x) (at0 _ _))),ih _ z.2];simp[JZ]
 refine FD (EU hm Kp) (by omega) (go ds [] h) (Bu (by simp;omega))
theorem Ux(d:D)(h:JN d=true):∃x r,d=.tup (.str x::r):=by
 unfold JN at h;split at h
 ·rw[Bool.and_eq_true] at h;obtain⟨x,rfl⟩:=Jp h.1;exact⟨x,_,rfl⟩
 ·cases h
theorem JD(d:D)(h:FF d=true):∃x r,d=.tup (.str x::r):=by
 unfold FF at h;split at h
 ·rw[Bool.and_eq_true] at h;obtain⟨x,rfl⟩:=Jp h.1;exact⟨x,_,rfl⟩
 ·cases h
theorem JQ{P:D->Bool}{done:List D}{x:D}(h:done.all P=true)(hx:P x=true):(done++[x]).all P=true:=by rw[List.all_append,h];simp[hx]
theorem LJ{P:D->Bool}{done rest:List D}{x:D}(hx:P x=false):(done++x::rest).all P=false:=by rw[List.all_append,List.all_cons,hx];simp
theorem wx_boxes(ha:Sr d)(h1:JM d=true->QX (.inl .non) μ)(h2:JM d=false->QX (.inr nom) μ):WP (CS [d]) μ QX:=by
 obtain⟨ha,hb⟩:=ha;unfold CS;refine Dh rfl ?_;unfold Bj;wtm_at "a";refine BI (Co (a:=0) (b:=6) ha) ?_;wtm_at "a";refine wx_need (λe1=>?_) (λe1=>?_)
 case refine_2=>
  wtm_at "a";refine h2 ?_;cases d with
  |tup ds=>
   unfold Db at e1;simp only[Bool.and_eq_false_iff,decide_eq_false_iff_not] at e1;rw[Em,AAO (by omega),Bool.false_and]
  |_=>rfl
 cases d with
 |tup ds=>
  have hl:ds.length<=6:=by
   unfold Db at e1;simp only[Bool.and_eq_true,decide_eq_true_eq] at e1;omega
  have hb:=hb ds rfl;wtm_at "a";refine DZ (I:=λrest τ ν=>ν=μ/\∃done o,ds=done++rest/\done.all JN=true/\τ=[some (.tup ds),o]) ?_ ?_ ⟨rfl,[],none,rfl,rfl,rfl⟩
  ·rintro x xs τ ν ⟨rfl,done,o,e,hd,rfl⟩;obtain⟨ax,bx⟩:=hb x (by rw[e];simp);wtm_at "a";refine BI (Co (a:=5) (b:=5) ax) ?_;wtm_at "a";have bad:JN x=false->QX (.inr nom) ν:=λz=>h2 (by rw[Em,e,LJ z];simp);refine wx_need (λe2=>?_) (λe2=>?_)
   case refine_2=>wtm_at "a";exact bad (Se e2)
   obtain⟨n,k,s,b,w,rfl⟩:=ZS e2;obtain⟨a1,a2,a3,a4,a5⟩:=bx n k s b w rfl;wtm_at "a";refine BI (Et a1 a2) ?_;wtm_at "a";refine wx_need (λe3=>?_) (λe3=>?_)
   case refine_2=>wtm_at "a";exact bad (by rw[LD,e3];rfl)
   wtm_at "a";refine wx_worths a3 a4 a5 (λe4=>?_) (λe4=>?_)
   case refine_2=>wtm_at "a";exact bad (by rw[LD,e3,e4];rfl)
   wtm_at "a";exact⟨rfl,done++[.tup [n,k,s,b,w]],_,by rw[e];simp,JQ hd (by rw[LD,e3,e4];rfl),rfl⟩
  ·rintro τ ν ⟨rfl,done,o,e,hd,rfl⟩;rw[AAZ] at e;subst e;refine AN ?_;refine wx_exprX ?_;refine wx_dispX ?_;refine Ab ?_;refine AZ ?_;refine Ab ?_;refine BI (Gb Ux hd (by omega) rfl) ?_;wtm_at "a";refine BI (LW (by simp;omega)) ?_;wtm_at "a";refine wx_need (λe5=>?_) (λe5=>?_)
   ·wtm_at "a";exact h1 (by rw[Em,AAP hl,hd,e5];rfl)
   ·wtm_at "a";exact h2 (by rw[Em,AAP hl,hd,e5];rfl)
 |_=>cases e1
theorem wx_hands(ha:So d)(h1:JC d=true->QX (.inl .non) μ)(h2:JC d=false->QX (.inr nom) μ):WP (CQ [d]) μ QX:=by
 obtain⟨ha,hb⟩:=ha;unfold CQ;refine Dh rfl ?_;unfold Bi;wtm_at "a";refine BI (Co (a:=2) (b:=4) ha) ?_;wtm_at "a";refine wx_need (λe1=>?_) (λe1=>?_)
 case refine_2=>
  wtm_at "a";refine h2 ?_;cases d with
  |tup ds=>
   unfold Db at e1;simp only[Bool.and_eq_false_iff,decide_eq_false_iff_not] at e1;have:(decide (2<=ds.length)&&decide (ds.length<=4))=false:=by
    simp only[Bool.and_eq_false_iff,decide_eq_false_iff_not];omega
   rw[D7,this,Bool.false_and]
  |_=>rfl
 cases d with
 |tup ds=>
  have hl:2<=ds.length/\ds.length<=4:=by
   unfold Db at e1;simp only[Bool.and_eq_true,decide_eq_true_eq] at e1;omega
  have hb:=hb ds rfl;wtm_at "a";refine DZ (I:=λrest τ ν=>ν=μ/\∃done o,ds=done++rest/\done.all FF=true/\τ=[some (.tup ds),o]) ?_ ?_ ⟨rfl,[],none,rfl,rfl,rfl⟩
  ·rintro x xs τ ν ⟨rfl,done,o,e,hd,rfl⟩;obtain⟨ax,bx⟩:=hb x (by rw[e];simp);wtm_at "a";refine BI (Co (a:=3) (b:=3) ax) ?_;wtm_at "a";have bad:FF x=false->QX (.inr nom) ν:=λz=>h2 (by rw[D7,e,LJ z];simp);refine wx_need (λe2=>?_) (λe2=>?_)
   case refine_2=>wtm_at "a";exact bad (PZ e2)
   obtain⟨n,w,r,rfl⟩:=ZT e2;obtain⟨a1,a2,a3,a4⟩:=bx n w r rfl;wtm_at "a";refine BI (Et a1 a2) ?_;wtm_at "a";refine wx_need (λe3=>?_) (λe3=>?_)
   case refine_2=>wtm_at "a";exact bad (by rw[Fp,e3];rfl)
   wtm_at "a";refine BI (DO (a:=0) (b:=400) a3) ?_;wtm_at "a";refine wx_need (λe4=>?_) (λe4=>?_)
   case refine_2=>wtm_at "a";exact bad (by rw[Fp,e3,e4];rfl)
   wtm_at "a";refine BI (Co (a:=0) (b:=60) a4) ?_;wtm_at "a";refine wx_need (λe5=>?_) (λe5=>?_)
   case refine_2=>wtm_at "a";exact bad (by rw[Fp,e3,e4,e5];rfl)
   wtm_at "a";exact⟨rfl,done++[.tup [n,w,r]],_,by rw[e];simp,JQ hd (by rw[Fp,e3,e4,e5];rfl),rfl⟩
  ·rintro τ ν ⟨rfl,done,o,e,hd,rfl⟩;rw[AAZ] at e;subst e;refine AN ?_;refine wx_exprX ?_;refine wx_dispX ?_;refine Ab ?_;refine AZ ?_;refine Ab ?_;refine BI (Gb JD hd (by omega) rfl) ?_;wtm_at "a";refine BI (LW (by simp;omega)) ?_;wtm_at "a";refine wx_need (λe5=>?_) (λe5=>?_)
   ·wtm_at "a";exact h1 (by rw[D7,AAP hl.1,AAP hl.2,hd,e5];rfl)
   ·wtm_at "a";exact h2 (by rw[D7,AAP hl.1,AAP hl.2,hd,e5];rfl)
 |_=>cases e1
end
section
variable{μ:Mh}{QD:D->Mh->Prop}{τ:Sl}
theorem NN(q:QD (.ref μ.length) (μ++[.dK []])):WP (Wu τ) μ QD:=⟨_,_,rfl,q⟩
end
theorem Ub{k:Str}(h:k∈(["safe", "steady", "whole"]:List Str)):Gf (.str k)=true:=by
 unfold Gf;rw[List.any_eq_true];exact⟨.str k,AAM.mpr ⟨k,h,rfl⟩,by simp⟩
theorem IE{k:Str}{s b:Int}(h:HV k s b):ER (.str k) (.int s) (.int b)=true:=by
 obtain⟨h0,h1,h2,h3,h4⟩:=h;show (Gf (.str k)&&((decide (2<=s)&&decide (s<=10))&&(decide (0<=b)&&decide (b<=s-1))))=true;rw[Ub h0,AAP h1,AAP h2,AAP h3,AAP h4];rfl
theorem Xk{b:Bx}(h:GoodName b.nm):ZQ b.toD:=⟨rfl,λn k s g w e=>by
 unfold Bx.toD at e;cases e;exact⟨rfl,λx e=>by cases e;exact .inl h,rfl,rfl,rfl⟩⟩
theorem ZH{b:Bx}(h:GoodName b.nm/\HV b.kd b.sz b.bg):JN b.toD=true:=by
 unfold Bx.toD;rw[LD,show By (.str b.nm)=true from BP h.1,IE h.2];rfl
theorem Rj(bs:List Bx):(bs.map Bx.toD).map JZ=bs.map Bx.nm:=by rw[List.map_map];rfl
section
variable{m:Mk}(h:m.Ok)
theorem Sn{bs:List Bx}(h:∀b∈bs,GoodName b.nm):Sr (.tup (bs.map Bx.toD)):=⟨rfl,λds e x hx=>by
 cases e;obtain⟨b,hb,rfl⟩:=AAM.mp hx;exact Xk (h b hb)⟩
theorem Sm{bs:List Bx}(h:∀b∈bs,GoodName b.nm/\HV b.kd b.sz b.bg):(bs.map Bx.toD).all JN=true:=by
 rw[List.all_eq_true];intro x hx;obtain⟨b,hb,rfl⟩:=AAM.mp hx;exact ZH (h b hb)
include h in
include h in
include h in
include h in
include h in
end
section
variable{μ:Mh}{QD:D->Mh->Prop}{d:D}{ds es:List D}{w:Nat}
theorem szl:sizeLine=16777216:=by decide
theorem ED{i:Int}(k:Nat)(h:i=(k:Int))(q:QD (.tup (ds.take k)) μ):WP (Ic none (some i) (.tup ds)) μ QD:=by
 subst h;exact⟨_,μ,rfl,by rw[SV];exact q⟩
theorem DG{i:Int}(k:Nat)(h:i=(k:Int))(hk:k<=ds.length)(q:QD (.tup (ds.drop k)) μ):WP (Ic (some i) none (.tup ds)) μ QD:=by
 subst h;exact⟨_,μ,rfl,by rw[ML k hk];exact q⟩
theorem DN(h:ds.length+es.length<=1000000)(q:QD (.tup (ds++es)) μ):WP (A7 (.tup ds) (.tup es)) μ QD:=by
 cases ds with
 |nil=>exact⟨_,μ,rfl,q⟩
 |cons a as=>exact GQ (by rw[szl,AAH];omega) q
theorem EE(h:ds.length+es.length<=1000000)(q:QD (.lst (ds++es)) μ):WP (A7 (.lst ds) (.lst es)) μ QD:=EF (by rw[szl,AAH];omega) q
theorem EX{r:Int}(h1:0<=r)(h2:r<ds.length)(q:∀d∈ds,QD d μ):WP (AT (.lst ds) (.int r)) μ QD:=by
 obtain⟨a,ha,e⟩:=GD (f:=λd:D=>d) (xs:=ds) h1 h2;rw[List.map_id'] at e;exact EQ e (q a ha)
theorem Bm{b:Int}(hw:WellAt μ w)(hb:0<b)(hb2:b<1073741824)(q:∀r μ',0<=r->r<b->WellAt μ' w->Upd w μ μ'->QD (.int r) μ'):WP (BC [.ref w,.int b]) μ QD:=by
 obtain⟨r,μ',e,h1,h2,u⟩:=Cg hw hb hb2;exact⟨_,μ',e,q r μ' h1 h2 (u.well hw.lt) u⟩
end
theorem AR{α:Type}{m:M α}{μ:Mh}{a:α}{Q:α->Mh->Prop}(e:m μ=some (a,μ))(q:Q a μ):WP m μ Q:=⟨a,μ,e,q⟩
theorem VR{ds:List D}(h:∀x∈ds,U6 x):So (.tup ds):=⟨rfl,λ_ e=>by cases e;exact h⟩
section
variable{μ:Mh}{QD:D->Mh->Prop}{QL:List D->Mh->Prop}{d:D}{ds:List D}{w:Nat}{τ:Sl}
theorem Hy{i:Int}(k:Nat)(h:i=(k:Int))(q:QD (.lst (ds.take k)) μ):WP (Ic none (some i) (.lst ds)) μ QD:=by
 subst h;exact⟨_,μ,rfl,by rw[SV];exact q⟩
theorem MZ{i:Int}(k:Nat)(h:i=(k:Int))(hk:k<=ds.length)(q:QD (.lst (ds.drop k)) μ):WP (Ic (some i) none (.lst ds)) μ QD:=by
 subst h;exact⟨_,μ,rfl,by rw[ML k hk];exact q⟩
theorem B5{b:Int}{g:Mh}(hw:WellAt μ w)(hb:0<b)(hb2:b<1073741824)(q:∀r μ',0<=r->r<b->WellAt μ' w->Upd w μ μ'->μ'.length=μ.length->QD (.int r) (μ'++g)):WP (BC [.ref w,.int b]) (μ++g) QD:=by
 obtain⟨r,μ',e,h1,h2,u⟩:=TK (g:=g) hw hb hb2;exact⟨_,_,e,q r μ' h1 h2 (u.well hw.lt) u u.len⟩
theorem QQ{N ps:Nat}{mb:Sl->M (Fl×Sl)}(hl:ds.length=ps)(h:WP (mb (A9 N ds)) μ λr μ2=>∃d τ2 μ1 g,r=(.rt d,τ2)/\μ2=μ1++g/\Upd w μ μ1/\Cl μ.length d/\QD d μ1):WP (Bq .drop N ps mb ds) μ QD:=by
 obtain⟨r,μ2,e,d,τ2,μ1,g,rfl,rfl,u,c,q⟩:=h;exact⟨d,μ1,Fr e hl u c,q⟩
theorem Sz{ra:Sl->M (List D)}(h:WP (ra τ) μ λas μ1=>∃ds,as=[.lst ds]/\QL (D9 0 ds) μ1):WP (L7 ra τ) μ QL:=by
 unfold L7;refine An (Ag h λas μ1 ⟨ds,e,q⟩=>?_);subst e;exact An ⟨ds,μ1,rfl,BN q⟩
theorem Sv{bs:List Bx}{nm:Str}{rn:List Str}{many:Int}{k:Nat}{ex:Mh}{L:Nat}(hw:WellAt μ w)(hL:μ.length=L)(hbs:∀b∈bs,GoodName b.nm)(hbl:bs.length<=6)(hrn:∀y∈rn,GoodName y)(hne:rn≠[])(hrl:rn.length<=100)(hm:0<=many)(hm2:many<=60)
  (q:∀(rs:List Rw) (μ':Mh),rs.length=ds.length->(∀r∈rs,r.Drawn (own bs nm) (bs.map Bx.nm) rn (k==0) many)->WellAt μ' w->Upd w μ μ'->μ'.length=L->QL (rs.map Rw.toD) (μ'++(.lst (bs.map Bx.toD)::ex))) :
  WP (B3 (AM 0) BO Zf [none,some (.ref L),some (.int k),some (.int many),some (.lst ((own bs nm).map D.str)),some (.lst (rn.map D.str)),some (.ref w)] ds []) (μ++(.lst (bs.map Bx.toD)::ex)) QL:=by
 subst hL;refine Hl (I:=λrest ys ν=>∃(rs:List Rw) (μ':Mh),ys=rs.map Rw.toD/\ν=μ'++(.lst (bs.map Bx.toD)::ex)/\rs.length+rest.length=ds.length/\(∀r∈rs,r.Drawn (own bs nm) (bs.map Bx.nm) rn (k==0) many)/\WellAt μ' w/\Upd w μ μ'/\μ'.length=μ.length) ?_ ?_ ⟨([]:List Rw),μ,rfl,rfl,by simp,by simp,hw,hw.refl,rfl⟩
 ·rintro x xs ys ν ⟨rs,μ1,rfl,rfl,hl,hd,hw1,u1,l1⟩;refine⟨_,_,rfl,true,_,rfl,λ_=>?_,λe=>nomatch e⟩;have ho:∀x∈own bs nm,GoodName x:=λx hx=>by
   unfold own at hx;rw[AAM] at hx;obtain⟨b,hb,rfl⟩:=hx;exact hbs b (List.mem_filter.mp hb).1
  have hb:∀x∈bs.map Bx.nm,GoodName x:=λx hx=>by
   rw[AAM] at hx;obtain⟨b,hb,rfl⟩:=hx;exact hbs b hb
  have lo:(own bs nm).length<=100:=by
   unfold own;rw[AAG];exact AAq (List.length_filter_le _ _) (by omega)
  obtain⟨r,ν,e,dr,v⟩:=Xs (own:=own bs nm) (bxs:=bs.map Bx.nm) (ns:=rn) (many:=many) (wr:=k==0) (hw1.app (g:=.lst (bs.map Bx.toD)::ex)) hm hm2 ho hb hrn hne lo (by rw[AAG];omega) hrl;obtain⟨μ2,u2,rfl⟩:=v.app hw1.lt;have hk:(((k:Nat):Int)==0)=(k==0):=by
   by_cases z:k=0
   ·subst z;rfl
   ·rw[AAe.mpr z,AAe.mpr (by omega)]
  have ht:(μ1++(MO.lst (bs.map Bx.toD)::ex))[μ.length]?=some (.lst (bs.map Bx.toD)):=by rw[←l1,AAS (AAF _)];simp
  refine AZ ?_;refine Ab ?_;refine Ad rfl ?_;refine Ab ?_;refine Ad rfl ?_;refine Ab ?_;refine AR (NE (by omega) rfl ht) ?_;refine Ab ?_;refine Ad rfl ?_;refine Ab ?_;refine Ad rfl ?_;refine Ab ?_;refine A3 ?_;refine Ad rfl ?_;refine Cq ?_;refine F6 ?_;rw[hk];refine Bl ?_;refine BI e ?_;refine⟨rs++[r],μ2,by simp,rfl,by simp at hl ⊢;omega,λq hq=>?_,u2.well hw1.lt,u1.trans u2,by rw[u2.len,l1]⟩;rcases AAK.mp hq with z|z
  ·exact hd q z
  ·rw[AAL] at z;subst z;exact dr
 ·rintro ys ν ⟨rs,μ1,rfl,rfl,hl,hd,hw1,u1,l1⟩;exact q rs μ1 (by simpa using hl) hd hw1 u1 l1
end
noncomputable def n12:List Str:=IS "abcdefgh"
theorem Wv(t:Nat):OZ (n12.drop t++n12.take t):=UK (x := "abcdefgh") (by decide +kernel) Y5 (IW t)
theorem UM(t:Nat):("nobody" : Str)∉n12.drop t++n12.take t:=by
 intro h;have:("nobody" : Str)∈n12:=(IW (sm:=n12) t).mem_iff.mp h;exact absurd this (by decide +kernel)
theorem UL(t:Nat):("nobox" : Str)∉n12.drop t++n12.take t:=by
 intro h;have:("nobox" : Str)∈n12:=(IW (sm:=n12) t).mem_iff.mp h;exact absurd this (by decide +kernel)
noncomputable def r5:List Str:=["x", "abcdefgh", "tell", "vv", "if"]
theorem YR:∀y∈r5,GoodName y/\y∉(["v", "not", "and", "or"]:List Str):=by
 have h:∀y∈r5,((1<=y.length/\y.length<=8)/\EN y)/\y∉(["v", "not", "and", "or"]:List Str):=by unfold EN;decide +kernel
 exact λy hy=>⟨⟨(h y hy).1.1.1,(h y hy).1.1.2,(h y hy).1.2⟩,(h y hy).2⟩
theorem wx_making{μ:Mh}{QD:D->Mh->Prop}{w:Nat}(hw:WellAt μ w)(q:∀(m:Mk) (ν:Mh),m.Ok->("nobody" : Str)∉m.hs.map Hd.nm->("nobox" : Str)∉m.bs.map Bx.nm->QD m.toD ν):WP (K3.f_Lmaking [.ref w]) μ QD:=by
 have hz:=szl;unfold K3.f_Lmaking;refine QQ (w:=w) rfl ?_;unfold K3.m_Lmaking;wtm_at "a";refine Bm hw (by decide) (by decide) (λt μ1 a1 b1 w1 u1=>?_);obtain⟨t,rfl⟩:=Int.eq_ofNat_of_zero_le a1;wtm_at "a";refine MZ (ds:=n12.map D.str) t rfl (by show t<=12;omega) ?_;wtm_at "a";refine Hy (ds:=n12.map D.str) t rfl ?_;refine EE (by simp[n12,IS,base11];omega) ?_;rw[show (n12.map D.str).drop t++(n12.map D.str).take t=(n12.drop t++n12.take t).map D.str from by simp[List.map_drop,List.map_take]];have N:=Wv t;have nob:=UM t;have nox:=UL t;generalize n12.drop t++n12.take t=sm at N nob nox;wtm_at "a";refine Bm w1 (by decide) (by decide) (λc μ2 a2 b2 w2 u2=>?_);obtain⟨c,rfl⟩:=Int.eq_ofNat_of_zero_le a2;wtm_at "a";refine Hy (2+c) (by omega) ?_;rw[←List.map_take];have nsl:(sm.take (2+c)).length=2+c:=by rw[List.length_take,N.len];omega
 have nsg:∀y∈sm.take (2+c),GoodName y:=λy hy=>N.good y (List.mem_of_mem_take hy);have nsd:(sm.take (2+c)).Nodup:=N.nd.sublist (List.take_sublist _ _);have nsb:("nobody" : Str)∉sm.take (2+c):=λh=>nob (List.mem_of_mem_take h);generalize hns:sm.take (2+c)=ns at nsl nsg nsd nsb;have l2:μ2.length=μ.length:=by rw[u2.len,u1.len]
 have u2:=u1.trans u2;refine AN ?_;refine AX ?_;refine A2 ?_;refine AZ ?_;refine Bl ?_;refine Hj (AAi _) ?_;rw[l2];wtm_at "a";refine B5 w2 (by decide) (by decide) (λr μ3 a3 b3 w3 u3 l3=>?_);obtain⟨r,rfl⟩:=Int.eq_ofNat_of_zero_le a3;have l3:μ3.length=μ.length:=by rw[l3,l2]
 have u3:=u2.trans u3;refine Bl ?_;refine KJ rfl (by omega) ?_;refine QP (I:=λk τ ν=>∃(bs:List Bx) (μ4:Mh) (o5 o6 o7:Option D),ν=μ4++[.lst (bs.map Bx.toD)]/\Upd w μ μ4/\WellAt μ4 w/\μ4.length=μ.length/\U5 sm ns k bs/\τ=[some (.ref w),some (.lst (sm.map D.str)),some (.int t),some (.lst (ns.map D.str)),some (.ref μ.length),o5,o6,o7,none,none,none,none,none,none,none]) ?_ ?_ ⟨[],μ3,none,none,none,rfl,u3,w3,l3,⟨by simp,by simp,by simp⟩,rfl⟩
 ·rintro k τ ν hk ⟨bs,μ4,o5,o6,o7,rfl,u4,w4,l4,B,rfl⟩;have lbs:bs.length<=6:=by
   have:=congrArg List.length B.nms;rw[AAG,List.length_take] at this;omega
  refine EZ ?_;wtm_at "a";refine B5 w4 (by decide) (by decide) (λr1 μ5 a5 b5 w5 u5 l5=>?_);wtm_at "a";refine B5 w5 (by decide) (by decide) (λr2 μ6 a6 b6 w6 u6 l6=>?_);obtain⟨kd,hkd,ek⟩:=OF a6 b6;refine EQ ek ?_;refine AN ?_;refine Hk ?_;obtain⟨x,ex,hx,ei⟩:=V2 (sm:=sm) (k:=k) N.len (by omega);refine NY (by rw[l6,l5,l4];rfl) (by rw[AAG];omega) ?_;wtm_at "a";refine EQ ei ?_;wtm_at "a";refine B5 w6 (by omega) (by omega) (λr3 μ7 a7 b7 w7 u7 l7=>?_);wtm_at "a";refine AR Ix ?_;wtm_at "a";refine B5 w7 (by rw[AAG];omega) (by rw[AAG];omega) (λr4 μ8 a8 b8 w8 u8 l8=>?_);rw[AAG] at b8;obtain⟨wr,hwr,ew⟩:=GD (f:=D.str) (xs:=ns) a8 b8;refine EQ ew ?_;wtm_at "a";refine⟨μ8,(Bx.mk x kd (2+r1) r3 wr).toD,rfl,rfl,by omega,?_⟩;refine Ci ?_;refine⟨bs++[⟨x,kd,2+r1,r3,wr⟩],μ8,_,_,_,by simp,u4.trans (u5.trans (u6.trans (u7.trans u8))),w8,by omega,⟨?_,?_,?_⟩,rfl⟩
  ·rw[AAY,B.nms,List.take_add_one,ex];rfl
  ·intro b hb;rcases AAK.mp hb with z|z
   ·exact B.wor b z
   ·simp at z;subst z;exact⟨hkd,by show 2<=2+r1;omega,by show 2+r1<=10;omega,a7,by show r3<=2+r1-1;omega⟩
  ·intro b hb;rcases AAK.mp hb with z|z
   ·exact B.wri b z
   ·simp at z;subst z;exact hwr
 ·rintro τ ν ⟨bs,μ4,o5,o6,o7,rfl,u4,w4,l4,B,rfl⟩;have bl:bs.length<=6:=by
   have:=congrArg List.length B.nms;rw[AAG,List.length_take] at this;omega
  have bnd':(bs.map Bx.nm).Nodup:=by
   rw[B.nms];exact((List.reverse_perm sm).nodup_iff.mpr N.nd).sublist (List.take_sublist _ _)
  have bg:∀b∈bs,GoodName b.nm:=λb hb=>by
   have:b.nm∈sm.reverse.take r:=by rw[←B.nms];exact AAM.mpr ⟨b,hb,rfl⟩
   exact N.good _ (List.mem_reverse.mp (List.mem_of_mem_take this))
  have bw:∀b∈bs,PyData.strOk b.wr=true:=λb hb=>(nsg _ (B.wri b hb)).ok;refine AN ?_;refine AX ?_;refine A2 ?_;refine AZ ?_;refine Bl ?_;refine Hj (AAi _) ?_;rw[AAH,l4,List.append_assoc];wtm_at "a";refine AR Ix ?_;wtm_at "a";refine QK (.inl (by omega)) ?_;wtm_at "a";have lns:((ns.map D.str).length:Int)=2+c:=by rw[AAG];omega
  refine B5 (g:=[.lst (bs.map Bx.toD),.lst []]) w4 (by omega) (by omega) (λlg μ5 a5 b5 w5 u5 l5=>?_);have l5:μ5.length=μ.length:=by omega
  have u5:=u4.trans u5;refine AN ?_;refine AX ?_;refine IC ?_;refine Sz ?_;wtm_at "a";refine⟨_,rfl,?_⟩;refine DZ (I:=λrest τ ν=>∃(hs:List Hd) (rem:List Str) (μ6:Mh) (o5 o10 o11 o12 o13 o14:Option D),rest=D9 hs.length (rem.map D.str)/\ns=hs.map Hd.nm++rem/\ν=μ6++[.lst (bs.map Bx.toD),.lst (hs.map Hd.toD)]/\Upd w μ μ6/\WellAt μ6 w/\μ6.length=μ.length/\(∀(i:Nat) (h:Hd),hs[i]?=some h->Xo bs i h)/\τ=[some (.ref w),some (.lst (sm.map D.str)),some (.int t),some (.lst (ns.map D.str)),some (.ref μ.length),o5,o6,o7,some (.ref (μ.length+1)),some (.int lg),o10,o11,o12,o13,o14]) ?_ ?_ ⟨[],ns,μ5,o5,none,none,none,none,none,rfl,rfl,rfl,u5,w5,l5,by simp,rfl⟩
  ·rintro x xs τ ν ⟨hs,rem,μ6,o5,o10,o11,o12,o13,o14,er,en,rfl,u6,w6,l6,H,rfl⟩;cases rem with
   |nil=>cases er
   |cons nm rem=>
    have hx:x=.tup [.int hs.length,.str nm]/\xs=D9 (hs.length+1) (rem.map D.str):=by
     have:=List.cons.inj er;exact⟨this.1,this.2⟩
    obtain⟨rfl,rfl⟩:=hx;have gnm:GoodName nm:=nsg nm (by rw[en];simp);have hsl:hs.length<4:=by
     have:=congrArg List.length en;rw[nsl,AAH,AAG,AAI] at this;omega
    refine ID ?_;wtm_at "a";refine B5 w6 (by decide) (by decide) (λr1 μ7 a7 b7 w7 u7 l7=>?_);have l7:μ7.length=μ.length:=by omega
    obtain⟨m0,hm0,hm60,em⟩:=UO a7 b7;refine EQ em ?_;refine AN ?_;refine AX ?_;refine Ag (Q:=λr ν=>∃many:Nat,many<=60/\ν=μ7++[.lst (bs.map Bx.toD),.lst (hs.map Hd.toD)]/\r=(Fl.next,[some (.ref w),some (.lst (sm.map D.str)),some (.int t),some (.lst (ns.map D.str)),some (.ref μ.length),some (.int hs.length),o6,o7,some (.ref (μ.length+1)),some (.int lg),some (.str nm),some (.int many),o12,o13,o14])) ?_ ?_
    ·refine Cc ?_;refine BG ?_;refine A3 ?_;refine Ad rfl ?_;refine Ad rfl ?_;refine F6 ?_;refine Av ?_;refine Er (λ_=>?_) (λ_=>?_)
     ·wtm_at "a";exact⟨60,by omega,rfl,rfl⟩
     ·wtm_at "a";obtain⟨m0,rfl⟩:=Int.eq_ofNat_of_zero_le hm0;exact⟨m0,by omega,rfl,rfl⟩
    ·rintro _ _ ⟨many,hmany,rfl,rfl⟩;refine AN ?_;refine AX ?_;refine A2 ?_;have ht:(μ7++[MO.lst (bs.map Bx.toD),.lst (hs.map Hd.toD)])[μ.length]?=some (.lst (bs.map Bx.toD)):=by rw[←l7,AAS (AAF _)];simp
     refine AR (a:=.lst ((own bs nm).map D.str)) (FD (ds:=bs.map Bx.toD) (Rt (n:=μ.length) rfl ht) (by rw[AAG];omega) (M0 gnm.ok bs [] bw) (Bu (by rw[List.nil_append,AAG];unfold own;rw[AAG];exact AAq (List.length_filter_le _ _) (by omega)))) ?_;wtm_at "a";refine B5 w7 (by decide) (by decide) (λr2 μ8 a8 b8 w8 u8 l8=>?_);have l8:μ8.length=μ.length:=by omega
     obtain⟨r2,rfl⟩:=Int.eq_ofNat_of_zero_le a8;wtm_at "a";refine Hy (ds:=r5.map D.str) (1+r2) (by omega) ?_;rw[←List.map_take];have rl:(r5.take (1+r2)).length=1+r2:=by rw[List.length_take,show r5.length=5 from rfl];omega
     have rg:∀y∈r5.take (1+r2),GoodName y/\y∉(["v", "not", "and", "or"]:List Str):=λy hy=>YR y (List.mem_of_mem_take hy);generalize r5.take (1+r2)=rn at rl rg;refine AN ?_;refine AX ?_;refine A2 ?_;refine Fg ?_;refine NU ?_;wtm_at "a";refine KJ rfl (by omega) ?_;refine⟨by simp;omega,?_⟩;refine Sv (bs:=bs) (nm:=nm) (rn:=rn) (many:=many) (k:=hs.length) w8 l8 bg bl (λy hy=>(rg y hy).1) (by intro z;rw[z] at rl;simp at rl;omega) (by omega) (by omega) (by omega) (λrs μ9 lr hd w9 u9 l9=>?_);have lr:rs.length=many:=by simpa using lr
     refine EF (by rw[AAG];omega) ?_;refine AN ?_;refine Hk ?_;rw[show μ9++[MO.lst (bs.map Bx.toD),.lst (hs.map Hd.toD)]=(μ9++[MO.lst (bs.map Bx.toD)])++[.lst (hs.map Hd.toD)] from by simp];refine NY (by rw[AAH,l9];rfl) (by rw[AAG];omega) ?_;wtm_at "a";rw[List.append_assoc];refine B5 w9 (by decide) (by decide) (λr5' μa aa ba wa ua la=>?_);obtain⟨wi,hwi,hwi4,ew⟩:=Oe aa ba;refine EQ ew ?_;wtm_at "a";refine⟨μa++[.lst (bs.map Bx.toD)],(Hd.mk nm wi rs).toD,rfl,by simp,by simp;omega,?_⟩;refine Ci ?_;refine⟨hs++[⟨nm,wi,rs⟩],rem,μa,_,_,_,_,_,_,by simp,by rw[en];simp,by simp,u6.trans (u7.trans (u8.trans (u9.trans ua))),wa,by omega,?_,rfl⟩;intro i h e;by_cases hi:i<hs.length
     ·rw[AAT hi] at e;exact H i h e
     ·rw[AAS (by omega)] at e;have hi0:i-hs.length=0:=by
       by_cases z:i-hs.length=0
       ·exact z
       ·rw[List.getElem?_eq_none (by simp;omega)] at e;cases e
      rw[hi0] at e;cases e;have:i=hs.length:=by omega
      subst this;exact⟨hwi,hwi4,by show rs.length<=60;omega,λr hr=>by show r.Ok _ _ _ (rs.length:Int);rw[lr];exact SR bnd' rg (hd r hr)⟩
  ·rintro τ ν ⟨hs,rem,μ6,o5,o10,o11,o12,o13,o14,er,en,rfl,u6,w6,l6,H,rfl⟩;cases rem with
   |cons nm rem=>cases er
   |nil=>
    rw[AAZ] at en;have hsl:hs.length=2+c:=by
     have:=congrArg List.length en;rw[nsl,AAG] at this;omega
    wtm_at "a";refine B5 w6 (by decide) (by decide) (λr6 μ7 a7 b7 w7 u7 l7=>?_);wtm_at "a";refine B5 w7 (by decide) (by decide) (λr7 μ8 a8 b8 w8 u8 l8=>?_);obtain⟨kd,hkd,ek⟩:=OF a8 b8;refine EQ ek ?_;wtm_at "a";refine B5 w8 (by omega) (by omega) (λr8 μ9 a9 b9 w9 u9 l9=>?_);have l9:μ9.length=μ.length:=by omega
    wtm_at "a";refine NT (ds:=bs.map Bx.toD) (by rw[←l9,AAS (AAF _)];simp) ?_;wtm_at "a";refine NT (ds:=hs.map Hd.toD) (by rw[←l9,AAS (by omega)];simp) ?_;wtm_at "a";refine⟨_,_,μ9,_,rfl,rfl,u6.trans (u7.trans (u8.trans u9)),Mk.cl ⟨kd,2+r6,r8,bs,hs⟩,?_⟩;refine q ⟨kd,2+r6,r8,bs,hs⟩ _ ?_ (by rw[←en];exact nsb) (by show _∉bs.map Bx.nm;rw[B.nms];exact λz=>nox (List.mem_reverse.mp (List.mem_of_mem_take z)));refine⟨⟨hkd,by show 2<=2+r6;omega,by show 2+r6<=10;omega,a9,by show r8<=2+r6-1;omega⟩,λb hb=>⟨bg b hb,B.wor b hb⟩,bl,bnd',λh hh=>?_,by show 2<=hs.length;omega,by show hs.length<=4;omega,by show (hs.map Hd.nm).Nodup;rw[←en];exact nsd,λb hb=>?_,λi h e=>(H i h e).rows⟩
    ·obtain⟨i,e⟩:=List.mem_iff_getElem?.mp hh;have z:=H i h e;exact⟨nsg _ (by rw[en];exact AAM.mpr ⟨h,hh,rfl⟩),z.lo,z.hi,z.most⟩
    ·show b.wr∈hs.map Hd.nm;rw[←en];exact B.wri b hb
section
variable{μ:Mh}{QD:D->Mh->Prop}
theorem TL:∀ns:List Int,∃c:Int,CT [.scr ns,.int 1] μ=some (.int c,μ)
 |[]=>by
  have l:Bk [.scr []] μ=some (.int 0,μ):=rfl;exact⟨0,BZ (g:=[]) (τ2:=_) (by rw[AAZ];unfold B1;wtm_at "b") rfl (by unfold Cl;trivial)⟩
 |[c]=>by
  have l:Bk [.scr [c]] μ=some (.int 1,μ):=rfl;exact⟨0,BZ (g:=[]) (τ2:=_) (by rw[AAZ];unfold B1;wtm_at "b") rfl (by unfold Cl;trivial)⟩
 |b::c::ns=>by
  have l:Bk [.scr (b::c::ns)] μ=some (.int ((((b::c::ns).map D.int).length:Nat):Int),μ):=rfl;have h0:(1:Int)<((((b::c::ns).map D.int).length:Nat):Int):=by simp;omega
  have i:AT (.scr (b::c::ns)) (.int 1) μ=some (.int c,μ):=by
   show bnd (B4 (.scr (b::c::ns))) (λds=>ixD ds 1) μ=_;rw[AQ (show B4 (.scr (b::c::ns)) μ=some ((b::c::ns).map D.int,μ) from rfl)];unfold ixD;rw[show atI ((b::c::ns).map D.int) 1=some (.int c) from by
    unfold atI ixN;rw[if_pos (by decide),if_pos h0];rfl]
   rfl
  exact⟨c,BZ (g:=[]) (τ2:=_) (by rw[AAZ];unfold B1;wtm_at "b") rfl (by unfold Cl;trivial)⟩
theorem LO{ns:List Int}(q:∀c,QD (.int c) μ):WP (CT [.scr ns,.int 0]) μ QD:=by
 obtain⟨c,e⟩:=Vd (μ:=μ) ns;exact⟨_,μ,e,q c⟩
theorem Hz{ns:List Int}(q:∀c,QD (.int c) μ):WP (CT [.scr ns,.int 1]) μ QD:=by
 obtain⟨c,e⟩:=TL (μ:=μ) ns;exact⟨_,μ,e,q c⟩
theorem KC{c:Int}(q:∀a m:Int,0<=a->WellAt (μ++[.lst [.int a,.int m,.int 0]]) μ.length->QD (.ref μ.length) (μ++[.lst [.int a,.int m,.int 0]])):WP (Gj [.int c]) μ QD:=by
 obtain⟨a,m,h,e⟩:=Vb (c:=c) (μ:=μ);exact⟨_,_,e,q a m h ⟨a,m,0,List.getElem?_concat_length,h⟩⟩
end
theorem Xq{m:Mk}(h:m.Ok):∀b∈m.bs,PyData.strOk b.wr=true:=λb hb=>by
 obtain⟨h',hh,e⟩:=AAM.mp (h.writers b hb);rw[←e];exact(h.hands h' hh).1.ok
theorem Yz{k:Str}(h:k∈(["safe", "steady", "whole"]:List Str)):PyData.strOk k=true:=by
 have:∀k∈(["safe", "steady", "whole"]:List Str),PyData.strOk k=true:=by decide +kernel
 exact this k h
theorem O4:GoodName "only" := ⟨by decide +kernel,by decide +kernel,by unfold EN;decide +kernel⟩
theorem N8{m:Mk}(h:m.Ok)(hb:m.bs=[]){h1:Hd}(hh:h1∈m.hs):(Mk.mk m.kd m.sz m.bg [⟨"only", "steady",4,3,h1.nm⟩] m.hs).Ok:=
 ⟨h.worth,λb hb=>by
  rw[AAL] at hb;subst hb;exact⟨O4,(by decide:("steady" : Str)∈(["safe", "steady", "whole"]:List Str)),(by decide:(2:Int)<=4),(by decide:(4:Int)<=10),(by decide:(0:Int)<=3),(by decide:(3:Int)<=4-1)⟩,by show 1<=6;decide,by show [_].Nodup;simp,h.hands,h.least,h.mosth,h.unlikeh,λb hb=>by
  rw[AAL] at hb;subst hb;exact AAM.mpr ⟨h1,hh,rfl⟩,λi h' e r hr=>by
  have z:=h.rows i h' e r hr;rw[hb] at z;refine⟨z.form,z.ends,z.vars,z.set,?_⟩;have t:=z.tab;cases r with
  |put bx e=>cases t
  |get x bx=>cases t
  |_=>trivial⟩
theorem VQ{μ:Mh}{m:Mk}(h:m.Ok)(hb:m.bs≠[]):BF (.tup (m.bs.map Bx.toD)) (.tup []) μ=some (.bl false,μ):=by
 have pz:Pz (.tup (m.bs.map Bx.toD)):=by
  unfold Pz;refine Q4 λb hb=>?_;have k:=Yz (h.boxes b hb).2.1;have n:=(h.boxes b hb).1.ok;have w:=Xq h b hb;simp[Bx.toD,Pz,PzL,k,n,w]
 have dp:dpt (.tup (m.bs.map Bx.toD))<=64:=by
  have:Hc (m.bs.map Bx.toD)<=1:=OQ λb hb=>by simp[Bx.toD,dpt,Hc]
  unfold dpt;omega
 obtain⟨e,he,z⟩:=LB (neg:=false) (μ:=μ) (a:=.tup (m.bs.map Bx.toD)) (b:=.tup []) pz (by simp[Pz,PzL]) dp (by simp[dpt,Hc]);have:e=false:=by
  cases e with
  |false=>rfl
  |true=>
   have:=he.mp rfl;exfalso;apply hb;simpa using this
 subst this;exact z
end K3
namespace K4
open PySem L2 Mi K1 Xc
open K3 (Db BS Cf BP Fx By NmP nom Co DO Et AR)
section
variable{μ:Mh}{QD:D->Mh->Prop}{QX:Dx->Mh->Prop}{d k b:D}{w:Str}{τ:Sl}
theorem wx_need{c:Bool}(h1:c=true->QX (.inl .non) μ)(h2:c=false->QX (.inr nom) μ):WP (K4.f_needX [.bl c,.str w]) μ QX:=K3.wx_need h1 h2
theorem Gh{x:Str}(h:Cf x=true):GoodName x:=by
 unfold Cf at h;rw[Bool.and_eq_true,Bool.and_eq_true,decide_eq_true_eq,decide_eq_true_eq,List.all_eq_true] at h;exact⟨h.1,h.2.1,λc hc=>by have:=h.2.2 c hc;simpa using this⟩
noncomputable def nmB:D->Bool
 | .str x=>Cf x||decide (x∈Fx)
 |_=>true
theorem Rl(h:nmB d=true):NmP d:=λx e=>by
 subst e;have h:(Cf x||decide (x∈Fx))=true:=h;rw[Bool.or_eq_true,decide_eq_true_eq] at h;rcases h with h|h
 ·exact .inl (Gh h)
 ·exact .inr h
noncomputable def D3(w:D):Bool:=(pairWords.map D.str).any λz=>decide (z=w)
noncomputable def prB(f:D->Bool):List D->Bool
 |[a,b]=>f a&&f b
 |_=>false
noncomputable def wdB(f:D->Bool)(a:D):D->Bool
 | .str x=>if x = "num" then BS a 0 9 else if x = "var" then By a else decide (x = "not")&&f a
 |_=>false
noncomputable def onB(f:D->Bool)(w:D):List D->Bool
 |[a]=>wdB f a w
 |_=>false
noncomputable def Bs:Nat->D->Bool
 |0,_=>false
 |k+1,d=>match d with
  | .tup (w::r)=>if D3 w=true then prB (Bs k) r else onB (Bs k) w r
  |_=>false
noncomputable def prA(f:D->Bool):List D->Bool
 |[a,b]=>f a&&f b
 |_=>true
noncomputable def wdA(f:D->Bool)(a:D):D->Bool
 | .str x=>PyData.strOk x&&(if x = "num" then Bd a else if x = "var" then Bd a&&nmB a else if x = "not" then f a else true)
 |_=>false
noncomputable def onA(f:D->Bool)(w:D):List D->Bool
 |[a]=>wdA f a w
 |_=>true
noncomputable def DY:Nat->D->Bool
 |0,d=>Bd d
 |k+1,d=>match d with
  | .tup (w::r)=>Bd w&&(if D3 w=true then prA (DY k) r else onA (DY k) w r)
  |d=>Bd d
theorem SC{ds:List D}:F1 [.tup ds,.ty "tuple"] μ=some (.bl true,μ):=rfl
theorem Hg:∀(k n:Nat) (d:D) {μ:Mh} {QD:D->Mh->Prop} {j:Int},j=k->k<n->DY k d=true->QD (.bl (Bs k d)) μ->WP (K4.f_is_expression n [d,.int j]) μ QD
 |_,0,_,_,_,_,_,hn,_,_=>by omega
 |0,n+1,d,μ,QD,j,hj,_,ha,q=>by
  subst hj;unfold K4.f_is_expression;refine KI rfl ?_;unfold K4.m_is_expression;wtm_at "a";exact⟨_,_,[],rfl,by simp,by unfold Cl;trivial,q⟩
 |k+1,n+1,d,μ,QD,j,hj,hn,ha,q=>by
  unfold K4.f_is_expression;refine KI rfl ?_;unfold K4.m_is_expression;refine AX ?_;refine Cc ?_;refine QJ ?_;refine BG ?_;refine A3 ?_;refine Ad rfl ?_;refine Cq ?_;refine NS (by omega) ?_;refine Av ?_;refine KH ?_;refine QJ ?_;refine IB ?_;refine BG ?_;refine AZ ?_;refine AR (a:=[d,.ty "tuple"]) rfl ?_;have fin:∀{τ:Sl},∃d' τ2 gs,((Fl.rt (.bl false),τ):Fl×Sl)=(.rt d',τ2)/\μ=μ++gs/\Cl μ.length d'/\(Bs (k+1) d=false->QD d' μ):=λ{τ}=>⟨_,_,[],rfl,by simp,by unfold Cl;trivial,λe=>by rw[e] at q;exact q⟩;cases d with
  |tup ds=>
   refine AR SC ?_;refine Av ?_;refine KH ?_;cases ds with
   |nil=>
    wtm_at "a";exact⟨_,_,[],rfl,by simp,by unfold Cl;trivial,q⟩
   |cons w r=>
    have ha:(Bd w&&(if D3 w=true then prA (DY k) r else onA (DY k) w r))=true:=ha;have q:QD (.bl (if D3 w=true then prB (Bs k) r else onB (Bs k) w r)) μ:=q;clear fin;rw[Bool.and_eq_true] at ha;refine BG ?_;refine A3 ?_;refine AZ ?_;refine AR (a:=[.tup (w::r)]) rfl ?_;refine Ff ?_;refine Cq ?_;refine GP (by simp;omega) ?_;refine Av ?_;refine C0 ?_;refine CI ?_;refine AN ?_;refine AX ?_;refine A2 ?_;refine A3 ?_;refine Ad rfl ?_;refine Cq ?_;refine EO (K3.at0 _ _) ?_;refine AN ?_;refine AX ?_;refine Cc ?_;refine BG ?_;refine A3 ?_;refine Ad rfl ?_;refine Cq ?_;refine Mb (xs:=pairWords) ha.1 ?_ rfl;refine Av ?_;refine Er (λe=>?_) (λe=>?_)
    ·have e:D3 w=true:=e;rw[if_pos e] at q ha;refine Cz ?_;refine EY ?_;refine A3 ?_;refine AZ ?_;refine AR (a:=[.tup (w::r)]) rfl ?_;refine Ff ?_;refine Cq ?_
     match r,q,ha with
     |[a,b],q,ha=>
      have ha:(DY k a&&DY k b)=true:=ha.2;have q:QD (.bl (Bs k a&&Bs k b)) μ:=q;have ha:=Bool.and_eq_true_iff.mp ha;refine IA (by simp) ?_;refine Dp ?_;refine EY ?_;refine AZ ?_;refine AR (a:=[a,.int (j-1)]) rfl ?_;refine Hg k n a (by omega) (by omega) ha.1 ?_;cases h1:Bs k a with
      |false=>
       refine Fe ?_;refine FP ?_;exact⟨_,_,[],rfl,by simp,by unfold Cl;trivial,by simpa[h1] using q⟩
      |true=>
       refine Dp ?_;refine AZ ?_;refine AR (a:=[b,.int (j-1)]) rfl ?_;refine Hg k n b (by omega) (by omega) ha.2 ?_;refine FP ?_;exact⟨_,_,[],rfl,by simp,by unfold Cl;trivial,by simpa[h1] using q⟩
     |[],q,ha | [_],q,ha|_::_::_::_,q,ha=>
      refine GP (by simp;try omega) ?_;refine Fe ?_;refine FP ?_;exact⟨_,_,[],rfl,by simp,by unfold Cl;trivial,q⟩
    ·have e:¬D3 w=true:=by rw[show D3 w=false from e];decide
     rw[if_neg e] at q ha;refine CI ?_;refine AN ?_;refine AX ?_;refine Cc ?_;refine BG ?_;refine A3 ?_;refine AZ ?_;refine AR (a:=[.tup (w::r)]) rfl ?_;refine Ff ?_;refine Cq ?_
     match r,q,ha with
     |[],q,ha|_::_::_,q,ha=>
      refine LR (by simp;try omega) ?_;refine Av ?_;refine EG ?_;wtm_at "a";exact⟨_,_,[],rfl,by simp,by unfold Cl;trivial,q⟩
     |[a],q,ha=>
      refine LS (by simp) ?_;refine Av ?_;refine C0 ?_;cases w with
      |str x=>
       have ha:(PyData.strOk x&&(if x = "num" then Bd a else if x = "var" then Bd a&&nmB a else if x = "not" then DY k a else true))=true:=ha.2;have ha:=Bool.and_eq_true_iff.mp ha;have hx:=ha.1;have ha:=ha.2;refine CI ?_;refine AN ?_;refine AX ?_;refine Cc ?_;refine BG ?_;refine A3 ?_;refine Ad rfl ?_;refine Cq ?_;refine F5 hx (by decide +kernel) ?_;refine Av ?_;refine Er (λe=>?_) (λe=>?_)
       ·have e:=beq_iff_eq.mp e;subst e;refine Cz ?_;refine AZ ?_;refine AR (a:=[a,.int 0,.int 9]) rfl ?_;refine AR (DO ha) ?_;refine FP ?_;exact⟨_,_,[],rfl,by simp,by unfold Cl;trivial,q⟩
       ·have e1:=AAe.mp e;have q:QD (.bl (if x = "num" then BS a 0 9 else if x = "var" then By a else decide (x = "not")&&Bs k a)) μ:=q;rw[if_neg e1] at q ha;refine CI ?_;refine AN ?_;refine AX ?_;refine Cc ?_;refine BG ?_;refine A3 ?_;refine Ad rfl ?_;refine Cq ?_;refine F5 hx (by decide +kernel) ?_;refine Av ?_;refine Er (λe=>?_) (λe=>?_)
        ·have e:=beq_iff_eq.mp e;subst e;have ha:=Bool.and_eq_true_iff.mp ha;refine Cz ?_;refine AZ ?_;refine AR (a:=[a]) rfl ?_;refine AR (Et ha.1 (Rl ha.2)) ?_;refine FP ?_;exact⟨_,_,[],rfl,by simp,by unfold Cl;trivial,q⟩
        ·have e2:=AAe.mp e;rw[if_neg e2] at q ha;refine CI ?_;refine AN ?_;refine Cz ?_;refine EY ?_;refine A3 ?_;refine Ad rfl ?_;refine Cq ?_;refine F5 hx (by decide +kernel) ?_;by_cases e3:x = "not"
         ·subst e3;refine Dp ?_;refine AZ ?_;refine AR (a:=[a,.int (j-1)]) rfl ?_;refine Hg k n a (by omega) (by omega) ha ?_;exact⟨_,_,[],rfl,by simp,by unfold Cl;trivial,q⟩
         ·rw[AAe.mpr e3];refine Fe ?_;rw[AAO e3,Bool.false_and] at q;exact⟨_,_,[],rfl,by simp,by unfold Cl;trivial,q⟩
      |_=>exact absurd ha.2 AAf
  |non|bl _|int _|str _|lst _=>
   refine AR (a:=.bl false) (by kernel_rfl) ?_;refine Av ?_;refine NQ ?_;refine EG ?_;wtm_at "a";exact⟨_,_,[],rfl,by simp,by unfold Cl;trivial,q⟩
  |_=>cases ha
end
end K4
namespace K4
open PySem L2 Mi K1 Xc
open K3 (Db BS Cf BP Fx By NmP nom Co DO Et AR szl DG)
noncomputable def Ce(l:Int)(p:Str)(d:D):Bool:=if p = "expression" then Bs 5 d else if p = "target" then BS d 0 l else By d
noncomputable def Bo(p:Str)(d:D):Bool:=Bd d&&(if p = "expression" then DY 5 d else if p = "target" then true else nmB d)
noncomputable def IF:List Str:=["box", "expression", "variable", "target"]
theorem Jd:∀p∈IF,PyData.strOk p=true/\p.length<=sizeLine/\(Str.empty++("a row has another thing than its " : Str)++p).length<=sizeLine:=by
 rw[szl]
 decide +kernel
section
variable{μ:Mh}{QD:D->Mh->Prop}{QX:Dx->Mh->Prop}{d b:D}{w p:Str}{τ:Sl}{l:Int}
theorem Sx(hp:p∈IF)(ha:Bo p d=true)(q:QD (.bl (Ce l p d)) μ):WP (K4.f_is_part [.str p,d,.int l]) μ QD:=by
 have hs:=(Jd p hp).1;unfold Bo at ha;rw[Bool.and_eq_true] at ha;unfold Ce at q;unfold K4.f_is_part;refine Cv rfl ?_;unfold K4.m_is_part;refine AX ?_;refine Cc ?_;refine BG ?_;refine A3 ?_;refine Ad rfl ?_;refine Cq ?_;refine F5 hs (by decide +kernel) ?_;refine Av ?_;refine Er (λe=>?_) (λe=>?_)
 ·have e:=beq_iff_eq.mp e;rw[if_pos e] at q ha;refine Cz ?_;refine AZ ?_;refine AR (a:=[d,.int 5]) rfl ?_;refine Hg 5 6 d rfl (by decide) ha.2 ?_;exact⟨_,_,rfl,q⟩
 ·have e:=AAe.mp e;rw[if_neg e] at q ha;refine CI ?_;refine AN ?_;refine AX ?_;refine Cc ?_;refine BG ?_;refine A3 ?_;refine Ad rfl ?_;refine Cq ?_;refine F5 hs (by decide +kernel) ?_;refine Av ?_;refine Er (λe=>?_) (λe=>?_)
  ·have e:=beq_iff_eq.mp e;rw[if_pos e] at q ha;refine Cz ?_;refine AZ ?_;refine AR (a:=[d,.int 0,.int l]) rfl ?_;refine AR (DO ha.1) ?_;exact⟨_,_,rfl,q⟩
  ·have e:=AAe.mp e;rw[if_neg e] at q ha;refine CI ?_;refine AN ?_;refine Cz ?_;refine AZ ?_;refine AR (a:=[d]) rfl ?_;refine AR (Et ha.1 (Rl ha.2)) ?_;exact⟨_,_,rfl,q⟩
noncomputable def Hv(l:Int):List Str->List D->Bool
 |p::ps,d::ds=>Ce l p d&&Hv l ps ds
 |_,_=>true
noncomputable def MY:List Str->List D->Bool
 |p::ps,d::ds=>Bo p d&&MY ps ds
 |_,_=>true
noncomputable def prt(w:Str):Option (List Str):=(tab_PARTS.find? (·.1==w)).map (·.2)
theorem VB(w:Str):BL w=(prt w).map λps=>.tup (ps.map D.str):=by
 unfold BL KP prt;cases tab_PARTS.find? (·.1==w)<;>rfl
theorem YW:∀t∈tab_PARTS,t.2.length<=2/\∀p∈t.2,p∈IF:=by decide +kernel
theorem WJ{ps:List Str}(h:prt w=some ps):ps.length<=2/\∀p∈ps,p∈IF:=by
 unfold prt at h;rw[Option.map_eq_some_iff] at h;obtain⟨t,ht,rfl⟩:=h;exact YW t (List.mem_of_find?_eq_some ht)
noncomputable def Na(l:Int)(r:List D):D->Bool
 | .str x=>(match prt x with|some ps=>decide (r.length=ps.length)&&Hv l ps r|none=>false)
 |_=>false
noncomputable def Ju(l:Int):D->Bool
 | .tup (w::r)=>decide (r.length<=2)&&Na l r w
 |_=>false
noncomputable def QU(r:List D):D->Bool
 | .str x=>(match prt x with|some ps=>!decide (r.length=ps.length)||MY ps r|none=>true)
 |w=>Bd w
noncomputable def OL:D->Bool
 | .tup (w::r)=>!decide (r.length<=2)||QU r w
 |d=>Bd d
theorem Pd(h:OL d=true):Bd d=true:=by
 cases d with
 |tup ds=>rfl
 |_=>exact h
theorem NO(ha:OL d=true)(h1:Ju l d=true->QX (.inl .non) μ)(h2:Ju l d=false->QX (.inr nom) μ):WP (K4.f_check_formX [d,.int l]) μ QX:=by
 unfold K4.f_check_formX;refine Dh rfl ?_;unfold K4.m_check_formX;wtm_at "a";refine AR (Co (a:=1) (b:=3) (Pd ha)) ?_;wtm_at "a";refine wx_need (λe1=>?_) (λe1=>?_)
 case refine_2=>
  wtm_at "a";refine h2 ?_;unfold Ju;split
  ·next w r=>
   have:¬r.length<=2:=by
    unfold Db at e1;simp only[Bool.and_eq_false_iff,decide_eq_false_iff_not,AAI] at e1;omega
   rw[AAO this,Bool.false_and]
  ·rfl
 cases d with
 |tup ds=>cases ds with
  |nil=>exact absurd e1 (by decide)
  |cons w r=>
   have hr:r.length<=2:=by
    unfold Db at e1;simp only[Bool.and_eq_true,decide_eq_true_eq,AAI] at e1;omega
   have ha:(!decide (r.length<=2)||QU r w)=true:=ha;rw[AAP hr] at ha;have ha:QU r w=true:=ha;have fb:Ju l (.tup (w::r))=Na l r w:=by
    show (decide (r.length<=2)&&Na l r w)=_;rw[AAP hr,Bool.true_and]
   rw[fb] at h1 h2;cases w with
   |str x=>
    have ha:(match prt x with|some ps=>!decide (r.length=ps.length)||MY ps r|none=>true)=true:=ha;have wb:Na l r (.str x)=(match prt x with|some ps=>decide (r.length=ps.length)&&Hv l ps r|none=>false):=rfl;rw[wb] at h1 h2;refine AN ?_;refine AX ?_;refine wx_exprX ?_;refine wx_dispX ?_;refine Ab ?_;refine EY ?_;refine AR (a:=.bl true) (by
     refine(A4 (ds:=[.str x,.ty "str"]) (μ1:=μ) (Aw (μ1:=μ) (BK (x:=.tup (.str x::r)) (y:=.int 0) (μ1:=μ) (μ2:=μ) rfl rfl (F0 (K3.at0 _ _))) rfl) rfl)) ?_
    refine Dp ?_;refine QH ?_;refine A3 ?_;refine Ad rfl ?_;refine Cq ?_;refine EO (K3.at0 _ _) ?_;refine AR (a:=.bl (BL x).isSome) rfl ?_;rw[VB];cases hp:prt x with
    |none=>
     rw[hp] at h2;wtm_at "a";refine wx_need (λe=>nomatch e) (λ_=>?_);wtm_at "a";exact h2 rfl
    |some ps=>
     rw[hp] at h1 h2 ha;obtain⟨pl,pw⟩:=WJ hp;have hg:MA BL (.str x) μ=some (.tup (ps.map D.str),μ):=by
      show (BL x).map _=_;rw[VB,hp];rfl
     wtm_at "a";refine wx_need (λ_=>?_) (λe=>nomatch e);refine AN ?_;refine AX ?_;refine A2 ?_;refine QH ?_;refine A3 ?_;refine Ad rfl ?_;refine Cq ?_;refine EO (K3.at0 _ _) ?_;refine AR hg ?_;refine AN ?_;refine AX ?_;refine wx_exprX ?_;refine wx_dispX ?_;refine Ab ?_;refine A3 ?_;refine AZ ?_;refine AR (a:=[.tup (.str x::r)]) rfl ?_;refine Ff ?_;refine A3 ?_;refine Cq ?_;refine AZ ?_;refine AR (a:=[.tup (ps.map D.str)]) rfl ?_;refine Ff ?_;refine NZ ?_;refine F6 ?_;by_cases hl:r.length=ps.length
     ·rw[beq_iff_eq.mpr (show (((D.str x::r).length:Nat):Int)=1+((ps.map D.str).length:Nat) from by simp;omega)];have ha:(!decide (r.length=ps.length)||MY ps r)=true:=ha;rw[AAP hl] at ha;have ha:MY ps r=true:=ha;have zb:(match some ps with|some ps=>decide (r.length=ps.length)&&Hv l ps r|none=>false)=Hv l ps r:=by
       show (decide (r.length=ps.length)&&Hv l ps r)=_;rw[AAP hl,Bool.true_and]
      rw[zb] at h1 h2;wtm_at "a";refine wx_need (λ_=>?_) (λe=>nomatch e);refine AN ?_;refine IC ?_;refine VU ?_;refine Ab ?_;refine Ad rfl ?_;refine Ab ?_;refine QI ?_;refine Ad rfl ?_;refine NV ?_;refine Cq ?_;refine Nb ?_;refine Jc ?_;refine DG 1 rfl (by simp) ?_;refine Bl ?_;refine⟨_,_,rfl,by simp[hl],?_⟩;refine DZ (I:=λrest τ ν=>ν=μ/\∃(qs:List Str) (es:List D) (o3 o4:Option D),rest=Gv (qs.map D.str) es/\Hv l ps r=Hv l qs es/\MY qs es=true/\(∀p∈qs,p∈IF)/\τ=[some (.tup (.str x::r)),some (.int l),some (.tup (ps.map D.str)),o3,o4]) ?_ ?_ ⟨rfl,ps,r,none,none,rfl,rfl,ha,pw,rfl⟩
      ·rintro y ys τ ν ⟨rfl,qs,es,o3,o4,er,ez,hz,hw,rfl⟩
       match qs,es,er,ez,hz,hw with
       |p::qs,e::es,er,ez,hz,hw=>
        obtain⟨rfl,rfl⟩:=List.cons.inj er;have hz:(Bo p e&&MY qs es)=true:=hz;have ez:Hv l ps r=(Ce l p e&&Hv l qs es):=ez;rw[Bool.and_eq_true] at hz;have hp:=hw p (by simp);obtain⟨s1,s2,s3⟩:=Jd p hp;refine ID ?_;refine wx_exprX ?_;refine wx_dispX ?_;refine Ab ?_;refine AZ ?_;refine AR (a:=[.str p,e,.int l]) rfl ?_;refine Sx hp hz.1 ?_;refine Ab ?_;refine AR (ON (v:=p) rfl (by rw[szl];decide +kernel) s2 s3) ?_;refine Bl ?_;refine wx_need (λe5=>?_) (λe5=>?_)
        ·refine wxk_l ?_;refine Ci ?_;exact⟨rfl,qs,es,_,_,rfl,by rw[ez,e5,Bool.true_and],hz.2,λq hq=>hw q (by simp[hq]),rfl⟩
        ·refine wxk_r ?_;refine Gw ?_;exact h2 (by rw[ez,e5,Bool.false_and])
       |[],_,er,_,_,_=>cases er
       |_::_,[],er,_,_,_=>cases er
      ·rintro τ ν ⟨rfl,qs,es,o3,o4,er,ez,hz,hw,rfl⟩;refine wxk_next ?_;refine h1 ?_;rw[ez]
       match qs,es,er with
       |[],_,_=>rfl
       |_::_,[],_=>rfl
       |_::_,_::_,er=>cases er
     ·rw[AAe.mpr (show (((D.str x::r).length:Nat):Int)≠1+((ps.map D.str).length:Nat) from by simp;omega)];wtm_at "a";refine wx_need (λe=>nomatch e) (λ_=>?_);wtm_at "a";refine h2 ?_;show (decide (r.length=ps.length)&&Hv l ps r)=false;rw[AAO hl,Bool.false_and]
   |non|bl _|int _|tup _|lst _=>
    wtm_at "a";refine EO (K3.at0 _ _) ?_;wtm_at "a";refine AR (a:=.bl false) (by kernel_rfl) ?_;wtm_at "a";refine wx_need (λe=>nomatch e) (λ_=>?_);wtm_at "a";exact h2 rfl
   |_=>cases ha
 |_=>cases e1
end
end K4
namespace K4
open PySem L2 Mi K1 Xc
open K3 (Db BS Cf BP Fx By NmP nom Co DO Et AR szl)
theorem N3{w:Str}:D3 (.str w)=decide (w∈pairWords):=by
 unfold D3;by_cases h:w∈pairWords
 ·rw[AAP h,List.any_eq_true];exact⟨.str w,AAM.mpr ⟨w,h,rfl⟩,by simp⟩
 ·rw[AAO h,List.any_eq_false];intro z hz;obtain⟨y,hy,rfl⟩:=AAM.mp hz;rw[decide_eq_true_eq];intro e;cases e;exact h hy
theorem Rk{x:Str}(h:GoodName x):nmB (.str x)=true:=by
 show (Cf x||_)=true;rw[BP h];rfl
theorem okN:PyData.strOk ("num" : Str)=true:=by decide +kernel
theorem okV:PyData.strOk ("var" : Str)=true:=by decide +kernel
theorem okO:PyData.strOk ("not" : Str)=true:=by decide +kernel
theorem Xi(e:Ex):Bd e.toD=true:=by cases e<;>rfl
theorem Ul:∀(k:Nat) (e:Ex),e.Ok k->Bs k e.toD=true/\DY k e.toD=true
 |0,_,h=>h.elim
 |k+1,.num i,h=>by
  have h:0<=i/\i<=9:=h;refine⟨?_,?_⟩
  ·show (decide ((0:Int)<=i)&&decide (i<=9))=true;rw[AAP h.1,AAP h.2];rfl
  ·show (true&&(PyData.strOk ("num" : Str)&&true))=true;rw[okN];rfl
 |k+1,.var x,h=>by
  have h:GoodName x:=h;refine⟨BP h,?_⟩;show (true&&(PyData.strOk ("var" : Str)&&(Bd (.str x)&&nmB (.str x))))=true;rw[Rk h,okV];rfl
 |k+1,.neg e,h=>by
  have ih:=Ul k e h;refine⟨?_,?_⟩
  ·show (decide (("not" : Str) = "not")&&Bs k e.toD)=true;rw[ih.1];rfl
  ·show (true&&(PyData.strOk ("not" : Str)&&DY k e.toD))=true;rw[ih.2,okO];rfl
 |k+1,.pair w a b,h=>by
  have i1:=Ul k a h.2.1;have i2:=Ul k b h.2.2;have hp:D3 (.str w)=true:=by rw[N3,AAP h.1]
  refine⟨?_,?_⟩
  ·show (if D3 (.str w)=true then Bs k a.toD&&Bs k b.toD else _)=true;rw[if_pos hp,i1.1,i2.1];rfl
  ·show (Bd (.str w)&&(if D3 (.str w)=true then DY k a.toD&&DY k b.toD else _))=true;rw[if_pos hp,i1.2,i2.2];rfl
theorem FC:∀(k:Nat) (e:Ex),e.Ok k->∀x∈e.vars,GoodName x
 |0,_,h=>h.elim
 |_+1,.num _,_=>λx hx=>nomatch hx
 |_+1,.var y,h=>λx hx=>by
  have:x=y:=by simpa[Ex.vars] using hx
  subst this;exact h
 |k+1,.neg e,h=>FC k e h
 |k+1,.pair _ a b,h=>λx hx=>(AAK.mp hx).elim (FC k a h.2.1 x) (FC k b h.2.2 x)
theorem Qp{l:Int}{r:Rw}(h:r.Form l):∀x∈r.vars,GoodName x:=by
 cases r with
 |put bx e=>exact FC 5 e h.2
 |get y bx=>
  intro x hx;have z:x=y:=by simpa[Rw.vars] using hx
  rw[z];exact h.1
 |letr y e=>
  intro x hx;rcases AAJ.mp hx with z|z
  ·rw[z];exact h.1
  ·exact FC 5 e h.2 x z
 | «unless» e t=>exact FC 5 e h.1
 |jump t=>intro x hx;cases hx
 |tell e=>exact FC 5 e h
 |done=>intro x hx;cases hx
theorem p5(l:Int)(e:Ex)(h:e.Ok 5):Ce l "expression" e.toD=true/\Bo "expression" e.toD=true:=by
 have:=Ul 5 e h;refine⟨this.1,?_⟩;show (Bd e.toD&&DY 5 e.toD)=true;rw[Xi,this.2];rfl
theorem pT(l t:Int)(h1:0<=t)(h2:t<=l):Ce l "target" (.int t)=true/\Bo "target" (.int t)=true:=by
 refine⟨?_,rfl⟩;show (decide (0<=t)&&decide (t<=l))=true;rw[AAP h1,AAP h2];rfl
theorem pV(l:Int)(x:Str)(h:GoodName x):Ce l "variable" (.str x)=true/\Bo "variable" (.str x)=true:=⟨BP h,by show (true&&nmB (.str x))=true;rw[Rk h];rfl⟩
theorem pX(l:Int)(x:Str)(h:GoodName x):Ce l "box" (.str x)=true/\Bo "box" (.str x)=true:=⟨BP h,by show (true&&nmB (.str x))=true;rw[Rk h];rfl⟩
theorem Qq{l:Int}{r:Rw}(h:r.Form l):Ju l r.toD=true/\OL r.toD=true:=by
 cases r with
 |put bx e=>
  have a:=pX l bx h.1;have b:=p5 l e h.2;exact⟨by show (Ce l "box" (.str bx)&&(Ce l "expression" e.toD&&true))=true;rw[a.1,b.1];rfl,by show (false||(Bo "box" (.str bx)&&(Bo "expression" e.toD&&true)))=true;rw[a.2,b.2];rfl⟩
 |get x bx=>
  have a:=pV l x h.1;have b:=pX l bx h.2;exact⟨by show (Ce l "variable" (.str x)&&(Ce l "box" (.str bx)&&true))=true;rw[a.1,b.1];rfl,by show (false||(Bo "variable" (.str x)&&(Bo "box" (.str bx)&&true)))=true;rw[a.2,b.2];rfl⟩
 |letr x e=>
  have a:=pV l x h.1;have b:=p5 l e h.2;exact⟨by show (Ce l "variable" (.str x)&&(Ce l "expression" e.toD&&true))=true;rw[a.1,b.1];rfl,by show (false||(Bo "variable" (.str x)&&(Bo "expression" e.toD&&true)))=true;rw[a.2,b.2];rfl⟩
 | «unless» e t=>
  have a:=p5 l e h.1;have b:=pT l t h.2.1 h.2.2;exact⟨by show (Ce l "expression" e.toD&&(Ce l "target" (.int t)&&true))=true;rw[a.1,b.1];rfl,by show (false||(Bo "expression" e.toD&&(Bo "target" (.int t)&&true)))=true;rw[a.2,b.2];rfl⟩
 |jump t=>
  have b:=pT l t h.1 h.2;exact⟨by show (Ce l "target" (.int t)&&true)=true;rw[b.1];rfl,by show (false||(Bo "target" (.int t)&&true))=true;rw[b.2];rfl⟩
 |tell e=>
  have a:=p5 l e h;exact⟨by show (Ce l "expression" e.toD&&true)=true;rw[a.1];rfl,by show (false||(Bo "expression" e.toD&&true))=true;rw[a.2];rfl⟩
 |done=>exact⟨rfl,rfl⟩
noncomputable def SO(wr:Bool)(w:Str):Bool:=if wr then !decide (w = "tell") else !decide (w = "done")
noncomputable def FJ(wr:Bool)(x:Str):Bool:=!decide (x∈(["not", "and", "or"]:List Str))&&(wr||!decide (x = "v"))
noncomputable def On:Rw->Bool
 | .get x _=>!decide (x = "v")
 | .letr x _=>!decide (x = "v")
 |_=>true
noncomputable def Vi(L:List (Key×D))(nm:Str):Rw->Bool
 | .put bx _=>decide ((Bv L (.inr bx)).getD .non=.str nm)
 | .get _ bx=>(Bv L (.inr bx)).isSome
 |_=>true
noncomputable def Kc(L:List (Key×D))(nm:Str)(wr:Bool)(r:Rw):Bool:=SO wr r.word&&((r.vars.all (FJ wr)&&On r)&&Vi L nm r)
theorem TD(r:Rw):PyData.strOk r.word=true:=by cases r<;>(simp only[Rw.word];decide +kernel)
section
variable{μ:Mh}{QX:Dx->Mh->Prop}{d b:D}{w:Str}{τ:Sl}{l:Int}{wr:Bool}{r:Rw}
theorem Xw{xs:List Str}{x:Str}:G1 true (.str x) (sl xs) μ=some (.bl (!decide (x∈xs)),μ):=by
 show JB true (.str x) (.tup (xs.map D.str)) μ=_;rw[Ks (ds:=[]) rfl];rfl
theorem neD{x y:Str}:(!(x==y))=!decide (x=y):=by
 by_cases h:x=y
 ·rw[beq_iff_eq.mpr h,AAP h]
 ·rw[AAe.mpr h,AAO h]
theorem Od(hw:PyData.strOk w=true)(h1:SO wr w=true->QX (.inl .non) μ)(h2:SO wr w=false->QX (.inr nom) μ):WP (K4.f_check_endingX [.str w,.bl wr]) μ QX:=by
 unfold K4.f_check_endingX;refine Dh rfl ?_;unfold K4.m_check_endingX;cases wr with
 |true=>
  wtm_at "a";refine Hh hw (by decide +kernel) ?_;rw[neD];wtm_at "a";refine wx_need (λe=>?_) (λe=>?_)
  ·wtm_at "a";exact h1 e
  ·wtm_at "a";exact h2 e
 |false=>
  wtm_at "a";refine Hh hw (by decide +kernel) ?_;rw[neD];wtm_at "a";refine wx_need (λe=>?_) (λe=>?_)
  ·wtm_at "a";exact h1 e
  ·wtm_at "a";exact h2 e
theorem ix0(r:Rw):AT r.toD (.int 0) μ=some (.str r.word,μ):=by cases r<;>rfl
theorem Su(hr:r.Form l)(h1:(r.vars.all (FJ wr)&&On r)=true->QX (.inl .non) μ)(h2:(r.vars.all (FJ wr)&&On r)=false->QX (.inr nom) μ):WP (K4.f_check_variablesX [r.toD,.bl wr]) μ QX:=by
 have gv:=Qp hr;unfold K4.f_check_variablesX;refine Dh rfl ?_;unfold K4.m_check_variablesX;wtm_at "a";refine AR (IJ hr) ?_;wtm_at "a";refine DZ (I:=λrest τ ν=>ν=μ/\∃(done:List Str) (ys:List Str) (o:Option D),r.vars=done++ys/\done.all (FJ wr)=true/\rest=ys.map D.str/\τ=[some r.toD,some (.bl wr),o]) ?_ ?_ ⟨rfl,[],r.vars,none,rfl,rfl,rfl,rfl⟩
 ·rintro x xs τ ν ⟨rfl,done,ys,o,e,hd,er,rfl⟩;cases ys with
  |nil=>cases er
  |cons y ys=>
   obtain⟨rfl,rfl⟩:=List.cons.inj er;have hy:=(gv y (by rw[e];simp)).ok;have bad:FJ wr y=false->QX (.inr nom) ν:=λz=>h2 (by rw[e,List.all_append,List.all_cons,z];simp);wtm_at "a";refine AR (Xw (xs:=["not", "and", "or"])) ?_;wtm_at "a";refine wx_need (λe2=>?_) (λe2=>?_)
   case refine_2=>wtm_at "a";exact bad (by unfold FJ;rw[e2,Bool.false_and])
   refine wxk_l ?_;refine AN ?_;refine wx_exprX ?_;refine wx_dispX ?_;refine Ab ?_;refine NP ?_;refine Ad rfl ?_;have next:FJ wr y=true->∃(done:List Str) (ys':List Str) (o:Option D),r.vars=done++ys'/\done.all (FJ wr)=true/\ys.map D.str=ys'.map D.str/\[some r.toD,some (.bl wr),some (.str y)]=[some r.toD,some (.bl wr),o]:=λz=>⟨done++[y],ys,_,by rw[e];simp,by rw[List.all_append,hd];simp[z],rfl,rfl⟩
   cases wr with
   |true=>
    refine LP ?_;wtm_at "a";refine wx_need (λe3=>?_) (λe3=>nomatch e3);wtm_at "a";exact⟨rfl,next (by unfold FJ;rw[e2];rfl)⟩
   |false=>
    refine LQ ?_;refine A3 ?_;refine Ad rfl ?_;refine Cq ?_;refine Hh hy (by decide +kernel) ?_;rw[neD];wtm_at "a";refine wx_need (λe3=>?_) (λe3=>?_)
    ·wtm_at "a";exact⟨rfl,next (by unfold FJ;rw[e2,e3];rfl)⟩
    ·wtm_at "a";exact bad (by unfold FJ;rw[e2,e3];rfl)
 ·rintro τ ν ⟨rfl,done,ys,o,e,hd,er,rfl⟩;have:ys=[]:=by cases ys with
   |nil=>rfl
   |cons _ _=>cases er
  subst this;rw[AAZ] at e;rw[e,hd,Bool.true_and] at h1 h2;refine AN ?_;refine Cc ?_;refine BG ?_;refine A3 ?_;refine A3 ?_;refine Ad rfl ?_;refine Cq ?_;refine AR (ix0 r) ?_;refine AZ ?_;refine AR (a:=[.str "get",.str "let"]) rfl ?_;refine GQ (AAE rfl) ?_;have go:∀{x:Str},GoodName x->(∀ν:Mh,AT r.toD (.int 1) ν=some (.str x,ν))->On r=!decide (x = "v")->r.word∈(["get", "let"]:List Str)->WP (G1 false (.str r.word) (.tup [.str "get",.str "let"])) ν λd μ1=>∃b,d=.bl b/\ifK (Ak (Al K4.f_needX (AB (mOp Dd (mOp AT (AD 0) (mC (.int 1))) (mC (.str "v"))) (AB (mC (.str "the variable v is set by no row")) AH)))) BT [some r.toD,some (.bl wr),o] (Ur QX) b μ1:=by
   intro x gx ex es hw;refine AR (VI (xs:=["get", "let"]) hw) ?_;refine Av ?_;refine EG ?_;refine wx_exprX ?_;refine wx_dispX ?_;refine Ab ?_;refine A3 ?_;refine A3 ?_;refine Ad rfl ?_;refine Cq ?_;refine AR (ex ν) ?_;refine Cq ?_;refine Hh gx.ok (by decide +kernel) ?_;rw[neD];wtm_at "a";refine wx_need (λe3=>?_) (λe3=>?_)
   ·wtm_at "a";exact h1 (by rw[es];exact e3)
   ·wtm_at "a";exact h2 (by rw[es];exact e3)
  cases r with
  |get x bx=>exact go (x:=x) hr.1 (λ_=>rfl) rfl (by simp only[Rw.word];decide)
  |letr x e=>exact go (x:=x) hr.1 (λ_=>rfl) rfl (by simp only[Rw.word];decide)
  |put _ _ | «unless» _ _|jump _|tell _|done=>
   refine AR (VJ (xs:=["get", "let"]) (by simp only[Rw.word];decide)) ?_;refine Av ?_;refine C0 ?_;refine CI ?_;exact h1 rfl
end
inductive RowIs (L:List (Key×D)) (nm:Str) (wr:Bool) (l:Int):D->Bool->Prop
 |no {d:D} (h1:OL d=true) (h2:Ju l d=false):RowIs L nm wr l d false
 |row {d:D} {b:Bool} (r:Rw) (ed:d=r.toD) (h:r.Form l) (e:Kc L nm wr r=b):RowIs L nm wr l d b
section
variable{μ:Mh}{QX:Dx->Mh->Prop}{d b:D}{p nm bx:Str}{τ:Sl}{wr:Bool}{r:Rw}{L:List (Key×D)}{n:Nat}
theorem Vc{mo mi:Sl->M D}(h1:mo τ μ=some (.ref n,μ))(h:μ[n]?=some (.dK L))(h2:mi τ μ=some (.str bx,μ)):Ko mo mi τ μ=some ((Bv L (.inr bx)).getD .non,μ):=by
 unfold Ko;rw[AQ h1,AQ (show K2 (.ref n) μ=some ((),μ) from by unfold K2;rw[AQ (HL h)];rfl),AQ h2];unfold SU;rw[AQ (HL h)];rfl
theorem Xy(h:μ[n]?=some (.dK L)):STq false (.str bx) (.ref n) μ=some (.bl (Bv L (.inr bx)).isSome,μ):=by
 unfold STq;rw[AQ (HL h)];rfl
def LOk(L:List (Key×D)):Prop:=∀bx z,Bv L (.inr bx)=some z->∃y,z=.str y/\PyData.strOk y=true
theorem Xx(hL:LOk L)(hn:PyData.strOk nm=true):BF ((Bv L (.inr bx)).getD .non) (.str nm) μ=some (.bl (decide ((Bv L (.inr bx)).getD .non=.str nm)),μ):=by
 have pz:Pz ((Bv L (.inr bx)).getD .non)/\dpt ((Bv L (.inr bx)).getD .non)<=64:=by
  cases h:Bv L (.inr bx) with
  |none=>exact⟨by simp[Pz],by simp[dpt]⟩
  |some z=>
   obtain⟨y,rfl,hy⟩:=hL bx z h;exact⟨by simp[Pz,hy],by simp[dpt]⟩
 obtain⟨e,he,z⟩:=LB (neg:=false) (μ:=μ) (a:=(Bv L (.inr bx)).getD .non) (b:=.str nm) pz.1 (by simp[Pz,hn]) pz.2 (by simp[dpt]);have:e=decide ((Bv L (.inr bx)).getD .non=.str nm):=by
  by_cases c:(Bv L (.inr bx)).getD .non=.str nm
  ·rw[AAP c];exact he.mpr c
  ·rw[AAO c];cases e with
   |false=>rfl
   |true=>exact absurd (he.mp rfl) c
 subst this;exact z
theorem P8{xs:List (D×Bool)}{wi:Int}(hn:μ[n]?=some (.dK L))(hL:LOk L)(hm:PyData.strOk nm=true)(hx:∀p∈xs,RowIs L nm wr xs.length p.1 p.2)(h1:xs.all (·.2)=true->QX (.inl .non) μ)(h2:xs.all (·.2)=false->QX (.inr nom) μ):WP (K4.f_check_rowsX [.tup [.str nm,.int wi,.tup (xs.map (·.1))],.bl wr,.ref n]) μ QX:=by
 unfold K4.f_check_rowsX;refine Dh rfl ?_;unfold K4.m_check_rowsX;wtm_at "a";refine DZ (I:=λrest τ ν=>ν=μ/\∃(done ys:List (D×Bool)) (o:Option D),xs=done++ys/\done.all (·.2)=true/\rest=ys.map (·.1)/\τ=[some (.tup [.str nm,.int wi,.tup (xs.map (·.1))]),some (.bl wr),some (.ref n),o]) ?_ ?_ ⟨rfl,[],xs,none,rfl,rfl,rfl,rfl⟩
 ·rintro x rest τ ν ⟨rfl,done,ys,o,e,hd,er,rfl⟩;cases ys with
  |nil=>cases er
  |cons y ys=>
   obtain⟨rfl,rfl⟩:=List.cons.inj er;obtain⟨d,c⟩:=y;have hy:=hx (d,c) (by rw[e];simp);have bad:c=false->QX (.inr nom) ν:=λz=>h2 (by rw[e,List.all_append,List.all_cons,z];simp);have next:∀{dd:D},c=true->(∃(done ys':List (D×Bool)) (o:Option D),xs=done++ys'/\done.all (·.2)=true/\ys.map (·.1)=ys'.map (·.1)/\[some (.tup [.str nm,.int wi,.tup (xs.map (·.1))]),some (.bl wr),some (.ref n),some dd]=[some (.tup [.str nm,.int wi,.tup (xs.map (·.1))]),some (.bl wr),some (.ref n),o]):=λ{dd} z=>⟨done++[(d,c)],ys,_,by rw[e];simp,by rw[List.all_append,hd];simp[z],rfl,rfl⟩
   refine EZ ?_;refine AX ?_;refine wx_exprX ?_;refine wx_dispX ?_;refine AR (a:=[d,.int xs.length]) (by
    refine Aw (μ1:=ν) rfl (Aw (ds:=[]) (μ1:=ν) (A4 (ds:=[.tup (xs.map (·.1))]) (μ1:=ν) rfl ?_) rfl);rw[Iw,AAG]) ?_
   rcases hy with ⟨f1,f2⟩|⟨r,ed,hf,eb⟩
   ·refine NO f1 (λz=>?_) (λ_=>?_)
    ·rw[f2] at z;cases z
    ·wtm_at "a";exact bad rfl
   ·have ed:d=r.toD:=ed;subst ed;have eb:Kc L nm wr r=c:=eb;obtain⟨f1,f2⟩:=Qq hf;refine NO f2 (λ_=>?_) (λz=>?_)
    case refine_2=>rw[f1] at z;cases z
    unfold Kc at eb;refine wxk_l ?_;refine AN ?_;refine AX ?_;refine wx_exprX ?_;refine wx_dispX ?_;refine AR (a:=[.str r.word,.bl wr]) (Aw (μ1:=ν) (BK (x:=r.toD) (y:=.int 0) (μ1:=ν) (μ2:=ν) rfl rfl (ix0 r)) rfl) ?_;refine Od (TD r) (λb1=>?_) (λb1=>?_)
    case refine_2=>
     wtm_at "a";exact bad (by rw[←eb,b1];rfl)
    refine wxk_l ?_;refine AN ?_;refine AX ?_;refine wx_exprX ?_;refine wx_dispX ?_;refine AR (a:=[r.toD,.bl wr]) rfl ?_;refine Su hf (λb2=>?_) (λb2=>?_)
    case refine_2=>
     wtm_at "a";exact bad (by rw[←eb,b2,Bool.false_and,Bool.and_false])
    rw[b1,b2,Bool.true_and,Bool.true_and] at eb;refine wxk_l ?_;refine AN ?_;cases r with
    |put bx e=>
     have eb:decide ((Bv L (.inr bx)).getD .non=.str nm)=c:=eb;refine AX ?_;refine Cc ?_;refine BG ?_;refine AR (a:=.bl true) (by kernel_rfl) ?_;refine Av ?_;refine EG ?_;refine wx_exprX ?_;refine wx_dispX ?_;refine Ab ?_;refine A3 ?_;refine AR (Vc (bx:=bx) rfl hn rfl) ?_;refine AR (a:=.str nm) rfl ?_;refine AR (Xx hL hm) ?_;wtm_at "a";refine wx_need (λb3=>?_) (λb3=>?_)
     ·refine wxk_l ?_;refine AN ?_;refine Cc ?_;refine BG ?_;refine AR (a:=.bl false) (by kernel_rfl) ?_;refine Av ?_;refine C0 ?_;refine CI ?_;refine Ci ?_;exact⟨rfl,next (by rw[←eb];exact b3)⟩
     ·wtm_at "a";exact bad (by rw[←eb];exact b3)
    |get x bx=>
     have eb:(Bv L (.inr bx)).isSome=c:=eb;refine AX ?_;refine Cc ?_;refine BG ?_;refine AR (a:=.bl false) (by kernel_rfl) ?_;refine Av ?_;refine C0 ?_;refine CI ?_;refine AN ?_;refine Cc ?_;refine BG ?_;refine AR (a:=.bl true) (by kernel_rfl) ?_;refine Av ?_;refine EG ?_;refine wx_exprX ?_;refine wx_dispX ?_;refine Ab ?_;refine A3 ?_;refine AR (a:=.str bx) rfl ?_;refine AR (a:=.ref n) rfl ?_;refine AR (Xy hn) ?_;wtm_at "a";refine wx_need (λb3=>?_) (λb3=>?_)
     ·refine wxk_l ?_;refine Ci ?_;exact⟨rfl,next (by rw[←eb];exact b3)⟩
     ·wtm_at "a";exact bad (by rw[←eb];exact b3)
    |letr _ _ | «unless» _ _|jump _|tell _|done=>
     have eb:true=c:=eb;refine AX ?_;refine Cc ?_;refine BG ?_;refine AR (a:=.bl false) (by kernel_rfl) ?_;refine Av ?_;refine C0 ?_;refine CI ?_;refine AN ?_;refine Cc ?_;refine BG ?_;refine AR (a:=.bl false) (by kernel_rfl) ?_;refine Av ?_;refine C0 ?_;refine CI ?_;refine Ci ?_;exact⟨rfl,next eb.symm⟩
 ·rintro τ ν ⟨rfl,done,ys,o,e,hd,er,rfl⟩;have:ys=[]:=by cases ys with
   |nil=>rfl
   |cons _ _=>cases er
  subst this;rw[AAZ] at e;exact h1 (by rw[e];exact hd)
end
end K4
namespace K4
open PySem L2 Mi K1 Xc
open K3 (Db BS Cf BP Fx By NmP nom Co DO Et AR szl ER IE Sr So U6 JM JC Em D7 FF Fp JD JZ Gb Sn Sm Rj JQ LJ VR NN)
structure Hx where
 nm:Str
 wi:Int
 xs:List (D×Bool)
def Hx.toD(h:Hx):D:=.tup [.str h.nm,.int h.wi,.tup (h.xs.map (·.1))]
structure ZN(kd:Str)(sz bg:Int)(bs:List Bx)(hs:List Hx):Prop where
 worth:HV kd sz bg
 boxes:∀b∈bs,GoodName b.nm/\HV b.kd b.sz b.bg
 most:bs.length<=6
 unlike:(bs.map Bx.nm).Nodup
 hands:∀h∈hs,GoodName h.nm/\0<=h.wi/\h.wi<=400/\h.xs.length<=60
 least:2<=hs.length
 mosth:hs.length<=4
 unlikeh:(hs.map Hx.nm).Nodup
 writers:∀b∈bs,b.wr∈hs.map Hx.nm
 rows:∀(i:Nat) (h:Hx),hs[i]?=some h->∀p∈h.xs,RowIs (bs.map kv) h.nm (i==0) h.xs.length p.1 p.2
theorem Y4{b:Hx}(h:GoodName b.nm/\0<=b.wi/\b.wi<=400/\b.xs.length<=60):FF b.toD=true:=by
 obtain⟨h0,h1,h2,h3⟩:=h;unfold Hx.toD;rw[Fp,show By (.str b.nm)=true from BP h0];show (true&&((decide (0<=b.wi)&&decide (b.wi<=400))&&(decide ((0:Int)<=((b.xs.map (·.1)).length:Int))&&decide (((b.xs.map (·.1)).length:Int)<=60))))=true;rw[AAG,AAP h1,AAP h2,AAP (by omega),AAP (by omega)];rfl
theorem Ri(bs:List Hx):(bs.map Hx.toD).map JZ=bs.map Hx.nm:=by rw[List.map_map];rfl
theorem Xj{b:Hx}(h:GoodName b.nm):U6 b.toD:=⟨rfl,λn k s e=>by
 unfold Hx.toD at e;cases e;exact⟨rfl,λx e=>by cases e;exact .inl h,rfl,rfl⟩⟩
theorem QW:∀{bs:List Bx} {k:Key} {z:D},Bv (bs.map kv) k=some z->∃b∈bs,z=.str b.wr
 |[],k,z,h=>by cases h
 |b::bs,k,z,h=>by
  unfold Bv at h;rw[AAX,List.find?_cons] at h;split at h
  ·cases h;exact⟨b,by simp,rfl⟩
  ·obtain⟨b',hb,e⟩:=QW (bs:=bs) (k:=k) (z:=z) h;exact⟨b',by simp[hb],e⟩
section
variable{kd:Str}{sz bg:Int}{bs:List Bx}{hs:List Hx}(h:ZN kd sz bg bs hs){μ:Mh}{QX:Dx->Mh->Prop}
include h in
theorem lok:LOk (bs.map kv):=λbx z e=>by
 obtain⟨b,hb,rfl⟩:=QW e;obtain⟨h',hh,ee⟩:=AAM.mp (h.writers b hb);exact⟨b.wr,rfl,by rw[←ee];exact(h.hands h' hh).1.ok⟩
include h in
theorem MH:JC (.tup (hs.map Hx.toD))=true:=by
 have ha:(hs.map Hx.toD).all FF=true:=by
  rw[List.all_eq_true];intro x hx;obtain⟨b,hb,rfl⟩:=AAM.mp hx;exact Y4 (h.hands b hb)
 rw[D7,ha,Ri,AAG,AAP h.least,AAP h.mosth,AAP h.unlikeh];rfl
include h in
theorem Sd:JM (.tup (bs.map Bx.toD))=true:=by
 rw[Em,Sm h.boxes,Rj,AAG,AAP h.most,AAP h.unlike];rfl
include h in
theorem F4(h1:(hs.all λh=>h.xs.all (·.2))=true->∀ν,QX (.inl .non) ν)(h2:(hs.all λh=>h.xs.all (·.2))=false->∀ν,QX (.inr nom) ν):WP (K4.f_check_makingX [.tup [.str kd,.int sz,.int bg,.tup (bs.map Bx.toD),.tup (hs.map Hx.toD)]]) μ QX:=by
 unfold K4.f_check_makingX;refine Dh rfl ?_;unfold K4.m_check_makingX;wtm_at "a";refine AR (Co (a:=5) (b:=5) rfl) ?_;wtm_at "a";refine wx_need (λ_=>?_) (λe1=>nomatch e1);wtm_at "a";refine K3.wx_worths rfl rfl rfl (λ_=>?_) (λe2=>by rw[IE h.worth] at e2;cases e2);wtm_at "a";refine K3.wx_boxes (Sn λb hb=>(h.boxes b hb).1) (λ_=>?_) (λe2=>by rw[Sd h] at e2;cases e2);wtm_at "a";refine K3.wx_hands (VR λx hx=>by obtain⟨b,hb,rfl⟩:=AAM.mp hx;exact Xj (h.hands b hb).1) (λ_=>?_) (λe2=>by rw[MH h] at e2;cases e2);have e4:=MH h;rw[D7,Bool.and_eq_true,Bool.and_eq_true,Bool.and_eq_true,decide_eq_true_eq,decide_eq_true_eq] at e4;refine AN ?_;refine AX ?_;refine A2 ?_;refine AR (Gb JD e4.2.1 (by omega) rfl) ?_;rw[Ri];refine AN ?_;refine AX ?_;refine A2 ?_;refine NN ?_;refine AN ?_;refine AX ?_;refine IC ?_;refine AR (EU (x:=.tup (bs.map Bx.toD)) (ds:=bs.map Bx.toD) rfl rfl) ?_;refine DZ (I:=λrest τ ν=>∃(done ys:List Bx) (o:Option D),bs=done++ys/\rest=ys.map Bx.toD/\ν=μ++[.dK (done.map kv)]/\τ=[some (.tup [.str kd,.int sz,.int bg,.tup (bs.map Bx.toD),.tup (hs.map Hx.toD)]),some (.lst ((hs.map Hx.nm).map D.str)),some (.ref μ.length),o,none,none]) ?_ ?_ ⟨[],bs,none,rfl,rfl,rfl,rfl⟩
 ·rintro x xs τ ν ⟨done,ys,o,e,er,rfl,rfl⟩;cases ys with
  |nil=>cases er
  |cons b ys=>
   obtain⟨rfl,rfl⟩:=List.cons.inj er;have hb:b∈bs:=by rw[e];simp
   have hn:b.nm∉done.map Bx.nm:=by
    have hd:=h.unlike;rw[e,AAY,List.nodup_append] at hd;intro z;exact hd.2.2 _ z b.nm (by simp) rfl
   refine EZ ?_;refine AX ?_;refine wx_exprX ?_;refine wx_dispX ?_;refine Ab ?_;refine A3 ?_;refine AR (a:=.str b.wr) rfl ?_;refine Ad rfl ?_;refine Mb (xs:=hs.map Hx.nm) rfl ?_ rfl;rw[show ((hs.map Hx.nm).map D.str).any (λz=>decide (z=.str b.wr))=true from by
    rw[List.any_eq_true];exact⟨.str b.wr,AAM.mpr ⟨_,h.writers b hb,rfl⟩,by simp⟩]
   wtm_at "a";refine wx_need (λ_=>?_) (λe=>nomatch e);refine wxk_l ?_;refine AN ?_;refine QG ?_;refine AR (a:=.str b.wr) rfl ?_;refine Ad rfl ?_;refine AR (a:=.str b.nm) rfl ?_;refine⟨μ.length,done.map kv,.inr b.nm,rfl,List.getElem?_concat_length,rfl,?_,?_⟩
   ·have:=h.most;rw[e,AAH,AAI] at this;rw[AAG];omega
   ·refine Ci ?_;refine⟨done++[b],ys,_,by rw[e];simp,rfl,?_,rfl⟩;rw[K1.Tp hn];simp
 ·rintro τ ν ⟨done,ys,o,e,er,rfl,rfl⟩;have:ys=[]:=by cases ys with
   |nil=>rfl
   |cons _ _=>cases er
  subst this;rw[AAZ] at e;subst e;refine AN ?_;refine IC ?_;refine AR (a:=D9 0 (hs.map Hx.toD)) rfl ?_;refine DZ (I:=λrest τ ν=>ν=μ++[.dK (bs.map kv)]/\∃(done ys:List Hx) (o4 o5:Option D),hs=done++ys/\(done.all λh=>h.xs.all (·.2))=true/\rest=D9 done.length (ys.map Hx.toD)/\τ=[some (.tup [.str kd,.int sz,.int bg,.tup (bs.map Bx.toD),.tup (hs.map Hx.toD)]),some (.lst ((hs.map Hx.nm).map D.str)),some (.ref μ.length),o,o4,o5]) ?_ ?_ ⟨rfl,[],hs,none,none,rfl,rfl,rfl,rfl⟩
  ·rintro x xs τ ν ⟨rfl,done,ys,o4,o5,e,hd,er,rfl⟩;cases ys with
   |nil=>cases er
   |cons y ys=>
    obtain⟨rfl,rfl⟩:=List.cons.inj er;have hy:hs[done.length]?=some y:=by rw[e,AAS (AAF _)];simp
    have hr:=h.rows _ y hy;have hm:=(h.hands y (by rw[e];simp)).1.ok;have hk:(((done.length:Nat):Int)==0)=(done.length==0):=by
     by_cases z:done.length=0
     ·rw[z];rfl
     ·rw[AAe.mpr z,AAe.mpr (by omega)]
    refine ID ?_;refine wx_exprX ?_;refine wx_dispX ?_;refine AR (a:=[y.toD,.bl (done.length==0),.ref μ.length]) (by
     refine Aw (x:=y.toD) (μ1:=μ++[.dK (bs.map kv)]) rfl (Aw (μ1:=μ++[.dK (bs.map kv)]) (BK (x:=.int done.length) (y:=.int 0) (μ1:=μ++[.dK (bs.map kv)]) (μ2:=μ++[.dK (bs.map kv)]) rfl rfl ?_) rfl);rw[Ry,hk]) ?_
    refine P8 List.getElem?_concat_length (lok h) hm hr (λb1=>?_) (λb1=>?_)
    ·refine wxk_l ?_;refine Ci ?_;exact⟨rfl,done++[y],ys,_,_,by rw[e];simp,by rw[List.all_append,hd];simp[b1],by rw[AAH];rfl,rfl⟩
    ·refine wxk_r ?_;refine Gw ?_;exact h2 (by rw[e,List.all_append,List.all_cons,b1];simp) _
  ·rintro τ ν ⟨rfl,done,ys,o4,o5,e,hd,er,rfl⟩;have:ys=[]:=by cases ys with
    |nil=>rfl
    |cons _ _=>cases er
   subst this;rw[AAZ] at e;refine wxk_next ?_;exact h1 (by rw[e];exact hd) _
end
end K4
namespace K4
open PySem L2 Mi K1 Xc
open K3 (Db BS Cf BP Fx By NmP nom szl)
section
variable{L:List (Key×D)}{nm:Str}{wr:Bool}{l:Int}{r:Rw}{d:D}
theorem Ta(h:r.Ok L nm wr l):Kc L nm wr r=true:=by
 obtain⟨hf,he,hv,hs,ht⟩:=h;have e1:SO wr r.word=true:=by
  cases r with
  |tell e=>
   have he:wr=false:=he;subst he;simp only[Rw.word]
   decide
  |done=>
   have he:wr=true:=he;subst he
   decide
  |put _ _|get _ _|letr _ _ | «unless» _ _|jump _=>cases wr<;>(simp only[Rw.word];decide)
 have e2:r.vars.all (FJ wr)=true:=by
  rw[List.all_eq_true];intro x hx;obtain⟨_,h1,h2⟩:=hv x hx;unfold FJ;rw[AAO h1];rcases h2 with rfl|h2
  ·rfl
  ·rw[AAO h2];cases wr<;>rfl
 have e3:On r=true:=by
  cases r with
  |get x bx=>show (!decide (x = "v"))=true;rw[AAO (show x ≠ "v" from hs)];rfl
  |letr x e=>show (!decide (x = "v"))=true;rw[AAO (show x ≠ "v" from hs)];rfl
  |_=>rfl
 have e4:Vi L nm r=true:=by
  cases r with
  |put bx e=>
   have ht:Bv L (.inr bx)=some (.str nm):=ht;show decide ((Bv L (.inr bx)).getD .non=.str nm)=true;rw[ht];exact AAP rfl
  |get x bx=>exact ht
  |_=>rfl
 unfold Kc;rw[e1,e2,e3,e4];rfl
theorem RowIs.good(h:r.Ok L nm wr l):RowIs L nm wr l r.toD true:=.row r rfl h.form (Ta h)
theorem RowIs.vars(hf:r.Form l){x:Str}(hx:x∈r.vars)(hb:FJ wr x=false):RowIs L nm wr l r.toD false:=.row r rfl hf (by
 have:r.vars.all (FJ wr)=false:=by
  rw[List.all_eq_false];exact⟨x,hx,by rw[hb];decide⟩
 unfold Kc;rw[this,Bool.false_and,Bool.false_and,Bool.and_false])
theorem RowIs.ends(hf:r.Form l)(hb:SO wr r.word=false):RowIs L nm wr l r.toD false:=.row r rfl hf (by unfold Kc;rw[hb,Bool.false_and])
theorem RowIs.set(hf:r.Form l)(hb:On r=false):RowIs L nm wr l r.toD false:=.row r rfl hf (by unfold Kc;rw[hb,Bool.and_false,Bool.false_and,Bool.and_false])
theorem RowIs.tab(hf:r.Form l)(hb:Vi L nm r=false):RowIs L nm wr l r.toD false:=.row r rfl hf (by unfold Kc;rw[hb,Bool.and_false,Bool.and_false])
noncomputable abbrev one:D:=.tup [.str "num",.int 1]
noncomputable def oneE:Ex:=.num 1
theorem FV(k:Nat):oneE.Ok (k+1):=by show (0:Int)<=1/\(1:Int)<=9;decide
theorem gx(x:Str)(h:Cf x=true):GoodName x:=Gh h
def BadE(d:D):Prop:=(DY 5 d=true/\Bs 5 d=false/\Bd d=true)∨∃e:Ex,d=e.toD/\e.Ok 5/\∃x∈e.vars,x∈(["not", "and", "or"]:List Str)
theorem G5{x:Str}(h:x∈(["not", "and", "or"]:List Str)):FJ wr x=false:=by unfold FJ;rw[AAP h];rfl
theorem Ft(h1:DY 5 d=true)(h3:Bd d=true):Bo "expression" d=true:=by show (Bd d&&DY 5 d)=true;rw[h1,h3];rfl
theorem BadE.letr(h:BadE d):RowIs L nm wr l (.tup [.str "let",.str "x",d]) false:=by
 have gxx:=gx "x" (by decide +kernel);rcases h with ⟨h1,h2,h3⟩|⟨e,rfl,h1,x,hx,hb⟩
 ·refine .no ?_ ?_
  ·show (false||(Bo "variable" (.str "x")&&(Bo "expression" d&&true)))=true;rw[(pV l "x" gxx).2,Ft h1 h3];rfl
  ·show (Ce l "variable" (.str "x")&&(Bs 5 d&&true))=false;rw[h2];simp
 ·exact .vars (r:=.letr "x" e) ⟨gxx,h1⟩ (AAR _ hx) (G5 hb)
theorem BadE.unl(h:BadE d)(hl:0<=l):RowIs L nm wr l (.tup [.str "unless",d,.int 0]) false:=by
 rcases h with ⟨h1,h2,h3⟩|⟨e,rfl,h1,x,hx,hb⟩
 ·refine .no ?_ ?_
  ·show (false||(Bo "expression" d&&(Bo "target" (.int 0)&&true)))=true;rw[Ft h1 h3];rfl
  ·show (Bs 5 d&&(Ce l "target" (.int 0)&&true))=false;rw[h2];rfl
 ·exact .vars (r:=.unless e 0) ⟨h1,by decide,hl⟩ hx (G5 hb)
theorem BadE.put{bx:Str}(h:BadE d)(hg:GoodName bx):RowIs L nm wr l (.tup [.str "put",.str bx,d]) false:=by
 rcases h with ⟨h1,h2,h3⟩|⟨e,rfl,h1,x,hx,hb⟩
 ·refine .no ?_ ?_
  ·show (false||(Bo "box" (.str bx)&&(Bo "expression" d&&true)))=true;rw[(pX l bx hg).2,Ft h1 h3];rfl
  ·show (Ce l "box" (.str bx)&&(Bs 5 d&&true))=false;rw[h2];simp
 ·exact .vars (r:=.put bx e) ⟨hg,h1⟩ hx (G5 hb)
theorem BadE.tell(h:BadE d):RowIs L nm wr l (.tup [.str "tell",d]) false:=by
 rcases h with ⟨h1,h2,h3⟩|⟨e,rfl,h1,x,hx,hb⟩
 ·refine .no ?_ ?_
  ·show (false||(Bo "expression" d&&true))=true;rw[Ft h1 h3];rfl
  ·show (Bs 5 d&&true)=false;rw[h2];rfl
 ·exact .vars (r:=.tell e) h1 hx (G5 hb)
noncomputable def S0:List D:=[.non,.lst [],.str "jump",.tup [],.tup [.int 5],.tup [.str "jump"],.tup [.str "jump",.int 0,.int 0],.lst [.str "jump",.int 0],.tup [.str "Jump",.int 0],.tup [.lst [.str "jump"],.int 0],.tup [.str "go",.int 0]]
noncomputable def S1:List D:=[.tup [.str "put"],.tup [.str "put",.str "nobox",one],.tup [.str "put",.non,one],.tup [.str "put",.str "nobox"],.tup [.str "put",.lst [.str "b"],one]]
noncomputable def S2:List D:=[.tup [.str "get",.str "x"],.tup [.str "get",.str "x",.str "nobox"],.tup [.str "get",.str "x",.non],.tup [.str "get",.str "x",.lst [.str "b"]],.tup [.str "let",.str "x"]]
noncomputable def S3:List D:=[.tup [.str "let",.str "x",one,one],.tup [.str "unless",one],.tup [.str "unless",one,.int 0,.int 0],.tup [.str "tell"],.tup [.str "done",.int 0]]
noncomputable def S3':List D:=[.tup [.str "tell",one,one]]
noncomputable def M3(l:Int):List D:=[.int (-1),.int (l+1),.bl true,.bl false,.non,.str "0",.int (10 ^ 30)]
noncomputable def M4(l:Int):List D:=M3 l++[.tup [.int 0]]
noncomputable def nmbad:List D:=[.str "",.str "A",.str "not",.str "and",.str "or",.str "v",.non,.int 5,.str "abcdefghi",.lst [.str "x"],.bl true]
theorem Vy:∀d∈S0,RowIs L nm wr l d false:=by
 unfold S0;simp only[AAr];exact⟨.no (by kernel_rfl) (by kernel_rfl),.no (by kernel_rfl) (by kernel_rfl),.no (by kernel_rfl) (by kernel_rfl),.no (by kernel_rfl) (by kernel_rfl),.no (by kernel_rfl) (by kernel_rfl),.no (by kernel_rfl) (by kernel_rfl),.no (by kernel_rfl) (by kernel_rfl),.no (by kernel_rfl) (by kernel_rfl),.no (by kernel_rfl) (by kernel_rfl),.no (by kernel_rfl) (by kernel_rfl),.no (by kernel_rfl) (by kernel_rfl),λ_ h=>nomatch h⟩
theorem Vx(hb:Bv L (.inr "nobox")=none):∀d∈S1,RowIs L nm wr l d false:=by
 have g:=gx "nobox" (by decide +kernel);unfold S1;simp only[AAr];exact⟨.no (by kernel_rfl) (by kernel_rfl),.tab (r:=.put "nobox" oneE) ⟨g,FV 4⟩ (by show decide ((Bv L (.inr "nobox")).getD .non=.str nm)=false;rw[hb];exact AAO (λz=>nomatch z)),.no (by kernel_rfl) (by kernel_rfl),.no (by kernel_rfl) (by kernel_rfl),.no (by kernel_rfl) (by kernel_rfl),λ_ h=>nomatch h⟩
theorem Vw(hb:Bv L (.inr "nobox")=none):∀d∈S2,RowIs L nm wr l d false:=by
 have g:=gx "nobox" (by decide +kernel);have gxx:=gx "x" (by decide +kernel);unfold S2;simp only[AAr];exact⟨.no (by kernel_rfl) (by kernel_rfl),.tab (r:=.get "x" "nobox") ⟨gxx,g⟩ (by show (Bv L (.inr "nobox")).isSome=false;rw[hb];rfl),.no (by kernel_rfl) (by kernel_rfl),.no (by kernel_rfl) (by kernel_rfl),.no (by kernel_rfl) (by kernel_rfl),λ_ h=>nomatch h⟩
theorem Vv:∀d∈S3,RowIs L nm wr l d false:=by
 unfold S3;simp only[AAr];exact⟨.no (by kernel_rfl) (by kernel_rfl),.no (by kernel_rfl) (by kernel_rfl),.no (by kernel_rfl) (by kernel_rfl),.no (by kernel_rfl) (by kernel_rfl),.no (by kernel_rfl) (by kernel_rfl),λ_ h=>nomatch h⟩
theorem TX:∀d∈S3',RowIs L nm wr l d false:=by
 unfold S3';simp only[AAr];exact⟨.no (by kernel_rfl) (by kernel_rfl),λ_ h=>nomatch h⟩
theorem Lx(hl:l<=60):∀d∈M4 l,Bd d=true/\BS d 0 l=false:=by
 unfold M4 M3;simp only[List.forall_mem_append,AAr];refine⟨⟨⟨rfl,rfl⟩,⟨rfl,?_⟩,⟨rfl,rfl⟩,⟨rfl,rfl⟩,⟨rfl,rfl⟩,⟨rfl,rfl⟩,⟨rfl,?_⟩,λ_ h=>nomatch h⟩,⟨rfl,rfl⟩,λ_ h=>nomatch h⟩
 ·show (decide ((0:Int)<=l+1)&&decide (l+1<=l))=false;rw[AAO (show ¬l+1<=l by omega),Bool.and_false]
 ·show (decide ((0:Int)<=10 ^ 30)&&decide ((10:Int) ^ 30<=l))=false;rw[AAO (show ¬(10:Int) ^ 30<=l from λz=>absurd (Int.le_trans z hl) (by decide)),Bool.and_false]
theorem Vu(hl:l<=60):∀d∈(M4 l).map (λo=>.tup [.str "unless",one,o]),RowIs L nm wr l d false:=by
 intro d hd;obtain⟨o,ho,rfl⟩:=AAM.mp hd;obtain⟨h1,h2⟩:=Lx hl o ho;have p:=p5 l oneE (FV 4);refine .no ?_ ?_
 ·show (false||(Bo "expression" oneE.toD&&((Bd o&&true)&&true)))=true;rw[p.2,h1];rfl
 ·show (Ce l "expression" oneE.toD&&(BS o 0 l&&true))=false;rw[h2];simp
theorem Vt(hl:l<=60):∀d∈(M3 l).map (λo=>.tup [.str "jump",o]),RowIs L nm wr l d false:=by
 intro d hd;obtain⟨o,ho,rfl⟩:=AAM.mp hd;obtain⟨h1,h2⟩:=Lx hl o (AAb _ ho);refine .no ?_ ?_
 ·show (false||((Bd o&&true)&&true))=true;rw[h1];rfl
 ·show (BS o 0 l&&true)=false;rw[h2];rfl
theorem L0:∀d∈nmbad,(Bd d=true/\nmB d=true/\By d=false)∨∃x,d=.str x/\Cf x=true/\(x∈(["not", "and", "or"]:List Str)∨x = "v"):=by
 unfold nmbad;simp only[AAr];exact⟨.inl (by decide +kernel),.inl (by decide +kernel),.inr ⟨_,rfl,by decide +kernel,.inl (by decide)⟩,.inr ⟨_,rfl,by decide +kernel,.inl (by decide)⟩,.inr ⟨_,rfl,by decide +kernel,.inl (by decide)⟩,.inr ⟨_,rfl,by decide +kernel,.inr rfl⟩,.inl (by decide +kernel),.inl (by decide +kernel),.inl (by decide +kernel),.inl (by decide +kernel),.inl (by decide +kernel),λ_ h=>nomatch h⟩
theorem Vs:∀d∈nmbad.map (λo=>.tup [.str "let",o,one]),RowIs L nm wr l d false:=by
 intro d hd;obtain⟨o,ho,rfl⟩:=AAM.mp hd;have p:=p5 l oneE (FV 4);rcases L0 o ho with ⟨h1,h2,h3⟩|⟨x,rfl,h1,h2⟩
 ·refine .no ?_ ?_
  ·show (false||((Bd o&&nmB o)&&(Bo "expression" oneE.toD&&true)))=true;rw[h1,h2,p.2];rfl
  ·show (By o&&_)=false;rw[h3];rfl
 ·rcases h2 with h2|rfl
  ·exact .vars (r:=.letr x oneE) ⟨gx x h1,FV 4⟩ (by simp[Rw.vars]) (G5 h2)
  ·exact .set (r:=.letr "v" oneE) ⟨gx _ h1,FV 4⟩ rfl
theorem Vr{bx:Str}(hg:GoodName bx):∀d∈nmbad.map (λo=>.tup [.str "get",o,.str bx]),RowIs L nm wr l d false:=by
 intro d hd;obtain⟨o,ho,rfl⟩:=AAM.mp hd;have p:=pX l bx hg;rcases L0 o ho with ⟨h1,h2,h3⟩|⟨x,rfl,h1,h2⟩
 ·refine .no ?_ ?_
  ·show (false||((Bd o&&nmB o)&&(Bo "box" (.str bx)&&true)))=true;rw[h1,h2,p.2];rfl
  ·show (By o&&_)=false;rw[h3];rfl
 ·rcases h2 with h2|rfl
  ·exact .vars (r:=.get x bx) ⟨gx x h1,hg⟩ (by simp[Rw.vars]) (G5 h2)
  ·exact .set (r:=.get "v" bx) ⟨gx _ h1,hg⟩ rfl
end
end K4
namespace K4
open PySem L2 Mi K1 Xc
open K3 (Db BS Cf BP Fx By NmP nom szl AR Bm EX EE)
noncomputable def tw(w:Str):Nat->D
 |0=>.tup [.str "num",.int 1]
 |n+1=>if w = "not" then .tup [.str "not",tw w n] else .tup [.str w,.tup [.str "num",.int 0],tw w n]
theorem FO{μ:Mh}{QD:D->Mh->Prop}{w:Str}(hw:PyData.strOk w=true)(n:Nat){j:Int}(hj:j=n)(hn:n<1000000)(q:QD (tw w n) μ):WP (K4.f_Ltower [.str w,.int j]) μ QD:=by
 subst hj;unfold K4.f_Ltower;refine Cv rfl ?_;unfold K4.m_Ltower;wtm_at "a";refine KJ rfl hn ?_;refine QP (I:=λk τ ν=>ν=μ/\∃o,τ=[some (.str w),some (.int n),some (tw w k),o]) ?_ ?_ ⟨rfl,none,rfl⟩
 ·rintro k τ ν hk ⟨rfl,o,rfl⟩;refine EZ ?_;refine A2 ?_;refine NR ?_;refine BG ?_;refine A3 ?_;refine Ad rfl ?_;refine Cq ?_;refine F5 hw (by decide +kernel) ?_;refine Av ?_;by_cases e:w = "not"
  ·rw[beq_iff_eq.mpr e];refine LT ?_;wtm_at "a";refine⟨rfl,some (.int k),?_⟩;rw[show tw w (k+1)=.tup [.str "not",tw w k] from if_pos e];rfl
  ·rw[AAe.mpr e];refine LU ?_;wtm_at "a";refine⟨rfl,some (.int k),?_⟩;rw[show tw w (k+1)=.tup [.str w,.tup [.str "num",.int 0],tw w k] from if_neg e];rfl
 ·rintro τ ν ⟨rfl,o,rfl⟩;wtm_at "a";exact⟨_,_,rfl,q⟩
theorem Mg:∀(k m:Nat),Bs k (tw "not" (m+k))=false/\DY k (tw "not" (m+k))=true
 |0,m=>⟨rfl,by cases m<;>rfl⟩
 |k+1,m=>by
  have ih:=Mg k m;rw[show tw "not" (m+(k+1))=.tup [.str "not",tw "not" (m+k)] from if_pos rfl];refine⟨?_,?_⟩
  ·show (decide (("not" : Str) = "not")&&Bs k (tw "not" (m+k)))=false;rw[ih.1];rfl
  ·show (true&&(PyData.strOk ("not" : Str)&&DY k (tw "not" (m+k))))=true;rw[ih.2,okO];rfl
noncomputable def E1:List D:=[.non,.int 5,.str "x",.tup [],.tup [.str "num"],.tup [.str "num",.int 10],.tup [.str "num",.int (-1)],.tup [.str "num",.bl true],.tup [.str "num",.str "1"],.tup [.str "num",.int 1,.int 2],.tup [.non]]
noncomputable def E2:List D:=[.tup [.str "var"],.tup [.str "var",.str ""],.tup [.str "var",.str "A"]]
noncomputable def E2v:List D:=[.tup [.str "var",.str "not"],.tup [.str "var",.str "and"],.tup [.str "var",.str "or"]]
noncomputable def E2':List D:=[.tup [.str "var",.non]]
noncomputable def E3:List D:=[.tup [.str "var",.str "abcdefghi"],.tup [.str "var",.lst [.str "x"]],.tup [.str "var",.str "x",.str "y"],.tup [.str "not"],.tup [.str "not",one,one],.tup [.str "+",one]]
noncomputable def E4:List D:=[.tup [.str "+",one,one,one],.tup [.str "*",one,one],.tup [.str "Num",.int 1],.lst [.str "num",.int 1],.tup [.tup [.str "num",.int 1]],.tup [.str "<=",one,one]]
noncomputable def E5:List D:=[.tup [.str "not",.tup [.str "num",.int 10]],.tup [.str "and",one,.non],.tup [.str "or",.tup [.str "var",.str "1"],one],.tup [.str "=",one],.tup [.str "",one,one]]
noncomputable def E6:List D:=[tw "not" 5,tw "+" 5,tw "<" 6]
noncomputable def badE:List D:=E1++(E2++E2v++E2')++E3++E4++E5++(E6++[tw "not" 2000])
theorem Zu:∀d∈E1++(E2++E2')++E3++E4++E5++E6,(DY 5 d=true/\Bs 5 d=false)/\DY 4 d=true/\Bs 4 d=false/\Bd d=true:=by decide +kernel
def Bad2(d:D):Prop:=((DY 5 d=true/\Bs 5 d=false)/\DY 4 d=true/\Bs 4 d=false/\Bd d=true)∨∃x,d=.tup [.str "var",.str x]/\x∈(["not", "and", "or"]:List Str)
theorem Uz:∀d∈badE,Bad2 d:=by
 have c:=Zu;simp only[List.forall_mem_append] at c;unfold badE;simp only[List.forall_mem_append];refine⟨⟨⟨⟨⟨λd hd=>.inl (c.1.1.1.1.1 d hd),⟨λd hd=>.inl (c.1.1.1.1.2.1 d hd),?_⟩,λd hd=>.inl (c.1.1.1.1.2.2 d hd)⟩,λd hd=>.inl (c.1.1.1.2 d hd)⟩,λd hd=>.inl (c.1.1.2 d hd)⟩,λd hd=>.inl (c.1.2 d hd)⟩,λd hd=>.inl (c.2 d hd),?_⟩
 ·unfold E2v;simp only[AAr];exact⟨.inr ⟨_,rfl,by decide⟩,.inr ⟨_,rfl,by decide⟩,.inr ⟨_,rfl,by decide⟩,λ_ h=>nomatch h⟩
 ·intro d hd;rw[AAL] at hd;subst hd;have a:=Mg 5 1995;have b:=Mg 4 1996;exact .inl ⟨⟨a.2,a.1⟩,b.2,b.1,by rw[show (2000:Nat)=1999+1 from rfl,show tw "not" (1999+1)=.tup [.str "not",tw "not" 1999] from if_pos rfl];rfl⟩
theorem gno{x:Str}(h:x∈(["not", "and", "or"]:List Str)):GoodName x:=by
 have:∀x∈(["not", "and", "or"]:List Str),Cf x=true:=by decide +kernel
 exact Gh (this x h)
theorem Bad2.alone{d:D}(h:Bad2 d):BadE d:=by
 rcases h with ⟨⟨h1,h2⟩,h3,h4,h5⟩|⟨x,rfl,hx⟩
 ·exact .inl ⟨h1,h2,h5⟩
 ·exact .inr ⟨.var x,rfl,gno hx,x,by simp[Ex.vars],hx⟩
theorem Bad2.within{d:D}(h:Bad2 d){w:Str}(hw:w∈pairWords):BadE (.tup [.str w,.tup [.str "num",.int 2],d]):=by
 have hp:D3 (.str w)=true:=by rw[N3,AAP hw]
 rcases h with ⟨⟨h1,h2⟩,h3,h4,h5⟩|⟨x,rfl,hx⟩
 ·refine .inl ⟨?_,?_,rfl⟩
  ·show (Bd (.str w)&&(if D3 (.str w)=true then DY 4 (.tup [.str "num",.int 2])&&DY 4 d else _))=true;rw[if_pos hp,h3,show DY 4 (.tup [.str "num",.int 2])=true by decide +kernel];rfl
  ·show (if D3 (.str w)=true then Bs 4 (.tup [.str "num",.int 2])&&Bs 4 d else _)=false;rw[if_pos hp,h4,Bool.and_false]
 ·exact .inr ⟨.pair w (.num 2) (.var x),rfl,⟨hw,(by decide:(0:Int)<=2/\(2:Int)<=9),gno hx⟩,x,by simp[Ex.vars],hx⟩
section
variable{μ:Mh}{QD:D->Mh->Prop}{w:Nat}
theorem S7(q:QD (.lst badE) μ):WP (K4.f_Lbad_exprs []) μ QD:=by
 unfold K4.f_Lbad_exprs;refine Cv rfl ?_;unfold K4.m_Lbad_exprs;refine AX ?_;refine AR (a:=(.next,[some one,none])) (by kernel_rfl) ?_;refine AN ?_;refine AX ?_;refine AR (a:=(.next,[some one,some (.lst E1)])) (by kernel_rfl) ?_;refine AN ?_;refine AX ?_;refine AR (a:=(.next,[some one,some (.lst (E1++(E2++E2v++E2')))])) (by kernel_rfl) ?_;refine AN ?_;refine AX ?_;refine AR (a:=(.next,[some one,some (.lst (E1++(E2++E2v++E2')++E3))])) (by kernel_rfl) ?_;refine AN ?_;refine AX ?_;refine AR (a:=(.next,[some one,some (.lst (E1++(E2++E2v++E2')++E3++E4))])) (by kernel_rfl) ?_;refine AN ?_;refine AX ?_;refine AR (a:=(.next,[some one,some (.lst (E1++(E2++E2v++E2')++E3++E4++E5))])) (by kernel_rfl) ?_;refine AN ?_;refine Cz ?_;refine A3 ?_;refine Ad rfl ?_;refine AZ ?_;refine Ab ?_;refine AZ ?_;refine AR (a:=[.str "not",.int 5]) rfl ?_;refine FO (by decide +kernel) 5 rfl (by decide) ?_;refine Ab ?_;refine AZ ?_;refine AR (a:=[.str "+",.int 5]) rfl ?_;refine FO (by decide +kernel) 5 rfl (by decide) ?_;refine Ab ?_;refine AZ ?_;refine AR (a:=[.str "<",.int 6]) rfl ?_;refine FO (by decide +kernel) 6 rfl (by decide) ?_;refine Ab ?_;refine AZ ?_;refine AR (a:=[.str "not",.int 2000]) rfl ?_;refine FO (by decide +kernel) 2000 rfl (by decide) ?_;refine Bl ?_;refine EF (AAE rfl) ?_;refine EE (AAE rfl) ?_;exact⟨_,_,rfl,q⟩
theorem MW:badE.length=39:=rfl
theorem Md(hw:WellAt μ w)(q:∀d μ1,BadE d->WellAt μ1 w->QD d μ1):WP (K4.f_Lbad_expr [.ref w]) μ QD:=by
 unfold K4.f_Lbad_expr;refine Cv rfl ?_;unfold K4.m_Lbad_expr;wtm_at "a";refine S7 ?_;wtm_at "a";refine AR Ix ?_;wtm_at "a";refine Bm hw (by rw[MW];decide) (by rw[MW];decide) (λr μ1 h1 h2 hw1 _=>?_);refine EX h1 h2 (λd hd=>?_);have b:=Uz d hd;wtm_at "a";refine Bm hw1 (by decide) (by decide) (λr2 μ2 h3 h4 hw2 _=>?_);refine Cq ?_;refine F6 ?_;refine Av ?_;refine Er (λ_=>?_) (λ_=>?_)
 ·wtm_at "a";refine Bm hw2 (by decide) (by decide) (λr3 μ3 h5 h6 hw3 _=>?_);obtain⟨x,hx,e⟩:=GD (f:=D.str) (xs:=["+", "and", "<"]) h5 (by show r3<3;exact h6);refine EQ e ?_;wtm_at "a";have hp:x∈pairWords:=by
   have:∀x∈(["+", "and", "<"]:List Str),x∈pairWords:=by decide
   exact this x hx
  exact⟨_,_,rfl,q _ _ (b.within hp) hw3⟩
 ·wtm_at "a";exact⟨_,_,rfl,q _ _ b.alone hw2⟩
end
end K4
namespace K4
open PySem L2 Mi K1 Xc
open K3 (Db BS Cf BP Fx By NmP nom szl AR Bm EX EE DN ED DG)
section
variable{ν:Mh}{QD:D->Mh->Prop}{QS:Fl×Sl->Mh->Prop}{w n:Nat}{Rs bs as:List D}{τ:Sl}
theorem Ep{X:Sl->M D}{k:Nat}(hn:ν[n]?=some (.lst Rs))(ht:τ[k]?=some (some (.ref n)))(hX:X τ ν=some (.lst bs,ν))(hl:Rs.length+bs.length<=1000000)(hw:WellAt ν w)(q:∀n' ν',ν'[n']?=some (.lst (Rs++bs))->WellAt ν' w->w<n'->QS (.next,τ.set k (some (.ref n'))) ν'):WP (Ai (mOp DK (AD k) X) (AM k) τ) ν QS:=by
 refine A2 ?_;refine A3 ?_;refine Ad ht ?_;refine AR hX ?_;refine⟨.ref ν.length,ν++[.lst (Rs++bs)],?_,q _ _ List.getElem?_concat_length hw.app hw.lt⟩;show (match ν[n]? with|some (.lst as)=>FA (as++bs) ν|_=>none)=_;rw[hn];exact Hm (by rw[szl,AAH];omega)
theorem QC{X:Sl->M (List D)}{k:Nat}{d:D}(hn:ν[n]?=some (.lst Rs))(ht:τ[k]?=some (some (.ref n)))(hX:X τ ν=some ([d],ν))(hl:Rs.length<=1000000)(hw:WellAt ν w)(hwn:w<n)(q:∀ν',ν'[n]?=some (.lst (Rs++[d]))->WellAt ν' w->QS (.next,τ) ν'):WP (EH (Ch HM (AD k) X) τ) ν QS:=by
 refine Hk ?_;have hlt:n<ν.length:=by
  by_cases h:n<ν.length
  ·exact h
  ·rw[List.getElem?_eq_none (by omega)] at hn;cases hn
 refine⟨_,_,OM (Cp ht) (PN hn) hX (UY hn (by rw[szl];omega)),q _ ?_ ?_⟩
 ·exact List.getElem?_set_self hlt
 ·obtain⟨a,m,c,h1,h2⟩:=hw;exact⟨a,m,c,by rw[AAl (by omega)];exact h1,h2⟩
theorem KG(hn:ν[n]?=some (.lst Rs))(hl:Rs.length+bs.length<=1000000)(q:QD (.lst (Rs++bs)) ν):WP (Ih (.ref n) (.lst bs)) ν QD:=by
 refine⟨_,ν,?_,q⟩;show (match ν[n]? with|some (.lst a)=>Am (a++bs) ν|_=>none)=_;rw[hn];exact Bu (by rw[szl,AAH];omega)
theorem QA{r:Int}(hn:ν[n]?=some (.lst Rs))(h1:0<=r)(h2:r<Rs.length)(q:∀d∈Rs,QD d ν):WP (AT (.ref n) (.int r)) ν QD:=by
 obtain⟨a,ha,e⟩:=GD (f:=λd:D=>d) (xs:=Rs) h1 h2;rw[List.map_id'] at e;exact⟨_,ν,Kr hn e,q a ha⟩
theorem Sy(hn:ν[n]?=some (.lst Rs))(q:QD (.int Rs.length) ν):WP (Bk [.ref n]) ν QD:=by
 refine⟨_,ν,?_,q⟩;show (match ν[n]? with|some (.lst ds)=>some (D.int ds.length,ν)|_=>none)=_;rw[hn]
theorem Hq{ix:List Nat}{me:Sl->M D}{F:D->D}{xs:List D}{src:Sl->M D}(hs:src τ ν=some (.lst xs,ν))(hl:xs.length<=100000)(h:∀z∈xs,me ((BB 1 ix τ).set 0 (some z)) ν=some (F z,ν)):BE 1 ix (CC src) (AM 0) BO me Am τ ν=some (.lst (xs.map F),ν):=
 FD (EU hs Ru) (by rw[szl];omega) (JG h) (by rw[List.nil_append];exact Bu (by rw[AAG,szl];omega))
end
noncomputable def oth(bs:List Bx)(nm:Str):List Str:=(bs.filter λb=>!(b.wr==nm)).map Bx.nm
structure Ctx(m:Mk)(i:Nat)(h:Hd):Prop where
 ok:m.Ok
 bne:m.bs≠[]
 nox:("nobox" : Str)∉m.bs.map Bx.nm
 at_:m.hs[i]?=some h
 rl:1<=h.rs.length
section
variable{m:Mk}{i:Nat}{h:Hd}(C:Ctx m i h)
include C in
theorem Ctx.hand:GoodName h.nm/\0<=h.wi/\h.wi<=400/\h.rs.length<=60:=C.ok.hands h (AAV C.at_)
include C in
theorem Ctx.wr:∀b∈m.bs,PyData.strOk b.wr=true:=λb hb=>by
 obtain⟨h',hh,e⟩:=AAM.mp (C.ok.writers b hb);rw[←e];exact(C.ok.hands h' hh).1.ok
include C in
theorem Ctx.no:Bv (m.bs.map kv) (.inr "nobox")=none:=by
 cases e:Bv (m.bs.map kv) (.inr "nobox") with
 |none=>rfl
 |some z=>
  exfalso;unfold Bv at e;rw[Option.map_eq_some_iff] at e;obtain⟨p,hp,_⟩:=e;obtain⟨b,hb,rfl⟩:=AAM.mp (List.mem_of_find?_eq_some hp);have t:(kv b).1=(Sum.inr "nobox" : Key):=by simpa using List.find?_some hp
  have:b.nm = "nobox" := Sum.inr.inj t;exact C.nox (AAM.mpr ⟨b,hb,this⟩)
include C in
theorem Ctx.atI:atI (m.hs.map Hd.toD) (i:Int)=some h.toD:=by
 have hi:i<m.hs.length:=by
  by_cases z:i<m.hs.length
  ·exact z
  ·have:=C.at_;rw[List.getElem?_eq_none (by omega)] at this;cases this
 unfold L2.atI L2.ixN;rw[if_pos (by omega),if_pos (by rw[AAG];omega)];show (m.hs.map Hd.toD)[(i:Int).toNat]?=_;rw[show (i:Int).toNat=i from by omega,AAW,C.at_];rfl
include C in
theorem Ctx.lt:i<m.hs.length:=by
 by_cases z:i<m.hs.length
 ·exact z
 ·have:=C.at_;rw[List.getElem?_eq_none (by omega)] at this;cases this
include C in
theorem N4{bx:Str}(hb:bx∈own m.bs h.nm):GoodName bx:=by
 unfold own at hb;obtain⟨b,h2,rfl⟩:=AAM.mp hb;exact(C.ok.boxes b (List.mem_filter.mp h2).1).1
include C in
theorem T9{wr:Bool}{l:Int}:∀d∈((oth m.bs h.nm).map D.str).map (λb=>D.tup [.str "put",b,one]),RowIs (m.bs.map kv) h.nm wr l d false:=by
 intro d hd;obtain⟨z,hz,rfl⟩:=AAM.mp hd;obtain⟨x,hx,rfl⟩:=AAM.mp hz;unfold oth at hx;obtain⟨b,hb,rfl⟩:=AAM.mp hx;rw[List.mem_filter] at hb;have hne:b.wr≠h.nm:=by simpa using hb.2
 refine .tab (r:=.put b.nm oneE) ⟨(C.ok.boxes b hb.1).1,FV 4⟩ ?_;show decide ((Bv (m.bs.map kv) (.inr b.nm)).getD .non=.str h.nm)=false;rw[KK C.ok.unlike hb.1];exact AAO λz=>hne (D.str.inj z)
noncomputable def vE:D:=.tup [.str "var",.str "v"]
theorem gv:GoodName "v" := Gh (by decide +kernel)
theorem TH:FJ false "v" = false:=by decide +kernel
include C in
theorem T7{l:Int}:∀d∈((own m.bs h.nm).map D.str).map (λb=>D.tup [.str "put",b,vE]),RowIs (m.bs.map kv) h.nm false l d false:=by
 intro d hd;obtain⟨z,hz,rfl⟩:=AAM.mp hd;obtain⟨x,hx,rfl⟩:=AAM.mp hz;exact .vars (r:=.put x (.var "v")) ⟨N4 C hx,gv⟩ (x := "v") (by simp[Rw.vars,Ex.vars]) TH
theorem Qd{L:List (Key×D)}{nm:Str}{l:Int}:∀d∈[D.tup [.str "tell",one],.tup [.str "tell",vE]],RowIs L nm true l d false:=by
 simp only[AAr];exact⟨.ends (r:=.tell oneE) (FV 4) (by simp only[Rw.word];decide),.ends (r:=.tell (.var "v")) gv (by simp only[Rw.word];decide),λ_ h=>nomatch h⟩
theorem Qy{L:List (Key×D)}{nm:Str}{l:Int}(hl:0<=l):∀d∈[D.tup [.str "done"],.tup [.str "let",.str "x",vE],.tup [.str "unless",.tup [.str "not",vE],.int 0],.tup [.str "tell",.tup [.str "+",one,vE]]],RowIs L nm false l d false:=by
 have gxx:=gx "x" (by decide +kernel);simp only[AAr];exact⟨.ends (r:=.done) trivial (by simp only[Rw.word];decide),.vars (r:=.letr "x" (.var "v")) ⟨gxx,gv⟩ (x := "v") (by simp[Rw.vars,Ex.vars]) TH,.vars (r:=.unless (.neg (.var "v")) 0) ⟨gv,by decide,hl⟩ (x := "v") (by simp[Rw.vars,Ex.vars]) TH,.vars (r:=.tell (.pair "+" oneE (.var "v"))) ⟨by decide,FV 3,gv⟩ (x := "v") (by simp[Rw.vars,Ex.vars]) TH,λ_ h=>nomatch h⟩
end
end K4
set_option maxHeartbeats 8000000
namespace K4
open PySem L2 Mi K1 Xc
open K3 (Db BS Cf BP Fx By NmP nom szl AR Bm EX EE DN ED DG)
section
variable{μ ν:Mh}{QD:D->Mh->Prop}{w:Nat}{m:Mk}{i:Nat}{h:Hd}
theorem Kg(bs:List Bx)(nm:Str):(own bs nm).length<=bs.length:=by unfold own;rw[AAG];exact List.length_filter_le _ _
theorem N6(bs:List Bx)(nm:Str):(oth bs nm).length<=bs.length:=by unfold oth;rw[AAG];exact List.length_filter_le _ _
theorem Uy{bs:List Bx}{nm:Str}(hb:bs≠[]):∃x xs,own bs nm++oth bs nm=x::xs/\x∈bs.map Bx.nm:=by
 cases bs with
 |nil=>exact absurd rfl hb
 |cons b bs=>
  have hne:own (b::bs) nm++oth (b::bs) nm≠[]:=by
   by_cases c:(b.wr==nm)=true
   ·simp[own,c]
   ·simp[oth,c]
  cases e:own (b::bs) nm++oth (b::bs) nm with
  |nil=>exact absurd e hne
  |cons x xs=>
   refine⟨x,xs,rfl,?_⟩;have hx:x∈own (b::bs) nm++oth (b::bs) nm:=by rw[e];simp
   rcases AAK.mp hx with z|z
   ·unfold own at z;obtain⟨c,hc,rfl⟩:=AAM.mp z;exact AAM.mpr ⟨c,(List.mem_filter.mp hc).1,rfl⟩
   ·unfold oth at z;obtain⟨c,hc,rfl⟩:=AAM.mp z;exact AAM.mpr ⟨c,(List.mem_filter.mp hc).1,rfl⟩
theorem Xu{τ:Sl}{ix:Nat}{src:Sl->M D}{bs:List Bx}{nm:Str}(hn:PyData.strOk nm=true)(hb:∀b∈bs,PyData.strOk b.wr=true)(hl:bs.length<=1000)(ht:BB 1 [ix] τ=[none,some (.str nm)])(hs:src τ ν=some (.tup (bs.map Bx.toD),ν)):BE 1 [ix] (CC src) (AM 0) (Ac (mOp BF (mOp AT (AD 0) (mC (.int 4))) (AD 1))) (mOp AT (AD 0) (mC (.int 0))) Am τ ν=some (.lst ((own bs nm).map D.str),ν):=by
 have:=Kg bs nm;refine FD (ds:=bs.map Bx.toD) (EU hs Kp) (by rw[szl,AAG];omega) (by rw[ht];exact M0 hn bs [] hb) (by rw[List.nil_append];exact Bu (by rw[AAG,szl];omega))
theorem RZ{nm:Str}(hn:PyData.strOk nm=true):∀(bs:List Bx) (ys:List D),(∀b∈bs,PyData.strOk b.wr=true)->B3 (AM 0) (Ac (mOp Dd (mOp AT (AD 0) (mC (.int 4))) (AD 1))) (mOp AT (AD 0) (mC (.int 0))) [none,some (.str nm)] (bs.map Bx.toD) ys ν=some (ys++(oth bs nm).map D.str,ν)
 |[],ys,_=>by show some (ys,ν)=_;simp[oth]
 |b::bs,ys,h=>by
  have ih:=λys=>RZ hn bs ys λq hq=>h q (by simp[hq]);have hb:=h b (by simp);show bnd (AM 0 b.toD [none,some (.str nm)]) _ ν=_;rw[AQ (show AM 0 b.toD [none,some (.str nm)] ν=some ([some b.toD,some (.str nm)],ν) from rfl)];have t:Ac (mOp Dd (mOp AT (AD 0) (mC (.int 4))) (AD 1)) [some b.toD,some (.str nm)] ν=some (!(b.wr==nm),ν):=CG (BK (x:=.str b.wr) (y:=.str nm) (μ1:=ν) (μ2:=ν) (BK (x:=b.toD) (y:=.int 4) (μ1:=ν) (μ2:=ν) rfl rfl (F0 rfl)) rfl (Yu hb hn));rw[AQ t];by_cases c:b.wr=nm
  ·have c':(b.wr==nm)=true:=beq_iff_eq.mpr c;rw[c',if_neg (by decide),ih];simp[oth,c']
  ·have c':(b.wr==nm)=false:=AAe.mpr c;rw[c',if_pos (show (!false)=true from rfl),AQ (BK (x:=b.toD) (y:=.int 0) (d:=.str b.nm) (μ1:=ν) (μ2:=ν) (μ3:=ν) rfl rfl (F0 rfl)),ih];simp[oth,c']
theorem Xv{τ:Sl}{ix:Nat}{src:Sl->M D}{bs:List Bx}{nm:Str}(hn:PyData.strOk nm=true)(hb:∀b∈bs,PyData.strOk b.wr=true)(hl:bs.length<=1000)(ht:BB 1 [ix] τ=[none,some (.str nm)])(hs:src τ ν=some (.tup (bs.map Bx.toD),ν)):BE 1 [ix] (CC src) (AM 0) (Ac (mOp Dd (mOp AT (AD 0) (mC (.int 4))) (AD 1))) (mOp AT (AD 0) (mC (.int 0))) Am τ ν=some (.lst ((oth bs nm).map D.str),ν):=by
 have:=N6 bs nm;refine FD (ds:=bs.map Bx.toD) (EU hs Kp) (by rw[szl,AAG];omega) (by rw[ht];exact RZ hn bs [] hb) (by rw[List.nil_append];exact Bu (by rw[AAG,szl];omega))
theorem CH{P:D->Prop}{a b:List D}(h1:∀d∈a,P d)(h2:∀d∈b,P d):∀d∈a++b,P d:=λd hd=>(AAK.mp hd).elim (h1 d) (h2 d)
theorem Mc(C:Ctx m i h)(hw:WellAt μ w)(q:∀Rs ν,(∀d∈Rs,RowIs (m.bs.map kv) h.nm (i==0) h.rs.length d false)->0<Rs.length->Rs.length<=1000->WellAt ν w->QD (.lst Rs) ν):WP (K4.f_Lbad_rows [.ref w,m.toD,.int i]) μ QD:=by
 have hnm:=C.hand.1.ok;have hl60:((h.rs.length:Nat):Int)<=60:=by have:=C.hand.2.2.2;omega
 have hl0:(0:Int)<=((h.rs.length:Nat):Int):=by omega
 have hm6:=C.ok.most;have lo:=Kg m.bs h.nm;have lt:=N6 m.bs h.nm;obtain⟨b0,br,eb,hb0⟩:=Uy (bs:=m.bs) (nm:=h.nm) C.bne;obtain⟨bb,hbb,rfl⟩:=AAM.mp hb0;have gb:=(C.ok.boxes bb hbb).1;unfold K4.f_Lbad_rows;refine Cv rfl ?_;unfold K4.m_Lbad_rows;refine AX ?_;refine Mf ?_;refine A3 ?_;refine AR (a:=.tup (m.hs.map Hd.toD)) rfl ?_;refine Ad rfl ?_;refine EO C.atI ?_;refine AR (a:=[some (.ref w),some m.toD,some (.int i),some (.str h.nm),some (.int h.wi),some (.tup (h.rs.map Rw.toD)),none,none,none,none,none,none,none]) rfl ?_;refine AN ?_;refine AX ?_;refine A2 ?_;refine AR (a:=.int h.rs.length) (by
  refine A4 (ds:=[.tup (h.rs.map Rw.toD)]) (μ1:=μ) rfl ?_;rw[Iw,AAG]) ?_
 refine AN ?_;refine AX ?_;refine A2 ?_;refine AR (a:=one) (by kernel_rfl) ?_;refine AN ?_;refine AX ?_;refine A2 ?_;refine AR (Xu hnm C.wr (by omega) rfl rfl) ?_;refine AN ?_;refine AX ?_;refine A2 ?_;refine AR (Xv hnm C.wr (by omega) rfl rfl) ?_;refine AN ?_;refine AX ?_;refine A2 ?_;refine AZ ?_;refine AR (a:=S0) (by kernel_rfl) ?_;refine Hj (AAE rfl) ?_;have hn0:(μ++[MO.lst S0])[μ.length]?=some (.lst S0):=List.getElem?_concat_length;have hw0:WellAt (μ++[MO.lst S0]) w:=hw.app;have hwn0:=hw.lt;generalize μ++[MO.lst S0]=ν0 at hn0 hw0;generalize List.length μ=n0 at hn0 hwn0;refine AN ?_;refine AX ?_;refine Ep (bs:=S1) hn0 (by kernel_rfl) (by kernel_rfl) (by decide) hw0 (λn1 ν1 hn1 hw1 hwn1=>?_);refine AN ?_;refine AX ?_;refine Ep (bs:=S2) hn1 (by kernel_rfl) (by kernel_rfl) (by decide) hw1 (λn2 ν2 hn2 hw2 hwn2=>?_);refine AN ?_;refine AX ?_;refine Ep (bs:=S3) hn2 (by kernel_rfl) (by kernel_rfl) (by decide) hw2 (λn3 ν3 hn3 hw3 hwn3=>?_);refine AN ?_;refine AX ?_;refine QC (d:=.tup [.str "tell",one,one]) hn3 (by kernel_rfl) (by kernel_rfl) (by decide) hw3 hwn3 (λν4 hn4 hw4=>?_);refine AN ?_;refine AX ?_;refine Ep (bs:=(M4 h.rs.length).map λo=>.tup [.str "unless",one,o]) hn4 (by kernel_rfl) (by kernel_rfl) (AAE rfl) hw4 (λn5 ν5 hn5 hw5 hwn5=>?_);refine AN ?_;refine AX ?_;refine Ep (bs:=(M3 h.rs.length).map λo=>.tup [.str "jump",o]) hn5 (by kernel_rfl) (by kernel_rfl) (AAE rfl) hw5 (λn6 ν6 hn6 hw6 hwn6=>?_);have a6:∀d∈S0++S1++S2++S3++[D.tup [.str "tell",one,one]]++((M4 h.rs.length).map λo=>D.tup [.str "unless",one,o])++((M3 h.rs.length).map λo=>D.tup [.str "jump",o]),RowIs (m.bs.map kv) h.nm (i==0) h.rs.length d false:=
  CH (CH (CH (CH (CH (CH Vy (Vx C.no)) (Vw C.no)) Vv) TX) (Vu hl60)) (Vt hl60)
 have l6:(S0++S1++S2++S3++[D.tup [.str "tell",one,one]]++((M4 h.rs.length).map λo=>D.tup [.str "unless",one,o])++((M3 h.rs.length).map λo=>D.tup [.str "jump",o])).length=42:=rfl;generalize S0++S1++S2++S3++[D.tup [.str "tell",one,one]]++((M4 h.rs.length).map λo=>D.tup [.str "unless",one,o])++((M3 h.rs.length).map λo=>D.tup [.str "jump",o])=R6 at hn6 a6 l6;refine AN ?_;refine AX ?_;refine Ep (bs:=((oth m.bs h.nm).map D.str).map λb=>D.tup [.str "put",b,one]) hn6 (by kernel_rfl) (Hq (xs:=(oth m.bs h.nm).map D.str) (F:=λb=>D.tup [.str "put",b,one]) (by kernel_rfl) (by rw[AAG];omega) λz _=>by kernel_rfl) (by rw[AAG,AAG];omega) hw6 (λn7 ν7 hn7 hw7 hwn7=>?_);refine AN ?_;refine AX ?_;refine A2 ?_;refine AR (a:=.lst nmbad) (by kernel_rfl) ?_;refine AN ?_;refine AX ?_;refine A2 ?_;refine A3 ?_;refine A3 ?_;refine Ad (d:=.ref n7) (by kernel_rfl) ?_;refine AR (a:=.lst (nmbad.map λo=>.tup [.str "let",o,one])) (by kernel_rfl) ?_;refine KG hn7 (by rw[AAH,AAG,AAG,AAG,show nmbad.length=11 from rfl];omega) ?_;refine AR (Hq (xs:=nmbad) (F:=λo=>D.tup [.str "get",o,.str bb.nm]) (by kernel_rfl) (by decide) λz _=>by
  refine A4 (ds:=[.str "get",z,.str bb.nm]) (μ1:=ν7) (Aw (x:=.str "get") (ds:=[z,.str bb.nm]) (μ1:=ν7) (by kernel_rfl) (Aw (x:=z) (ds:=[.str bb.nm]) (μ1:=ν7) (by kernel_rfl) (Aw (x:=.str bb.nm) (ds:=[]) (μ1:=ν7) (BK (x:=.lst ((own m.bs h.nm++oth m.bs h.nm).map D.str)) (y:=.int 0) (μ1:=ν7) (μ2:=ν7) (BK (x:=.lst ((own m.bs h.nm).map D.str)) (y:=.lst ((oth m.bs h.nm).map D.str)) (μ1:=ν7) (μ2:=ν7) (by kernel_rfl) (by kernel_rfl) ?_) (by kernel_rfl) ?_) (by kernel_rfl)))) (Ga (AAE rfl))
  ·show Am _ ν7=_;rw[←AAY];exact Bu (by rw[AAG,AAH,szl];omega)
  ·refine HS ?_;rw[eb,AAX];exact K3.at0 _ _) ?_
 have hsum:∀{a b:List D} {QD:D->Mh->Prop},a.length+b.length<=1000000->(∀n8 ν8,ν8[n8]?=some (.lst (a++b))->WellAt ν8 w->w<n8->QD (.ref n8) ν8)->WP (DK (.lst a) (.lst b)) ν7 QD:=λ{a b QD} hl q=>⟨.ref ν7.length,ν7++[.lst (a++b)],(show FA (a++b) ν7=_ from Hm (by rw[szl,AAH];omega)),q _ _ List.getElem?_concat_length hw7.app hw7.lt⟩;refine hsum (by simp only[AAH,AAG,show nmbad.length=11 from rfl];omega) (λn8 ν8 hn8 hw8 hwn8=>?_);have a8:∀d∈R6++(((oth m.bs h.nm).map D.str).map λb=>D.tup [.str "put",b,one])++(nmbad.map λo=>D.tup [.str "let",o,one])++(nmbad.map λo=>D.tup [.str "get",o,.str bb.nm]),RowIs (m.bs.map kv) h.nm (i==0) h.rs.length d false:=CH (CH (CH a6 (T9 C)) Vs) (Vr gb);have l8:42<=(R6++(((oth m.bs h.nm).map D.str).map λb=>D.tup [.str "put",b,one])++(nmbad.map λo=>D.tup [.str "let",o,one])++(nmbad.map λo=>D.tup [.str "get",o,.str bb.nm])).length/\(R6++(((oth m.bs h.nm).map D.str).map λb=>D.tup [.str "put",b,one])++(nmbad.map λo=>D.tup [.str "let",o,one])++(nmbad.map λo=>D.tup [.str "get",o,.str bb.nm])).length<=100:=by
  simp only[AAH,AAG,show nmbad.length=11 from rfl];omega
 generalize R6++(((oth m.bs h.nm).map D.str).map λb=>D.tup [.str "put",b,one])++(nmbad.map λo=>D.tup [.str "let",o,one])++(nmbad.map λo=>D.tup [.str "get",o,.str bb.nm])=R8 at hn8 a8 l8;refine AN ?_;refine AX ?_;refine A2 ?_;refine AR (a:=vE) (by kernel_rfl) ?_;refine AN ?_;refine AX ?_;refine Cc ?_;refine BG ?_;refine A3 ?_;refine Ad (d:=.int i) (by kernel_rfl) ?_;refine Cq ?_;by_cases z:i=0
 ·subst z;refine IA rfl ?_;refine Av ?_;refine EG ?_;refine Cz ?_;refine A3 ?_;refine Ad (d:=.ref n8) (by kernel_rfl) ?_;refine AR (a:=.lst [.tup [.str "tell",one],.tup [.str "tell",vE]]) (by kernel_rfl) ?_;refine KG hn8 (by simp;omega) ?_;refine FP ?_;exact⟨_,_,rfl,q _ _ (CH a8 Qd) (by simp) (by simp;omega) hw8⟩
 ·refine GP (by omega) ?_;refine Av ?_;refine C0 ?_;refine CI ?_;have hi:(i==0)=false:=AAe.mpr z;rw[hi] at a8;refine AN ?_;refine AX ?_;refine Ep (bs:=[D.tup [.str "done"],.tup [.str "let",.str "x",vE],.tup [.str "unless",.tup [.str "not",vE],.int 0],.tup [.str "tell",.tup [.str "+",one,vE]]]) hn8 (by kernel_rfl) (by kernel_rfl) (by simp;omega) hw8 (λn9 ν9 hn9 hw9 hwn9=>?_);refine AN ?_;refine Cz ?_;refine A3 ?_;refine Ad (d:=.ref n9) (by kernel_rfl) ?_;refine AR (Hq (xs:=(own m.bs h.nm).map D.str) (F:=λb=>D.tup [.str "put",b,vE]) (by kernel_rfl) (by rw[AAG];omega) λz _=>by kernel_rfl) ?_;refine KG hn9 (by simp only[AAH,AAG,AAI,List.length_nil];omega) ?_;exact⟨_,_,rfl,q _ _ (by rw[hi];exact CH (CH a8 (Qy hl0)) (T7 C)) (by simp only[AAH,AAG,AAI,List.length_nil];omega) (by simp only[AAH,AAG,AAI,List.length_nil];omega) hw9⟩
end
section
variable{μ ν:Mh}{QD:D->Mh->Prop}{w:Nat}{m:Mk}{i:Nat}{h:Hd}
theorem KF(C:Ctx m i h)(hw:WellAt μ w)(q:∀d ν,RowIs (m.bs.map kv) h.nm (i==0) h.rs.length d false->QD d ν):WP (K4.f_Lotherwise [.ref w,m.toD,.int i]) μ QD:=by
 have hnm:=C.hand.1.ok;have hl0:(0:Int)<=((h.rs.length:Nat):Int):=by omega
 have hm6:=C.ok.most;have lo:=Kg m.bs h.nm;unfold K4.f_Lotherwise;refine Cv rfl ?_;unfold K4.m_Lotherwise;refine AX ?_;refine Cc ?_;refine BG ?_;refine A3 ?_;refine AZ ?_;refine AR (a:=[.ref w,.int 3]) rfl ?_;refine Bm hw (by decide) (by decide) (λr μ1 h1 h2 hw1 _=>?_);refine Cq ?_;refine NX ?_;refine Av ?_;refine Er (λ_=>?_) (λ_=>?_)
 ·refine AX ?_;refine A2 ?_;refine AZ ?_;refine AR (a:=[.ref w,m.toD,.int i]) rfl ?_;refine Mc C hw1 (λRs ν1 hR h0 h1000 hw2=>?_);refine AN ?_;refine Cz ?_;refine A3 ?_;refine Ad rfl ?_;refine AZ ?_;refine AR (a:=[.ref w,.int Rs.length]) (Aw (μ1:=ν1) rfl (Aw (ds:=[]) (μ1:=ν1) (A4 (ds:=[.lst Rs]) (μ1:=ν1) rfl Ix) rfl)) ?_;refine Bm hw2 (by omega) (by omega) (λr ν2 h3 h4 _ _=>?_);refine EX h3 h4 (λd hd=>?_);refine FP ?_;exact⟨_,_,rfl,q d _ (hR d hd)⟩
 ·refine CI ?_;refine AN ?_;refine AX ?_;refine A2 ?_;refine AZ ?_;refine AR (a:=[.ref w]) rfl ?_;refine Md hw1 (λE ν1 bE hw2=>?_);refine AN ?_;refine AX ?_;refine A2 ?_;refine Fg ?_;refine AR (EU (x:=.tup (m.bs.map Bx.toD)) (ds:=m.bs.map Bx.toD) rfl rfl) ?_;refine⟨by rw[szl,AAG];omega,?_⟩;refine GR (f:=Bx.toD) (p:=λb=>b.wr==h.nm) (F:=λb=>.str b.nm) (λb hb=>?_) ?_
  ·refine⟨[some b.toD,some (.int i),some m.toD],_,rfl,rfl,?_⟩;refine BG ?_;refine A3 ?_;refine AR (a:=.str b.wr) rfl ?_;refine A3 ?_;refine A3 ?_;refine AR (a:=.tup (m.hs.map Hd.toD)) rfl ?_;refine Ad rfl ?_;refine EO C.atI ?_;refine Cq ?_;refine AR (a:=.str h.nm) rfl ?_;refine F5 (C.wr b hb) hnm ?_;exact⟨_,rfl,rfl,rfl,λ_=>⟨.str b.nm,_,rfl,rfl,rfl⟩⟩
  ·have eo:(m.bs.filter λb=>b.wr==h.nm).map (λb=>D.str b.nm)=(own m.bs h.nm).map D.str:=by unfold own;rw[List.map_map];rfl
   rw[eo];refine EF (by rw[AAG,szl];omega) ?_;refine AN ?_;refine AX ?_;refine A2 ?_;refine A3 ?_;refine AR (a:=.lst [.tup [.str "let",.str "x",E],.tup [.str "unless",E,.int 0]]) (by kernel_rfl) ?_;refine AR (Hq (xs:=(own m.bs h.nm).map D.str) (F:=λb=>D.tup [.str "put",b,E]) (by kernel_rfl) (by rw[AAG];omega) λz _=>by kernel_rfl) ?_;have aR:∀d∈[D.tup [.str "let",.str "x",E],.tup [.str "unless",E,.int 0]]++((own m.bs h.nm).map D.str).map (λb=>D.tup [.str "put",b,E]),RowIs (m.bs.map kv) h.nm (i==0) h.rs.length d false:=by
    refine CH ?_ ?_
    ·simp only[AAr];exact⟨bE.letr,bE.unl hl0,λ_ h=>nomatch h⟩
    ·intro d hd;obtain⟨z,hz,rfl⟩:=AAM.mp hd;obtain⟨x,hx,rfl⟩:=AAM.mp hz;exact bE.put (N4 C hx)
   have lR:0<([D.tup [.str "let",.str "x",E],.tup [.str "unless",E,.int 0]]++((own m.bs h.nm).map D.str).map (λb=>D.tup [.str "put",b,E])).length/\([D.tup [.str "let",.str "x",E],.tup [.str "unless",E,.int 0]]++((own m.bs h.nm).map D.str).map (λb=>D.tup [.str "put",b,E])).length<=100:=by
    simp only[AAH,AAG,AAI,List.length_nil];omega
   generalize e10:[D.tup [.str "let",.str "x",E],.tup [.str "unless",E,.int 0]]++((own m.bs h.nm).map D.str).map (λb=>D.tup [.str "put",b,E])=R at aR lR;refine⟨.ref ν1.length,ν1++[.lst R],?_,?_⟩
   ·show FA _ ν1=_;rw[e10];exact Hm (by rw[szl];omega)
   ·have hn:(ν1++[MO.lst R])[ν1.length]?=some (.lst R):=List.getElem?_concat_length;have hw3:WellAt (ν1++[MO.lst R]) w:=hw2.app;have hwn:=hw2.lt;generalize ν1++[MO.lst R]=ν3 at hn hw3;generalize List.length ν1=n at hn hwn;have fin:∀{τ:Sl} {R:List D} {ν:Mh},τ[0]?=some (some (.ref w))->τ[3]?=some (some (.ref n))->ν[n]?=some (.lst R)->WellAt ν w->(∀d∈R,RowIs (m.bs.map kv) h.nm (i==0) h.rs.length d false)->0<R.length->R.length<=1000->WP (BA (mOp AT (AD 3) (AF BC (AB (AD 0) (AB (AF Bk (AB (AD 3) AH)) AH)))) τ) ν λr μ2=>∃d τ2,r=(.rt d,τ2)/\QD d μ2:=by
     intro τ R ν t0 t3 hn hw aR l1 l2;refine Cz ?_;refine A3 ?_;refine Ad t3 ?_;refine AZ ?_;refine Ab ?_;refine Ad t0 ?_;refine Ab ?_;refine AZ ?_;refine Ab ?_;refine Ad t3 ?_;refine Bl ?_;refine Sy hn ?_;refine Bl ?_;refine Bm hw (by omega) (by omega) (λr ν2 h3 h4 _ u=>?_);refine QA (n:=n) (by rw[u.other (by omega)];exact hn) h3 h4 (λd hd=>?_);exact⟨_,_,rfl,q d _ (aR d hd)⟩
    refine AN ?_;refine AX ?_;refine Cc ?_;refine BG ?_;refine A3 ?_;refine Ad (d:=.int i) (by kernel_rfl) ?_;refine Cq ?_;refine NX ?_;refine Av ?_;refine Er (λ_=>?_) (λ_=>?_)
    ·refine QC (d:=.tup [.str "tell",E]) hn (by kernel_rfl) (by kernel_rfl) (by omega) hw3 hwn (λν4 hn4 hw4=>?_);refine AN ?_;exact fin (by kernel_rfl) (by kernel_rfl) hn4 hw4 (CH aR (by simp only[AAr];exact⟨bE.tell,λ_ h=>nomatch h⟩)) (by simp) (by simp;omega)
    ·refine CI ?_;refine AN ?_;exact fin (by kernel_rfl) (by kernel_rfl) hn hw3 aR lR.1 (by omega)
theorem Hw{kd:Str}{sz bg:Int}{ds es:List D}{nm wi:D}{rs:List D}{p:Nat}{d:D}(hi:atI es (i:Int)=some (.tup [nm,wi,.tup rs]))(hie:i<es.length)(he:es.length<=4)(hp:p<rs.length)(hr:rs.length<=60)
  (q:QD (.tup [.str kd,.int sz,.int bg,.tup ds,.tup (es.take i++[.tup [nm,wi,.tup (rs.take p++[d]++rs.drop (p+1))]]++es.drop (i+1))]) μ):WP (K4.f_Lwith_row [.tup [.str kd,.int sz,.int bg,.tup ds,.tup es],.int i,.int p,d]) μ QD:=by
 unfold K4.f_Lwith_row;refine Cv rfl ?_;unfold K4.m_Lwith_row;refine AX ?_;refine Mf ?_;refine A3 ?_;refine AR (a:=.tup es) rfl ?_;refine Ad rfl ?_;refine EO hi ?_;refine AR (a:=[some (.tup [.str kd,.int sz,.int bg,.tup ds,.tup es]),some (.int i),some (.int p),some d,some nm,some wi,some (.tup rs),none]) rfl ?_;wtm_at "a";refine ED p rfl ?_;wtm_at "a";refine DN (by simp;omega) ?_;wtm_at "a";refine DG (p+1) (by omega) (by omega) ?_;refine DN (by simp;omega) ?_;wtm_at "a";refine ED 4 rfl ?_;wtm_at "a";refine ED i rfl ?_;wtm_at "a";refine DN (by simp;omega) ?_;wtm_at "a";refine DG (i+1) (by omega) (by omega) ?_;refine DN (by simp;omega) ?_;wtm_at "a";refine DN (by simp) ?_;exact⟨_,_,rfl,q⟩
end
end K4
namespace K4
open PySem L2 Mi K1 Xc
open K3 (nom szl AR Bm)
noncomputable def hx(h:Hd):Hx:=⟨h.nm,h.wi,h.rs.map λr=>(r.toD,true)⟩
theorem SD(h:Hd):(hx h).toD=h.toD:=by
 unfold Hx.toD hx Hd.toD;rw[List.map_map];rfl
noncomputable def Mr(h:Hd)(p:Nat)(d:D)(b:Bool):Hx:=⟨h.nm,h.wi,(h.rs.map λr=>(r.toD,true)).set p (d,b)⟩
noncomputable def Kh(m:Mk)(i:Nat)(h:Hd)(p:Nat)(d:D)(b:Bool):List Hx:=(m.hs.map hx).set i (Mr h p d b)
theorem Le{α:Type}{l:List α}{i:Nat}{a:α}(h:i<l.length):l.take i++[a]++l.drop (i+1)=l.set i a:=by
 rw[List.set_eq_take_append_cons_drop,if_pos h];simp
section
variable{m:Mk}{i p:Nat}{h:Hd}{d:D}{b:Bool}
theorem Li(hp:p<h.rs.length):(Mr h p d b).toD=.tup [.str h.nm,.int h.wi,.tup ((h.rs.map Rw.toD).take p++[d]++(h.rs.map Rw.toD).drop (p+1))]:=by
 rw[Le (by rw[AAG];exact hp)];unfold Hx.toD Mr;rw[List.map_set,List.map_map];rfl
theorem Lu(C:Ctx m i h):(Kh m i h p d b).map Hx.toD=(m.hs.map Hd.toD).take i++[(Mr h p d b).toD]++(m.hs.map Hd.toD).drop (i+1):=by
 rw[Le (by rw[AAG];exact C.lt)];unfold Kh;rw[List.map_set,List.map_map,show Hx.toD ∘ hx=Hd.toD from funext SD]
theorem VD(C:Ctx m i h):(Kh m i h p d b).map Hx.nm=m.hs.map Hd.nm:=by
 unfold Kh;rw[List.map_set,List.map_map];show (m.hs.map Hd.nm).set i h.nm=_;apply List.ext_getElem?;intro j;by_cases z:i=j
 ·subst z;rw[List.getElem?_set_self (by rw[AAG];exact C.lt),AAW,C.at_];rfl
 ·rw[AAl z]
theorem Ky{m:Mk}(ok:m.Ok){j:Nat}{g:Hd}(e:m.hs[j]?=some g):∀q∈(hx g).xs,RowIs (m.bs.map kv) g.nm (j==0) g.rs.length q.1 q.2:=by
 intro q hq;obtain⟨r,hr,rfl⟩:=AAM.mp hq;exact .good (ok.rows j g e r hr)
theorem N7(C:Ctx m i h)(hp:p<h.rs.length)(hd:RowIs (m.bs.map kv) h.nm (i==0) h.rs.length d b):ZN m.kd m.sz m.bg m.bs (Kh m i h p d b):=by
 have ok:=C.ok;have hlen:(Kh m i h p d b).length=m.hs.length:=by unfold Kh;rw[List.length_set,AAG]
 refine⟨ok.worth,ok.boxes,ok.most,ok.unlike,λg hg=>?_,by rw[hlen];exact ok.least,by rw[hlen];exact ok.mosth,by rw[VD C];exact ok.unlikeh,λb hb=>by rw[VD C];exact ok.writers b hb,λj g e q hq=>?_⟩
 ·rcases List.mem_or_eq_of_mem_set hg with z|z
  ·obtain⟨g',hg',rfl⟩:=AAM.mp z;have:=ok.hands g' hg';exact⟨this.1,this.2.1,this.2.2.1,by show (g'.rs.map _).length<=60;rw[AAG];exact this.2.2.2⟩
  ·subst z;have:=C.hand;exact⟨this.1,this.2.1,this.2.2.1,by show ((h.rs.map _).set p _).length<=60;rw[List.length_set,AAG];exact this.2.2.2⟩
 ·unfold Kh at e;by_cases z:i=j
  ·subst z;rw[List.getElem?_set_self (by rw[AAG];exact C.lt)] at e;cases e;have hl:(Mr h p d b).xs.length=h.rs.length:=by show ((h.rs.map _).set p _).length=_;rw[List.length_set,AAG]
   rw[hl];rcases List.mem_or_eq_of_mem_set hq with z|z
   ·exact Ky ok C.at_ q z
   ·subst z;exact hd
  ·rw[AAl z,AAW] at e;rw[Option.map_eq_some_iff] at e;obtain⟨g',e',rfl⟩:=e;have hl:(hx g').xs.length=g'.rs.length:=by show (g'.rs.map _).length=_;rw[AAG]
   rw[hl];exact Ky ok e' q hq
theorem SE(g:Hd):(hx g).xs.all (·.2)=true:=by
 rw[List.all_eq_true];intro q hq;obtain⟨r,hr,rfl⟩:=AAM.mp hq;rfl
theorem Lv(C:Ctx m i h)(hp:p<h.rs.length):((Kh m i h p d b).all λh=>h.xs.all (·.2))=b:=by
 have hr:(Mr h p d b).xs.all (·.2)=b:=by
  cases b with
  |true=>
   rw[List.all_eq_true];intro q hq;rcases List.mem_or_eq_of_mem_set hq with z|z
   ·obtain⟨r,hr,rfl⟩:=AAM.mp z;rfl
   ·subst z;rfl
  |false=>
   rw[List.all_eq_false];exact⟨(d,false),List.mem_set (by rw[AAG];exact hp) _,by simp⟩
 cases b with
 |true=>
  rw[List.all_eq_true];intro g hg;rcases List.mem_or_eq_of_mem_set hg with z|z
  ·obtain⟨g',_,rfl⟩:=AAM.mp z;exact SE g'
  ·subst z;exact hr
 |false=>
  rw[List.all_eq_false];exact⟨Mr h p d false,List.mem_set (by rw[AAG];exact C.lt) _,by rw[hr];simp⟩
def ZL(d:D):Prop:=∀(μ:Mh) (QX:Dx->Mh->Prop),(∀ν,QX (.inr nom) ν)->WP (K4.f_check_makingX [d]) μ QX
def ZO(d:D):Prop:=∀(μ:Mh) (QX:Dx->Mh->Prop),(∀ν,QX (.inl .non) ν)->WP (K4.f_check_makingX [d]) μ QX
noncomputable def UA(m:Mk)(i:Nat)(h:Hd)(p:Nat)(d:D):D:=.tup [.str m.kd,.int m.sz,.int m.bg,.tup (m.bs.map Bx.toD),.tup ((m.hs.map Hd.toD).take i++[.tup [.str h.nm,.int h.wi,.tup ((h.rs.map Rw.toD).take p++[d]++(h.rs.map Rw.toD).drop (p+1))]]++(m.hs.map Hd.toD).drop (i+1))]
theorem Qx(C:Ctx m i h)(hp:p<h.rs.length)(hd:RowIs (m.bs.map kv) h.nm (i==0) h.rs.length d false):ZL (UA m i h p d):=λμ QX q=>by
 unfold UA;rw[←Li (b:=false) hp,←Lu C];exact F4 (N7 C hp hd) (λe=>by rw[Lv C hp] at e;cases e) (λ_=>q)
theorem Rp(C:Ctx m i h)(hp:p<h.rs.length)(hd:RowIs (m.bs.map kv) h.nm (i==0) h.rs.length d true):ZO (UA m i h p d):=λμ QX q=>by
 unfold UA;rw[←Li (b:=true) hp,←Lu C];exact F4 (N7 C hp hd) (λ_=>q) (λe=>by rw[Lv C hp] at e;cases e)
theorem Rq(ok:m.Ok):ZO m.toD:=λμ QX q=>by
 have e:m.toD=.tup [.str m.kd,.int m.sz,.int m.bg,.tup (m.bs.map Bx.toD),.tup ((m.hs.map hx).map Hx.toD)]:=by
  rw[List.map_map,show Hx.toD ∘ hx=Hd.toD from funext SD];rfl
 rw[e];refine F4 ⟨ok.worth,ok.boxes,ok.most,ok.unlike,λg hg=>?_,by rw[AAG];exact ok.least,by rw[AAG];exact ok.mosth,by rw[List.map_map];exact ok.unlikeh,λb hb=>by rw[List.map_map];exact ok.writers b hb,λj g e q hq=>?_⟩ (λ_=>q) (λe=>?_)
 ·obtain⟨g',hg',rfl⟩:=AAM.mp hg;have:=ok.hands g' hg';exact⟨this.1,this.2.1,this.2.2.1,by show (g'.rs.map _).length<=60;rw[AAG];exact this.2.2.2⟩
 ·rw[AAW,Option.map_eq_some_iff] at e;obtain⟨g',e',rfl⟩:=e;have hl:(hx g').xs.length=g'.rs.length:=by show (g'.rs.map _).length=_;rw[AAG]
  rw[hl];exact Ky ok e' q hq
 ·have:((m.hs.map hx).all λh=>h.xs.all (·.2))=true:=by
   rw[List.all_eq_true];intro g hg;obtain⟨g',_,rfl⟩:=AAM.mp hg;exact SE g'
  rw[this] at e;cases e
theorem Oc{μ:Mh}{QD:D->Mh->Prop}{d:D}(h:ZL d)(q:∀ν,QD (.bl true) ν):WP (K4.f_Lrefused [d]) μ QD:=by
 unfold K4.f_Lrefused;refine Cv rfl ?_;unfold K4.m_Lrefused;wtm_at "a";refine VT ?_;wtm_at "a";refine h _ _ λν=>?_;refine wxk_r ?_;refine⟨by simp,?_⟩;have hn:(ν++[MO.exc nom.1 nom.2])[ν.length]?=some (.exc "NoMaking" none):=List.getElem?_concat_length;wtm_at "a";refine Ma (b:=false) ?_;wtm_at "a";refine⟨_,_,_,rfl,hn,rfl,?_⟩;wtm_at "a";refine Ma (b:=true) ?_;wtm_at "a";refine⟨_,_,_,rfl,hn,rfl,?_⟩;wtm_at "a";refine Ma (b:=true) ?_;wtm_at "a";refine⟨_,_,_,rfl,hn,rfl,?_⟩;wtm_at "a";refine QE ?_;wtm_at "a";exact⟨_,_,rfl,q _⟩
end
noncomputable def zer:Rw->Rw
 | .unless e _=>.unless e 0
 | .jump _=>.jump 0
 |r=>r
noncomputable def Fw(h:Hd):Hd:=⟨h.nm,h.wi,(h.rs++[Rw.jump 0]).take 8⟩
noncomputable def HW(h:Hd):Hd:=⟨h.nm,h.wi,h.rs.map zer⟩
theorem QY{μ:Mh}(r:Rw):K4.f_Lwithin [r.toD] μ=some ((zer r).toD,μ):=by
 cases r with
 |put _ _|get _ _|letr _ _ | «unless» _ _|jump _|tell _|done=>kernel_rfl
noncomputable def mk2(m:Mk):Mk:=⟨m.kd,m.sz,m.bg,m.bs,(m.hs.map Fw).map HW⟩
theorem VS{L:List (Key×D)}{nm:Str}{wr:Bool}{l l':Int}{r:Rw}(hl:0<=l')(h:r.Ok L nm wr l):(zer r).Ok L nm wr l':=by
 obtain⟨hf,he,hv,hs,ht⟩:=h;cases r with
 | «unless» e t=>exact⟨⟨hf.1,(by decide:(0:Int)<=0),hl⟩,trivial,hv,trivial,trivial⟩
 |jump t=>exact⟨⟨(by decide:(0:Int)<=0),hl⟩,trivial,hv,trivial,trivial⟩
 |put _ _|get _ _|letr _ _|tell _|done=>exact⟨hf,he,hv,hs,ht⟩
theorem Uc{L:List (Key×D)}{nm:Str}{wr:Bool}{l':Int}(hl:0<=l'):(Rw.jump 0).Ok L nm wr l':=⟨⟨(by decide:(0:Int)<=0),hl⟩,trivial,(λx hx=>(nomatch hx)),trivial,trivial⟩
theorem Wy{m:Mk}(h:m.Ok):(mk2 m).Ok:=by
 have nms:((m.hs.map Fw).map HW).map Hd.nm=m.hs.map Hd.nm:=by rw[List.map_map,List.map_map];rfl
 refine⟨h.worth,h.boxes,h.most,h.unlike,λg hg=>?_,by show 2<=((m.hs.map Fw).map HW).length;rw[AAG,AAG];exact h.least,by show ((m.hs.map Fw).map HW).length<=4;rw[AAG,AAG];exact h.mosth,by show (((m.hs.map Fw).map HW).map Hd.nm).Nodup;rw[nms];exact h.unlikeh,λb hb=>by show b.wr∈((m.hs.map Fw).map HW).map Hd.nm;rw[nms];exact h.writers b hb,λi g e r hr=>?_⟩
 ·obtain⟨g1,hg1,rfl⟩:=AAM.mp hg;obtain⟨g2,hg2,rfl⟩:=AAM.mp hg1;have:=h.hands g2 hg2;refine⟨this.1,this.2.1,this.2.2.1,?_⟩;show (((g2.rs++[Rw.jump 0]).take 8).map zer).length<=60;rw[AAG,List.length_take];omega
 ·have e:((m.hs.map Fw).map HW)[i]?=some g:=e;rw[AAW,AAW,Option.map_eq_some_iff] at e;obtain⟨g1,e1,rfl⟩:=e;rw[Option.map_eq_some_iff] at e1;obtain⟨g2,e2,rfl⟩:=e1;obtain⟨r0,hr0,rfl⟩:=AAM.mp hr;rcases AAK.mp (List.mem_of_mem_take hr0) with z|z
  ·exact VS (by omega) (h.rows i g2 e2 r0 z)
  ·rw[AAL] at z;subst z;exact Uc (by omega)
theorem Ww{m:Mk}:∀h∈(mk2 m).hs,1<=h.rs.length:=by
 intro g hg;obtain⟨g1,hg1,rfl⟩:=AAM.mp hg;obtain⟨g2,hg2,rfl⟩:=AAM.mp hg1;show 1<=(((g2.rs++[Rw.jump 0]).take 8).map zer).length;rw[AAG,List.length_take,AAH];simp;omega
theorem Uu(h:Hd):(Fw h).toD=.tup [.str h.nm,.int h.wi,.tup ((h.rs.map Rw.toD++[D.tup [.str "jump",.int 0]]).take 8)]:=by
 show D.tup [.str h.nm,.int h.wi,.tup (((h.rs++[Rw.jump 0]).take 8).map Rw.toD)]=_;rw[List.map_take,AAY];rfl
noncomputable def twE(w:Str):Nat->Ex
 |0=>.num 1
 |n+1=>if w = "not" then .neg (twE w n) else .pair w (.num 0) (twE w n)
theorem Qa(w:Str):∀n,tw w n=(twE w n).toD
 |0=>rfl
 |n+1=>by
  unfold tw twE;by_cases h:w = "not"
  ·rw[if_pos h,if_pos h,Qa w n];rfl
  ·rw[if_neg h,if_neg h,Qa w n];rfl
theorem U7{w:Str}(hw:w = "not" ∨ w∈pairWords):∀n,(twE w n).Ok (n+1)/\(twE w n).vars=[]
 |0=>⟨(by decide:(0:Int)<=1/\(1:Int)<=9),rfl⟩
 |n+1=>by
  have ih:=U7 hw n;unfold twE;by_cases h:w = "not"
  ·rw[if_pos h];exact ih
  ·rw[if_neg h];exact⟨⟨hw.resolve_left h,(by decide:(0:Int)<=0/\(0:Int)<=9),ih.1⟩,ih.2⟩
end K4
namespace K4
open PySem L2 Mi K1 Xc
open K3 (nom szl AR Bm LO Hz KC EE DN ED N8 VQ)
noncomputable def W2:Sl->M (Fl×Sl):=(AS (Ai (AF Gj (AB (AD 7) AH)) (AM 8))
  (AS (Ai (mOp DX (AF BC (AB (AD 8) (AB (AF Bk (AB (AD 5) AH)) AH))) (AF JA (AB (mOp Ie (AF BC (AB (AD 8) (AB (mC (.int 3)) AH))) (mC (.int 0))) AH))) (AM 9))
  (AS (Ai (AF BC (AB (AD 8) (AB (AF Bk (AB (mOp AT (mOp AT (AD 5) (AD 9)) (mC (.int 2))) AH)) AH))) (AM 10))
  (sIf (M8 (Ac (AF f_Lrefused (AB (AF f_Lwith_row (AB (AD 6) (AB (AD 9) (AB (AD 10) (AB (AF f_Lotherwise (AB (AD 8) (AB (AD 6) (AB (AD 9) AH)))) AH))))) AH)))) (BA (mC (.bl false))) BT))))
noncomputable def W1:Sl->M (Fl×Sl):=(AS (Ai (AF f_Ltower (AB (mOp AT (AF Am (AB (mC (.str "not")) (AB (mC (.str "+")) (AB (mC (.str "or")) (AB (mC (.str "<")) AH))))) (mOp FT (AF CT (AB (AD 0) (AB (mC (.int 1)) AH))) (mC (.int 4)))) (AB (mC (.int 4)) AH))) (AM 11))
  (BA (DE (mOp (JY false) (AF (vals f_check_makingX) (AB (AF f_Lwith_row (AB (AD 6) (AB (mC (.int 1)) (AB (mC (.int 0)) (AB (AF AY (AB (mC (.str "tell")) (AB (AD 11) AH))) AH))))) AH)) (mC .non)) (mOp (JY false) (AF (vals f_check_makingX) (AB (AD 6) AH)) (mC .non)))))
section
variable{m:Mk}(ok:m.Ok)(bne:m.bs≠[])(nox:("nobox" : Str)∉m.bs.map Bx.nm)(rl:∀h∈m.hs,1<=h.rs.length){ns:List Int}
include ok bne nox rl in
theorem SY{i:Nat}(hi:i<m.hs.length):∃h,Ctx m i h:=⟨m.hs[i],ok,bne,nox,AAs hi,rl _ (List.getElem_mem hi)⟩
include ok bne nox rl in
theorem Eu{μ:Mh}{c:Int}{o1 o2 o3 o4 o8 o9 o10 o11:Option D}{QS:Fl×Sl->Mh->Prop}(q:∀p8 p9 p10 ν,QS (.next,[some (.scr ns),o1,o2,o3,o4,some (.tup (m.hs.map Hd.toD)),some m.toD,some (.int c),p8,p9,p10,o11]) ν):
  WP (W2 [some (.scr ns),o1,o2,o3,o4,some (.tup (m.hs.map Hd.toD)),some m.toD,some (.int c),o8,o9,o10,o11]) μ QS:=by
 have h2:=ok.least;have h4:=ok.mosth;unfold W2;refine AX ?_;refine A2 ?_;refine AZ ?_;refine AR (a:=[.int c]) rfl ?_;refine KC (λa k ha hw=>?_);generalize μ++[MO.lst [D.int a,.int k,.int 0]]=ν0 at hw;generalize List.length μ=w at hw;refine AN ?_;refine AX ?_;refine A2 ?_;refine A3 ?_;refine AZ ?_;refine AR (a:=[.ref w,.int m.hs.length]) (by
  refine Aw (μ1:=ν0) rfl (Aw (ds:=[]) (μ1:=ν0) (A4 (ds:=[.tup (m.hs.map Hd.toD)]) (μ1:=ν0) rfl ?_) rfl);rw[Iw,AAG]) ?_
 refine Bm hw (by omega) (by omega) (λr ν1 r0 r1 hw1 _=>?_);obtain⟨i,rfl⟩:=Int.eq_ofNat_of_zero_le r0;refine AZ ?_;refine Ab ?_;refine A3 ?_;refine AZ ?_;refine AR (a:=[.ref w,.int 3]) rfl ?_;refine Bm hw1 (by decide) (by decide) (λs ν2 s0 s1 hw2 _=>?_);refine Cq ?_;refine NX ?_;refine Bl ?_;refine NW ?_;refine QK (.inl (by omega)) ?_;have hi:∃j:Nat,j<m.hs.length/\(i:Int) * (if decide (0<s)=true then 1 else 0)=j:=by
  by_cases z:0<s
  ·exact⟨i,by omega,by rw[AAP z,if_pos rfl];omega⟩
  ·exact⟨0,by omega,by rw[AAO z,if_neg (by decide)];omega⟩
 obtain⟨j,hj,ej⟩:=hi;rw[ej];obtain⟨h,C⟩:=SY ok bne nox rl hj;have hr:=C.hand.2.2.2;have hr1:=C.rl;refine AN ?_;refine AX ?_;refine A2 ?_;refine AZ ?_;refine AR (a:=[.ref w,.int h.rs.length]) (by
  refine Aw (μ1:=ν2) rfl (Aw (ds:=[]) (μ1:=ν2) (A4 (ds:=[.tup (h.rs.map Rw.toD)]) (μ1:=ν2) (Aw (ds:=[]) (μ1:=ν2) (BK (x:=h.toD) (y:=.int 2) (μ1:=ν2) (μ2:=ν2) (BK (x:=.tup (m.hs.map Hd.toD)) (y:=.int j) (μ1:=ν2) (μ2:=ν2) rfl rfl (F0 C.atI)) rfl rfl) rfl) ?_) rfl);rw[Iw,AAG]) ?_
 refine Bm hw2 (by omega) (by omega) (λpp ν3 p0 p1 hw3 _=>?_);obtain⟨p,rfl⟩:=Int.eq_ofNat_of_zero_le p0;refine AN ?_;refine Cc ?_;refine IB ?_;refine BG ?_;refine AZ ?_;refine Ab ?_;refine AZ ?_;refine Ab ?_;refine Ad (d:=m.toD) rfl ?_;refine Ab ?_;refine Ad (d:=.int j) rfl ?_;refine Ab ?_;refine Ad (d:=.int p) rfl ?_;refine Ab ?_;refine AZ ?_;refine AR (a:=[.ref w,m.toD,.int j]) rfl ?_;refine KF C hw3 (λd ν4 hd=>?_);refine Bl ?_;refine Hw (es:=m.hs.map Hd.toD) C.atI (by rw[AAG];exact hj) (by rw[AAG];exact h4) (by rw[AAG];omega) (by rw[AAG];exact hr) ?_;refine Bl ?_;refine Oc (Qx C (by omega) hd) (λν5=>?_);refine Av ?_;refine C0 ?_;refine CI ?_;exact q _ _ _ _
include ok bne nox rl in
theorem Yp{μ:Mh}{o1 o2 o3 o4 o5 o7 o8 o9 o10 o11:Option D}{QS:Fl×Sl->Mh->Prop}(q:∀τ ν,QS (.rt (.bl true),τ) ν):
  WP (W1 [some (.scr ns),o1,o2,o3,o4,o5,some m.toD,o7,o8,o9,o10,o11]) μ QS:=by
 have h2:=ok.least;have h4:=ok.mosth;unfold W1;refine AX ?_;refine A2 ?_;refine AZ ?_;refine Ab ?_;refine A3 ?_;refine AR (a:=.lst [.str "not",.str "+",.str "or",.str "<"]) (by kernel_rfl) ?_;refine A3 ?_;refine AZ ?_;refine AR (a:=[.scr ns,.int 1]) rfl ?_;refine Hz (λc=>?_);refine Cq ?_;refine QM (by decide) ?_;obtain⟨x,hx,e⟩:=GD (f:=D.str) (xs:=["not", "+", "or", "<"]) (i:=c % 4) (by omega) (by show c % 4<4;omega);have hxx:PyData.strOk x=true/\(x = "not" ∨ x∈pairWords):=by
  have:∀x∈(["not", "+", "or", "<"]:List Str),PyData.strOk x=true/\(x = "not" ∨ x∈pairWords):=by decide +kernel
  exact this x hx
 refine EQ e ?_;refine AR (a:=[.int 4]) rfl ?_;refine FO hxx.1 4 rfl (by decide) ?_;obtain⟨t1,t2⟩:=U7 hxx.2 4;obtain⟨h,C⟩:=SY ok bne nox rl (i:=1) (by omega);have hr:=C.hand.2.2.2;have hr1:=C.rl;have good:RowIs (m.bs.map kv) h.nm ((1:Nat)==0) h.rs.length (.tup [.str "tell",tw x 4]) true:=by
  rw[Qa];exact .good (r:=.tell (twE x 4)) ⟨t1,rfl,(λy hy=>by rw[show (Rw.tell (twE x 4)).vars=(twE x 4).vars from rfl,t2] at hy;cases hy),trivial,trivial⟩
 refine AN ?_;refine Cz ?_;refine EY ?_;refine A3 ?_;refine AZ ?_;refine Ab ?_;refine AZ ?_;refine AR (a:=[m.toD,.int 1,.int 0,.tup [.str "tell",tw x 4]]) (by kernel_rfl) ?_;refine Hw (i:=1) (p:=0) (es:=m.hs.map Hd.toD) C.atI (by rw[AAG];omega) (by rw[AAG];exact h4) (by rw[AAG];omega) (by rw[AAG];exact hr) ?_;refine Bl ?_;refine KD ?_;refine Rp C (by omega) good _ _ (λν=>⟨.non,rfl,?_⟩);refine Cq ?_;refine H9 ?_;refine Dp ?_;refine A3 ?_;refine AZ ?_;refine AR (a:=[m.toD]) rfl ?_;refine KD ?_;refine Rq ok _ _ (λν=>⟨.non,rfl,?_⟩);refine Cq ?_;refine H9 ?_;exact q _ _
include ok bne nox rl in
theorem rest(hl:ns.length<=63){μ:Mh}{o1 o2 o3 o4:Option D}{QS:Fl×Sl->Mh->Prop}(q:∀τ ν,QS (.rt (.bl true),τ) ν):
  WP (AS (sIf (Ac (mOp (JY true) (AF (vals f_check_makingX) (AB (AD 6) AH)) (mC .non))) (BA (mC (.bl false))) BT)
  (AS (Dv (CC (mOp A7 (AF Am (AB (AF CT (AB (AD 0) (AB (mC (.int 1)) AH))) AH)) (Ej (AD 0) (Bz (mC (.int 2))) (Bz (mC (.int 22)))))) (AM 7) W2) W1) [some (.scr ns),o1,o2,o3,o4,some (.tup (m.hs.map Hd.toD)),some m.toD,none,none,none,none,none]) μ QS:=by
 wtm_at "a";refine KD ?_;refine Rq ok _ _ (λν=>⟨.non,rfl,?_⟩);wtm_at "a";refine Hz (λc=>?_);wtm_at "a";obtain⟨cs,ecs,hcs⟩:∃cs:List Int,FN (ns.map D.int) (some 2) (some 22)=cs.map D.int/\cs.length<=63:=by
  unfold FN;refine⟨(ns.drop (HT.sIx (ns.map D.int).length 0 (some 2))).take (HT.sIx (ns.map D.int).length (ns.map D.int).length (some 22)-HT.sIx (ns.map D.int).length 0 (some 2)),by rw[List.map_take,List.map_drop],?_⟩;rw[List.length_take,List.length_drop];omega
 refine AR (a:=.lst (cs.map D.int)) (by show some (D.lst (FN (ns.map D.int) (some 2) (some 22)),ν)=_;rw[ecs]) ?_;refine EE (by simp;omega) ?_;wtm_at "a";refine DZ (I:=λrest τ _=>∃(xs:List Int) (o7 o8 o9 o10:Option D),rest=xs.map D.int/\τ=[some (.scr ns),o1,o2,o3,o4,some (.tup (m.hs.map Hd.toD)),some m.toD,o7,o8,o9,o10,none]) ?_ ?_ ⟨c::cs,none,none,none,none,rfl,rfl⟩
 ·rintro x xs τ ν ⟨l,o7,o8,o9,o10,er,rfl⟩;cases l with
  |nil=>cases er
  |cons c l=>
   obtain⟨rfl,rfl⟩:=List.cons.inj er;refine EZ ?_;refine Eu ok bne nox rl (λp8 p9 p10 ν'=>?_);refine Ci ?_;exact⟨l,_,_,_,_,rfl,rfl⟩
 ·rintro τ ν ⟨l,o7,o8,o9,o10,er,rfl⟩;refine AN ?_;exact Yp ok bne nox rl q
end
theorem Rb:("nobox" : Str)∉[("only" : Str)]:=by decide +kernel
theorem math:∀ns:List Int,ns.length<=63->∃μ',K4.f_law [.scr ns] []=some (.bl true,μ'):=by
 intro ns hl;have key:WP (K4.f_law [.scr ns]) [] λd _=>d=.bl true:=by
  unfold K4.f_law;refine KI rfl ?_;unfold K4.m_law;refine AX ?_;refine Mf ?_;wtm_at "a";refine LO (λc=>?_);wtm_at "a";refine KC (λa k ha hw=>?_);wtm_at "a";refine K3.wx_making hw (λm ν h hn nox=>?_);refine AR (a:=[some (.scr ns),some (.str m.kd),some (.int m.sz),some (.int m.bg),some (.tup (m.bs.map Bx.toD)),some (.tup (m.hs.map Hd.toD)),none,none,none,none,none,none]) rfl ?_;refine AN ?_;refine AX ?_;refine Ag (Q:=λz _=>∃bs:List Bx,(Mk.mk m.kd m.sz m.bg bs m.hs).Ok/\bs≠[]/\("nobox" : Str)∉bs.map Bx.nm/\z=(Fl.next,[some (.scr ns),some (.str m.kd),some (.int m.sz),some (.int m.bg),some (.tup (bs.map Bx.toD)),some (.tup (m.hs.map Hd.toD)),none,none,none,none,none,none])) ?_ ?_
  ·by_cases hb:m.bs=[]
   ·have hE:BF (.tup (m.bs.map Bx.toD)) (.tup []) ν=some (.bl true,ν):=by rw[hb];kernel_rfl
    wtm_at "a";refine AR hE ?_;obtain⟨h0,h1,hr,eh⟩:∃h0 h1 hr,m.hs=h0::h1::hr:=by
     have:=h.least
     match m.hs,this with
     |h0::h1::hr,_=>exact⟨h0,h1,hr,rfl⟩
    have hI:atI (m.hs.map Hd.toD) 1=some h1.toD:=by
     rw[eh];unfold atI ixN;rw[if_pos (by decide),if_pos (by simp;omega)];rfl
    wtm_at "a";refine EO hI ?_;wtm_at "a";refine EO (ds:=[.str h1.nm,.int h1.wi,.tup (h1.rs.map Rw.toD)]) (d:=.str h1.nm) rfl ?_;wtm_at "a";exact⟨_,N8 (h1:=h1) h hb (by rw[eh];simp),by simp,Rb,rfl⟩
   ·have hE:BF (.tup (m.bs.map Bx.toD)) (.tup []) ν=some (.bl false,ν):=VQ h hb;wtm_at "a";refine AR hE ?_;wtm_at "a";exact⟨m.bs,h,hb,nox,rfl⟩
  ·rintro _ ν' ⟨bs,h,hb,nox,rfl⟩;refine AN ?_;refine AX ?_;refine A2 ?_;refine AZ ?_;refine Ab ?_;refine Fg ?_;refine AR (EU (x:=.tup (m.hs.map Hd.toD)) (ds:=m.hs.map Hd.toD) rfl rfl) ?_;have h4:m.hs.length<=4:=h.mosth;refine⟨by rw[szl,AAG];omega,?_⟩;refine GR (f:=Hd.toD) (p:=λ_=>true) (F:=λg=>(Fw g).toD) (λg hg=>?_) ?_
   ·have hr:g.rs.length<=60:=(h.hands g hg).2.2.2;refine⟨[some (.str g.nm),some (.int g.wi),some (.tup (g.rs.map Rw.toD))],_,rfl,rfl,true,_,rfl,rfl,rfl,λ_=>?_⟩;rw[Uu];wtm_at "a";refine DN (by simp;omega) ?_;wtm_at "a";refine ED 8 rfl ?_;wtm_at "a";exact⟨rfl,rfl⟩
   ·rw[List.filter_eq_self.mpr (λ_ _=>rfl)];refine EF (by rw[szl,AAG];omega) ?_;refine Bl ?_;refine Hi ?_;refine AN ?_;refine AX ?_;refine A2 ?_;refine AZ ?_;refine Ab ?_;refine Fg ?_;have em:m.hs.map (λg=>(Fw g).toD)=(m.hs.map Fw).map Hd.toD:=by rw[List.map_map];rfl
    rw[em];refine AR (EU (x:=.tup ((m.hs.map Fw).map Hd.toD)) (ds:=(m.hs.map Fw).map Hd.toD) rfl rfl) ?_;refine⟨by rw[szl,AAG,AAG];omega,?_⟩;refine GR (f:=Hd.toD) (p:=λ_=>true) (F:=λg=>(HW g).toD) (λg hg=>?_) ?_
    ·have hr:g.rs.length<=60:=by
      obtain⟨g',_,rfl⟩:=AAM.mp hg;show ((g'.rs++[Rw.jump 0]).take 8).length<=60;rw[List.length_take];omega
     refine⟨[some (.str g.nm),some (.int g.wi),some (.tup (g.rs.map Rw.toD))],_,rfl,rfl,true,_,rfl,rfl,rfl,λ_=>?_⟩;refine AZ ?_;refine Ab ?_;refine Ad rfl ?_;refine Ab ?_;refine Ad rfl ?_;refine Ab ?_;refine AZ ?_;refine Ab ?_;refine Fg ?_;refine AR (EU (x:=.tup (g.rs.map Rw.toD)) (ds:=g.rs.map Rw.toD) rfl rfl) ?_;refine⟨by rw[szl,AAG];omega,?_⟩;refine GR (f:=Rw.toD) (p:=λ_=>true) (F:=λr=>(zer r).toD) (λr _=>?_) ?_
     ·refine⟨[some r.toD],_,rfl,rfl,true,_,rfl,rfl,rfl,λ_=>?_⟩;refine AZ ?_;refine AR (a:=[r.toD]) rfl ?_;refine AR (QY r) ?_;exact⟨rfl,rfl⟩
     ·rw[List.filter_eq_self.mpr (λ_ _=>rfl)];refine EF (by rw[szl,AAG];omega) ?_;refine Bl ?_;refine Hi ?_;refine Bl ?_;refine GQ (AAE rfl) ?_;refine⟨?_,rfl⟩;show _=D.tup [.str g.nm,.int g.wi,.tup ((g.rs.map zer).map Rw.toD)];rw[List.map_map];rfl
    ·rw[List.filter_eq_self.mpr (λ_ _=>rfl)];have em2:(m.hs.map Fw).map (λg=>(HW g).toD)=((m.hs.map Fw).map HW).map Hd.toD:=by rw[List.map_map (f:=HW)];rfl
     rw[em2];refine EF (by rw[szl,AAG,AAG,AAG];omega) ?_;refine Bl ?_;refine Hi ?_;refine AN ?_;refine AX ?_;refine A2 ?_;refine AZ ?_;refine AR (a:=[.str m.kd,.int m.sz,.int m.bg,.tup (bs.map Bx.toD),.tup (((m.hs.map Fw).map HW).map Hd.toD)]) rfl ?_;refine GQ (AAE rfl) ?_;refine AN ?_;refine rest (m:=mk2 ⟨m.kd,m.sz,m.bg,bs,m.hs⟩) (Wy h) hb nox Ww hl (λτ ν=>?_);exact⟨_,_,ν,rfl,rfl,by unfold Cl;trivial,rfl⟩
 obtain⟨d,μ',e,rfl⟩:=key;exact⟨μ',e⟩
end K4
open PySem PySem.W PyProof.Rows
local macro_rules | `(tactic| wtm_at "c")=>`(tactic| (refine' Mi.ZC ?qa ?ql ?qc ?qk;(case qa=>k_is);(case ql=>k_is);(case qc=>k_is);(case qk=>k_is)))
local macro_rules | `(tactic| wtm_at "u")=>`(tactic| (refine' Mi.dc_mk ?qa ?qb ?qc ?qd ?qe ?qf;(case qa=>k_is);(case qb=>k_is);(case qc=>k_is);(case qd=>k_is);(case qe=>k_is)))
local macro_rules | `(tactic| wtm_at "t")=>`(tactic| (refine' Mi.di_mk ?qa ?qb ?qc ?qd ?qe ?qf ?qg ?qh;(case qa=>k_is);(case qb=>k_is);(case qc=>k_is);(case qd=>k_is);(case qe=>k_is);(case qf=>k_is);(case qg=>k_is);(case qh=>k_is)))
local macro_rules | `(tactic| wtm_at "v")=>`(tactic| (refine' Mi.dm_mk ?qa ?qb ?qc ?qd ?qe ?qf ?qg ?qh ?qi ?qj;(case qa=>k_is);(case qb=>k_is);(case qc=>k_is);(case qd=>k_is);(case qe=>k_is);(case qf=>k_is);(case qg=>k_is);(case qh=>k_is);(case qi=>k_is);(case qj=>k_is)))
local macro_rules | `(tactic| wtm_at "i")=>`(tactic| (refine' Mi.X1 ?pl ?pe;(case pl=>k_is);(case pe=>rfl)))
set_option maxRecDepth 100000 in
set_option maxHeartbeats 0 in
theorem PySem.Challenge.cw_strongboxes_k04_rows_that_are_none_holds : PySem.Challenge.rw_strongboxes_k04_rows_that_are_none.Holds := by
 w_on;o_law;k_head;(case hw=>w_witness2)
 k_fill
 refine Mi.Xr (k:=14) (l:=PySem.Challenge.rw_strongboxes_k04_rows_that_are_none) rfl rfl (by decide) (λw h Y=>PySem.W.kIn_of Y) ?F
 case F=>
  intro w mg fa h KX G hmg;refine' K4.all_mk K4.math KX G hmg ?dY ?fN ?fK ?fH ?fZ ?eD ?dz ?fG ?dU ?dX ?be ?eB ?cx ?bz ?cI ?bi ?dw ?cb ?bn ?cG ?cK ?bC ?ce ?bc ?dA ?eR ?cu ?dF ?cm ?dE ?dc ?gD  ?x_NoEvents ?x_NoLine ?x_NoMaking ?x_NoPaper ?x_NoStep ?x_NoText ?x_NoUpon ?x_StrongError ?x_TooMany ?xr_NoMaking ?xc_StrongError ?xb_StrongError ?xtb_NoEvents_NoLine_NoPaper_NoStep_NoText_NoUpon_TooMany ?xtb_NoMaking ?xtb_ValueError ?cr ?gE ?fi ?c9 ?gB ?cp ?gM ?f6 ?gK ?fF ?f8 ?gI ?fE ?gG ?cV ?bo ?dR ?aw ?bK ?cT ?bJ ?bD ?bT ?bU ?av ?al ?bG ?bR
  (case dY=>wtm_at "c")
  (case fN=>wtm_at "c")
  (case fK=>wtm_at "c")
  (case fH=>wtm_at "c")
  (case fZ=>wtm_at "c")
  (case eD=>wtm_at "c")
  (case dz=>wtm_at "c")
  (case fG=>wtm_at "c")
  (case dU=>wtm_at "c")
  (case dX=>wtm_at "c")
  (case be=>wtm_at "c")
  (case eB=>wtm_at "c")
  (case cx=>wtm_at "c")
  (case bz=>wtm_at "c")
  (case cI=>wtm_at "c")
  (case bi=>wtm_at "c")
  (case dw=>wtm_at "c")
  (case cb=>wtm_at "c")
  (case bn=>wtm_at "c")
  (case cG=>wtm_at "c")
  (case cK=>wtm_at "c")
  (case bC=>wtm_at "c")
  (case ce=>wtm_at "c")
  (case bc=>wtm_at "c")
  (case dA=>wtm_at "c")
  (case eR=>wtm_at "c")
  (case cu=>wtm_at "c")
  (case dF=>wtm_at "c")
  (case cm=>wtm_at "c")
  (case dE=>wtm_at "c")
  (case dc=>wtm_at "c")
  (case gD=>wtm_at "c")
  (case x_NoEvents=>refine' Xc.cls_mk ?qa;(case qa=>k_is))
  (case x_NoLine=>refine' Xc.cls_mk ?qa;(case qa=>k_is))
  (case x_NoMaking=>refine' Xc.cls_mk ?qa;(case qa=>k_is))
  (case x_NoPaper=>refine' Xc.cls_mk ?qa;(case qa=>k_is))
  (case x_NoStep=>refine' Xc.cls_mk ?qa;(case qa=>k_is))
  (case x_NoText=>refine' Xc.cls_mk ?qa;(case qa=>k_is))
  (case x_NoUpon=>refine' Xc.cls_mk ?qa;(case qa=>k_is))
  (case x_StrongError=>refine' Xc.cls_mk ?qa;(case qa=>k_is))
  (case x_TooMany=>refine' Xc.cls_mk ?qa;(case qa=>k_is))
  (case xr_NoMaking=>refine' Xc.ec_mk ?qa ?qb;(case qa=>k_is);(case qb=>k_exc))
  (case xc_StrongError=>refine' Xc.cd_mk ?qa ?qb ?qc ?qd;(case qa=>k_is);(case qb=>k_is);(case qc=>k_is);(case qd=>k_is))
  (case xb_StrongError=>refine' Xc.bl_mk ?qa ?qb ?qc;(case qa=>k_is);(case qb=>k_is);(case qc=>k_is))
  (case xtb_NoEvents_NoLine_NoPaper_NoStep_NoText_NoUpon_TooMany=>refine' Xc.tbT_mk ?qa ?ql ?qf ?qk;(case qa=>k_is);(case ql=>refine' Xc.NsV.cons ?v ?r;(case v=>k_is);(case r=>refine' Xc.NsV.cons ?v ?r;(case v=>k_is);(case r=>refine' Xc.NsV.cons ?v ?r;(case v=>k_is);(case r=>refine' Xc.NsV.cons ?v ?r;(case v=>k_is);(case r=>refine' Xc.NsV.cons ?v ?r;(case v=>k_is);(case r=>refine' Xc.NsV.cons ?v ?r;(case v=>k_is);(case r=>refine' Xc.NsV.cons ?v ?r;(case v=>k_is);(case r=>exact Xc.NsV.nil))))))));(case qf=>refine' Xc.ea_mk ?u1 ?u2 ?u3 ?u4 ?u5 ?u6 ?u7 ?u8;(case u1=>k_is);(case u2=>k_is);(case u3=>k_is);(case u4=>k_is);(case u5=>k_is);(case u6=>k_is);(case u7=>k_is);(case u8=>k_is));(case qk=>kit_is))
  (case xtb_NoMaking=>refine' Xc.tbT_mk ?qa ?ql ?qf ?qk;(case qa=>k_is);(case ql=>refine' Xc.NsV.cons ?v ?r;(case v=>k_is);(case r=>exact Xc.NsV.nil));(case qf=>refine' Xc.ea_mk ?u1 ?u2 ?u3 ?u4 ?u5 ?u6 ?u7 ?u8;(case u1=>k_is);(case u2=>k_is);(case u3=>k_is);(case u4=>k_is);(case u5=>k_is);(case u6=>k_is);(case u7=>k_is);(case u8=>k_is));(case qk=>kit_is))
  (case xtb_ValueError=>refine' Xc.tb_mk ?qa ?qf ?qk;(case qa=>k_is);(case qf=>refine' Xc.ea_mk ?u1 ?u2 ?u3 ?u4 ?u5 ?u6 ?u7 ?u8;(case u1=>k_is);(case u2=>k_is);(case u3=>k_is);(case u4=>k_is);(case u5=>k_is);(case u6=>k_is);(case u7=>k_is);(case u8=>k_is));(case qk=>kit_is))
  (case cr=>k_is)
  (case gE=>k_is)
  (case fi=>k_is)
  (case c9=>k_is)
  (case gB=>k_is)
  (case cp=>k_is)
  (case gM=>k_is)
  (case f6=>k_is)
  (case gK=>k_is)
  (case fF=>k_is)
  (case f8=>k_is)
  (case gI=>k_is)
  (case fE=>k_is)
  (case gG=>k_is)
  (case cV=>refine' Mi.Dk KX G ?qa;(case qa=>k_is))
  (case bo=>refine' Mi.Dk KX G ?qa;(case qa=>k_is))
  (case dR=>refine' Mi.K5 KX G ?qa ?ql ?qh;(case qa=>k_is);(case ql=>wtm_at "i");(case qh=>decide))
  (case aw=>refine' Mi.Dk KX G ?qa;(case qa=>k_is))
  (case bK=>refine' Mi.Dk KX G ?qa;(case qa=>k_is))
  (case cT=>refine' Mi.Uj KX G ?qa;(case qa=>k_is))
  (case bJ=>refine' Mi.Dk KX G ?qa;(case qa=>k_is))
  (case bD=>refine' Mi.Dk KX G ?qa;(case qa=>k_is))
  (case bT=>refine' Mi.Dk KX G ?qa;(case qa=>k_is))
  (case bU=>refine' Mi.Dk KX G ?qa;(case qa=>k_is))
  (case av=>refine' Mi.Dk KX G ?qa;(case qa=>k_is))
  (case al=>refine' Mi.K5 KX G ?qa ?ql ?qh;(case qa=>k_is);(case ql=>wtm_at "i");(case qh=>decide))
  (case bG=>refine' Mi.K5 KX G ?qa ?ql ?qh;(case qa=>k_is);(case ql=>wtm_at "i");(case qh=>decide))
  (case bR=>refine' Mi.UZ KX G ?qa ?ql ?qk ?qs ?qT;(case qa=>k_is);(case ql=>k_is);(case qk=>exact⟨⟨_,_,rfl,rfl⟩,⟨⟨_,_,rfl,rfl⟩,⟨⟨_,_,rfl,rfl⟩,⟨⟨_,_,rfl,rfl⟩,⟨⟨_,_,rfl,rfl⟩,⟨⟨_,_,rfl,rfl⟩,⟨⟨_,_,rfl,rfl⟩,trivial⟩⟩⟩⟩⟩⟩⟩);(case qs=>rfl);(case qT=>refine' ⟨_,_,_,_,_,rfl,rfl,rfl,?qt,?qu,?_⟩;(case qt=>wtm_at "i");(case qu=>decide);refine' ⟨_,_,_,_,_,rfl,rfl,rfl,?qt,?qu,?_⟩;(case qt=>wtm_at "i");(case qu=>decide);refine' ⟨_,_,_,_,_,rfl,rfl,rfl,?qt,?qu,?_⟩;(case qt=>wtm_at "i");(case qu=>decide);refine' ⟨_,_,_,_,_,rfl,rfl,rfl,?qt,?qu,?_⟩;(case qt=>wtm_at "i");(case qu=>decide);refine' ⟨_,_,_,_,_,rfl,rfl,rfl,?qt,?qu,?_⟩;(case qt=>wtm_at "i");(case qu=>decide);refine' ⟨_,_,_,_,_,rfl,rfl,rfl,?qt,?qu,?_⟩;(case qt=>wtm_at "i");(case qu=>decide);refine' ⟨_,_,_,_,_,rfl,rfl,rfl,?qt,?qu,?_⟩;(case qt=>wtm_at "i");(case qu=>decide);rfl))
