import PyProof.Rows.All
import Wide.All
import Wide.FinOn
import OpenK.KLine
import KE.KPairTest
import KE.KDictSum
import KE.KDictOf
import KE.KRevSl
import KE.KDictList
import KE.KIsAll
import KE.KPairComp
import KE.KItem
import PyProof.EqAt
import PyProof.EqKinds
import PyProof.TupleCall
import KE.KEqDict
import PySem.Challenge.RW_strongboxes_k23_rows_without_a_step
set_option Elab.async false
set_option linter.all false
set_option maxRecDepth 100000
set_option maxHeartbeats 4000000
set_option autoImplicit true
set_option relaxedAutoImplicit true
section
open PySem PySem.W PyProof.Rows
abbrev AAA:=@wpAny_bind
abbrev AAB:=@wpAny_pure
abbrev AAC:=@Heap.get?_push_of_some
abbrev AAD:=@Heap.get?_push_size
abbrev AAE:=@Nat.le_of_ble_eq_true
abbrev AAF:=@Nat.le_refl
abbrev AAG:=@List.length_map
abbrev AAH:=@List.length_append
abbrev AAI:=@List.length_cons
abbrev AAJ:=@List.mem_cons
abbrev AAK:=@List.mem_append
abbrev AAL:=@List.mem_singleton
abbrev AAM:=@List.mem_map
abbrev AAN:=@Nat.lt_of_lt_of_le
abbrev AAO:=@decide_eq_false
abbrev AAP:=@decide_eq_true
abbrev AAQ:=@List.mem_cons_self
abbrev AAR:=@List.mem_cons_of_mem
abbrev AAS:=@List.getElem?_append_right
abbrev AAT:=@List.getElem?_append_left
abbrev AAU:=@List.getElem?_eq_some_iff
abbrev AAV:=@List.mem_of_getElem?
abbrev AAW:=@List.getElem?_map
abbrev AAX:=@List.map_cons
abbrev AAY:=@List.map_append
abbrev AAZ:=@Int.emod_nonneg
abbrev AAa:=@Int.emod_lt_of_pos
abbrev AAb:=@List.append_nil
abbrev AAc:=@List.mem_append_right
abbrev AAd:=@List.mem_append_left
abbrev AAe:=@wpAny_call_entry
abbrev AAf:=@Nat.ne_of_lt
abbrev AAg:=@beq_eq_false_iff_ne
abbrev AAh:=@List.set_append_right
abbrev AAi:=@Bool.false_ne_true
abbrev AAj:=@Nat.lt_succ_of_lt
abbrev AAk:=@wpAny_setState_of
abbrev AAl:=@wpAny_mono
abbrev AAm:=@Nat.zero_le
abbrev AAn:=@List.replicate_succ
abbrev AAo:=@List.length_replicate
abbrev AAp:=@List.getElem?_set_ne
abbrev AAq:=@wpAny_holding
abbrev AAr:=@wpAny_setField_rec
abbrev AAs:=@wpAny_newObj_type
abbrev AAt:=@Nat.lt_of_le_of_lt
abbrev AAu:=@Nat.le_trans
abbrev AAv:=@List.getElem?_eq_getElem
abbrev AAw:=@wpAny_of_eq
abbrev AAx:=@wpAny_field
abbrev AAy:=@wpAny_seqItems
abbrev AAz:=@wpAny_attempt
abbrev AA0:=@wpAny_isInstance
abbrev AA1:=@Nat.sub_self
abbrev AA2:=@Nat.lt_irrefl
abbrev AA3:=@List.pairwise_cons
end
noncomputable def PySem.W.Fast.tw202034986056574564:Nat:=0
noncomputable def PySem.W.Fast.tw11999260912234138459:Nat:=0
noncomputable def PySem.W.Fast.tw5379724867163794876:Nat:=0
noncomputable def PySem.W.Fast.tw8852184420417583834:Nat:=0
noncomputable def PySem.W.Fast.tw10311345102407854454:Nat:=0
noncomputable def PySem.W.Fast.tw8560192521374734820:Nat:=0
noncomputable def PySem.W.Fast.tw7285181343416593394:Nat:=0
noncomputable def PySem.W.Fast.tw8959927005666712799:Nat:=0
noncomputable def PySem.W.Fast.tw2540471559886851122:Nat:=0
noncomputable def PySem.W.Fast.tw254087583853472862:Nat:=0
noncomputable def PySem.W.Fast.tw12343280681119235609:Nat:=0
noncomputable def PySem.W.Fast.tw18051482412007367761:Nat:=0
noncomputable def PySem.W.Fast.tw5936879653245041426:Nat:=0
noncomputable def PySem.W.Fast.tw15916895246622383026:Nat:=0
noncomputable def PySem.W.Fast.tw4846014745885716315:Nat:=0
noncomputable def PySem.W.Fast.tw9774412113657453153:Nat:=0
noncomputable def PySem.W.Fast.tw11115179204098259570:Nat:=0
noncomputable def PySem.W.Fast.tw13185445877117700977:Nat:=0
noncomputable def PySem.W.Fast.tw9084909072169349485:Nat:=0
noncomputable def PySem.W.Fast.tw9341586935784707557:Nat:=0
noncomputable def PySem.W.Fast.tw2739170026200935130:Nat:=0
noncomputable def PySem.W.Fast.tw958858793011607083:Nat:=0
noncomputable def PySem.W.Fast.tw6658148293646814095:Nat:=0
noncomputable def PySem.W.Fast.tw18222540570018433921:Nat:=0
noncomputable def PySem.W.Fast.tw15559048175932830780:Nat:=0
noncomputable def PySem.W.Fast.tw16915628405684435661:Nat:=0
noncomputable def PySem.W.Fast.tw2930303889468265070:Nat:=0
noncomputable def PySem.W.Fast.tw6056274178843821828:Nat:=0
noncomputable def PySem.W.Fast.tw13189937439944727498:Nat:=0
noncomputable def PySem.W.Fast.tw10793760013071677568:Nat:=0
noncomputable def PySem.W.Fast.tw13916532513392992966:Nat:=0
noncomputable def PySem.W.Fast.tw11934323852262445345:Nat:=0
noncomputable def PySem.W.Fast.tw2530347753400796833:Nat:=0
noncomputable def PySem.W.Fast.tw375488346551113430:Nat:=0
noncomputable def PySem.W.Fast.tw14272645923233566070:Nat:=0
noncomputable def PySem.W.Fast.tw17016166781712278243:Nat:=0
noncomputable def PySem.W.Fast.tw6059651530403819952:Nat:=0
noncomputable def PySem.W.Fast.tw12409985492012726217:Nat:=0
noncomputable def PySem.W.Fast.tw1420005395380171715:Nat:=0
noncomputable def PySem.W.Fast.tw3215349841384294726:Nat:=0
noncomputable def PySem.W.Fast.tw8312210084785650429:Nat:=0
noncomputable def PySem.W.Fast.tw11752511567334521040:Nat:=0
noncomputable def PySem.W.Fast.tw10492404696489935357:Nat:=0
noncomputable def PySem.W.Fast.tw16126680383025355406:Nat:=0
noncomputable def PySem.W.Fast.tw4813869849520122929:Nat:=0
noncomputable def PySem.W.Fast.tw8434459720907395405:Nat:=0
noncomputable def PySem.W.Fast.tw14449147580796698491:Nat:=0
noncomputable def PySem.W.Fast.tw3585132074532636687:Nat:=0
noncomputable def PySem.W.Fast.tw10123756711116173271:Nat:=0
noncomputable def PySem.W.Fast.tw1339860436692694942:Nat:=0
noncomputable def PySem.W.Fast.tw10267186122597424681:Nat:=0
noncomputable def PySem.W.Fast.tw3360164256489978096:Nat:=0
noncomputable def PySem.W.Fast.tw11931838237891548174:Nat:=0
noncomputable def PySem.W.Fast.tw12865896469270083878:Nat:=0
noncomputable def PySem.W.Fast.tw12252710622629512686:Nat:=0
noncomputable def PySem.W.Fast.tw9112905066422058303:Nat:=0
noncomputable def PySem.W.Fast.tw4316311104275315602:Nat:=0
noncomputable def PySem.W.Fast.tw17544769961575073044:Nat:=0
noncomputable def PySem.W.Fast.tw519659335035317568:Nat:=0
noncomputable def PySem.W.Fast.tw4022828708763266916:Nat:=0
noncomputable def PySem.W.Fast.tw6277163339340072861:Nat:=0
noncomputable def PySem.W.Fast.tw6766129740433051272:Nat:=0
noncomputable def PySem.W.Fast.tw6545165601480585286:Nat:=0
noncomputable def PySem.W.Fast.tw4696195803312246242:Nat:=0
noncomputable def PySem.W.Fast.tw13658486371715436413:Nat:=0
noncomputable def PySem.W.Fast.tw8969375376063211110:Nat:=0
noncomputable def PySem.W.Fast.tw13116164061522398230:Nat:=0
noncomputable def PySem.W.Fast.tw14710187118401780509:Nat:=0
noncomputable def PySem.W.Fast.tw3039089408047926947:Nat:=0
noncomputable def PySem.W.Fast.tw16446478961362293478:Nat:=0
noncomputable def PySem.W.Fast.tw2986255737587159127:Nat:=0
noncomputable def PySem.W.Fast.tw8452719061238221837:Nat:=0
noncomputable def PySem.W.Fast.tw8870878344422697990:Nat:=0
noncomputable def PySem.W.Fast.tw9560067686640211830:Nat:=0
noncomputable def PySem.W.Fast.tw9084922810975178023:Nat:=0
noncomputable def PySem.W.Fast.tw2354260109060701320:Nat:=0
noncomputable def PySem.W.Fast.tw793462632419759401:Nat:=0
noncomputable def PySem.W.Fast.tw6541190418363102489:Nat:=0
noncomputable def PySem.W.Fast.tw13363053135252243421:Nat:=0
noncomputable def PySem.W.Fast.tw7848744762934858005:Nat:=0
noncomputable def PySem.W.Fast.tw2155503907605448344:Nat:=0
noncomputable def PySem.W.Fast.tw171219115726694379:Nat:=0
noncomputable def PySem.W.Fast.tw3307828814662389003:Nat:=0
noncomputable def PySem.W.Fast.tw2587868698411316960:Nat:=0
noncomputable def PySem.W.Fast.tw5752943440944898311:Nat:=0
noncomputable def PySem.W.Fast.tw15703140713424282434:Nat:=0
noncomputable def PySem.W.Fast.tw12590109318131952804:Nat:=0
noncomputable def PySem.W.Fast.tw16884383327411294330:Nat:=0
noncomputable def PySem.W.Fast.tw8123880359111623258:Nat:=0
noncomputable def PySem.W.Fast.tw6171043748847995083:Nat:=0
noncomputable def PySem.W.Fast.tw7423321806545741341:Nat:=0
noncomputable def PySem.W.Fast.tw13381067560145849236:Nat:=0
noncomputable def PySem.W.Fast.tw15254435016577989419:Nat:=0
noncomputable def PySem.W.Fast.tw2801332037215307287:Nat:=0
noncomputable def PySem.W.Fast.tw17587815066366133815:Nat:=0
noncomputable def PySem.W.Fast.tw4484837980939198708:Nat:=0
noncomputable def PySem.W.Fast.tw16157579862875158744:Nat:=0
noncomputable def PySem.W.Fast.tw15549040831150449668:Nat:=0
noncomputable def PySem.W.Fast.tw17984177426303938610:Nat:=0
noncomputable def PySem.W.Fast.tw18002288534793245383:Nat:=0
noncomputable def PySem.W.Fast.tw2225605144326724023:Nat:=0
noncomputable def PySem.W.Fast.tw11518485659549727666:Nat:=0
noncomputable def PySem.W.Fast.tw1021144428765428804:Nat:=0
noncomputable def PySem.W.Fast.tw11003900575857698912:Nat:=0
noncomputable def PySem.W.Fast.tw6264878258127794239:Nat:=0
noncomputable def PySem.W.Fast.tw14900742526628030343:Nat:=0
noncomputable def PySem.W.Fast.tw15420732929895826319:Nat:=0
noncomputable def PySem.W.Fast.tw10674728254279104466:Nat:=0
noncomputable def PySem.W.Fast.tw13550004389909997554:Nat:=0
noncomputable def PySem.W.Fast.tw17331096015743004528:Nat:=0
noncomputable def PySem.W.Fast.tw977042748920068957:Nat:=0
noncomputable def PySem.W.Fast.tw10772501420280148721:Nat:=0
noncomputable def PySem.W.Fast.tw3296130601187731262:Nat:=0
noncomputable def PySem.W.Fast.tw13491431355264158405:Nat:=0
noncomputable def PySem.W.Fast.tw11501954997771884275:Nat:=0
noncomputable def PySem.W.Fast.tw9319290940801524863:Nat:=0
noncomputable def PySem.W.Fast.tw12349283958200325678:Nat:=0
noncomputable def PySem.W.Fast.tw817366759602209831:Nat:=0
noncomputable def PySem.W.Fast.tw13162280532656749863:Nat:=0
noncomputable def PySem.W.Fast.tw18230920873927474020:Nat:=0
namespace L2
open PySem PySem.Spec PyProof.Rows
abbrev Key:=Sum Int Str
noncomputable def KR:Key->Value->Bool
 | .inl k,v=>Value.isInt k v
 | .inr x,v=>Value.isStrOf x v
noncomputable def aa(w:World):Key->Int
 | .inl k=>hashInt k
 | .inr x=>hashStr w x
theorem BT:∀{k:Key} {v:Value},KR k v=true->(∃i t,k=Sum.inl i/\v=Value.int i t)∨(∃x t,k=Sum.inr x/\v=Value.str x t)
 | .inl i,v,h=>by
  obtain⟨t,e⟩:=Value.isInt_shape (k:=i) (v:=v) h;exact .inl ⟨i,t,rfl,e⟩
 | .inr x,v,h=>by
  obtain⟨t,e⟩:=Value.isStrOf_shape (x:=x) (v:=v) h;exact .inr ⟨x,t,rfl,e⟩
theorem QX(i:Int)(t:Tok):KR (.inl i) (.int i t)=true:=by simp[KR,Value.isInt]
theorem QW(x:Str)(t:Tok):KR (.inr x) (.str x t)=true:=by simp[KR,Value.isStrOf]
theorem YG(a b:Int):decide ((Sum.inl a:Key)=Sum.inl b)=(a==b):=by
 by_cases e:a=b
 ·subst e;simp
 ·have h:¬(Sum.inl a:Key)=Sum.inl b:=λq=>e (Sum.inl.inj q);rw[AAO h];exact(AAg.mpr e).symm
theorem YD(a b:Str):decide ((Sum.inr a:Key)=Sum.inr b)=decide (a=b):=by
 by_cases e:a=b
 ·subst e;simp
 ·have h:¬(Sum.inr a:Key)=Sum.inr b:=λq=>e (Sum.inr.inj q);rw[AAO h,AAO e]
theorem YF(a:Int)(b:Str):decide ((Sum.inl a:Key)=Sum.inr b)=false:=AAO (λq=>nomatch q)
theorem YE(a:Str)(b:Int):decide ((Sum.inr a:Key)=Sum.inl b)=false:=AAO (λq=>nomatch q)
noncomputable def A9(prog:Program)(w:World):PySem.KeyKind prog w Key where
 is:=KR
 hash:=aa w
 inj:=λv a b ha hb=>by
  rcases BT ha with ⟨i,t,rfl,rfl⟩|⟨x,t,rfl,rfl⟩
  ·rcases BT hb with ⟨j,u,rfl,e⟩|⟨y,u,rfl,e⟩
   ·injection e with e1 _;rw[e1]
   ·exact nomatch e
  ·rcases BT hb with ⟨j,u,rfl,e⟩|⟨y,u,rfl,e⟩
   ·exact nomatch e
   ·injection e with e1 _;rw[e1]
 byValue:=λk v h=>by
  rcases BT h with ⟨i,t,rfl,rfl⟩|⟨x,t,rfl,rfl⟩<;>rfl
 pyHash:=λhv h=>by
  rcases BT hv with ⟨i,t,rfl,rfl⟩|⟨x,t,rfl,rfl⟩
  ·exact wpAny_pyHash_int h
  ·exact wpAny_pyHash_str h
 eqBool:=λhu hv h=>by
  rcases BT hu with ⟨i,t,rfl,rfl⟩|⟨x,t,rfl,rfl⟩
  ·rcases BT hv with ⟨j,u,rfl,rfl⟩|⟨y,u,rfl,rfl⟩
   ·rw[YG] at h;exact wpAny_eqBool_int h
   ·rw[YF] at h;exact SeqAt.EqAt.int_str i t y u _ _ _ _ h
  ·rcases BT hv with ⟨j,u,rfl,rfl⟩|⟨y,u,rfl,rfl⟩
   ·rw[YE] at h;exact SeqAt.EqAt.str_int x t j u _ _ _ _ h
   ·rw[YD] at h;exact wpAny_eqBool_str h
 «strs»:=λk x t v h=>by
  rcases BT h with ⟨i,u,rfl,e⟩|⟨y,u,rfl,e⟩
  ·exact nomatch e
  ·injection e with e1 _
   subst e1;cases v<;>rfl
theorem MW(prog:Program)(w:World)(i:Int)(t:Tok):(A9 prog w).is (.inl i) (.int i t)=true:=QX i t
theorem MV(prog:Program)(w:World)(x:Str)(t:Tok):(A9 prog w).is (.inr x) (.str x t)=true:=QW x t
inductive V where
 |non|bl (b:Bool)|int (i:Int)|str (x:Str)|byt (b:Array UInt8)|flt (b:UInt64)|ref (a:Addr)|ty (n:String)
 deriving DecidableEq
def RelV:V->Value->Prop
 | .non,u=>u=Value.none
 | .bl b,u=>u=Value.bool b
 | .int i,u=>∃t,u=Value.int i t
 | .str x,u=>∃t,u=Value.str x t
 | .byt b,u=>∃t,u=Value.bytes b t
 | .flt b,u=>∃t,u=Value.float b t
 | .ref a,u=>u=Value.ref a
 | .ty n,u=>u=Value.type n
abbrev Vals:List V->List Value->Prop:=Paired RelV
theorem Vals.length(r:Vals xs us):xs.length=us.length:=Paired.length r
theorem Vals.get:∀{xs:List V} {us:List Value} {i:Nat} {x:V},Vals xs us->xs[i]?=some x->∃u,us[i]?=some u/\RelV x u
 |_,_,_,_,.nil,e=>by simp at e
 |_,_,0,_,.cons r _,e=>by simp at e;subst e;exact⟨_,rfl,r⟩
 |_,_,i+1,x,.cons _ t,e=>by
  obtain⟨u,h1,h2⟩:=Vals.get (i:=i) (x:=x) t (by simpa using e);exact⟨u,by simpa using h1,h2⟩
theorem Vals.set(r:RelV x u):∀{xs:List V} {us:List Value} (i:Nat),Vals xs us->Vals (xs.set i x) (us.set i u)
 |_,_,_,.nil=>.nil
 |_,_,0,.cons _ t=>.cons r t
 |_,_,i+1,.cons q t=>.cons q (Vals.set r i t)
theorem Vals.append:∀{xs ys:List V} {us ws:List Value},Vals xs us->Vals ys ws->Vals (xs++ys) (us++ws)
 |_,_,_,_,.nil,s=>s
 |_,_,_,_,.cons r t,s=>.cons r (Vals.append t s)
theorem Vals.take:∀{xs:List V} {us:List Value} (n:Nat),Vals xs us->Vals (xs.take n) (us.take n)
 |_,_,0,_=>.nil
 |_,_,_+1,.nil=>.nil
 |_,_,n+1,.cons r t=>.cons r (Vals.take n t)
theorem Vals.drop:∀{xs:List V} {us:List Value} (n:Nat),Vals xs us->Vals (xs.drop n) (us.drop n)
 |_,_,0,r=>r
 |_,_,_+1,.nil=>.nil
 |_,_,n+1,.cons _ t=>Vals.drop n t
noncomputable def RelO:Option V->Option Value->Prop
 |some v,some u=>RelV v u
 |none,none=>True
 |_,_=>False
noncomputable def KV{κ:Type}:List (κ×V)->List (κ×Value)->Prop:=Paired λ(p:κ×V) (q:κ×Value)=>p.1=q.1/\RelV p.2 q.2
noncomputable def kV:Key->V
 | .inl i=>.int i
 | .inr x=>.str x
inductive HO where
 |lst (xs:List V)
 |tup (xs:List V)
 |dK (kvs:List (Key×V))|dT (kvs:List (List Key×V))
 |set (S:Int->Bool) (n:Nat)
 |ins (C dx:Addr) (fs:List (Str×V))
 |own (x:Addr)
 |xd (fs:List (Str×V))
 |met (f x:Addr)
 |rng (lo hi:Int)
 |frz (o:Obj) (u:HO)
 |tbl (ps:Array Value)
 |ext (φ:Heap->Prop)
abbrev Hp:=Addr->Option HO
noncomputable def upd(H:Hp)(a:Addr)(o:HO):Hp:=λb=>if b=a then some o else H b
theorem BI:upd H a o a=some o:=by unfold upd;rw[if_pos rfl]
theorem A1(h:b≠a):upd H a o b=H b:=by unfold upd;rw[if_neg h]
theorem Zb{H:Hp}(h:H a=some o)(h':H b=some u)(d:o≠u):a≠b:=by
 intro e;subst e;rw[h] at h';exact d (Option.some.inj h')
theorem B4{H:Hp}(h:H a=some o)(h':H b=none):a≠b:=by
 intro e;subst e;rw[h] at h';cases h'
section
variable(P:Program)(w:World)
noncomputable def ObjOk(H:Hp)(h:Heap)(a:Addr):HO->Prop
 | .lst xs=>xs.length<=sizeLine/\∃(its:List Value) (n:Nat),Vals xs its/\h.get? a=some { cls:=.type "list",data:=.seq its.toArray n }
 | .tup xs=>xs.length<=sizeLine/\∃its:List Value,Vals xs its/\IsTup h a its.toArray
 | .dK kvs=>kvs.length<=sizeLine/\(a==sysModules)=false/\∃vs,KV kvs vs/\h.DictOf (A9 P w) a vs
 | .dT kvs=>kvs.length<=sizeLine/\(a==sysModules)=false/\∃xs:List (List Key×Addr×Value),
   Paired (λ(p:List Key×V) (q:List Key×Addr×Value)=>p.1=q.1/\H q.2.1=some (.tup (p.1.map kV))/\RelV p.2 q.2.2) kvs xs /\
   ∃o es ep,h.get? a=some o/\o.ExactDict/\o.data=.dict es ep/\es.toList=xs.map (entryOfKey (tupleKind (A9 P w)))/\(xs.map (·.1)).Nodup
 | .set S n=>h.SetOf (intKind P w) a S n
 | .ins C dx fs=>H dx=some (.own a)/\fs.length<=1000/\dx≠a/\h.get? a=some (PySem.W.instObj C dx) /\
   ∃mA,h.Ns1 dx mA/\(∀f,RelO (fs.lookup f) (mA f))/\PySem.Within mA (fs.map (·.1))
 | .own _=>∃o,h.get? a=some o
 | .xd fs=>∃mA,h.Ns1 a mA/\∀f,RelO (fs.lookup f) (mA f)
 | .rng lo hi=>∃t u v,h.get? a=some { cls:=.type "range",data:=.fields #[.int lo t,.int hi u,.int 1 v] }
 | .frz o u=>h.get? a=some o/\ObjOk H h a u
 | .tbl ps=>h.get? a=some { cls:=.none,data:=.fields ps }
 | .met f x=>h.get? a=some (PySem.W.methodObj (.ref f) (.ref x))
 | .ext φ=>φ h/\(∃o,h.get? a=some o)/\∀h1 h2:Heap,φ h1->(∀o,h1.get? a=some o->h2.get? a=some o)->φ h2
def HOk(H:Hp)(h:Heap):Prop:=∀a o,H a=some o->ObjOk P w H h a o
end
section
variable{P:Program}{w:World}{H H':Hp}{h h':Heap}{a:Addr}{o:HO}
theorem ObjOk.lt(x:ObjOk P w H h a o):a<h.objs.size:=by
 cases o with
 |lst xs=>obtain⟨_,_,_,_,e⟩:=x;exact Heap.lt_size e
 |tup xs=>obtain⟨_,_,_,p⟩:=x;exact p.lt
 |dK kvs=>obtain⟨_,_,_,_,o,_,_,e,_⟩:=x;exact Heap.lt_size e
 |dT kvs=>obtain⟨_,_,_,_,o,_,_,e,_⟩:=x;exact Heap.lt_size e
 |set S n=>obtain⟨o,_,_,_,e,_⟩:=x;exact Heap.lt_size e
 |ins C dx fs=>obtain⟨_,_,_,e,_⟩:=x;exact Heap.lt_size e
 |own y=>obtain⟨_,e⟩:=x;exact Heap.lt_size e
 |xd fs=>obtain⟨_,⟨_,_,_,e,_⟩,_⟩:=x;exact Heap.lt_size e
 |rng lo hi=>obtain⟨_,_,_,e⟩:=x;exact Heap.lt_size e
 |frz ob u=>obtain⟨e,_⟩:=x;exact Heap.lt_size e
 |tbl ps=>exact Heap.lt_size (show h.get? a=some _ from x)
 |met f y=>exact Heap.lt_size (show h.get? a=some _ from x)
 |ext φ=>obtain⟨_,⟨_,e⟩,_⟩:=x;exact Heap.lt_size e
theorem Paired.mapP:∀{l₁:List α} {l₂:List β},Paired F l₁ l₂->(∀a b,F a b->G a b)->Paired G l₁ l₂
 |_,_,.nil,_=>.nil
 |_,_,.cons r t,f=>.cons (f _ _ r) (Paired.mapP t f)
theorem ObjOk.stay(x:ObjOk P w H h a o)(k:∀b u,(b=a∨H b=some (.own a))->h.get? b=some u->h'.get? b=some u)
  (ho:∀b,H b=some (.own a)->H' b=some (.own a)) (ht:∀b xs,H b=some (.tup xs)->H' b=some (.tup xs)):ObjOk P w H' h' a o:=by
 induction o with
 |lst xs=>obtain⟨z,its,n,r,e⟩:=x;exact⟨z,its,n,r,k _ _ (.inl rfl) e⟩
 |tup xs=>obtain⟨z,its,r,ob,e,c⟩:=x;exact⟨z,its,r,ob,k _ _ (.inl rfl) e,c⟩
 |dK kvs=>obtain⟨z,y,vs,r,ob,es,ep,e,c⟩:=x;exact⟨z,y,vs,r,ob,es,ep,k _ _ (.inl rfl) e,c⟩
 |dT kvs=>
  obtain⟨z,y,xs,r,ob,es,ep,e,c⟩:=x;exact⟨z,y,xs,Paired.mapP r λp q z=>⟨z.1,ht _ _ z.2.1,z.2.2⟩,ob,es,ep,k _ _ (.inl rfl) e,c⟩
 |set S n=>obtain⟨ob,es,ep,t,e,c⟩:=x;exact⟨ob,es,ep,t,k _ _ (.inl rfl) e,c⟩
 |ins C dx fs=>
  obtain⟨d,z,ne,e,mA,⟨od,es,ep,e2,c⟩,r⟩:=x;exact⟨ho _ d,z,ne,k _ _ (.inl rfl) e,mA,⟨od,es,ep,k _ _ (.inr d) e2,c⟩,r⟩
 |own y=>obtain⟨ob,e⟩:=x;exact⟨ob,k _ _ (.inl rfl) e⟩
 |xd fs=>obtain⟨mA,⟨od,es,ep,e,c⟩,r⟩:=x;exact⟨mA,⟨od,es,ep,k _ _ (.inl rfl) e,c⟩,r⟩
 |rng lo hi=>obtain⟨t,u,v,e⟩:=x;exact⟨t,u,v,k _ _ (.inl rfl) e⟩
 |frz ob u ih=>obtain⟨e,q⟩:=x;exact⟨k _ _ (.inl rfl) e,ih q⟩
 |tbl ps=>
  have e:h.get? a=some { cls:=.none,data:=.fields ps }:=x;show h'.get? a=some { cls:=.none,data:=.fields ps };exact k a _ (.inl rfl) e
 |met f y=>
  have e:h.get? a=some (PySem.W.methodObj (.ref f) (.ref y)):=x;show h'.get? a=some (PySem.W.methodObj (.ref f) (.ref y));exact k a _ (.inl rfl) e
 |ext φ=>obtain⟨p,⟨o,e⟩,st⟩:=x;exact⟨st _ _ p λo q=>k _ _ (.inl rfl) q,⟨o,k _ _ (.inl rfl) e⟩,st⟩
theorem HOk.lt(x:HOk P w H h)(e:H a=some o):a<h.objs.size:=(x a o e).lt
theorem HOk.fresh(x:HOk P w H h)(e:h.objs.size<=a):H a=none:=by
 cases q:H a with
 |none=>rfl
 |some u=>exact absurd (AAN (x.lt q) e) (AA2 _)
theorem HOk.kept(x:HOk P w H h)(k:∀b u,h.get? b=some u->h'.get? b=some u):HOk P w H h':=λa o e=>
 (x a o e).stay (λb u _ q=>k b u q) (λ_ q=>q) λ_ _ q=>q
theorem HOk.laid(x:HOk P w H h)(k:∀b u,h.get? b=some u->h'.get? b=some u)(hp:h.objs.size<=a)(new:ObjOk P w (upd H a o) h' a o):HOk P w (upd H a o) h':=λb u e=>by
 have hn:=x.fresh hp;by_cases hb:b=a
 ·subst hb;rw[BI] at e;cases e;exact new
 ·rw[A1 hb] at e;exact(x b u e).stay (λc v _ q=>k c v q) (λc q=>by rw[A1 (B4 q hn)];exact q) λc xs q=>by rw[A1 (B4 q hn)];exact q
end
def Rd(H:Hp)(a:Addr)(u:HO):Prop:=H a=some u∨∃o,H a=some (.frz o u)
theorem Rd.ok(r:Rd H a u)(x:HOk P w H h):ObjOk P w H h a u:=by
 rcases r with r|⟨o,r⟩
 ·exact x a u r
 ·obtain⟨_,q⟩:=x a _ r;exact q
noncomputable def Mut:Option HO->Prop
 |some (.lst _)=>True
 |some (.dK _)=>True
 |some (.dT _)=>True
 |some (.set _ _)=>True
 |some (.ins _ _ _)=>True
 |some (.ext _)=>True
 |_=>False
section
variable{P:Program}{w:World}{H:Hp}{h h':Heap}{x e:Addr}{o':HO}
theorem HOk.write(ok:HOk P w H h)(mu:Mut (H x))(he:e=x∨H e=some (.own x))(k:∀b u,b≠e->h.get? b=some u->h'.get? b=some u)(heo:∃u,h'.get? e=some u)
  (new:ObjOk P w (upd H x o') h' x o'):HOk P w (upd H x o') h':=λb u q=>by
 have nown:∀c y,H c=some (.own y)->c≠x:=λc y r z=>by subst z;rw[r] at mu;exact mu
 have ntup:∀c xs,H c=some (.tup xs)->c≠x:=λc xs r z=>by subst z;rw[r] at mu;exact mu
 by_cases hb:b=x
 ·subst hb;rw[BI] at q;cases q;exact new
 ·rw[A1 hb] at q;by_cases hbe:b=e
  ·have q':H b=some (.own x):=by
    rcases he with z|z
    ·exact absurd (hbe.trans z) hb
    ·rw[hbe];exact z
   rw[q] at q';cases q';obtain⟨v,hv⟩:=heo;exact⟨v,by rw[hbe];exact hv⟩
  ·refine(ok b u q).stay (λc v hc r=>k c v ?_ r) (λc r=>by rw[A1 (nown c b r)];exact r) λc xs r=>by rw[A1 (ntup c xs r)];exact r
   rcases hc with rfl|hc
   ·exact hbe
   ·rintro rfl;rcases he with z|z
    ·exact nown c b hc z
    ·rw[hc] at z;cases z;exact hb rfl
end
structure Un(fs ex:List Addr)(H H':Hp)(h h':Heap):Prop where
 keep:∀b o,h.get? b=some o->H b=none->b∉fs->b∉ex->h'.get? b=some o
 slot:∀b o,h.get? b=some o->H b=none->b∈fs->b∉ex->∃sl,h'.get? b=some { o with slots:=sl }
 free:∀b o,h.get? b=some o->H b=none->b∉ex->H' b=none
 there:∀b o,h.get? b=some o->b∉ex->∃o',h'.get? b=some o'
 tups:∀b xs,H b=some (.tup xs)->H' b=some (.tup xs)
 frzs:∀b o u,H b=some (.frz o u)->H' b=some (.frz o u)
 tbls:∀b ps,H b=some (.tbl ps)->∃more,H' b=some (.tbl (ps++more))
section
variable{fs ex:List Addr}{H H1:Hp}{h h1 h':Heap}{a x e:Addr}{o:HO}
theorem Un.any(u:Un fs ex H H1 h h1)(q:h.get? b=some ob)(n:H b=none)(hx:b∉ex):∃sl,h1.get? b=some { ob with slots:=sl }:=by
 by_cases hb:b∈fs
 ·exact u.slot b ob q n hb hx
 ·exact⟨ob.slots,u.keep b ob q n hb hx⟩
theorem Un.kept(k:∀b u,h.get? b=some u->h'.get? b=some u):Un fs ex H H h h':=
 ⟨λb ob q _ _ _=>k b ob q,λb ob q _ _ _=>⟨ob.slots,k b ob q⟩,λ_ _ _ n _=>n,λb ob q _=>⟨ob,k b ob q⟩,λ_ _ q=>q,λ_ _ _ q=>q,λ_ ps q=>⟨#[],by rw[q];simp⟩⟩
theorem Un.refl:Un fs ex H H h h:=Un.kept λ_ _ q=>q
theorem Un.laid(k:∀b u,h.get? b=some u->h'.get? b=some u)(hp:h.objs.size<=a)(hn:H a=none):Un fs ex H (upd H a o) h h' where
 keep:=λb u q _ _ _=>k b u q
 slot:=λb u q _ _ _=>⟨u.slots,k b u q⟩
 free:=λb u q n _=>by rw[A1 (AAf (AAN (Heap.lt_size q) hp))];exact n
 there:=λb u q _=>⟨u,k b u q⟩
 tups:=λb xs q=>by rw[A1 (B4 q hn)];exact q
 frzs:=λb u xs q=>by rw[A1 (B4 q hn)];exact q
 tbls:=λb ps q=>⟨#[],by rw[A1 (B4 q hn),q];simp⟩
theorem Un.write(mu:Mut (H x))(he:e=x∨H e=some (.own x))(k:∀b u,b≠e->h.get? b=some u->h'.get? b=some u)(heo:∃u,h'.get? e=some u):Un fs ex H (upd H x o) h h':=by
 have hx:∀b,H b=none->b≠x:=λb n z=>by subst z;rw[n] at mu;exact mu
 have hb:∀b,H b=none->b≠e:=λb n z=>by
  subst z;rcases he with r|r
  ·exact hx b n r
  ·rw[n] at r;cases r
 have hm:∀b u,H b=some u->¬Mut (some u)->b≠x:=λb u q nm z=>by subst z;rw[q] at mu;exact nm mu
 refine⟨λb u q n _ _=>k b u (hb b n) q,λb u q n _ _=>⟨u.slots,k b u (hb b n) q⟩,λb u q n _=>by rw[A1 (hx b n)];exact n,λb u q _=>?_,
  λb xs q=>by rw[A1 (hm b _ q λz=>z)];exact q,λb u xs q=>by rw[A1 (hm b _ q λz=>z)];exact q,λb ps q=>⟨#[],by rw[A1 (hm b _ q λz=>z),q];simp⟩⟩
 by_cases hbe:b=e
 ·subst hbe;exact heo
 ·exact⟨u,k b u hbe q⟩
end
noncomputable def trk(h:Heap)(H:Hp):List Addr:=(List.range h.objs.size).filter λa=>(H a).isSome
noncomputable def LR(h:Heap)(H:Hp):Heap:=PySem.W.hideAll h (trk h H)
theorem Qd(h:Heap)(H:Hp):(LR h H).objs.size=h.objs.size:=PySem.W.hideAll_size _ _
theorem Td(e:h.get? b=some o)(n:H b=none):(LR h H).get? b=some o:=
 PySem.W.hideAll_get _ e λhm=>by
  have q:(H b).isSome=true:=(List.mem_filter.mp hm).2;rw[n] at q;simp at q
theorem Vk(e:(LR h H).get? b=some o):h.get? b=some o/\H b=none:=by
 have e':h.get? b=some o:=PySem.W.of_hideAll (trk h H) e;refine⟨e',?_⟩;cases q:H b with
 |none=>rfl
 |some x=>
  have hm:b∈trk h H:=List.mem_filter.mpr ⟨List.mem_range.mpr (Heap.lt_size e'),by simp[q]⟩;have z:(LR h H).get? b=none:=PySem.W.hideAll_none (trk h H) hm;rw[z] at e;cases e
structure Mod(K:PySem.W.Frag)(mg:Str->Option Value)(base:Heap):Prop where
 kin:K.In base
 glob:base.Ns mainGlobals mg
 blt:∃mb,base.Ns builtinsNs mb/\∀x:Str,x ≠ "__name__" -> mb x=bootBuiltins x
 nolimit:base.NoLimit
set_option genInjectivity false in
structure Cx where
 prog:Program
 w:World
 K:PySem.W.Frag
 mg:Str->Option Value
 base:Heap
 A:Around
 N:List Str
 s₀:Shared
 H₀:Hp
 env:Env
 outer:List Env
 stack:List Env
 ex:List Addr
 fn:Str->Bool
 calm:Bool
 pn:List (Addr×Obj)
 xe:Value->Shared->Prop
def frs(l:List Env):List Addr:=l.filterMap (·.frame)
abbrev Cx.fs(X:Cx):List Addr:=frs X.outer
def Vis(sc:Scope)(x:Str):Prop:=sc.names.lookup x=some .local∨sc.names.lookup x=some .cell∨sc.names.lookup x=some .free
def Loc(sc:Scope)(x:Str):Prop:=sc.names.lookup x=some .local∨sc.names.lookup x=some .cell
def aw(env:Env)(h:Heap)(m:Str->Option Value)(x:Str)(u:Value):Prop:=
 (env.kindOf x=some .local/\m x=some u)∨((env.kindOf x=some .cell∨env.kindOf x=some .free)/\∃c,env.cells.lookup x=some c/\h.IsCell c (some u))
structure Cx.Ok(X:Cx):Prop where
 mod:Mod X.K X.mg X.base
 kind:X.env.scope.kind=.function
 glob:X.env.globals=mainGlobals
 blt:X.env.builtins=builtinsNs
 above:X.s₀.heap.objs.size<=X.env.locals
 inj:∀x y c,X.env.cells.lookup x=some c->X.env.cells.lookup y=some c->x=y
 has:∀x,(X.env.kindOf x=some .cell∨X.env.kindOf x=some .free)->∃c,X.env.cells.lookup x=some c
 cab:∀x c,X.fn x=true->X.env.cells.lookup x=some c->X.s₀.heap.objs.size<=c
 hd:X.calm=true->X.A.handled=none
 frames:X.A.frames=some X.stack
 stk:X.stack=X.outer∨(X.stack=X.env::X.outer/\X.env.frame=some X.env.locals)
 exf:∀b∈X.ex,b≠X.env.locals/\∀x c,X.env.cells.lookup x=some c->c≠b
 bs:∀b o,X.base.get? b=some o->X.s₀.heap.get? b=some o/\X.H₀ b=none
 bsz:X.base.objs.size<=X.s₀.heap.objs.size
 noex:∀b o,X.base.get? b=some o->b∉X.ex
 exfs:∀b∈X.ex,b∉X.fs
 funs:X.s₀.heap.FunFrames X.base X.outer
 frf:∀b∈X.fs,X.H₀ b=none
structure Inv(X:Cx)(pins:List (Addr×Obj))(σ:List (Option V))(H:Hp)(s:Shared):Prop where
 ok:X.Ok
 os:s.os=X.s₀.os
 bare:AllBare s.gens
 base:Un X.fs X.ex X.H₀ H X.s₀.heap s.heap
 loc:∃m,s.heap.Ns X.env.locals m/\∀(i:Nat) (x:Str) (v:V),X.N[i]?=some x->σ[i]?=some (some v)->Vis X.env.scope x->∃u,RelV v u/\aw X.env s.heap m x u
 cell:∀x c,X.env.cells.lookup x=some c->∃v,s.heap.IsCell c v
 free:H X.env.locals=none
 freeC:∀x c,X.env.cells.lookup x=some c->H c=none
 pin:∀p∈X.pn++pins,s.heap.get? p.1=some p.2/\H p.1=none/\p.1≠X.env.locals/\p.1∉X.fs/\∀v,p.2.data≠.cell v
 hok:HOk X.prog X.w H s.heap
 len:σ.length=X.N.length
section
variable{X:Cx}{pins:List (Addr×Obj)}{σ:List (Option V)}{H H':Hp}{s:Shared}{h':Heap}
theorem Cx.Ok.nofr(ok:X.Ok)(e:X.base.get? b=some o):b∉X.fs:=λhb=>by
 have:=(ok.funs.mem hb).1;rw[e] at this;cases this
theorem Inv.bs(I:Inv X pins σ H s):∀b o,X.base.get? b=some o->s.heap.get? b=some o/\H b=none:=λb o e=>
 ⟨I.base.keep b o (I.ok.bs b o e).1 (I.ok.bs b o e).2 (I.ok.nofr e) (I.ok.noex b o e),I.base.free b o (I.ok.bs b o e).1 (I.ok.bs b o e).2 (I.ok.noex b o e)⟩
theorem Inv.bk(I:Inv X pins σ H s):∀b o,X.base.get? b=some o->s.heap.get? b=some o:=λb o e=>(I.bs b o e).1
theorem Inv.mod(I:Inv X pins σ H s):Mod X.K X.mg X.base:=I.ok.mod
theorem Inv.kIn(I:Inv X pins σ H s):X.K.In s.heap:=I.ok.mod.kin.keeps I.bk
theorem Inv.lt(I:Inv X pins σ H s):X.env.locals<s.heap.objs.size:=let ⟨_,hn,_⟩:=I.loc;hn.lt
theorem Inv.sz(I:Inv X pins σ H s):X.s₀.heap.objs.size<=s.heap.objs.size:=AAu I.ok.above (Nat.le_of_lt I.lt)
theorem Inv.nofs(I:Inv X pins σ H s)(h:s.heap.objs.size<=a):a∉X.fs:=λhb=>by
 obtain⟨_,o,ho,_⟩:=I.ok.funs.mem hb;exact absurd (AAN (Heap.lt_size ho) (AAu I.sz h)) (AA2 _)
theorem Inv.cne(I:Inv X pins σ H s):∀x c,X.env.cells.lookup x=some c->c≠X.env.locals:=λx c e z=>by
 obtain⟨v,o,ho,hd⟩:=I.cell x c e;obtain⟨m,⟨o',es,ep,ho',hd',_⟩,_⟩:=I.loc;rw[z,ho'] at ho;cases ho;rw[hd'] at hd;cases hd
theorem Inv.funs(I:Inv X pins σ H s):s.heap.FunFrames X.base X.outer:=by
 have all:∀(l:List Env),(∀b∈frs l,b∈X.fs)->X.s₀.heap.FunFrames X.base l->s.heap.FunFrames X.base l:=by
  intro l
  induction l with
  |nil=>intro _ _;trivial
  |cons env r ih=>
   intro hs hl;obtain⟨hk,⟨L,o,hf,hn,ho,hd⟩,hr⟩:=hl;have hL:L∈X.fs:=hs L (by unfold frs;rw[List.filterMap_cons,hf];exact AAQ);obtain⟨sl,e⟩:=I.base.slot L o ho (I.ok.frf L hL) hL λz=>I.ok.exfs L z hL;exact⟨hk,⟨L,_,hf,hn,e,hd⟩,ih (λb hb=>hs b (by unfold frs;rw[List.filterMap_cons,hf];exact AAR _ hb)) hr⟩
 exact all X.outer (λ_ hb=>hb) I.ok.funs
theorem Inv.stack(I:Inv X pins σ H s):s.heap.FunFrames X.base X.stack:=by
 rcases I.ok.stk with e|⟨e,hf⟩
 ·rw[e];exact I.funs
 ·rw[e];obtain⟨m,hn,_⟩:=I.loc;refine .cons (by rw[I.ok.kind];decide) hf hn ?_ I.funs;exact Heap.get?_none_of_le (AAu I.ok.bsz I.ok.above)
theorem Inv.stkSub(I:Inv X pins σ H s):∀b∈frs X.stack,b∈X.env.locals::X.fs:=λb hb=>by
 rcases I.ok.stk with e|⟨e,hf⟩
 ·rw[e] at hb;exact AAR _ hb
 ·rw[e] at hb;unfold frs at hb;rw[List.filterMap_cons,hf] at hb;exact hb
theorem Inv.stkFree(I:Inv X pins σ H s):∀b∈frs X.stack,H b=none:=λb hb=>by
 rcases AAJ.mp (I.stkSub b hb) with e|hb
 ·rw[e];exact I.free
 ·obtain⟨_,o,ho,_⟩:=I.ok.funs.mem hb;exact I.base.free b o ho (I.ok.frf b hb) λz=>I.ok.exfs b z hb
theorem Inv.step{g':Array GenState}{t':Nat}{ch:List Addr}(I:Inv X pins σ H s)
  (hch:∀b∈ch,(b∈X.ex∨X.s₀.heap.objs.size<=b)/\b≠X.env.locals/\(∀x c,X.env.cells.lookup x=some c->c≠b)/\∀p∈X.pn++pins,p.1≠b)
  (keep:∀b o,b≠X.env.locals->b∉X.fs->b∉ch->s.heap.get? b=some o->H b=none->h'.get? b=some o)
  (slot:∀b o,b≠X.env.locals->b∈X.fs->b∉ch->s.heap.get? b=some o->H b=none->∃sl,h'.get? b=some { o with slots:=sl }) (free:∀b o,b∉ch->s.heap.get? b=some o->H b=none->H' b=none)
  (there:∀b o,b∉ch->s.heap.get? b=some o->∃o',h'.get? b=some o')
  (tups:∀b xs,H b=some (.tup xs)->H' b=some (.tup xs)) (frzs:∀b o u,H b=some (.frz o u)->H' b=some (.frz o u)) (tbls:∀b ps,H b=some (.tbl ps)->∃more,H' b=some (.tbl (ps++more)))
  (ns:∀m,s.heap.Ns X.env.locals m->h'.Ns X.env.locals m) (hok:HOk X.prog X.w H' h') (hg:AllBare g') :
  Inv X pins σ H' { s with heap:=h',gens:=g',drawn:=d',toks:=t' }:=by
 have neL:∀b o,X.s₀.heap.get? b=some o->b≠X.env.locals:=λb o e=>AAf (AAN (Heap.lt_size e) I.ok.above);have neC:∀b o,X.s₀.heap.get? b=some o->b∉X.ex->b∉ch:=λb o e hx hb=>by
  rcases(hch b hb).1 with z|z
  ·exact hx z
  ·exact absurd (AAN (Heap.lt_size e) z) (AA2 _)
 have cellK:∀x c,X.env.cells.lookup x=some c->∀v,s.heap.IsCell c v->h'.IsCell c v:=λx c e v ⟨o,ho,hd⟩=>by
  have nch:c∉ch:=λz=>(hch c z).2.2.1 x c e rfl;by_cases hc:c∈X.fs
  ·obtain⟨sl,q⟩:=slot c o (I.cne x c e) hc nch ho (I.freeC x c e);exact⟨_,q,hd⟩
  ·exact⟨o,keep c o (I.cne x c e) hc nch ho (I.freeC x c e),hd⟩
 refine⟨I.ok,I.os,hg,⟨λb o e n hb hx=>?_,λb o e n hb hx=>?_,λb o e n hx=>?_,λb o e hx=>?_,λb xs e=>tups b xs (I.base.tups b xs e),λb o xs e=>frzs b o xs (I.base.frzs b o xs e),λb ps e=>?_⟩,?_,λx c e=>?_,?_,λx c e=>?_,λp hp=>?_,hok,I.len⟩
 ·exact keep b o (neL b o e) hb (neC b o e hx) (I.base.keep b o e n hb hx) (I.base.free b o e n hx)
 ·obtain⟨sl,e1⟩:=I.base.slot b o e n hb hx;obtain⟨sl',e2⟩:=slot b _ (neL b o e) hb (neC b o e hx) e1 (I.base.free b o e n hx);exact⟨sl',e2⟩
 ·obtain⟨o',e1⟩:=I.base.there b o e hx;exact free b o' (neC b o e hx) e1 (I.base.free b o e n hx)
 ·obtain⟨o',e1⟩:=I.base.there b o e hx;exact there b o' (neC b o e hx) e1
 ·obtain⟨m1,e1⟩:=I.base.tbls b ps e;obtain⟨m2,e2⟩:=tbls b _ e1;exact⟨m1++m2,by rw[e2,Array.append_assoc]⟩
 ·obtain⟨m,hn,hl⟩:=I.loc;refine⟨m,ns m hn,λi x v e1 e2 e3=>?_⟩;obtain⟨u,r,l⟩:=hl i x v e1 e2 e3;refine⟨u,r,?_⟩;rcases l with l|⟨k,c,e,z⟩
  ·exact .inl l
  ·exact .inr ⟨k,c,e,cellK x c e _ z⟩
 ·obtain⟨v,z⟩:=I.cell x c e;exact⟨v,cellK x c e v z⟩
 ·obtain⟨m,⟨o,_,_,ho,_⟩,_⟩:=I.loc;exact free _ o (λz=>(hch _ z).2.1 rfl) ho I.free
 ·obtain⟨v,o,ho,hd⟩:=I.cell x c e;exact free c o (λz=>(hch c z).2.2.1 x c e rfl) ho (I.freeC x c e)
 ·obtain⟨e,n,ne,nf,d⟩:=I.pin p hp;have nch:p.1∉ch:=λz=>(hch p.1 z).2.2.2 p hp rfl;exact⟨keep p.1 p.2 ne nf nch e n,free p.1 p.2 nch e n,ne,nf,d⟩
theorem Inv.un{t':Nat}(I:Inv X pins σ H s)(u:Un X.fs [] H H' s.heap h')(hok:HOk X.prog X.w H' h'):Inv X pins σ H' { s with heap:=h',toks:=t' }:=by
 obtain⟨m,⟨o,es,ep,ho,r⟩,_⟩:=id I.loc;obtain⟨sl,hL⟩:=u.any ho I.free (by simp);exact I.step (g':=s.gens) (d':=s.drawn) (ch:=[]) (λ_ z=>nomatch z) (λb o _ hb _ e n=>u.keep b o e n hb (by simp)) (λb o _ hb _ e n=>u.slot b o e n hb (by simp)) (λb o _ e n=>u.free b o e n (by simp)) (λb o _ e=>u.there b o e (by simp)) u.tups u.frzs u.tbls (λm' hm=>by
  obtain⟨o',es',ep',ho',r'⟩:=hm;rw[ho] at ho';cases ho';exact⟨_,es',ep',hL,r'⟩) hok I.bare
theorem Inv.call{g':Array GenState}{t':Nat}{ch:List Addr}(I:Inv X pins σ H s)(u:Un (frs X.stack) ch H H' s.heap h')(hok:HOk X.prog X.w H' h')(hg:AllBare g')
  (hch:∀b∈ch,(b∈X.ex∨X.s₀.heap.objs.size<=b)/\b≠X.env.locals/\(∀x c,X.env.cells.lookup x=some c->c≠b)/\∀p∈X.pn++pins,p.1≠b) :
  Inv X pins σ H' { s with heap:=h',gens:=g',drawn:=d',toks:=t' }:=by
 obtain⟨m,⟨o,es,ep,ho,r⟩,_⟩:=id I.loc;obtain⟨sl,hL⟩:=u.any ho I.free λz=>(hch _ z).2.1 rfl;exact I.step (ch:=ch) hch (λb o hL hb hc e n=>u.keep b o e n (λz=>(AAJ.mp (I.stkSub b z)).elim hL hb) hc) (λb o _ _ hc e n=>u.any e n hc) (λb o hc e n=>u.free b o e n hc) (λb o hc e=>u.there b o e hc) u.tups u.frzs u.tbls (λm' hm=>by
  obtain⟨o',es',ep',ho',r'⟩:=hm;rw[ho] at ho';cases ho';exact⟨_,es',ep',hL,r'⟩) hok hg
theorem Inv.turned{t':Nat}{it:Addr}(I:Inv X pins σ H s)(k:∀b o,b≠it->s.heap.get? b=some o->h'.get? b=some o)(hn:H it=none)(hL:it≠X.env.locals)
  (h1:it∈X.ex∨X.s₀.heap.objs.size<=it) (h2:∀x c,X.env.cells.lookup x=some c->c≠it) (h3:∀p∈X.pn++pins,p.1≠it):Inv X pins σ H { s with heap:=h',toks:=t' }:=by
 have nit:∀b u,H b=some u->b≠it:=λb u e z=>by rw[z,hn] at e;cases e
 refine I.step (g':=s.gens) (d':=s.drawn) (ch:=[it]) (λb hb=>?_) (λb o _ _ hc e _=>k b o (λz=>hc (by simp[z])) e) (λb o _ _ hc e _=>⟨o.slots,k b o (λz=>hc (by simp[z])) e⟩) (λ_ _ _ _ n=>n)
  (λb o hc e=>⟨o,k b o (λz=>hc (by simp[z])) e⟩) (λ_ _ e=>e) (λ_ _ _ e=>e) (λb ps e=>⟨#[],by rw[e];simp⟩) (λm hm=>?_) (λb u e=>?_) I.bare
 ·have e:b=it:=by simpa using hb
  subst e;exact⟨h1,hL,h2,h3⟩
 ·obtain⟨o,es,ep,ho,r⟩:=hm;exact⟨o,es,ep,k _ o (Ne.symm hL) ho,r⟩
 ·refine(I.hok b u e).stay (λc v hc q=>k c v ?_ q) (λ_ q=>q) λ_ _ q=>q;rcases hc with z|z
  ·rw[z];exact nit b u e
  ·exact nit c _ z
theorem Inv.tok(I:Inv X pins σ H s)(t:Nat):Inv X pins σ H { s with toks:=t }:=I.un (h':=s.heap) (t':=t) Un.refl I.hok
theorem Inv.kept(I:Inv X pins σ H s)(k:∀b u,s.heap.get? b=some u->h'.get? b=some u):Inv X pins σ H { s with heap:=h',toks:=t' }:=I.un (Un.kept k) (I.hok.kept k)
theorem Inv.laid(I:Inv X pins σ H s)(k:∀b u,s.heap.get? b=some u->h'.get? b=some u)(hp:s.heap.objs.size<=a)(new:ObjOk X.prog X.w (upd H a o) h' a o):
  Inv X pins σ (upd H a o) { s with heap:=h',toks:=t' }:=I.un (Un.laid k hp (I.hok.fresh hp)) (I.hok.laid k hp new)
theorem Inv.write(I:Inv X pins σ H s)(mu:Mut (H x))(he:e=x∨H e=some (.own x))(k:∀b u,b≠e->s.heap.get? b=some u->h'.get? b=some u)(heo:∃u,h'.get? e=some u)
  (new:ObjOk X.prog X.w (upd H x o) h' x o):Inv X pins σ (upd H x o) { s with heap:=h',toks:=t' }:=I.un (Un.write mu he k heo) (I.hok.write mu he k heo new)
theorem Inv.weak(I:Inv X pins σ H s)(hl:σ'.length=σ.length)(w:∀(i:Nat) v,σ'[i]?=some (some v)->σ[i]?=some (some v)):Inv X pins σ' H s:=
 ⟨I.ok,I.os,I.bare,I.base,let ⟨m,hn,hl'⟩:=I.loc;⟨m,hn,λi x v e1 e2 e3=>hl' i x v e1 (w i v e2) e3⟩,I.cell,I.free,I.freeC,I.pin,I.hok,hl.trans I.len⟩
theorem Inv.pins_of(I:Inv X pins σ H s)(h:∀p∈pins',s.heap.get? p.1=some p.2/\H p.1=none/\p.1≠X.env.locals/\p.1∉X.fs/\∀v,p.2.data≠.cell v):Inv X pins' σ H s:=
 ⟨I.ok,I.os,I.bare,I.base,I.loc,I.cell,I.free,I.freeC,λp hp=>(AAK.mp hp).elim (λz=>I.pin p (AAd _ z)) (h p),I.hok,I.len⟩
theorem MT{N:List Str}(hN:N.Nodup){i j:Nat}{x:Str}(a:N[i]?=some x)(b:N[j]?=some x):i=j:=by
 obtain⟨h1,e1⟩:=AAU.mp a;obtain⟨h2,e2⟩:=AAU.mp b;exact(List.getElem_inj hN).mp (e1.trans e2.symm)
theorem J5{M:Model}{A:Around}{E:Value->Shared->Prop}{i:Nat}{x:Str}{u:Value}{Q:Unit->Shared->Prop}(I:Inv X pins σ H s)(hN:X.N.Nodup)(hi:X.N[i]?=some x)(hx:Loc X.env.scope x)(r:RelV v u)
  (h:∀s',Inv X pins (σ.set i (some v)) H s'->(∃a,Heap.SameBut a s.heap s'.heap/\(a=X.env.locals∨X.env.cells.lookup x=some a))->Q () s') (hf:X.fn x=true∨X.env.scope.names.lookup x=some .local:=by first|exact .inl rfl|exact .inr rfl|assumption):wpAny M A (storeName X.env x u) Q E s:=by
 obtain⟨m,hn,hl⟩:=id I.loc;have hcls:(X.env.scope.kind==.class||(X.env.scope.kind==.module&&X.env.locals != X.env.globals))=false:=by rw[I.ok.kind];rfl
 have hiσ:i<σ.length:=by rw[I.len];exact(AAU.mp hi).1
 have cne:=I.cne;have tracked:∀{a:Addr} {h':Heap},(∃o,s.heap.get? a=some o/\H a=none)->Heap.SameBut a s.heap h'->HOk X.prog X.w H h':=λ{a h'} ha hs b ob e=>by
  obtain⟨_,_,hfree⟩:=ha;refine(I.hok b ob e).stay (λc w' hc q=>(hs.2 c ?_).trans q) (λ_ q=>q) λ_ _ q=>q;rintro rfl;rcases hc with rfl|hc
  ·rw[hfree] at e;cases e
  ·rw[hfree] at hc;cases hc
 rcases hx with hk|hk
 ·refine wpAny_storeName_local hk hn (λh' hn' hs=>?_) hcls;obtain⟨oL,_,_,hoL,_⟩:=id hn;refine h _ ⟨I.ok,I.os,I.bare,⟨λb o e n hb hx=>?_,λb o e n hb hx=>?_,I.base.free,λb o e hx=>?_,I.base.tups,I.base.frzs,I.base.tbls⟩,⟨_,hn',λj y v' e1 e2 e3=>?_⟩,λy c e=>?_,I.free,I.freeC,λp hp=>?_,tracked ⟨oL,hoL,I.free⟩ hs,by simpa using I.len⟩ ⟨_,hs,.inl rfl⟩
  ·exact(hs.2 b (AAf (AAN (Heap.lt_size e) I.ok.above))).trans (I.base.keep b o e n hb hx)
  ·obtain⟨sl,e1⟩:=I.base.slot b o e n hb hx;exact⟨sl,(hs.2 b (AAf (AAN (Heap.lt_size e) I.ok.above))).trans e1⟩
  ·obtain⟨o',e1⟩:=I.base.there b o e hx;exact⟨o',(hs.2 b (AAf (AAN (Heap.lt_size e) I.ok.above))).trans e1⟩
  ·by_cases hj:j=i
   ·subst hj;rw[hi] at e1;cases e1;rw[List.getElem?_set_self hiσ] at e2;cases e2;exact⟨u,r,.inl ⟨hk,by simp⟩⟩
   ·rw[AAp (Ne.symm hj)] at e2;obtain⟨u',r',q⟩:=hl j y v' e1 e2 e3;refine⟨u',r',?_⟩;rcases q with ⟨k,e⟩|⟨k,c,e,z⟩
    ·refine .inl ⟨k,?_⟩;have:y≠x:=λe=>hj (MT hN e1 (e ▸ hi));simp[this,e]
    ·exact .inr ⟨k,c,e,z.sameBut hs (cne y c e)⟩
  ·obtain⟨w',z⟩:=I.cell y c e;exact⟨w',z.sameBut hs (cne y c e)⟩
  ·obtain⟨e,n,ne,nf,d⟩:=I.pin p hp;exact⟨(hs.2 p.1 ne).trans e,n,ne,nf,d⟩
 ·have hfn:X.fn x=true:=by
   rcases hf with z|z
   ·exact z
   ·rw[z] at hk;cases hk
  obtain⟨c,hc⟩:=I.ok.has x (.inl hk);obtain⟨w',z⟩:=I.cell x c hc;refine wpAny_storeName_cell I.ok.kind hk hc z (λh' hc' hs=>?_);obtain⟨oc,hoc,hocd⟩:=id z;refine h { s with heap:=h' } ⟨I.ok,I.os,I.bare,⟨λb o e n hb hx=>?_,λb o e n hb hx=>?_,I.base.free,λb o e hx=>?_,I.base.tups,I.base.frzs,I.base.tbls⟩,⟨m,hn.sameBut hs (Ne.symm (cne x c hc)),λj y v' e1 e2 e3=>?_⟩,λy c' e=>?_,I.free,I.freeC,λp hp=>?_,tracked ⟨oc,hoc,I.freeC x c hc⟩ hs,by simpa using I.len⟩ ⟨c,hs,.inr hc⟩
  ·exact(hs.2 b (AAf (AAN (Heap.lt_size e) (I.ok.cab x c hfn hc)))).trans (I.base.keep b o e n hb hx)
  ·obtain⟨sl,e1⟩:=I.base.slot b o e n hb hx;exact⟨sl,(hs.2 b (AAf (AAN (Heap.lt_size e) (I.ok.cab x c hfn hc)))).trans e1⟩
  ·obtain⟨o',e1⟩:=I.base.there b o e hx;exact⟨o',(hs.2 b (AAf (AAN (Heap.lt_size e) (I.ok.cab x c hfn hc)))).trans e1⟩
  ·by_cases hj:j=i
   ·subst hj;rw[hi] at e1;cases e1;rw[List.getElem?_set_self hiσ] at e2;cases e2;exact⟨u,r,.inr ⟨.inl hk,c,hc,hc'⟩⟩
   ·rw[AAp (Ne.symm hj)] at e2;obtain⟨u',r',q⟩:=hl j y v' e1 e2 e3;refine⟨u',r',?_⟩;rcases q with q|⟨k,c',e,z'⟩
    ·exact .inl q
    ·refine .inr ⟨k,c',e,z'.sameBut hs ?_⟩;rintro rfl;exact hj (MT hN e1 (I.ok.inj _ _ _ e hc ▸ hi))
  ·by_cases hcc:c'=c
   ·subst hcc;exact⟨_,hc'⟩
   ·obtain⟨w2,z2⟩:=I.cell y c' e;exact⟨w2,z2.sameBut hs hcc⟩
  ·obtain⟨e,n,ne,nf,d⟩:=I.pin p hp;refine⟨(hs.2 p.1 ?_).trans e,n,ne,nf,d⟩;intro q;rw[q,hoc] at e;have q':oc=p.2:=Option.some.inj e;exact d w' (by rw[←q'];exact hocd)
theorem IZ(I:Inv X pins σ H s)(hN:X.N.Nodup)(hi:X.N[i]?=some x)(hx:Loc X.env.scope x)(r:RelV v u)
  (h:∀s',Inv X pins (σ.set i (some v)) H s'->Q () s') (hf:X.fn x=true∨X.env.scope.names.lookup x=some .local:=by first|exact .inl rfl|exact .inr rfl|assumption):wpAny M A (storeName X.env x u) Q E s:=
 J5 I hN hi hx r (λs' I' _=>h s' I') hf
theorem Inv.call'(I:Inv X pins σ H s)(ho:s'.os=s.os)(u:Un (frs X.stack) ch H H' s.heap s'.heap)(hok:HOk X.prog X.w H' s'.heap)(hg:AllBare s'.gens)
  (hch:∀b∈ch,(b∈X.ex∨X.s₀.heap.objs.size<=b)/\b≠X.env.locals/\(∀x c,X.env.cells.lookup x=some c->c≠b)/\∀p∈X.pn++pins,p.1≠b):Inv X pins σ H' s':=by
 obtain⟨h',g',d',t',o'⟩:=s';have e:o'=s.os:=ho;subst e;exact I.call (g':=g') (t':=t') (d':=d') u hok hg hch
end
noncomputable abbrev XK:=Value->Option Addr->Hp->Prop
noncomputable abbrev St:=List (Option V)
noncomputable abbrev VK:=V->Hp->Prop
noncomputable abbrev TE:=St->Hp->VK->Prop
noncomputable abbrev TT:=St->Hp->(Bool->Hp->Prop)->Prop
noncomputable abbrev TA:=St->Hp->(List V->Hp->Prop)->Prop
structure T4 where
 nx:St->Hp->Prop
 rt:VK
 bk:St->Hp->Prop:=λ_ _=>False
 ct:St->Hp->Prop:=λ_ _=>False
noncomputable abbrev TS:=T4->St->Hp->Prop
def EP(X:Cx)(pins:List (Addr×Obj))(σ:St)(Q:VK)(u:Value)(s':Shared):Prop:=∃v H',Inv X pins σ H' s'/\RelV v u/\Q v H'
def TP(X:Cx)(pins:List (Addr×Obj))(σ:St)(Q:Bool->Hp->Prop)(b:Bool)(s':Shared):Prop:=∃H',Inv X pins σ H' s'/\Q b H'
def AP(X:Cx)(pins:List (Addr×Obj))(σ:St)(Q:List V->Hp->Prop)(us:List Value)(s':Shared):Prop:=∃vs H',Inv X pins σ H' s'/\Vals vs us/\Q vs H'
def SP(X:Cx)(pins:List (Addr×Obj))(D:T4)(f:Flow)(s':Shared):Prop:=
 match f with
 | .next=>∃σ' H',Inv X pins σ' H' s'/\D.nx σ' H'
 | .brk=>∃σ' H',Inv X pins σ' H' s'/\D.bk σ' H'
 | .cont=>∃σ' H',Inv X pins σ' H' s'/\D.ct σ' H'
 | .ret u=>∃v σ' H',Inv X pins σ' H' s'/\RelV v u/\D.rt v H'
def PE(X:Cx)(e:Expr)(t:TE):Prop:=
 ∀(pins:List (Addr×Obj)) (s:Shared) (σ:St) (H:Hp) (Q:VK),Inv X pins σ H s->t σ H Q->wpAny (model X.prog X.w) X.A (eval e X.env) (EP X pins σ Q) X.xe s
def PT(X:Cx)(e:Expr)(t:TT):Prop:=
 ∀(pins:List (Addr×Obj)) (s:Shared) (σ:St) (H:Hp) (Q:Bool->Hp->Prop),Inv X pins σ H s->t σ H Q->wpAny (model X.prog X.w) X.A (isTrue e X.env (eval e X.env)) (TP X pins σ Q) X.xe s
def PW(X:Cx)(e:Expr)(t:TT):Prop:=
 ∀(whole:Sem Value) (pins:List (Addr×Obj)) (s:Shared) (σ:St) (H:Hp) (Q:Bool->Hp->Prop),Inv X pins σ H s->t σ H Q->wpAny (model X.prog X.w) X.A (isTrue e X.env whole) (TP X pins σ Q) X.xe s
theorem PW.pt(h:PW X e t):PT X e t:=h _
def PA(X:Cx)(es:List Expr)(t:TA):Prop:=
 ∀(pos:Pos) (pins:List (Addr×Obj)) (s:Shared) (σ:St) (H:Hp) (Q:List V->Hp->Prop),Inv X pins σ H s->t σ H Q->wpAny (model X.prog X.w) X.A (spliced (backTo pos (starEach es X.env))) (AP X pins σ Q) X.xe s
def PS(X:Cx)(st:Stmt)(t:TS):Prop:=
 ∀(pins:List (Addr×Obj)) (s:Shared) (σ:St) (H:Hp) (D:T4),Inv X pins σ H s->t D σ H->wpAny (model X.prog X.w) X.A (exec st X.env) (SP X pins D) X.xe s
def PSs(X:Cx)(st:List Stmt)(t:TS):Prop:=
 ∀(pins:List (Addr×Obj)) (s:Shared) (σ:St) (H:Hp) (D:T4),Inv X pins σ H s->t D σ H->wpAny (model X.prog X.w) X.A (execs st X.env) (SP X pins D) X.xe s
theorem thn(h:wpAny M A t Q E s)(hQ:∀a s,Q a s->Q' a s):wpAny M A t Q' E s:=AAl h hQ λ_ _ x=>x
section
variable{X:Cx}
noncomputable def Z7(i:Nat):TE:=λσ H Q=>∃v,σ[i]?=some (some v)/\Q v H
noncomputable def tC(v:V):TE:=λ_ H Q=>Q v H
theorem Xi(hN:X.N[i]?=some x)(hv:Vis X.env.scope x)(hd:(x==("__debug__" : Str))=false:=by decide)(hcd:(x==("__classdict__" : Str))=false:=by decide):PE X (.Name x pos) (Z7 i):=by
 intro pins s σ H Q I h;obtain⟨v,e,h⟩:=h;obtain⟨m,hn,hl⟩:=I.loc;obtain⟨u,r,l⟩:=hl i x v hN e hv;have fin:EP X pins σ Q u s:=⟨v,H,I,r,h⟩;rcases l with ⟨hk,hm⟩|⟨hk,c,hc,hcell⟩
 ·exact wpAny_Name (wpAny_loadName_local I.ok.kind hk hn hm fin) hd
 ·rcases hk with hk|hk
  ·exact wpAny_Name (wpAny_loadName_cell I.ok.kind hk hc hcell fin) hd
  ·exact wpAny_Name (wpAny_loadName_free I.ok.kind hk hc hcell fin hcd) hd
theorem Xo:PE X (.Constant (.int i) j pos) (tC (.int i)):=λ_ _ _ H _ I h=>wpAny_Constant_int ⟨.int i,H,I.tok _,⟨_,rfl⟩,h⟩
theorem ZN:PE X (.Constant (.bool b) j pos) (tC (.bl b)):=λ_ _ _ H _ I h=>Constant_bool ⟨.bl b,H,I,rfl,h⟩
theorem Xn:PE X (.Constant .none j pos) (tC .non):=λ_ _ _ H _ I h=>Constant_none ⟨.non,H,I,rfl,h⟩
theorem Sr:PE X (.Constant (.str x) j pos) (tC (.str x)):=λ_ _ _ H _ I h=>Calls.Constant_str ⟨.str x,H,I.tok _,⟨_,rfl⟩,h⟩
def Gl(X:Cx)(x:Str):Prop:=X.env.kindOf x=some .globalImplicit
theorem LO(I:Inv X pins σ H s)(hg:Gl X x)(hm:X.mg x=some u)(h:Q u s)
  (hd:(x==("__debug__" : Str))=false:=by decide):wpAny (model X.prog X.w) X.A (eval (.Name x pos) X.env) Q E s:=
 Calls.Name_function_global I.ok.kind hg (Calls.loadGlobal_global (by rw[I.ok.glob];exact I.mod.glob.keeps I.bk) hm h) hd
theorem Et(I:Inv X pins σ H s)(hg:Gl X x)(hm:X.mg x=none)(hv:bootBuiltins x=some u)(h:Q u s)
  (hn:x ≠ "__name__" := by decide) (hd:(x==("__debug__" : Str))=false:=by decide):wpAny (model X.prog X.w) X.A (eval (.Name x pos) X.env) Q E s:=by
 obtain⟨mb,h1,h2⟩:=I.mod.blt;exact Calls.Name_function_global I.ok.kind hg (Calls.loadGlobal_builtin (by rw[I.ok.glob];exact I.mod.glob.keeps I.bk) hm (by rw[I.ok.blt];exact h1.keeps I.bk) ((h2 x hn).trans hv) h) hd
theorem Ou(hg:Gl X x)(hm:X.mg x=some u)(r:RelV v u)(hd:(x==("__debug__" : Str))=false:=by decide):PE X (.Name x pos) (tC v):=
 λ_ _ _ H _ I h=>LO I hg hm ⟨v,H,I,r,h⟩ hd
theorem Vd(hg:Gl X x)(hm:X.mg x=none)(hv:bootBuiltins x=some u)(r:RelV v u)(hn:x ≠ "__name__" := by decide)(hd:(x==("__debug__" : Str))=false:=by decide):PE X (.Name x pos) (tC v):=
 λ_ _ _ H _ I h=>Et I hg hm hv ⟨v,H,I,r,h⟩ hn hd
variable{a b:Expr}{ta tb:TE}{pos:Pos}
noncomputable def tB(t:TE):TT:=λσ H Q=>t σ H λx H1=>∃c,x=.bl c/\Q c H1
theorem XW(h:PE X e t)(he:∀whole,isTrue e X.env whole=(do let v ←whole;standAt e.pos;holding [v] (truthy v)):=by intro _;rfl):PT X e (tB t):=by
 intro pins s σ H Q I hw;refine isTrue_plain (thn (h pins s σ H _ I hw) λv s1 ⟨x,H1,I1,r1,q1⟩=>?_) (he _);obtain⟨d,rfl,q⟩:=q1;cases r1;exact wpAny_truthy_bool ⟨H1,I1,q⟩
variable{tA tB':TT}{rest:List Expr}
noncomputable def aK(t u:TT):TT:=λσ H Q=>t σ H λc H1=>if c=true then u σ H1 Q else Q false H1
noncomputable def tOr(t u:TT):TT:=λσ H Q=>t σ H λc H1=>if c=true then Q true H1 else u σ H1 Q
noncomputable def aD(t:TT):TT:=λσ H Q=>t σ H λc H1=>Q (!c) H1
theorem VF(ha:PT X a tA):PW X (.BoolOp .And [a] pos) tA:=by
 intro wh pins s σ H Q I h;refine isTrue_and (thn (ha pins s σ H Q I h) λc s1 e=>?_);cases c with
 |true=>exact isTrue_and_nil e
 |false=>exact e
theorem XT(ha:PT X a tA):PW X (.BoolOp .Or [a] pos) tA:=by
 intro wh pins s σ H Q I h;refine isTrue_or (thn (ha pins s σ H Q I h) λc s1 e=>?_);cases c with
 |false=>exact isTrue_or_nil e
 |true=>exact e
theorem XV(ha:PT X a tA)(hb:PW X (.BoolOp .And (b::rest) pos) tB'):PW X (.BoolOp .And (a::b::rest) pos) (aK tA tB'):=by
 intro wh pins s σ H Q I h;refine isTrue_and (thn (ha pins s σ H _ I h) λc s1 ⟨H1,I1,q1⟩=>?_);cases c with
 |true=>exact hb wh pins s1 σ H1 Q I1 q1
 |false=>exact⟨H1,I1,q1⟩
theorem ZG(ha:PT X a tA)(hb:PW X (.BoolOp .Or (b::rest) pos) tB'):PW X (.BoolOp .Or (a::b::rest) pos) (tOr tA tB'):=by
 intro wh pins s σ H Q I h;refine isTrue_or (thn (ha pins s σ H _ I h) λc s1 ⟨H1,I1,q1⟩=>?_);cases c with
 |true=>exact⟨H1,I1,q1⟩
 |false=>exact hb wh pins s1 σ H1 Q I1 q1
theorem XX(ha:PT X a tA):PT X (.UnaryOp .Not a pos) (aD tA):=by
 intro pins s σ H Q I h;exact isTrue_not (ha pins s σ H (λc H1=>Q (!c) H1) I h)
noncomputable def Y4(ta tb:TE):TE:=λσ H Q=>ta σ H λx H1=>∃c,x=.bl c/\if c=true then tb σ H1 Q else Q (.bl false) H1
noncomputable def aC(ta tb:TE):TE:=λσ H Q=>ta σ H λx H1=>∃c,x=.bl c/\if c=true then Q (.bl true) H1 else tb σ H1 Q
noncomputable def Ys(ta:TE):TE:=λσ H Q=>ta σ H λx H1=>∃c,x=.bl c/\Q (.bl (!c)) H1
theorem Xl(h:PE X a t):PE X (.BoolOp op [a] pos) t:=λpins s σ H Q I hw=>BoolOp_one (h pins s σ H Q I hw)
theorem Xr(ha:PE X a ta)(hb:PE X (.BoolOp .And (b::rest) pos) tb):PE X (.BoolOp .And (a::b::rest) pos) (Y4 ta tb):=by
 intro pins s σ H Q I h;refine BoolOp_and (thn (ha pins s σ H _ I h) λv s1 ⟨x,H1,I1,r1,q1⟩=>?_);obtain⟨c,rfl,q1⟩:=q1;cases r1;refine wpAny_truthy_bool ?_;cases c with
 |true=>exact hb pins s1 σ H1 Q I1 q1
 |false=>exact⟨.bl false,H1,I1,rfl,q1⟩
theorem ZJ(ha:PE X a ta)(hb:PE X (.BoolOp .Or (b::rest) pos) tb):PE X (.BoolOp .Or (a::b::rest) pos) (aC ta tb):=by
 intro pins s σ H Q I h;refine BoolOp_or (thn (ha pins s σ H _ I h) λv s1 ⟨x,H1,I1,r1,q1⟩=>?_);obtain⟨c,rfl,q1⟩:=q1;cases r1;refine wpAny_truthy_bool ?_;cases c with
 |false=>exact hb pins s1 σ H1 Q I1 q1
 |true=>exact⟨.bl true,H1,I1,rfl,q1⟩
theorem Xm(ha:PE X a ta):PE X (.UnaryOp .Not a pos) (Ys ta):=by
 intro pins s σ H Q I h;refine UnaryOp_ (thn (ha pins s σ H _ I h) λv s1 ⟨x,H1,I1,r1,q1⟩=>?_);obtain⟨c,rfl,q1⟩:=q1;cases r1;exact not_of (wpAny_truthy_bool ⟨.bl (!c),H1,I1,rfl,q1⟩)
noncomputable def tIf(t:TT)(ta tb:TE):TE:=λσ H Q=>t σ H λc H1=>if c=true then ta σ H1 Q else tb σ H1 Q
theorem Sv(hc:PT X c tA)(ha:PE X a ta)(hb:PE X b tb):PE X (.IfExp c a b pos) (tIf tA ta tb):=by
 intro pins s σ H Q I h;refine wpAny_IfExp (thn (hc pins s σ H _ I h) λd s1 ⟨H1,I1,q1⟩=>?_);cases d with
 |true=>exact ha pins s1 σ H1 Q I1 q1
 |false=>exact hb pins s1 σ H1 Q I1 q1
end
def SqL(K:PySem.W.Frag)(H:Hp)(a:Addr)(xs:List V):Prop:=
 Rd H a (.lst xs) ∨
  ∃(o:Obj) (its:Array Value) (n:Nat),K.lookup a=some o/\o.cls=.type "list" /\ o.dict=none/\o.data=.seq its n/\its.size<=sizeLine/\Vals xs its.toList
def SqT(K:PySem.W.Frag)(H:Hp)(a:Addr)(xs:List V):Prop:=
 Rd H a (.tup xs) ∨
  ∃(o:Obj) (its:Array Value) (n:Nat),K.lookup a=some o/\o.cls=.type "tuple" /\ o.data=.seq its n/\its.size<=sizeLine/\Vals xs its.toList
noncomputable def au:Value->Option V
 | .none=>some .non
 | .bool b=>some (.bl b)
 | .int i _=>some (.int i)
 | .str x _=>some (.str x)
 | .bytes b _=>some (.byt b)
 | .float b _=>some (.flt b)
 | .ref a=>some (.ref a)
 | .type n=>some (.ty n)
 |_=>none
theorem RelV.abs(r:RelV x u):au u=some x:=by
 cases x with
 |non=>cases r;rfl
 |bl _=>cases r;rfl
 |int _=>obtain⟨t,rfl⟩:=r;rfl
 |str _=>obtain⟨t,rfl⟩:=r;rfl
 |byt _=>obtain⟨t,rfl⟩:=r;rfl
 |flt _=>obtain⟨t,rfl⟩:=r;rfl
 |ref _=>cases r;rfl
 |ty _=>cases r;rfl
theorem RelV.inj(r:RelV x u)(q:RelV y u):x=y:=Option.some.inj (r.abs.symm.trans q.abs)
theorem Vals.inj:∀{xs ys:List V} {us:List Value},Vals xs us->Vals ys us->xs=ys
 |_,_,_,.nil,.nil=>rfl
 |_,_,_,.cons r t,.cons r' t'=>by rw[r.inj r',Vals.inj t t']
section
variable{X:Cx}{pins:List (Addr×Obj)}{σ:St}{H:Hp}{s:Shared}{a:Addr}{xs ys:List V}
theorem SqL.of{K:PySem.W.Frag}(h:H a=some (.lst xs)):SqL K H a xs:=.inl (.inl h)
theorem SqT.of{K:PySem.W.Frag}(h:H a=some (.tup xs)):SqT K H a xs:=.inl (.inl h)
theorem Inv.list(I:Inv X pins σ H s)(h:SqL X.K H a xs):∃its:List Value,Vals xs its/\PlainL s.heap a its.toArray/\xs.length<=sizeLine:=by
 rcases h with h|⟨o,its,n,hk,hc,hd,hs,hz,r⟩
 ·obtain⟨z,its,n,r,e⟩:=h.ok I.hok;exact⟨its,r,⟨_,n,e,rfl,rfl,rfl⟩,z⟩
 ·refine⟨its.toList,r,⟨o,n,I.kIn a o hk,hc,hd,by simpa using hs⟩,?_⟩;have e:=r.length;simp only[Array.length_toList] at e;omega
theorem Inv.tuple(I:Inv X pins σ H s)(h:SqT X.K H a xs):∃its:List Value,Vals xs its/\IsTup s.heap a its.toArray/\xs.length<=sizeLine:=by
 rcases h with h|⟨o,its,n,hk,hc,hs,hz,r⟩
 ·obtain⟨z,its,r,p⟩:=h.ok I.hok;exact⟨its,r,p,z⟩
 ·refine⟨its.toList,r,⟨o,I.kIn a o hk,hc,n,by simpa using hs⟩,?_⟩;have e:=r.length;simp only[Array.length_toList] at e;omega
theorem Inv.list_inj(I:Inv X pins σ H s)(h:SqL X.K H a xs)(h':SqL X.K H a ys):xs=ys:=by
 obtain⟨its,r,⟨o,n,e,_,_,d⟩,_⟩:=I.list h;obtain⟨its',r',⟨o',n',e',_,_,d'⟩,_⟩:=I.list h';rw[e] at e';cases e';rw[d] at d';injection d' with d1 _
 have:its=its':=by simpa using congrArg Array.toList d1
 subst this;exact r.inj r'
theorem Inv.tuple_inj(I:Inv X pins σ H s)(h:SqT X.K H a xs)(h':SqT X.K H a ys):xs=ys:=by
 obtain⟨its,r,⟨o,e,_,n,d⟩,_⟩:=I.tuple h;obtain⟨its',r',⟨o',e',_,n',d'⟩,_⟩:=I.tuple h';rw[e] at e';cases e';rw[d] at d';injection d' with d1 _
 have:its=its':=by simpa using congrArg Array.toList d1
 subst this;exact r.inj r'
end
noncomputable abbrev Cx.wish(X:Cx)(E:Value->Shared->Prop):Cx:={ X with xe:=E }
noncomputable abbrev Cx.nox(X:Cx):Cx:=X.wish λ_ _=>False
theorem Cx.Ok.wish{X:Cx}(ok:X.Ok)(E:Value->Shared->Prop):(X.wish E).Ok:=
 ⟨ok.mod,ok.kind,ok.glob,ok.blt,ok.above,ok.inj,ok.has,ok.cab,ok.hd,ok.frames,ok.stk,ok.exf,ok.bs,ok.bsz,ok.noex,ok.exfs,ok.funs,ok.frf⟩
theorem Cx.Ok.unwish{X:Cx}(ok:(X.wish E).Ok):X.Ok:=
 ⟨ok.mod,ok.kind,ok.glob,ok.blt,ok.above,ok.inj,ok.has,ok.cab,ok.hd,ok.frames,ok.stk,ok.exf,ok.bs,ok.bsz,ok.noex,ok.exfs,ok.funs,ok.frf⟩
section
variable{X:Cx}{pins:List (Addr×Obj)}{σ:St}{H:Hp}{s:Shared}{E:Value->Shared->Prop}
theorem Inv.wish(I:Inv X pins σ H s)(E:Value->Shared->Prop):Inv (X.wish E) pins σ H s:=⟨I.ok.wish E,I.os,I.bare,I.base,I.loc,I.cell,I.free,I.freeC,I.pin,I.hok,I.len⟩
theorem Inv.unwish(I:Inv (X.wish E) pins σ H s):Inv X pins σ H s:=⟨I.ok.unwish,I.os,I.bare,I.base,I.loc,I.cell,I.free,I.freeC,I.pin,I.hok,I.len⟩
theorem SP.unwish(h:SP (X.wish E) pins D f s'):SP X pins D f s':=by
 cases f with
 |next=>obtain⟨σ',H',I,q⟩:=h;exact⟨σ',H',I.unwish,q⟩
 |brk=>obtain⟨σ',H',I,q⟩:=h;exact⟨σ',H',I.unwish,q⟩
 |cont=>obtain⟨σ',H',I,q⟩:=h;exact⟨σ',H',I.unwish,q⟩
 |ret u=>obtain⟨v,σ',H',I,r,q⟩:=h;exact⟨v,σ',H',I.unwish,r,q⟩
theorem PSs.nox{st:List Stmt}(h:PSs X.nox st t):PSs X st t:=λpins s σ H D I hw=>
 AAl (h pins s σ H D (I.wish _) hw) (λ_ _ q=>q.unwish) λ_ _ z=>False.elim z
end
section
variable{X:Cx}{st:Stmt}{rest:List Stmt}{t u:TS}{e:Expr}{te:TE}{pos:Pos}
noncomputable def Yt:TS:=λD σ H=>D.nx σ H
noncomputable def Z9(t u:TS):TS:=λD σ H=>t { D with nx:=u D } σ H
theorem VJ:PSs X [] Yt:=λ_ _ σ H _ I h=>wpAny_execs_nil ⟨σ,H,I,h⟩
theorem Sd(h1:PS X st t)(h2:PSs X rest u):PSs X (st::rest) (Z9 t u):=by
 intro pins s σ H D I h;refine wpAny_execs_cons (thn (h1 pins s σ H { D with nx:=u D } I h) λf s1 q=>?_);cases f with
 |next=>
  obtain⟨σ',H',I',q⟩:=q;exact h2 pins s1 σ' H' D I' q
 |ret v=>exact q
 |brk=>exact q
 |cont=>exact q
theorem VI(h1:PS X st t):PSs X [st] t:=by
 intro pins s σ H D I h;refine wpAny_execs_cons (thn (h1 pins s σ H D I h) λf s1 q=>?_);cases f with
 |next=>exact wpAny_execs_nil q
 |ret v=>exact q
 |brk=>exact q
 |cont=>exact q
theorem Inv.quiet(I:Inv X pins σ H s):interactive X.env=false:=by simp[interactive,I.ok.kind]
noncomputable def Yy(te:TE):TS:=λD σ H=>te σ H λ_ H1=>D.nx σ H1
theorem VM(he:PE X e te)(hs:swapsWith e none pos.line X.env=pure false:=by rfl):PS X (.Expr e pos) (Yy te):=by
 intro pins s σ H D I h;exact wpAny_Expr_any (thn (he pins s σ H _ I h) λv s1 ⟨x,H1,I1,r1,q1⟩=>⟨σ,H1,I1,q1⟩) I.quiet hs
noncomputable def aB(te:TE):TS:=λD σ H=>te σ H D.rt
theorem XZ(he:PE X e te):PS X (.Return (some e) pos) (aB te):=by
 intro pins s σ H D I h;exact wpAny_Return_some (thn (he pins s σ H _ I h) λv s1 ⟨x,H1,I1,r1,q1⟩=>⟨x,σ,H1,I1,r1,q1⟩)
noncomputable def aG(c:TT)(t u:TS):TS:=λD σ H=>c σ H λb H1=>if b=true then t D σ H1 else u D σ H1
theorem ZH(hc:PT X c tc)(ha:PSs X a t)(hb:PSs X b u):PS X (.If c a b pos) (aG tc t u):=by
 intro pins s σ H D I h;refine wpAny_If (thn (hc pins s σ H _ I h) λd s1 ⟨H1,I1,q1⟩=>?_);cases d with
 |true=>exact ha pins s1 σ H1 D I1 q1
 |false=>exact hb pins s1 σ H1 D I1 q1
noncomputable def XI:TS:=λ_ _ _=>False
theorem Sf:PS X st XI:=λ_ _ _ _ _ _ h=>h.elim
end
noncomputable abbrev TG:=V->St->Hp->(St->Hp->Prop)->Prop
noncomputable abbrev TGs:=List V->St->Hp->(St->Hp->Prop)->Prop
def PG(X:Cx)(target:Expr)(t:TG):Prop:=
 ∀(pins:List (Addr×Obj)) (s:Shared) (σ:St) (H:Hp) (v:V) (u:Value) (Q:St->Hp->Prop),Inv X pins σ H s->RelV v u->t v σ H Q->
  wpAny (model X.prog X.w) X.A (assign target X.env u) (λ_ s'=>∃σ' H',Inv X pins σ' H' s'/\Q σ' H') X.xe s
def PGs(X:Cx)(ts:List Expr)(t:TGs):Prop:=
 ∀(pins:List (Addr×Obj)) (s:Shared) (σ:St) (H:Hp) (vs:List V) (us:List Value) (Q:St->Hp->Prop),Inv X pins σ H s->Vals vs us->t vs σ H Q->
  wpAny (model X.prog X.w) X.A (assignInOrder ((assignEach ts X.env).map (·.2)) us) (λ_ s'=>∃σ' H',Inv X pins σ' H' s'/\Q σ' H') X.xe s
noncomputable abbrev Z0:=V->V->V->Hp->(Hp->Prop)->Prop
def Z1(X:Cx)(t:Z0):Prop:=
 ∀(pins:List (Addr×Obj)) (s:Shared) (σ:St) (H:Hp) (o i v:V) (ov iv u:Value) (Q:Hp->Prop),Inv X pins σ H s->RelV o ov->RelV i iv->RelV v u->t o i v H Q->
  wpAny (model X.prog X.w) X.A (setItem ov iv u) (λ_ s'=>∃H',Inv X pins σ H' s'/\Q H') X.xe s
noncomputable abbrev TIp:=V->V->Hp->VK->Prop
def PIp(X:Cx)(op:Operator)(t:TIp):Prop:=
 ∀(pins:List (Addr×Obj)) (s:Shared) (σ:St) (H:Hp) (x y:V) (v u:Value) (Q:VK),Inv X pins σ H s->RelV x v->RelV y u->t x y H Q->
  wpAny (model X.prog X.w) X.A (inplaceOp op v u) (EP X pins σ Q) X.xe s
section
variable{X:Cx}{pos:Pos}
noncomputable def Fd(i:Nat):TG:=λv σ H Q=>Q (σ.set i (some v)) H
theorem BF(hN:X.N.Nodup)(hi:X.N[i]?=some x)(hx:Loc X.env.scope x)(hf:X.fn x=true∨X.env.scope.names.lookup x=some .local:=by first|exact .inl rfl|exact .inr rfl|assumption):PG X (.Name x pos) (Fd i):=by
 intro pins s σ H v u Q I r h;exact wpAny_assign_Name (IZ I hN hi hx r (λs' I'=>⟨_,H,I',h⟩) hf)
noncomputable def Zi:TGs:=λvs σ H Q=>vs=[]/\Q σ H
noncomputable def Wf(t:TG)(u:TGs):TGs:=λvs σ H Q=>∃v r,vs=v::r/\t v σ H λσ' H'=>u r σ' H' Q
theorem H9:PGs X [] Zi:=by
 intro pins s σ H vs us Q I r h;obtain⟨e,h⟩:=h;subst e;cases r;exact assignInOrder_nil ⟨σ,H,I,h⟩
theorem CI(h1:PG X e t)(h2:PGs X es u)
  (hs:(assignEach (e::es) X.env).map (·.2)=assign e X.env::(assignEach es X.env).map (·.2):=by rfl):PGs X (e::es) (Wf t u):=by
 intro pins s σ H vs us Q I r h;obtain⟨v,vr,e1,h⟩:=h;subst e1;cases r with
 |cons r rr=>
  rw[hs];refine assignInOrder_cons (thn (h1 pins s σ H _ _ _ I r h) λ_ s1 ⟨σ1,H1,I1,q1⟩=>?_);exact h2 pins s1 σ1 H1 _ _ Q I1 rr q1
noncomputable def ai(K:PySem.W.Frag)(n:Nat)(t:TGs):TG:=λv σ H Q=>∃a xs,v=.ref a/\SqT K H a xs/\xs.length=n/\t xs σ H Q
theorem Xg(hc:X.calm=true)(h:PGs X es t)
  (hn:(assignEach es X.env).length=n:=by rfl) (hst:(assignEach es X.env).findIdx? (·.1)=none:=by rfl):PG X (.Tuple es k pos) (ai X.K n t):=by
 intro pins s σ H v u Q I r hw;obtain⟨a,xs,e1,hq,hl,hw⟩:=hw;subst e1;cases r;obtain⟨its,rv,ht,hz⟩:=I.tuple hq;refine assign_Tuple_tuple (I.ok.hd hc) ht (by simp[hn,←hl,rv.length]) hst λh' hx=>?_;have I1:Inv X pins σ H { s with heap:=h' }:=I.kept (t':=s.toks) λb o e=>hx b o (AAf (Heap.lt_size e)) e;exact h pins _ σ H xs _ Q I1 (by simpa using rv) hw
noncomputable def aj(to ti:TE)(t:Z0):TG:=λv σ H Q=>to σ H λo H1=>ti σ H1 λi H2=>t o i v H2 λH3=>Q σ H3
theorem Xh(ho:PE X o to)(hi:PE X i ti)(hs:Z1 X t)
  (ha:∀v,assign (.Subscript o i pos) X.env v=(do
   let ov ←holding [v] (eval o X.env)
   let iv ←holding [v,ov] (eval i X.env)
   standAt pos
   holding [v,ov,iv] (setItem ov iv v)
   release [v,ov,iv] []):=by intro _;rfl):PG X (.Subscript o i pos) (aj to ti t):=by
 intro pins s σ H v u Q I r h;rw[ha];refine AAA (AAq (thn (ho pins s σ H _ I h) λov s1 ⟨x,H1,I1,r1,q1⟩=>?_));refine AAA (AAq (thn (hi pins s1 σ H1 _ I1 q1) λiv s2 ⟨y,H2,I2,r2,q2⟩=>?_));refine AAA (wpAny_standAt (AAA (AAq (thn (hs pins s2 σ H2 x y v ov iv u _ I2 r1 r2 r q2) λ_ s3 ⟨H3,I3,q3⟩=>?_))));exact wpAny_release ⟨σ,H3,I3,q3⟩
noncomputable def Uq(te:TE)(g:TG):TS:=λD σ H=>te σ H λx H1=>g x σ H1 D.nx
theorem Xd(he:PE X e te)(hg:PG X tg g)(hs:swapsWithSole [tg] e pos.line X.env=pure false:=by rfl)(hw:swappedStores [tg] e X.env=pure none:=by rfl)
  (h1:(assignEach [tg] X.env).map (·.2)=[assign tg X.env]:=by rfl):PS X (.Assign [tg] e pos) (Uq te g):=by
 intro pins s σ H D I h;refine wpAny_Assign_stores (thn (he pins s σ H _ I h) λv s1 ⟨x,H1,I1,r1,q1⟩=>?_) hs hw;rw[h1];exact thn (hg pins s1 σ H1 x v _ I1 r1 q1) λ_ s2 q=>q
theorem XY(hN:X.N.Nodup)(hi:X.N[i]?=some x)(hx:Loc X.env.scope x)(he:PE X e te)(hs:swapsWith e (some (.Name x pos')) pos.line X.env=pure false:=by rfl)(hf:X.fn x=true∨X.env.scope.names.lookup x=some .local:=by first|exact .inl rfl|exact .inr rfl|assumption):
  PS X (.Assign [.Name x pos'] e pos) (Uq te (Fd i)):=by
 intro pins s σ H D I h;refine wpAny_Assign_Name (thn (he pins s σ H _ I h) λv s1 ⟨y,H1,I1,r1,q1⟩=>?_) hs;exact IZ I1 hN hi hx r1 (λs2 I2=>⟨_,H1,I2,q1⟩) hf
noncomputable def aJ(i:Nat)(te:TE)(ti:TIp):TS:=λD σ H=>∃x,σ[i]?=some (some x)/\te σ H λy H1=>ti x y H1 λz H2=>D.nx (σ.set i (some z)) H2
theorem Xc(hN:X.N.Nodup)(hi:X.N[i]?=some x)(hx:Loc X.env.scope x)(he:PE X e te)(ho:PIp X op ti)(hf:X.fn x=true∨X.env.scope.names.lookup x=some .local:=by first|exact .inl rfl|exact .inr rfl|assumption):
  PS X (.AugAssign (.Name x pos') op e pos) (aJ i te ti):=by
 intro pins s σ H D I h;obtain⟨v,e1,h⟩:=h;obtain⟨m,hn,hl⟩:=I.loc;have vis:Vis X.env.scope x:=by rcases hx with k|k;exact .inl k;exact .inr (.inl k)
 obtain⟨u,r,l⟩:=hl i x v hi e1 vis;refine wpAny_AugAssign_Name ?_;have go:wpAny (model X.prog X.w) X.A (eval e X.env) (λw s₂=>wpAny (model X.prog X.w) X.A (inplaceOp op u w) (λr s₃=>wpAny (model X.prog X.w) X.A (storeName X.env x r) (λ_=>SP X pins D .next) X.xe s₃) X.xe s₂) X.xe s:=by
  refine thn (he pins s σ H _ I h) λw s1 ⟨y,H1,I1,r1,q1⟩=>?_;refine thn (ho pins s1 σ H1 v y u w _ I1 r r1 q1) λz s2 ⟨zv,H2,I2,r2,q2⟩=>?_;exact IZ I2 hN hi hx r2 (λs3 I3=>⟨_,H2,I3,q2⟩) hf
 rcases l with ⟨hk,hm⟩|⟨hk,c,hc,hcell⟩
 ·exact wpAny_loadName_local I.ok.kind hk hn hm go
 ·rcases hk with hk|hk
  ·exact wpAny_loadName_cell I.ok.kind hk hc hcell go
  ·rcases hx with k|k
   ·have:X.env.scope.names.lookup x=some .free:=hk;rw[k] at this;cases this
   ·have:X.env.scope.names.lookup x=some .free:=hk;rw[k] at this;cases this
noncomputable def ipI(f:Int->Int->Int):TIp:=λx y H Q=>∃i j,x=.int i/\y=.int j/\Q (.int (f i j)) H
theorem YM:PIp X .Sub (ipI λi j=>i-j):=by
 intro pins s σ H x y v u Q I r1 r2 h;obtain⟨i,j,e1,e2,q⟩:=h;subst e1;subst e2;obtain⟨t,rfl⟩:=r1;obtain⟨t',rfl⟩:=r2;exact isub_int ⟨.int _,H,I.tok _,⟨_,rfl⟩,q⟩
end
section
variable{X:Cx}{pos:Pos}
noncomputable def XH(c:TT)(tb:TS):TS:=λD σ H=>∃W:Nat->St->Hp->Prop,(∃m,W m σ H)/\∀m σ H,W m σ H->
 c σ H λb H1=>if b=true then ∃N:St->Hp->Prop,(∀σ' H',N σ' H'->∃m',m'<m/\W m' σ' H')/\tb { D with nx:=N,ct:=N,bk:=D.nx } σ H1 else D.nx σ H1
theorem Se(hp:PassesOwn (model X.prog X.w) X.A X.env X.xe)(hc:PT X c tc)(hb:PSs X body tb):PS X (.While c body [] pos) (XH tc tb):=by
 intro pins s σ H D I h;obtain⟨W,⟨m0,w0⟩,turn⟩:=h;refine wpAny_While (codeAny_whileLoop (λn s'=>∃σ' H',Inv X pins σ' H' s'/\W n σ' H') ?_ m0 ⟨σ,H,I,w0⟩);rintro n s1 ⟨σ1,H1,I1,w1⟩;refine wpAny_passesOwn hp (thn (hc pins s1 σ1 H1 _ I1 (turn n σ1 H1 w1)) λb s2 ⟨H2,I2,q2⟩=>?_);cases b with
 |true=>
  obtain⟨N,hN,q2⟩:=q2;rw[if_pos rfl];refine wpAny_passesOwn hp (thn (hb pins s2 σ1 H2 _ I2 q2) λf s3 q3=>?_);cases f with
  |next=>
   obtain⟨σ3,H3,I3,n3⟩:=q3;obtain⟨m',hm,w3⟩:=hN σ3 H3 n3;exact⟨m',hm,σ3,H3,I3,w3⟩
  |cont=>
   obtain⟨σ3,H3,I3,n3⟩:=q3;obtain⟨m',hm,w3⟩:=hN σ3 H3 n3;exact⟨m',hm,σ3,H3,I3,w3⟩
  |brk=>exact q3
  |ret v=>exact q3
 |false=>
  rw[if_neg AAi];exact wpAny_execs_nil ⟨σ1,H2,I2,q2⟩
end
set_option genInjectivity false in
structure It where
 go:Nat->Hp->Prop
 yld:Nat->Hp->V->Hp->Prop
 stop:Nat->Hp->Prop
def GD(X:Cx)(pins:List (Addr×Obj))(H:Hp)(b:Addr):Prop:=
 H b=none/\b≠X.env.locals/\b∉X.fs/\(b∈X.ex∨X.s₀.heap.objs.size<=b)/\(∀x c,X.env.cells.lookup x=some c->c≠b)/\∀p∈X.pn++pins,p.1≠b
theorem Inv.fpOk(I:Inv X pins σ H s)(hb:s.heap.objs.size<=b)(hn:H' b=none):GD X pins H' b:=by
 refine⟨hn,Nat.ne_of_gt (AAN I.lt hb),I.nofs hb,.inr (AAu I.sz hb),λx c e z=>?_,λp hp z=>?_⟩
 ·obtain⟨v,q⟩:=I.cell x c e;exact absurd (AAN q.lt (by rw[z];exact hb)) (AA2 _)
 ·exact absurd (AAN (Heap.lt_size (I.pin p hp).1) (by rw[z];exact hb)) (AA2 _)
structure NG(P:Program)(w:World)(K:PySem.W.Frag)(tg:Expr)(J:It)(fp:List Addr)(it:Addr)(tn:Nat->Heap->Prop):Prop where
 mem:it∈fp
 obj:∀i h,tn i h->∀b∈fp,∃o,h.get? b=some o/\∀v,o.data≠.cell v
 keep:∀i h h',tn i h->(∀b∈fp,∀o,h.get? b=some o->h'.get? b=some o)->tn i h'
 item:∀(X:Cx),X.prog=P->X.w=w->X.K=K->X.calm=true->∀(i:Nat) (pins:List (Addr×Obj)) (s:Shared) (σ:St) (H:Hp) (E:Value->Shared->Prop),Inv X pins σ H s->(∀b∈fp,GD X pins H b)->tn i s.heap->J.go i H->
  wpAny (model P w) X.A (pyNext (.ref it)) (λr s1=>∃u,r=some u /\
   wpAny (model P w) X.A (letOwnedTupleGo tg (.ref it) u) (λ_ s2=>∃x H',Inv X pins σ H' s2/\RelV x u/\J.yld i H x H'/\tn (i+1) s2.heap/\∀b∈fp,H' b=none) E s1) E s
 done:∀(X:Cx),X.prog=P->X.w=w->X.K=K->X.calm=true->∀(i:Nat) (pins:List (Addr×Obj)) (s:Shared) (σ:St) (H:Hp) (E:Value->Shared->Prop),Inv X pins σ H s->(∀b∈fp,GD X pins H b)->tn i s.heap->J.stop i H->
  wpAny (model P w) X.A (pyNext (.ref it)) (λr s1=>r=none/\Inv X pins σ H s1) E s
 self:∀(A:Around) (i:Nat) (s:Shared) (Q:Value->Shared->Prop) (E:Value->Shared->Prop),tn i s.heap->Q (.ref it) s->wpAny (model P w) A (pyIter (.ref it)) Q E s
noncomputable abbrev TI:=St->Hp->(It->Hp->Prop)->Prop
def PIE(X:Cx)(pins:List (Addr×Obj))(σ:St)(tg:Expr)(R:It->Hp->Prop)(itv:Value)(s2:Shared):Prop:=
 ∃(it:Addr) (fp:List Addr) (tn:Nat->Heap->Prop) (J:It) (H':Hp),itv=.ref it/\Inv X pins σ H' s2/\NG X.prog X.w X.K tg J fp it tn/\tn 0 s2.heap/\(∀b∈fp,GD X pins H' b)/\R J H'
def PI(X:Cx)(tg iter:Expr)(wi:TI):Prop:=
 ∀(pins:List (Addr×Obj)) (s:Shared) (σ:St) (H:Hp) (R:It->Hp->Prop),Inv X pins σ H s->wi σ H R->
  wpAny (model X.prog X.w) X.A (eval iter X.env) (λv s1=>wpAny (model X.prog X.w) X.A (pyIter v) (PIE X pins σ tg R) X.xe s1) X.xe s
theorem Te(ho:s.heap.get? it=some o)(hc:o.cls=.type n)(hd:o.data=.fields vs)
  (hn:["enumerate", "zip", "dict_itemiterator", "dict_reverseitemiterator", "odict_iterator", "itertools.zip_longest", "itertools.pairwise"].contains n=false) (hQ:Q () s):wpAny M A (letOwnedTupleGo tg (.ref it) u) Q E s:=by
 unfold letOwnedTupleGo;cases tg<;>first
  |exact AAB hQ
  |(cases u<;>first
    |exact AAB hQ
    |(refine AAA (wpAny_load ho ?_);rw[hc,hd];show wpAny M A (if (["enumerate", "zip", "dict_itemiterator", "dict_reverseitemiterator", "odict_iterator", "itertools.zip_longest", "itertools.pairwise"].contains n&&vs[0]?==some (rawInt _))=true then _ else _) Q E s;rw[if_neg (by intro h;rw[hn,Bool.false_and] at h;cases h)];exact AAB hQ))
noncomputable def Itl(K:PySem.W.Frag)(a:Addr):It:=
 ⟨λi H=>∃xs x,SqL K H a xs/\xs[i]?=some x,λi H x H'=>H'=H/\∀xs,SqL K H a xs->xs[i]?=some x,λi H=>∃xs,SqL K H a xs/\xs.length<=i⟩
noncomputable def Itt(K:PySem.W.Frag)(a:Addr):It:=
 ⟨λi H=>∃xs x,SqT K H a xs/\xs[i]?=some x,λi H x H'=>H'=H/\∀xs,SqT K H a xs->xs[i]?=some x,λi H=>∃xs,SqT K H a xs/\xs.length<=i⟩
noncomputable def Itr(lo:Int)(n:Nat):It:=⟨λi _=>i<n,λi H x H'=>H'=H/\x=.int (lo+i),λi _=>n<=i⟩
theorem Pv{P:Program}{w:World}{K:PySem.W.Frag}{tg:Expr}(a it:Addr):NG P w K tg (Itl K a) [it] it (λi h=>h.IsListIter it a i) where
 mem:=by simp
 obj:=λi h st b hb=>by
  have e:b=it:=by simpa using hb
  subst e;obtain⟨o,e,c,d⟩:=st;exact⟨o,e,λv z=>by rw[d] at z;cases z⟩
 keep:=λi h h' st k=>st.at λo e=>k it (by simp) o e
 item:=by
  intro X hP hw hK hc i pins s σ H E I hf st hg;subst hP hw hK;obtain⟨xs,x,hq,hx⟩:=hg;obtain⟨its,rv,p,hz⟩:=I.list hq;obtain⟨u,hu,ru⟩:=rv.get hx;obtain⟨f0,f1,f2,f3,f4,f5⟩:=hf it (by simp);refine wpAny_pyNext_list_item st p.isList (x:=u) (by simpa using hu) λh' st' sb=>?_;have I1:Inv X pins σ H { s with heap:=h' }:=I.turned (t':=s.toks) (λb o hb e=>(sb.2 b hb).trans e) f0 f1 f3 f4 f5;obtain⟨o,e,c,d⟩:=id st';exact⟨u,rfl,Te (s:={ s with heap:=h' }) e c d (by decide) ⟨x,H,I1,ru,⟨rfl,λys hy=>by rw[I.list_inj hy hq];exact hx⟩,st',λb hb=>(hf b hb).1⟩⟩
 done:=by
  intro X hP hw hK hc i pins s σ H E I hf st hg;subst hP hw hK;obtain⟨xs,hq,hx⟩:=hg;obtain⟨its,rv,p,hz⟩:=I.list hq;obtain⟨f0,f1,f2,f3,f4,f5⟩:=hf it (by simp);have hl:=rv.length;exact wpAny_pyNext_list_end (I.ok.hd hc) st p.isList (by simp;omega) λh' eb=>⟨rfl,I.turned (t':=s.toks) (λb o hb e=>eb b o hb e) f0 f1 f3 f4 f5⟩
 self:=λ_ _ _ _ _ st h=>wpAny_pyIter_listiter st h
theorem NU{P:Program}{w:World}{K:PySem.W.Frag}{tg:Expr}(a it:Addr):NG P w K tg (Itt K a) [it] it (λi h=>h.IsTupleIter it a i) where
 mem:=by simp
 obj:=λi h st b hb=>by
  have e:b=it:=by simpa using hb
  subst e;obtain⟨o,e,c,d⟩:=st;exact⟨o,e,λv z=>by rw[d] at z;cases z⟩
 keep:=λi h h' st k=>st.at λo e=>k it (by simp) o e
 item:=by
  intro X hP hw hK hc i pins s σ H E I hf st hg;subst hP hw hK;obtain⟨xs,x,hq,hx⟩:=hg;obtain⟨its,rv,p,hz⟩:=I.tuple hq;obtain⟨u,hu,ru⟩:=rv.get hx;obtain⟨f0,f1,f2,f3,f4,f5⟩:=hf it (by simp);refine wpAny_pyNext_tuple_item st (show s.heap.IsTuple a its.toArray from p) (x:=u) (by simpa using hu) λh' st' sb=>?_;have I1:Inv X pins σ H { s with heap:=h' }:=I.turned (t':=s.toks) (λb o hb e=>(sb.2 b hb).trans e) f0 f1 f3 f4 f5;obtain⟨o,e,c,d⟩:=id st';exact⟨u,rfl,Te (s:={ s with heap:=h' }) e c d (by decide) ⟨x,H,I1,ru,⟨rfl,λys hy=>by rw[I.tuple_inj hy hq];exact hx⟩,st',λb hb=>(hf b hb).1⟩⟩
 done:=by
  intro X hP hw hK hc i pins s σ H E I hf st hg;subst hP hw hK;obtain⟨xs,hq,hx⟩:=hg;obtain⟨its,rv,p,hz⟩:=I.tuple hq;obtain⟨f0,f1,f2,f3,f4,f5⟩:=hf it (by simp);have hl:=rv.length;exact wpAny_pyNext_tuple_end (I.ok.hd hc) st (show s.heap.IsTuple a its.toArray from p) (by simp;omega) λh' eb=>⟨rfl,I.turned (t':=s.toks) (λb o hb e=>eb b o hb e) f0 f1 f3 f4 f5⟩
 self:=λ_ _ _ _ _ st h=>wpAny_pyIter_tupleiter st h
theorem NV{P:Program}{w:World}{K:PySem.W.Frag}{tg:Expr}(it:Addr)(lo:Int)(n:Nat):NG P w K tg (Itr lo n) [it] it (λi h=>IsRangeIter h it (lo+(i:Nat) * 1) ((n:Int)-(i:Nat)) 1) where
 mem:=by simp
 obj:=λi h st b hb=>by
  have e:b=it:=by simpa using hb
  subst e;exact⟨_,st,λv z=>by
   have z':Data.fields _=Data.cell v:=z;cases z'⟩
 keep:=λi h h' st k=>k it (by simp) _ st
 item:=by
  intro X hP hw hK hc i pins s σ H E I hf st hg;subst hP hw hK;obtain⟨f0,f1,f2,f3,f4,f5⟩:=hf it (by simp);have W:=Walks.range (prog:=X.prog) (w:=X.w) (I.ok.hd hc) it lo 1 n;refine W.item i s _ _ hg st λv h' tk hv st' kk=>?_;obtain⟨t,rfl⟩:=hv;have I1:Inv X pins σ H { s with heap:=h',toks:=tk }:=I.turned (λb o hb e=>kk b o (by simpa using hb) e) f0 f1 f3 f4 f5;refine⟨_,rfl,Te (s:={ s with heap:=h',toks:=tk }) (n := "range_iterator") st' rfl rfl (by decide) ⟨.int (lo+i),H,I1,⟨t,?_⟩,⟨rfl,rfl⟩,st',λb hb=>(hf b hb).1⟩⟩;rw[Int.mul_one]
 done:=by
  intro X hP hw hK hc i pins s σ H E I hf st hg;subst hP hw hK;obtain⟨f0,f1,f2,f3,f4,f5⟩:=hf it (by simp);exact wpAny_pyNext_range_end (I.ok.hd hc) st (by have:n<=i:=hg;omega) λh' eb=>⟨rfl,I.turned (t':=s.toks) (λb o hb e=>eb b o hb e) f0 f1 f3 f4 f5⟩
 self:=λ_ _ _ _ _ st h=>wpAny_pyIter_rangeiter st h
section
variable{X:Cx}{tg:Expr}
noncomputable def Wc(K:PySem.W.Frag)(tl:TE):TI:=λσ H R=>tl σ H λx H1=>∃a,x=.ref a/\(∃xs,SqL K H1 a xs)/\R (Itl K a) H1
noncomputable def Zg(K:PySem.W.Frag)(tl:TE):TI:=λσ H R=>tl σ H λx H1=>∃a,x=.ref a/\(∃xs,SqT K H1 a xs)/\R (Itt K a) H1
theorem VS{l:Expr}{tl:TE}(hl:PE X l tl):PI X tg l (Wc X.K tl):=by
 intro pins s σ H R I h;refine thn (hl pins s σ H _ I h) λv s1 ⟨x,H1,I1,r1,q1⟩=>?_;obtain⟨a,e,⟨xs,hq⟩,q⟩:=q1;subst e;cases r1;obtain⟨its,rv,p,hz⟩:=I1.list hq;refine wpAny_pyIter_list p.isList ?_;refine⟨s1.heap.objs.size,[s1.heap.objs.size],_,_,H1,rfl,I1.kept (t':=s1.toks) λb o e=>AAC _ e,Pv a _,⟨_,AAD _ rfl,rfl,rfl⟩,λb hb=>?_,q⟩;have e:b=s1.heap.objs.size:=by simpa using hb
 subst e;exact I1.fpOk (AAF _) (I1.hok.fresh (AAF _))
theorem Xf{l:Expr}{tl:TE}(hl:PE X l tl):PI X tg l (Zg X.K tl):=by
 intro pins s σ H R I h;refine thn (hl pins s σ H _ I h) λv s1 ⟨x,H1,I1,r1,q1⟩=>?_;obtain⟨a,e,⟨xs,hq⟩,q⟩:=q1;subst e;cases r1;obtain⟨its,rv,p,hz⟩:=I1.tuple hq;refine wpAny_pyIter_tuple (show s1.heap.IsTuple a its.toArray from p) ?_;refine⟨s1.heap.objs.size,[s1.heap.objs.size],_,_,H1,rfl,I1.kept (t':=s1.toks) λb o e=>AAC _ e,NU a _,⟨_,AAD _ rfl,rfl,rfl⟩,λb hb=>?_,q⟩;have e:b=s1.heap.objs.size:=by simpa using hb
 subst e;exact I1.fpOk (AAF _) (I1.hok.fresh (AAF _))
theorem SU{pins:List (Addr×Obj)}{σ:St}{H:Hp}{s:Shared}{lo hi:Int}{t u v:Tok}{tk:Nat}(I:Inv X pins σ H s)(h1:-(2 ^ 62)<=lo)(h2:lo<2 ^ 62)(h3:-(2 ^ 62)<=hi)(h4:hi<2 ^ 62)
  (q:R (Itr lo (hi-lo).toNat) H):wpAny (model X.prog X.w) X.A (pyIter (.ref s.heap.objs.size)) (PIE X pins σ tg R) E { s with heap:=s.heap.push { cls:=.type "range",data:=.fields #[.int lo t,.int hi u,.int 1 v] },toks:=tk }:=by
 refine wpAny_pyIter_range (IsRange.new ..) (small_one h1 h2 h3 h4) ?_;have I1:Inv X pins σ H { s with heap:=s.heap.push { cls:=.type "range",data:=.fields #[.int lo t,.int hi u,.int 1 v] },toks:=tk }:=I.kept λb o e=>AAC _ e;refine⟨(s.heap.push { cls:=.type "range",data:=.fields #[.int lo t,.int hi u,.int 1 v] }).objs.size,[(s.heap.push { cls:=.type "range",data:=.fields #[.int lo t,.int hi u,.int 1 v] }).objs.size],_,_,H,rfl,
  I1.kept (t':=tk) λb o e=>AAC _ e,NV _ lo (hi-lo).toNat,?_,λb hb=>?_,q⟩
 ·have e1:lo+((0:Nat):Int) * 1=lo:=by simp
  have e2:(((hi-lo).toNat:Nat):Int)-((0:Nat):Int)=Builtin.Range.rangeSize lo hi 1:=by rw[rangeSize_one];split<;>omega
  show IsRangeIter _ _ (lo+((0:Nat):Int) * 1) ((((hi-lo).toNat:Nat):Int)-((0:Nat):Int)) 1;rw[e1,e2];exact AAD _ rfl
 ·have e:b=(s.heap.push { cls:=.type "range",data:=.fields #[.int lo t,.int hi u,.int 1 v] }).objs.size:=by simpa using hb
  subst e;exact I1.fpOk (AAF _) (I1.hok.fresh (AAF _))
noncomputable def Zh(ta:TA):TI:=λσ H R=>ta σ H λvs H1=>∃j:Int,vs=[.int j]/\-(2 ^ 62)<=j/\j<2 ^ 62/\R (Itr 0 j.toNat) H1
theorem QE{a:Expr}{p pos:Pos}(hg:Gl X "range")(hm:X.mg "range" = none)(ha:PA X [a] ta)(hs:starEach [a] X.env=[(false,eval a X.env)]:=by rfl):PI X tg (.Call (.Name "range" p) [a] [] pos) (Zh ta):=by
 intro pins s σ H R I h;refine Call_ (Et I hg hm boot_range (PyProof.Rows.callWith_type1 (thn (ha pos pins s σ H _ I h) λus s1 ⟨vs,H1,I1,r1,q1⟩=>?_) hs rfl));obtain⟨j,e,q1,q2,q⟩:=q1;subst e;cases r1 with
 |cons r rr=>
  cases rr;obtain⟨t,rfl⟩:=r;exact call_range_1 (SU I1 (by omega) (by omega) q1 q2 (by simpa using q))
noncomputable def aH(wi:TI)(g:TG)(tb:TS):TS:=λD σ H=>wi σ H λJ H1=>∃W:Nat->Nat->St->Hp->Prop,(∃m,W 0 m σ H1)/\∀i m σ H,W i m σ H->
 (J.stop i H/\D.nx σ H)∨(J.go i H/\∃N:St->Hp->Prop,(∀σ' H',N σ' H'->∃m',m'<m/\W (i+1) m' σ' H')/\∀x H',J.yld i H x H'->g x σ H' λσ2 H2=>tb { D with nx:=N,ct:=N,bk:=D.nx } σ2 H2)
noncomputable def LG(fp:List Addr)(h:Heap):List (Addr×Obj):=fp.filterMap λb=>(h.get? b).map λo=>(b,o)
theorem CN(hb:b∈fp)(e:h.get? b=some o):(b,o)∈LG fp h:=List.mem_filterMap.mpr ⟨b,hb,by rw[e];rfl⟩
theorem QJ(hp:p∈LG fp h):p.1∈fp/\h.get? p.1=some p.2:=by
 obtain⟨b,hb,e⟩:=List.mem_filterMap.mp hp;cases q:h.get? b with
 |none=>rw[q] at e;cases e
 |some o=>
  rw[q] at e;have e':(b,o)=p:=Option.some.inj e;subst e';exact⟨hb,q⟩
theorem Inv.pinned(I:Inv X pins σ H s)(hf:∀b∈fp,GD X pins H b)(ho:∀b∈fp,∃o,s.heap.get? b=some o/\∀v,o.data≠.cell v):Inv X (pins++LG fp s.heap) σ H s:=
 I.pins_of λp hp=>(AAK.mp hp).elim (λz=>I.pin p (AAc _ z)) λz=>by
  obtain⟨hb,e⟩:=QJ z;obtain⟨f0,f1,f2,_⟩:=hf p.1 hb;obtain⟨o,e',d⟩:=ho p.1 hb;rw[e] at e';cases e';exact⟨e,f0,f1,f2,d⟩
theorem Inv.unpinned(I:Inv X (pins++pl) σ H s):Inv X pins σ H s:=I.pins_of λp hp=>I.pin p (AAc _ (AAd _ hp))
theorem Xa(hp:PassesOwn (model X.prog X.w) X.A X.env X.xe)(hc:X.calm=true)(hi:PI X tg iter wi)(hg:PG X tg g)(hb:PSs X body tb)
  (hs:∀x,foldedSetIterable iter X.env x=pure x:=by intro _;rfl):PS X (.For tg iter body [] pos) (aH wi g tb):=by
 intro pins s σ H D I h;refine wpAny_For (thn (hi pins s σ H _ I h) λv s1 h1=>thn h1 λitv s2 h2=>?_) hs;obtain⟨it,fp,tn,J,H2,e,I2,T,st2,f2,W,⟨m0,w0⟩,turn⟩:=h2;subst e;have stat:∀{H':Hp},(∀b∈fp,H' b=none)->∀b∈fp,GD X pins H' b:=λhn b hb=>⟨hn b hb,(f2 b hb).2⟩;refine codeAny_forLoop_any (λn s'=>∃i σ' H',Inv X pins σ' H' s'/\tn i s'.heap/\(∀b∈fp,H' b=none)/\W i n σ' H') ?_ m0 ⟨0,σ,H2,I2,st2,λb hb=>(f2 b hb).1,w0⟩;rintro n s3 ⟨i,σ3,H3,I3,st3,fr3,w3⟩;rcases turn i n σ3 H3 w3 with ⟨stop,qn⟩|⟨go,N,hN,step⟩
 ·refine wpAny_passesOwn hp (thn (T.done X rfl rfl rfl hc i pins s3 σ3 H3 X.xe I3 (stat fr3) st3 stop) λr s4 ⟨hr,I4⟩=>?_);subst hr;exact wpAny_execs_nil ⟨σ3,H3,I4,qn⟩
 ·refine wpAny_passesOwn hp (thn (T.item X rfl rfl rfl hc i pins s3 σ3 H3 X.xe I3 (stat fr3) st3 go) λr s4 ⟨u,hr,h4⟩=>?_);subst hr;refine wpAny_passesOwn hp (thn h4 λ_ s5 ⟨x,H5,I5,r5,y5,st5,fr5⟩=>?_);have I5':=I5.pinned (stat fr5) (T.obj _ _ st5);refine wpAny_passesOwn hp (thn (hg _ s5 σ3 H5 x u _ I5' r5 (step x H5 y5)) λ_ s6 ⟨σ6,H6,I6,q6⟩=>?_);refine wpAny_passesOwn hp (thn (hb _ s6 σ6 H6 _ I6 q6) λf s7 q7=>?_);have again:∀{σ7:St} {H7:Hp},Inv X (pins++LG fp s5.heap) σ7 H7 s7->N σ7 H7->∃m,m<n/\∃i σ' H',Inv X pins σ' H' s7/\tn i s7.heap/\(∀b∈fp,H' b=none)/\W i m σ' H':=λ{σ7 H7} I7 n7=>by
   obtain⟨m',hm,w7⟩:=hN σ7 H7 n7;refine⟨m',hm,i+1,σ7,H7,I7.unpinned,T.keep _ _ _ st5 λb hb o e=>(I7.pin (b,o) (AAc _ (AAc _ (CN hb e)))).1,λb hb=>?_,w7⟩;obtain⟨o,e,d⟩:=T.obj _ _ st5 b hb;exact(I7.pin (b,o) (AAc _ (AAc _ (CN hb e)))).2.1
  cases f with
  |next=>obtain⟨σ7,H7,I7,n7⟩:=q7;exact again I7 n7
  |cont=>obtain⟨σ7,H7,I7,n7⟩:=q7;exact again I7 n7
  |brk=>obtain⟨σ7,H7,I7,q7⟩:=q7;exact⟨σ7,H7,I7.unpinned,q7⟩
  |ret v=>obtain⟨x7,σ7,H7,I7,r7,q7⟩:=q7;exact⟨x7,σ7,H7,I7.unpinned,r7,q7⟩
end
noncomputable abbrev R2:=V->V->Hp->VK->Prop
def OpR(X:Cx)(f:Value->Value->Sem Value)(r:R2):Prop:=
 ∀(pins:List (Addr×Obj)) (s:Shared) (σ:St) (H:Hp) (x y:V) (v u:Value) (Q:VK),Inv X pins σ H s->RelV x v->RelV y u->r x y H Q->
  wpAny (model X.prog X.w) X.A (f v u) (EP X pins σ Q) X.xe s
def UnR(X:Cx)(f:Value->Sem Value)(r:V->Hp->VK->Prop):Prop:=
 ∀(pins:List (Addr×Obj)) (s:Shared) (σ:St) (H:Hp) (x:V) (v:Value) (Q:VK),Inv X pins σ H s->RelV x v->r x H Q->
  wpAny (model X.prog X.w) X.A (f v) (EP X pins σ Q) X.xe s
def Bv(X:Cx)(f:Value)(r:List V->Hp->VK->Prop):Prop:=
 ∀(pins:List (Addr×Obj)) (s:Shared) (σ:St) (H:Hp) (xs:List V) (us:List Value) (Q:VK),Inv X pins σ H s->Vals xs us->r xs H Q->
  wpAny (model X.prog X.w) X.A (call f us) (EP X pins σ Q) X.xe s
def av(X:Cx)(r:V->Hp->(Bool->Hp->Prop)->Prop):Prop:=
 ∀(pins:List (Addr×Obj)) (s:Shared) (σ:St) (H:Hp) (x:V) (v:Value) (Q:Bool->Hp->Prop),Inv X pins σ H s->RelV x v->r x H Q->
  wpAny (model X.prog X.w) X.A (truthy v) (TP X pins σ Q) X.xe s
noncomputable def tOp(r:R2)(ta tb:TE):TE:=λσ H Q=>ta σ H λx H1=>tb σ H1 λy H2=>r x y H2 Q
noncomputable def tUn(r:V->Hp->VK->Prop)(ta:TE):TE:=λσ H Q=>ta σ H λx H1=>r x H1 Q
noncomputable def rI(C:Int->Int->Prop)(g:Int->Int->V):R2:=λx y H Q=>∃i j,x=.int i/\y=.int j/\C i j/\Q (g i j) H
noncomputable def rI0(g:Int->Int->V):R2:=λx y H Q=>∃i j,x=.int i/\y=.int j/\Q (g i j) H
noncomputable def rU(g:Int->V):V->Hp->VK->Prop:=λx H Q=>∃i,x=.int i/\Q (g i) H
section
variable{X:Cx}{a b:Expr}{ta tb:TE}{pos:Pos}
theorem Yb(ha:PE X a ta)(hb:PE X b tb){pins:List (Addr×Obj)}{s:Shared}{H:Hp}{R:V->V->Hp->Prop}(I:Inv X pins σ H s)
  (h:ta σ H λx H1=>tb σ H1 λy H2=>R x y H2) {Q:Value->Shared->Prop} {f:Value->Value->Sem Value}
  (hf:∀v u s2 x y H2,Inv X pins σ H2 s2->RelV x v->RelV y u->R x y H2->wpAny (model X.prog X.w) X.A (f v u) Q X.xe s2) :
  wpAny (model X.prog X.w) X.A (eval a X.env) (λv s₁=>wpAny (model X.prog X.w) X.A (eval b X.env) (λu s₂=>wpAny (model X.prog X.w) X.A (f v u) Q X.xe s₂) X.xe s₁) X.xe s:=by
 refine thn (ha pins s σ H _ I h) λv s1 ⟨x,H1,I1,r1,q1⟩=>?_;refine thn (hb pins s1 σ H1 _ I1 q1) λu s2 ⟨y,H2,I2,r2,q2⟩=>?_;exact hf v u s2 x y H2 I2 r1 r2 q2
theorem ZK{op:Operator}{r:R2}(ho:OpR X (binaryOp op) r)(ha:PE X a ta)(hb:PE X b tb):PE X (.BinOp a op b pos) (tOp r ta tb):=by
 intro pins s σ H Q I h;exact wpAny_BinOp (Yb ha hb I h λv u s2 x y H2 I2 rx ry q=>ho pins s2 σ H2 x y v u Q I2 rx ry q)
theorem ZI(ho:UnR X (unaryOp op) r)(ha:PE X a ta):PE X (.UnaryOp op a pos) (tUn r ta):=by
 intro pins s σ H Q I h;exact UnaryOp_ (thn (ha pins s σ H _ I h) λv s1 ⟨x,H1,I1,r1,q1⟩=>ho pins s1 σ H1 x v Q I1 r1 q1)
theorem opI{f:Value->Value->Sem Value}{g:Int->Int->Int}
  (rule:∀(i j:Int) (t u:Tok) (s:Shared) (Q:Value->Shared->Prop) (E:Value->Shared->Prop),C i j->Q (.int (g i j) s.toks) { s with toks:=s.toks+1 }->wpAny (model X.prog X.w) X.A (f (.int i t) (.int j u)) Q E s) :
  OpR X f (rI C λi j=>.int (g i j)):=by
 intro pins s σ H x y v u Q I rx ry h;obtain⟨i,j,rfl,rfl,hc,q⟩:=h;obtain⟨t,rfl⟩:=rx;obtain⟨t',rfl⟩:=ry;exact rule i j t t' s _ _ hc ⟨.int (g i j),H,I.tok _,⟨_,rfl⟩,q⟩
theorem ZU{g:Int->Int->Int}
  (rule:∀(i j:Int) (t u:Tok) (s:Shared) (Q:Value->Shared->Prop) (E:Value->Shared->Prop),Q (.int (g i j) s.toks) { s with toks:=s.toks+1 }->wpAny (model X.prog X.w) X.A (f (.int i t) (.int j u)) Q E s) :
  OpR X f (rI0 λi j=>.int (g i j)):=by
 intro pins s σ H x y v u Q I rx ry h;obtain⟨i,j,rfl,rfl,q⟩:=h;obtain⟨t,rfl⟩:=rx;obtain⟨t',rfl⟩:=ry;exact rule i j t t' s _ _ ⟨.int (g i j),H,I.tok _,⟨_,rfl⟩,q⟩
theorem Vj{g:Int->Int->Bool}
  (rule:∀(i j:Int) (t u:Tok) (s:Shared) (Q:Value->Shared->Prop) (E:Value->Shared->Prop),Q (.bool (g i j)) s->wpAny (model X.prog X.w) X.A (f (.int i t) (.int j u)) Q E s) :
  OpR X f (rI0 λi j=>.bl (g i j)):=by
 intro pins s σ H x y v u Q I rx ry h;obtain⟨i,j,rfl,rfl,q⟩:=h;obtain⟨t,rfl⟩:=rx;obtain⟨t',rfl⟩:=ry;exact rule i j t t' s _ _ ⟨.bl (g i j),H,I,rfl,q⟩
def a6(i j:Int):Prop:=0<j/\j<1073741824
def az(i j:Int):Prop:=0<=j/\j<=1000000/\i.natAbs<2 ^ 64
def CMul(i j:Int):Prop:=(-(2 ^ 64)<i/\i<2 ^ 64)∨(-(2 ^ 64)<j/\j<2 ^ 64)
theorem CMul.ok(h:CMul i j):IntMulOk i j:=by
 rcases h with ⟨h1,h2⟩|⟨h1,h2⟩
 ·exact .of_left (intBits_le_64 h1 h2)
 ·exact .of_right (intBits_le_64 h1 h2)
theorem X7:OpR X (binaryOp .Add) (rI0 λi j=>.int (i+j)):=ZU λ_ _ _ _ _ _ _ q=>add_int q
theorem Xy:OpR X (binaryOp .Sub) (rI0 λi j=>.int (i-j)):=ZU λ_ _ _ _ _ _ _ q=>sub_int q
theorem X2:OpR X (binaryOp .Mult) (rI CMul λi j=>.int (i * j)):=opI λ_ _ _ _ _ _ _ hc q=>mul_int q hc.ok
theorem Vh:OpR X (binaryOp .FloorDiv) (rI a6 λi j=>.int (i / j)):=opI λi j _ _ _ _ _ hc q=>by
 have h1:(0:Int)<j:=hc.1;have h2:j<1073741824:=hc.2;exact floordiv_int (by omega) (by rw[Int.fdiv_eq_ediv_of_nonneg i (by omega)];exact q) (.inl (PyProof.noPylong_small (by omega)))
theorem X3:OpR X (binaryOp .Mod) (rI (λ_ j=>0<j) λi j=>.int (i % j)):=opI λi j _ _ _ _ _ hc q=>by
 have h1:(0:Int)<j:=hc;exact mod_int' (by omega) (by rw[Int.fmod_eq_emod_of_nonneg i (by omega)];exact q)
theorem X0:OpR X (binaryOp .Pow) (rI az λi j=>.int (i ^ j.toNat)):=opI λ_ _ _ _ _ _ _ hc q=>pow_int_small hc.1 hc.2.1 hc.2.2 q
theorem unI{g:Int->Int}
  (rule:∀(i:Int) (t:Tok) (s:Shared) (Q:Value->Shared->Prop) (E:Value->Shared->Prop),Q (.int (g i) s.toks) { s with toks:=s.toks+1 }->wpAny (model X.prog X.w) X.A (f (.int i t)) Q E s) :
  UnR X f (rU λi=>.int (g i)):=by
 intro pins s σ H x v Q I rx h;obtain⟨i,rfl,q⟩:=h;obtain⟨t,rfl⟩:=rx;exact rule i t s _ _ ⟨.int (g i),H,I.tok _,⟨_,rfl⟩,q⟩
theorem XC:UnR X (unaryOp .USub) (rU λi=>.int (-i)):=unI λ_ _ _ _ _ q=>neg_int q
end
section
variable{X:Cx}{a b c:Expr}{ta tb tc:TE}{pos:Pos}
theorem LT(I:Inv X pins σ H s)(q:Q (.bl k) H)(e:k=k'):EP X pins σ Q (.bool k') s:=by
 subst e;exact⟨.bl k,H,I,rfl,q⟩
theorem ZQ:OpR X (compareOp .Lt) (rI0 λi j=>.bl (decide (i<j))):=Vj λ_ _ _ _ _ _ _ q=>lt_int q
theorem ZR:OpR X (compareOp .LtE) (rI0 λi j=>.bl (decide (i<=j))):=Vj λ_ _ _ _ _ _ _ q=>le_int q
theorem ZS:OpR X (compareOp .Gt) (rI0 λi j=>.bl (decide (j<i))):=Vj λ_ _ _ _ _ _ _ q=>gt_int q
theorem ZT:OpR X (compareOp .GtE) (rI0 λi j=>.bl (decide (j<=i))):=Vj λ_ _ _ _ _ _ _ q=>ge_int q
theorem QH:OpR X (compareOp .In) (λx y H Q=>∃i j,x=.str i/\y=.str j/\Q (.bl (!(Builtin.Str.occurrences j i 0 j.length 1).isEmpty)) H):=by
 intro pins s σ H x y v u Q I rx ry h;obtain⟨i,j,rfl,rfl,q⟩:=h;obtain⟨t,rfl⟩:=rx;obtain⟨t',rfl⟩:=ry;exact in_str (LT I q rfl)
theorem X4:OpR X (compareOp .Is) (λx y H Q=>y=.non/\Q (.bl (decide (x=.non))) H):=by
 intro pins s σ H x y v u Q I rx ry h;obtain⟨rfl,q⟩:=h;cases ry;refine is_none_gen (LT I q ?_);cases x<;>first
  |(cases rx;rfl)
  |(obtain⟨t,rfl⟩:=rx;rfl)
theorem Vg:OpR X (compareOp .IsNot) (λx y H Q=>y=.non/\Q (.bl (!decide (x=.non))) H):=by
 intro pins s σ H x y v u Q I rx ry h;obtain⟨rfl,q⟩:=h;cases ry;refine isnot_none_gen (LT I q ?_);cases x<;>first
  |(cases rx;rfl)
  |(obtain⟨t,rfl⟩:=rx;rfl)
theorem LH:OpR X (compareOp .NotIn) (λx y H Q=>∃i j,x=.str i/\y=.str j/\Q (.bl (!(!(Builtin.Str.occurrences j i 0 j.length 1).isEmpty))) H):=by
 intro pins s σ H x y v u Q I rx ry h;obtain⟨i,j,rfl,rfl,q⟩:=h;obtain⟨t,rfl⟩:=rx;obtain⟨t',rfl⟩:=ry;exact notIn_str (LT I q rfl)
theorem TC(b:Expr)(h:op≠.In:=by decide)(h2:op≠.NotIn:=by decide):behindInMarks op b=false:=by
 have e1:(op==CmpOp.In)=false:=by cases op<;>first|rfl|exact absurd rfl h
 have e2:(op==CmpOp.NotIn)=false:=by cases op<;>first|rfl|exact absurd rfl h2
 cases b<;>simp[behindInMarks,e1,e2]
theorem Vb{r:R2}(ho:OpR X (compareOp op) r)(ha:PE X a ta)(hb:PE X b tb)(hm:behindInMarks op b=false):PE X (.Compare a [op] [b] pos) (tOp r ta tb):=by
 intro pins s σ H Q I h;exact wpAny_Compare1 (Yb ha hb I h λv u s2 x y H2 I2 rx ry q=>ho pins s2 σ H2 x y v u Q I2 rx ry q) hm
noncomputable def Yp(t:TE):TT:=λσ H Q=>t σ H λx H'=>∃k,x=.bl k/\Q k H'
theorem VH(ho:OpR X (compareOp op) r)(ha:PE X a ta)(hb:PE X b tb)(hm:behindInMarks op b=false):PT X (.Compare a [op] [b] pos) (Yp (tOp r ta tb)):=by
 intro pins s σ H Q I h;refine wpAny_isTrue_Compare1 (thn (ha pins s σ H _ I h) λv s1 ⟨x,H1,I1,r1,q1⟩=>thn (hb pins s1 σ H1 _ I1 q1) λu s2 ⟨y,H2,I2,r2,q2⟩=>
  thn (ho pins s2 σ H2 x y v u _ I2 r1 r2 q2) λc s3 ⟨z,H3,I3,r3,k,e,q3⟩=>?_) hm
 subst e;cases r3;exact wpAny_truthy_bool ⟨H3,I3,q3⟩
noncomputable def Rx(r r':R2)(ta tb tc:TE):TE:=λσ H Q=>ta σ H λx H1=>tb σ H1 λy H2=>r x y H2 λz H3=>∃k,z=.bl k /\
 (if k=true then tc σ H3 λw' H4=>r' y w' H4 Q else Q (.bl false) H3)
theorem Sz(ho:OpR X (compareOp op) r)(ho':OpR X (compareOp op') r')(ha:PE X a ta)(hb:PE X b tb)(hc:PE X c tc)
  (hm:lastMarks [op,op'] [b,c]=false:=by with_unfolding_all rfl):PE X (.Compare a [op,op'] [b,c] pos) (Rx r r' ta tb tc):=by
 intro pins s σ H Q I h;refine Compare_chain (thn (ha pins s σ H _ I h) λv s1 ⟨x,H1,I1,r1,q1⟩=>chain_link (thn (hb pins s1 σ H1 _ I1 q1) λu s2 ⟨y,H2,I2,r2,q2⟩=>
  thn (ho pins s2 σ H2 x y v u _ I2 r1 r2 q2) λd s3 ⟨z,H3,I3,r3,k,e,q3⟩=>?_)) hm
 subst e;cases r3;refine wpAny_truthy_bool ?_;cases k with
 |false=>exact ite_ff ⟨.bl false,H3,I3,rfl,q3⟩
 |true=>exact ite_tt (chain_last (thn (hc pins s3 σ H3 _ I3 q3) λw' s4 ⟨z',H4,I4,r4,q4⟩=>ho' pins s4 σ H4 y z' u w' Q I4 r2 r4 q4))
def Zz(K:PySem.W.Frag)(x:V)(H:Hp)(k:Bool):Prop:=
 match x with
 | .non=>k=false
 | .bl b=>k=b
 | .int i=>k=(i != 0)
 | .str y=>y.length<=sizeLine/\k=((y.length:Int) != 0)
 | .byt y=>y.size<=sizeLine/\k=((y.size:Int) != 0)
 | .ref p=>(∃xs,SqL K H p xs/\k=!xs.isEmpty)∨(∃xs,SqT K H p xs/\k=!xs.isEmpty)∨∃kvs,H p=some (.dK kvs)/\k=!kvs.isEmpty
 |_=>False
theorem Nx(r:KV kvs vs):(!vs.isEmpty)=!kvs.isEmpty:=by
 cases r<;>rfl
theorem JH(r:Vals xs its):(!its.toArray.isEmpty)=!xs.isEmpty:=by
 cases r<;>simp
theorem F0:(sizeLine:Nat)<2 ^ 63:=by rw[sizeLine_eq];decide
theorem XE:av X (λx H Q=>∃k,Zz X.K x H k/\Q k H):=by
 intro pins s σ H x v Q I rx h;obtain⟨k,e,q⟩:=h;have hl:=F0;have hs:sizeLine=16777216:=sizeLine_eq;cases x with
 |non=>
  cases rx;have e':k=false:=e;subst e';exact truthy_none ⟨H,I,q⟩
 |bl b=>
  cases rx;have e':k=b:=e;subst e';exact wpAny_truthy_bool ⟨H,I,q⟩
 |int i=>
  obtain⟨t,rfl⟩:=rx;have e':k=(i != 0):=e;subst e';exact PySem.P.truthy_int ⟨H,I,q⟩
 |str y=>
  obtain⟨t,rfl⟩:=rx;obtain⟨hy,e'⟩:y.length<=sizeLine/\k=((y.length:Int) != 0):=e;subst e';exact PySem.P.truthy_str (by omega) ⟨H,I.tok _,q⟩
 |byt y=>
  obtain⟨t,rfl⟩:=rx;obtain⟨hy,e'⟩:y.size<=sizeLine/\k=((y.size:Int) != 0):=e;subst e';exact PySem.W.truthy_bytes (by omega) ⟨H,I.tok _,q⟩
 |ref p=>
  cases rx;have e':(∃xs,SqL X.K H p xs/\k=!xs.isEmpty)∨(∃xs,SqT X.K H p xs/\k=!xs.isEmpty)∨∃kvs,H p=some (.dK kvs)/\k=!kvs.isEmpty:=e;rcases e' with ⟨xs,hx,e'⟩|⟨xs,hx,e'⟩|⟨kvs,hx,e'⟩
  ·subst e';obtain⟨its,r,pl,hz⟩:=I.list hx;have hlen:=r.length;exact wpAny_truthy_list pl.isList (by simp only[List.size_toArray];omega) ⟨H,I.tok _,by rw[JH r];exact q⟩
  ·subst e';obtain⟨its,r,pl,hz⟩:=I.tuple hx;have hlen:=r.length;exact truthy_tuple pl (by simp only[List.size_toArray];omega) ⟨H,I.tok _,by rw[JH r];exact q⟩
  ·subst e';obtain⟨hz,hS,vs,r,m⟩:kvs.length<=sizeLine/\(p==sysModules)=false/\∃vs,KV kvs vs/\s.heap.DictOf (A9 X.prog X.w) p vs:=I.hok p _ hx;have hlen:kvs.length=vs.length:=Paired.length r;exact wpAny_truthy_dict hS m (by omega) ⟨H,I.tok _,by rw[Nx r];exact q⟩
 |_=>exact(show False from e).elim
theorem Sc(ha:PE X a ta)(he:∀whole,isTrue a X.env whole=(do let v ←whole;standAt a.pos;holding [v] (truthy v))):
  PT X a (λσ H Q=>ta σ H λx H'=>∃k,Zz X.K x H' k/\Q k H'):=by
 intro pins s σ H Q I h;exact isTrue_plain (thn (ha pins s σ H _ I h) λv s1 ⟨x,H1,I1,r1,q1⟩=>XE pins s1 σ H1 x v Q I1 r1 q1) (he _)
theorem Ng:OpR X (binaryOp .Add) (λx y H Q=>∃i j,x=.str i/\y=.str j/\i.length+j.length<=sizeLine/\Q (.str (i++j)) H):=by
 intro pins s σ H x y v u Q I rx ry h;obtain⟨i,j,rfl,rfl,hz,q⟩:=h;obtain⟨t,rfl⟩:=rx;obtain⟨t',rfl⟩:=ry;exact add_str (λt' tk=>⟨.str (i++j),H,I.tok _,⟨_,rfl⟩,q⟩) hz
theorem IR(r:Vals [x] us):∃u,us=[u]/\RelV x u:=by
 cases r with
 |cons r1 r2=>cases r2;exact⟨_,rfl,r1⟩
theorem Rn(r:Vals [x,y] us):∃u w',us=[u,w']/\RelV x u/\RelV y w':=by
 cases r with
 |cons r1 r2=>
  cases r2 with
  |cons r3 r4=>cases r4;exact⟨_,_,rfl,r1,r3⟩
theorem Qn(hc:X.calm=true):Bv X (.builtin "max") (λxs H Q=>∃i j,xs=[.int i,.int j]/\Q (.int (if j > i then j else i)) H):=by
 intro pins s σ H xs us Q I r h;obtain⟨i,j,rfl,q⟩:=h;obtain⟨u,w',rfl,⟨t,rfl⟩,⟨t',rfl⟩⟩:=Rn r;refine max_two_ints (I.ok.hd hc) λh' tk k=>⟨_,H,I.kept k,?_,q⟩;by_cases hj:j > i
 ·rw[if_pos hj,if_pos hj];exact⟨_,rfl⟩
 ·rw[if_neg hj,if_neg hj];exact⟨_,rfl⟩
theorem Qm(hc:X.calm=true):Bv X (.builtin "min") (λxs H Q=>∃i j,xs=[.int i,.int j]/\Q (.int (if j<i then j else i)) H):=by
 intro pins s σ H xs us Q I r h;obtain⟨i,j,rfl,q⟩:=h;obtain⟨u,w',rfl,⟨t,rfl⟩,⟨t',rfl⟩⟩:=Rn r;refine min_two_ints (I.ok.hd hc) λh' tk k=>⟨_,H,I.kept k,?_,q⟩;by_cases hj:j<i
 ·rw[if_pos hj,if_pos hj];exact⟨_,rfl⟩
 ·rw[if_neg hj,if_neg hj];exact⟨_,rfl⟩
theorem Qo:Bv X (.type "int") (λxs H Q=>(∃i,xs=[.int i]/\Q (.int i) H)∨∃k,xs=[.bl k]/\Q (.int (if k then 1 else 0)) H):=by
 intro pins s σ H xs us Q I r h;rcases h with ⟨i,rfl,q⟩|⟨k,rfl,q⟩
 ·obtain⟨u,rfl,t,rfl⟩:=IR r;exact call_int_int ⟨.int i,H,I,⟨_,rfl⟩,q⟩
 ·obtain⟨u,rfl,r1⟩:=IR r;cases r1;exact call_int_bool ⟨.int (if k then 1 else 0),H,I.tok _,⟨_,rfl⟩,q⟩
def ax(K:PySem.W.Frag)(x:V)(H:Hp)(n:Nat):Prop:=
 match x with
 | .str y=>y.length<=sizeLine/\n=y.length
 | .byt y=>y.size<=sizeLine/\n=y.size
 | .ref p=>(∃xs,SqL K H p xs/\n=xs.length)∨∃xs,SqT K H p xs/\n=xs.length
 |_=>False
theorem Tw:Bv X (.builtin "len") (λxs H Q=>∃x n,xs=[x]/\ax X.K x H n/\Q (.int n) H):=by
 intro pins s σ H xs us Q I r h;obtain⟨x,n,rfl,e,q⟩:=h;obtain⟨u,rfl,rx⟩:=IR r;have hl:=F0;have hs:sizeLine=16777216:=sizeLine_eq;cases x with
 |str y=>
  obtain⟨t,rfl⟩:=rx;obtain⟨hy,e'⟩:y.length<=sizeLine/\n=y.length:=e;subst e';exact len_str (by omega) ⟨.int _,H,I.tok _,⟨_,rfl⟩,q⟩
 |byt y=>
  obtain⟨t,rfl⟩:=rx;obtain⟨hy,e'⟩:y.size<=sizeLine/\n=y.size:=e;subst e';exact PySem.W.len_bytes (by omega) ⟨.int _,H,I.tok _,⟨_,rfl⟩,q⟩
 |ref p=>
  cases rx;have e':(∃xs,SqL X.K H p xs/\n=xs.length)∨∃xs,SqT X.K H p xs/\n=xs.length:=e;rcases e' with ⟨xs,hx,e'⟩|⟨xs,hx,e'⟩
  ·subst e';obtain⟨its,r',pl,hz⟩:=I.list hx;have hlen:=r'.length;exact Calls.call_len_list pl.isList (by simp only[List.size_toArray];omega) ⟨.int xs.length,H,I.tok _,⟨_,by simp only[List.size_toArray];rw[hlen]⟩,q⟩
  ·subst e';obtain⟨its,r',pl,hz⟩:=I.tuple hx;have hlen:=r'.length;exact len_tuple pl (by simp only[List.size_toArray];omega) ⟨.int xs.length,H,I.tok _,⟨_,by simp only[List.size_toArray];rw[hlen]⟩,q⟩
 |_=>exact(show False from e).elim
end
structure ObjM(h:Heap)(x dx C:Addr)(mA:Str->Option Value):Prop where
 obj:h.get? x=some (PySem.W.instObj C dx)
 ns:h.Ns1 dx mA
 ne:dx≠x
theorem QR{h:Heap}{dx:Addr}{mA:Str->Option Value}(n:h.Ns1 dx mA):∃od,h.get? dx=some od/\∀name,PySem.W.lookIn name od=some (mA name):=by
 obtain⟨o,es,ep,ho,hd,hk,_,hm⟩:=n;refine⟨o,ho,λname=>?_⟩;have e:=hm name;unfold nsFind findBy at e;rw[←Array.find?_toList] at e;unfold PySem.W.lookIn;rw[hd];dsimp only;split
 ·rename_i y q;rw[q] at e;exact congrArg some e
 ·rename_i q;rw[q] at e;have a:es.toList.any (·.refKey)=false:=by
   rw[List.any_eq_false];intro y hy;obtain⟨z,t,hkey⟩:=hk y (Array.mem_toList_iff.mp hy);simp[DictEntry.refKey,hkey]
  have a':¬es.toList.any (·.refKey)=true:=by rw[a];exact AAi
  rw[if_neg a'];exact congrArg some e
theorem ObjM.look(I:ObjM h x dx C mA):∃od,PySem.W.InstAt h x (PySem.W.instObj C dx) C (some od)/\∀name,PySem.W.lookIn name od=some (mA name):=
 let ⟨od,ho,hl⟩:=QR I.ns
 ⟨od,⟨I.obj,rfl,rfl,ho⟩,hl⟩
section
variable{prog:Program}{w:World}{A:Around}{E:Value->Shared->Prop}{s:Shared}{K:PySem.W.Frag}{x dx C f:Addr}{mA:Str->Option Value}{name:Str}{v:Value}
theorem Vz(X:K.In s.heap)(I:ObjM s.heap x dx C mA)(hg:PySem.W.plainGet K C name=true)(hh:PySem.W.hasDictIn K C=true)
  (ha:PySem.W.findIn K (.ref C) name=some none) (hv:mA name=some v) (hv':PySem.W.handedIn v=true) (h:Q v { s with toks:=s.toks+1 }) :
  wpAny (model prog w) A (getAttr (.ref x) name expr) Q E s:=by
 obtain⟨od,J,hl⟩:=I.look;exact PySem.W.get_value X J (PySem.W.plainGet_of hg).1 (PySem.W.findObj_own hh ha rfl (by rw[hl,hv])) hv' h
theorem Tf(X:K.In s.heap)(I:ObjM s.heap x dx C mA)(hg:PySem.W.plainGet K C name=true)
  (hf:PySem.W.findIn K (.ref C) name=some (some (.ref f))) (ht:PySem.W.isFn K (.ref f)=true) (hv:mA name=none) (h:Q (.ref f,[.ref x]) s) :
  wpAny (model prog w) A (getMethod (.ref x) name pl) Q E s:=by
 obtain⟨od,J,hl⟩:=I.look;exact PySem.W.method_fn X J (PySem.W.plainGet_of hg).1 (PySem.W.plainGet_of hg).2 hf (beq_iff_eq.mp ht) (by show (PySem.W.lookIn name od).map (·.isSome)=some false;rw[hl,hv];rfl) h
theorem Uz(X:K.In s.heap)(I:ObjM s.heap x dx C mA)
  (hs:PySem.W.findIn K (.ref C) "__setattr__" = some (some (.builtin "object.__setattr__"))) (hp:PySem.W.plainOver K C=true) (ht:PySem.W.takerIn K C name=some none) (hh:PySem.W.hasDictIn K C=true)
  (hw:PySem.Within mA ns) (hsz:ns.length<=sizeLine)
  (h:∀h',ObjM h' x dx C (λy=>if y=name then some v else mA y)->Heap.SameBut dx s.heap h'->Q () { s with heap:=h',toks:=s.toks+2 }) :
  wpAny (model prog w) A (setAttr (.ref x) name v) Q E s:=by
 obtain⟨od,J,hl⟩:=I.look;refine PySem.W.set_plain X J hs (PySem.W.osa_open (s:={ s with toks:=s.toks+1 }) (r:=none) X J hp ht λb=>?_);obtain⟨cd,hc,hd'⟩:=PySem.W.any_some hh;have hx:s.heap.get? x=some ⟨.ref C,some dx,.plain,#[]⟩:=I.obj;refine AAA (AAB (AAA (AAA (wpAny_loadPart hx (AAA (PySem.W.Looks.here (s:={ s with toks:=s.toks+1 }) (PySem.W.looks_clsIn X hc) ?_))))));rw[hd'];refine AAB (a:=some dx) (AAA (AAB (AAA ?_)));refine wpAny_nsSet1 (s:={ s with toks:=s.toks+1 }) I.ns λh' hn2 hs2=>?_;obtain⟨oD,esD,epD,hoD,hdD,hcD⟩:=hn2.count (PySem.Within.cons name v hw);refine AAA (wpAny_lookBehind hoD (by rw[hdD];exact pastItsLine_dict (AAu hcD (by rw[AAI];omega))) ?_);exact AAB (h _ ⟨(hs2.2 _ (Ne.symm I.ne)).trans I.obj,hn2,I.ne⟩ hs2)
theorem TH(X:K.In s.heap)(hm:PySem.W.makesIn K C=true)
  (hi:PySem.W.findIn K (.ref C) "__init__" = some (some (.ref f))) (hf:PySem.W.typeIn K (.ref f)=some (.type "function"))
  (h:codeAny (model prog w) (A.under (.builtin "type.__call__" ⟨.ref C::vs,kw⟩)) (.call (.ref f) ⟨.ref (s.heap.objs.size+1)::vs,kw⟩) (PySem.W.InitBack (s.heap.objs.size+1) R)
   { s with heap:=(s.heap.push PySem.W.emptyDict).push (PySem.W.instObj C s.heap.objs.size) }) :
  codeAny (model prog w) A (.call (.ref C) ⟨vs,kw⟩) R s:=by
 obtain⟨hh,g,d,t,os⟩:=s;exact PySem.W.make_core (PySem.W.makes_of X hm) (PySem.W.looks_findIn X hi) (λself=>PySem.W.bind_fn X self hf) (.inl rfl) h
end
noncomputable def D5(f:Str)(v:V):List (Str×V)->List (Str×V)
 |[]=>[(f,v)]
 |(g,x)::r=>if g=f then (g,v)::r else (g,x)::D5 f v r
theorem Hc(f g:Str)(v:V):∀fs:List (Str×V),(D5 f v fs).lookup g=if g=f then some v else fs.lookup g
 |[]=>by
  show List.lookup g [(f,v)]=_;by_cases h:g=f
  ·have hb:(g==f)=true:=beq_iff_eq.mpr h;simp only[List.lookup,hb,if_pos h]
  ·have hb:(g==f)=false:=AAg.mpr h;simp only[List.lookup,hb,if_neg h]
 |(k,x)::r=>by
  have ih:=Hc f g v r;rw[show D5 f v ((k,x)::r)=(if k=f then (k,v)::r else (k,x)::D5 f v r) from rfl];by_cases hk:k=f
  ·rw[if_pos hk];by_cases h:g=k
   ·have hb:(g==k)=true:=beq_iff_eq.mpr h;simp only[List.lookup,hb,if_pos (h.trans hk)]
   ·have hb:(g==k)=false:=AAg.mpr h;simp only[List.lookup,hb,if_neg (λe:g=f=>h (e.trans hk.symm))]
  ·rw[if_neg hk];by_cases h:g=k
   ·have hb:(g==k)=true:=beq_iff_eq.mpr h;simp only[List.lookup,hb,if_neg (λe:g=f=>hk (h.symm.trans e))]
   ·have hb:(g==k)=false:=AAg.mpr h;simp only[List.lookup,hb];exact ih
theorem G8(f:Str)(v:V):∀fs:List (Str×V),f∈(D5 f v fs).map (·.1)/\∀g,g∈fs.map (·.1)->g∈(D5 f v fs).map (·.1)
 |[]=>⟨by simp[D5],λg h=>by simp at h⟩
 |(k,x)::r=>by
  obtain⟨i1,i2⟩:=G8 f v r;rw[show D5 f v ((k,x)::r)=(if k=f then (k,v)::r else (k,x)::D5 f v r) from rfl];by_cases hk:k=f
  ·rw[if_pos hk];subst hk;exact⟨by simp,λg h=>by simpa using h⟩
  ·rw[if_neg hk];refine⟨?_,λg h=>?_⟩
   ·rw[AAX];exact AAR _ i1
   ·rw[AAX] at h ⊢;rcases AAJ.mp h with e|e
    ·exact AAJ.mpr (.inl e)
    ·exact AAR _ (i2 g e)
theorem Hd(f:Str)(v:V):∀fs:List (Str×V),(D5 f v fs).length<=fs.length+1
 |[]=>by simp[D5]
 |(k,x)::r=>by
  have ih:=Hd f v r;rw[show D5 f v ((k,x)::r)=(if k=f then (k,v)::r else (k,x)::D5 f v r) from rfl];by_cases hk:k=f
  ·rw[if_pos hk,AAI,AAI];omega
  ·rw[if_neg hk,AAI,AAI];omega
theorem RelO.some_of(r:RelO (some v) o):∃u,o=some u/\RelV v u:=by
 cases o with
 |none=>exact(show False from r).elim
 |some u=>exact⟨u,rfl,r⟩
theorem RelO.none_of(r:RelO none o):o=none:=by
 cases o with
 |none=>rfl
 |some u=>exact(show False from r).elim
theorem Qf(r:RelV v u):PySem.W.handedIn u=true:=by
 cases v with
 |non=>cases (show u=Value.none from r);rfl
 |bl b=>cases (show u=Value.bool b from r);rfl
 |int i=>obtain⟨t,e⟩:=(show ∃t,u=Value.int i t from r);cases e;rfl
 |str x=>obtain⟨t,e⟩:=(show ∃t,u=Value.str x t from r);cases e;rfl
 |byt b=>obtain⟨t,e⟩:=(show ∃t,u=Value.bytes b t from r);cases e;rfl
 |flt b=>obtain⟨t,e⟩:=(show ∃t,u=Value.float b t from r);cases e;rfl
 |ref a=>cases (show u=Value.ref a from r);rfl
 |ty n=>cases (show u=Value.type n from r);rfl
section
variable{P:Program}{w:World}{H:Hp}{h:Heap}{a C dx:Addr}{fs:List (Str×V)}
theorem IC(hok:HOk P w H h)(e:H a=some (.ins C dx fs)):∃mA,ObjM h a dx C mA/\(∀f,RelO (fs.lookup f) (mA f))/\PySem.Within mA (fs.map (·.1))/\fs.length<=1000/\H dx=some (.own a):=by
 obtain⟨d,z,ne,ob,mA,n,r,q⟩:=(show ObjOk P w H h a (.ins C dx fs) from hok a _ e);exact⟨mA,⟨ob,n,ne⟩,r,q,z,d⟩
end
structure Cls(K:PySem.W.Frag)(C:Addr):Prop where
 pg:PySem.W.plainGet K C Str.empty=true
 hd:PySem.W.hasDictIn K C=true
 po:PySem.W.plainOver K C=true
 sa:PySem.W.findIn K (.ref C) "__setattr__" = some (some (.builtin "object.__setattr__"))
theorem Cls.get{K:PySem.W.Frag}{C:Addr}(c:Cls K C)(f:Str):PySem.W.plainGet K C f=true:=c.pg
def NoAttr(K:PySem.W.Frag)(C:Addr)(f:Str):Prop:=PySem.W.findIn K (.ref C) f=some none
theorem NoAttr.taker{K:PySem.W.Frag}{C:Addr}{f:Str}(n:NoAttr K C f):PySem.W.takerIn K C f=some none:=by
 unfold PySem.W.takerIn;rw[show PySem.W.findIn K (.ref C) f=some none from n];rfl
structure WA(K:PySem.W.Frag)(C:Addr)(m:Str)(f:Addr):Prop where
 at_:PySem.W.findIn K (.ref C) m=some (some (.ref f))
 fn:PySem.W.isFn K (.ref f)=true
 kp:PySem.W.keepIn K (.ref f)=true
section
variable{X:Cx}{pins:List (Addr×Obj)}{σ:St}{H:Hp}{s:Shared}{a C dx:Addr}{fs:List (Str×V)}{f:Str}{v:V}{A:Around}{E:Value->Shared->Prop}
theorem N0(I:Inv X pins σ H s)(e:H a=some (.ins C dx fs))(c:Cls X.K C)(n:NoAttr X.K C f)(l:fs.lookup f=some v)
  (h:∀u s',Inv X pins σ H s'->RelV v u->Q u s'):wpAny (model X.prog X.w) A (getAttr (.ref a) f b) Q E s:=by
 obtain⟨mA,O,r,_,_,_⟩:=IC I.hok e;obtain⟨u,hu,ru⟩:=RelO.some_of (v:=v) (o:=mA f) (by rw[←l];exact r f);exact Vz I.kIn O (c.get f) c.hd n hu (Qf ru) (h u _ (I.tok _) ru)
theorem Nz(I:Inv X pins σ H s)(e:H a=some (.ins C dx fs))(c:Cls X.K C)(k:WA X.K C m g)(l:fs.lookup m=none)
  (h:Q (.ref g,[.ref a]) s):wpAny (model X.prog X.w) A (getMethod (.ref a) m pl) Q E s:=by
 obtain⟨mA,O,r,_,_,_⟩:=IC I.hok e;have hn:mA m=none:=RelO.none_of (by rw[←l];exact r m);exact Tf I.kIn O (c.get m) k.at_ k.fn hn h
theorem Na(I:Inv X pins σ H s)(e:H a=some (.ins C dx fs))(c:Cls X.K C)(n:NoAttr X.K C f)(hl:fs.length<1000)(ry:RelV y u)
  (h:∀s',Inv X pins σ (upd H a (.ins C dx (D5 f y fs))) s'->Q () s'):wpAny (model X.prog X.w) A (setAttr (.ref a) f u) Q E s:=by
 obtain⟨mA,O,r,wi,_,ho⟩:=IC I.hok e;have hz:(fs.map (·.1)).length<=sizeLine:=by rw[AAG,sizeLine_eq];omega
 refine Uz I.kIn O c.sa c.po n.taker c.hd wi hz λh' O' sb=>h _ ?_;have hd:∃o,h'.get? dx=some o:=let ⟨o,_,_,e',_⟩:=O'.ns;⟨o,e'⟩
 refine I.write (x:=a) (e:=dx) (by rw[e];exact True.intro) (.inr ho) (λb q hb z=>(sb.2 b hb).trans z) hd ?_;refine⟨by rw[A1 O.ne];exact ho,?_,O.ne,O'.obj,_,O'.ns,λg=>?_,λg hg=>?_⟩
 ·have:=Hd f y fs;omega
 ·show RelO ((D5 f y fs).lookup g) (if g=f then some u else mA g);rw[Hc];by_cases q:g=f
  ·rw[if_pos q,if_pos q];exact ry
  ·rw[if_neg q,if_neg q];exact r g
 ·by_cases q:g=f
  ·rw[q];exact(G8 f y fs).1
  ·refine(G8 f y fs).2 g (wi g λz=>hg ?_);show (if g=f then some u else mA g)=none;rw[if_neg q];exact z
theorem Inv.made(I:Inv X pins σ H s):Inv X pins σ (upd (upd H s.heap.objs.size (.own (s.heap.objs.size+1))) (s.heap.objs.size+1) (.ins C s.heap.objs.size []))
  { s with heap:=(s.heap.push PySem.W.emptyDict).push (PySem.W.instObj C s.heap.objs.size) }:=by
 have e1:(s.heap.push PySem.W.emptyDict).get? s.heap.objs.size=some PySem.W.emptyDict:=AAD s.heap rfl;have e2:((s.heap.push PySem.W.emptyDict).push (PySem.W.instObj C s.heap.objs.size)).get? (s.heap.objs.size+1)=some (PySem.W.instObj C s.heap.objs.size):=by
  have:=AAD (s.heap.push PySem.W.emptyDict) (o:=PySem.W.instObj C s.heap.objs.size) rfl
  rwa [Heap.size_push] at this
 have e3:(s.heap.push PySem.W.emptyDict).Ns s.heap.objs.size (λ_=>none):=⟨PySem.W.emptyDict,#[],_,e1,rfl,(λe he=>absurd he (by simp)),λ_=>rfl⟩;have I1:=I.laid (a:=s.heap.objs.size) (o:=.own (s.heap.objs.size+1)) (h':=s.heap.push PySem.W.emptyDict) (t':=s.toks) (λb u q=>AAC _ q) (AAF _) ⟨_,e1⟩;refine I1.laid (a:=s.heap.objs.size+1) (o:=.ins C s.heap.objs.size []) (t':=s.toks) (λb u q=>AAC _ q) (Nat.le_of_eq (Heap.size_push _ _)) ?_;have ne:s.heap.objs.size≠s.heap.objs.size+1:=AAf (Nat.lt_succ_self _);refine⟨by rw[A1 ne,BI],AAm _,ne,e2,λ_=>none,(Heap.Ns1.of_empty e3).at λo q=>AAC _ q,λ_=>True.intro,λy hy=>absurd rfl hy⟩
theorem V8(hb:attributeBase e f env (eval e env)=eval e env)
  (h:wpAny (model prog w) A (eval e env) (λo s₁=>wpAny (model prog w) A (getAttr o f true) Q E s₁) E s):wpAny (model prog w) A (eval (.Attribute e f pos) env) Q E s:=
 Attribute_any_ h (by rw[arm_eval_Attribute,hb])
end
noncomputable def aI(K:PySem.W.Frag)(ta:TE)(f:Str):TE:=λσ H Q=>ta σ H λx H1=>∃a C dx fs v,x=.ref a/\H1 a=some (.ins C dx fs)/\Cls K C/\NoAttr K C f/\fs.lookup f=some v/\Q v H1
noncomputable def aN(K:PySem.W.Frag)(ta tv:TE)(f:Str):TS:=λD σ H=>tv σ H λy H1=>ta σ H1 λx H2=>∃a C dx fs,x=.ref a/\H2 a=some (.ins C dx fs)/\Cls K C/\NoAttr K C f/\fs.length<1000 /\
 D.nx σ (upd H2 a (.ins C dx (D5 f y fs)))
section
variable{X:Cx}{o e value:Expr}{f:Str}{pos pos':Pos}{ta tv:TE}
theorem Xp(he:PE X e ta)(hb:attributeBase e f X.env (eval e X.env)=eval e X.env):PE X (.Attribute e f pos) (aI X.K ta f):=by
 intro pins s σ H Q I h;refine V8 hb (thn (he pins s σ H _ I h) λu s1 ⟨x,H1,I1,rx,a,C,dx,fs,v,ex,ea,c,n,l,q⟩=>?_);subst ex;obtain rfl:u=Value.ref a:=rx;exact N0 I1 ea c n l λu' s2 I2 ru=>⟨v,H1,I2,ru,q⟩
theorem Xb(ha:PE X o ta)(hv:PE X value tv)(hs:swapsWith value (some (.Attribute o f pos')) pos.line X.env=pure false):PS X (.Assign [.Attribute o f pos'] value pos) (aN X.K ta tv f):=by
 intro pins s σ H D I h;refine plainObj_wpAny_Assign_Attribute (thn (hv pins s σ H _ I h) λu s1 ⟨y,H1,I1,ry,q⟩=>thn (ha pins s1 σ H1 _ I1 q) λov s2 ⟨x,H2,I2,rx,a,C,dx,fs,ex,ea,c,n,l,q2⟩=>?_) hs;subst ex;obtain rfl:ov=Value.ref a:=rx;exact Na I2 ea c n l ry λs3 I3=>⟨σ,_,I3,q2⟩
end
section
variable{X:Cx}{pins:List (Addr×Obj)}{σ:St}{H:Hp}{s:Shared}{A:Around}{E:Value->Shared->Prop}{Q:Value->Shared->Prop}{c:Value}{b:Bool}
inductive Gn (K:PySem.W.Frag) (H:Hp):V->Value->Prop where
 |non:Gn K H .non (.type "NoneType")
 |bl (x:Bool):Gn K H (.bl x) (.type "bool")
 |int (i:Int):Gn K H (.int i) (.type "int")
 |str (x:Str):Gn K H (.str x) (.type "str")
 |flt (x:UInt64):Gn K H (.flt x) (.type "float")
 |lst {a:Addr} {xs:List V} (e:H a=some (.lst xs)):Gn K H (.ref a) (.type "list")
 |frz {a:Addr} {o:Obj} {xs:List V} (e:H a=some (.frz o (.lst xs))):Gn K H (.ref a) (.type "list")
 |tup {a:Addr} {xs:List V} (e:H a=some (.tup xs)):Gn K H (.ref a) (.type "tuple")
 |dK {a:Addr} {kvs:List (Key×V)} (e:H a=some (.dK kvs)):Gn K H (.ref a) (.type "dict")
 |dT {a:Addr} {kvs:List (List Key×V)} (e:H a=some (.dT kvs)):Gn K H (.ref a) (.type "dict")
 |ins {a C dx:Addr} {fs:List (Str×V)} (e:H a=some (.ins C dx fs)) (cl:Cls K C) (ha:PySem.W.findIn K (.ref C) "__class__" = some (some (.builtin "object.__class__")))
   (hn:PySem.W.specialIn K (.builtin "object.__class__") "__get__" = some (some (.builtin "getset_descriptor.__get__"))) (htk:PySem.W.takesIn K (.builtin "object.__class__")=some true)
   (hm:PySem.W.mroIn K C (.type "object")=some true):Gn K H (.ref a) (.ref C)
theorem QZ(I:Inv X pins σ H s)(rx:RelV x u)(ty:Gn X.K H x t)(e:PySem.W.kitOne X.K t c=some b)(h:∀tk,Q (.bool b) { s with toks:=tk }):
  wpAny (model X.prog X.w) A (call (.builtin "isinstance") [u,c]) Q E s:=by
 cases ty with
 |non=>cases (show u=Value.none from rx);exact PySem.W.kia_one PySem.W.kitx_none I.kIn True.intro e (λz=>nomatch z) h
 |bl y=>cases (show u=Value.bool y from rx);exact PySem.W.kia_one PySem.W.kitx_bool I.kIn True.intro e (λz=>nomatch z) h
 |int i=>obtain⟨t,q⟩:=(show ∃t,u=Value.int i t from rx);cases q;exact PySem.W.kia_one PySem.W.kitx_int I.kIn True.intro e (λz=>nomatch z) h
 |str y=>obtain⟨t,q⟩:=(show ∃t,u=Value.str y t from rx);cases q;exact PySem.W.kia_one PySem.W.kitx_str I.kIn True.intro e (λz=>nomatch z) h
 |flt y=>obtain⟨t,q⟩:=(show ∃t,u=Value.float y t from rx);cases q;exact PySem.W.kia_one PySem.W.kitx_float I.kIn True.intro e (λz=>nomatch z) h
 |@lst a xs ea=>
  cases (show u=Value.ref a from rx);obtain⟨_,_,n,_,h1⟩:=(show ObjOk X.prog X.w H s.heap a (.lst xs) from I.hok a _ ea);exact PySem.W.kia_one PySem.W.kitx_list I.kIn ⟨_,h1,rfl⟩ e (λz=>nomatch z) h
 |@frz a ob xs ea=>
  cases (show u=Value.ref a from rx);obtain⟨_,_,_,n,_,h1⟩:=(show ObjOk X.prog X.w H s.heap a (.frz ob (.lst xs)) from I.hok a _ ea);exact PySem.W.kia_one PySem.W.kitx_list I.kIn ⟨_,h1,rfl⟩ e (λz=>nomatch z) h
 |@tup a xs ea=>
  cases (show u=Value.ref a from rx);obtain⟨_,_,_,p⟩:=(show ObjOk X.prog X.w H s.heap a (.tup xs) from I.hok a _ ea);obtain⟨o,h1,h2,_⟩:=p;exact PySem.W.kia_one PySem.W.kitx_tuple I.kIn ⟨o,h1,h2⟩ e (λz=>nomatch z) h
 |@dK a kvs ea=>
  cases (show u=Value.ref a from rx);obtain⟨_,_,vs,_,p⟩:=(show ObjOk X.prog X.w H s.heap a (.dK kvs) from I.hok a _ ea);obtain⟨o,es,ep,h1,h2,_⟩:=p;exact PySem.W.kia_one PySem.W.kitx_dict I.kIn ⟨o,h1,h2.1⟩ e (λz=>nomatch z) h
 |@dT a kvs ea=>
  cases (show u=Value.ref a from rx);obtain⟨_,_,xs,_,o,es,ep,h1,h2,_⟩:=(show ObjOk X.prog X.w H s.heap a (.dT kvs) from I.hok a _ ea);exact PySem.W.kia_one PySem.W.kitx_dict I.kIn ⟨o,h1,h2.1⟩ e (λz=>nomatch z) h
 |@ins a C dx fs ea cl ha hn htk hm=>
  cases (show u=Value.ref a from rx);obtain⟨mA,O,_⟩:=IC I.hok ea;obtain⟨od,J,_⟩:=O.look;exact PySem.W.kia_one (PySem.W.kitx_own (cl.get _) cl.hd ha hn htk hm) I.kIn J e (λz=>nomatch z) h
end
structure Room(k:Nat)(A:Around):Prop where
 hd:A.handled=none
 dp:A.depth+3 * k+5<recursionLimit
 un:A.units+16 * k+200<cLine
theorem Room.mono(r:Room k A)(h:j<=k):Room j A:=⟨r.hd,by have:=r.dp;omega,by have:=r.un;omega⟩
theorem Room.deeper(r:Room (k+1) A)(env:Env):Room k (A.deeper env):=
 ⟨r.hd,by have:=r.dp;show A.depth+1+3 * k+5<_;omega,by have:=r.un;show A.units+3+16 * k+200<_;omega⟩
theorem Nn{A:Around}{us:List Value}{kw:List (Str×Value)}:(A.under (.builtin "type.__call__" ⟨.ref C::us,kw⟩)).depth=A.depth+1:=by
 first|rfl|simp[Around.under,Code.weight,Code.isCreation,Code.isGuard,Code.isCaller,Code.frames,Code.isFrame,guardIds]
theorem Nm{A:Around}{C:Addr}:(A.under (.builtin "type.__call__" ⟨.ref C::us,kw⟩)).units=A.units+1:=by
 first|rfl|simp[Around.under,Code.cUnits,Code.frames,Code.isFrame]
theorem Room.make(r:Room (k+1) A)(C:Addr)(us:List Value)(kw:List (Str×Value)):Room k (A.under (.builtin "type.__call__" ⟨.ref C::us,kw⟩)):=
 ⟨r.hd,by have:=r.dp;rw[Nn];omega,by have:=r.un;rw[Nm];omega⟩
theorem Room.depth(r:Room k A):A.depth<recursionLimit:=by have:=r.dp;omega
theorem Room.units(r:Room k A):A.units+64<cLine:=by have:=r.un;omega
noncomputable def aE:TA:=λ_ H Q=>Q [] H
noncomputable def Y1(ta:TE)(tr:TA):TA:=λσ H Q=>ta σ H λx H1=>tr σ H1 λxs H2=>Q (x::xs) H2
section
variable{X:Cx}{e:Expr}{es:List Expr}{te:TE}{t:TA}{pos:Pos}
theorem Iq:PA X [] aE:=λ_ _ _ _ H Q I h=>Calls.spliced_nil ⟨[],H,I,.nil,h⟩
theorem GT(ha:PE X e te)(hr:PA X es t)(hs:starEach (e::es) X.env=(false,eval e X.env)::starEach es X.env:=by rfl):PA X (e::es) (Y1 te t):=by
 intro pos pins s σ H Q I h;rw[hs];show wpAny _ _ (spliced ((false,eval e X.env)::backTo pos (starEach es X.env))) _ _ s;refine Calls.spliced_cons (thn (ha pins s σ H _ I h) λu s1 ⟨x,H1,I1,r1,q1⟩=>?_);exact thn (hr pos pins s1 σ H1 _ I1 q1) λus s2 ⟨xs,H2,I2,r2,q2⟩=>⟨x::xs,H2,I2,.cons r1 r2,q2⟩
noncomputable def Z8(t:TA):TE:=λσ H Q=>t σ H λxs H1=>xs.length<=sizeLine/\∀p,H1 p=none->Q (.ref p) (upd H1 p (.tup xs))
noncomputable def aF(t:TA):TE:=λσ H Q=>t σ H λxs H1=>xs.length<=sizeLine/\∀p,H1 p=none->Q (.ref p) (upd H1 p (.lst xs))
theorem Xj(h:PA X es t):PE X (.Tuple es x1 pos) (Z8 t):=by
 intro pins s σ H Q I hq;refine wpAny_Tuple_spliced (thn (h pos pins s σ H _ I hq) λus s1 ⟨xs,H1,I1,r,z,q⟩=>⟨by rw[←r.length];exact z,?_⟩);have hf:H1 s1.heap.objs.size=none:=I1.hok.fresh (AAF _);refine⟨.ref s1.heap.objs.size,upd H1 s1.heap.objs.size (.tup xs),I1.laid (t':=s1.toks) (λb u e=>AAC _ e) (AAF _) ?_,rfl,q _ hf⟩;exact⟨z,us,r,⟨_,AAD _ rfl,rfl,_,rfl⟩⟩
theorem Su(h:PA X es t):PE X (.List es pos) (aF t):=by
 intro pins s σ H Q I hq;refine wpAny_List_spliced (thn (h pos pins s σ H _ I hq) λus s1 ⟨xs,H1,I1,r,z,q⟩=>⟨by rw[←r.length];exact z,?_⟩);have hf:H1 s1.heap.objs.size=none:=I1.hok.fresh (AAF _);refine⟨.ref s1.heap.objs.size,upd H1 s1.heap.objs.size (.lst xs),I1.laid (t':=s1.toks) (λb u e=>AAC _ e) (AAF _) ?_,rfl,q _ hf⟩;exact⟨z,us,0,r,AAD _ rfl⟩
end
noncomputable abbrev Sp:=List V->Hp->VK->XK->Prop
noncomputable abbrev CXT:=List Env->Hp->Shared->XK->Value->Shared->Prop
structure Env0(P:Program)(w:World)(K:PySem.W.Frag)(mg:Str->Option Value)(base:Heap)(A:Around)(outer:List Env)(s:Shared)(H:Hp):Prop where
 frames:A.frames=some outer
 mod:Mod K mg base
 bs:∀b o,base.get? b=some o->s.heap.get? b=some o/\H b=none
 bsz:base.objs.size<=s.heap.objs.size
 funs:s.heap.FunFrames base outer
 frf:∀b∈frs outer,H b=none
 hok:HOk P w H s.heap
 bare:AllBare s.gens
def CE(outer:List Env)(P:Program)(w:World)(H:Hp)(s:Shared)(Q:VK)(u:Value)(s':Shared):Prop:=
 ∃v H',s'.os=s.os/\AllBare s'.gens/\Un (frs outer) [] H H' s.heap s'.heap/\HOk P w H' s'.heap/\RelV v u/\Q v H'
def CR(CX:CXT)(outer:List Env)(P:Program)(w:World)(H:Hp)(s:Shared)(Q:VK)(E:XK)(r:Result)(s':Shared):Prop:=
 match r with
 | .ok (.ret u)=>CE outer P w H s Q u s'
 | .ok _=>False
 | .error e=>CX outer H s E e s'
structure FnOk(P:Program)(w:World)(K:PySem.W.Frag)(mg:Str->Option Value)(base:Heap)(CX:CXT)(k:Nat)(f:Addr)(fd:FuncData)(ps:List Str)(sp:Sp):Prop where
 len:∀vs H Q E,sp vs H Q E->vs.length=ps.length
 run:∀(A:Around) (outer:List Env) (s:Shared) (H:Hp) (args:Args) (us:List Value) (vs:List V) (Q:VK) (E:XK),Room k A->Env0 P w K mg base A outer s H->BindsTo s fd args (ps.zip us)->Vals vs us->sp vs H Q E->
  codeAny (model P w) A (.call (.ref f) args) (CR CX outer P w H s Q E) s
theorem FnOk.mono{P:Program}{w:World}{K:PySem.W.Frag}{mg:Str->Option Value}{base:Heap}(F:FnOk P w K mg base CX j f fd ps sp)(h:j<=k):
  FnOk P w K mg base CX k f fd ps sp:=⟨F.len,λA outer s H args us vs Q E hr=>F.run A outer s H args us vs Q E (hr.mono h)⟩
theorem FnOk.imp{P:Program}{w:World}{K:PySem.W.Frag}{mg:Str->Option Value}{base:Heap}(F:FnOk P w K mg base CX k f fd ps sp)
  (h:∀vs H Q E,sp' vs H Q E->sp vs H Q E):FnOk P w K mg base CX k f fd ps sp':=
 ⟨λvs H Q E q=>F.len vs H Q E (h _ _ _ _ q),λA outer s H args us vs Q E hr he hb hv hs=>F.run A outer s H args us vs Q E hr he hb hv (h _ _ _ _ hs)⟩
theorem Env0.make{P:Program}{w:World}{K:PySem.W.Frag}{mg:Str->Option Value}(e:Env0 P w K mg base A outer s H)(C:Addr)(us:List Value)(kw:List (Str×Value)):
  Env0 P w K mg base (A.under (.builtin "type.__call__" ⟨.ref C::us,kw⟩)) outer s H:=⟨by first|exact e.frames|(simpa[Around.under,Code.envs,Code.isFrame,pushEnvs] using e.frames),e.mod,e.bs,e.bsz,e.funs,e.frf,e.hok,e.bare⟩
section
variable{X:Cx}{pins:List (Addr×Obj)}{σ:St}{H:Hp}{s s':Shared}
theorem Inv.env0(I:Inv X pins σ H s):Env0 X.prog X.w X.K X.mg X.base X.A X.stack s H:=
 ⟨I.ok.frames,I.ok.mod,I.bs,AAu I.ok.bsz I.sz,I.stack,I.stkFree,I.hok,I.bare⟩
theorem Inv.after(I:Inv X pins σ H s)(h:CE X.stack X.prog X.w H s Q u s'):EP X pins σ Q u s':=by
 obtain⟨v,H',os,bare,un,hok,r,q⟩:=h;obtain⟨hh,g,d,t,os'⟩:=s';obtain rfl:os'=s.os:=os;exact⟨v,H',I.call (h':=hh) (g':=g) (d':=d) (t':=t) (ch:=[]) un hok bare (λb z=>absurd z (by simp)),r,q⟩
end
noncomputable def Y2(sp:Sp)(dvs:List V)(E:XK)(t:TA):TE:=λσ H Q=>t σ H λvs H1=>sp (vs++dvs) H1 Q E
noncomputable def Yu(C:Addr)(m:Str)(sp:Sp)(dvs:List V)(E:XK)(ta:TE)(t:TA):TE:=λσ H Q=>ta σ H λx H1=>∃a dx fs,x=.ref a/\H1 a=some (.ins C dx fs)/\fs.lookup m=none /\
 t σ H1 λvs H2=>sp (x::(vs++dvs)) H2 Q E
noncomputable def Yv(C:Addr)(sp:Sp)(dvs:List V)(E:XK)(t:TA):TE:=λσ H Q=>t σ H λvs H1=>∀x dx,H1 x=none->H1 dx=none->dx≠x->
 sp (.ref x::(vs++dvs)) (upd (upd H1 dx (.own x)) x (.ins C dx [])) (λv H2=>v=.non/\Q (.ref x) H2) E
def Binds(K:PySem.W.Frag)(fd:FuncData)(ps:List Str)(ds:List Value):Prop:=
 ∀(s:Shared) (us:List Value),K.In s.heap->(us++ds).length=ps.length->BindsTo s fd ⟨us,[]⟩ (ps.zip (us++ds))
theorem Binds.all{K:PySem.W.Frag}(h:∀us:List Value,us.length=ps.length->bindArgs fd ⟨us,[]⟩=pure (ps.zip us)):Binds K fd ps []:=λs us _ hl=>by
 rw[AAb] at hl ⊢;exact .of_eq (h us hl)
def HP(CX:CXT)(X:Cx)(E:XK):Prop:=∀(pins:List (Addr×Obj)) (σ:St) (H:Hp) (s:Shared) (e:Value) (s':Shared),Inv X pins σ H s->CX X.stack H s E e s'->X.xe e s'
section
variable{X:Cx}{CX:CXT}{k:Nat}{f C:Addr}{fd:FuncData}{ps:List Str}{sp:Sp}{dvs:List V}{ds:List Value}{E:XK}{x m:Str}{p pos apos:Pos}{e o:Expr}{es:List Expr}{ta:TE}{t:TA}
theorem SH(F:FnOk X.prog X.w X.K X.mg X.base CX k f fd ps sp)(hr:Room k X.A)(hb:Binds X.K fd ps ds)(hd:Vals dvs ds)(hx:HP CX X E)
  (I:Inv X pins σ H s) (r:Vals vs us) (h:sp (vs++dvs) H Q E):wpAny (model X.prog X.w) X.A (call (.ref f) us) (EP X pins σ Q) X.xe s:=by
 have r2:Vals (vs++dvs) (us++ds):=r.append hd;have hl:(us++ds).length=ps.length:=by rw[←r2.length];exact F.len _ _ _ _ h
 refine wpAny_call (codeAny_mono (F.run X.A X.stack s H ⟨us,[]⟩ (us++ds) (vs++dvs) Q E hr I.env0 (hb s us I.kIn hl) r2 h) λr s' hq=>?_);cases r with
 |error e=>exact hx pins σ H s e s' I hq
 |ok fl=>
  cases fl with
  |ret u=>exact I.after hq
  |next=>exact False.elim hq
  |brk=>exact False.elim hq
  |cont=>exact False.elim hq
theorem Vc(F:FnOk X.prog X.w X.K X.mg X.base CX k f fd ps sp)(hr:Room k X.A)(hg:Gl X x)(hm:X.mg x=some (.ref f))(hk:PySem.W.keepIn X.K (.ref f)=true)(hb:Binds X.K fd ps ds)(hd:Vals dvs ds)(hx:HP CX X E)
  (ha:PA X (e::es) t) (hdb:(x==("__debug__" : Str))=false:=by decide) (he:starEach (e::es) X.env=(false,eval e X.env)::starEach es X.env:=by rfl) (hpl:(backTo pos (starEach es X.env)).any (·.1)=false:=by rfl) :
  PE X (.Call (.Name x p) (e::es) [] pos) (Y2 sp dvs E t):=by
 intro pins s σ H Q I h;refine wpAny_Call_Name_kw (LO I hg hm ?_ hdb);refine PySem.W.callWith_K (h₀:=X.base) I.ok.mod.kin hk (thn (ha pos pins s σ H _ I h) λus s1 ⟨vs,H1,I1,r,q⟩=>⟨I1.kIn,?_⟩) he hpl;exact SH F hr hb hd hx I1 r q
theorem VT(he:PE X o ta)(c:Cls X.K C)(hm:WA X.K C m f)(F:FnOk X.prog X.w X.K X.mg X.base CX k f fd ps sp)(hr:Room k X.A)(hb:Binds X.K fd ps ds)(hd:Vals dvs ds)(hx:HP CX X E)(ha:PA X (e::es) t)
  (hst:starEach (e::es) X.env=(false,eval e X.env)::starEach es X.env:=by rfl) (hpl:(backTo pos (starEach es X.env)).any (·.1)=false:=by rfl)
  (ht:eval (.Call (.Attribute o m apos) (e::es) [] pos) X.env=(do
   let ov ←eval o X.env
   standAt apos.atName
   let (f,first) ←holding [ov] (getMethod ov m pl)
   callWith pos f first (backTo pos (starEach (e::es) X.env)) (backToKw pos (keywordEach [] X.env))):=by rfl) :
  PE X (.Call (.Attribute o m apos) (e::es) [] pos) (Yu C m sp dvs E ta t):=by
 intro pins s σ H Q I h;refine PySem.W.methodCall_KW (pl:=pl) (thn (he pins s σ H _ I h) λu s1 ⟨x,H1,I1,rx,a,dx,fs,ex,ea,l,q⟩=>?_) ht;subst ex;obtain rfl:u=Value.ref a:=rx;refine Nz I1 ea c hm l ?_;refine PySem.W.callWith_K (first:=[.ref a]) (h₀:=X.base) I.ok.mod.kin hm.kp (thn (ha pos pins s1 σ H1 _ I1 q) λus s2 ⟨vs,H2,I2,r,q2⟩=>⟨I2.kIn,?_⟩) hst hpl;exact SH (us:=.ref a::us) (vs:=.ref a::vs) F hr hb hd hx I2 (.cons rfl r) q2
structure Mk(K:PySem.W.Frag)(C f:Addr):Prop where
 makes:PySem.W.makesIn K C=true
 init:PySem.W.findIn K (.ref C) "__init__" = some (some (.ref f))
 fn:PySem.W.isFn K (.ref f)=true
 kp:PySem.W.keepIn K (.ref C)=true
theorem SG(M:Mk X.K C f)(F:FnOk X.prog X.w X.K X.mg X.base CX k f fd ps sp)(hr:Room (k+1) X.A)(hb:Binds X.K fd ps ds)(hd:Vals dvs ds)
  (hx:HP CX X E) (I:Inv X pins σ H s) (r:Vals vs us)
  (h:∀x dx,H x=none->H dx=none->dx≠x->sp (.ref x::(vs++dvs)) (upd (upd H dx (.own x)) x (.ins C dx [])) (λv H2=>v=.non/\Q (.ref x) H2) E) :
  wpAny (model X.prog X.w) X.A (call (.ref C) us) (EP X pins σ Q) X.xe s:=by
 have hq:=h (s.heap.objs.size+1) s.heap.objs.size (I.hok.fresh (Nat.le_succ _)) (I.hok.fresh (AAF _)) (AAf (Nat.lt_succ_self _));have I2:=Inv.made (C:=C) I;have r2:Vals (V.ref (s.heap.objs.size+1)::(vs++dvs)) (Value.ref (s.heap.objs.size+1)::(us++ds)):=.cons rfl (r.append hd);have hl:(Value.ref (s.heap.objs.size+1)::us++ds).length=ps.length:=by
  have e:=r2.length;rw[F.len _ _ _ _ hq] at e;exact e.symm
 refine wpAny_call (TH (f:=f) I.kIn M.makes M.init (beq_iff_eq.mp M.fn) (codeAny_mono (F.run _ X.stack _ _ ⟨Value.ref (s.heap.objs.size+1)::us,[]⟩ (Value.ref (s.heap.objs.size+1)::(us++ds)) _ _ E (hr.make C us [])
  (I2.env0.make C us []) (hb _ (Value.ref (s.heap.objs.size+1)::us) I2.kIn hl) r2 hq) λr s' hq'=>?_))
 cases r with
 |error e=>exact hx pins σ _ _ e s' I2 hq'
 |ok fl=>
  cases fl with
  |ret u=>
   obtain⟨v,H',I3,rv,ev,q3⟩:=I2.after hq';subst ev;exact⟨rv,⟨V.ref (s.heap.objs.size+1),H',I3,rfl,q3⟩⟩
  |next=>exact False.elim hq'
  |brk=>exact False.elim hq'
  |cont=>exact False.elim hq'
theorem VU(M:Mk X.K C f)(F:FnOk X.prog X.w X.K X.mg X.base CX k f fd ps sp)(hr:Room (k+1) X.A)(hg:Gl X x)(hm:X.mg x=some (.ref C))(hb:Binds X.K fd ps ds)(hd:Vals dvs ds)(hx:HP CX X E)
  (ha:PA X (e::es) t) (hdb:(x==("__debug__" : Str))=false:=by decide) (he:starEach (e::es) X.env=(false,eval e X.env)::starEach es X.env:=by rfl) (hpl:(backTo pos (starEach es X.env)).any (·.1)=false:=by rfl) :
  PE X (.Call (.Name x p) (e::es) [] pos) (Yv C sp dvs E t):=by
 intro pins s σ H Q I h;refine wpAny_Call_Name_kw (LO I hg hm ?_ hdb);refine PySem.W.callWith_K (h₀:=X.base) I.ok.mod.kin M.kp (thn (ha pos pins s σ H _ I h) λus s1 ⟨vs,H1,I1,r,q⟩=>⟨I1.kIn,?_⟩) he hpl;exact SG M F hr hb hd hx I1 r q
end
structure Ad(N P:List Str)(sc:Scope):Prop where
 kind:sc.kind=.function
 co:sc.isCoroutine=false
 gen:sc.isGenerator=false
 nd:N.Nodup
 pre:N.take P.length=P
 par:∀x∈P,sc.names.lookup x=some .local∨sc.names.lookup x=some .cell
 nofree:∀y∈sc.names,y.2≠.free
theorem Kj{kindOf:Str->Option NameKind}:∀{binds:List (Str×Value)} {m:Str->Option Value},(∀v,(x,v)∉binds)->bindL kindOf binds m x=m x
 |[],_,_=>rfl
 |(n,v)::r,m,h=>by
  unfold bindL;rw[Kj λw hw=>h w (AAR _ hw)];split
  ·have:x≠n:=by rintro rfl;exact h v AAQ
   simp[this]
  ·rfl
theorem Kl{kindOf:Str->Option NameKind}:∀{binds:List (Str×Value)} {m:Str->Option Value},(∀v,(x,v)∉binds)->bindC kindOf binds m x=m x
 |[],_,_=>rfl
 |(n,v)::r,m,h=>by
  unfold bindC;rw[Kl λw hw=>h w (AAR _ hw)];split
  ·rfl
  ·have:x≠n:=by rintro rfl;exact h v AAQ
   simp[this]
theorem Kk{kindOf:Str->Option NameKind}:∀{P:List Str} {vs:List Value} {i:Nat} {m:Str->Option Value},P.Nodup->P[i]?=some x->vs[i]?=some v->kindOf x=some .local->
  bindL kindOf (P.zip vs) m x=some v
 |[],_,_,_,_,h,_,_=>by simp at h
 |_::_,[],_,_,_,_,h,_=>by simp at h
 |p::P,w::vs,0,m,nd,h1,h2,hk=>by
  simp at h1 h2;subst h1;subst h2;show bindL kindOf ((p,w)::P.zip vs) m p=_;unfold bindL;rw[Kj λv hv=>(List.nodup_cons.mp nd).1 (List.of_mem_zip hv).1,if_pos hk];simp
 |p::P,w::vs,i+1,m,nd,h1,h2,hk=>by
  show bindL kindOf ((p,w)::P.zip vs) m x=_;unfold bindL;exact Kk (i:=i) (List.nodup_cons.mp nd).2 (by simpa using h1) (by simpa using h2) hk
theorem Km{kindOf:Str->Option NameKind}:∀{P:List Str} {vs:List Value} {i:Nat} {m:Str->Option Value},P.Nodup->P[i]?=some x->vs[i]?=some v->kindOf x≠some .local->
  bindC kindOf (P.zip vs) m x=some v
 |[],_,_,_,_,h,_,_=>by simp at h
 |_::_,[],_,_,_,_,h,_=>by simp at h
 |p::P,w::vs,0,m,nd,h1,h2,hk=>by
  simp at h1 h2;subst h1;subst h2;show bindC kindOf ((p,w)::P.zip vs) m p=_;unfold bindC;rw[Kl λv hv=>(List.nodup_cons.mp nd).1 (List.of_mem_zip hv).1,if_neg hk];simp
 |p::P,w::vs,i+1,m,nd,h1,h2,hk=>by
  show bindC kindOf ((p,w)::P.zip vs) m x=_;unfold bindC;exact Km (i:=i) (List.nodup_cons.mp nd).2 (by simpa using h1) (by simpa using h2) hk
noncomputable def start(N:List Str)(vs:List V):St:=vs.map some++List.replicate (N.length-vs.length) none
noncomputable def Gf(CX:CXT)(P:Program)(w:World)(K:PySem.W.Frag)(mg:Str->Option Value)(base:Heap)(N:List Str)(qual:Str)(scope:Scope)(f:Addr)(cd:Value)(A:Around)(outer:List Env)(s:Shared)(H:Hp)(E:XK):Cx where
 prog:=P
 w:=w
 K:=K
 mg:=mg
 base:=base
 A:=A.deeper (envOfC qual scope s.heap.objs.size f cd)
 N:=N
 s₀:=s
 H₀:=H
 env:=envOfC qual scope s.heap.objs.size f cd
 outer:=outer
 stack:=envOfC qual scope s.heap.objs.size f cd::outer
 ex:=[]
 calm:=true
 fn:=λ_=>true
 pn:=[]
 xe:=λe s'=>wpAny (model P w) (A.deeper (envOfC qual scope s.heap.objs.size f cd)) (leaving (envOfC qual scope s.heap.objs.size f cd) e) (λ_ s''=>CX outer H s E e s'') (λe' s''=>CX outer H s E e' s'') s'
theorem M6{sc:Scope}(h:sc.names.lookup x=some .cell):∃c,(cellsFrom n sc.names []).lookup x=some c:=by
 have q:=PySem.W.cellsFrom_some sc.names n [] (.inl h);exact Option.isSome_iff_exists.mp q
theorem Qa{CX:CXT}{P:Program}{w:World}{K:PySem.W.Frag}{mg:Str->Option Value}{base:Heap}{N ps:List Str}{qual:Str}{scope:Scope}
  (S:Ad N ps scope) (hd:A.handled=none) (e0:Env0 P w K mg base A outer s H) (hl:vs.length=ps.length) (r:Vals vs us)
  (x:InCallC s s.heap.objs.size (bindL (envOfC qual scope s.heap.objs.size f cd).kindOf (ps.zip us) λ_=>none) (cellsFrom (s.heap.objs.size+1) scope.names []) (bindC (envOfC qual scope s.heap.objs.size f cd).kindOf (ps.zip us) λ_=>none) s1) :
  Inv (Gf CX P w K mg base N qual scope f cd A outer s H E) [] (start N vs) H s1:=by
 have hpl:ps.length<=N.length:=by have:=congrArg List.length S.pre;rw[List.length_take] at this;omega
 obtain⟨h1,tk,rfl,hk⟩:=x.done;have noA:∀b:Addr,b∉(Gf CX P w K mg base N qual scope f cd A outer s H E).ex:=λb z=>absurd (show b∈([]:List Addr) from z) (by simp);refine⟨⟨e0.mod,S.kind,rfl,rfl,AAF _,λy z c h1 h2=>?_,λy hy=>?_,λy c _ h=>?_,λ_=>hd,Around.frames_deeper e0.frames,.inr ⟨rfl,rfl⟩,λb z=>absurd z (noA b),e0.bs,e0.bsz,λb _ _=>noA b,λb z=>absurd z (noA b),e0.funs,e0.frf⟩,
  rfl,e0.bare,Un.kept hk,⟨_,x.toInCall.ns,λi y v h1 h2 h3=>?_⟩,λy c h=>⟨_,x.cell y c h⟩,e0.hok.fresh (AAF _),λy c h=>?_,λp hp=>absurd (show p∈([]:List (Addr×Obj)) from hp) (by simp),e0.hok.kept hk,?_⟩
 ·exact name_of_addr x.apart (PySem.mem_of_lookup h1) (PySem.mem_of_lookup h2)
 ·have hy:scope.names.lookup y=some .cell∨scope.names.lookup y=some .free:=hy;rcases hy with hy|hy
  ·exact M6 hy
  ·exact absurd rfl (S.nofree _ (PySem.mem_of_lookup hy))
 ·exact Nat.le_of_lt (x.above y c (PySem.mem_of_lookup h))
 ·have hi:i<vs.length:=by
   unfold start at h2;by_cases hi:i<vs.length
   ·exact hi
   ·rw[AAS (by simpa using hi)] at h2;rw[List.getElem?_replicate] at h2;split at h2<;>cases h2
  have ha:vs[i]?=some v:=by
   unfold start at h2;rw[AAT (by simpa using hi),AAW] at h2;cases e:vs[i]? with
   |none=>rw[e] at h2;cases h2
   |some a=>rw[e] at h2;cases h2;rfl
  obtain⟨u,hu,rv⟩:=r.get ha;have hp:ps[i]?=some y:=by
   rw[←S.pre,List.getElem?_take_of_lt (by omega)];exact h1
  have ndP:ps.Nodup:=by rw[←S.pre];exact S.nd.sublist (List.take_sublist _ _)
  refine⟨u,rv,?_⟩;rcases S.par y (AAV hp) with k|k
  ·exact .inl ⟨k,Kk ndP hp hu k⟩
  ·obtain⟨c,e⟩:=M6 (n:=s.heap.objs.size+1) k;refine .inr ⟨.inl k,c,e,?_⟩;have q:=x.cell y c e;rw[Km ndP hp hu (by show scope.names.lookup y≠_;rw[k];decide)] at q;exact q
 ·exact e0.hok.fresh (Nat.le_of_lt (x.above y c (PySem.mem_of_lookup h)))
 ·unfold start;show _=N.length;rw[AAH,AAG,AAo];omega
theorem Zj{CX:CXT}{P:Program}{w:World}{K:PySem.W.Frag}{mg:Str->Option Value}{base:Heap}{k:Nat}{f:Addr}{name qual:Str}{params:Arguments}{body:List Stmt}{scope:Scope}{dV kV doc pm cdv ct oc:Value}{an od:Option Addr}
  {osl:Array (Option Value)} {N ps:List Str} {sp:Sp} (lk:K.lookup f=some ⟨oc,od,.func (PySem.W.fnOf name qual params body scope dV kV doc pm an cdv ct),osl⟩) (hcd:PySem.W.codeIn K cdv qual=true) (S:Ad N ps scope)
  (len:∀vs H Q E,sp vs H Q E->vs.length=ps.length)
  (hbody:∀(A:Around) (outer:List Env) (s:Shared) (H:Hp) (vs:List V) (Q:VK) (E:XK),Room k (A.deeper (envOfC qual scope s.heap.objs.size f cdv))->sp vs H Q E->
   ∃t,PSs (Gf CX P w K mg base N qual scope f cdv A outer s H E) body t/\t { nx:=λ_ H'=>Q .non H',rt:=Q } (start N vs) H) :
  FnOk P w K mg base CX (k+1) f (PySem.W.fnOf name qual params body scope dV kV doc pm an cdv ct) ps sp:=by
 refine⟨len,λA outer s H args us vs Q E hr e0 hb r hsp=>?_⟩;have hl:=len _ _ _ _ hsp;have KX:K.In s.heap:=e0.mod.kin.keeps λb o e=>(e0.bs b o e).1;have lim:s.heap.NoLimit:=e0.mod.nolimit.keeps λb o e=>(e0.bs b o e).1;have hkind:∀y∈ps.zip us,scope.names.lookup y.1=some .local∨(scope.names.lookup y.1=some .cell/\((cellsFrom (s.heap.objs.size+1) scope.names []).lookup y.1).isSome=true):=λ⟨n,v⟩ hy=>by
  rcases S.par n (List.of_mem_zip hy).1 with q|q
  ·exact .inl q
  ·exact .inr ⟨q,PySem.W.cellsFrom_some _ _ _ (.inl q)⟩
 refine codeAny_call_function hr.depth (KX _ _ lk) rfl S.co S.gen rfl (PySem.W.codeRec_of KX hcd) (hb _ _ _ _ ?_);refine wpAny_newFunctionEnv_cells S.kind hkind λenv he s1 x=>?_;subst he;refine⟨lim.keeps x.toInCall.keep,codeAny_func ?_⟩;obtain⟨t,ht,hq⟩:=hbody A outer s H vs Q E (hr.deeper _) hsp;have I:Inv (Gf CX P w K mg base N qual scope f cdv A outer s H E) [] (start N vs) H s1:=Qa S hr.hd e0 hl r x;refine AAl (ht [] s1 (start N vs) H _ I hq) (λfl s' hs=>?_) λe s' hs=>hs;have fin:∀{σ':St} {H':Hp} {v:V} {u:Value},Inv (Gf CX P w K mg base N qual scope f cdv A outer s H E) [] σ' H' s'->RelV v u->Q v H'->CE outer P w H s Q u s':=
  λ{σ' H' v u} J rv q=>⟨v,H',J.os,J.bare,J.base,J.hok,rv,q⟩
 cases fl with
 |ret u=>
  obtain⟨v,σ',H',J,rv,q⟩:=hs;exact fin J rv q
 |next=>
  obtain⟨σ',H',J,q⟩:=hs;exact fin (v:=V.non) (u:=Value.none) J rfl q
 |brk=>
  obtain⟨_,_,_,q⟩:=hs;exact False.elim q
 |cont=>
  obtain⟨_,_,_,q⟩:=hs;exact False.elim q
section
variable{X:Cx}{x:Str}{p pos:Pos}{e:Expr}{es:List Expr}{t:TA}{id T:String}{r:List V->Hp->VK->Prop}
noncomputable def tCB(r:List V->Hp->VK->Prop)(t:TA):TE:=λσ H Q=>t σ H λvs H1=>r vs H1 Q
theorem MM(hc:Bv X (.builtin id) r)(hg:Gl X x)(hm:X.mg x=none)(hv:bootBuiltins x=some (.builtin id))(ha:PA X (e::es) t)(hn:x ≠ "__name__" := by decide)(hdb:(x==("__debug__" : Str))=false:=by decide)
  (he:starEach (e::es) X.env=(false,eval e X.env)::starEach es X.env:=by rfl) (hpl:(backTo pos (starEach es X.env)).any (·.1)=false:=by rfl):PE X (.Call (.Name x p) (e::es) [] pos) (tCB r t):=by
 intro pins s σ H Q I h;refine wpAny_Call_Name_kw (Et I hg hm hv ?_ hn hdb);exact PyProof.Rows.callWith_builtin1 (thn (ha pos pins s σ H _ I h) λus s1 ⟨vs,H1,I1,r1,q1⟩=>hc pins s1 σ H1 vs us Q I1 r1 q1) he hpl
theorem FJ(hc:Bv X (.type T) r)(hg:Gl X x)(hm:X.mg x=none)(hv:bootBuiltins x=some (.type T))(ha:PA X (e::es) t)(hn:x ≠ "__name__" := by decide)(hdb:(x==("__debug__" : Str))=false:=by decide)
  (he:starEach (e::es) X.env=(false,eval e X.env)::starEach es X.env:=by rfl) (hpl:(backTo pos (starEach es X.env)).any (·.1)=false:=by rfl):PE X (.Call (.Name x p) (e::es) [] pos) (tCB r t):=by
 intro pins s σ H Q I h;refine wpAny_Call_Name_kw (Et I hg hm hv ?_ hn hdb);exact PyProof.Rows.callWith_type1 (thn (ha pos pins s σ H _ I h) λus s1 ⟨vs,H1,I1,r1,q1⟩=>hc pins s1 σ H1 vs us Q I1 r1 q1) he hpl
end
end L2
namespace HT
open PySem PyProof.Rows
section
open PySem.SeqAt
open PySem.AutoSeq1 (wpAny_loadPart')
open PySem.MeetsSeq PySem.MeetsSeq2 PySem.MeetsSeq3
end
section
variable{prog:Program}{w:World}{A:Around}{E:Value->Shared->Prop}{s:Shared}
theorem V6(ht:IsTup s.heap t vs.toArray)(hb:IsTup s.heap b ws.toArray)(hv:vs≠[])
  (h1:ws=[]->Q (.ref t) s) (h2:ws≠[]->Q (.ref s.heap.objs.size) { s with heap:=s.heap.push { cls:=.type "tuple",data:=.seq (vs++ws).toArray } })
  (hsz:vs.length+ws.length<=sizeLine):wpAny (model prog w) A (binaryOp .Add (.ref t) (.ref b)) Q E s:=by
 obtain⟨⟨cls,dd,data,sl⟩,ho,hc,n,hd⟩:=id ht;obtain⟨⟨cls2,dd2,data2,sl2⟩,ho2,hc2,n2,hd2⟩:=id hb;simp only at hc hd hc2 hd2;subst hc hd hc2 hd2;have e:vs.toArray++ws.toArray=(vs++ws).toArray:=by simp
 by_cases hw:ws=[]
 ·exact concat_meets ⟨_,ho,rfl⟩ ⟨_,ho2,rfl⟩ noFill_tuple_add seq_tuple_add PySem.F.slot_tuple_add PySem.F.entry_tuple_add (PySem.F.args_tuple_add_2 _ _)
   (tuple_addW1 t b vs.toArray ws.toArray n n2 dd dd2 sl sl2 (by simpa using hv) (by simp[hw])) ⟨ho,ho2,h1 hw⟩
 ·refine concat_meets ⟨_,ho,rfl⟩ ⟨_,ho2,rfl⟩ noFill_tuple_add seq_tuple_add PySem.F.slot_tuple_add PySem.F.entry_tuple_add (PySem.F.args_tuple_add_2 _ _)
   (tuple_addW2 t b vs.toArray ws.toArray n n2 dd dd2 sl sl2 (by simpa using hv) (by simpa using hw) (by rw[List.size_toArray,List.size_toArray];exact hsz)) ⟨ho,ho2,?_⟩
  rw[e];exact h2 hw
noncomputable def sIx(n d:Nat):Option Int->Nat
 |none=>d
 |some v=>if v<0 then (v+(n:Int)).toNat else min v.toNat n
theorem XQ(n d:Nat)(hd:d<=n)(o:Option Int):sIx n d o<=n:=by
 cases o with
 |none=>exact hd
 |some v=>
  show (if v<0 then (v+(n:Int)).toNat else min v.toNat n)<=n;by_cases hv:v<0
  ·rw[if_pos hv];omega
  ·rw[if_neg hv];exact Nat.min_le_right _ _
theorem PX(v:Int)(n d:Nat):(if v<0 then max (v+(n:Int)) 0 else min v (n:Int))=((sIx n d (some v):Nat):Int):=by
 show (if v<0 then max (v+(n:Int)) 0 else min v (n:Int))=(((if v<0 then (v+(n:Int)).toNat else min v.toNat n):Nat):Int);by_cases hv:v<0
 ·simp only[if_pos hv];omega
 ·simp only[if_neg hv];omega
theorem OG(lo hi:Option Int)(n:Nat):Builtin.Slice.sliceAdjust lo hi 1 (n:Int)=(((sIx n 0 lo:Nat):Int),((sIx n n hi:Nat):Int)):=by
 have h1:¬((1:Int)<0):=by omega
 unfold Builtin.Slice.sliceAdjust;simp only[h1,if_false];refine Prod.ext ?_ ?_
 ·cases lo with
  |none=>rfl
  |some v=>exact PX v n 0
 ·cases hi with
  |none=>rfl
  |some v=>exact PX v n n
theorem Nf(i j:Nat):Builtin.Slice.slicePlaces (i:Int) (j:Int) 1=j-i:=by
 unfold Builtin.Slice.slicePlaces;have h1:(1:Int) > 0:=by omega
 simp only[h1,if_true,Int.ediv_one];split<;>omega
theorem Ib(p:IsPart v o)(h:Q o s):wpAny (model prog w) A (Builtin.Slice.slicePartIndex v) Q E s:=by
 cases p with
 |none=>exact slicePart_none h
 |int i t=>exact slicePart_int h
theorem DW{sl:Addr}{vl vu:Value}{lo hi:Option Int}{n:Nat}{Q:Int×Int×Nat->Shared->Prop}(hs:s.heap.IsSliceOf sl vl vu .none)(pl:IsPart vl lo)(pu:IsPart vu hi)
  (h:Q (((sIx n 0 lo:Nat):Int),1,sIx n n hi-sIx n 0 lo) s):wpAny (model prog w) A (Builtin.Slice.sliceApplied (.ref sl) (pure (n:Int))) Q E s:=by
 obtain⟨os,hos,hcs,hds⟩:=id hs;unfold Builtin.Slice.sliceApplied Builtin.Slice.sliceFields;refine AAA (AAA (AAx hos hds (x:=vl) rfl (AAA (AAx hos hds (x:=vu) rfl (AAA (AAx hos hds (x:=.none) rfl (AAB ?_)))))));refine AAA (slicePart_none ?_);show wpAny _ _ (if ((1:Int)==0)=true then _ else _) _ _ s;rw[if_neg (by decide)];refine AAA (Ib pl (AAA (Ib pu (AAA (AAB ?_)))));show wpAny _ _ (match Builtin.Slice.sliceAdjust lo hi 1 (n:Int) with|(lo,hi)=>pure (lo,(1:Int),Builtin.Slice.slicePlaces lo hi 1)) _ _ s;rw[OG lo hi n];show wpAny _ _ (pure (((sIx n 0 lo:Nat):Int),(1:Int),Builtin.Slice.slicePlaces ((sIx n 0 lo:Nat):Int) ((sIx n n hi:Nat):Int) 1)) _ _ s;rw[Nf];exact AAB h
theorem Sm(xs:Array Value)(i k:Nat):((List.range k).filterMap λ(m:Nat)=>xs[((i:Int)+(m:Int) * 1).toNat]?).toArray=((xs.toList.drop i).take k).toArray:=by
 have e:(λ(m:Nat)=>xs[((i:Int)+(m:Int) * 1).toNat]?)=λm=>xs[i+m]?:=by
  funext m
  have:((i:Int)+(m:Int) * 1).toNat=i+m:=by omega
  rw[this]
 rw[e];have:=pick_run xs i k;rw[List.filterMap_map] at this;have e2:((λx=>xs[x]?) ∘ λx=>i+x)=λm=>xs[i+m]?:=rfl;rw[e2] at this;rw[this]
theorem GY{t sl:Addr}{items:Array Value}{vl vu:Value}{lo hi:Option Int}{Q:Value->Shared->Prop}(ht:IsTup s.heap t items)(hs:s.heap.IsSliceOf sl vl vu .none)(pl:IsPart vl lo)(pu:IsPart vu hi)
  (hw:¬(sIx items.size 0 lo=0/\sIx items.size items.size hi=items.size))
  (h:Q (.ref s.heap.objs.size) { s with heap:=s.heap.push { cls:=.type "tuple",data:=.seq ((items.toList.drop (sIx items.size 0 lo)).take (sIx items.size items.size hi-sIx items.size 0 lo)).toArray } })
  (hsz:items.size<=sizeLine):wpAny (model prog w) A (getItem (.ref t) (.ref sl)) Q E s:=by
 have htake:sizeOk (.seq ((items.toList.drop (sIx items.size 0 lo)).take (sIx items.size items.size hi-sIx items.size 0 lo)).toArray):=by
  show ((items.toList.drop (sIx items.size 0 lo)).take (sIx items.size items.size hi-sIx items.size 0 lo)).toArray.size<=sizeLine;rw[List.size_toArray,List.length_take,List.length_drop,Array.length_toList];omega
 have hj:sIx items.size items.size hi<=items.size:=XQ _ _ (AAF _) hi;obtain⟨os,hos,hcs,hds⟩:=id hs;have hTs:s.TypeIs (.ref sl) "slice" := ⟨os,hos,hcs⟩;unfold getItem
 try with_reducible refine AAq ?_
 first|refine AAA (AAB ?_)|skip
 refine AAA (wpAny_sequenceKey ht.typeIs (by decide) ?_);refine AAA (wpAny_callSpecial?_slot (name:=Str.ofString "__getitem__") ht.typeIs PyProof.Rows.slot_tuple_getitem
  (AAe PyProof.Rows.slot_tuple_getitem ht.typeIs entry_tuple_getitem ?_ (args_tuple_getitem _ _)))
 show wpAny _ _ (Builtin.Tuple.tupleItemsOf (.ref t) >>= _) _ _ s;refine AAA (tupleItemsOf_ ht ?_);refine AAA (wpAny_typeOf hTs ?_);rw[if_pos (by decide)];refine AAA (DW hs pl pu ?_);have hno:¬((((sIx items.size 0 lo:Nat):Int)==0&&(1:Int)==1&&(sIx items.size items.size hi-sIx items.size 0 lo)==items.size)=true):=by
  intro q;rw[Bool.and_eq_true,Bool.and_eq_true] at q;have q1:((sIx items.size 0 lo:Nat):Int)=0:=eq_of_beq q.1.1;have q2:sIx items.size items.size hi-sIx items.size 0 lo=items.size:=eq_of_beq q.2;exact hw ⟨by omega,by omega⟩
 show wpAny _ _ (if (((sIx items.size 0 lo:Nat):Int)==0&&(1:Int)==1&&(sIx items.size items.size hi-sIx items.size 0 lo)==items.size)=true then _ else _) _ _ s;rw[if_neg hno,Sm]
 first
  |exact AAA (m:=Builtin.Tuple.tupleExact _) (AAs (AAB ⟨_,rfl,AAB h⟩) htake)
  |exact AAA (m:=Builtin.Tuple.tupleExact _) (AAs (AAA (AAB (AAB ⟨_,rfl,AAB h⟩))) htake)
  |exact AAA (AAA (m:=Builtin.Tuple.tupleExact _) (AAs (AAB (AAB ⟨_,rfl,AAB h⟩)) htake))
  |exact AAA (AAA (m:=Builtin.Tuple.tupleExact _) (AAs (AAB ⟨_,rfl,AAB h⟩) htake))
end
end HT
namespace L2
open PySem PySem.Spec PyProof.Rows
noncomputable abbrev TO:=St->Hp->(Option Int->Hp->Prop)->Prop
def PO(X:Cx)(e:Option Expr)(t:TO):Prop:=
 ∀(pins:List (Addr×Obj)) (s:Shared) (σ:St) (H:Hp) (Q:Option Int->Hp->Prop),Inv X pins σ H s->t σ H Q->
  wpAny (model X.prog X.w) X.A (evalPart e X.env) (λu s'=>∃o H',Inv X pins σ H' s'/\IsPart u o/\Q o H') X.xe s
noncomputable def Up:TO:=λ_ H Q=>Q none H
noncomputable def Yq(t:TE):TO:=λσ H Q=>t σ H λx H1=>∃i,x=.int i/\Q (some i) H1
section
variable{X:Cx}{e:Expr}{te:TE}{lo hi:Option Expr}{tl th:TO}{pos p2:Pos}
theorem VQ:PO X none Up:=by
 intro pins s σ H Q I h;rw[evalPart_none];exact AAB ⟨none,H,I,.none,h⟩
theorem VP(h:PE X e te):PO X (some e) (Yq te):=by
 intro pins s σ H Q I hw;rw[evalPart_some];refine thn (h pins s σ H _ I hw) λu s1 ⟨x,H1,I1,r1,q1⟩=>?_;obtain⟨i,rfl,q⟩:=q1;obtain⟨t,rfl⟩:=r1;exact⟨some i,H1,I1,.int i t,q⟩
def SlR(X:Cx)(r:V->Option Int->Option Int->Hp->VK->Prop):Prop:=
 ∀(pins:List (Addr×Obj)) (s:Shared) (σ:St) (H:Hp) (x:V) (v vl vu:Value) (lo hi:Option Int) (sl:Addr) (Q:VK),Inv X pins σ H s->RelV x v->s.heap.IsSliceOf sl vl vu .none->IsPart vl lo->IsPart vu hi->r x lo hi H Q->
  ∃T id,typeLookup (.type T) "__getitem__" = pure (some (.builtin id))/\s.TypeIs v T/\wpAny (model X.prog X.w) X.A (getItem v (.ref sl)) (EP X pins σ Q) X.xe s
theorem SlR.or(h:SlR X r)(h':SlR X r'):SlR X (λx lo hi H Q=>r x lo hi H Q∨r' x lo hi H Q):=by
 intro pins s σ H x v vl vu lo hi sl Q I rx hs pl pu q;rcases q with q|q
 ·exact h pins s σ H x v vl vu lo hi sl Q I rx hs pl pu q
 ·exact h' pins s σ H x v vl vu lo hi sl Q I rx hs pl pu q
noncomputable def tSl(r:V->Option Int->Option Int->Hp->VK->Prop)(te:TE)(tl th:TO):TE:=λσ H Q=>te σ H λx H1=>tl σ H1 λl H2=>th σ H2 λu H3=>r x l u H3 Q
theorem Ss(hr:SlR X r)(he:PE X e te)(hl:PO X lo tl)(hu:PO X hi th):PE X (.Subscript e (.Slice lo hi none p2) pos) (tSl r te tl th):=by
 intro pins s σ H Q I h;refine Subscript_ (thn (he pins s σ H _ I h) λv s1 ⟨x,H1,I1,r1,q1⟩=>?_);refine wpAny_Slice (thn (hl pins s1 σ H1 _ I1 q1) λvl s2 ⟨l,H2,I2,pl,q2⟩=>thn (hu pins s2 σ H2 _ I2 q2) λvu s3 ⟨u,H3,I3,pu,q3⟩=>?_);rw[evalPart_none];refine AAB ?_;have I4:Inv X pins σ H3 { s3 with heap:=s3.heap.push { cls:=.type "slice",data:=.fields #[vl,vu,.none] } }:=I3.kept (t':=s3.toks) λb ob q=>AAC _ q;obtain⟨T,id,hT,ht,hg⟩:=hr pins { s3 with heap:=s3.heap.push { cls:=.type "slice",data:=.fields #[vl,vu,.none] } } σ H3 x v vl vu l u s3.heap.objs.size Q I4 r1 (Heap.IsSliceOf.new ..) pl pu q3;show wpAny (model X.prog X.w) X.A (subscriptTail e (.Slice lo hi none p2) v (.ref s3.heap.objs.size)) (EP X pins σ Q) X.xe { s3 with heap:=s3.heap.push { cls:=.type "slice",data:=.fields #[vl,vu,.none] } };exact tail_any (ops:=[.ref s3.heap.objs.size,v]) ht hT hg (by with_unfolding_all rfl)
noncomputable def M2(xs:List V)(lo hi:Option Int):List V:=(xs.drop (HT.sIx xs.length 0 lo)).take (HT.sIx xs.length xs.length hi-HT.sIx xs.length 0 lo)
theorem Hh(xs:List V)(lo hi:Option Int):(M2 xs lo hi).length<=xs.length:=by
 unfold M2;rw[List.length_take,List.length_drop];omega
noncomputable def aO(K:PySem.W.Frag):V->Option Int->Option Int->Hp->VK->Prop:=λx lo hi H Q=>∃a xs,x=.ref a/\SqT K H a xs /\
 ¬(HT.sIx xs.length 0 lo=0/\HT.sIx xs.length xs.length hi=xs.length)/\∀p,H p=none->Q (.ref p) (upd H p (.tup (M2 xs lo hi)))
theorem XM:SlR X (aO X.K):=by
 intro pins s σ H x v vl vu lo hi sl Q I rx hs pl pu h;obtain⟨a,xs,rfl,hx,hw,q⟩:=h;cases rx;obtain⟨its,r,ht,hz⟩:=I.tuple hx;have hlen:its.toArray.size=xs.length:=by rw[List.size_toArray];exact r.length.symm
 refine⟨"tuple",_,PyProof.Rows.slot_tuple_getitem.lookup,ht.typeIs,?_⟩;refine HT.GY ht hs pl pu (by rw[hlen];exact hw) ?_ (by rw[hlen];exact hz);rw[hlen];refine⟨.ref s.heap.objs.size,_,I.laid (t':=s.toks) (o:=.tup (M2 xs lo hi)) (λb ob q=>AAC _ q) (AAF _) ?_,rfl,q _ (I.hok.fresh (AAF _))⟩;exact⟨AAu (Hh xs lo hi) hz,_,(r.drop (HT.sIx xs.length 0 lo)).take (HT.sIx xs.length xs.length hi-HT.sIx xs.length 0 lo),IsTup.new _ _⟩
noncomputable def ZD(K:PySem.W.Frag):R2:=λx y H Q=>∃a b xs ys,x=.ref a/\y=.ref b/\SqT K H a xs/\SqT K H b ys/\xs≠[]/\xs.length+ys.length<=sizeLine /\
 (ys=[]->Q (.ref a) H)/\(ys≠[]->∀p,H p=none->Q (.ref p) (upd H p (.tup (xs++ys))))
theorem Vals.nil_iff(r:Vals xs us):us=[]↔xs=[]:=by
 cases r with
 |nil=>simp
 |cons _ _=>simp
theorem Vi:OpR X (binaryOp .Add) (ZD X.K):=by
 intro pins s σ H x y v u Q I rx ry h;obtain⟨a,b,xs,ys,rfl,rfl,ha,hb,hx,hz,q1,q2⟩:=h;cases rx;cases ry;obtain⟨its,r1,p1,_⟩:=I.tuple ha;obtain⟨its2,r2,p2,_⟩:=I.tuple hb;refine HT.V6 p1 p2 (λz=>hx (r1.nil_iff.mp z)) (λz=>⟨.ref a,H,I,rfl,q1 (r2.nil_iff.mp z)⟩) (λz=>?_) (by rw[←r1.length,←r2.length];exact hz);refine⟨.ref s.heap.objs.size,_,I.laid (t':=s.toks) (o:=.tup (xs++ys)) (λb ob q=>AAC _ q) (AAF _) ?_,rfl,q2 (λw=>z (r2.nil_iff.mpr w)) _ (I.hok.fresh (AAF _))⟩;exact⟨by rw[AAH];exact hz,_,r1.append r2,IsTup.new _ _⟩
theorem M7:Bv X (.type "tuple") (λxs H Q=>∃a ys,xs=[.ref a]/\SqT X.K H a ys/\Q (.ref a) H):=by
 intro pins s σ H xs us Q I r h;obtain⟨a,ys,rfl,ha,q⟩:=h;obtain⟨u,rfl,ru⟩:=IR r;cases ru;obtain⟨its,_,p1,_⟩:=I.tuple ha;exact call_tuple_same (items:=its.toArray) p1 ⟨.ref a,H,I,rfl,q⟩
end
noncomputable def ixN(n:Nat)(i:Int):Option Nat:=if 0<=i then (if i<n then some i.toNat else none) else if -(n:Int)<=i then some (i+n).toNat else none
noncomputable def atI{α:Type}(xs:List α)(i:Int):Option α:=(ixN xs.length i).bind λj=>xs[j]?
theorem PC(h:ixN n i=some j):seqIndex? i n=some j/\j<n/\-(n:Int)<=i/\i<n:=by
 unfold ixN at h;by_cases h0:0<=i
 ·rw[if_pos h0] at h;by_cases h1:i<n
  ·rw[if_pos h1] at h;have e:i.toNat=j:=Option.some.inj h;exact⟨by rw[seqIndex_of h0 h1,e],by omega,by omega,h1⟩
  ·rw[if_neg h1] at h;cases h
 ·rw[if_neg h0] at h;by_cases h1:-(n:Int)<=i
  ·rw[if_pos h1] at h;have e:(i+n).toNat=j:=Option.some.inj h;exact⟨by rw[seqIndex_neg (by omega) h1,e],by omega,h1,by omega⟩
  ·rw[if_neg h1] at h;cases h
theorem Lc(h:atI xs i=some v):∃j,seqIndex? i xs.length=some j/\xs[j]?=some v/\j<xs.length/\-(xs.length:Int)<=i/\i<xs.length:=by
 unfold atI at h;cases e:ixN xs.length i with
 |none=>rw[e] at h;cases h
 |some j=>
  rw[e] at h;obtain⟨h1,h2,h3,h4⟩:=PC e;exact⟨j,h1,h,h2,h3,h4⟩
theorem Pb{α:Type}{xs:List α}{j:Nat}{v:α}(h:xs[j]?=some v):atI xs (j:Int)=some v:=by
 have hj:j<xs.length:=(AAU.mp h).1;have e:ixN xs.length (j:Int)=some j:=by
  unfold ixN;rw[if_pos (by omega),if_pos (by omega)];simp
 unfold atI;rw[e];exact h
def Pd(b:Expr):Prop:=∀o i,subscripted b false o i=operate [o,i] (getItem o i)
def IxR(X:Cx)(r:R2):Prop:=
 ∀(value slice:Expr) (pins:List (Addr×Obj)) (s:Shared) (σ:St) (H:Hp) (x y:V) (v u:Value) (Q:VK),Inv X pins σ H s->RelV x v->RelV y u->r x y H Q->
  subscripted slice false v u=operate [v,u] (getItem v u)->wpAny (model X.prog X.w) X.A (subscriptTail value slice v u) (EP X pins σ Q) X.xe s
def MtR(X:Cx)(id:String)(r:V->List V->Hp->VK->Prop):Prop:=
 ∀(pins:List (Addr×Obj)) (s:Shared) (σ:St) (H:Hp) (x:V) (xs:List V) (v:Value) (us:List Value) (Q:VK),Inv X pins σ H s->RelV x v->Vals xs us->r x xs H Q->
  wpAny (model X.prog X.w) X.A (call (.builtin id) (v::us)) (EP X pins σ Q) X.xe s
section
variable{X:Cx}{a b:Expr}{ta tb:TE}{pos:Pos}
theorem IxR.or(h:IxR X r)(h':IxR X r'):IxR X (λx y H Q=>r x y H Q∨r' x y H Q):=by
 intro value slice pins s σ H x y v u Q I rx ry q hs;rcases q with q|q
 ·exact h value slice pins s σ H x y v u Q I rx ry q hs
 ·exact h' value slice pins s σ H x y v u Q I rx ry q hs
theorem ZL(hr:IxR X r)(ha:PE X a ta)(hb:PE X b tb)(hs:Pd b):PE X (.Subscript a b pos) (tOp r ta tb):=by
 intro pins s σ H Q I h;exact Subscript_ (Yb ha hb I h λv u s2 x y H2 I2 rx ry q=>hr a b pins s2 σ H2 x y v u Q I2 rx ry q (hs _ _))
noncomputable def ZC(K:PySem.W.Frag):R2:=λx y H Q=>∃p xs i v,x=.ref p/\y=.int i/\SqL K H p xs/\atI xs i=some v/\Q v H
noncomputable def ZA(K:PySem.W.Frag):R2:=λx y H Q=>∃p xs i v,x=.ref p/\y=.int i/\SqT K H p xs/\atI xs i=some v/\Q v H
noncomputable def ZB:R2:=λx y H Q=>∃z i c,x=.str z/\y=.int i/\z.length<=sizeLine/\atI z.cps.toList i=some c/\Q (.str ⟨#[c]⟩) H
theorem ix_list:IxR X (ZC X.K):=by
 intro value slice pins s σ H x y v u Q I rx ry h hs;obtain⟨p,xs,i,z,rfl,rfl,hq,he,q⟩:=h;cases rx;obtain⟨t,rfl⟩:=ry;obtain⟨its,r,pl,hz⟩:=I.list hq;obtain⟨j,h1,h2,h3,h4,h5⟩:=Lc he;obtain⟨w,ew,rw'⟩:=r.get h2;have hl:=r.length;have hn:=F0;have fin:EP X pins σ Q w s:=⟨z,H,I,rw',q⟩;by_cases h0:0<=i
 ·have hj:i.toNat=j:=by
   rw[seqIndex_of h0 h5] at h1;exact Option.some.inj h1
  exact item_listR pl.isList h0 (by omega) (by rw[hj];simpa using ew) fin hs
 ·have hj:(i+(its.toArray.size:Int)).toNat=j:=by
   rw[seqIndex_neg (by omega) h4] at h1;rw[List.size_toArray,←hl];exact Option.some.inj h1
  exact subscriptTail_builtinR (x:=w) pl.isList.typeIs slot_list_getitem.lookup
   (wpAny_getItem_list_neg (Q:=λr s'=>r=w/\EP X pins σ Q r s') pl.isList (by omega) (by rw[List.size_toArray]<;>omega) (by omega) (by rw[hj];simpa using ew) ⟨rfl,fin⟩) hs
theorem ix_tup:IxR X (ZA X.K):=by
 intro value slice pins s σ H x y v u Q I rx ry h hs;obtain⟨p,xs,i,z,rfl,rfl,hq,he,q⟩:=h;cases rx;obtain⟨t,rfl⟩:=ry;obtain⟨its,r,pl,hz⟩:=I.tuple hq;obtain⟨j,h1,h2,h3,h4,h5⟩:=Lc he;obtain⟨w,ew,rw'⟩:=r.get h2;have hl:=r.length;have hn:=F0;have fin:EP X pins σ Q w s:=⟨z,H,I,rw',q⟩;exact subscriptTail_builtinR (x:=w) pl.typeIs slot_tuple_getitem.lookup
  (getItem_tuple (j:=j) (Q:=λr s'=>r=w/\EP X pins σ Q r s') pl (by omega) (by omega) (by rw[List.size_toArray,←hl];exact h1) (by simpa using ew) ⟨rfl,fin⟩) hs
theorem YJ:IxR X ZB:=by
 intro value slice pins s σ H x y v u Q I rx ry h hs;obtain⟨z,i,c,rfl,rfl,hz,he,q⟩:=h;obtain⟨t,rfl⟩:=rx;obtain⟨t',rfl⟩:=ry;obtain⟨j,h1,h2,h3,h4,h5⟩:=Lc he;have hl:z.cps.toList.length=z.length:=by simp[Str.length]
 rw[hl] at h1 h4 h5;have hn:=F0;exact tail_any (typeIs_str s z t) slot_str_getitem.lookup (getItem_str (c:=c) (by
  have e1:decide (i < -(2 ^ 63:Int))=false:=AAO (by omega);have e2:decide (i ≥ 2 ^ 63)=false:=AAO (by omega);rw[e1,e2,Bool.or_false]) (by rw[h1];simpa using h2) ⟨.str ⟨#[c]⟩,H,I.tok _,⟨_,rfl⟩,q⟩) hs
noncomputable def rIx(K:PySem.W.Frag):R2:=λx y H Q=>ZC K x y H Q∨ZA K x y H Q∨ZB x y H Q
theorem Nu:IxR X (rIx X.K):=ix_list.or (ix_tup.or YJ)
theorem Nl(its:List Value)(n j:Nat)(u:Value):Obj.mapSeq (·.setIfInBounds j u) { cls:=.type "list",data:=.seq its.toArray n }={ cls:=.type "list",data:=.seq (its.set j u).toArray n }:=by
 simp[Obj.mapSeq]
theorem Inv.lst(I:Inv X pins σ H s)(h:H p=some (.lst xs)):
  ∃(its:List Value) (n:Nat),Vals xs its/\s.heap.get? p=some { cls:=.type "list",data:=.seq its.toArray n }/\xs.length<=sizeLine:=by
 obtain⟨z,its,n,r,e⟩:=I.hok p _ h;exact⟨its,n,r,e,z⟩
theorem Inv.lstUpd{pins:List (Addr×Obj)}{σ:St}{H:Hp}{s:Shared}{p:Addr}{xs ys:List V}{its its':List Value}{n n':Nat}{f:Obj->Obj}(I:Inv X pins σ H s)(h:H p=some (.lst xs))
  (ho:s.heap.get? p=some { cls:=.type "list",data:=.seq its.toArray n }) (hf:f { cls:=.type "list",data:=.seq its.toArray n }={ cls:=.type "list",data:=.seq its'.toArray n' }) (r:Vals ys its') (hz:ys.length<=sizeLine) (t:Nat) :
  Inv X pins σ (upd H p (.lst ys)) { s with heap:=s.heap.update p f,toks:=t }:=by
 have e:(s.heap.update p f).get? p=some { cls:=.type "list",data:=.seq its'.toArray n' }:=by
  rw[Heap.get?_update_self f ho (by rw[hf]<;>rfl),hf]
 refine I.write (x:=p) (e:=p) (by rw[h];trivial) (.inl rfl) (λb u hb q=>(Heap.get?_update_other _ _ (Ne.symm hb)).trans q) ⟨_,e⟩ ?_;exact⟨hz,its',n',r,e⟩
noncomputable def Y9:V->V->V->Hp->(Hp->Prop)->Prop:=λo i v H Q=>∃p xs k j,o=.ref p/\i=.int k/\H p=some (.lst xs)/\ixN xs.length k=some j/\Q (upd H p (.lst (xs.set j v)))
theorem R8:Z1 X Y9:=by
 intro pins s σ H o i v ov iv u Q I ro ri rv h;obtain⟨p,xs,k,j,rfl,rfl,hp,hj,q⟩:=h;cases ro;obtain⟨t,rfl⟩:=ri;obtain⟨its,n,r,ho,hz⟩:=I.lst hp;obtain⟨h1,h2,h3,h4⟩:=PC hj;have hl:=r.length;have hn:=F0;have I':Inv X pins σ (upd H p (.lst (xs.set j v))) { s with heap:=s.heap.update p (Obj.mapSeq (·.setIfInBounds j u)) }:=
  I.lstUpd hp ho (Nl its n j u) (r.set rv j) (by rw[List.length_set];exact hz) s.toks
 by_cases h0:0<=k
 ·have hk:k.toNat=j:=by
   rw[seqIndex_of h0 h4] at h1;exact Option.some.inj h1
  exact PySem.W.ki_setAt ho h0 (by omega) (by rw[List.size_toArray,←hl];exact h4) (by rw[hk];exact⟨_,I',q⟩)
 ·have hk:(k+(its.toArray.size:Int)).toNat=j:=by
   rw[seqIndex_neg (by omega) h3] at h1;rw[List.size_toArray,←hl];exact Option.some.inj h1
  exact PySem.W.ki_setBack ho (by omega) (by rw[List.size_toArray,←hl];exact h3) (by omega) (by rw[hk];exact⟨_,I',q⟩)
theorem K9(lo hi:Option Int)(n:Nat):(sliceBounds lo hi none n).1=((HT.sIx n 0 lo:Nat):Int)/\(sliceBounds lo hi none n).2.1=((HT.sIx n n hi:Nat):Int)/\(sliceBounds lo hi none n).2.2=1:=by
 refine⟨?_,?_,rfl⟩
 ·cases lo with
  |none=>simp[sliceBounds,HT.sIx]
  |some i=>
   simp only[sliceBounds,HT.sIx,Option.getD_none,show (1:Int) > 0 by decide,if_true];by_cases h:i<0
   ·simp only[h,if_true]<;>omega
   ·simp only[h,if_false]<;>omega
 ·cases hi with
  |none=>simp[sliceBounds,HT.sIx]
  |some i=>
   simp only[sliceBounds,HT.sIx,Option.getD_none,show (1:Int) > 0 by decide,if_true];by_cases h:i<0
   ·simp only[h,if_true]<;>omega
   ·simp only[h,if_false]<;>omega
theorem Jh(its:List Value)(lo hi:Option Int):slicePick its.toArray lo hi none=((its.drop (HT.sIx its.length 0 lo)).take (HT.sIx its.length its.length hi-HT.sIx its.length 0 lo)).toArray:=by
 obtain⟨h1,h2,h3⟩:=K9 lo hi its.toArray.size;unfold slicePick;rw[h1,h2,h3];simp only[sliceRange_one,pick_run,List.size_toArray]<;>rfl
noncomputable def aP(K:PySem.W.Frag):V->Option Int->Option Int->Hp->VK->Prop:=λx lo hi H Q=>∃a xs,x=.ref a/\SqL K H a xs/\∀p,H p=none->Q (.ref p) (upd H p (.lst (M2 xs lo hi)))
theorem Uv:SlR X (aP X.K):=by
 intro pins s σ H x v vl vu lo hi sl Q I rx hs pl pu h;obtain⟨a,xs,rfl,hx,q⟩:=h;cases rx;obtain⟨its,r,ht,hz⟩:=I.list hx;have hlen:=r.length;refine⟨"list",_,slot_list_getitem.lookup,ht.isList.typeIs,?_⟩;refine wpAny_getItem_list_slice ht.isList hs pl pu .none (by simp) ?_ (by rw[List.size_toArray]<;>omega);rw[Jh,←hlen];refine⟨.ref s.heap.objs.size,_,I.laid (t':=s.toks) (o:=.lst (M2 xs lo hi)) (λb ob q=>AAC _ q) (AAF _) ?_,rfl,q _ (I.hok.fresh (AAF _))⟩;exact⟨AAu (Hh xs lo hi) hz,_,0,(r.drop (HT.sIx xs.length 0 lo)).take (HT.sIx xs.length xs.length hi-HT.sIx xs.length 0 lo),AAD _ rfl⟩
noncomputable def C7:V->Bool
 | .non=>true
 | .bl _=>true
 | .int _=>true
 | .str _=>true
 |_=>false
noncomputable def eqV:V->V->Bool
 | .non,.non=>true
 | .bl a,.bl b=>a==b
 | .bl a,.int b=>(if a then 1 else 0)==b
 | .int a,.bl b=>a==(if b then 1 else 0)
 | .int a,.int b=>a==b
 | .str a,.str b=>a==b
 |_,_=>false
theorem YV(ry:RelV y u)(rx:RelV x v)(fy:C7 y=true)(fx:C7 x=true):SeqAt.EqAt A s u v (eqV y x):=by
 cases y with
 |non=>
  cases ry;cases x with
  |non=>cases rx;exact SeqAt.EqAt.same _
  |bl b=>cases rx;exact SeqAt.EqAt.none_bool b
  |int b=>obtain⟨t,rfl⟩:=rx;exact SeqAt.EqAt.none_int b t
  |str b=>obtain⟨t,rfl⟩:=rx;exact SeqAt.EqAt.none_str b t
  |_=>exact absurd (show false=true from fx) AAi
 |bl a=>
  cases ry;cases x with
  |non=>cases rx;exact SeqAt.EqAt.bool_none a
  |bl b=>cases rx;exact SeqAt.EqAt.bool_bool a b
  |int b=>obtain⟨t,rfl⟩:=rx;exact SeqAt.EqAt.bool_int a b t
  |str b=>obtain⟨t,rfl⟩:=rx;exact SeqAt.EqAt.bool_str a b t
  |_=>exact absurd (show false=true from fx) AAi
 |int a=>
  obtain⟨t',rfl⟩:=ry;cases x with
  |non=>cases rx;exact SeqAt.EqAt.int_none a t'
  |bl b=>cases rx;exact SeqAt.EqAt.int_bool a t' b
  |int b=>obtain⟨t,rfl⟩:=rx;exact SeqAt.EqAt.int_int a t' b t
  |str b=>obtain⟨t,rfl⟩:=rx;exact SeqAt.EqAt.int_str a t' b t
  |_=>exact absurd (show false=true from fx) AAi
 |str a=>
  obtain⟨t',rfl⟩:=ry;cases x with
  |non=>cases rx;exact SeqAt.EqAt.str_none a t'
  |bl b=>cases rx;exact SeqAt.EqAt.str_bool a t' b
  |int b=>obtain⟨t,rfl⟩:=rx;exact SeqAt.EqAt.str_int a t' b t
  |str b=>obtain⟨t,rfl⟩:=rx;exact SeqAt.EqAt.str_str a t' b t
  |_=>exact absurd (show false=true from fx) AAi
 |_=>exact absurd (show false=true from fy) AAi
noncomputable def eqU(x:V)(u:Value):Bool:=match u with
 | .none=>eqV .non x
 | .bool b=>eqV (.bl b) x
 | .int i _=>eqV (.int i) x
 | .str z _=>eqV (.str z) x
 |_=>false
theorem LU(r:RelV y u)(f:C7 y=true):eqU x u=eqV y x:=by
 cases y with
 |non=>cases r;rfl
 |bl b=>cases r;rfl
 |int i=>obtain⟨t,rfl⟩:=r;rfl
 |str z=>obtain⟨t,rfl⟩:=r;rfl
 |_=>exact absurd (show false=true from f) AAi
theorem Gm:∀{xs:List V} {us:List Value},Vals xs us->xs.all C7=true->us.any (eqU x)=xs.any λy=>eqV y x
 |_,_,.nil,_=>rfl
 |y::xs,u::us,.cons r t,f=>by
  rw[List.all_cons,Bool.and_eq_true] at f;rw[List.any_cons,List.any_cons,LU r f.1,Gm t f.2]
theorem Da(rx:RelV x v)(fx:C7 x=true):∀{xs:List V} {us:List Value},Vals xs us->xs.all C7=true->∀u∈us,SeqAt.EqAt A s u v (eqU x u)
 |_,_,.nil,_=>λu hu=>by cases hu
 |y::xs,u::us,.cons r t,f=>λu' hu=>by
  rw[List.all_cons,Bool.and_eq_true] at f;rcases AAJ.mp hu with rfl|hu
  ·rw[LU r f.1];exact YV r rx f.1 fx
  ·exact Da rx fx t f.2 u' hu
noncomputable def inV(x:V)(xs:List V):Bool:=xs.any λy=>eqV y x
noncomputable def rIn(K:PySem.W.Frag)(neg:Bool):R2:=λx y H Q=>∃p xs,y=.ref p/\(SqL K H p xs∨SqT K H p xs)/\C7 x=true/\xs.all C7=true/\Q (.bl (if neg then !inV x xs else inV x xs)) H
theorem QI:OpR X (compareOp .In) (rIn X.K false):=by
 intro pins s σ H x y v u Q I rx ry h;obtain⟨p,xs,rfl,hq,fx,fs,q⟩:=h;cases ry;rcases hq with hq|hq
 ·obtain⟨its,r,pl,hz⟩:=I.list hq;refine SeqAt.in_listAt (eqU x) pl.isList (λw hw=>Da rx fx r fs w (by simpa using hw)) ⟨.bl _,H,I,rfl,?_⟩;rw[show its.toArray.any (eqU x)=its.any (eqU x) by simp,Gm r fs];exact q
 ·obtain⟨its,r,pl,hz⟩:=I.tuple hq;refine SeqAt.in_tupleAt (eqU x) pl (λw hw=>Da rx fx r fs w (by simpa using hw)) ⟨.bl _,H,I,rfl,?_⟩;rw[show its.toArray.any (eqU x)=its.any (eqU x) by simp,Gm r fs];exact q
theorem LI:OpR X (compareOp .NotIn) (rIn X.K true):=by
 intro pins s σ H x y v u Q I rx ry h;obtain⟨p,xs,rfl,hq,fx,fs,q⟩:=h;cases ry;rcases hq with hq|hq
 ·obtain⟨its,r,pl,hz⟩:=I.list hq;refine SeqAt.notIn_listAt (eqU x) pl.isList (λw hw=>Da rx fx r fs w (by simpa using hw)) ⟨.bl _,H,I,rfl,?_⟩;rw[show its.toArray.any (eqU x)=its.any (eqU x) by simp,Gm r fs];exact q
 ·obtain⟨its,r,pl,hz⟩:=I.tuple hq;refine SeqAt.notIn_tupleAt (eqU x) pl (λw hw=>Da rx fx r fs w (by simpa using hw)) ⟨.bl _,H,I,rfl,?_⟩;rw[show its.toArray.any (eqU x)=its.any (eqU x) by simp,Gm r fs];exact q
def tyV(K:PySem.W.Frag)(T:String)(x:V)(H:Hp):Prop:=match x with
 | .str _=>T = "str"
 | .int _=>T = "int"
 | .ref p=>(T = "list" /\ ∃xs,SqL K H p xs)∨(T = "tuple" /\ ∃o,K.lookup p=some o/\o.cls=.type "tuple" /\ o.dict=none) ∨
   (T = "dict" /\ ((∃kvs,H p=some (.dK kvs))∨∃kvs,H p=some (.dT kvs)))∨(T = "set" /\ ∃S n,H p=some (.set S n))
 |_=>False
theorem Rp(I:Inv X pins σ H s)(r:RelV x v)(ty:tyV X.K T x H):
  s.TypeIs v T/\∀a,v=.ref a->∃ob,s.heap.get? a=some ob/\ob.dict=none:=by
 cases x with
 |str z=>
  obtain⟨t,rfl⟩:=r;cases (show T = "str" from ty);exact⟨typeIs_str s z t,λ_ e=>nomatch e⟩
 |int i=>
  obtain⟨t,rfl⟩:=r;cases (show T = "int" from ty);exact⟨typeIs_int s i t,λ_ e=>nomatch e⟩
 |ref p=>
  cases r;rcases ty with ⟨rfl,xs,hq⟩|⟨rfl,o,hk,hc,hd⟩|⟨rfl,hk⟩|⟨rfl,S,n,hk⟩
  ·obtain⟨its,_,pl,_⟩:=I.list hq;refine⟨pl.isList.typeIs,λa e=>?_⟩;cases e;obtain⟨o,n,e,c,hd,_⟩:=pl;exact⟨o,e,hd⟩
  ·refine⟨⟨o,I.kIn p o hk,hc⟩,λa e=>?_⟩;cases e;exact⟨o,I.kIn _ o hk,hd⟩
  ·have z:∃o,s.heap.get? p=some o/\o.ExactDict:=by
    rcases hk with ⟨kvs,hk⟩|⟨kvs,hk⟩
    ·obtain⟨_,_,_,_,o,_,_,e,ex,_⟩:=I.hok p _ hk;exact⟨o,e,ex⟩
    ·obtain⟨_,_,_,_,o,_,_,e,ex,_⟩:=I.hok p _ hk;exact⟨o,e,ex⟩
   obtain⟨o,e,ex⟩:=z;refine⟨⟨o,e,ex.1⟩,λa e2=>?_⟩;cases e2;exact⟨o,e,ex.2.1⟩
  ·obtain⟨o,_,_,_,e,ex,_⟩:=I.hok p _ hk;refine⟨⟨o,e,ex.1⟩,λa e2=>?_⟩;cases e2;exact⟨o,e,ex.2.1⟩
 |_=>exact False.elim ty
noncomputable def Y3(K:PySem.W.Frag)(T:String)(r:V->List V->Hp->VK->Prop)(to:TE):TE:=λσ H Q=>to σ H λx H1=>tyV K T x H1/\r x [] H1 Q
noncomputable def tBM(K:PySem.W.Frag)(T:String)(r:V->List V->Hp->VK->Prop)(to:TE)(t:TA):TE:=λσ H Q=>to σ H λx H1=>tyV K T x H1/\t σ H1 λxs H2=>r x xs H2 Q
variable{o e:Expr}{es:List Expr}{to:TE}{t:TA}{name:Str}{apos cpos:Pos}{T id:String}{r:V->List V->Hp->VK->Prop}
theorem Xq(pa:PlainAttrs T)(slot:Slot T name id)(hty:typeOf (.builtin id)=pure (.type "method_descriptor"))(hm:MtR X id r)(ho:PE X o to)
  (hbase:attributeBase o name X.env (eval o X.env)=eval o X.env:=by rfl) (hline:(apos.endLine==cpos.line)=true:=by rfl):PE X (.Call (.Attribute o name apos) [] [] cpos) (Y3 X.K T r to):=by
 intro pins s σ H Q I h;refine wpAny_Call_method0_late hbase hline (thn (ho pins s σ H _ I h) λv s1 ⟨x,H1,I1,r1,ty,q1⟩=>?_);obtain⟨h1,h2⟩:=Rp I1 r1 ty;exact⟨T,id,pa,slot,hty,h1,h2,Calls.callWith_builtin rfl (PySem.evalArgs_none (hm pins s1 σ H1 x [] v [] Q I1 r1 .nil q1))⟩
theorem ZM(pa:PlainAttrs T)(slot:Slot T name id)(hty:typeOf (.builtin id)=pure (.type "method_descriptor"))(hm:MtR X id r)(ho:PE X o to)(ha:PA X (e::es) t)
  (hbase:attributeBase o name X.env (eval o X.env)=eval o X.env:=by rfl)
  (hfew:((backTo cpos (starEach (e::es) X.env)).all (λx=>!x.1)&&(backToKw cpos (keywordEach [] X.env)).all (λx=>x.1.isSome)
   && decide ((e::es).length+([]:List Keyword).length+(if ([]:List Keyword).isEmpty then 0 else 1)<30))=true:=by rfl)
  (hline:(apos.endLine==cpos.line)=true:=by rfl) (hs:starEach (e::es) X.env=(false,eval e X.env)::starEach es X.env:=by rfl) (hplain:(backTo cpos (starEach es X.env)).any (·.1)=false:=by rfl) :
  PE X (.Call (.Attribute o name apos) (e::es) [] cpos) (tBM X.K T r to t):=by
 intro pins s σ H Q I h;refine wpAny_Call_method_late hbase hfew hline rfl (thn (ho pins s σ H _ I h) λv s1 ⟨x,H1,I1,r1,ty,q1⟩=>?_);obtain⟨h1,h2⟩:=Rp I1 r1 ty;refine⟨T,id,pa,slot,hty,h1,h2,?_⟩;have hA:=ha cpos pins s1 σ H1 _ I1 q1;rw[hs] at hA ⊢;refine Calls.callWith_builtin (by show (false||(backTo cpos (starEach es X.env)).any (·.1))=false;rw[hplain]<;>rfl) (Calls.evalArgs_plain ?_);exact thn hA λus s2 ⟨vs,H2,I2,r2,q2⟩=>hm pins s2 σ H2 x vs v us Q I2 r1 r2 q2
end
def MtM(X:Cx)(id:String)(r:V->List V->Hp->VK->Prop):Prop:=
 ∀(pins:List (Addr×Obj)) (s:Shared) (σ:St) (H:Hp) (x:V) (xs:List V) (v:Value) (us:List Value) (Q:VK),Inv X pins σ H s->RelV x v->Vals xs us->r x xs H Q->
  wpAny (model X.prog X.w) X.A (call (.builtin id) (v::us)) (EP X pins σ Q) X.xe s
theorem Vals.one:∀{x:V} {us:List Value},Vals [x] us->∃u,us=[u]/\RelV x u
 |_,_,.cons r .nil=>⟨_,rfl,r⟩
theorem Vals.two:∀{x y:V} {us:List Value},Vals [x,y] us->∃u v,us=[u,v]/\RelV x u/\RelV y v
 |_,_,_,.cons r (.cons q .nil)=>⟨_,_,rfl,r,q⟩
theorem Vals.zero:∀{us:List Value},Vals [] us->us=[]
 |_,.nil=>rfl
theorem Vals.dropLast(h:Vals xs us):Vals xs.dropLast us.dropLast:=by
 induction h with
 |nil=>exact .nil
 |cons r t ih=>
  cases t with
  |nil=>exact .nil
  |cons q t'=>exact .cons r ih
theorem Vals.reverse(h:Vals xs us):Vals xs.reverse us.reverse:=by
 induction h with
 |nil=>exact .nil
 |cons r t ih=>rw[List.reverse_cons,List.reverse_cons];exact Vals.append ih (.cons r .nil)
theorem Vals.rep(h:Vals xs us):∀k:Nat,Vals (List.replicate k xs).flatten (List.replicate k us).flatten
 |0=>.nil
 |k+1=>by
  rw[AAn,AAn,List.flatten_cons,List.flatten_cons];exact Vals.append h (Vals.rep h k)
theorem N4(l:List α):l.eraseIdx (l.length-1)=l.dropLast:=by
 induction l with
 |nil=>rfl
 |cons a r ih=>
  cases r with
  |nil=>rfl
  |cons b r=>
   have e:(a::b::r).length-1=((b::r).length-1)+1:=by
    have h1:(a::b::r).length=r.length+2:=rfl;have h2:(b::r).length=r.length+1:=rfl;omega
   rw[e,List.eraseIdx_cons_succ,ih]
   all_goals rfl
theorem Kb(its:List Value):∀(k:Nat) (acc:List Value),
  List.foldl (λx1 x2=>x1++x2) acc.toArray (List.replicate k its.toArray)=(acc++(List.replicate k its).flatten).toArray
 |0,acc=>by simp
 |k+1,acc=>by
  have e:acc.toArray++its.toArray=(acc++its).toArray:=by simp
  have e2:(acc++its)++(List.replicate k its).flatten=acc++(List.replicate (k+1) its).flatten:=by
   rw[AAn,List.flatten_cons,List.append_assoc]
  rw[←e2,←Kb its k (acc++its),←e,AAn,List.foldl_cons]
section
variable{X:Cx}{pins:List (Addr×Obj)}{σ:St}{H:Hp}{s:Shared}{l:Addr}{xs ys:List V}
theorem Inv.lset{its its':List Value}{n:Nat}{f:Array Value->Array Value}{t':Nat}(I:Inv X pins σ H s)(hH:H l=some (.lst xs))
  (e:s.heap.get? l=some { cls:=.type "list",data:=.seq its.toArray n }) (hf:f its.toArray=its'.toArray) (hv:Vals ys its') (hz:ys.length<=sizeLine) :
  Inv X pins σ (upd H l (.lst ys)) { s with heap:=s.heap.update l (Obj.mapSeq f),toks:=t' }:=by
 have q:=PySem.IsL.update e f;rw[hf] at q;refine I.write (x:=l) (e:=l) (by rw[hH];exact trivial) (.inl rfl) (λb' u hb hu=>(Heap.get?_update_other s.heap (Obj.mapSeq f) (Ne.symm hb)).trans hu) ⟨_,q⟩ ?_;exact⟨hz,its',_,hv,q⟩
theorem Inv.lnew(I:Inv X pins σ H s)(hv:Vals ys its)(hz:ys.length<=sizeLine):
  Inv X pins σ (upd H s.heap.objs.size (.lst ys)) { s with heap:=s.heap.push { cls:=.type "list",data:=.seq its.toArray },toks:=t' }:=
 I.laid (λ_ _ q=>AAC _ q) (AAF _) ⟨hz,its,0,hv,AAD _ rfl⟩
theorem Inv.fresh(I:Inv X pins σ H s):H s.heap.objs.size=none:=I.hok.fresh (AAF _)
theorem Inv.lstM(I:Inv X pins σ H s)(hH:H l=some (.lst xs)):xs.length<=sizeLine/\∃(its:List Value) (n:Nat),Vals xs its/\xs.length=its.length/\s.heap.get? l=some { cls:=.type "list",data:=.seq its.toArray n }:=by
 obtain⟨z,its,n,r,e⟩:=I.hok l _ hH;exact⟨z,its,n,r,r.length,e⟩
theorem MS(h:n<=sizeLine):Builtin.List.listTooLong n=false:=by
 unfold Builtin.List.listTooLong;exact AAO (by omega)
end
section
variable{X:Cx}
noncomputable def VE:V->List V->Hp->VK->Prop:=λx vs H Q=>∃l xs y,x=.ref l/\vs=[y]/\H l=some (.lst xs)/\xs.length<sizeLine/\Q .non (upd H l (.lst (xs++[y])))
theorem QQ:MtM X "list.append" VE:=by
 intro pins s σ H x vs v us Q I rx rv h;obtain⟨l,xs,y,rfl,rfl,hH,hz,q⟩:=h;cases rx;obtain⟨u,rfl,ru⟩:=rv.one;obtain⟨z,its,n,r,hl,e⟩:=I.lstM hH;refine call_meets F.slot_list_append ⟨_,e,rfl⟩ F.entry_list_append (F.args_list_append_2 _ _) (PySem.list_append l its.toArray n u (by rw[List.size_toArray];omega)) ⟨e,?_⟩;refine⟨.non,_,I.lset (its':=its++[u]) hH e (by simp) (r.append (.cons ru .nil)) ?_,rfl,q⟩;rw[AAH,List.length_singleton];omega
noncomputable def VD:V->List V->Hp->VK->Prop:=λx vs H Q=>∃l b xs zs,x=.ref l/\vs=[.ref b]/\H l=some (.lst xs)/\H b=some (.lst zs)/\xs.length+zs.length<=sizeLine/\Q .non (upd H l (.lst (xs++zs)))
theorem QP:MtM X "list.extend" VD:=by
 intro pins s σ H x vs v us Q I rx rv h;obtain⟨l,b,xs,zs,rfl,rfl,hH,hB,hz,q⟩:=h;cases rx;obtain⟨u,rfl,ru⟩:=rv.one;cases ru;obtain⟨z,its,n,r,hl,e⟩:=I.lstM hH;obtain⟨z2,its2,n2,r2,hl2,e2⟩:=I.lstM hB;have hsz:its.toArray.size+its2.toArray.size<=sizeLine:=by rw[List.size_toArray,List.size_toArray];omega
 have hlong:¬(!its.toArray.isEmpty&&Builtin.List.listTooLong (its.toArray.size+its2.toArray.size))=true:=by
  rw[MS hsz,Bool.and_false];exact AAi
 refine call_meets F.slot_list_extend ⟨_,e,rfl⟩ F.entry_list_extend (F.args_list_extend_2 _ _)
  (AutoSeq1.list_extend_list_list_0 l its.toArray n b its2.toArray n2 hlong (by rw[List.size_toArray];omega) (by omega)) ⟨e,e2,?_⟩
 refine⟨.non,_,I.lset (its':=its++its2) hH e (by simp) (r.append r2) ?_,rfl,q⟩;rw[AAH];omega
noncomputable def aR:V->List V->Hp->VK->Prop:=λx vs H Q=>∃l xs y,x=.ref l/\vs=[]/\H l=some (.lst xs)/\xs[xs.length-1]?=some y/\Q y (upd H l (.lst xs.dropLast))
theorem YB:MtM X "list.pop" aR:=by
 intro pins s σ H x vs v us Q I rx rv h;obtain⟨l,xs,y,rfl,rfl,hH,hy,q⟩:=h;cases rx;have hus:=rv.zero;subst hus;obtain⟨z,its,n,r,hl,e⟩:=I.lstM hH;obtain⟨u,hu,ru⟩:=r.get hy;have hy':its.toArray[its.toArray.size-1]?=some u:=by
  show its.toArray[its.length-1]?=some u;rw[←Array.getElem?_toList,←hl];exact hu
 refine call_meets F.slot_list_pop ⟨_,e,rfl⟩ F.entry_list_pop (F.args_list_pop_1 _) (MeetsSeq.list_pop_last l its.toArray n u hy' (by rw[List.size_toArray];omega)) ⟨e,?_⟩;refine⟨y,_,I.lset (its':=its.dropLast) hH e ?_ r.dropLast ?_,ru,q⟩
 ·show its.toArray.eraseIdxIfInBounds (its.toArray.size-1)=its.dropLast.toArray;rw[List.size_toArray,List.eraseIdxIfInBounds_toArray,N4]
 ·rw[List.length_dropLast];omega
noncomputable def aU:R2:=λx y H Q=>∃l b xs zs,x=.ref l/\y=.ref b/\H l=some (.lst xs)/\H b=some (.lst zs)/\xs.length+zs.length<=sizeLine/\∀p,H p=none->Q (.ref p) (upd H p (.lst (xs++zs)))
theorem X6:OpR X (binaryOp .Add) aU:=by
 intro pins s σ H x y v u Q I rx ry h;obtain⟨l,b,xs,zs,rfl,rfl,hH,hB,hz,q⟩:=h;cases rx;cases ry;obtain⟨z,its,n,r,hl,e⟩:=I.lstM hH;obtain⟨z2,its2,n2,r2,hl2,e2⟩:=I.lstM hB;refine PySem.P.add_list e e2 ?_ (by rw[List.size_toArray,List.size_toArray];omega);have ea:its.toArray++its2.toArray=(its++its2).toArray:=by simp
 rw[ea];exact⟨.ref _,_,I.lnew (t':=s.toks) (r.append r2) (by rw[AAH];omega),rfl,q _ I.fresh⟩
noncomputable def aQ:R2:=λx y H Q=>∃l k xs,x=.ref l/\y=.int k/\H l=some (.lst xs)/\-(2 ^ 63)<=k/\k<2 ^ 63/\xs.length * k.toNat<=sizeLine /\
 ∀p,H p=none->Q (.ref p) (upd H p (.lst (List.replicate k.toNat xs).flatten))
theorem O8(xs:List α)(k:Nat):(List.replicate k xs).flatten.length=k * xs.length:=by
 induction k with
 |zero=>simp
 |succ k ih=>rw[AAn,List.flatten_cons,AAH,ih,Nat.succ_mul,Nat.add_comm]
theorem Xz:OpR X (binaryOp .Mult) aQ:=by
 intro pins s σ H x y v u Q I rx ry h;obtain⟨l,k,xs,rfl,rfl,hH,h1,h2,hz,q⟩:=h;cases rx;obtain⟨t,rfl⟩:=ry;obtain⟨z,its,n,r,hl,e⟩:=I.lstM hH;have hlen:its.toArray.size * k.toNat<=sizeLine:=by rw[List.size_toArray,←hl];exact hz
 have hcap:¬its.toArray.size * k.toNat > (2 ^ 63-1) / 8:=by
  have:(sizeLine:Nat)<=(2 ^ 63-1) / 8:=by decide
  omega
 have hfit:¬(!Builtin.List.listFitsIndex k)=true:=by
  rw[fitsIndex_both h1 h2];exact AAi
 have hlong:¬Builtin.List.listTooLong (its.toArray.size * k.toNat)=true:=by
  rw[MS hlen];exact AAi
 have hnew:List.foldl (λx1 x2=>x1++x2) #[] (List.replicate (if its.toArray.isEmpty=true then 0 else k.toNat) its.toArray)=(List.replicate k.toNat its).flatten.toArray:=by
  have f0:∀m:Nat,List.foldl (λx1 x2=>x1++x2) #[] (List.replicate m its.toArray)=(List.replicate m its).flatten.toArray:=λm=>by
   have:=Kb its m [];rw[List.nil_append] at this;exact this
  rw[f0];cases its with
  |nil=>simp
  |cons a r'=>rw[if_neg (by simp)]
 refine wpAny_binaryOp_repeat_ref (T := "list") (U := "int") (by decide) ⟨_,e,rfl⟩ (λs'=>typeIs_int s' k t) noFill_list_mul F.fills_int_mul F.slot_int_rmul repeat_list F.slot_int_index.lookup
  (call_meets F.slot_int_rmul (typeIs_int s k t) F.entry_int_rmul (F.args_int_rmul_2 _ _) (int___rmul___int_list k t l its.toArray n)
   ⟨e,rfl,⟨_,e,rfl⟩,call_meets F.slot_list_mul ⟨_,e,rfl⟩ F.entry_list_mul (F.args_list_mul_2 _ _) (AutoListH.list___mul___list_int_3 l its.toArray n k t hfit hcap hlong) ⟨e,?_⟩⟩)
 rw[hnew];exact⟨.ref _,_,I.lnew (t':=s.toks) (r.rep k.toNat) (by rw[O8,Nat.mul_comm];exact hz),rfl,q _ I.fresh⟩
end
section
variable{κ:Type}[DecidableEq κ]
noncomputable def Fp(kvs:List (κ×V))(k:κ):Option V:=(kvs.find? λkv=>decide (kv.1=k)).map (·.2)
noncomputable def DD(kvs:List (κ×V))(k:κ)(v:V):List (κ×V):=
 if (kvs.any λkv=>decide (kv.1=k))=true then kvs.map (λkv=>if kv.1=k then (kv.1,v) else kv) else kvs++[(k,v)]
theorem IS{p:κ×V}{r:List (κ×V)}{k:κ}(e:p.1=k):Fp (p::r) k=some p.2:=by simp[Fp,List.find?_cons,e]
theorem IT{p:κ×V}{r:List (κ×V)}{k:κ}(e:¬p.1=k):Fp (p::r) k=Fp r k:=by simp[Fp,List.find?_cons,e]
theorem Lw(k:κ):∀kvs:List (κ×V),(kvs.any λkv=>decide (kv.1=k))=(Fp kvs k).isSome
 |[]=>rfl
 |p::r=>by
  rw[List.any_cons];by_cases e:p.1=k
  ·simp only[IS e,AAP e,Bool.true_or,Option.isSome_some]
  ·rw[IT e,AAO e,Bool.false_or];exact Lw k r
theorem Es(kvs:List (κ×V))(k:κ)(v:V):(DD kvs k v).length<=kvs.length+1:=by
 unfold DD;split
 ·rw[AAG];omega
 ·rw[AAH,AAI,List.length_nil];omega
theorem RelO.isSome_eq(r:RelO o u):o.isSome=u.isSome:=by
 cases o with
 |none=>cases u with
  |none=>rfl
  |some _=>exact(show False from r).elim
 |some _=>cases u with
  |none=>exact(show False from r).elim
  |some _=>rfl
theorem KV.val{kvs:List (κ×V)}{vs:List (κ×Value)}(r:KV kvs vs)(k:κ):RelO (Fp kvs k) (valueAt vs k):=by
 unfold KV at r
 induction r with
 |nil=>exact True.intro
 |@cons p q ps qs h t ih=>
  obtain⟨h1,h2⟩:=h;by_cases e:p.1=k
  ·have e':q.1=k:=h1.symm.trans e;have b:valueAt (q::qs) k=some q.2:=by simp[valueAt,List.find?_cons,e']
   rw[IS e,b];exact h2
  ·have e':¬q.1=k:=λz=>e (h1.trans z);have b:valueAt (q::qs) k=valueAt qs k:=by simp[valueAt,List.find?_cons,e']
   rw[IT e,b];exact ih
theorem KV.any(r:KV kvs vs)(k:κ):(kvs.any λkv=>decide (kv.1=k))=vs.any λkv=>decide (kv.1=k):=by
 unfold KV at r
 induction r with
 |nil=>rfl
 |cons h t ih=>rw[List.any_cons,List.any_cons,ih,h.1]
theorem KV.repl(r:KV kvs vs)(k:κ)(ry:RelV y u):
  KV (kvs.map λkv=>if kv.1=k then (kv.1,y) else kv) (vs.map λkv=>if kv.1=k then (kv.1,u) else kv):=by
 unfold KV at r ⊢
 induction r with
 |nil=>exact .nil
 |@cons p q ps qs h t ih=>
  rw[AAX,AAX];refine .cons ?_ ih;obtain⟨h1,h2⟩:=h;by_cases e:p.1=k
  ·rw[if_pos e,if_pos (h1.symm.trans e)];exact⟨h1,ry⟩
  ·rw[if_neg e,if_neg (λz=>e (h1.trans z))];exact⟨h1,h2⟩
theorem KV.put(r:KV kvs vs)(k:κ)(ry:RelV y u):KV (DD kvs k y) (stored vs k u):=by
 unfold DD stored;rw[r.any k];by_cases e:(vs.any λkv=>decide (kv.1=k))=true
 ·rw[if_pos e,if_pos e];exact r.repl k ry
 ·rw[if_neg e,if_neg e];exact Paired.snoc r ⟨rfl,ry⟩
theorem KV.length(r:KV kvs vs):kvs.length=vs.length:=Paired.length r
end
theorem Mj(r:RelV (kV k) u):(A9 P w).is k u=true:=by
 cases k with
 |inl i=>obtain⟨t,e⟩:=(show ∃t,u=Value.int i t from r);subst e;exact MW P w i t
 |inr x=>obtain⟨t,e⟩:=(show ∃t,u=Value.str x t from r);subst e;exact MV P w x t
theorem KS:∀{ks:List Key} {us:List Value},Vals (ks.map kV) us->ItemsAre (A9 P w) ks us
 |[],_,r=>by rw[List.map_nil] at r;cases r;exact .nil
 |k::ks,_,r=>by
  rw[AAX] at r;cases r with
  |cons h t=>exact .cons (Mj h) (KS t)
noncomputable abbrev KT(H:Hp):List (List Key×V)->List (List Key×Addr×Value)->Prop:=Paired λp q=>p.1=q.1/\H q.2.1=some (.tup (p.1.map kV))/\RelV p.2 q.2.2
theorem KT.val{H:Hp}{kvs:List (List Key×V)}{xs:List (List Key×Addr×Value)}(r:KT H kvs xs)(k:List Key):RelO (Fp kvs k) ((atKey xs k).map (·.2)):=by
 induction r with
 |nil=>exact True.intro
 |@cons p q ps qs h t ih=>
  obtain⟨h1,_,h2⟩:=h;by_cases e:p.1=k
  ·have e':q.1=k:=h1.symm.trans e;have b:atKey (q::qs) k=some q.2:=by simp[atKey,List.find?_cons,e']
   rw[IS e,b];exact h2
  ·have e':¬q.1=k:=λz=>e (h1.trans z);have b:atKey (q::qs) k=atKey qs k:=by simp[atKey,List.find?_cons,e']
   rw[IT e,b];exact ih
theorem KT.repl(r:KT H kvs xs)(k:List Key)(ry:RelV y u):
  KT H (kvs.map λkv=>if kv.1=k then (kv.1,y) else kv) (xs.map (putAt k u)):=by
 induction r with
 |nil=>exact .nil
 |@cons p q ps qs h t ih=>
  rw[AAX,AAX];refine .cons ?_ ih;obtain⟨h1,h2,h3⟩:=h;unfold putAt;by_cases e:p.1=k
  ·rw[if_pos e,if_pos (h1.symm.trans e)];exact⟨h1,h2,ry⟩
  ·rw[if_neg e,if_neg (λz=>e (h1.trans z))];exact⟨h1,h2,h3⟩
theorem KT.put(r:KT H kvs xs)(k:List Key)(hb:H b=some (.tup (k.map kV)))(ry:RelV y u):
  KT H (DD kvs k y) (storedH xs k b u):=by
 have e:(kvs.any λkv=>decide (kv.1=k))=(atKey xs k).isSome:=by
  rw[Lw,(r.val k).isSome_eq,Option.isSome_map]
 unfold DD storedH;rw[e];by_cases q:(atKey xs k).isSome=true
 ·rw[if_pos q,if_pos q];exact r.repl k ry
 ·rw[if_neg q,if_neg q];exact Paired.snoc r ⟨rfl,hb,ry⟩
theorem KT.keeps(r:KT H kvs xs)(ht:∀b ys,H b=some (.tup ys)->H' b=some (.tup ys)):KT H' kvs xs:=
 Paired.mapP r λ_ _ z=>⟨z.1,ht _ _ z.2.1,z.2.2⟩
section
variable{P:Program}{w:World}{H:Hp}{h:Heap}{a:Addr}
theorem WK(ok:HOk P w H h)(e:Rd H a u):ObjOk P w H h a u:=e.ok ok
theorem PR(ok:HOk P w H h)(e:Rd H a (.dK kvs)):kvs.length<=sizeLine/\(a==sysModules)=false/\∃vs,KV kvs vs/\h.DictOf (A9 P w) a vs:=
 show ObjOk P w H h a (.dK kvs) from WK ok e
theorem PU(ok:HOk P w H h)(e:H a=some (.dK kvs)):kvs.length<=sizeLine/\(a==sysModules)=false/\∃vs,KV kvs vs/\h.DictOf (A9 P w) a vs:=PR ok (.inl e)
theorem Nt(ok:HOk P w H h)(e:H a=some (.tup (ks.map kV))):(tupleKind (A9 P w)).is h ks a:=by
 obtain⟨_,its,r,o,h1,h2,n,h3⟩:=(show ObjOk P w H h a (.tup (ks.map kV)) from ok a _ e);exact⟨o,its.toArray,n,h1,h2,h3,by simpa using KS r⟩
theorem Tl(ok:HOk P w H h)(e:Rd H a (.dT kvs)):kvs.length<=sizeLine/\(a==sysModules)=false /\
  ∃xs,KT H kvs xs/\h.DictOfH (tupleKind (A9 P w)) a xs:=by
 obtain⟨z,y,xs,r,o,es,ep,h1,h2,h3,h4,h5⟩:=(show ObjOk P w H h a (.dT kvs) from WK ok e);refine⟨z,y,xs,r,o,es,ep,h1,h2,h3,h4,λx hx=>?_,h5⟩;have all:∀{l:List (List Key×V)} {m:List (List Key×Addr×Value)},KT H l m->∀x∈m,(tupleKind (A9 P w)).is h x.1 x.2.1:=by
  intro l m q
  induction q with
  |nil=>intro x hx;exact nomatch hx
  |@cons p q ps qs hq t ih=>
   intro x hx;rcases AAJ.mp hx with e|hx
   ·subst e;exact Nt ok (by rw[←hq.1];exact hq.2.1)
   ·exact ih x hx
 exact all r x hx
theorem Zm(ok:HOk P w H h)(e:H a=some (.dT kvs)):kvs.length<=sizeLine/\(a==sysModules)=false /\
  ∃xs,KT H kvs xs/\h.DictOfH (tupleKind (A9 P w)) a xs:=Tl ok (.inl e)
end
def DGet(H:Hp)(a:Addr)(y:V)(r:Option V):Prop:=
 (∃kvs k,Rd H a (.dK kvs)/\y=kV k/\r=Fp kvs k)∨∃kvs k b,Rd H a (.dT kvs)/\y=.ref b/\H b=some (.tup (k.map kV))/\r=Fp kvs k
def DPut(H:Hp)(a:Addr)(y v:V)(H':Hp):Prop:=
 (∃kvs k,H a=some (.dK kvs)/\y=kV k/\kvs.length<sizeLine/\H'=upd H a (.dK (DD kvs k v))) ∨
 ∃kvs k b,H a=some (.dT kvs)/\y=.ref b/\H b=some (.tup (k.map kV))/\kvs.length<sizeLine/\H'=upd H a (.dT (DD kvs k v))
theorem DGet.k{H:Hp}{a:Addr}{kvs:List (Key×V)}{k:Key}(e:H a=some (.dK kvs)):DGet H a (kV k) (Fp kvs k):=.inl ⟨kvs,k,.inl e,rfl,rfl⟩
theorem DPut.k{H:Hp}{a:Addr}{kvs:List (Key×V)}{k:Key}{v:V}(e:H a=some (.dK kvs))(hl:kvs.length<sizeLine):DPut H a (kV k) v (upd H a (.dK (DD kvs k v))):=.inl ⟨kvs,k,e,rfl,hl,rfl⟩
section
variable{X:Cx}{pins:List (Addr×Obj)}{σ:St}{H:Hp}{s:Shared}{a:Addr}{y v:V}{u r:Value}{o:Option V}{A:Around}{E:Value->Shared->Prop}
theorem Inv.big(I:Inv X pins σ H s):sysModules<s.heap.objs.size:=by
 have h:mainGlobals<s.heap.objs.size:=(I.mod.glob.keeps I.bk).lt;exact Nat.lt_trans (by decide) h
theorem Qk(hu:A.units+1<cLine)(I:Inv X pins σ H s)(g:DGet H a y (some v))(ry:RelV y u)(h:∀w' s',Inv X pins σ H s'->RelV v w'->Q w' s'):
  wpAny (model X.prog X.w) A (getItem (.ref a) u) Q E s:=by
 rcases g with ⟨kvs,k,e,ey,l⟩|⟨kvs,k,b,e,ey,eb,l⟩
 ·subst ey;obtain⟨z,hd,vs,rel,dd⟩:=PR I.hok e;obtain⟨w',hw,rw'⟩:=RelO.some_of (v:=v) (o:=valueAt vs k) (by rw[l];exact rel.val k);exact wpAny_getItem_of (Mj ry) dd.mapOf hw (h w' _ (I.tok _) rw')
 ·subst ey;cases (show u=Value.ref b from ry);obtain⟨z,hd,xs,rel,dd⟩:=Tl I.hok e;obtain⟨w',hw,rw'⟩:=RelO.some_of (v:=v) (o:=(atKey xs k).map (·.2)) (by rw[l];exact rel.val k);obtain⟨p,hp,hp2⟩:=Option.map_eq_some_iff.mp hw;refine wpAny_getItem_heap (tupleKind_room_in1 hu) (Nt I.hok eb) dd hp ?_;rw[hp2];exact h w' _ (I.tok _) rw'
theorem IH(I:Inv X pins σ H s)(mu:Mut (H a))(hs:Heap.SameBut a s.heap h')(he:∃q,h'.get? a=some q)(new:ObjOk X.prog X.w (upd H a ob) h' a ob):
  Inv X pins σ (upd H a ob) { s with heap:=h',toks:=t' }:=
 I.write (x:=a) (e:=a) mu (.inl rfl) (λb q hb z=>(hs.2 b hb).trans z) he new
theorem LW(z:kvs.length<=sizeLine)(hd:(a==sysModules)=false)(rel:KV kvs vs)(dd:h'.DictOf (A9 P w) a vs):
  ObjOk P w H' h' a (.dK kvs):=⟨z,hd,vs,rel,dd⟩
theorem Qj(hu:A.units+1<cLine)(I:Inv X pins σ H s)(g:DPut H a y v H')(ry:RelV y u)(rv:RelV v r)(h:∀s',Inv X pins σ H' s'->Q () s'):
  wpAny (model X.prog X.w) A (setItem (.ref a) u r) Q E s:=by
 rcases g with ⟨kvs,k,e,ey,l,eH⟩|⟨kvs,k,b,e,ey,eb,l,eH⟩
 ·subst ey eH;obtain⟨z,hd,vs,rel,dd⟩:=PU I.hok e;have hz:vs.length<=sizeLine:=by rw[←rel.length];exact z
  have hl:(DD kvs k v).length<=sizeLine:=by have:=Es kvs k v;omega
  refine wpAny_setItem_pairs (hsz:=hz) (Mj ry) dd λh' dd' hs=>h _ ?_;have he:∃q,h'.get? a=some q:=let ⟨q,_,_,hq,_⟩:=dd';⟨q,hq⟩
  exact IH I (by rw[e];exact True.intro) hs he (LW hl hd (rel.put k rv) dd')
 ·subst ey eH;cases (show u=Value.ref b from ry);obtain⟨z,hd,xs,rel,dd⟩:=Zm I.hok e;have hz:xs.length<=sizeLine:=by rw[←Paired.length rel];exact z
  have hl:(DD kvs k v).length<=sizeLine:=by have:=Es kvs k v;omega
  refine wpAny_setItem_heap (hsz:=hz) (tupleKind_room_in1 hu) (Nt I.hok eb) dd λh' dd' hs=>h _ ?_;obtain⟨q,es,ep,hq,h2,h3,h4,_,h5⟩:=dd';refine IH I (by rw[e];exact True.intro) hs ⟨q,hq⟩ ⟨hl,hd,_,(rel.put k eb rv).keeps λc ys ec=>?_,q,es,ep,hq,h2,h3,h4,h5⟩;rw[A1 (Zb ec e (λz=>nomatch z))];exact ec
end
def Qu(i:Expr):Prop:=∀ov iv,subscripted i false ov iv=operate [ov,iv] (getItem ov iv)
theorem K8{prog:Program}{w:World}{A:Around}{E:Value->Shared->Prop}{s:Shared}{env:Env}{value slice:Expr}{pos:Pos}{T id:String}{Q:Value->Shared->Prop}
  (hl:typeLookup (.type T) "__getitem__" = pure (some (.builtin id))) (hs:Qu slice)
  (h:wpAny (model prog w) A (eval value env) (λo s₁=>wpAny (model prog w) A (eval slice env) (λi s₂=>s₂.TypeIs o T/\wpAny (model prog w) A (getItem o i) Q E s₂) E s₁) E s) :
  wpAny (model prog w) A (eval (.Subscript value slice pos) env) Q E s:=by
 refine Subscript_ (AAl h (λo s₁ h₁=>AAl h₁ (λi s₂ h₂=>?_) λ_ _ x=>x) λ_ _ x=>x);obtain⟨hT,h₂⟩:=h₂;unfold subscriptTail;refine AAA ?_;rw[getitemInPython_of_ne hT.not_modules];refine AAA (wpAny_specialOf hT hl ?_);have fin:wpAny (model prog w) A (subscripted slice false o i) (λr s₃=>wpAny (model prog w) A (letTemporaryGo value o r >>= λ_=>pure r) Q E s₃) E s₂:=by
  rw[hs o i];exact wpAny_operating (AAl h₂ (λr s₃ h₃=>AAA (wpAny_letTemporaryGo (AAB h₃))) λ_ _ x=>x)
 first
  |exact AAB (AAA fin)
  |exact AAA (AAB (AAA fin))
  |exact AAA fin
theorem Mz(I:Inv X pins σ H s)(g:DGet H a y o):s.TypeIs (.ref a) "dict" := by
 rcases g with ⟨kvs,k,e,_,_⟩|⟨kvs,k,b,e,_,_,_⟩
 ·obtain⟨_,_,vs,_,dd⟩:=PR I.hok e;exact dd.typeIs
 ·obtain⟨_,_,xs,_,dd⟩:=Tl I.hok e;exact dd.typeIs
noncomputable def Y0(td ty:TE):TE:=λσ H Q=>td σ H λx H1=>ty σ H1 λy H2=>∃a v,x=.ref a/\DGet H2 a y (some v)/\Q v H2
noncomputable def Y7(td ty tv:TE):TS:=λD σ H=>tv σ H λv H1=>td σ H1 λx H2=>ty σ H2 λy H3=>∃a H4,x=.ref a/\DPut H3 a y v H4/\D.nx σ H4
section
variable{X:Cx}{o i value:Expr}{pos pos':Pos}{td ty tv:TE}
theorem VZ(hu:X.A.units+1<cLine)(ho:PE X o td)(hi:PE X i ty)(hs:Qu i):PE X (.Subscript o i pos) (Y0 td ty):=by
 intro pins s σ H Q I h;refine K8 PySem.F.slot_dict_getitem.lookup hs (thn (ho pins s σ H _ I h) λu s1 ⟨x,H1,I1,rx,q1⟩=>thn (hi pins s1 σ H1 _ I1 q1) λiv s2 ⟨y,H2,I2,ry,a,v,ex,g,q2⟩=>?_);subst ex;obtain rfl:u=Value.ref a:=rx;exact⟨Mz I2 g,Qk hu I2 g ry λw' s3 I3 rw'=>⟨v,H2,I3,rw',q2⟩⟩
theorem VN(hu:X.A.units+1<cLine)(ho:PE X o td)(hi:PE X i ty)(hv:PE X value tv)(hs:swapsWith value (some (.Subscript o i pos')) pos.line X.env=pure false):
  PS X (.Assign [.Subscript o i pos'] value pos) (Y7 td ty tv):=by
 intro pins s σ H D I h;refine wpAny_Assign_Subscript (thn (hv pins s σ H _ I h) λr s1 ⟨v,H1,I1,rv,q1⟩=>thn (ho pins s1 σ H1 _ I1 q1) λu s2 ⟨x,H2,I2,rx,q2⟩=>thn (hi pins s2 σ H2 _ I2 q2) λiv s3 ⟨y,H3,I3,ry,a,H4,ex,g,q3⟩=>?_) hs;subst ex;obtain rfl:u=Value.ref a:=rx;exact Qj hu I3 g ry rv λs4 I4=>⟨σ,H4,I4,q3⟩
end
theorem Mx(h:Heap)(hb:sysModules<h.objs.size):ObjOk P w H (h.push { cls:=.type "dict",data:=.dict #[] }) h.objs.size (.dK []):=
 ⟨AAm _,AAg.mpr (Ne.symm (AAf hb)),[],.nil,Heap.DictOf.new h⟩
noncomputable def XJ:TE:=λ_ H Q=>∀p,H p=none->Q (.ref p) (upd H p (.dK []))
section
variable{X:Cx}{pos:Pos}
theorem Sy:PE X (.Dict [] [] pos) XJ:=λpins s σ H Q I h=>
 wpAny_Dict_empty ⟨.ref s.heap.objs.size,_,I.laid (a:=s.heap.objs.size) (o:=.dK []) (t':=s.toks) (λ_ _ q=>AAC _ q) (AAF _) (Mx s.heap I.big),rfl,h _ (I.hok.fresh (AAF _))⟩
end
noncomputable def K7:List (TE×TE)->St->Hp->(List (V×V)->Hp->Prop)->Prop
 |[],_,H,Q=>Q [] H
 |(tk,tv)::r,σ,H,Q=>tk σ H λx H1=>tv σ H1 λy H2=>K7 r σ H2 λps H3=>Q ((x,y)::ps) H3
noncomputable abbrev VV:List (V×V)->List (Value×Value)->Prop:=Paired λp q=>RelV p.1 q.1/\RelV p.2 q.2
def PPs(X:Cx)(pos:Pos)(keys:List (Option Expr))(values:List Expr)(trs:List (TE×TE)):Prop:=
 ∀(pins:List (Addr×Obj)) (s:Shared) (σ:St) (H:Hp) (Q:List (V×V)->Hp->Prop),Inv X pins σ H s->K7 trs σ H Q->
  wpAny (model X.prog X.w) X.A (evalPairs (pairTrees keys values X.env pos)) (λvs s'=>∃ps H',Inv X pins σ H' s'/\VV ps vs/\Q ps H') X.xe s
theorem VO:PPs X pos [] [] []:=λpins s σ H Q I h=>pairTrees_nil_walk ⟨[],H,I,.nil,h⟩
theorem Sh(hk:PE X k tk)(hv:PE X v tv)(hr:PPs X pos ks vs trs):
  PPs X pos (some k::ks) (v::vs) ((tk,tv)::trs):=λpins s σ H Q I h=>
 pairTrees_cons_walk (thn (hk pins s σ H _ I h) λu s1 ⟨x,H1,I1,rx,q1⟩=>thn (hv pins s1 σ H1 _ I1 q1) λw2 s2 ⟨y,H2,I2,ry,q2⟩=>
  thn (hr pins s2 σ H2 _ I2 q2) λws s3 ⟨ps,H3,I3,rel,q3⟩=>⟨(x,y)::ps,H3,I3,.cons ⟨rx,ry⟩ rel,q3⟩)
noncomputable def C5(kvs more:List (Key×V)):List (Key×V):=more.foldl (λacc kv=>DD acc kv.1 kv.2) kvs
theorem KV.merge:∀{more:List (Key×V)} {rs:List (Key×Value)} {kvs:List (Key×V)} {vs:List (Key×Value)},KV more rs->KV kvs vs->KV (C5 kvs more) (merged vs rs):=by
 intro more rs kvs vs r;unfold KV at r
 induction r generalizing kvs vs with
 |nil=>intro q;exact q
 |@cons p q ps qs h t ih=>
  intro r0;have e:KV (DD kvs p.1 p.2) (stored vs q.1 q.2):=by
   have:=r0.put p.1 h.2;rw[←h.1];exact this
  exact ih e
theorem DK:∀(more kvs:List (Key×V)),(C5 kvs more).length<=kvs.length+more.length
 |[],kvs=>by show kvs.length<=kvs.length+0;omega
 |p::r,kvs=>by
  have h1:=DK r (DD kvs p.1 p.2);have h2:=Es kvs p.1 p.2;show (C5 (DD kvs p.1 p.2) r).length<=_;rw[AAI];omega
theorem JT:∀{kvs:List (Key×V)} {ws:List (Value×Value)},VV (kvs.map λkv=>(kV kv.1,kv.2)) ws->∃rs,Carries (A9 P w) ws rs/\KV kvs rs
 |[],_,r=>by rw[List.map_nil] at r;cases r;exact⟨[],True.intro,.nil⟩
 |p::kvs,_,r=>by
  rw[AAX] at r;cases r with
  |@cons a b as bs h t=>
   obtain⟨rs,c,q⟩:=JT (P:=P) (w:=w) t;obtain⟨b1,b2⟩:=b;exact⟨(p.1,b2)::rs,⟨Mj h.1,rfl,c⟩,.cons ⟨rfl,h.2⟩ q⟩
noncomputable def Yz(trs:List (TE×TE)):TE:=λσ H Q=>∀p,H p=none->K7 trs σ (upd H p (.dK [])) λps H2=>H2 p=some (.dK [])/\∃kvs:List (Key×V),ps=kvs.map (λkv=>(kV kv.1,kv.2))/\kvs.length<=15/\Q (.ref p) (upd H2 p (.dK (C5 [] kvs)))
theorem VY(h:PPs X pos keys values trs)(hall:keys.all (·.isSome)=true)(hl:keys.length=values.length)(h0:keys≠[])
  (h15:keys.length<=15):PE X (.Dict keys values pos) (Yz trs):=by
 intro pins s σ H Q I q;have hn:=I.hok.fresh (AAF s.heap.objs.size);have I1:=I.laid (a:=s.heap.objs.size) (o:=.dK []) (h':=s.heap.push { cls:=.type "dict",data:=.dict #[] }) (t':=s.toks) (λ_ _ q=>AAC _ q) (AAF _) (Mx s.heap I.big);refine wpAny_Dict_walk (knd:=A9 X.prog X.w) hall hl h0 h15 (thn (h pins _ σ _ _ I1 (q _ hn)) λws s2 ⟨ps,H2,I2,rel,e,kvs,ep,lk,q2⟩=>?_);subst ep;obtain⟨rs,c,rk⟩:=JT (P:=X.prog) (w:=X.w) rel;obtain⟨z,hd,vs0,r0,dd⟩:=PU I2.hok e;cases r0;refine⟨rs,c,dd,λh' dd' hs=>⟨.ref s.heap.objs.size,_,?_,rfl,q2⟩⟩;have hz:(C5 [] kvs).length<=sizeLine:=by
  have h1:=DK kvs [];rw[List.length_nil] at h1;rw[sizeLine_eq];omega
 have he:∃q,h'.get? s.heap.objs.size=some q:=let ⟨q,_,_,hq,_⟩:=dd';⟨q,hq⟩
 exact IH I2 (by rw[e];exact True.intro) hs he (LW hz hd (rk.merge .nil) dd')
section
variable{X:Cx}{pins:List (Addr×Obj)}{σ:St}{H:Hp}{s:Shared}{a:Addr}{kvs:List (Key×V)}{A:Around}{E:Value->Shared->Prop}
theorem Tm(I:Inv X pins σ H s)(e:Rd H a (.dK kvs))(h:∀p s',H p=none->Inv X pins σ (upd H p (.dK kvs)) s'->Q (.ref p) s'):wpAny (model X.prog X.w) A (call (.type "dict") [.ref a]) Q E s:=by
 obtain⟨z,hd,vs,rel,dd⟩:=PR I.hok e;refine kt_call_dict hd dd (by rw[←rel.length];exact z) λh' dd' hs=>?_;refine h _ _ (I.hok.fresh (AAF _)) (I.laid (a:=s.heap.objs.size) (o:=.dK kvs) (t':=s.toks) (λb q hq=>?_) (AAF _) (LW z (AAg.mpr (Ne.symm (AAf I.big))) rel dd'));exact(hs.2 b (AAf (Heap.lt_size hq))).trans (AAC _ hq)
end
end L2
namespace Att
open PySem PySem.W PySem.Calls PyProof.Rows
theorem Ho:∀(ns:List Int) (vs:List Value),WellAll P h vs (ns.map WData.int)->IntsAre vs ns:=by
 intro ns
 induction ns with
 |nil=>
  intro vs w;rw[List.map_nil] at w;cases w;exact .nil
 |cons n ns ih=>
  intro vs w;rw[AAX] at w;cases w with
  |cons a b=>
   cases a;exact .cons _ _ (ih _ b)
theorem P4{l:OpenLaw}{n:Nat}(hn:l.most=some n){P:Params}{h:Heap}{args:List WData}{vals:List Value}
  (hpre:l.row.toRowW.claim.pre args=true) (hwl:WellAll P h vals args) :
  ∃a vs ns,vals=[Value.ref a]/\args=[WData.list (ns.map WData.int)]/\h.get? a=some { cls:=.type "list",data:=.seq vs.toArray }/\IntsAre vs ns/\ns.length<=n:=by
 have hsh:WShape.hasAll [] args [.list .int]=true:=(pre_splitW hpre).1;have hc:l.pre.holds [] { args:=args }=true:=(pre_splitW hpre).2;obtain⟨d,r,rfl,h1,h2⟩:=hasAllW_cons hsh;obtain rfl:=hasAllW_nil h2;obtain⟨xs,rfl,h3⟩:=hasW_list h1;obtain⟨ns,rfl⟩:=items_int h3;have hlen:ns.length<=n:=by
  unfold OpenLaw.pre at hc;have h4:(WTm.not (.lt (.lit (.int (n:Int))) (.len (.arg 0)))).holds [] { args:=[.list (ns.map .int)] }=true:=by
   have h4:=(holds_andW hc).1;rw[hn] at h4;exact h4
  have h5:=condW_of h4 (w_not (w_lt w_lit (w_len_list (w_arg rfl))));rw[AAG] at h5;refine Nat.le_of_not_lt λq=>?_;have q':(n:Int)<((ns.length:Nat):Int):=by omega
  first
   |(rw[AAP q'] at h5;exact absurd h5 (by decide))
   |(simp at h5;omega)
 cases hwl with
 |cons w1 w2=>
  cases w2;cases w1 with
  |list ho hall=>exact⟨_,_,ns,rfl,rfl,ho,Ho ns _ hall,hlen⟩
theorem QA(l:OpenLaw)(args:List WData):l.row.toRowW.claim.post args (.bool true) args=true:=
 postW_of (r:=l.row.toRowW) (X:=(true==true))
  (show WShape.has [] (.bool true) .bool=true by first|rfl|decide|simp[WShape.has,WShape.arms,WShape.armsAll])
  (show (WTm.eq .res (.lit (.bool true))).value [] { args:=args,res:=some (.bool true),after:=args }=some (.bool (true==true)) from w_eq_bool (w_res rfl) w_lit) rfl
theorem ND{l:OpenLaw}{n:Nat}{q:Program}{loose:List Str}{XP:(Str->Option Value)->Heap->Prop}{YP:World->Heap->Prop}{d:DefRec}
  (hn:l.most=some n) (hdf:d.params.defaults=[])
  (call:∀(w:World) (s₀ s₁:Shared) (mg mb:Str->Option Value) (fa:Addr) (o:Obj) (pm cd doc:Value) (a:Addr) (vs:List Value) (ns:List Int),
   Ground q loose [] XP w s₀ mg mb s₁.heap->YP w s₁.heap->
   s₁.heap.get? fa=some o->o.data=.func (docDef d.name d.params d.body d.scope pm cd doc)->s₁.heap.CodeRec cd d.name->mg d.name=some (.ref fa)->
   s₁.heap.get? a=some { cls:=.type "list",data:=.seq vs.toArray }->IntsAre vs ns->ns.length<=n->s₁.gens=#[]->
   codeAny (model l.prog w) callerA (.call (.ref fa) ⟨[.ref a],[]⟩) (λr s'=>r=.ok (.ret (.bool true))/\OldK s₁.heap s'.heap/\s'.os=s₁.os/\AllBare s'.gens) s₁) :
  WalkO q loose XP YP l.row.toRowW d [] (λf vs=>PySem.call f vs):=by
 intro w s₀ s₁ mg mb G Y fa o pm cd doc dV kV ho hd hcd hD hmg hg args vals as hpre hlay hrd hwl hlo;obtain rfl:dV=.none:=Dflts.none hD hdf;obtain rfl:kV=.none:=Dflts.noKw hD;obtain⟨a,vs,ns,rfl,rfl,hobj,hints,hlen⟩:=P4 hn hpre hwl;refine enter_call (codeAny_mono (call w s₀ s₁ mg mb fa o pm cd doc a vs ns G Y ho (fd_plain hd) hcd hmg hobj hints hlen hg) λr s' hq=>?_);obtain⟨rfl,h2,h3,h4⟩:=hq;exact⟨.inl ⟨.bool true,.bool true,[],rfl,λ_=>rfl,.bool true,QA l _,λ_=>⟨List.Pairwise.nil,λ_ hm=>(nomatch hm)⟩⟩,h2,h3,h4⟩
end Att
namespace L2
open PySem PySem.Spec PyProof.Rows
theorem Gv:∀{vs:List Value} {ns:List Int},IntsAre vs ns->Vals (ns.map V.int) vs
 |_,_,.nil=>.nil
 |_,_,.cons n t h=>.cons ⟨t,rfl⟩ (Gv h)
def V9(H:Hp):Prop:=∀b,H b=none∨∃o xs,H b=some (.frz o (.lst xs))
theorem TK{P:Program}{w:World}{K:PySem.W.Frag}{mg mb:Str->Option Value}{CX:CXT}{k:Nat}{fa a:Addr}{fd:FuncData}{x:Str}{sp:Sp}{s₁:Shared}{vs:List Value}{ns:List Int}
  (KX:K.In s₁.heap) (hns:s₁.heap.Ns mainGlobals mg) (hb:s₁.heap.Ns builtinsNs mb) (hbb:∀x:Str,x ≠ "__name__" -> mb x=bootBuiltins x) (hlim:s₁.heap.NoLimit) (hg:s₁.gens=#[])
  (ha:s₁.heap.get? a=some { cls:=.type "list",data:=.seq vs.toArray }) (hi:IntsAre vs ns) (hl:ns.length<=sizeLine) (hr:Room k callerA)
  (F:∀base:Heap,K.In base->base.Ns mainGlobals mg->FnOk P w K mg base CX k fa fd [x] sp) (hbind:∀(s:Shared) (u:Value),BindsTo s fd ⟨[u],[]⟩ [(x,u)])
  (hsp:∀H:Hp,V9 H->SqL K H a (ns.map V.int)->sp [.ref a] H (λv _=>v=.bl true) λ_ _ _=>False)
  (hCX:∀H e s',CX [] H s₁ (λ_ _ _=>False) e s'->False) :
  codeAny (model P w) callerA (.call (.ref fa) ⟨[.ref a],[]⟩) (λr s'=>r=.ok (.ret (.bool true))/\OldK s₁.heap s'.heap/\s'.os=s₁.os/\AllBare s'.gens) s₁:=by
 have rv:=Gv hi;have lenV:=hi.length;have core:∀H:Hp,V9 H->SqL K H a (ns.map V.int)->HOk P w H s₁.heap->(∀b,H b≠none->b=a)->(H a≠none->K.lookup a=none)->
   codeAny (model P w) callerA (.call (.ref fa) ⟨[.ref a],[]⟩) (λr s'=>r=.ok (.ret (.bool true))/\OldK s₁.heap s'.heap/\s'.os=s₁.os/\AllBare s'.gens) s₁:=by
  intro H hO hS hok hA hK;have base_of:∀{b:Addr} {o:Obj},s₁.heap.get? b=some o->H b=none->(LR s₁.heap H).get? b=some o:=λe n=>Td e n;have noA:∀{b:Addr} {o:Obj} {es:Array DictEntry} {ep:Nat},s₁.heap.get? b=some o->o.data=.dict es ep->H b=none:=λ{b o es ep} e d=>by
   cases q:H b with
   |none=>rfl
   |some u=>
    have e':b=a:=hA b (by rw[q];simp);subst e';rw[ha] at e;cases e;have d':Data.seq vs.toArray _=Data.dict es ep:=d;cases d'
  have nsK:∀{b:Addr} {m:Str->Option Value},s₁.heap.Ns b m->(LR s₁.heap H).Ns b m:=λ{b m} ⟨o,es,ep,e,d,r⟩=>⟨o,es,ep,base_of e (noA e d),d,r⟩;have hKb:K.In (LR s₁.heap H):=λb o e=>base_of (KX b o e) (by
   cases q:H b with
   |none=>rfl
   |some u=>
    have e':b=a:=hA b (by rw[q];simp);subst e';rw[hK (by rw[q];simp)] at e;cases e)
  have hM:Mod K mg (LR s₁.heap H):=⟨hKb,nsK hns,⟨mb,nsK hb,hbb⟩,let ⟨mc,h1,h2⟩:=hlim;⟨mc,nsK h1,h2⟩⟩;have e0:Env0 P w K mg (LR s₁.heap H) callerA [] s₁ H:=⟨rfl,hM,λb o e=>Vk e,Nat.le_of_eq (Qd _ _),trivial,λb hb=>absurd (show b∈([]:List Addr) from hb) (by simp),hok,.of_eq hg⟩;refine codeAny_mono ((F _ hKb (nsK hns)).run callerA [] s₁ H ⟨[.ref a],[]⟩ [.ref a] [.ref a] _ _ hr e0 (hbind s₁ (.ref a)) (.cons rfl .nil) (hsp H hO hS)) λr s' h=>?_;cases r with
  |error e=>exact(hCX H e s' h).elim
  |ok fl=>
   cases fl with
   |next=>exact False.elim h
   |brk=>exact False.elim h
   |cont=>exact False.elim h
   |ret u=>
    obtain⟨v,H',os,bare,un,hok',r',q⟩:=h;have q':v=.bl true:=q;subst q';obtain rfl:u=Value.bool true:=r';refine⟨rfl,OldK.of_keep λb o e=>?_,os,bare⟩;cases q:H b with
    |none=>exact un.keep b o e q (by intro z;exact absurd (show b∈([]:List Addr) from z) (by simp)) (by simp)
    |some u=>
     rcases hO b with z|⟨ob,xs,z⟩
     ·rw[q] at z;cases z
     ·have z2:=un.frzs b ob _ z;obtain⟨e1,_⟩:=hok b _ z;obtain⟨e2,_⟩:=hok' b _ z2;rw[e] at e1;cases e1;exact e2
 cases hk:K.lookup a with
 |some o=>
  have e:=KX a o hk;rw[ha] at e;cases e;refine core (λ_=>none) (λ_=>.inl rfl) (.inr ⟨_,vs.toArray,_,hk,rfl,rfl,rfl,by rw[List.size_toArray,lenV];exact hl,by simpa using rv⟩) (λb u z=>by have z':(none:Option HO)=some u:=z;cases z') (λb z=>absurd rfl z) λz=>absurd rfl z
 |none=>
  refine core (λb=>if b=a then some (.frz { cls:=.type "list",data:=.seq vs.toArray } (.lst (ns.map V.int))) else none) (λb=>?_) (.inl (.inr ⟨{ cls:=.type "list",data:=.seq vs.toArray },if_pos rfl⟩)) (λb u z=>?_) (λb z=>?_) λ_=>hk
  ·by_cases hb:b=a
   ·exact .inr ⟨_,_,if_pos hb⟩
   ·exact .inl (if_neg hb)
  ·by_cases hb:b=a
   ·have z':=(if_pos hb).symm.trans z;cases z';subst hb;exact⟨ha,by rw[AAG];exact hl,vs,_,rv,ha⟩
   ·have z':=(if_neg hb).symm.trans z;cases z'
  ·by_cases hb:b=a
   ·exact hb
   ·exact absurd (if_neg hb) z
theorem Ul{l:PySem.W.OpenLaw}{n k:Nat}{q:Program}{loose:List Str}{XP:(Str->Option Value)->Heap->Prop}{YP:World->Heap->Prop}{d:DefRec}{K:Params->PySem.W.Frag}{CX:World->CXT}{sp:World->Sp}{x:Str}
  (hn:l.most=some n) (hn2:n<=sizeLine) (hdf:d.params.defaults=[]) (hr:Room k callerA)
  (hY:∀(w:World) (h:Heap),YP w h->(K w.params).In h)
  (F:∀(w:World) (mg:Str->Option Value) (fa:Addr) (h:Heap),(K w.params).In h->h.Ns mainGlobals mg->mg d.name=some (.ref fa)->
   ∃fd:FuncData,(∀(s:Shared) (u:Value),BindsTo s fd ⟨[u],[]⟩ [(x,u)]) /\
    ∀base:Heap,(K w.params).In base->base.Ns mainGlobals mg->FnOk l.prog w (K w.params) mg base (CX w) k fa fd [x] (sp w))
  (hsp:∀(w:World) (H:Hp) (a:Addr) (ns:List Int),ns.length<=n->V9 H->SqL (K w.params) H a (ns.map V.int)->sp w [.ref a] H (λv _=>v=.bl true) λ_ _ _=>False)
  (hCX:∀(w:World) (H:Hp) (s:Shared) (e:Value) (s':Shared),CX w [] H s (λ_ _ _=>False) e s'->False) :
  PySem.W.WalkO q loose XP YP l.row.toRowW d [] (λf vs=>PySem.call f vs):=by
 refine Att.ND hn hdf λw s₀ s₁ mg mb fa o pm cd doc a vs ns G Y ho hd hcd hmg hobj hints hlen hg=>?_;have KX:=hY w _ Y;obtain⟨fd,hb,hF⟩:=F w mg fa _ KX G.T.g hmg;exact TK KX G.T.g G.T.b G.T.builtins G.T.nolimit hg hobj hints (AAu hlen hn2) hr hF hb (λH hO hS=>hsp w H a ns hlen hO hS) λH e s'=>hCX w H s₁ e s'
noncomputable def EB(s:Stmt):Arguments:=match s with
 | .FunctionDef _ a _ _ _ _ _ _ _ _=>a
 |_=>{ posonlyargs:=[],args:=[],vararg:=none,kwonlyargs:=[],kw_defaults:=[],kwarg:=none,defaults:=[] }
noncomputable def BY(s:Stmt):List Stmt:=match s with
 | .FunctionDef _ _ b _ _ _ _ _ _ _=>b
 |_=>[]
noncomputable def AR(s:Stmt):Scope:=match s with
 | .FunctionDef _ _ _ _ _ _ sc _ _ _=>sc
 |_=>{ kind:=.function,names:=[],isGenerator:=false,isCoroutine:=false }
noncomputable abbrev CX0:CXT:=λ_ _ _ _ _ _=>False
noncomputable abbrev E0:XK:=λ_ _ _=>False
theorem S0:HP CX0 X E0:=λ_ _ _ _ _ _ _ h=>h.elim
structure Fun(K:PySem.W.Frag)(x qual:Str)(st:Stmt)(f:Addr)(fd:FuncData):Prop where
 ex:∃(oc:Value) (od:Option Addr) (kV doc pm:Value) (an:Option Addr) (cdv ct:Value) (osl:Array (Option Value)),
  fd=PySem.W.fnOf x qual (EB st) (BY st) (AR st) .none kV doc pm an cdv ct/\K.lookup f=some ⟨oc,od,.func fd,osl⟩/\PySem.W.codeIn K cdv qual=true
 kp:PySem.W.keepIn K (.ref f)=true
section
variable{P:Program}{w:World}{K:PySem.W.Frag}{mg:Str->Option Value}{base:Heap}
theorem Fun.ok{x qual:Str}{st:Stmt}{f:Addr}{fd:FuncData}{N ps:List Str}{k:Nat}{sp:Sp}(F:Fun K x qual st f fd)(S:Ad N ps (AR st))(len:∀vs H Q E,sp vs H Q E->vs.length=ps.length)
  (hbody:∀(cdv:Value) (A:Around) (outer:List Env) (s:Shared) (H:Hp) (vs:List V) (Q:VK) (E:XK),Room k (A.deeper (envOfC qual (AR st) s.heap.objs.size f cdv))->sp vs H Q E->
   ∃t,PSs (Gf CX0 P w K mg base N qual (AR st) f cdv A outer s H E).nox (BY st) t/\t { nx:=λ_ H'=>Q .non H',rt:=Q } (start N vs) H):FnOk P w K mg base CX0 (k+1) f fd ps sp:=by
 obtain⟨oc,od,kV,doc,pm,an,cdv,ct,osl,rfl,lk,hcd⟩:=F.ex;refine Zj lk hcd S len λA outer s H vs Q E hr hsp=>?_;obtain⟨t,h,q⟩:=hbody cdv A outer s H vs Q E hr hsp;exact⟨t,h.nox,q⟩
theorem Fun.binds{x qual:Str}{st:Stmt}{f:Addr}{fd:FuncData}{ps:List Str}(F:Fun K x qual st f fd)
  (h:∀(kV doc pm:Value) (an:Option Addr) (cdv ct:Value) (us:List Value),us.length=ps.length->bindArgs (PySem.W.fnOf x qual (EB st) (BY st) (AR st) .none kV doc pm an cdv ct) ⟨us,[]⟩=pure (ps.zip us)):Binds K fd ps []:=by
 obtain⟨oc,od,kV,doc,pm,an,cdv,ct,osl,rfl,lk,hcd⟩:=F.ex;exact .all (h kV doc pm an cdv ct)
theorem N3{x qual:Str}{st:Stmt}{f:Addr}{oc:Value}{od an:Option Addr}{osl:Array (Option Value)}{kV doc pm cdv ct:Value}(l:K.lookup f=some ⟨oc,od,.func (PySem.W.fnOf x qual (EB st) (BY st) (AR st) .none kV doc pm an cdv ct),osl⟩)
  (c:PySem.W.codeIn K cdv qual=true) (k:PySem.W.keepIn K (.ref f)=true):Fun K x qual st f (PySem.W.fnOf x qual (EB st) (BY st) (AR st) .none kV doc pm an cdv ct):=⟨⟨oc,od,kV,doc,pm,an,cdv,ct,osl,rfl,l,c⟩,k⟩
end
theorem Wd(hr:Room k A):A.units+1<cLine:=AAt (Nat.add_le_add_left (by decide:1<=64) _) hr.units
theorem G0(h:n<=1000):n<sizeLine:=AAt h (by decide)
section
variable{κ:Type}[DecidableEq κ]
end
noncomputable def E8(env:Env):List (Str×NameKind)->List (Str×Addr)->List (Str×Addr)
 |[],cs=>cs
 |(n,k)::r,cs=>E8 env r (if k==.free then (match env.cells.lookup n with|some c=>(n,c)::cs|none=>cs) else cs)
theorem Cm:∀(l:List (Str×NameKind)) (cs:List (Str×Addr)),(∀x∈l,x.2=.free->∃c,env.cells.lookup x.1=some c)->
  (forIn l cs λ(x:Str×NameKind) (r:List (Str×Addr))=>(if (x.2==NameKind.free)=true then (do let a ←cellOf env x.1;pure (ForInStep.yield ((x.1,a)::r))) else pure (ForInStep.yield r):Sem (ForInStep (List (Str×Addr)))))=pure (E8 env l cs)
 |[],cs,_=>by rw[List.forIn_nil];rfl
 |(n,k)::r,cs,h=>by
  have hr:∀x∈r,x.2=.free->∃c,env.cells.lookup x.1=some c:=λx hx=>h x (AAR _ hx);rw[List.forIn_cons];by_cases hk:k=.free
  ·subst hk;obtain⟨c,hc⟩:=h (n,.free) AAQ rfl;have e:cellOf env n=pure c:=by unfold cellOf;rw[hc]
   dsimp only;rw[if_pos (by decide),e,pure_bind,pure_bind];dsimp only;rw[Cm r _ hr];show _=pure (E8 env r (if (NameKind.free==NameKind.free)=true then (match env.cells.lookup n with|some c=>(n,c)::cs|none=>cs) else cs));rw[if_pos (by decide),hc]
  ·have hb:¬(k==NameKind.free)=true:=by simpa using hk
   dsimp only;rw[if_neg hb,pure_bind];dsimp only;rw[Cm r _ hr];show _=pure (E8 env r (if (k==NameKind.free)=true then (match env.cells.lookup n with|some c=>(n,c)::cs|none=>cs) else cs));rw[if_neg hb]
theorem Dk(h:∀x∈scope.names,x.2=.free->∃c,env.cells.lookup x.1=some c):closureFor scope env=pure (E8 env scope.names []):=by
 have e:=Cm (env:=env) scope.names [] h;unfold closureFor;dsimp only;rw[←bind_pure (pure (E8 env scope.names [])),←e]
theorem E7:∀(l:List (Str×NameKind)) (cs:List (Str×Addr)),(∀x c,cs.lookup x=some c->env.cells.lookup x=some c)->∀x c,(E8 env l cs).lookup x=some c->env.cells.lookup x=some c
 |[],cs,h=>h
 |(n,k)::r,cs,h=>by
  refine E7 r _ ?_;intro x c;by_cases hk:(k==NameKind.free)=true
  ·rw[if_pos hk];cases hl:env.cells.lookup n with
   |none=>exact h x c
   |some d=>
    intro q;by_cases hx:x=n
    ·subst hx;rw[List.lookup_cons_self] at q;rw[hl];exact q
    ·have hb:(x==n)=false:=AAg.mpr hx;simp only[List.lookup_cons,hb] at q;exact h x c q
  ·rw[if_neg hk];exact h x c
theorem JS:∀(l:List (Str×NameKind)) (cs:List (Str×Addr)) (x:Str),(cs.lookup x).isSome=true->((E8 env l cs).lookup x).isSome=true
 |[],cs,x,h=>h
 |(n,k)::r,cs,x,h=>by
  refine JS r _ x ?_;by_cases hk:(k==NameKind.free)=true
  ·rw[if_pos hk];cases hl:env.cells.lookup n with
   |none=>exact h
   |some d=>
    by_cases hx:(x==n)=true
    ·simp only[List.lookup_cons,hx,Option.isSome_some]
    ·have hb:(x==n)=false:=by simpa using hx
     simp only[List.lookup_cons,hb];exact h
  ·rw[if_neg hk];exact h
theorem M5:∀(l:List (Str×NameKind)) (cs:List (Str×Addr)) (x:Str) (c:Addr),(x,NameKind.free)∈l->env.cells.lookup x=some c->((E8 env l cs).lookup x).isSome=true
 |[],cs,x,c,h,_=>by simp at h
 |(n,k)::r,cs,x,c,h,hc=>by
  rcases AAJ.mp h with e|e
  ·obtain⟨rfl,rfl⟩:=Prod.mk.inj e;refine JS r _ _ ?_;rw[if_pos (by decide),hc];simp only[List.lookup_cons_self,Option.isSome_some]
  ·exact M5 r _ x c e hc
theorem Kg(h:(x,NameKind.free)∈l)(hc:env.cells.lookup x=some c):(E8 env l []).lookup x=some c:=by
 obtain⟨d,hd⟩:=Option.isSome_iff_exists.mp (M5 l [] x c h hc);have:=E7 l [] (λ_ _ z=>by simp at z) x d hd;rw[hc] at this;cases this;exact hd
noncomputable def B5:List (Str×NameKind)->List Str
 |[]=>[]
 |(n,.free)::r=>n::B5 r
 |_::r=>B5 r
theorem Fx:∀{l:List (Str×NameKind)},x∈B5 l->(x,NameKind.free)∈l
 |[],h=>by simp[B5] at h
 |(n,k)::r,h=>by
  cases k<;>first
   |(rcases AAJ.mp (show x∈n::B5 r from h) with e|e;{subst e;exact AAQ};{exact AAR _ (Fx e)})
   |exact AAR _ (Fx (show x∈B5 r from h))
theorem Ka:∀{l:List (Str×NameKind)},(x,NameKind.free)∈l->x∈B5 l
 |[],h=>by simp at h
 |(n,k)::r,h=>by
  rcases AAJ.mp h with e|e
  ·cases e;exact AAQ
  ·have ih:=Ka e;cases k<;>first
    |exact AAR _ ih
    |exact ih
theorem Er(f:Str×NameKind->Str×NameKind)(hf:∀p,f p=p∨p.2=.free/\f p=(p.1,.cell)):∀(l:List (Str×NameKind)) (k:NameKind),(l.map f).lookup x=some k->l.lookup x=some k∨l.lookup x=some .free/\k=.cell
 |[],_,h=>nomatch h
 |(y,j)::l,k,h=>by
  have rest:=Er (x:=x) f hf l k;rw[AAX] at h;rcases hf (y,j) with e|⟨ej,e⟩<;>rw[e] at h<;>cases he:x==y<;>simp only[List.lookup_cons,he] at h ⊢
  ·exact rest h
  ·exact .inl h
  ·exact rest h
  ·cases h;cases (show j=NameKind.free from ej);exact .inr ⟨rfl,rfl⟩
theorem C2(h:(relabel scope env).names.lookup x=some k):scope.names.lookup x=some k∨scope.names.lookup x=some .free/\k=.cell:=by
 unfold relabel at h;refine Er _ (λp=>?_) _ _ h;obtain⟨n,j⟩:=p;dsimp only;split
 ·rename_i hc;refine .inr ⟨?_,rfl⟩;simp only[Bool.and_eq_true,beq_iff_eq] at hc;exact hc.1.1
 ·exact .inl rfl
noncomputable def KG(ix:List Nat)(σ:St):St:=ix.map λj=>(σ[j]?).getD none
noncomputable def cxB(X:Cx)(scope:Scope)(tgs:List Str)(fp:List Addr)(C:Addr)(s:Shared)(H:Hp):Cx:=
 { X with N:=tgs++B5 scope.names,s₀:=s,H₀:=H,env:=compEnvC scope (E8 X.env scope.names []) C X.env,outer:=X.stack,ex:=fp,fn:=λ_=>false,pn:=[],xe:=λ_ _=>False }
noncomputable def Yg{α:Type}(P:α->Prop):List α->Prop
 |[]=>True
 |x::r=>P x/\Yg P r
theorem Ja:∀{l:List α},Yg P l->∀x∈l,P x
 |[],_,_,h=>by simp at h
 |_::_,h,x,hx=>by
  rcases AAJ.mp hx with e|e
  ·subst e;exact h.1
  ·exact Ja h.2 x e
structure BScope(X:Cx)(scope:Scope)(tgs:List Str)(ix:List Nat):Prop where
 kind:scope.kind=.function
 nocell:∀y∈scope.names,y.2≠.cell
 loc:∀y∈scope.names,y.2=.local->scope.names.lookup y.1=some .local
 fre:Yg (λx=>X.env.kindOf x=some .cell∨X.env.kindOf x=some .free) (B5 scope.names)
 ixs:(B5 scope.names).map some=ix.map λj=>X.N[j]?
 ndl:∀x∈B5 scope.names,scope.names.lookup x=some .free
section
variable{X:Cx}{scope:Scope}{tgs:List Str}{ix:List Nat}
theorem BScope.cells(S:BScope X scope tgs ix)(ok:X.Ok):∀x∈scope.names,x.2=.free->∃c,X.env.cells.lookup x.1=some c:=λx hx hk=>by
 obtain⟨n,k⟩:=x;subst hk;exact ok.has n (Ja S.fre n (Ka hx))
theorem Inv.cellLt(I:Inv X pins σ H s)(e:X.env.cells.lookup x=some c):c<s.heap.objs.size:=by
 obtain⟨v,q⟩:=I.cell x c e;exact q.lt
theorem Inv.track(I:Inv X pins σ H s)(f:GD X pins H D)(new:ObjOk X.prog X.w (upd H D o) s.heap D o):Inv X pins σ (upd H D o) s:=by
 obtain⟨f0,f1,f2,f3,f4,f5⟩:=f;have nD:∀b u,H b=some u->b≠D:=λb u e z=>by rw[z,f0] at e;cases e
 have:=I.step (h':=s.heap) (H':=upd H D o) (g':=s.gens) (t':=s.toks) (d':=s.drawn) (ch:=[D]) (λb hb=>?_) (λb u _ _ _ e _=>e) (λb u _ _ _ e _=>⟨u.slots,e⟩) (λb u hb e n=>?_) (λb u _ e=>⟨u,e⟩)
  (λb xs e=>?_) (λb u v e=>?_) (λb ps e=>?_) (λm hm=>hm) (λb u e=>?_) I.bare
 ·exact this
 ·have e:b=D:=by simpa using hb
  subst e;exact⟨f3,f1,f4,f5⟩
 ·rw[A1 (λz=>hb (by simp[z]))];exact n
 ·rw[A1 (nD b _ e)];exact e
 ·rw[A1 (nD b _ e)];exact e
 ·exact⟨#[],by rw[A1 (nD b _ e),e];simp⟩
 ·by_cases hb:b=D
  ·subst hb;rw[BI] at e;cases e;exact new
  ·rw[A1 hb] at e;exact(I.hok b u e).stay (λ_ _ _ q=>q) (λc q=>by rw[A1 (nD c _ q)];exact q) λc xs q=>by rw[A1 (nD c _ q)];exact q
theorem Tn(S:BScope X scope tgs ix)(I:Inv X pins σ H s)(hf:∀b∈fp,GD X pins H b)(hfo:∀b∈fp,b<s.heap.objs.size)(hC:s.heap.objs.size<=C):
  (cxB X scope tgs fp C s H).Ok:=by
 have sub:∀x c,(E8 X.env scope.names []).lookup x=some c->X.env.cells.lookup x=some c:=E7 scope.names [] (λ_ _ z=>by simp at z);refine⟨I.ok.mod,S.kind,I.ok.glob,I.ok.blt,hC,λx y c h1 h2=>I.ok.inj x y c (sub x c h1) (sub y c h2),λx hx=>?_,λx c h=>absurd h (by simp[cxB]),I.ok.hd,I.ok.frames,.inl rfl,λb hb=>⟨?_,λx c e=>?_⟩,λb o e=>I.bs b o e,
  AAu I.ok.bsz I.sz,λb o e hb=>?_,λb hb hz=>?_,I.stack,I.stkFree⟩
 ·have hx':(relabel scope X.env).names.lookup x=some .cell∨(relabel scope X.env).names.lookup x=some .free:=hx;have hm:(x,NameKind.free)∈scope.names:=by
   rcases hx' with h|h
   ·rcases C2 h with q|q
    ·exact absurd rfl (S.nocell _ (PySem.mem_of_lookup q))
    ·exact PySem.mem_of_lookup q.1
   ·rcases C2 h with q|q
    ·exact PySem.mem_of_lookup q
    ·exact absurd q.2 (by decide)
  obtain⟨c,hc⟩:=S.cells I.ok _ hm rfl;exact⟨c,Kg hm hc⟩
 ·exact λz=>absurd (hfo b hb) (by rw[z];exact Nat.not_lt.mpr hC)
 ·exact(hf b hb).2.2.2.2.1 x c (sub x c e)
 ·obtain⟨f0,f1,f2,f3,f4,f5⟩:=hf b hb;rcases f3 with z|z
  ·exact I.ok.noex b o e z
  ·exact absurd (Heap.lt_size (I.ok.bs b o e).1) (Nat.not_lt.mpr z)
 ·obtain⟨f0,f1,f2,f3,f4,f5⟩:=hf b hb;rcases AAJ.mp (I.stkSub b hz) with z|z
  ·exact f1 z
  ·exact f2 z
end
section
variable{X:Cx}{scope:Scope}{tgs:List Str}{ix:List Nat}
noncomputable abbrev CK(tgs:List Str)(ix:List Nat)(σ:St):St:=List.replicate tgs.length none++KG ix σ
theorem Ia(h:(CK tgs ix σ)[k]?=some (some v)):tgs.length<=k/\∃j,ix[k-tgs.length]?=some j/\σ[j]?=some (some v):=by
 have hk:tgs.length<=k:=by
  rcases Nat.lt_or_ge k tgs.length with z|z
  ·rw[AAT (by simpa using z),List.getElem?_replicate,if_pos z] at h;cases h
  ·exact z
 refine⟨hk,?_⟩;rw[AAS (by simpa using hk),AAo] at h;unfold KG at h;rw[AAW] at h;cases e:ix[k-tgs.length]? with
 |none=>rw[e] at h;cases h
 |some j=>
  rw[e] at h;refine⟨j,rfl,?_⟩;have h':(σ[j]?).getD none=some v:=Option.some.inj h;cases q:σ[j]? with
  |none=>rw[q] at h';cases h'
  |some o=>
   rw[q] at h';have h'':o=some v:=h';rw[h'']
theorem Ny(S:BScope X scope tgs ix)(I:Inv X pins σ H s)(hf:∀b∈fp,GD X pins H b)(hfo:∀b∈fp,b<s.heap.objs.size)
  (hC:s.heap.objs.size<=C) (hD:s.heap.objs.size<=D) (hDC:D≠C) {m:Str->Option Value} (hn:s4.heap.Ns C m) (hk:∀b u,s.heap.get? b=some u->s4.heap.get? b=some u) (hos:s4.os=s.os) (hg:s4.gens=s.gens)
  (hDo:s4.heap.get? D=some o) (hcell:∀v,o.data≠.cell v):Inv (cxB X scope tgs fp C s H) [(D,o)] (CK tgs ix σ) H s4:=by
 have ok:=Tn (tgs:=tgs) (ix:=ix) (C:=C) S I hf hfo hC;have sub:∀x c,(E8 X.env scope.names []).lookup x=some c->X.env.cells.lookup x=some c:=E7 scope.names [] (λ_ _ z=>by simp at z);refine⟨ok,hos,by rw[hg];exact I.bare,Un.kept hk,⟨m,hn,λk x v h1 h2 h3=>?_⟩,λx c e=>?_,I.hok.fresh hC,λx c e=>I.freeC x c (sub x c e),λp hp=>?_,I.hok.kept hk,?_⟩
 ·obtain⟨hkl,j,hj,hσ⟩:=Ia h2;have h1':(B5 scope.names)[k-tgs.length]?=some x:=by
   have:(tgs++B5 scope.names)[k]?=some x:=h1
   rwa [AAS hkl] at this
  have hx:x∈B5 scope.names:=AAV h1';have hXN:X.N[j]?=some x:=by
   have e:=congrArg (λl=>l[k-tgs.length]?) S.ixs;simp only[AAW,h1',hj,Option.map_some] at e;exact(Option.some.inj e).symm
  have kx:=Ja S.fre x hx;obtain⟨m0,hn0,hl⟩:=I.loc;obtain⟨u,r,l⟩:=hl j x v hXN hσ (by rcases kx with z|z;exact .inr (.inl z);exact .inr (.inr z));refine⟨u,r,?_⟩;rcases l with ⟨z,_⟩|⟨_,c,hc,q⟩
  ·rcases kx with y|y<;>rw[z] at y<;>cases y
  ·refine .inr ⟨?_,c,Kg (Fx hx) hc,?_⟩
   ·have h3':(relabel scope X.env).names.lookup x=some .local∨(relabel scope X.env).names.lookup x=some .cell∨(relabel scope X.env).names.lookup x=some .free:=h3;rcases h3' with z|z|z
    ·exfalso;rcases C2 z with w|w
     ·have lk:scope.names.lookup x=some .local:=w;have:=S.ndl x hx;rw[lk] at this;cases this
     ·exact absurd w.2 (by decide)
    ·exact .inl z
    ·exact .inr z
   ·obtain⟨oc,hoc,hd⟩:=q;exact⟨oc,hk c oc hoc,hd⟩
 ·obtain⟨v,oc,hoc,hd⟩:=I.cell x c (sub x c e);exact⟨v,oc,hk c oc hoc,hd⟩
 ·have e:p=(D,o):=by simpa[cxB] using hp
  subst e;refine⟨hDo,I.hok.fresh hD,hDC,λhz=>?_,hcell⟩;have hz':D∈frs X.stack:=hz;rcases AAJ.mp (I.stkSub D hz') with z|z
  ·exact absurd I.lt (by rw[←z];exact Nat.not_lt.mpr hD)
  ·exact I.nofs hD z
 ·show (List.replicate tgs.length none++KG ix σ).length=(tgs++B5 scope.names).length;have e:=congrArg List.length S.ixs;simp only[AAG] at e;rw[AAH,AAH,AAo,e];unfold KG;rw[AAG]
def Ld(X:Cx)(ifs:List Expr)(tc:TT):Prop:=
 ∀(pins:List (Addr×Obj)) (s:Shared) (σ:St) (H:Hp) (Q:Bool->Hp->Prop),Inv X pins σ H s->tc σ H Q->
  wpAny (model X.prog X.w) X.A (forIn ifs true λc r=>if r=true then do let ok ←isTrue c X.env (eval c X.env);pure (ForInStep.yield ok) else pure (ForInStep.yield r)) (TP X pins σ Q) X.xe s
noncomputable def Yo:TT:=λ_ H Q=>Q true H
theorem Sk:Ld X [] Yo:=λpins s σ H Q I h=>wpAny_tests_nil ⟨H,I,h⟩
theorem Sj(h:PT X c tc):Ld X [c] tc:=λpins s σ H Q I hw=>wpAny_tests_one (h pins s σ H Q I hw)
def GK(n:Nat)(g:TG):Prop:=∀x σ H Q,g x σ H Q->g x σ H λσ2 H2=>Q σ2 H2/\σ2.length=σ.length/\σ2.drop n=σ.drop n
theorem PL(h:i<n):GK n (Fd i):=λx σ H Q q=>⟨q,by simp,by rw[List.drop_set_of_lt h]⟩
def Z4(tgs:List Str)(ix:List Nat)(g:TG)(tc:TT)(te:TE)(σ:St)(Q:VK)(J:It)(H1:Hp):Prop:=∃W:Nat->Nat->List V->Hp->Prop,(∃m,W 0 m [] H1)/\∀i m ys H,W i m ys H->
 (J.stop i H/\ys.length<=sizeLine/\∀p,H p=none->Q (.ref p) (upd H p (.lst ys))) ∨
 (J.go i H/\ys.length<sizeLine/\∃N:List V->Hp->Prop,(∀ys' H',N ys' H'->∃m',m'<m/\W (i+1) m' ys' H')/\∀x H',J.yld i H x H'->g x (CK tgs ix σ) H' λσ2 H2=>tc σ2 H2 λb H3=>
  if b=true then te σ2 H3 λv H4=>N (ys++[v]) H4 else N ys H3)
noncomputable def Rv(tgs:List Str)(ix:List Nat)(wi:TI)(g:TG)(tc:TT)(te:TE):TE:=λσ H Q=>wi σ H λJ H1=>Z4 tgs ix g tc te σ Q J H1
theorem N8(h:wpAny M A t Q (λ_ _=>False) s)(hQ:∀a s,Q a s->Q' a s):wpAny M A t Q' E s:=AAl h hQ λ_ _ x=>x.elim
theorem QF(hu:u=pure ())(h:wpAny M A u P E s)(k:∀s',P () s'->wpAny M A t Q E s'):wpAny M A t Q E s:=by
 subst hu;have z:wpAny M A ((pure ():Sem Unit) >>= λ_=>t) Q E s:=AAA (AAl h (λ_ s' p=>k s' p) λ_ _ x=>x);exact z
end
section
variable{X:Cx}{scope:Scope}{tgs:List Str}{ix:List Nat}
noncomputable abbrev LN(its:List Value)(k:Nat):Obj:={ cls:=.type "list",data:=.seq its.toArray k }
theorem WF(I:Inv (cxB X scope tgs fp C s0 H0) pins σ6 H s)(l6:σ6.length=(CK tgs ix σ).length)
  (d6:σ6.drop tgs.length=(CK tgs ix σ).drop tgs.length):Inv (cxB X scope tgs fp C s0 H0) pins (CK tgs ix σ) H s:=by
 refine I.weak l6.symm λk v e=>?_;obtain⟨hk,_⟩:=Ia e;have e1:σ6[k]?=(σ6.drop tgs.length)[k-tgs.length]?:=by rw[List.getElem?_drop];congr 1;omega
 have e2:(CK tgs ix σ)[k]?=((CK tgs ix σ).drop tgs.length)[k-tgs.length]?:=by rw[List.getElem?_drop];congr 1;omega
 rw[e1,d6,←e2];exact e
theorem JR{elt tg iter:Expr}{ifs:List Expr}{pos:Pos}{g:TG}{tc:TT}{te:TE}{pins:List (Addr×Obj)}{fp:List Addr}{tn:Nat->Heap->Prop}{J:It}{Q:VK}
  (S:BScope X scope tgs ix) (ht:∀o v,letOwnedTupleGo tg o v=pure ()) (hc:X.calm=true) (hg:∀fp C s H,PG (cxB X scope tgs fp C s H) tg g) (hgk:GK tgs.length g) (hi:∀fp C s H,Ld (cxB X scope tgs fp C s H) ifs tc) (he:∀fp C s H,PE (cxB X scope tgs fp C s H) elt te)
  (I2:Inv X pins σ H2 s2) (T:NG X.prog X.w X.K tg J fp it tn) (t0:tn 0 s2.heap) (hf:∀b∈fp,GD X pins H2 b)
  (W:Nat->Nat->List V->Hp->Prop) (w0:∃m,W 0 m [] H2)
  (turn:∀i m ys H,W i m ys H->(J.stop i H/\ys.length<=sizeLine/\∀p,H p=none->Q (.ref p) (upd H p (.lst ys))) ∨
   (J.go i H/\ys.length<sizeLine/\∃N:List V->Hp->Prop,(∀ys' H',N ys' H'->∃m',m'<m/\W (i+1) m' ys' H')/\∀x H',J.yld i H x H'->g x (CK tgs ix σ) H' λσ2 H2=>tc σ2 H2 λb H3=>
    if b=true then te σ2 H3 λv H4=>N (ys++[v]) H4 else N ys H3))
  {RR:Value->Addr->Result->Shared->Prop}
  (fin:∀(D C:Addr) (s':Shared) (H':Hp) (m:Str->Option Value),Inv X pins σ H' s'->Q (.ref D) H'->s'.heap.Ns C m->GD X pins H' C->RR (.ref D) C (.ok .next) s') :
  wpAny (model X.prog X.w) X.A (newList []) (λacc s₃=>wpAny (model X.prog X.w) X.A (newFunctionEnv scope X.env.globals (E8 X.env scope.names []) [] X.env.qual none .none (some X.env)) (λcenv s₄=>
   codeAny (model X.prog X.w) X.A (.compStart (.ListComp elt [⟨tg,iter,ifs,0⟩] scope pos) 0 (.ref it) acc { cenv with scope:=relabel scope X.env }) (RR acc cenv.locals) s₄) X.xe s₃) X.xe s2:=by
 refine AAs (wpAny_newFunctionEnv S.nocell (by intro y hy;simp at hy) (λh₁ hns₁ hsb₁=>?_) S.kind);dsimp only at hns₁ hsb₁ ⊢;generalize hH2:s2.heap.push { cls:=.type "list",dict:=none,data:=.seq ([]:List Value).toArray }=G2 at hns₁ hsb₁ ⊢;have hC:G2.objs.size=s2.heap.objs.size+1:=by rw[←hH2,Heap.size_push]
 have hCle:s2.heap.objs.size<=G2.objs.size:=by rw[hC];exact Nat.le_succ _
 have hDC:s2.heap.objs.size≠G2.objs.size:=by rw[hC];exact AAf (Nat.lt_succ_self _)
 have below:∀b,b<s2.heap.objs.size->b≠G2.objs.size/\b≠s2.heap.objs.size:=λb hb=>⟨by rw[hC];exact AAf (AAj hb),AAf hb⟩;have old:∀b o,s2.heap.get? b=some o->h₁.get? b=some o:=λb o e=>hsb₁.extBut b o (below b (Heap.lt_size e)).1 (AAC _ (hH2 ▸ AAC _ e));have hacc:h₁.get? s2.heap.objs.size=some (LN [] 0):=hsb₁.extBut _ _ hDC (AAC _ (hH2 ▸ AAD _ rfl));have hfo:∀b∈fp,b<s2.heap.objs.size:=λb hb=>let ⟨o,e,_⟩:=T.obj 0 _ t0 b hb;Heap.lt_size e
 have ok:=Tn (tgs:=tgs) (ix:=ix) (C:=G2.objs.size) S I2 hf hfo hCle;have sub:∀x c,(E8 X.env scope.names []).lookup x=some c->X.env.cells.lookup x=some c:=E7 scope.names [] (λ_ _ z=>by simp at z);have nDfs:s2.heap.objs.size∉frs X.stack:=λhz=>by
  rcases AAJ.mp (I2.stkSub _ hz) with z|z
  ·exact absurd I2.lt (by rw[←z];exact AA2 _)
  ·exact I2.nofs (AAF _) z
 have nDcell:∀x c,(E8 X.env scope.names []).lookup x=some c->c≠s2.heap.objs.size:=λx c e=>AAf (I2.cellLt (sub x c e));have ncell:∀(its:List Value) (k:Nat) (v:Option Value),(LN its k).data≠.cell v:=λits k v z=>by cases z
 have stat:∀{Hx:Hp} {o:Obj},(∀b∈fp,Hx b=none)->∀b∈fp,GD (cxB X scope tgs fp G2.objs.size s2 H2) [(s2.heap.objs.size,o)] Hx b:=λ{Hx o} hn b hb=>
  ⟨hn b hb,(ok.exf b hb).1,ok.exfs b hb,.inl hb,(ok.exf b hb).2,λp hp z=>by
   have e:p=(s2.heap.objs.size,o):=by simpa[cxB] using hp
   subst e;exact absurd (hfo b hb) (by rw[←z];exact AA2 _)⟩
 have loop:∀s₃:Shared,s₃={ s2 with heap:=h₁,toks:=s2.toks+([]:List (Str×Value)).length }->
   codeAny (model X.prog X.w) X.A (.compLoop (.ListComp elt [⟨tg,iter,ifs,0⟩] scope pos) 0 (.ref it) (.ref s2.heap.objs.size) (compEnvC scope (E8 X.env scope.names []) G2.objs.size X.env)) (RR (.ref s2.heap.objs.size) G2.objs.size) s₃:=by
  rintro s₃ rfl;obtain⟨m0,w0⟩:=w0;refine codeAny_compLoop_tests (λn s=>∃i ys its k H,Inv (cxB X scope tgs fp G2.objs.size s2 H2) [(s2.heap.objs.size,LN its k)] (CK tgs ix σ) H s/\tn i s.heap/\(∀b∈fp,H b=none)/\Vals ys its/\W i n ys H) ?_ m0
   ⟨0,[],[],0,H2,Ny S I2 hf hfo hCle (AAF _) hDC hns₁ old rfl rfl hacc (ncell _ _),T.keep 0 _ _ t0 λb _ o e=>old b o e,λb hb=>(hf b hb).1,.nil,w0⟩ (ht _)
  rintro n s ⟨i,ys,its,k,H,I,st,fr,rv,w⟩;rcases turn i n ys H w with ⟨stop,hz,q⟩|⟨go,hz8,N,hN,step⟩
  ·refine thn (T.done (cxB X scope tgs fp G2.objs.size s2 H2) rfl rfl rfl hc i _ s _ H _ I (stat fr) st stop) λr s1 ⟨hr,I1⟩=>?_;subst hr;obtain⟨pe,pn,_⟩:=I1.pin (s2.heap.objs.size,LN its k) (AAc _ (by simp));have J0:Inv X pins σ H s1:=I2.call' I1.os I1.base I1.hok I1.bare λb hb=>⟨(hf b hb).2.2.2.1,(hf b hb).2.1,(hf b hb).2.2.2.2.1,(hf b hb).2.2.2.2.2⟩;have J1:Inv X pins σ (upd H s2.heap.objs.size (.lst ys)) s1:=J0.track (I2.fpOk (AAF _) pn) ⟨hz,its,k,rv,pe⟩;obtain⟨m,hn,_⟩:=I1.loc;exact fin _ _ s1 _ m J1 (q _ pn) hn (I2.fpOk hCle (by rw[A1 (Ne.symm hDC)];exact I1.free))
  ·refine thn (T.item (cxB X scope tgs fp G2.objs.size s2 H2) rfl rfl rfl hc i _ s _ H _ I (stat fr) st go) λr s1 ⟨u,hr,h1⟩=>?_;subst hr;refine QF (ht _ _) h1 λs5 ⟨x,H5,I5,r5,y5,st5,fr5⟩=>?_;have I5':=I5.pinned (stat fr5) (T.obj _ _ st5);refine N8 (hg fp G2.objs.size s2 H2 _ s5 _ H5 x u _ I5' r5 (hgk _ _ _ _ (step x H5 y5))) λ_ s6 ⟨σ6,H6,I6,q6,l6,d6⟩=>?_;refine N8 (hi fp G2.objs.size s2 H2 _ s6 σ6 H6 _ I6 q6) λokb s7 ⟨H7,I7,q7⟩=>?_;cases okb with
   |false=>
    rw[if_neg AAi] at q7 ⊢;obtain⟨m',hm,w7⟩:=hN _ _ q7;refine⟨m',hm,i+1,ys,its,k,H7,WF I7.unpinned l6 d6,T.keep _ _ _ st5 λb hb o e=>(I7.pin (b,o) (AAc _ (AAc _ (CN hb e)))).1,λb hb=>?_,rv,w7⟩;obtain⟨o,e,_⟩:=T.obj _ _ st5 b hb;exact(I7.pin (b,o) (AAc _ (AAc _ (CN hb e)))).2.1
   |true=>
    rw[if_pos rfl] at q7 ⊢;refine N8 (he fp G2.objs.size s2 H2 _ s7 σ6 H7 _ I7 q7) λxv s8 ⟨v,H8,I8,rv8,q8⟩=>?_;obtain⟨m',hm,w8⟩:=hN _ _ q8;obtain⟨pe,pn,_⟩:=I8.pin (s2.heap.objs.size,LN its k) (AAc _ (AAd _ (by simp)));have hlen:=rv.length;refine call_meets PySem.F.slot_list_append ⟨_,pe,rfl⟩ PySem.F.entry_list_append (PySem.F.args_list_append_2 _ _) (PySem.list_append s2.heap.objs.size its.toArray k xv (by rw[List.size_toArray];omega)) ⟨pe,?_⟩;have hp:its.toArray.push xv=(its++[xv]).toArray:=by simp
    have q':∃k',(s8.heap.update s2.heap.objs.size (Obj.mapSeq (λa=>a.push xv))).get? s2.heap.objs.size=some (LN (its++[xv]) k'):=⟨_,by
     unfold LN;rw[←hp];exact PySem.IsL.update pe (λa=>a.push xv)⟩
    obtain⟨k',q'⟩:=q';have I9:Inv (cxB X scope tgs fp G2.objs.size s2 H2) [] σ6 H8 { s8 with heap:=s8.heap.update s2.heap.objs.size (Obj.mapSeq (λa=>a.push xv)) }:=
     (I8.pins_of (pins':=[]) (λp hp=>absurd hp (by simp))).turned (t':=s8.toks) (λb o hb e=>(Heap.get?_update_other s8.heap (Obj.mapSeq (λa=>a.push xv)) (Ne.symm hb)).trans e) pn hDC (.inr (AAF _)) nDcell (λp hp=>absurd hp (by simp[cxB]))
    have I10:Inv (cxB X scope tgs fp G2.objs.size s2 H2) [(s2.heap.objs.size,LN (its++[xv]) k')] σ6 H8 { s8 with heap:=s8.heap.update s2.heap.objs.size (Obj.mapSeq (λa=>a.push xv)) }:=
     I9.pins_of λp hp=>by
      have e:p=(s2.heap.objs.size,LN (its++[xv]) k'):=by simpa using hp
      subst e;exact⟨q',pn,hDC,nDfs,ncell _ _⟩
    refine⟨m',hm,i+1,ys++[v],its++[xv],k',H8,WF I10 l6 d6,T.keep _ _ _ st5 λb hb o e=>?_,λb hb=>?_,rv.append (.cons rv8 .nil),w8⟩
    ·exact(Heap.get?_update_other s8.heap (Obj.mapSeq (λa=>a.push xv)) (Ne.symm (below b (hfo b hb)).2)).trans (I8.pin (b,o) (AAc _ (AAc _ (CN hb e)))).1
    ·obtain⟨o,e,_⟩:=T.obj _ _ st5 b hb;exact(I8.pin (b,o) (AAc _ (AAc _ (CN hb e)))).2.1
 exact codeAny_compStart_list (loop _ rfl) (T.self _ 0 _ _ _ (T.keep 0 _ _ t0 λb _ o e=>old b o e) (loop _ rfl))
theorem Va{elt tg iter:Expr}{ifs:List Expr}{pos:Pos}{tc:TT}{te:TE}(S:BScope X scope tgs ix)(hc:X.calm=true)(hi:PI X tg iter wi)(hg:∀fp C s H,PG (cxB X scope tgs fp C s H) tg g)(hgk:GK tgs.length g)
  (hif:∀fp C s H,Ld (cxB X scope tgs fp C s H) ifs tc) (he:∀fp C s H,PE (cxB X scope tgs fp C s H) elt te) (hs:∀x,foldedSetIterable iter X.env x=pure x:=by intro _;rfl) (ht:∀o v,letOwnedTupleGo tg o v=pure ():=by intro _ _;rfl) :
  PE X (.ListComp elt [⟨tg,iter,ifs,0⟩] scope pos) (Rv tgs ix wi g tc te):=by
 intro pins s σ H Q I h;rw[eval_ListComp];refine wpAny_comprehension_free (use:=none) rfl hs (Dk (S.cells I.ok)) S.kind S.loc ?_;show wpAny _ _ (eval iter X.env) _ _ s;refine thn (hi pins s σ H _ I h) λv s1 h1=>thn h1 λitv s2 h2=>?_;obtain⟨it,fp,tn,J,H2,e,I2,T,t0,f2,W,w0,turn⟩:=h2;subst e;refine JR (RR:=λacc C=>compPost (model X.prog X.w) X.A X.xe none (EP X pins σ Q) acc C) S ht hc hg hgk hif he I2 T t0 f2 W w0 turn ?_;intro D C s' H' m J1 q hn fC;obtain⟨f0,f1,f2,f3,f4,f5⟩:=fC;exact⟨m,hn,λh' sb=>⟨.ref D,H',J1.turned (t':=s'.toks) (λb o hb e=>(sb.2 b hb).trans e) f0 f1 f3 f4 f5,rfl,q⟩⟩
theorem Nd(hN:X.N.Nodup)(hiN:X.N[i]?=some y)(hy:X.env.scope.names.lookup y=some .local)
  (S:BScope X scope tgs ix) (hc:X.calm=true) (hi:PI X tg iter wi) (hg:∀fp C s H,PG (cxB X scope tgs fp C s H) tg g) (hgk:GK tgs.length g)
  (hif:∀fp C s H,Ld (cxB X scope tgs fp C s H) ifs tc) (he:∀fp C s H,PE (cxB X scope tgs fp C s H) elt te)
  (hsw:swapsWith (.ListComp elt [⟨tg,iter,ifs,0⟩] scope pos) (some (.Name y py)) spos.line X.env=pure true:=by rfl) (hs:∀x,foldedSetIterable iter X.env x=pure x:=by intro _;rfl) (ht:∀o v,letOwnedTupleGo tg o v=pure ():=by intro _ _;rfl) :
  PS X (.Assign [.Name y py] (.ListComp elt [⟨tg,iter,ifs,0⟩] scope pos) spos) (Uq (Rv tgs ix wi g tc te) (Fd i)):=by
 intro pins s σ H D0 I h;rw[exec_Assign_Name_used _ _ _ _ hsw];refine AAA (wpAny_standAt (AAA ?_));show wpAny _ X.A (do let _ ←comprehension (.ListComp elt [⟨tg,iter,ifs,0⟩] scope pos) scope X.env _ (newList []) false (eval iter X.env) (some (assign (.Name y py) X.env))) _ _ s;refine AAA (AAl (wpAny_comprehension_free (use:=some (assign (.Name y py) X.env)) (Q:=λ_ s'=>SP X pins D0 .next s') rfl hs (Dk (S.cells I.ok)) S.kind S.loc ?_) (λ_ s' hq=>AAB (AAB hq)) λ_ _ e=>e);refine thn (hi pins s σ H _ I h) λv s1 h1=>thn h1 λitv s2 h2=>?_;obtain⟨it,fp,tn,J,H2,e,I2,T,t0,f2,W,w0,turn⟩:=h2;subst e;refine JR (Q:=λx H1=>Fd i x σ H1 D0.nx) (RR:=λacc C=>compPost (model X.prog X.w) X.A X.xe (some (assign (.Name y py) X.env)) (λ_ s'=>SP X pins D0 .next s') acc C) S ht hc hg hgk hif he I2 T t0 f2 W w0 turn ?_;intro D C s' H' m J1 q hn fC;obtain⟨f0,f1,f2,f3,f4,f5⟩:=fC;show wpAny _ X.A (assign (.Name y py) X.env (.ref D)) _ _ _;refine wpAny_assign_Name (J5 (v:=.ref D) J1 hN hiN (.inl hy) rfl (λs'' I'' hsb=>?_) (.inr hy));obtain⟨a,sb,ha⟩:=hsb;have hCa:C≠a:=by
  rcases ha with z|z
  ·rw[z];exact f1
  ·exact Ne.symm (f4 y a z)
 exact⟨m,hn.sameBut sb hCa,λh' sb'=>⟨_,H',I''.turned (t':=s''.toks) (λb o hb e=>(sb'.2 b hb).trans e) f0 f1 f3 f4 f5,q⟩⟩
end
section
variable{X:Cx}
theorem M9:Bv X (.builtin "isinstance") (λxs H Q=>∃x T t b,xs=[x,.ty T]/\Gn X.K H x t/\PySem.W.kitOne X.K t (.type T)=some b/\Q (.bl b) H):=by
 intro pins s σ H xs us Q I r h;obtain⟨x,T,t,b,rfl,ty,e,q⟩:=h;obtain⟨u,w',rfl,rx,ry⟩:=Rn r;cases ry;exact QZ I rx ty e λtk=>⟨.bl b,H,I.tok tk,rfl,q⟩
noncomputable def aA(K:PySem.W.Frag)(te ts:TE):TE:=λσ H Q=>te σ H λx H1=>ts σ H1 λy H2=>y=.int (-1)/\∃a xs,x=.ref a/\SqL K H2 a xs/\∀p,H2 p=none->Q (.ref p) (upd H2 p (.lst xs.reverse))
theorem Xk{e st:Expr}(he:PE X e te)(hst:PE X st ts):PE X (.Subscript e (.Slice none none (some st) p2) pos) (aA X.K te ts):=by
 intro pins s σ H Q I h;refine Subscript_ (thn (he pins s σ H _ I h) λv s1 ⟨x,H1,I1,r1,q1⟩=>?_);refine wpAny_Slice ?_;rw[evalPart_none,evalPart_some];refine AAB (AAB (thn (hst pins s1 σ H1 _ I1 q1) λvk s3 ⟨y,H3,I3,pk,ey,a,xs,ex,hq,q⟩=>?_));subst ey ex;obtain⟨t,rfl⟩:=pk;cases r1;have I4:Inv X pins σ H3 { s3 with heap:=s3.heap.push { cls:=.type "slice",data:=.fields #[.none,.none,.int (-1) t] } }:=I3.kept (t':=s3.toks) λb ob q=>AAC _ q;obtain⟨its,r,ht,hz⟩:=I4.list hq;have hlen:=r.length;show wpAny (model X.prog X.w) X.A (subscriptTail e (.Slice none none (some st) p2) (.ref a) (.ref s3.heap.objs.size)) (EP X pins σ Q) X.xe { s3 with heap:=s3.heap.push { cls:=.type "slice",data:=.fields #[.none,.none,.int (-1) t] } };refine tail_any (ops:=[.ref a,.ref s3.heap.objs.size]) ht.isList.typeIs slot_list_getitem.lookup ?_ (by with_unfolding_all rfl);refine wpAny_getItem_list_slice ht.isList (Heap.IsSliceOf.new ..) .none .none (.int (-1) t) (by decide) ?_ (by rw[List.size_toArray]<;>omega);rw[PySem.W.krv_pick];refine⟨.ref _,_,I4.laid (t':=s3.toks) (o:=.lst xs.reverse) (λb ob q=>AAC _ q) (AAF _) ?_,rfl,q _ (I4.hok.fresh (AAF _))⟩;exact⟨by rw[List.length_reverse];exact hz,its.reverse,0,r.reverse,by
  have e:its.toArray.toList.reverse.toArray=its.reverse.toArray:=by simp
  rw[e];exact AAD _ rfl⟩
end
theorem EQ:entryFor table "dict.update.loop" = some Builtin.«dict.update.loop»:=entryFor_of_fast (by kernel_rfl)
theorem EI(args:Args):(Code.builtin "dict.update.loop" args).quiet=true:=Code.quiet_builtin args (by decide +kernel)
mutual
inductive DatV (K:PySem.W.Frag) (H:Hp):V->PyData->Prop
 |non:DatV K H .non .none
 |bl (b:Bool):DatV K H (.bl b) (.bool b)
 |int (i:Int):DatV K H (.int i) (.int i)
 |str (x:Str):DatV K H (.str x) (.str x)
 |tup {a:Addr} {xs:List V} {ds:List PyData}:SqT K H a xs->DatVs K H xs ds->DatV K H (.ref a) (.tuple ds)
 |lst {a:Addr} {xs:List V} {ds:List PyData}:SqL K H a xs->DatVs K H xs ds->DatV K H (.ref a) (.list ds)
inductive DatVs (K:PySem.W.Frag) (H:Hp):List V->List PyData->Prop
 |nil:DatVs K H [] []
 |cons {v:V} {d:PyData} {vs:List V} {ds:List PyData}:DatV K H v d->DatVs K H vs ds->DatVs K H (v::vs) (d::ds)
end
section
variable{X:Cx}{pins:List (Addr×Obj)}{σ:St}{H:Hp}{s:Shared}
mutual
theorem DatV.reads(I:Inv X pins σ H s):∀{v:V} {d:PyData},DatV X.K H v d->∀{u:Value},RelV v u->∃as,Reads s.heap u d as
 |_,_,.non,_,r=>by cases r;exact⟨[],.none⟩
 |_,_,.bl b,_,r=>by cases r;exact⟨[],.bool b⟩
 |_,_,.int i,_,r=>by obtain⟨t,rfl⟩:=r;exact⟨[],.int i t⟩
 |_,_,.str x,_,r=>by obtain⟨t,rfl⟩:=r;exact⟨[],.str x t⟩
 |_,_,.tup hq hs,_,r=>by
  cases r;obtain⟨its,rv,⟨o,e,c,n,d⟩,_⟩:=I.tuple hq;obtain⟨as,ra⟩:=DatVs.reads I hs rv;exact⟨_,.tuple e c d (by simpa using ra)⟩
 |_,_,.lst hq hs,_,r=>by
  cases r;obtain⟨its,rv,⟨o,n,e,c,_,d⟩,_⟩:=I.list hq;obtain⟨as,ra⟩:=DatVs.reads I hs rv;exact⟨_,.list e c d (by simpa using ra)⟩
theorem DatVs.reads(I:Inv X pins σ H s):∀{vs:List V} {ds:List PyData},DatVs X.K H vs ds->∀{us:List Value},Vals vs us->∃as,ReadsAll s.heap us ds as
 |_,_,.nil,_,.nil=>⟨[],.nil⟩
 |_,_,.cons h t,_,.cons r rr=>by
  obtain⟨a,ra⟩:=DatV.reads I h r;obtain⟨b,rb⟩:=DatVs.reads I t rr;exact⟨_,.cons ra rb⟩
end
end
section
variable{X:Cx}
theorem X5(hu:X.A.units+64<cLine):OpR X (compareOp .Eq) (λx y H Q=>∃d d',DatV X.K H x d/\DatV X.K H y d'/\SeqAt.shaped d=true/\SeqAt.shaped d'=true/\Q (.bl (PyData.eqv d d')) H):=by
 intro pins s σ H x y v u Q I rx ry h;obtain⟨d,d',h1,h2,s1,s2,q⟩:=h;obtain⟨as,ra⟩:=h1.reads I rx;obtain⟨bs,rb⟩:=h2.reads I ry;exact SeqAt.compareEq_shaped ra rb s1 s2 hu ⟨.bl _,H,I,rfl,q⟩
theorem X1(hu:X.A.units+64<cLine):OpR X (compareOp .NotEq) (λx y H Q=>∃d d',DatV X.K H x d/\DatV X.K H y d'/\SeqAt.shaped d=true/\SeqAt.shaped d'=true/\Q (.bl (!PyData.eqv d d')) H):=by
 intro pins s σ H x y v u Q I rx ry h;obtain⟨d,d',h1,h2,s1,s2,q⟩:=h;obtain⟨as,ra⟩:=h1.reads I rx;obtain⟨bs,rb⟩:=h2.reads I ry;exact SeqAt.compareNe_shaped ra rb s1 s2 hu ⟨.bl _,H,I,rfl,q⟩
theorem SK(hr:Room k A):A.units+64<cLine:=hr.units
end
theorem Inv.turnedL{X:Cx}{pins:List (Addr×Obj)}{σ:St}{H:Hp}{t':Nat}{ch:List Addr}(I:Inv X pins σ H s)(k:∀b o,b∉ch->s.heap.get? b=some o->h'.get? b=some o)(hf:∀b∈ch,GD X pins H b):Inv X pins σ H { s with heap:=h',toks:=t' }:=by
 have nit:∀b u,H b=some u->b∉ch:=λb u e z=>by rw[(hf b z).1] at e;cases e
 refine I.step (g':=s.gens) (d':=s.drawn) (ch:=ch) (λb hb=>⟨(hf b hb).2.2.2.1,(hf b hb).2.1,(hf b hb).2.2.2.2.1,(hf b hb).2.2.2.2.2⟩) (λb o _ _ hc e _=>k b o hc e) (λb o _ _ hc e _=>⟨o.slots,k b o hc e⟩) (λ_ _ _ _ n=>n)
  (λb o hc e=>⟨o,k b o hc e⟩) (λ_ _ e=>e) (λ_ _ _ e=>e) (λb ps e=>⟨#[],by rw[e];simp⟩) (λm hm=>?_) (λb u e=>?_) I.bare
 ·obtain⟨o,es,ep,ho,r⟩:=hm;exact⟨o,es,ep,k _ o (λz=>(hf _ z).2.1 rfl) ho,r⟩
 ·refine(I.hok b u e).stay (λc v hc q=>k c v ?_ q) (λ_ q=>q) λ_ _ q=>q;rcases hc with z|z
  ·rw[z];exact nit b u e
  ·exact nit c _ z
noncomputable def ItP(K:PySem.W.Frag)(n:Nat)(src:Nat->List V)(Cond:PySem.W.Frag->Hp->Prop):It:=
 ⟨λi H=>i<n/\Cond K H,λi H v H'=>∃T,H T=none/\v=.ref T/\H'=upd H T (.tup (src i)),λi H=>i=n/\Cond K H⟩
theorem IW{P:Program}{w:World}{K:PySem.W.Frag}{es:List Expr}{k0:Nat}{pos:Pos}{I0:Addr}{ι:Type}{fp wr:List Addr}{n:Nat}{src:Nat->List V}{good:ι->Prop}{Pt:ι->Nat->Array Value->Prop}{Sw:ι->Nat->Heap->Prop}{Mid:ι->Nat->Addr->Heap->Prop}{tn:Nat->Heap->Prop}{Cond:PySem.W.Frag->Hp->Prop}
  (W:∀A:Around,A.handled=none->∀z,good z->WalksT P w A I0 fp wr n (Pt z) (Sw z) (Mid z)) (hmem:I0∈wr) (hPt:∀z i vals,good z->Pt z i vals->Vals (src i) vals.toList) (hlen:∀i,(src i).length<=sizeLine)
  (obj:∀i h,tn i h->∀b∈wr,∃o,h.get? b=some o/\∀v,o.data≠.cell v)
  (keep:∀i h h',tn i h->(∀b∈wr,∀o,h.get? b=some o->h'.get? b=some o)->tn i h')
  (into:∀(X:Cx) (pins:List (Addr×Obj)) (σ:St) (H:Hp) (s:Shared) (i:Nat),X.prog=P->X.w=w->X.K=K->Inv X pins σ H s->Cond K H->tn i s.heap->∃z,good z/\Sw z i s.heap) (out:∀z i h,Sw z i h->tn i h)
  (self:∀(A:Around) (i:Nat) (s:Shared) (Q:Value->Shared->Prop) (E:Value->Shared->Prop),tn i s.heap->Q (.ref I0) s->wpAny (model P w) A (pyIter (.ref I0)) Q E s) :
  NG P w K (.Tuple es k0 pos) (ItP K n src Cond) wr I0 tn where
 mem:=hmem
 obj:=obj
 keep:=keep
 item:=by
  intro X hP hw hK hc i pins s σ H E I hf st hg;obtain⟨hi,hcond⟩:=hg;obtain⟨z,gz,sz⟩:=into X pins σ H s i hP hw hK I hcond st;have W':=W X.A (I.ok.hd hc) z gz;refine W'.item i s _ _ hi sz λT vals h' tk hp hT ht hm kk=>⟨_,rfl,?_⟩;have I1:Inv X pins σ H { s with heap:=h',toks:=tk }:=I.turnedL kk hf;refine W'.go es k0 pos i T _ _ _ hm λh2 st2 kk2=>?_;have I2:Inv X pins σ H { s with heap:=h2,toks:=tk }:=I1.turnedL (t':=tk) kk2 hf;have hn:H T=none:=I.hok.fresh hT;have ht2:IsTup h2 T vals:=by
   obtain⟨o,e,r⟩:=ht;exact⟨o,kk2 T o (W'.apart i T _ hm) e,r⟩
  refine⟨.ref T,upd H T (.tup (src i)),I2.track (I.fpOk hT hn) ⟨hlen i,vals.toList,hPt z i vals gz hp,by simpa using ht2⟩,rfl,⟨T,hn,rfl,rfl⟩,out z _ _ st2,λb hb=>?_⟩;have hbT:b≠T:=λz=>W'.apart i T _ hm (by rw[←z];exact hb);rw[A1 hbT];exact(hf b hb).1
 done:=by
  intro X hP hw hK hc i pins s σ H E I hf st hg;obtain⟨hi,hcond⟩:=hg;subst hi;obtain⟨z,gz,sz⟩:=into X pins σ H s i hP hw hK I hcond st;exact(W X.A (I.ok.hd hc) z gz).done s _ _ sz λh' tk kk=>⟨rfl,I.turnedL kk hf⟩
 self:=self
noncomputable def Ge(xs:List V)(i:Nat):List V:=[.int i,xs.getD i .non]
theorem N5(r:Vals xs its)(h:∃t x,its.toArray[i]?=some x/\vals=#[.int i t,x]):Vals (Ge xs i) vals.toList:=by
 obtain⟨t,x,hx,rfl⟩:=h;have hx':its[i]?=some x:=by simpa using hx
 have hlt:i<its.length:=(AAU.mp hx').1;have hl:=r.length;have hv:xs[i]?=some (xs.getD i .non):=by
  rw[AAv (by omega)];simp[List.getD,show i<xs.length by omega]
 obtain⟨u,hu,ru⟩:=r.get hv;rw[hx'] at hu;cases hu;exact .cons ⟨t,rfl⟩ (.cons ru .nil)
theorem V2{P:Program}{w:World}{f:Nat->Heap->Prop}(A:Around)(i:Nat)(s:Shared)(Q:Value->Shared->Prop)(E:Value->Shared->Prop)(st:(∃old,IsEnum s.heap e it i old)/\f i s.heap)(h:Q (.ref e) s):wpAny (model P w) A (pyIter (.ref e)) Q E s:=by
 obtain⟨⟨old,he⟩,_⟩:=st;exact wpAny_pyIter_enum he h
theorem YW(he:∃old,IsEnum h e it i old)(ho:h.get? it=some o)(hd:∃vs,o.data=.fields vs):∀b∈[e,it],∃o,h.get? b=some o/\∀v,o.data≠.cell v:=λb hb=>by
 rcases AAJ.mp hb with z|z
 ·subst z;obtain⟨old,he⟩:=he;exact⟨_,he,λv q=>by cases q⟩
 ·rw[AAL.mp z];obtain⟨vs,hd⟩:=hd;exact⟨o,ho,λv q=>by rw[hd] at q;cases q⟩
end L2
namespace L2
open PySem PySem.Spec PyProof.Rows
open AutoSeq1 (wpAny_loadPart')
section
variable{X:Cx}
theorem Qr:bootBuiltins "enumerate" = some (.type "enumerate"):=by decide +kernel
theorem XD(I:Inv X pins σ H s):∀b∈[s.heap.objs.size+1,s.heap.objs.size],GD X pins H b:=λb hb=>by
 have hb':b=s.heap.objs.size+1∨b=s.heap.objs.size:=by simpa using hb
 rcases hb' with e|e<;>subst e
 ·exact I.fpOk (Nat.le_succ _) (I.hok.fresh (Nat.le_succ _))
 ·exact I.fpOk (AAF _) (I.hok.fresh (AAF _))
end
end L2
namespace L2
open PySem PySem.Spec PyProof.Rows
def KGet(P:Params)(K:PySem.W.Frag)(a:Addr)(y:V)(r:Option V):Prop:=
 ∃x es n r',y=.str x/\K.lookup a=some ⟨.type "dict",none,.dict es n,#[]⟩/\PySem.W.KeysLit P es.toList/\PySem.W.nsIn K a x=some r'/\RelO r r'/\(a==sysModules)=false
section
variable{X:Cx}{pins:List (Addr×Obj)}{σ:St}{H:Hp}{s:Shared}{a:Addr}{y v:V}{u:Value}{o:Option V}{A:Around}{E:Value->Shared->Prop}
theorem KGet.typeIs(I:Inv X pins σ H s)(g:KGet X.w.params X.K a y o):s.TypeIs (.ref a) "dict" := by
 obtain⟨x,es,n,r',_,hl,_⟩:=g;exact⟨_,I.kIn a _ hl,rfl⟩
theorem QY(I:Inv X pins σ H s)(g:KGet X.w.params X.K a y (some v))(ry:RelV y u)(h:∀w' s',Inv X pins σ H s'->RelV v w'->Q w' s'):
  wpAny (model X.prog X.w) A (getItem (.ref a) u) Q E s:=by
 obtain⟨x,es,n,r',e,hl,hk,hn,ro,_⟩:=g;subst e;obtain⟨t,rfl⟩:=ry;obtain⟨w',rfl,rw'⟩:=RelO.some_of ro;exact wpAny_getItem_of (strKind_is X.prog X.w x t) (PySem.W.mapOf_K (prog:=X.prog) (λa o q=>I.kIn a o q) hl hk) (PySem.W.find_K hl hn) (h w' _ (I.tok _) rw')
end
noncomputable def Yw(P:Params)(K:PySem.W.Frag)(td ty:TE):TE:=λσ H Q=>td σ H λx H1=>ty σ H1 λy H2=>∃a v,x=.ref a/\KGet P K a y (some v)/\Q v H2
section
variable{X:Cx}{o i:Expr}{pos:Pos}{td ty:TE}
theorem VW(ho:PE X o td)(hi:PE X i ty)(hs:Qu i):PE X (.Subscript o i pos) (Yw X.w.params X.K td ty):=by
 intro pins s σ H Q I h;refine K8 PySem.F.slot_dict_getitem.lookup hs (thn (ho pins s σ H _ I h) λu s1 ⟨x,H1,I1,rx,q1⟩=>thn (hi pins s1 σ H1 _ I1 q1) λiv s2 ⟨y,H2,I2,ry,a,v,ex,g,q2⟩=>?_);subst ex;obtain rfl:u=Value.ref a:=rx;exact⟨g.typeIs I2,QY I2 g ry λw' s3 I3 rw'=>⟨v,H2,I3,rw',q2⟩⟩
end
end L2
namespace Nk
open PySem PySem.Spec PyProof.Rows
inductive NK where
 |int (i:Int)|tup (ks:List NK)
noncomputable instance:DecidableEq NK:=λ_ _=>Classical.propDecidable _
mutual
def NK.hash:NK->Int
 | .int i=>hashInt i
 | .tup ks=>reduceHash (Builtin.Tuple.tupleHashOf (NK.hashes ks))
def NK.hashes:List NK->List Int
 |[]=>[]
 |k::ks=>NK.hash k::NK.hashes ks
end
section
variable{prog:Program}{w:World}{A:Around}{E:Value->Shared->Prop}{s:Shared}
theorem hash_tup(hu:A.units<cLine)(ho:s.heap.get? a=some o)(hc:o.cls=.type "tuple")(hd:o.data=.seq items n)
  (each:∀(P:Array Int->Shared->Prop),P hs.toArray { s with toks:=s.toks+d }->wpAny (model prog w) A.in1 (forIn items.toList (#[]:Array Int) λx r=>do let y ←pyHash x;pure (ForInStep.yield (r.push y))) P E s)
  (q:Q (reduceHash (Builtin.Tuple.tupleHashOf hs)) { s with toks:=s.toks+(d+1) }):wpAny (model prog w) A (pyHash (.ref a)) Q E s:=by
 have hT:s.TypeIs (.ref a) "tuple" := ⟨o,ho,hc⟩;show wpAny _ _ (pyHashByItsType (.ref a)) Q E s;unfold pyHashByItsType;refine AAA (wpAny_cRoomFor_or (.inr hu) (AAA (wpAny_specialOf hT PySem.F.slot_tuple_hash.lookup ?_)));rw[if_neg (by rw[beq_builtin_none];exact AAi)];refine AAA (wpAny_specialOf hT PySem.F.slot_tuple_hash.lookup ?_);show wpAny _ _ (callSpecialIfBoundUnlessNone? (.ref a) "__hash__" _ >>= _) Q E s;refine AAA (wpAny_callSpecialIfBoundUnlessNone?_slot hT PySem.F.slot_tuple_hash (AAe PySem.F.slot_tuple_hash hT PySem.F.entry_tuple_hash ?_ (PySem.F.args_tuple_hash_1 _)));show wpAny _ _ (Builtin.Tuple.tupleItemsOf (.ref a) >>= _) _ _ s;refine AAA (wpAny_tupleItemsOf ho hd (AAA ?_));rw[←Array.forIn_toList];refine each _ ?_;show wpAny _ _ (retInt (Builtin.Tuple.tupleHashOf hs.toArray.toList)) _ _ _;refine wpAny_ret_mkInt ?_;show wpAny _ _ (pyHashByItsType.reduced _) Q E _;unfold pyHashByItsType.reduced;unfold reduceHash at q;split
 ·rename_i hr;rw[if_pos hr] at q;exact AAB q
 ·rename_i hr;rw[if_neg hr] at q;exact AAA (wpAny_rule (AAB q))
end
end Nk
namespace Nk
open PySem PySem.Spec PyProof.Rows PySem.MeetsSeq PySem.SeqAt
noncomputable abbrev Cs:=Int×Int×List Int
noncomputable def csK(c:Cs):NK:=.tup [.int c.1,.int c.2.1,.tup (c.2.2.map NK.int)]
open L2 in
noncomputable def Zp(p:Addr)(l:List (Cs×Addr×V)):HO:=.ext λh=>∃(us:List Value) (o:Obj) (es:Array DictEntry) (ep:Nat),Vals (l.map (·.2.2)) us/\h.get? p=some o/\o.ExactDict/\o.data=.dict es ep /\
 es.toList=(l.zip us).map (λx=>{ key:=.ref x.1.2.1,hash:=(csK x.1.1).hash,val:=x.2 })/\(l.map (·.1)).Nodup/\l.length<=sizeLine/\(p==sysModules)=false
end Nk
namespace Mi
open PySem L2 Nk
inductive D where
 |non|bl (b:Bool)|int (i:Int)|str (x:Str)|ty (n:String)|scr (ns:List Int)|tup (xs:List D)|lst (xs:List D)|ref (n:Nat)
mutual
def Do:D->D->Bool
 | .non,.non=>true
 | .bl a,.bl b=>a==b
 | .int a,.int b=>a==b
 | .str a,.str b=>a==b
 | .ty a,.ty b=>a==b
 | .scr a,.scr b=>a==b
 | .tup a,.tup b=>OC a b
 | .lst a,.lst b=>OC a b
 | .ref a,.ref b=>a==b
 |_,_=>false
def OC:List D->List D->Bool
 |[],[]=>true
 |a::as,b::bs=>Do a b&&OC as bs
 |_,_=>false
end
mutual
theorem Pa:∀{a b:D},Do a b=true->a=b
 | .tup a,.tup b,h=>by unfold Do at h;rw[LZ h]
 | .lst a,.lst b,h=>by unfold Do at h;rw[LZ h]
 | .non,b,h=>by cases b<;>first|rfl|cases h
 | .bl a,b,h=>by cases b<;>first|(unfold Do at h;rw[eq_of_beq h])|cases h
 | .int a,b,h=>by cases b<;>first|(unfold Do at h;rw[eq_of_beq h])|cases h
 | .str a,b,h=>by cases b<;>first|(unfold Do at h;rw[eq_of_beq h])|cases h
 | .ty a,b,h=>by cases b<;>first|(unfold Do at h;rw[eq_of_beq h])|cases h
 | .scr a,b,h=>by cases b<;>first|(unfold Do at h;rw[eq_of_beq h])|cases h
 | .ref a,b,h=>by cases b<;>first|(unfold Do at h;rw[eq_of_beq h])|cases h
theorem LZ:∀{a b:List D},OC a b=true->a=b
 |[],[],_=>rfl
 |a::as,b::bs,h=>by
  unfold OC at h;rw[Bool.and_eq_true] at h;rw[Pa h.1,LZ h.2]
end
mutual
theorem Kn:∀a:D,Do a a=true
 | .tup a=>by unfold Do;exact HL a
 | .lst a=>by unfold Do;exact HL a
 | .non=>rfl
 | .bl a=>by unfold Do;exact beq_self_eq_true a
 | .int a=>by unfold Do;exact beq_self_eq_true a
 | .str a=>by unfold Do;exact beq_self_eq_true a
 | .ty a=>by unfold Do;exact beq_self_eq_true a
 | .scr a=>by unfold Do;exact beq_self_eq_true a
 | .ref a=>by unfold Do;exact beq_self_eq_true a
theorem HL:∀a:List D,OC a a=true
 |[]=>rfl
 |a::as=>by unfold OC;rw[Kn a,HL as];rfl
end
instance:DecidableEq D:=λa b=>if h:Do a b=true then .isTrue (Pa h) else .isFalse λe=>h (by rw[e];exact Kn b)
inductive MO where
 |lst (xs:List D)|dK (kvs:List (Key×D))|dC (kvs:List (Cs×D))|ins (c:Str) (fs:List (Str×D))|dP (kvs:List (D×D))
abbrev Mh:=List MO
set_option genInjectivity false in
structure KW where
 fr:PySem.W.Frag
 w:World
instance:CoeOut KW PySem.W.Frag:=⟨KW.fr⟩
noncomputable abbrev _root_.L2.Cx.kw(X:Cx):KW:=⟨X.K,X.w⟩
noncomputable abbrev M(α:Type):=Mh->Option (α×Mh)
abbrev Sl:=List (Option D)
noncomputable def ret{α:Type}(a:α):M α:=λμ=>some (a,μ)
noncomputable def bnd{α β:Type}(m:M α)(f:α->M β):M β:=λμ=>match m μ with
 |some (a,μ1)=>f a μ1
 |none=>none
noncomputable def A5{α:Type}:M α:=λ_=>none
theorem AI(h:bnd m f μ=some r):∃a μ1,m μ=some (a,μ1)/\f a μ1=some r:=by
 unfold bnd at h;cases e:m μ with
 |none=>rw[e] at h;cases h
 |some p=>obtain⟨a,μ1⟩:=p;rw[e] at h;exact⟨a,μ1,rfl,h⟩
@[simp] theorem Z5(a:α)(f:α->M β):bnd (ret a) f=f a:=rfl
theorem A8(h:m μ=some (a,μ1)):bnd m f μ=f a μ1:=by unfold bnd;rw[h]
def ScrAt(K:PySem.W.Frag)(H:Hp)(a:Addr)(xs:List V):Prop:=
 (∃o,H a=some (.frz o (.lst xs)))∨∃(o:Obj) (its:Array Value) (n:Nat),K.lookup a=some o/\o.cls=.type "list" /\ o.dict=none/\o.data=.seq its n/\its.size<=sizeLine/\Vals xs its.toList
theorem ScrAt.sq(h:ScrAt K H a xs):SqL K H a xs:=h.elim (λz=>.inl (.inr z)) .inr
mutual
def Is(K:KW)(ι:Nat->Addr)(k:Nat)(H:Hp):D->V->Prop
 | .non,v=>v=.non
 | .bl b,v=>v=.bl b
 | .int i,v=>v=.int i
 | .str x,v=>v=.str x
 | .ty n,v=>v=.ty n
 | .scr ns,v=>∃p,v=.ref p/\ScrAt K H p (ns.map V.int)
 | .tup ds,v=>∃p vs,v=.ref p/\SqT K H p vs/\IsL K ι k H ds vs
 | .lst ds,v=>∃p vs,v=.ref p/\H p=some (.lst vs)/\(∀n,n<k->ι n≠p)/\IsL K ι k H ds vs
 | .ref n,v=>n<k/\v=.ref (ι n)
def IsL(K:KW)(ι:Nat->Addr)(k:Nat)(H:Hp):List D->List V->Prop
 |[],vs=>vs=[]
 |d::ds,vs=>∃v vs',vs=v::vs'/\Is K ι k H d v/\IsL K ι k H ds vs'
end
section
variable{K:KW}{ι ι' ι2:Nat->Addr}{k k' k2:Nat}{H H' H2:Hp}
theorem IsL.length:∀{ds:List D} {vs:List V},IsL K ι k H ds vs->vs.length=ds.length
 |[],_,h=>by unfold IsL at h;subst h;rfl
 |_::_,_,h=>by
  unfold IsL at h;obtain⟨v,vs',rfl,_,h⟩:=h;simp only[AAI,IsL.length h]
theorem IsL.get:∀{ds:List D} {vs:List V} {i:Nat} {d:D},IsL K ι k H ds vs->ds[i]?=some d->∃v,vs[i]?=some v/\Is K ι k H d v
 |[],_,_,_,_,e=>by simp at e
 |_::_,_,0,_,h,e=>by
  unfold IsL at h;obtain⟨v,vs',rfl,h1,_⟩:=h;simp at e;subst e;exact⟨v,rfl,h1⟩
 |_::_,_,i+1,d,h,e=>by
  unfold IsL at h;obtain⟨v,vs',rfl,_,h⟩:=h;obtain⟨u,e1,e2⟩:=IsL.get (i:=i) (d:=d) h (by simpa using e);exact⟨u,by simpa using e1,e2⟩
theorem IsL.append:∀{ds es:List D} {vs us:List V},IsL K ι k H ds vs->IsL K ι k H es us->IsL K ι k H (ds++es) (vs++us)
 |[],_,_,_,h,q=>by unfold IsL at h;subst h;exact q
 |_::_,_,_,_,h,q=>by
  unfold IsL at h;obtain⟨v,vs',rfl,h1,h⟩:=h;show IsL K ι k H (_::(_++_)) _;unfold IsL;exact⟨v,_,rfl,h1,IsL.append h q⟩
theorem IsL.take:∀(n:Nat) {ds:List D} {vs:List V},IsL K ι k H ds vs->IsL K ι k H (ds.take n) (vs.take n)
 |0,ds,vs,_=>by rw[List.take_zero,List.take_zero];unfold IsL;rfl
 |n+1,[],_,h=>by unfold IsL at h;subst h;simp only[List.take_nil];unfold IsL;rfl
 |n+1,_::_,_,h=>by
  unfold IsL at h;obtain⟨v,vs',rfl,h1,h⟩:=h;simp only[List.take_succ_cons];unfold IsL;exact⟨v,_,rfl,h1,IsL.take n h⟩
theorem IsL.drop:∀(n:Nat) {ds:List D} {vs:List V},IsL K ι k H ds vs->IsL K ι k H (ds.drop n) (vs.drop n)
 |0,_,_,h=>h
 |n+1,[],_,h=>by unfold IsL at h;subst h;simp only[List.drop_nil];unfold IsL;rfl
 |n+1,_::_,_,h=>by
  unfold IsL at h;obtain⟨v,vs',rfl,h1,h⟩:=h;simp only[List.drop_succ_cons];exact IsL.drop n h
theorem IsL.cons(h:Is K ι k H d v)(t:IsL K ι k H ds vs):IsL K ι k H (d::ds) (v::vs):=by
 unfold IsL;exact⟨v,vs,rfl,h,t⟩
theorem IsL.nil:IsL K ι k H [] []:=by unfold IsL;rfl
theorem IsL.one(h:Is K ι k H d v):IsL K ι k H [d] [v]:=.cons h .nil
theorem IsL.reverse:∀{ds:List D} {vs:List V},IsL K ι k H ds vs->IsL K ι k H ds.reverse vs.reverse
 |[],_,h=>by unfold IsL at h;subst h;exact .nil
 |_::_,_,h=>by
  unfold IsL at h;obtain⟨v,vs',rfl,h1,h⟩:=h;rw[List.reverse_cons,List.reverse_cons];exact(IsL.reverse h).append (.one h1)
theorem IsL.set(h1:Is K ι k H d v):∀{ds:List D} {vs:List V} (i:Nat),IsL K ι k H ds vs->IsL K ι k H (ds.set i d) (vs.set i v)
 |[],_,_,h=>by unfold IsL at h;subst h;exact .nil
 |_::_,_,0,h=>by
  unfold IsL at h;obtain⟨v,vs',rfl,_,h⟩:=h;exact .cons h1 h
 |_::_,_,i+1,h=>by
  unfold IsL at h;obtain⟨v,vs',rfl,h0,h⟩:=h;exact .cons h0 (IsL.set h1 i h)
theorem IsL.ofInts:∀(ns:List Int),IsL K ι k H (ns.map D.int) (ns.map V.int)
 |[]=>.nil
 |n::r=>.cons (by unfold Is;rfl) (IsL.ofInts r)
noncomputable def TZ:HO->Bool
 | .lst _=>true
 | .dK _=>true
 | .ext _=>true
 | .ins _ _ _=>true
 |_=>false
def Muts(ι:Nat->Addr)(k:Nat)(H:Hp):Prop:=∀n,n<k->∃o,H (ι n)=some o/\TZ o=true
structure Ext(ι:Nat->Addr)(k:Nat)(H:Hp)(ι':Nat->Addr)(k':Nat)(H':Hp):Prop where
 le:k<=k'
 agree:∀n,n<k->ι' n=ι n
 fresh:∀n,k<=n->n<k'->H (ι' n)=none
 keep:∀p o,H p=some o->(∀n,n<k->ι n≠p)->H' p=some o
 was:Muts ι k H
 there:Muts ι k H'
theorem Ext.refl(h:Muts ι k H):Ext ι k H ι k H:=⟨AAF _,λ_ _=>rfl,λn h1 h2=>absurd h1 (by omega),λ_ _ e _=>e,h,h⟩
theorem Ext.trans(a:Ext ι k H ι' k' H')(b:Ext ι' k' H' ι2 k2 H2):Ext ι k H ι2 k2 H2 where
 le:=AAu a.le b.le
 agree:=λn h=>(b.agree n (AAN h a.le)).trans (a.agree n h)
 fresh:=λn h1 h2=>by
  rcases Nat.lt_or_ge n k' with z|z
  ·rw[b.agree n z];exact a.fresh n h1 z
  ·have q:=b.fresh n z h2;cases e:H (ι2 n) with
   |none=>rfl
   |some o=>
    by_cases hx:∃m,m<k/\ι m=ι2 n
    ·obtain⟨m,hm,e2⟩:=hx;obtain⟨o',q',_⟩:=a.there m hm;rw[e2,q] at q';cases q'
    ·have:=a.keep _ o e (λm hm e2=>hx ⟨m,hm,e2⟩);rw[q] at this;cases this
 keep:=λp o e hn=>b.keep p o (a.keep p o e hn) (λn hlt e2=>by
  rcases Nat.lt_or_ge n k with z|z
  ·rw[a.agree n z] at e2;exact hn n z e2
  ·have:=a.fresh n z hlt;rw[e2,e] at this;cases this)
 was:=a.was
 there:=λn h=>by
  have:=b.there n (AAN h a.le);rw[a.agree n h] at this;exact this
theorem Ext.out(a:Ext ι k H ι' k' H')(e:H p=some o)(hn:∀n,n<k->ι n≠p):∀n,n<k'->ι' n≠p:=λn h e2=>by
 rcases Nat.lt_or_ge n k with z|z
 ·rw[a.agree n z] at e2;exact hn n z e2
 ·have:=a.fresh n z h;rw[e2,e] at this;cases this
theorem Muts.ne(a:Muts ι k H)(e:H p=some o)(hm:TZ o=false):∀n,n<k->ι n≠p:=λn hn e2=>by
 obtain⟨o',q,h⟩:=a n hn;rw[e2,e] at q;cases q;rw[hm] at h;cases h
theorem GO(a:Ext ι k H ι' k' H')(h:SqT K H p vs):SqT K H' p vs:=by
 rcases h with h|h
 ·rcases h with h|⟨o,h⟩
  ·exact .inl (.inl (a.keep p _ h (a.was.ne h rfl)))
  ·exact .inl (.inr ⟨o,a.keep p _ h (a.was.ne h rfl)⟩)
 ·exact .inr h
theorem Oh(a:Ext ι k H ι' k' H')(h:ScrAt K H p vs):ScrAt K H' p vs:=by
 rcases h with ⟨o,h⟩|h
 ·exact .inl ⟨o,a.keep p _ h (a.was.ne h rfl)⟩
 ·exact .inr h
mutual
theorem Is.ext(a:Ext ι k H ι' k' H'):∀{d:D} {v:V},Is K ι k H d v->Is K ι' k' H' d v
 | .non,_,h=>by unfold Is at h ⊢;exact h
 | .bl _,_,h=>by unfold Is at h ⊢;exact h
 | .int _,_,h=>by unfold Is at h ⊢;exact h
 | .str _,_,h=>by unfold Is at h ⊢;exact h
 | .ty _,_,h=>by unfold Is at h ⊢;exact h
 | .scr ns,_,h=>by
  unfold Is at h ⊢;obtain⟨p,rfl,h⟩:=h;exact⟨p,rfl,Oh a h⟩
 | .tup ds,_,h=>by
  unfold Is at h ⊢;obtain⟨p,vs,rfl,h1,h2⟩:=h;exact⟨p,vs,rfl,GO a h1,IsL.ext a h2⟩
 | .lst ds,_,h=>by
  unfold Is at h ⊢;obtain⟨p,vs,rfl,h1,hn,h2⟩:=h;exact⟨p,vs,rfl,a.keep p _ h1 hn,a.out h1 hn,IsL.ext a h2⟩
 | .ref n,_,h=>by
  unfold Is at h ⊢;obtain⟨h,rfl⟩:=h;exact⟨AAN h a.le,by rw[a.agree n h]⟩
theorem IsL.ext(a:Ext ι k H ι' k' H'):∀{ds:List D} {vs:List V},IsL K ι k H ds vs->IsL K ι' k' H' ds vs
 |[],_,h=>by unfold IsL at h ⊢;exact h
 |_::_,_,h=>by
  unfold IsL at h ⊢;obtain⟨v,vs',rfl,h1,h2⟩:=h;exact⟨v,vs',rfl,Is.ext a h1,IsL.ext a h2⟩
end
noncomputable def KVs(K:KW)(ι:Nat->Addr)(k:Nat)(H:Hp):List (Key×D)->List (Key×V)->Prop
 |[],r=>r=[]
 |(y,d)::l,r=>∃v r',r=(y,v)::r'/\Is K ι k H d v/\KVs K ι k H l r'
theorem KVs.ext(a:Ext ι k H ι' k' H'):∀{l:List (Key×D)} {r:List (Key×V)},KVs K ι k H l r->KVs K ι' k' H' l r
 |[],_,h=>h
 |(_,_)::_,_,h=>by
  obtain⟨v,r',rfl,h1,h2⟩:=h;exact⟨v,r',rfl,h1.ext a,h2.ext a⟩
noncomputable def csD(c:Cs):D:=.tup [.int c.1,.int c.2.1,.tup (c.2.2.map D.int)]
noncomputable def CVs(K:KW)(ι:Nat->Addr)(k:Nat)(H:Hp):List (Cs×D)->List (Cs×Addr×V)->Prop
 |[],r=>r=[]
 |(y,d)::l,r=>∃a v r',r=(y,a,v)::r'/\Is K ι k H (csD y) (.ref a)/\Is K ι k H d v/\CVs K ι k H l r'
theorem CVs.ext(a:Ext ι k H ι' k' H'):∀{l:List (Cs×D)} {r:List (Cs×Addr×V)},CVs K ι k H l r->CVs K ι' k' H' l r
 |[],_,h=>h
 |(_,_)::_,_,h=>by
  obtain⟨b,v,r',rfl,h1,h2,h3⟩:=h;exact⟨b,v,r',rfl,h1.ext a,h2.ext a,h3.ext a⟩
noncomputable def FVs(K:KW)(ι:Nat->Addr)(k:Nat)(H:Hp):List (Str×D)->List (Str×V)->Prop
 |[],r=>r=[]
 |(y,d)::l,r=>∃v r',r=(y,v)::r'/\Is K ι k H d v/\FVs K ι k H l r'
theorem FVs.ext(a:Ext ι k H ι' k' H'):∀{l:List (Str×D)} {r:List (Str×V)},FVs K ι k H l r->FVs K ι' k' H' l r
 |[],_,h=>h
 |(_,_)::_,_,h=>by
  obtain⟨v,r',rfl,h1,h2⟩:=h;exact⟨v,r',rfl,h1.ext a,h2.ext a⟩
mutual
def hD(w:World):D->Int
 | .int i=>hashInt i
 | .str x=>hashStr w x
 | .tup ks=>reduceHash (Builtin.Tuple.tupleHashOf (hDs w ks))
 |_=>0xFCA86420
def hDs(w:World):List D->List Int
 |[]=>[]
 |k::ks=>hD w k::hDs w ks
end
noncomputable def ER(w:World)(p:Addr)(l:List (D×Addr×V)):HO:=.ext λh=>∃(us:List Value) (o:Obj) (es:Array DictEntry) (ep:Nat),Vals (l.map (·.2.2)) us/\h.get? p=some o/\o.ExactDict/\o.data=.dict es ep /\
 es.toList=(l.zip us).map (λx=>{ key:=.ref x.1.2.1,hash:=hD w x.1.1,val:=x.2 })/\(l.map (·.1)).Nodup/\l.length<=sizeLine/\(p==sysModules)=false
mutual
def Kz:D->Bool
 | .non=>true
 | .int _=>true
 | .str _=>true
 | .tup ds=>KzL ds
 |_=>false
def KzL:List D->Bool
 |[]=>true
 |d::ds=>Kz d&&KzL ds
end
mutual
def DP:D->Nat
 | .tup ks=>Bu ks+1
 |_=>0
def Bu:List D->Nat
 |[]=>0
 |k::ks=>max (DP k) (Bu ks)
end
noncomputable def PVs(K:KW)(ι:Nat->Addr)(k:Nat)(H:Hp):List (D×D)->List (D×Addr×V)->Prop
 |[],r=>r=[]
 |(y,d)::l,r=>∃a v r',r=(y,a,v)::r'/\(Kz y=true/\DP y<=8/\Is K ι k H y (.ref a))/\Is K ι k H d v/\PVs K ι k H l r'
theorem PVs.ext(a:Ext ι k H ι' k' H'):∀{l:List (D×D)} {r:List (D×Addr×V)},PVs K ι k H l r->PVs K ι' k' H' l r
 |[],_,h=>h
 |(_,_)::_,_,h=>by
  obtain⟨b,v,r',rfl,h1,h2,h3⟩:=h;exact⟨b,v,r',rfl,⟨h1.1,h1.2.1,h1.2.2.ext a⟩,h2.ext a,h3.ext a⟩
def ClsAt(K:PySem.W.Frag)(c:Str)(C:Addr):Prop:=PySem.W.nsIn K mainGlobals c=some (some (.ref C))
noncomputable def ObjIs(K:KW)(ι:Nat->Addr)(k:Nat)(H:Hp)(p:Addr):MO->HO->Prop
 | .lst ds,o=>∃vs,o=.lst vs/\IsL K ι k H ds vs
 | .dK l,o=>∃r,o=.dK r/\KVs K ι k H l r
 | .dC l,o=>∃r,o=Zp p r/\CVs K ι k H l r
 | .ins c l,o=>∃C dx r,o=.ins C dx r/\ClsAt K c C/\H dx=some (.own p)/\FVs K ι k H l r
 | .dP l,o=>∃r,o=ER K.w p r/\PVs K ι k H l r
structure RelH(K:KW)(ι:Nat->Addr)(μ:Mh)(H:Hp):Prop where
 inj:∀i j,i<μ.length->j<μ.length->ι i=ι j->i=j
 obj:∀n o,μ[n]?=some o->∃u,H (ι n)=some u/\ObjIs K ι μ.length H (ι n) o u
theorem ObjIs.mut(h:ObjIs K ι k H p o u):TZ u=true:=by
 cases o with
 |lst ds=>obtain⟨vs,rfl,_⟩:=h;rfl
 |dK l=>obtain⟨r,rfl,_⟩:=h;rfl
 |dC l=>obtain⟨r,rfl,_⟩:=h;rfl
 |ins c l=>obtain⟨C,dx,r,rfl,_⟩:=h;rfl
 |dP l=>obtain⟨r,rfl,_⟩:=h;rfl
theorem ObjIs.ext(a:Ext ι k H ι' k' H')(h:ObjIs K ι k H p o u):ObjIs K ι' k' H' p o u:=by
 cases o with
 |lst ds=>obtain⟨vs,rfl,h⟩:=h;exact⟨vs,rfl,h.ext a⟩
 |dK l=>obtain⟨r,rfl,h⟩:=h;exact⟨r,rfl,h.ext a⟩
 |dC l=>obtain⟨r,rfl,h⟩:=h;exact⟨r,rfl,h.ext a⟩
 |ins c l=>obtain⟨C,dx,r,rfl,h0,h1,h⟩:=h;exact⟨C,dx,r,rfl,h0,a.keep dx _ h1 (a.was.ne h1 rfl),h.ext a⟩
 |dP l=>obtain⟨r,rfl,h⟩:=h;exact⟨r,rfl,h.ext a⟩
theorem RelH.muts(r:RelH K ι μ H):Muts ι μ.length H:=λn hn=>by
 obtain⟨u,e,h⟩:=r.obj n μ[n] (by simp[hn]);exact⟨u,e,h.mut⟩
theorem RelH.ext0(r:RelH K ι μ H):Ext ι μ.length H ι μ.length H:=Ext.refl r.muts
theorem RelH.laid(r:RelH K ι μ H)(o:HO)(hp:H p=none):Ext ι μ.length H ι μ.length (upd H p o)/\RelH K ι μ (upd H p o):=by
 have kp:∀q u,H q=some u->upd H p o q=some u:=λq u e=>by rw[A1 (B4 e hp)];exact e
 have a:Ext ι μ.length H ι μ.length (upd H p o):=⟨AAF _,λ_ _=>rfl,λn h1 h2=>absurd h1 (by omega),λq u e _=>kp q u e,r.muts,λn hn=>by
  obtain⟨u,e,h⟩:=r.muts n hn;exact⟨u,kp _ _ e,h⟩⟩
 refine⟨a,r.inj,λn o' e=>?_⟩;obtain⟨u,e1,h⟩:=r.obj n o' e;exact⟨u,kp _ _ e1,h.ext a⟩
theorem RelH.grown(r:RelH K ι μ H)(hp:H p=none)(h:ObjIs K ι μ.length H p m o):
  ∃ι',Ext ι μ.length H ι' (μ++[m]).length (upd H p o)/\RelH K ι' (μ++[m]) (upd H p o)/\ι' μ.length=p:=by
 have kp:∀q u,H q=some u->upd H p o q=some u:=λq u e=>by rw[A1 (B4 e hp)];exact e
 let ι':Nat->Addr:=λn=>if n=μ.length then p else ι n
 have e0:ι' μ.length=p:=if_pos rfl;have e1:∀n,n<μ.length->ι' n=ι n:=λn hn=>if_neg (by omega);have a:Ext ι μ.length H ι' (μ++[m]).length (upd H p o):=⟨by simp,e1,λn h1 h2=>by
   have:n=μ.length:=by simp at h2;omega
   rw[this,e0];exact hp,λq u e _=>kp q u e,r.muts,λn hn=>by
  obtain⟨u,e,h⟩:=r.muts n hn;exact⟨u,kp _ _ e,h⟩⟩
 refine⟨ι',a,⟨λi j hi hj e=>?_,λn o' e=>?_⟩,e0⟩
 ·simp at hi hj;have old:∀i,i<μ.length->ι' i≠p:=λi hi e=>by
   obtain⟨u,q,_⟩:=r.muts i hi;rw[←e1 i hi,e,hp] at q;cases q
  rcases Nat.lt_or_ge i μ.length with zi|zi<;>rcases Nat.lt_or_ge j μ.length with zj|zj
  ·rw[e1 i zi,e1 j zj] at e;exact r.inj i j zi zj e
  ·have:j=μ.length:=by omega
   subst this;rw[e0] at e;exact absurd e (old i zi)
  ·have:i=μ.length:=by omega
   subst this;rw[e0] at e;exact absurd e.symm (old j zj)
  ·omega
 ·rcases Nat.lt_or_ge n μ.length with z|z
  ·rw[AAT z] at e;obtain⟨u,q,hq⟩:=r.obj n o' e;exact⟨u,by rw[e1 n z];exact kp _ _ q,by rw[e1 n z];exact hq.ext a⟩
  ·have hn:n=μ.length:=by
    have:=(AAU.mp e).1;simp at this;omega
   subst hn;rw[AAS (AAF _),AA1] at e;simp at e;subst e;exact⟨o,by rw[e0,BI],by rw[e0];exact h.ext a⟩
theorem RelH.changed(r:RelH K ι μ H)(hn:n<μ.length)(h:ObjIs K ι μ.length H (ι n) m o):
  Ext ι μ.length H ι (μ.set n m).length (upd H (ι n) o)/\RelH K ι (μ.set n m) (upd H (ι n) o):=by
 have ne:∀i,i<μ.length->i≠n->ι i≠ι n:=λi hi hne e=>hne (r.inj i n hi hn e);have a:Ext ι μ.length H ι (μ.set n m).length (upd H (ι n) o):=⟨by simp,λ_ _=>rfl,λi h1 h2=>by simp at h2;omega,λq u e hq=>by rw[A1 (λz=>hq n hn z.symm)];exact e,r.muts,λi hi=>by
  by_cases z:i=n
  ·subst z;exact⟨o,BI,h.mut⟩
  ·obtain⟨u,e,hu⟩:=r.muts i hi;exact⟨u,by rw[A1 (ne i hi z)];exact e,hu⟩⟩
 refine⟨a,λi j hi hj=>r.inj i j (by simpa using hi) (by simpa using hj),λi o' e=>?_⟩;by_cases z:i=n
 ·subst z;rw[List.getElem?_set_self hn] at e;cases e;exact⟨o,BI,h.ext a⟩
 ·rw[AAp (Ne.symm z)] at e;have hi:i<μ.length:=(AAU.mp e).1;obtain⟨u,q,hq⟩:=r.obj i o' e;exact⟨u,by rw[A1 (ne i hi z)];exact q,hq.ext a⟩
structure RelS(K:KW)(ι:Nat->Addr)(k:Nat)(H:Hp)(τ:Sl)(σ:St):Prop where
 len:σ.length=τ.length
 get:∀(i:Nat) (d:D),τ[i]?=some (some d)->∃v,σ[i]?=some (some v)/\Is K ι k H d v
theorem RelS.ext(a:Ext ι k H ι' k' H')(r:RelS K ι k H τ σ):RelS K ι' k' H' τ σ:=⟨r.len,λi d e=>by
 obtain⟨v,e1,h⟩:=r.get i d e;exact⟨v,e1,h.ext a⟩⟩
theorem RelS.set(r:RelS K ι k H τ σ)(i:Nat)(h:Is K ι k H d v):RelS K ι k H (τ.set i (some d)) (σ.set i (some v)):=⟨by simp[r.len],λj e q=>by
 by_cases z:i=j
 ·subst z;have hi:i<τ.length:=by
   have:=(AAU.mp q).1;simpa using this
  rw[List.getElem?_set_self hi] at q;cases q;exact⟨v,List.getElem?_set_self (by rw[r.len];exact hi),h⟩
 ·rw[AAp z] at q;obtain⟨u,e1,hu⟩:=r.get j e q;exact⟨u,by rw[AAp z];exact e1,hu⟩⟩
end
end Mi
namespace Mi
open PySem L2
inductive Fl where
 |next|brk|cont|rt (d:D)
abbrev Aft(K:KW)(ι:Nat->Addr)(μ:Mh)(H:Hp)(μ':Mh)(φ:(Nat->Addr)->Hp->Prop):Prop:=
 ∀ι' H',Ext ι μ.length H ι' μ'.length H'->RelH K ι' μ' H'->φ ι' H'
noncomputable def tE(K:KW)(m:Sl->M D):TE:=λσ H Q=>∃ι μ τ d μ',RelH K ι μ H/\RelS K ι μ.length H τ σ/\m τ μ=some (d,μ') /\
 Aft K ι μ H μ' λι' H'=>∀v,Is K ι' μ'.length H' d v->Q v H'
noncomputable def tT(K:KW)(m:Sl->M Bool):TT:=λσ H Q=>∃ι μ τ b μ',RelH K ι μ H/\RelS K ι μ.length H τ σ/\m τ μ=some (b,μ') /\
 Aft K ι μ H μ' λ_ H'=>Q b H'
noncomputable def tL(K:KW)(m:Sl->M (List D)):TA:=λσ H Q=>∃ι μ τ ds μ',RelH K ι μ H/\RelS K ι μ.length H τ σ/\m τ μ=some (ds,μ') /\
 Aft K ι μ H μ' λι' H'=>∀vs,IsL K ι' μ'.length H' ds vs->Q vs H'
noncomputable def FlP(K:KW)(Dn:T4)(ι':Nat->Addr)(k:Nat)(H':Hp)(τ':Sl)(σ':St):Fl->Prop
 | .next=>Dn.nx σ' H'
 | .brk=>Dn.bk σ' H'
 | .cont=>Dn.ct σ' H'
 | .rt d=>∀v,Is K ι' k H' d v->Dn.rt v H'
noncomputable def tSt(K:KW)(m:Sl->M (Fl×Sl)):TS:=λDn σ H=>∃ι μ τ f τ' μ',RelH K ι μ H/\RelS K ι μ.length H τ σ/\m τ μ=some ((f,τ'),μ') /\
 Aft K ι μ H μ' λι' H'=>∀σ',RelS K ι' μ'.length H' τ' σ'->FlP K Dn ι' μ'.length H' τ' σ' f
structure RE(X:Cx)(e:Expr)(m:Sl->M D):Prop where
 pe:PE X e (tE X.kw m)
structure RT(X:Cx)(e:Expr)(m:Sl->M Bool):Prop where
 pe:PT X e (tT X.kw m)
structure RW(X:Cx)(e:Expr)(m:Sl->M Bool):Prop where
 pe:PW X e (tT X.kw m)
structure RA(X:Cx)(es:List Expr)(m:Sl->M (List D)):Prop where
 pe:PA X es (tL X.kw m)
structure RS(X:Cx)(st:Stmt)(m:Sl->M (Fl×Sl)):Prop where
 pe:PS X st (tSt X.kw m)
structure RSs(X:Cx)(st:List Stmt)(m:Sl->M (Fl×Sl)):Prop where
 pe:PSs X st (tSt X.kw m)
section
variable{X:Cx}{e a b c:Expr}{es:List Expr}{pos:Pos}
theorem PE.wk{t t':TE}(h:PE X e t)(w:∀σ H Q,t' σ H Q->t σ H Q):PE X e t':=λpins s σ H Q I q=>h pins s σ H Q I (w σ H Q q)
theorem RE.wk{m:Sl->M D}{t:TE}(h:PE X e t)(w:∀σ H Q,tE X.kw m σ H Q->t σ H Q):RE X e m:=⟨PE.wk h w⟩
theorem PT.wk{t t':TT}(h:PT X e t)(w:∀σ H Q,t' σ H Q->t σ H Q):PT X e t':=λpins s σ H Q I q=>h pins s σ H Q I (w σ H Q q)
theorem RT.wk{m:Sl->M Bool}{t:TT}(h:PT X e t)(w:∀σ H Q,tT X.kw m σ H Q->t σ H Q):RT X e m:=⟨PT.wk h w⟩
theorem PW.wk{t t':TT}(h:PW X e t)(w:∀σ H Q,t' σ H Q->t σ H Q):PW X e t':=λwh pins s σ H Q I q=>h wh pins s σ H Q I (w σ H Q q)
theorem RW.wk{m:Sl->M Bool}{t:TT}(h:PW X e t)(w:∀σ H Q,tT X.kw m σ H Q->t σ H Q):RW X e m:=⟨PW.wk h w⟩
theorem PA.wk{t t':TA}(h:PA X es t)(w:∀σ H Q,t' σ H Q->t σ H Q):PA X es t':=λp pins s σ H Q I q=>h p pins s σ H Q I (w σ H Q q)
theorem RA.wk{m:Sl->M (List D)}{t:TA}(h:PA X es t)(w:∀σ H Q,tL X.kw m σ H Q->t σ H Q):RA X es m:=⟨PA.wk h w⟩
theorem PS.wk{st:Stmt}{t t':TS}(h:PS X st t)(w:∀D σ H,t' D σ H->t D σ H):PS X st t':=λpins s σ H D I q=>h pins s σ H D I (w D σ H q)
theorem RS.wk{m:Sl->M (Fl×Sl)}{st:Stmt}{t:TS}(h:PS X st t)(w:∀D σ H,tSt X.kw m D σ H->t D σ H):RS X st m:=⟨PS.wk h w⟩
theorem PSs.wk{st:List Stmt}{t t':TS}(h:PSs X st t)(w:∀D σ H,t' D σ H->t D σ H):PSs X st t':=λpins s σ H D I q=>h pins s σ H D I (w D σ H q)
theorem RSs.wk{m:Sl->M (Fl×Sl)}{st:List Stmt}{t:TS}(h:PSs X st t)(w:∀D σ H,tSt X.kw m D σ H->t D σ H):RSs X st m:=⟨PSs.wk h w⟩
theorem OpR.wk{f:Value->Value->Sem Value}{r r':R2}(h:OpR X f r)(w:∀x y H Q,r' x y H Q->r x y H Q):OpR X f r':=λpins s σ H x y v u Q I rx ry q=>h pins s σ H x y v u Q I rx ry (w x y H Q q)
noncomputable def F2:Expr->Bool
 | .Starred _ _=>true
 |_=>false
theorem As{e:Expr}{es:List Expr}{env:Env}(h:F2 e=false):starEach (e::es) env=(false,eval e env)::starEach es env:=by
 cases e<;>first|rfl|cases h
theorem BW{pos:Pos}{env:Env}:∀{es:List Expr},(es.all λe=>!F2 e)=true->(backTo pos (starEach es env)).any (·.1)=false
 |[],_=>rfl
 |e::es,h=>by
  rw[List.all_cons,Bool.and_eq_true] at h;have h1:F2 e=false:=by simpa using h.1
  have ih:=BW (pos:=pos) (env:=env) h.2;rw[As h1];unfold backTo at ih ⊢;simpa using ih
noncomputable def AC(i:Nat):Sl->M D:=λτ μ=>match τ[i]? with
 |some (some d)=>some (d,μ)
 |_=>none
noncomputable def mC(d:D):Sl->M D:=λ_=>ret d
theorem AA(i:Nat){x:Str}(hN:X.N[i]?=some x:=by rfl)(hv:Vis X.env.scope x:=by first|exact Or.inl rfl|exact Or.inr (Or.inl rfl)|exact Or.inr (Or.inr rfl))(hd:(x==("__debug__" : Str))=false:=by decide)
  (hcd:(x==("__classdict__" : Str))=false:=by decide):RE X (.Name x pos) (AC i):=RE.wk (Xi hN hv hd hcd) λσ H Q h=>by
 obtain⟨ι,μ,τ,d,μ',R,S,e,q⟩:=h;unfold AC at e;split at e
 ·rename_i d' ed;cases e;obtain⟨v,e1,h1⟩:=S.get i _ ed;exact⟨v,e1,q ι H R.ext0 R v h1⟩
 ·cases e
theorem P9{t:TE}{d:D}{v:V}(h:PE X e (tC v))(hd:∀ι k H,Is X.kw ι k H d v):RE X e (mC d):=RE.wk h λσ H Q h=>by
 obtain⟨ι,μ,τ,d,μ',R,S,e,q⟩:=h;cases e;exact q ι H R.ext0 R v (hd _ _ _)
theorem AE{i j}:RE X (.Constant (.int i) j pos) (mC (.int i)):=P9 (t:=λ_ _ _=>True) Xo λ_ _ _=>by unfold Is;rfl
theorem MJ{i j}:RE X (.Constant (.bool i) j pos) (mC (.bl i)):=P9 (t:=λ_ _ _=>True) ZN λ_ _ _=>by unfold Is;rfl
theorem Ar{j}:RE X (.Constant .none j pos) (mC .non):=P9 (t:=λ_ _ _=>True) Xn λ_ _ _=>by unfold Is;rfl
theorem AO{i j}:RE X (.Constant (.str i) j pos) (mC (.str i)):=P9 (t:=λ_ _ _=>True) Sr λ_ _ _=>by unfold Is;rfl
theorem U9{x:Str}{v:V}{u:Value}{d:D}(hm:X.mg x=some u)(r:RelV v u)(hd:∀ι k H,Is X.kw ι k H d v)(hg:Gl X x:=by rfl)(hdb:(x==("__debug__" : Str))=false:=by decide):RE X (.Name x pos) (mC d):=
 P9 (t:=λ_ _ _=>True) (Ou hg hm r hdb) hd
noncomputable def mOp(g:D->D->M D)(ma mb:Sl->M D):Sl->M D:=λτ=>bnd (ma τ) λx=>bnd (mb τ) λy=>g x y
noncomputable def mUn(g:D->M D)(ma:Sl->M D):Sl->M D:=λτ=>bnd (ma τ) g
noncomputable def rM(K:KW)(g:D->D->M D):R2:=λx y H Q=>∃ι μ a b d μ',RelH K ι μ H/\Is K ι μ.length H a x/\Is K ι μ.length H b y/\g a b μ=some (d,μ') /\
 Aft K ι μ H μ' λι' H'=>∀v,Is K ι' μ'.length H' d v->Q v H'
noncomputable def rM1(K:KW)(g:D->M D):V->Hp->VK->Prop:=λx H Q=>∃ι μ a d μ',RelH K ι μ H/\Is K ι μ.length H a x/\g a μ=some (d,μ') /\
 Aft K ι μ H μ' λι' H'=>∀v,Is K ι' μ'.length H' d v->Q v H'
noncomputable def rMA(K:KW)(g:List D->M D):List V->Hp->VK->Prop:=λxs H Q=>∃ι μ as d μ',RelH K ι μ H/\IsL K ι μ.length H as xs/\g as μ=some (d,μ') /\
 Aft K ι μ H μ' λι' H'=>∀v,Is K ι' μ'.length H' d v->Q v H'
theorem Oc{K:KW}{g:D->D->M D}{ma mb:Sl->M D}{σ:St}{H:Hp}{Q:VK}(h:tE K (mOp g ma mb) σ H Q):tOp (rM K g) (tE K ma) (tE K mb) σ H Q:=by
 obtain⟨ι,μ,τ,d,μ',R,S,e,q⟩:=h;obtain⟨x,μ1,e1,e⟩:=AI e;obtain⟨y,μ2,e2,e3⟩:=AI e;refine⟨ι,μ,τ,x,μ1,R,S,e1,λι1 H1 E1 R1 v1 i1=>?_⟩;refine⟨ι1,μ1,τ,y,μ2,R1,S.ext E1,e2,λι2 H2 E2 R2 v2 i2=>?_⟩;exact⟨ι2,μ2,x,y,d,μ',R2,i1.ext E2,i2,e3,λι3 H3 E3 R3 v3 i3=>q ι3 H3 ((E1.trans E2).trans E3) R3 v3 i3⟩
theorem Yx{K:KW}{g:D->M D}{ma:Sl->M D}{σ:St}{H:Hp}{Q:VK}(h:tE K (mUn g ma) σ H Q):tUn (rM1 K g) (tE K ma) σ H Q:=by
 obtain⟨ι,μ,τ,d,μ',R,S,e,q⟩:=h;obtain⟨x,μ1,e1,e⟩:=AI e;refine⟨ι,μ,τ,x,μ1,R,S,e1,λι1 H1 E1 R1 v1 i1=>?_⟩;exact⟨ι1,μ1,x,d,μ',R1,i1,e,λι3 H3 E3 R3 v3 i3=>q ι3 H3 (E1.trans E3) R3 v3 i3⟩
theorem Af{op:Operator}{g:D->D->M D}{ma mb:Sl->M D}(ho:OpR X (binaryOp op) (rM X.kw g))(ha:RE X a ma)(hb:RE X b mb):RE X (.BinOp a op b pos) (mOp g ma mb):=RE.wk (ZK ho ha.pe hb.pe) λ_ _ _ h=>Oc h
theorem KD{op:UnaryOp}{g:D->M D}{ma:Sl->M D}(ho:UnR X (unaryOp op) (rM1 X.kw g))(ha:RE X a ma):RE X (.UnaryOp op a pos) (mUn g ma):=RE.wk (ZI ho ha.pe) λ_ _ _ h=>Yx h
theorem BK{op:CmpOp}{g:D->D->M D}{ma mb:Sl->M D}(ho:OpR X (compareOp op) (rM X.kw g))(ha:RE X a ma)(hb:RE X b mb)(hm:behindInMarks op b=false:=by first|exact TC _|rfl):RE X (.Compare a [op] [b] pos) (mOp g ma mb):=
 RE.wk (Vb ho ha.pe hb.pe hm) λ_ _ _ h=>Oc h
theorem AL{g:D->D->M D}{ma mb:Sl->M D}(ho:IxR X (rM X.kw g))(ha:RE X a ma)(hb:RE X b mb)(hs:Pd b:=by exact λ_ _=>rfl):RE X (.Subscript a b pos) (mOp g ma mb):=RE.wk (ZL ho ha.pe hb.pe hs) λ_ _ _ h=>Oc h
noncomputable def asB:D->M Bool
 | .bl b=>ret b
 |_=>A5
noncomputable def AS(m:Sl->M D):Sl->M Bool:=λτ=>bnd (m τ) asB
theorem OZ{K:KW}{m:Sl->M D}{σ:St}{H:Hp}{Q:Bool->Hp->Prop}(h:tT K (AS m) σ H Q):tE K m σ H λx H'=>∃k,x=.bl k/\Q k H':=by
 obtain⟨ι,μ,τ,b,μ',R,S,e,q⟩:=h;obtain⟨x,μ1,e1,e⟩:=AI e;refine⟨ι,μ,τ,x,μ1,R,S,e1,λι1 H1 E1 R1 v1 i1=>?_⟩;cases x with
 |bl k=>
  cases e;unfold Is at i1;exact⟨b,i1,q ι1 H1 E1 R1⟩
 |_=>cases e
theorem AW{op:CmpOp}{g:D->D->M D}{ma mb:Sl->M D}(ho:OpR X (compareOp op) (rM X.kw g))(ha:RE X a ma)(hb:RE X b mb)(hm:behindInMarks op b=false:=by first|exact TC _|rfl):RT X (.Compare a [op] [b] pos) (AS (mOp g ma mb)):=
 RT.wk (VH ho ha.pe hb.pe hm) λσ H Q h=>Oc (Q:=λx H'=>∃k,x=.bl k/\Q k H') (OZ h)
theorem Ft{m:Sl->M D}(h:RE X e m)(he:∀whole,isTrue e X.env whole=(do let v ←whole;standAt e.pos;holding [v] (truthy v)):=by intro _;rfl):RT X e (AS m):=
 RT.wk (XW h.pe he) λ_ _ _ q=>OZ q
noncomputable def GX(ma mb:Sl->M Bool):Sl->M Bool:=λτ=>bnd (ma τ) λx=>if x=true then mb τ else ret false
noncomputable def mOr(ma mb:Sl->M Bool):Sl->M Bool:=λτ=>bnd (ma τ) λx=>if x=true then ret true else mb τ
noncomputable def Md(ma:Sl->M Bool):Sl->M Bool:=λτ=>bnd (ma τ) λx=>ret (!x)
theorem LC{ma:Sl->M Bool}(ha:RT X a ma):RT X (.UnaryOp .Not a pos) (Md ma):=RT.wk (XX ha.pe) λσ H Q h=>by
 obtain⟨ι,μ,τ,b,μ',R,S,e,q⟩:=h;obtain⟨x,μ1,e1,e⟩:=AI e;cases e;exact⟨ι,μ,τ,x,_,R,S,e1,q⟩
theorem FH{ma:Sl->M Bool}(ha:RT X a ma):RW X (.BoolOp .And [a] pos) ma:=⟨VF ha.pe⟩
theorem Ik{ma:Sl->M Bool}(ha:RT X a ma):RW X (.BoolOp .Or [a] pos) ma:=⟨XT ha.pe⟩
theorem G1{rest:List Expr}{ma mb:Sl->M Bool}(ha:RT X a ma)(hb:RW X (.BoolOp .And (b::rest) pos) mb):RW X (.BoolOp .And (a::b::rest) pos) (GX ma mb):=RW.wk (XV ha.pe hb.pe) λσ H Q h=>by
 obtain⟨ι,μ,τ,z,μ',R,S,e,q⟩:=h;obtain⟨x,μ1,e1,e⟩:=AI e;refine⟨ι,μ,τ,x,μ1,R,S,e1,λι1 H1 E1 R1=>?_⟩;cases x with
 |true=>exact⟨ι1,μ1,τ,z,μ',R1,S.ext E1,e,λι2 H2 E2 R2=>q ι2 H2 (E1.trans E2) R2⟩
 |false=>cases e;exact q ι1 H1 E1 R1
theorem KB{rest:List Expr}{ma mb:Sl->M Bool}(ha:RT X a ma)(hb:RW X (.BoolOp .Or (b::rest) pos) mb):RW X (.BoolOp .Or (a::b::rest) pos) (mOr ma mb):=RW.wk (ZG ha.pe hb.pe) λσ H Q h=>by
 obtain⟨ι,μ,τ,z,μ',R,S,e,q⟩:=h;obtain⟨x,μ1,e1,e⟩:=AI e;refine⟨ι,μ,τ,x,μ1,R,S,e1,λι1 H1 E1 R1=>?_⟩;cases x with
 |true=>cases e;exact q ι1 H1 E1 R1
 |false=>exact⟨ι1,μ1,τ,z,μ',R1,S.ext E1,e,λι2 H2 E2 R2=>q ι2 H2 (E1.trans E2) R2⟩
theorem RW.rt{m:Sl->M Bool}(h:RW X e m):RT X e m:=⟨h.pe.pt⟩
noncomputable def mIf(mc:Sl->M Bool)(ma mb:Sl->M D):Sl->M D:=λτ=>bnd (mc τ) λx=>if x=true then ma τ else mb τ
theorem DG{mc:Sl->M Bool}{ma mb:Sl->M D}(hc:RT X c mc)(ha:RE X a ma)(hb:RE X b mb):RE X (.IfExp c a b pos) (mIf mc ma mb):=RE.wk (Sv hc.pe ha.pe hb.pe) λσ H Q h=>by
 obtain⟨ι,μ,τ,z,μ',R,S,e,q⟩:=h;obtain⟨x,μ1,e1,e⟩:=AI e;refine⟨ι,μ,τ,x,μ1,R,S,e1,λι1 H1 E1 R1=>?_⟩;cases x with
 |true=>exact⟨ι1,μ1,τ,z,μ',R1,S.ext E1,e,λι2 H2 E2 R2=>q ι2 H2 (E1.trans E2) R2⟩
 |false=>exact⟨ι1,μ1,τ,z,μ',R1,S.ext E1,e,λι2 H2 E2 R2=>q ι2 H2 (E1.trans E2) R2⟩
noncomputable def Ep(ma mb:Sl->M D):Sl->M D:=λτ=>bnd (ma τ) λx=>bnd (asB x) λc=>if c=true then mb τ else ret (.bl false)
noncomputable def Nq(ma mb:Sl->M D):Sl->M D:=λτ=>bnd (ma τ) λx=>bnd (asB x) λc=>if c=true then ret (.bl true) else mb τ
noncomputable def WS(ma:Sl->M D):Sl->M D:=λτ=>bnd (ma τ) λx=>bnd (asB x) λc=>ret (.bl (!c))
theorem Gj{x:D}{μ μ1:Mh}{c:Bool}(h:asB x μ=some (c,μ1)):x=.bl c/\μ1=μ:=by
 cases x with
 |bl k=>cases h;exact⟨rfl,rfl⟩
 |_=>cases h
theorem Dz{op}{m:Sl->M D}(h:RE X a m):RE X (.BoolOp op [a] pos) m:=⟨Xl h.pe⟩
theorem Fw{rest:List Expr}{ma mb:Sl->M D}(ha:RE X a ma)(hb:RE X (.BoolOp .And (b::rest) pos) mb):RE X (.BoolOp .And (a::b::rest) pos) (Ep ma mb):=RE.wk (Xr ha.pe hb.pe) λσ H Q h=>by
 obtain⟨ι,μ,τ,z,μ',R,S,e,q⟩:=h;obtain⟨x,μ1,e1,e⟩:=AI e;obtain⟨c,μ2,e2,e⟩:=AI e;obtain⟨rfl,rfl⟩:=Gj e2;refine⟨ι,μ,τ,_,μ2,R,S,e1,λι1 H1 E1 R1 v1 i1=>⟨c,by unfold Is at i1;exact i1,?_⟩⟩;cases c with
 |true=>exact⟨ι1,μ2,τ,z,μ',R1,S.ext E1,e,λι2 H2 E2 R2=>q ι2 H2 (E1.trans E2) R2⟩
 |false=>cases e;exact q ι1 H1 E1 R1 _ (by unfold Is;rfl)
theorem ST{rest:List Expr}{ma mb:Sl->M D}(ha:RE X a ma)(hb:RE X (.BoolOp .Or (b::rest) pos) mb):RE X (.BoolOp .Or (a::b::rest) pos) (Nq ma mb):=RE.wk (ZJ ha.pe hb.pe) λσ H Q h=>by
 obtain⟨ι,μ,τ,z,μ',R,S,e,q⟩:=h;obtain⟨x,μ1,e1,e⟩:=AI e;obtain⟨c,μ2,e2,e⟩:=AI e;obtain⟨rfl,rfl⟩:=Gj e2;refine⟨ι,μ,τ,_,μ2,R,S,e1,λι1 H1 E1 R1 v1 i1=>⟨c,by unfold Is at i1;exact i1,?_⟩⟩;cases c with
 |true=>cases e;exact q ι1 H1 E1 R1 _ (by unfold Is;rfl)
 |false=>exact⟨ι1,μ2,τ,z,μ',R1,S.ext E1,e,λι2 H2 E2 R2=>q ι2 H2 (E1.trans E2) R2⟩
theorem XS{ma:Sl->M D}(ha:RE X a ma):RE X (.UnaryOp .Not a pos) (WS ma):=RE.wk (Xm ha.pe) λσ H Q h=>by
 obtain⟨ι,μ,τ,z,μ',R,S,e,q⟩:=h;obtain⟨x,μ1,e1,e⟩:=AI e;obtain⟨c,μ2,e2,e⟩:=AI e;obtain⟨rfl,rfl⟩:=Gj e2;cases e;exact⟨ι,μ,τ,_,_,R,S,e1,λι1 H1 E1 R1 v1 i1=>⟨c,by unfold Is at i1;exact i1,q ι1 H1 E1 R1 _ (by unfold Is;rfl)⟩⟩
noncomputable def LM(g g':D->D->M D)(ma mb mc:Sl->M D):Sl->M D:=λτ=>bnd (ma τ) λx=>bnd (mb τ) λy=>bnd (g x y) λz=>bnd (asB z) λk=>if k=true then bnd (mc τ) λw=>g' y w else ret (.bl false)
noncomputable def AJ:Sl->M (List D):=λ_=>ret []
noncomputable def AD(m:Sl->M D)(r:Sl->M (List D)):Sl->M (List D):=λτ=>bnd (m τ) λx=>bnd (r τ) λxs=>ret (x::xs)
theorem AG:RA X [] AJ:=RA.wk Iq λσ H Q h=>by
 obtain⟨ι,μ,τ,z,μ',R,S,e,q⟩:=h;cases e;exact q ι H R.ext0 R [] .nil
theorem AB{m:Sl->M D}{r:Sl->M (List D)}(h:RE X e m)(hr:RA X es r)(hs:starEach (e::es) X.env=(false,eval e X.env)::starEach es X.env:=by exact As rfl):RA X (e::es) (AD m r):=RA.wk (GT h.pe hr.pe hs) λσ H Q h=>by
 obtain⟨ι,μ,τ,z,μ',R,S,e,q⟩:=h;obtain⟨x,μ1,e1,e⟩:=AI e;obtain⟨xs,μ2,e2,e⟩:=AI e;cases e;exact⟨ι,μ,τ,x,μ1,R,S,e1,λι1 H1 E1 R1 v1 i1=>⟨ι1,μ1,τ,xs,_,R1,S.ext E1,e2,λι2 H2 E2 R2 vs i2=>q ι2 H2 (E1.trans E2) R2 _ (.cons (i1.ext E2) i2)⟩⟩
noncomputable def lim(n:Nat):M Unit:=λμ=>if n<=sizeLine then some ((),μ) else none
theorem Dg{n:Nat}{μ μ1:Mh}{u:Unit}(h:lim n μ=some (u,μ1)):n<=sizeLine/\μ1=μ:=by
 unfold lim at h;split at h
 ·rename_i hn;cases h;exact⟨hn,rfl⟩
 ·cases h
theorem G7{n:Nat}(h:n<=sizeLine)(μ:Mh):lim n μ=some ((),μ):=if_pos h
noncomputable def Ah(ds:List D):M D:=bnd (lim ds.length) λ_=>ret (.tup ds)
noncomputable def Ba(ds:List D):M D:=bnd (lim ds.length) λ_=>ret (.lst ds)
noncomputable def EX(ds:List D):M D:=bnd (lim ds.length) λ_=>λμ=>some (.ref μ.length,μ++[.lst ds])
noncomputable def AH(f:List D->M D)(m:Sl->M (List D)):Sl->M D:=λτ=>bnd (m τ) f
theorem Ox{K:KW}{ι:Nat->Addr}{μ μ':Mh}{H:Hp}{ds:List D}{vs:List V}{d:D}{Q:VK}(R:RelH K ι μ H)(i:IsL K ι μ.length H ds vs)(e:Ah ds μ=some (d,μ'))(q:Aft K ι μ H μ' λι' H'=>∀v,Is K ι' μ'.length H' d v->Q v H'):
  vs.length<=sizeLine/\∀p,H p=none->Q (.ref p) (upd H p (.tup vs)):=by
 obtain⟨u,μ1,e1,e2⟩:=AI e;clear e;obtain⟨hl,e3⟩:=Dg e1;cases e2;cases e3;refine⟨by rw[i.length];exact hl,λp hp=>?_⟩;obtain⟨E1,R1⟩:=R.laid (.tup vs) hp;exact q ι _ E1 R1 _ (by unfold Is;exact⟨p,vs,rfl,SqT.of BI,i.ext E1⟩)
theorem D6{K:KW}{ι:Nat->Addr}{μ μ':Mh}{H:Hp}{ds:List D}{vs:List V}{d:D}{Q:VK}(R:RelH K ι μ H)(i:IsL K ι μ.length H ds vs)(e:Ba ds μ=some (d,μ'))(q:Aft K ι μ H μ' λι' H'=>∀v,Is K ι' μ'.length H' d v->Q v H'):
  vs.length<=sizeLine/\∀p,H p=none->Q (.ref p) (upd H p (.lst vs)):=by
 obtain⟨u,μ1,e1,e2⟩:=AI e;clear e;obtain⟨hl,e3⟩:=Dg e1;cases e2;cases e3;refine⟨by rw[i.length];exact hl,λp hp=>?_⟩;obtain⟨E1,R1⟩:=R.laid (.lst vs) hp;have ho:∀n,n<μ.length->ι n≠p:=λn hn z=>by
  obtain⟨o,e,_⟩:=R.muts n hn;rw[z,hp] at e;cases e
 exact q ι _ E1 R1 _ (by unfold Is;exact⟨p,vs,rfl,BI,ho,i.ext E1⟩)
theorem Oz{K:KW}{ι:Nat->Addr}{μ μ':Mh}{H:Hp}{ds:List D}{vs:List V}{d:D}{Q:VK}(R:RelH K ι μ H)(i:IsL K ι μ.length H ds vs)(e:EX ds μ=some (d,μ'))(q:Aft K ι μ H μ' λι' H'=>∀v,Is K ι' μ'.length H' d v->Q v H'):
  vs.length<=sizeLine/\∀p,H p=none->Q (.ref p) (upd H p (.lst vs)):=by
 obtain⟨u,μ1,e1,e2⟩:=AI e;clear e;obtain⟨hl,e3⟩:=Dg e1;cases e2;cases e3;refine⟨by rw[i.length];exact hl,λp hp=>?_⟩;obtain⟨ι',E1,R1,e0⟩:=R.grown (m:=.lst ds) hp ⟨vs,rfl,i⟩;exact q ι' _ E1 R1 _ (by unfold Is;exact⟨by simp,by rw[e0]⟩)
theorem Dt{K:KW}{f:List D->M D}{m:Sl->M (List D)}{σ:St}{H:Hp}{Q:VK}{R:List V->Hp->Prop}(h:tE K (AH f m) σ H Q)
  (hf:∀ι μ μ' H ds vs d,RelH K ι μ H->IsL K ι μ.length H ds vs->f ds μ=some (d,μ')->(Aft K ι μ H μ' λι' H'=>∀v,Is K ι' μ'.length H' d v->Q v H')->R vs H):tL K m σ H R:=by
 obtain⟨ι,μ,τ,z,μ',S1,S,e,q⟩:=h;obtain⟨ds,μ1,e1,e⟩:=AI e;exact⟨ι,μ,τ,ds,μ1,S1,S,e1,λι1 H1 E1 R1 vs iv=>hf ι1 μ1 μ' H1 ds vs z R1 iv e λι2 H2 E2 R2=>q ι2 H2 (E1.trans E2) R2⟩
theorem AY{x1}{m:Sl->M (List D)}(h:RA X es m):RE X (.Tuple es x1 pos) (AH Ah m):=RE.wk (Xj h.pe) λ_ _ _ q=>Dt q λ_ _ _ _ _ _ _ R i e q=>Ox R i e q
theorem CM{m:Sl->M (List D)}(h:RA X es m):RE X (.List es pos) (AH Ba m):=RE.wk (Su h.pe) λ_ _ _ q=>Dt q λ_ _ _ _ _ _ _ R i e q=>D6 R i e q
theorem D3{m:Sl->M (List D)}(h:RA X es m):RE X (.List es pos) (AH EX m):=RE.wk (Su h.pe) λ_ _ _ q=>Dt q λ_ _ _ _ _ _ _ R i e q=>Oz R i e q
theorem BL{id:String}{x:Str}{g:List D->M D}{m:Sl->M (List D)}{p:Pos}(hc:Bv X (.builtin id) (rMA X.kw g))(hm:X.mg x=none)(hv:bootBuiltins x=some (.builtin id))(ha:RA X (e::es) m)(hg:Gl X x:=by rfl)(hn:x ≠ "__name__" := by decide)(hdb:(x==("__debug__" : Str))=false:=by decide)
  (he:starEach (e::es) X.env=(false,eval e X.env)::starEach es X.env:=by exact As rfl) (hpl:(backTo pos (starEach es X.env)).any (·.1)=false:=by exact BW rfl):RE X (.Call (.Name x p) (e::es) [] pos) (AH g m):=
 RE.wk (MM hc hg hm hv ha.pe hn hdb he hpl) λ_ _ _ q=>Dt q λι μ μ' H ds vs d R i e q=>⟨ι,μ,ds,d,μ',R,i,e,q⟩
theorem BR{T:String}{x:Str}{g:List D->M D}{m:Sl->M (List D)}{p:Pos}(hc:Bv X (.type T) (rMA X.kw g))(hm:X.mg x=none)(hv:bootBuiltins x=some (.type T))(ha:RA X (e::es) m)(hg:Gl X x:=by rfl)(hn:x ≠ "__name__" := by decide)(hdb:(x==("__debug__" : Str))=false:=by decide)
  (he:starEach (e::es) X.env=(false,eval e X.env)::starEach es X.env:=by exact As rfl) (hpl:(backTo pos (starEach es X.env)).any (·.1)=false:=by exact BW rfl):RE X (.Call (.Name x p) (e::es) [] pos) (AH g m):=
 RE.wk (FJ hc hg hm hv ha.pe hn hdb he hpl) λ_ _ _ q=>Dt q λι μ μ' H ds vs d R i e q=>⟨ι,μ,ds,d,μ',R,i,e,q⟩
noncomputable def spM(K:KW)(n:Nat)(φ:List D->M D):Sp:=λvs H Q _=>vs.length=n/\rMA K φ vs H Q
theorem VC{n k:Nat}{φ:List D->M D}{f:Addr}{fd:FuncData}{ps:List Str}{x:Str}{m:Sl->M (List D)}{p:Pos}(F:FnOk X.prog X.w X.kw X.mg X.base CX0 k f fd ps (spM X.kw n φ))(hr:Room k X.A)(hm:X.mg x=some (.ref f))(hk:PySem.W.keepIn X.kw (.ref f)=true)(hb:Binds X.kw fd ps [])
  (hφ:∀ds μ r,φ ds μ=some r->ds.length=n) (ha:RA X (e::es) m) (hg:Gl X x:=by rfl) (hdb:(x==("__debug__" : Str))=false:=by decide) (he:starEach (e::es) X.env=(false,eval e X.env)::starEach es X.env:=by exact As rfl) (hpl:(backTo pos (starEach es X.env)).any (·.1)=false:=by exact BW rfl) :
  RE X (.Call (.Name x p) (e::es) [] pos) (AH φ m):=
 RE.wk (Vc F hr hg hm hk hb .nil S0 ha.pe hdb he hpl) λ_ _ _ q=>Dt q λι μ μ' H ds vs d R i e q=>by
  rw[AAb];exact⟨by rw[i.length];exact hφ ds μ _ e,ι,μ,ds,d,μ',R,i,e,q⟩
end
section
variable{X:Cx}{e a c tg iter:Expr}{es:List Expr}{pos:Pos}{st:Stmt}{rest body:List Stmt}
noncomputable def Ak:Sl->M (Fl×Sl):=λτ=>ret (.next,τ)
noncomputable def AQ(m1 m2:Sl->M (Fl×Sl)):Sl->M (Fl×Sl):=λτ=>bnd (m1 τ) λr=>match r.1 with
 | .next=>m2 r.2
 |f=>ret (f,r.2)
theorem AZ:RSs X [] Ak:=RSs.wk VJ λDn σ H h=>by
 obtain⟨ι,μ,τ,f,τ',μ',R,S,e,q⟩:=h;cases e;exact q ι H R.ext0 R σ S
theorem AF(h1:RS X st m1)(h2:RSs X rest m2):RSs X (st::rest) (AQ m1 m2):=RSs.wk (Sd h1.pe h2.pe) λDn σ H h=>by
 obtain⟨ι,μ,τ,f,τ',μ',R,S,e,q⟩:=h;obtain⟨⟨f1,τ1⟩,μ1,e1,e⟩:=AI e;refine⟨ι,μ,τ,f1,τ1,μ1,R,S,e1,λι1 H1 E1 R1 σ1 S1=>?_⟩;cases f1 with
 |next=>exact⟨ι1,μ1,τ1,f,τ',μ',R1,S1,e,λι2 H2 E2 R2=>q ι2 H2 (E1.trans E2) R2⟩
 |brk=>cases e;exact q ι1 H1 E1 R1 σ1 S1
 |cont=>cases e;exact q ι1 H1 E1 R1 σ1 S1
 |rt d=>cases e;exact q ι1 H1 E1 R1 σ1 S1
theorem AK(h:RS X st m):RSs X [st] m:=⟨VI h.pe⟩
noncomputable def Bs(m:Sl->M D):Sl->M (Fl×Sl):=λτ=>bnd (m τ) λ_=>ret (.next,τ)
theorem CG(h:RE X e m)(hs:swapsWith e none pos.line X.env=pure false:=by rfl):RS X (.Expr e pos) (Bs m):=RS.wk (VM h.pe hs) λDn σ H h=>by
 obtain⟨ι,μ,τ,f,τ',μ',R,S,e,q⟩:=h;obtain⟨x,μ1,e1,e⟩:=AI e;cases e;exact⟨ι,μ,_,x,_,R,S,e1,λι1 H1 E1 R1 v i1=>q ι1 H1 E1 R1 σ (S.ext E1)⟩
noncomputable def Ae(m:Sl->M D):Sl->M (Fl×Sl):=λτ=>bnd (m τ) λd=>ret (.rt d,τ)
theorem AU(h:RE X e m):RS X (.Return (some e) pos) (Ae m):=RS.wk (XZ h.pe) λDn σ H h=>by
 obtain⟨ι,μ,τ,f,τ',μ',R,S,e,q⟩:=h;obtain⟨x,μ1,e1,e⟩:=AI e;cases e;exact⟨ι,μ,_,x,_,R,S,e1,λι1 H1 E1 R1 v i1=>q ι1 H1 E1 R1 σ (S.ext E1) v i1⟩
noncomputable def sIf(mc:Sl->M Bool)(m1 m2:Sl->M (Fl×Sl)):Sl->M (Fl×Sl):=λτ=>bnd (mc τ) λx=>if x=true then m1 τ else m2 τ
theorem Aj(hc:RT X c mc)(h1:RSs X body m1)(h2:RSs X rest m2):RS X (.If c body rest pos) (sIf mc m1 m2):=RS.wk (ZH hc.pe h1.pe h2.pe) λDn σ H h=>by
 obtain⟨ι,μ,τ,f,τ',μ',R,S,e,q⟩:=h;obtain⟨x,μ1,e1,e⟩:=AI e;refine⟨ι,μ,τ,x,μ1,R,S,e1,λι1 H1 E1 R1=>?_⟩;cases x with
 |true=>exact⟨ι1,μ1,τ,f,τ',μ',R1,S.ext E1,e,λι2 H2 E2 R2=>q ι2 H2 (E1.trans E2) R2⟩
 |false=>exact⟨ι1,μ1,τ,f,τ',μ',R1,S.ext E1,e,λι2 H2 E2 R2=>q ι2 H2 (E1.trans E2) R2⟩
noncomputable def SE:Sl->M (Fl×Sl):=λ_=>A5
theorem SI:RS X st SE:=RS.wk Sf λDn σ H h=>by
 obtain⟨ι,μ,τ,f,τ',μ',R,S,e,q⟩:=h;cases e
noncomputable def tG(K:KW)(bf:D->Sl->M Sl):TG:=λv σ H Q=>∃ι μ τ d τ' μ',RelH K ι μ H/\RelS K ι μ.length H τ σ/\Is K ι μ.length H d v/\bf d τ μ=some (τ',μ') /\
 Aft K ι μ H μ' λι' H'=>∀σ',RelS K ι' μ'.length H' τ' σ'->Q σ' H'
structure RG(X:Cx)(tg:Expr)(bf:D->Sl->M Sl):Prop where
 pe:PG X tg (tG X.kw bf)
theorem PG.wk(h:PG X tg t)(w:∀v σ H Q,t' v σ H Q->t v σ H Q):PG X tg t':=λpins s σ H v u Q I r q=>h pins s σ H v u Q I r (w v σ H Q q)
theorem RG.wk(h:PG X tg t)(w:∀v σ H Q,tG X.kw bf v σ H Q->t v σ H Q):RG X tg bf:=⟨PG.wk h w⟩
noncomputable def AM(i:Nat):D->Sl->M Sl:=λd τ=>ret (τ.set i (some d))
theorem Ob(h:tG K (AM i) v σ H Q):Fd i v σ H Q:=by
 obtain⟨ι,μ,τ,d,τ',μ',R,S,i1,e,q⟩:=h;cases e;exact q ι H R.ext0 R _ (S.set i i1)
theorem DE(i:Nat)(hN:X.N.Nodup)(hi:X.N[i]?=some x:=by rfl)(hx:Loc X.env.scope x:=by first|exact Or.inl rfl|exact Or.inr rfl)(hf:X.fn x=true∨X.env.scope.names.lookup x=some .local:=by first|exact .inl rfl|exact .inr rfl|assumption):RG X (.Name x pos) (AM i):=
 RG.wk (BF hN hi hx hf) λ_ _ _ _ h=>Ob h
noncomputable def La:List Nat->List D->Sl->M Sl
 |[],[],τ=>ret τ
 |i::is,d::ds,τ=>bnd (AM i d τ) λτ1=>La is ds τ1
 |_,_,_=>A5
noncomputable def Hq(is:List Nat):D->Sl->M Sl
 | .tup ds,τ=>if ds.length=is.length then La is ds τ else A5
 |_,_=>A5
noncomputable def N1:List Nat->TGs
 |[]=>Zi
 |i::is=>Wf (Fd i) (N1 is)
theorem KZ:∀{is:List Nat} {ds:List D} {vs:List V} {τ τ':Sl} {σ:St} {ι:Nat->Addr} {μ μ':Mh} {H:Hp} {Q:St->Hp->Prop},RelH K ι μ H->RelS K ι μ.length H τ σ->IsL K ι μ.length H ds vs->La is ds τ μ=some (τ',μ')->
  (μ'=μ->∀σ',RelS K ι μ.length H τ' σ'->Q σ' H)->N1 is vs σ H Q
 |[],[],_,_,_,_,_,_,_,_,_,R,S,i,e,q=>by
  cases e;unfold IsL at i;subst i;exact⟨rfl,q rfl _ S⟩
 |_::is,_::ds,_,τ,τ',σ,ι,μ,μ',H,Q,R,S,i,e,q=>by
  unfold IsL at i;obtain⟨v,vs',rfl,i1,i2⟩:=i;exact⟨v,vs',rfl,KZ (is:=is) (ds:=ds) R (S.set _ i1) i2 e q⟩
 |[],_::_,_,_,_,_,_,_,_,_,_,_,_,_,e,_=>by cases e
 |_::_,[],_,_,_,_,_,_,_,_,_,_,_,_,e,_=>by cases e
theorem LD(hc:X.calm=true)(h:PGs X es (N1 is))(hn:(assignEach es X.env).length=is.length:=by rfl)(hst:(assignEach es X.env).findIdx? (·.1)=none:=by rfl):RG X (.Tuple es k pos) (Hq is):=
 RG.wk (Xg hc h hn hst) λv σ H Q h=>by
  obtain⟨ι,μ,τ,d,τ',μ',R,S,i1,e,q⟩:=h;cases d with
  |tup ds=>
   unfold Is at i1;obtain⟨p,vs,rfl,h1,h2⟩:=i1;have e':(if ds.length=is.length then La is ds τ else A5) μ=some (τ',μ'):=e;by_cases hl:ds.length=is.length
   ·rw[if_pos hl] at e';have e:=e';refine⟨p,vs,rfl,h1,by rw[h2.length,hl],KZ R S h2 e λz σ' S'=>?_⟩;subst z;exact q ι H R.ext0 R σ' S'
   ·rw[if_neg hl] at e';cases e'
  |_=>cases e
noncomputable def Ab(m:Sl->M D)(bf:D->Sl->M Sl):Sl->M (Fl×Sl):=λτ=>bnd (m τ) λd=>bnd (bf d τ) λτ'=>ret (.next,τ')
theorem Oa(hg:∀v H Q,tG K bf v σ H Q->g v σ H Q)(h:tSt K (Ab m bf) Dn σ H):Uq (tE K m) g Dn σ H:=by
 obtain⟨ι,μ,τ,f,τ',μ',R,S,e,q⟩:=h;obtain⟨x,μ1,e1,e⟩:=AI e;obtain⟨τ1,μ2,e2,e⟩:=AI e;cases e;exact⟨ι,μ,τ,x,μ1,R,S,e1,λι1 H1 E1 R1 v i1=>hg _ _ _ ⟨ι1,μ1,τ,x,_,_,R1,S.ext E1,i1,e2,λι2 H2 E2 R2 σ' S'=>q ι2 H2 (E1.trans E2) R2 σ' S'⟩⟩
theorem AX(i:Nat)(hN:X.N.Nodup)(he:RE X e m)(hi:X.N[i]?=some x:=by rfl)(hx:Loc X.env.scope x:=by first|exact Or.inl rfl|exact Or.inr rfl)(hs:swapsWith e (some (.Name x pos')) pos.line X.env=pure false:=by rfl)(hf:X.fn x=true∨X.env.scope.names.lookup x=some .local:=by first|exact .inl rfl|exact .inr rfl|assumption):
  RS X (.Assign [.Name x pos'] e pos) (Ab m (AM i)):=RS.wk (XY hN hi hx he.pe hs hf) λ_ _ _ h=>Oa (λ_ _ _ q=>Ob q) h
theorem Nb(he:RE X e m)(hg:RG X tg bf)(hs:swapsWithSole [tg] e pos.line X.env=pure false:=by rfl)(hw:swappedStores [tg] e X.env=pure none:=by rfl)
  (h1:(assignEach [tg] X.env).map (·.2)=[assign tg X.env]:=by rfl):RS X (.Assign [tg] e pos) (Ab m bf):=RS.wk (Xd he.pe hg.pe hs hw h1) λ_ _ _ h=>Oa (λ_ _ _ q=>q) h
noncomputable def IQ(mc:Sl->M Bool)(mb:Sl->M (Fl×Sl)):Nat->Sl->M (Fl×Sl)
 |0,_=>A5
 |n+1,τ=>bnd (mc τ) λx=>if x=true then bnd (mb τ) λr=>match r.1 with
   | .next=>IQ mc mb n r.2
   | .cont=>IQ mc mb n r.2
   | .brk=>ret (.next,r.2)
   | .rt d=>ret (.rt d,r.2)
  else ret (.next,τ)
noncomputable def Ei(n:Nat)(mc:Sl->M Bool)(mb:Sl->M (Fl×Sl)):Sl->M (Fl×Sl):=IQ mc mb n
theorem MC(n:Nat)(hp:PassesOwn (model X.prog X.w) X.A X.env X.xe)(hc:RT X c mc)(hb:RSs X body mb):RS X (.While c body [] pos) (Ei n mc mb):=RS.wk (Se hp hc.pe hb.pe) λDn σ H h=>by
 refine⟨λn σ H=>tSt X.kw (IQ mc mb n) Dn σ H,⟨n,h⟩,?_⟩;intro n σ H h;obtain⟨ι,μ,τ,f,τ',μ',R,S,e,q⟩:=h;cases n with
 |zero=>cases e
 |succ n=>
  obtain⟨x,μ1,e1,e⟩:=AI e;refine⟨ι,μ,τ,x,μ1,R,S,e1,λι1 H1 E1 R1=>?_⟩;cases x with
  |false=>cases e;exact q ι1 H1 E1 R1 σ (S.ext E1)
  |true=>
   obtain⟨⟨f2,τ2⟩,μ2,e2,e⟩:=AI e;refine⟨λσ' H'=>tSt X.kw (IQ mc mb n) Dn σ' H',λσ' H' z=>⟨n,Nat.lt_succ_self n,z⟩,?_⟩;refine⟨ι1,μ1,τ,f2,τ2,μ2,R1,S.ext E1,e2,λι2 H2 E2 R2 σ2 S2=>?_⟩;have E12:=E1.trans E2;cases f2 with
   |next=>exact⟨ι2,μ2,τ2,f,τ',μ',R2,S2,e,λι3 H3 E3 R3=>q ι3 H3 (E12.trans E3) R3⟩
   |cont=>exact⟨ι2,μ2,τ2,f,τ',μ',R2,S2,e,λι3 H3 E3 R3=>q ι3 H3 (E12.trans E3) R3⟩
   |brk=>cases e;exact q ι2 H2 E12 R2 σ2 S2
   |rt d=>cases e;exact q ι2 H2 E12 R2 σ2 S2
def ItM(K:KW)(J:It)(ds:List D)(ι:Nat->Addr)(μ:Mh)(H:Hp):Prop:=∀ι' (μ':Mh) H',Ext ι μ.length H ι' μ'.length H'->RelH K ι' μ' H'->
 (∀i,i<ds.length->J.go i H')/\J.stop ds.length H'/\∀(i:Nat) x H2 d,ds[i]?=some d->J.yld i H' x H2->Ext ι' μ'.length H' ι' μ'.length H2/\RelH K ι' μ' H2/\Is K ι' μ'.length H2 d x
theorem ItM.ext(h:ItM K J ds ι μ H)(E:Ext ι μ.length H ι' μ'.length H'):ItM K J ds ι' μ' H':=λι2 μ2 H2 E2 R2=>h ι2 μ2 H2 (E.trans E2) R2
noncomputable def tI(K:KW)(m:Sl->M (List D)):TI:=λσ H R=>∃ι μ τ ds μ',RelH K ι μ H/\RelS K ι μ.length H τ σ/\m τ μ=some (ds,μ') /\
 Aft K ι μ H μ' λι' H'=>∀J,ItM K J ds ι' μ' H'->R J H'
structure RI(X:Cx)(tg iter:Expr)(m:Sl->M (List D)):Prop where
 pe:PI X tg iter (tI X.kw m)
theorem PI.wk(h:PI X tg iter t)(w:∀σ H R,t' σ H R->t σ H R):PI X tg iter t':=λpins s σ H R I q=>h pins s σ H R I (w σ H R q)
theorem RI.wk(h:PI X tg iter t)(w:∀σ H R,tI X.kw m σ H R->t σ H R):RI X tg iter m:=⟨PI.wk h w⟩
theorem PI.or(h:PI X tg iter t)(h':PI X tg iter t'):PI X tg iter (λσ H R=>t σ H R∨t' σ H R):=λpins s σ H R I q=>q.elim (h pins s σ H R I) (h' pins s σ H R I)
noncomputable def Pc:D->M (List D)
 | .lst ds=>ret ds
 | .tup ds=>ret ds
 | .scr ns=>ret (ns.map D.int)
 |_=>A5
noncomputable def De(m:Sl->M D):Sl->M (List D):=λτ=>bnd (m τ) Pc
theorem Ml(st:∀ι' (μ':Mh) H',Ext ι μ.length H ι' μ'.length H'->RelH K ι' μ' H'->SqL K H' p vs)(i:IsL K ι μ.length H ds vs):ItM K (Itl K p) ds ι μ H:=by
 intro ι' μ' H' E R;have h:=st ι' μ' H' E R;have hl:=i.length;refine⟨λj hj=>⟨vs,vs[j],h,by simp⟩,⟨vs,h,by omega⟩,λj x H2 d hd y=>?_⟩;obtain⟨e,y⟩:=y;subst e;obtain⟨v,ev,iv⟩:=(i.ext E).get hd;have:=y vs h;rw[ev] at this;cases this;exact⟨R.ext0,R,iv⟩
theorem Vs{K:KW}{ι:Nat->Addr}{μ:Mh}(h:SqT K H p vs)(i:IsL K ι μ.length H ds vs):ItM K (Itt K p) ds ι μ H:=by
 intro ι' μ' H' E R;have h:=GO E h;have hl:=i.length;refine⟨λj hj=>⟨vs,vs[j],h,by simp⟩,⟨vs,h,by omega⟩,λj x H2 d hd y=>?_⟩;obtain⟨e,y⟩:=y;subst e;obtain⟨v,ev,iv⟩:=(i.ext E).get hd;have:=y vs h;rw[ev] at this;cases this;exact⟨R.ext0,R,iv⟩
theorem U6(q:tI K (De m) σ H R):Wc K (tE K m) σ H R∨Zg K (tE K m) σ H R:=by
 obtain⟨ι,μ,τ,ds,μ',R0,S,e,q⟩:=q;obtain⟨x,μ1,e1,e⟩:=AI e;cases x with
 |lst es=>
  cases e;refine .inl ⟨ι,μ,τ,_,_,R0,S,e1,λι1 H1 E1 R1 v i1=>?_⟩;unfold Is at i1;obtain⟨p,vs,rfl,h1,hn,h2⟩:=i1;exact⟨p,rfl,⟨vs,SqL.of h1⟩,q ι1 H1 E1 R1 _ (Ml (λι' μ' H' E _=>SqL.of (E.keep p _ h1 hn)) h2)⟩
 |tup es=>
  cases e;refine .inr ⟨ι,μ,τ,_,_,R0,S,e1,λι1 H1 E1 R1 v i1=>?_⟩;unfold Is at i1;obtain⟨p,vs,rfl,h1,h2⟩:=i1;exact⟨p,rfl,⟨vs,h1⟩,q ι1 H1 E1 R1 _ (Vs h1 h2)⟩
 |scr ns=>
  cases e;refine .inl ⟨ι,μ,τ,_,_,R0,S,e1,λι1 H1 E1 R1 v i1=>?_⟩;unfold Is at i1;obtain⟨p,rfl,h1⟩:=i1;exact⟨p,rfl,⟨_,h1.sq⟩,q ι1 H1 E1 R1 _ (Ml (λι' μ' H' E _=>(Oh E h1).sq) (IsL.ofInts ns))⟩
 |non=>cases e
 |bl _=>cases e
 |int _=>cases e
 |str _=>cases e
 |ty _=>cases e
 |ref _=>cases e
theorem CL(h:RE X e m):RI X tg e (De m):=RI.wk (PI.or (VS h.pe) (Xf h.pe)) λ_ _ _ q=>U6 q
noncomputable def MD(lo hi:Int):List D:=(List.range (hi-lo).toNat).map λ(j:Nat)=>D.int (lo+(j:Int))
noncomputable def SM:List D->M (List D)
 |[.int j]=>λμ=>if -(2 ^ 62)<=j/\j<2 ^ 62 then some (MD 0 j,μ) else none
 |_=>A5
noncomputable def GW(m:Sl->M (List D)):Sl->M (List D):=λτ=>bnd (m τ) SM
theorem Vt:ItM K (Itr lo (hi-lo).toNat) (MD lo hi) ι μ H:=by
 intro ι' μ' H' E R;have hl:(MD lo hi).length=(hi-lo).toNat:=by simp[MD]
 rw[hl];refine⟨λj hj=>hj,AAF _,λj x H2 d hd y=>?_⟩;obtain⟨e,y⟩:=y;subst e;unfold MD at hd;rw[AAW] at hd;cases q:(List.range (hi-lo).toNat)[j]? with
 |none=>rw[q] at hd;cases hd
 |some z=>
  rw[q] at hd;have hz:z=j:=by
   have:=(AAU.mp q).2;simpa using this.symm
  subst hz;cases hd;exact⟨R.ext0,R,by unfold Is;exact y⟩
theorem DY(hm:X.mg "range" = none)(ha:RA X [a] m)(hg:Gl X "range" := by rfl)(hs:starEach [a] X.env=[(false,eval a X.env)]:=by rfl):RI X tg (.Call (.Name "range" p) [a] [] pos) (GW m):=
 RI.wk (QE hg hm ha.pe hs) λσ H R q=>by
  obtain⟨ι,μ,τ,ds,μ',R0,S,e,q⟩:=q;obtain⟨xs,μ1,e1,e⟩:=AI e;refine⟨ι,μ,τ,xs,μ1,R0,S,e1,λι1 H1 E1 R1 vs i1=>?_⟩;unfold SM at e;split at e
  ·rename_i j;split at e
   ·rename_i hb;cases e;unfold IsL Is at i1;obtain⟨v,vs',rfl,rfl,i2⟩:=i1;unfold IsL at i2;subst i2;refine⟨j,rfl,hb.1,hb.2,q ι1 H1 E1 R1 _ ?_⟩;have:=Vt (K:=X.kw) (ι:=ι1) (μ:=μ') (H:=H1) (lo:=0) (hi:=j);rw[Int.sub_zero] at this;exact this
   ·cases e
  ·cases e
noncomputable def Cu(bf:D->Sl->M Sl)(mb:Sl->M (Fl×Sl)):List D->Sl->M (Fl×Sl)
 |[],τ=>ret (.next,τ)
 |x::xs,τ=>bnd (bf x τ) λτ1=>bnd (mb τ1) λr=>match r.1 with
  | .next=>Cu bf mb xs r.2
  | .cont=>Cu bf mb xs r.2
  | .brk=>ret (.next,r.2)
  | .rt d=>ret (.rt d,r.2)
noncomputable def EV(src:Sl->M (List D))(bf:D->Sl->M Sl)(mb:Sl->M (Fl×Sl)):Sl->M (Fl×Sl):=λτ=>bnd (src τ) λds=>Cu bf mb ds τ
theorem C1(hp:PassesOwn (model X.prog X.w) X.A X.env X.xe)(hc:X.calm=true)(hi:RI X tg iter src)(hg:RG X tg bf)(hb:RSs X body mb)
  (hs:∀x,foldedSetIterable iter X.env x=pure x:=by intro _;rfl):RS X (.For tg iter body [] pos) (EV src bf mb):=RS.wk (Xa hp hc hi.pe hg.pe hb.pe hs) λDn σ H h=>by
 obtain⟨ι,μ,τ,f,τ',μ',R,S,e,q⟩:=h;obtain⟨ds,μ1,e1,e⟩:=AI e;refine⟨ι,μ,τ,ds,μ1,R,S,e1,λι1 H1 E1 R1 J it=>?_⟩
 let W:Nat->Nat->St->Hp->Prop:=λi m σ H=>m=ds.length-i/\i<=ds.length/\∃ι μ τ f τ' μ',RelH X.kw ι μ H/\RelS X.kw ι μ.length H τ σ/\ItM X.kw J ds ι μ H/\Cu bf mb (ds.drop i) τ μ=some ((f,τ'),μ') /\
  Aft X.kw ι μ H μ' λι' H'=>∀σ',RelS X.kw ι' μ'.length H' τ' σ'->FlP X.kw Dn ι' μ'.length H' τ' σ' f
 refine⟨W,⟨ds.length,by simp,AAm _,ι1,μ1,τ,f,τ',μ',R1,S.ext E1,it,e,λι2 H2 E2 R2=>q ι2 H2 (E1.trans E2) R2⟩,?_⟩;rintro i m σ H ⟨hm,hil,ι,μ,τ,f,τ',μ',R,S,it,e,q⟩;obtain⟨go,stop,yl⟩:=it ι μ H R.ext0 R;by_cases hlt:i<ds.length
 ·refine .inr ⟨go i hlt,λσ' H'=>W (i+1) (ds.length-(i+1)) σ' H',λσ' H' z=>⟨_,by omega,z⟩,λx H2 y=>?_⟩;have hd:ds[i]?=some ds[i]:=by simp[hlt]
  obtain⟨E2,R2,ix⟩:=yl i x H2 _ hd y;rw[List.drop_eq_getElem_cons hlt] at e;obtain⟨τ1,μ1,e1,e⟩:=AI e;obtain⟨⟨f2,τ2⟩,μ2,e2,e⟩:=AI e;refine⟨ι,μ,τ,_,τ1,μ1,R2,S.ext E2,ix,e1,λι3 H3 E3 R3 σ3 S3=>?_⟩;refine⟨ι3,μ1,τ1,f2,τ2,μ2,R3,S3,e2,λι4 H4 E4 R4 σ4 S4=>?_⟩;have E14:=(E2.trans E3).trans E4;cases f2 with
  |next=>exact⟨rfl,hlt,ι4,μ2,τ2,f,τ',μ',R4,S4,it.ext E14,e,λι5 H5 E5 R5=>q ι5 H5 (E14.trans E5) R5⟩
  |cont=>exact⟨rfl,hlt,ι4,μ2,τ2,f,τ',μ',R4,S4,it.ext E14,e,λι5 H5 E5 R5=>q ι5 H5 (E14.trans E5) R5⟩
  |brk=>cases e;exact q ι4 H4 E14 R4 σ4 S4
  |rt d=>cases e;exact q ι4 H4 E14 R4 σ4 S4
 ·have hi':i=ds.length:=by omega
  subst hi';rw[List.drop_length] at e;cases e;exact .inl ⟨stop,q ι H R.ext0 R σ S⟩
end
section
variable{X:Cx}{scope:Scope}{tgs:List Str}{ix:List Nat}{elt tg iter:Expr}{pos:Pos}
noncomputable def Sn(ix:List Nat)(τ:Sl):Sl:=ix.map λj=>(τ[j]?).getD none
noncomputable def Dv(n:Nat)(ix:List Nat)(τ:Sl):Sl:=List.replicate n none++Sn ix τ
noncomputable def Ck(bf:D->Sl->M Sl)(mc:Sl->M Bool)(me:Sl->M D)(τ0:Sl):List D->List D->M (List D)
 |[],ys=>ret ys
 |x::xs,ys=>bnd (bf x τ0) λτ1=>bnd (mc τ1) λc=>if c=true then bnd (me τ1) λy=>Ck bf mc me τ0 xs (ys++[y]) else Ck bf mc me τ0 xs ys
noncomputable def Cr(n:Nat)(ix:List Nat)(src:Sl->M (List D))(bf:D->Sl->M Sl)(mc:Sl->M Bool)(me:Sl->M D)(fin:List D->M D):Sl->M D:=λτ=>bnd (src τ) λds=>bnd (lim ds.length) λ_=>bnd (Ck bf mc me (Dv n ix τ) ds []) fin
noncomputable def Dd:Sl->M Bool:=λ_=>ret true
theorem RelS.block(S:RelS K ι k H τ σ):RelS K ι k H (Dv tgs.length ix τ) (CK tgs ix σ):=by
 refine⟨by simp[Dv,CK,Sn,KG],λi d e=>?_⟩;unfold Dv at e;have hk:tgs.length<=i:=by
  rcases Nat.lt_or_ge i tgs.length with z|z
  ·rw[AAT (by simpa using z),List.getElem?_replicate,if_pos z] at e;cases e
  ·exact z
 rw[AAS (by simpa using hk),AAo] at e;unfold Sn at e;rw[AAW] at e;cases q:ix[i-tgs.length]? with
 |none=>rw[q] at e;cases e
 |some j=>
  rw[q] at e;have e':(τ[j]?).getD none=some d:=Option.some.inj e;cases q2:τ[j]? with
  |none=>rw[q2] at e';cases e'
  |some o=>
   rw[q2] at e';have e'':o=some d:=e';subst e'';obtain⟨v,ev,iv⟩:=S.get j d q2;refine⟨v,?_,iv⟩;unfold CK;rw[AAS (by simpa using hk),AAo];unfold KG;rw[AAW,q,Option.map_some,ev];rfl
theorem Od(hn:tgs.length=n)(hf:∀ι μ μ' H ds vs d (Q:VK),RelH K ι μ H->IsL K ι μ.length H ds vs->fin ds μ=some (d,μ')->(Aft K ι μ H μ' λι' H'=>∀v,Is K ι' μ'.length H' d v->Q v H')->
   vs.length<=sizeLine/\∀p,H p=none->Q (.ref p) (upd H p (.lst vs)))
  (h:tE K (Cr n ix src (AM i) mc me fin) σ H Q):Rv tgs ix (tI K src) (Fd i) (tT K mc) (tE K me) σ H Q:=by
 subst hn;obtain⟨ι,μ,τ,d,μ',R,S,e,q⟩:=h;obtain⟨ds,μ1,e1,e5⟩:=AI e;obtain⟨u,μ2,e2,e6⟩:=AI e5;obtain⟨zs,μ3,e3,e7⟩:=AI e6;obtain⟨hl,e4⟩:=Dg e2;clear e e5 e6;subst e4;refine⟨ι,μ,τ,ds,_,R,S,e1,λι1 H1 E1 R1 J it=>?_⟩;refine⟨λi' m ys H=>m=ds.length-i'/\i'<=ds.length/\ys.length<=i'/\∃(ι:Nat->Addr) (μ:Mh) (as:List D),RelH K ι μ H/\RelS K ι μ.length H τ σ/\ItM K J ds ι μ H/\IsL K ι μ.length H as ys/\Ck (AM i) mc me (Dv tgs.length ix τ) (ds.drop i') as μ=some (zs,μ3) /\
  Aft K ι μ H μ' λι' H'=>∀v,Is K ι' μ'.length H' d v->Q v H',⟨ds.length,by simp,AAm _,AAF _,ι1,_,[],R1,S.ext E1,it,.nil,e3,λι2 H2 E2 R2=>q ι2 H2 (E1.trans E2) R2⟩,?_⟩
 rintro i' m ys H ⟨hm,hil,hyl,ι,μ,as,R,S,it,ia,e3,q⟩;obtain⟨go,stop,yl⟩:=it ι μ H R.ext0 R;by_cases hlt:i'<ds.length
 ·refine .inr ⟨go i' hlt,by omega,λys' H'=>ys'.length<=i'+1/\∃(ι:Nat->Addr) (μ:Mh) (as:List D),RelH K ι μ H'/\RelS K ι μ.length H' τ σ/\ItM K J ds ι μ H'/\IsL K ι μ.length H' as ys'/\Ck (AM i) mc me (Dv tgs.length ix τ) (ds.drop (i'+1)) as μ=some (zs,μ3) /\
   Aft K ι μ H' μ' λι' H'=>∀v,Is K ι' μ'.length H' d v->Q v H',λys' H' z=>⟨_,(by omega:ds.length-(i'+1)<m),rfl,hlt,z⟩,λx H2 y=>?_⟩
  have hd:ds[i']?=some ds[i']:=by simp[hlt]
  obtain⟨E2,R2,ix2⟩:=yl i' x H2 _ hd y;rw[List.drop_eq_getElem_cons hlt] at e3;obtain⟨τ1,μ1,e1,e3⟩:=AI e3;cases e1;obtain⟨cc,μ2,e2,e3⟩:=AI e3;have S2:=(S.ext E2).block (tgs:=tgs) (ix:=ix);show tT K mc _ H2 _;refine⟨ι,_,_,cc,μ2,R2,S2.set i ix2,e2,λι3 H3 E3 R3=>?_⟩;have E13:=E2.trans E3;cases cc with
  |false=>
   exact⟨by omega,ι3,μ2,as,R3,S.ext E13,it.ext E13,ia.ext E13,e3,λι5 H5 E5 R5=>q ι5 H5 (E13.trans E5) R5⟩
  |true=>
   obtain⟨y',μ4,e4,e3⟩:=AI e3;refine⟨ι3,μ2,_,y',μ4,R3,(S2.set i ix2).ext E3,e4,λι4 H4 E4 R4 v iv=>?_⟩;have E14:=E13.trans E4;exact⟨by simp;omega,ι4,μ4,as++[y'],R4,S.ext E14,it.ext E14,(ia.ext E14).append (.one iv),e3,λι5 H5 E5 R5=>q ι5 H5 (E14.trans E5) R5⟩
 ·have hi':i'=ds.length:=by omega
  subst hi';rw[List.drop_length] at e3;cases e3;obtain⟨z1,z2⟩:=hf ι _ μ' H _ ys d Q R ia e7 q;exact .inl ⟨stop,z1,z2⟩
theorem D4(S:BScope X scope tgs ix)(hc:X.calm=true)(hi:RI X tg iter src)(hg:∀fp C s H,PG (cxB X scope tgs fp C s H) tg (Fd i))(hif:∀fp C s H,Ld (cxB X scope tgs fp C s H) ifs (tT X.kw mc))(he:∀fp C s H,RE (cxB X scope tgs fp C s H) elt me)
  (hin:i<tgs.length:=by decide) (hn:tgs.length=n:=by rfl) (hs:∀x,foldedSetIterable iter X.env x=pure x:=by intro _;rfl) (ht:∀o v,letOwnedTupleGo tg o v=pure ():=by intro _ _;rfl):RE X (.ListComp elt [⟨tg,iter,ifs,0⟩] scope pos) (Cr n ix src (AM i) mc me Ba):=
 RE.wk (Va (te:=tE X.kw me) S hc hi.pe hg (PL hin) hif (λfp C s H=>(he fp C s H).pe) hs ht) λ_ _ _ h=>Od hn (λ_ _ _ _ _ _ _ _ R i e q=>D6 R i e q) h
theorem CH:Ld X [] (tT K Dd):=λpins s σ H Q I h=>by
 obtain⟨ι,μ,τ,b,μ',R,S,e,q⟩:=h;cases e;exact Sk pins s σ H Q I (q ι H R.ext0 R)
theorem SQ(h:RT X c mc):Ld X [c] (tT X.kw mc):=Sj h.pe
theorem Fu(k:Nat)(hN:X.N.Nodup)(S:BScope X scope tgs ix)(hc:X.calm=true)(hi:RI X tg iter src)(hg:∀fp C s H,PG (cxB X scope tgs fp C s H) tg (Fd i))(hif:∀fp C s H,Ld (cxB X scope tgs fp C s H) ifs (tT X.kw mc))(he:∀fp C s H,RE (cxB X scope tgs fp C s H) elt me)
  (hfin:∀ι μ μ' H ds vs d (Q:VK),RelH X.kw ι μ H->IsL X.kw ι μ.length H ds vs->fin ds μ=some (d,μ')->(Aft X.kw ι μ H μ' λι' H'=>∀v,Is X.kw ι' μ'.length H' d v->Q v H')->vs.length<=sizeLine/\∀p,H p=none->Q (.ref p) (upd H p (.lst vs)))
  (hiN:X.N[k]?=some y:=by rfl) (hy:X.env.scope.names.lookup y=some .local:=by rfl) (hin:i<tgs.length:=by decide) (hn:tgs.length=n:=by rfl)
  (hsw:swapsWith (.ListComp elt [⟨tg,iter,ifs,0⟩] scope pos) (some (.Name y py)) spos.line X.env=pure true:=by rfl) (hs:∀x,foldedSetIterable iter X.env x=pure x:=by intro _;rfl) (ht:∀o v,letOwnedTupleGo tg o v=pure ():=by intro _ _;rfl) :
  RS X (.Assign [.Name y py] (.ListComp elt [⟨tg,iter,ifs,0⟩] scope pos) spos) (Ab (Cr n ix src (AM i) mc me fin) (AM k)):=
 RS.wk (Nd (te:=tE X.kw me) hN hiN hy S hc hi.pe hg (PL hin) hif (λfp C s H=>(he fp C s H).pe) hsw hs ht) λDn σ H h=>by
  obtain⟨ι,μ,τ,f,τ',μ',R,S,e,q⟩:=h;obtain⟨x,μ1,e1,e⟩:=AI e;obtain⟨τ1,μ2,e2,e⟩:=AI e;cases e2;cases e;refine Od hn hfin ⟨ι,μ,τ,x,_,R,S,e1,λι1 H1 E1 R1 v i1=>?_⟩;exact q ι1 H1 E1 R1 _ ((S.ext E1).set k i1)
mutual
def Cl(k:Nat):D->Prop
 | .tup ds=>ClL k ds
 | .lst ds=>ClL k ds
 | .ref n=>n<k
 |_=>True
def ClL(k:Nat):List D->Prop
 |[]=>True
 |d::ds=>Cl k d/\ClL k ds
end
noncomputable def ClO(k:Nat):MO->Prop
 | .lst ds=>ClL k ds
 | .dK l=>ClL k (l.map (·.2))
 | .dC l=>ClL k (l.map (·.2))
 | .ins _ l=>ClL k (l.map (·.2))
 | .dP l=>ClL k (l.map (·.1))/\ClL k (l.map (·.2))
section
variable{K:KW}{ι:Nat->Addr}{k k':Nat}{H:Hp}
mutual
theorem Is.down(hk:k<=k'):∀{d:D} {v:V},Cl k d->Is K ι k' H d v->Is K ι k H d v
 | .non,_,_,h=>by unfold Is at h ⊢;exact h
 | .bl _,_,_,h=>by unfold Is at h ⊢;exact h
 | .int _,_,_,h=>by unfold Is at h ⊢;exact h
 | .str _,_,_,h=>by unfold Is at h ⊢;exact h
 | .ty _,_,_,h=>by unfold Is at h ⊢;exact h
 | .scr _,_,_,h=>by unfold Is at h ⊢;exact h
 | .tup ds,_,c,h=>by
  unfold Is at h ⊢;obtain⟨p,vs,e,h1,h2⟩:=h;exact⟨p,vs,e,h1,IsL.down hk (by unfold Cl at c;exact c) h2⟩
 | .lst ds,_,c,h=>by
  unfold Is at h ⊢;obtain⟨p,vs,e,h1,hn,h2⟩:=h;exact⟨p,vs,e,h1,λn z=>hn n (AAN z hk),IsL.down hk (by unfold Cl at c;exact c) h2⟩
 | .ref n,_,c,h=>by
  unfold Is at h ⊢;exact⟨by unfold Cl at c;exact c,h.2⟩
theorem IsL.down(hk:k<=k'):∀{ds:List D} {vs:List V},ClL k ds->IsL K ι k' H ds vs->IsL K ι k H ds vs
 |[],_,_,h=>by unfold IsL at h ⊢;exact h
 |_::_,_,c,h=>by
  unfold IsL at h ⊢;unfold ClL at c;obtain⟨v,vs',e,h1,h2⟩:=h;exact⟨v,vs',e,Is.down hk c.1 h1,IsL.down hk c.2 h2⟩
end
mutual
theorem Is.cl:∀{d:D} {v:V},Is K ι k H d v->Cl k d
 | .non,_,_=>by unfold Cl;trivial
 | .bl _,_,_=>by unfold Cl;trivial
 | .int _,_,_=>by unfold Cl;trivial
 | .str _,_,_=>by unfold Cl;trivial
 | .ty _,_,_=>by unfold Cl;trivial
 | .scr _,_,_=>by unfold Cl;trivial
 | .tup ds,_,h=>by
  unfold Is at h;unfold Cl;obtain⟨p,vs,e,h1,h2⟩:=h;exact IsL.cl h2
 | .lst ds,_,h=>by
  unfold Is at h;unfold Cl;obtain⟨p,vs,e,h1,hn,h2⟩:=h;exact IsL.cl h2
 | .ref n,_,h=>by
  unfold Is at h;unfold Cl;exact h.1
theorem IsL.cl:∀{ds:List D} {vs:List V},IsL K ι k H ds vs->ClL k ds
 |[],_,_=>by unfold ClL;trivial
 |_::_,_,h=>by
  unfold IsL at h;unfold ClL;obtain⟨v,vs',e,h1,h2⟩:=h;exact⟨Is.cl h1,IsL.cl h2⟩
end
theorem KVs.cl:∀{l:List (Key×D)} {r:List (Key×V)},KVs K ι k H l r->ClL k (l.map (·.2))
 |[],_,_=>by unfold List.map ClL;trivial
 |(_,_)::_,_,h=>by
  obtain⟨v,r',e,h1,h2⟩:=h;rw[AAX];unfold ClL;exact⟨h1.cl,KVs.cl h2⟩
theorem KVs.down(hk:k<=k'):∀{l:List (Key×D)} {r:List (Key×V)},ClL k (l.map (·.2))->KVs K ι k' H l r->KVs K ι k H l r
 |[],_,_,h=>h
 |(_,_)::_,_,c,h=>by
  rw[AAX] at c;unfold ClL at c;obtain⟨v,r',e,h1,h2⟩:=h;exact⟨v,r',e,h1.down hk c.1,KVs.down hk c.2 h2⟩
theorem PY:∀l:List Int,ClL k (l.map D.int)
 |[]=>by unfold List.map ClL;trivial
 |_::l=>by unfold List.map ClL;exact⟨by unfold Cl;trivial,PY l⟩
theorem Zx(c:Nk.Cs):Cl k (csD c):=by
 unfold csD Cl ClL;refine⟨by unfold Cl;trivial,?_⟩;unfold ClL;refine⟨by unfold Cl;trivial,?_⟩;unfold ClL;exact⟨by unfold Cl;exact PY _,by unfold ClL;trivial⟩
theorem CVs.cl:∀{l:List (Nk.Cs×D)} {r:List (Nk.Cs×Addr×V)},CVs K ι k H l r->ClL k (l.map (·.2))
 |[],_,_=>by unfold List.map ClL;trivial
 |(_,_)::_,_,h=>by
  obtain⟨a,v,r',rfl,_,h1,h2⟩:=h;rw[AAX];unfold ClL;exact⟨h1.cl,CVs.cl h2⟩
theorem CVs.down(hk:k<=k'):∀{l:List (Nk.Cs×D)} {r:List (Nk.Cs×Addr×V)},ClL k (l.map (·.2))->CVs K ι k' H l r->CVs K ι k H l r
 |[],_,_,h=>h
 |(_,_)::_,_,c,h=>by
  rw[AAX] at c;unfold ClL at c;obtain⟨a,v,r',e,h0,h1,h2⟩:=h;exact⟨a,v,r',e,h0.down hk (Zx _),h1.down hk c.1,CVs.down hk c.2 h2⟩
theorem FVs.cl:∀{l:List (Str×D)} {r:List (Str×V)},FVs K ι k H l r->ClL k (l.map (·.2))
 |[],_,_=>by unfold List.map ClL;trivial
 |(_,_)::_,_,h=>by
  obtain⟨v,r',rfl,h1,h2⟩:=h;rw[AAX];unfold ClL;exact⟨h1.cl,FVs.cl h2⟩
theorem FVs.down(hk:k<=k'):∀{l:List (Str×D)} {r:List (Str×V)},ClL k (l.map (·.2))->FVs K ι k' H l r->FVs K ι k H l r
 |[],_,_,h=>h
 |(_,_)::_,_,c,h=>by
  rw[AAX] at c;unfold ClL at c;obtain⟨v,r',e,h1,h2⟩:=h;exact⟨v,r',e,h1.down hk c.1,FVs.down hk c.2 h2⟩
theorem PVs.cl:∀{l:List (D×D)} {r:List (D×Addr×V)},PVs K ι k H l r->ClL k (l.map (·.1))/\ClL k (l.map (·.2))
 |[],_,_=>by unfold List.map ClL;exact⟨trivial,trivial⟩
 |(_,_)::_,_,h=>by
  obtain⟨a,v,r',_,h1,h2,h3⟩:=h;rw[AAX,AAX];unfold ClL;exact⟨⟨h1.2.2.cl,(PVs.cl h3).1⟩,h2.cl,(PVs.cl h3).2⟩
theorem PVs.down(hk:k<=k'):∀{l:List (D×D)} {r:List (D×Addr×V)},ClL k (l.map (·.1))->ClL k (l.map (·.2))->PVs K ι k' H l r->PVs K ι k H l r
 |[],_,_,_,h=>h
 |(_,_)::_,_,b,c,h=>by
  rw[AAX] at b c;unfold ClL at b c;obtain⟨a,v,r',e,h1,h2,h3⟩:=h;exact⟨a,v,r',e,⟨h1.1,h1.2.1,h1.2.2.down hk b.1⟩,h2.down hk c.1,PVs.down hk b.2 c.2 h3⟩
theorem ObjIs.cl(h:ObjIs K ι k H p o u):ClO k o:=by
 cases o with
 |lst ds=>obtain⟨vs,_,h⟩:=h;exact h.cl
 |dK l=>obtain⟨r,_,h⟩:=h;exact h.cl
 |dC l=>obtain⟨r,_,h⟩:=h;exact h.cl
 |ins c l=>obtain⟨C,dx,r,_,_,_,h⟩:=h;exact h.cl
 |dP l=>obtain⟨r,_,h⟩:=h;exact h.cl
theorem ObjIs.down(hk:k<=k')(c:ClO k o)(h:ObjIs K ι k' H p o u):ObjIs K ι k H p o u:=by
 cases o with
 |lst ds=>obtain⟨vs,e,h⟩:=h;exact⟨vs,e,h.down hk c⟩
 |dK l=>obtain⟨r,e,h⟩:=h;exact⟨r,e,h.down hk c⟩
 |dC l=>obtain⟨r,e,h⟩:=h;exact⟨r,e,h.down hk c⟩
 |ins n l=>obtain⟨C,dx,r,e,h0,h1,h⟩:=h;exact⟨C,dx,r,e,h0,h1,h.down hk c⟩
 |dP l=>obtain⟨r,e,h⟩:=h;exact⟨r,e,h.down hk c.1 c.2⟩
end
def ay(μ2 μ':Mh)(d' d:D):Prop:=(d'=d/\Cl μ'.length d)∨∃n ds,d'=.ref n/\μ2[n]?=some (.lst ds)/\μ'.length<=n/\d=.lst ds/\ClL μ'.length ds
structure Fg(μ μ2 μ':Mh)(d' d:D):Prop where
 grow:∃g,μ2=μ'++g
 le:μ.length<=μ'.length
 old:∀(n:Nat) (o:MO),μ'[n]?=some o->μ[n]?=some o∨ClO μ'.length o
 conv:ay μ2 μ' d' d
noncomputable def Ej:Fl->D
 | .rt d=>d
 |_=>.non
theorem Ly(R:RelH K ι μ H)(E:Ext ι μ.length H ι2 μ2.length H2)(R2:RelH K ι2 μ2 H2)(t:Fg μ μ2 μ' d' d):
  Ext ι μ.length H ι2 μ'.length H2/\RelH K ι2 μ' H2/\∀v,Is K ι2 μ2.length H2 d' v->Is K ι2 μ'.length H2 d v:=by
 obtain⟨⟨g,hg⟩,le,old,conv⟩:=t;have hle:μ'.length<=μ2.length:=by rw[hg];simp
 have hget:∀(n:Nat) (o:MO),μ'[n]?=some o->μ2[n]?=some o:=λn o e=>by
  rw[hg,AAT (AAU.mp e).1];exact e
 refine⟨⟨le,E.agree,λn h1 h2=>E.fresh n h1 (AAN h2 hle),E.keep,E.was,E.there⟩,⟨λi j hi hj=>R2.inj i j (AAN hi hle) (AAN hj hle),λn o e=>?_⟩,λv iv=>?_⟩
 ·obtain⟨u,q,hq⟩:=R2.obj n o (hget n o e);refine⟨u,q,hq.down hle ?_⟩;rcases old n o e with z|z
  ·obtain⟨u0,_,h0⟩:=R.obj n o z;have c:=h0.cl;cases o with
   |lst ds=>exact clL_mono le c
   |dK l=>exact clL_mono le c
   |dC l=>exact clL_mono le c
   |ins n l=>exact clL_mono le c
   |dP l=>exact⟨clL_mono le c.1,clL_mono le c.2⟩
  ·exact z
 ·rcases conv with ⟨rfl,c⟩|⟨n,ds,rfl,hn,hle2,rfl,c⟩
  ·exact iv.down hle c
  ·obtain⟨u,q,vs,rfl,il⟩:=R2.obj n _ hn;have hn2:n<μ2.length:=(AAU.mp hn).1;unfold Is at iv ⊢;refine⟨ι2 n,vs,iv.2,q,λm hm z=>?_,il.down hle c⟩;have:=R2.inj m n (AAN hm hle) hn2 z;omega
where
 cl_mono {k k':Nat} (h:k<=k'):∀{d:D},Cl k d->Cl k' d
  | .non,_=>by unfold Cl;trivial
  | .bl _,_=>by unfold Cl;trivial
  | .int _,_=>by unfold Cl;trivial
  | .str _,_=>by unfold Cl;trivial
  | .ty _,_=>by unfold Cl;trivial
  | .scr _,_=>by unfold Cl;trivial
  | .tup ds,c=>by unfold Cl at c ⊢;exact clL_mono h c
  | .lst ds,c=>by unfold Cl at c ⊢;exact clL_mono h c
  | .ref n,c=>by unfold Cl at c ⊢;exact AAN c h
 clL_mono {k k':Nat} (h:k<=k'):∀{ds:List D},ClL k ds->ClL k' ds
  |[],_=>by unfold ClL;trivial
  |_::_,c=>by unfold ClL at c ⊢;exact⟨cl_mono h c.1,clL_mono h c.2⟩
noncomputable def BV(n:Nat)(ds:List D):Sl:=ds.map some++List.replicate (n-ds.length) none
theorem RelS.start(i:IsL K ι k H ds vs):RelS K ι k H (BV N.length ds) (L2.start N vs):=by
 have hl:=i.length;refine⟨by simp[BV,L2.start,hl],λj d e=>?_⟩;unfold BV at e;unfold L2.start;rcases Nat.lt_or_ge j ds.length with z|z
 ·rw[AAT (by simpa using z),AAW] at e;rw[AAT (by simpa[hl] using z),AAW];cases q:ds[j]? with
  |none=>rw[q] at e;cases e
  |some d0=>
   rw[q] at e;cases e;obtain⟨v,ev,iv⟩:=i.get q;exact⟨v,by rw[ev];rfl,iv⟩
 ·rw[AAS (by simpa using z),List.getElem?_replicate] at e;split at e<;>cases e
theorem Kc(F:Fun K x qual st f fd)(S:Ad N ps (AR st))(hn:ps.length=n:=by rfl)
  (body:∀(cdv:Value) (A:Around) (outer:List Env) (s:Shared) (H:Hp) (E:XK),Room k (A.deeper (PyProof.Rows.envOfC qual (AR st) s.heap.objs.size f cdv))->RSs (Gf CX0 P w K mg base N qual (AR st) f cdv A outer s H E).nox (BY st) mb)
  (run:∀ds μ d μ',φ ds μ=some (d,μ')->∃fl τ2 μ2,mb (BV N.length ds) μ=some ((fl,τ2),μ2)/\(fl=.next∨∃d,fl=.rt d)/\Fg μ μ2 μ' (Ej fl) d):FnOk P w K mg base CX0 (k+1) f fd ps (spM ⟨K,w⟩ n φ):=by
 refine F.ok S (λvs H Q E h=>by rw[hn];exact h.1) (λcdv A outer s H vs Q E hr h=>⟨_,(body cdv A outer s H E hr).pe,?_⟩);obtain⟨hl,ι,μ,ds,d,μ',R,i,e,q⟩:=h;obtain⟨fl,τ2,μ2,e2,hfl,t⟩:=run ds μ d μ' e;refine⟨ι,μ,_,fl,τ2,μ2,R,RelS.start i,e2,λι2 H2 E2 R2 σ2 S2=>?_⟩;obtain⟨E3,R3,c⟩:=Ly R E2 R2 t;rcases hfl with rfl|⟨d0,rfl⟩
 ·exact q ι2 H2 E3 R3 _ (c _ (by unfold Ej Is;rfl))
 ·exact λv iv=>q ι2 H2 E3 R3 v (c v iv)
end
noncomputable def By:D->M (List D)
 | .lst ds=>ret ds
 | .scr ns=>ret (ns.map D.int)
 | .ref n=>λμ=>match μ[n]? with
  |some (.lst ds)=>some (ds,μ)
  |_=>none
 |_=>A5
section
variable{K:KW}{ι:Nat->Addr}{μ μ':Mh}{H:Hp}{d:D}{v:V}{ds:List D}
theorem Br(R:RelH K ι μ H)(i:Is K ι μ.length H d v)(e:By d μ=some (ds,μ')):μ'=μ/\∃p vs,v=.ref p/\SqL K H p vs/\IsL K ι μ.length H ds vs:=by
 cases d with
 |lst es=>
  cases e;unfold Is at i;obtain⟨p,vs,rfl,h1,hn,h2⟩:=i;exact⟨rfl,p,vs,rfl,SqL.of h1,h2⟩
 |scr ns=>
  cases e;unfold Is at i;obtain⟨p,rfl,h1⟩:=i;exact⟨rfl,p,_,rfl,h1.sq,IsL.ofInts ns⟩
 |ref n=>
  unfold Is at i;obtain⟨hn,rfl⟩:=i;have e':(match μ[n]? with|some (.lst ds)=>some (ds,μ)|_=>none)=some (ds,μ'):=e;split at e'
  ·rename_i es hq;cases e';obtain⟨u,h1,vs,rfl,h2⟩:=R.obj n _ hq;exact⟨rfl,_,vs,rfl,SqL.of h1,h2⟩
  ·cases e'
 |_=>cases e
theorem BO(h:Is K ι μ.length H (.int i) v):v=.int i:=by unfold Is at h;exact h
theorem DL(h:Is K ι μ.length H (.str i) v):v=.str i:=by unfold Is at h;exact h
theorem TY(h:Is K ι μ.length H (.bl i) v):v=.bl i:=by unfold Is at h;exact h
theorem Nw(h:Is K ι μ.length H .non v):v=.non:=by unfold Is at h;exact h
theorem Ze(h:Is K ι μ.length H (.ty n) v):v=.ty n:=by unfold Is at h;exact h
theorem ofI(i:Int):Is K ι k H (.int i) (.int i):=by unfold Is;rfl
theorem ofS(i:Str):Is K ι k H (.str i) (.str i):=by unfold Is;rfl
theorem ofB(i:Bool):Is K ι k H (.bl i) (.bl i):=by unfold Is;rfl
theorem ofN:Is K ι k H .non .non:=by unfold Is;rfl
theorem HB(h:IsL K ι k H [d] vs):∃v,vs=[v]/\Is K ι k H d v:=by
 unfold IsL at h;obtain⟨v,vs',rfl,h1,h2⟩:=h;unfold IsL at h2;subst h2;exact⟨v,rfl,h1⟩
theorem Ta(h:IsL K ι k H [d,d'] vs):∃v v',vs=[v,v']/\Is K ι k H d v/\Is K ι k H d' v':=by
 unfold IsL at h;obtain⟨v,vs',rfl,h1,h2⟩:=h;obtain⟨v',rfl,h3⟩:=HB h2;exact⟨v,v',rfl,h1,h3⟩
theorem Yd(h:IsL K ι k H ds vs)(e:atI ds i=some d):∃v,atI vs i=some v/\Is K ι k H d v:=by
 unfold atI at e ⊢;rw[h.length];cases q:ixN ds.length i with
 |none=>rw[q] at e;cases e
 |some j=>
  rw[q] at e;exact h.get e
theorem To(h:IsL K ι k H ds vs):IsL K ι k H ((ds.drop (HT.sIx ds.length 0 lo)).take (HT.sIx ds.length ds.length hi-HT.sIx ds.length 0 lo)) (M2 vs lo hi):=by
 unfold M2;rw[h.length];exact(h.drop _).take _
end
noncomputable def LQ(C:Int->Int->Prop)[∀i j,Decidable (C i j)](g:Int->Int->D):D->D->M D
 | .int i,.int j=>λμ=>if C i j then some (g i j,μ) else none
 |_,_=>A5
noncomputable def FY:D->D->M D:=LQ (λ_ _=>True) λi j=>.int (i-j)
noncomputable def A6:D->D->M D:=LQ (λ_ j=>0<j/\j<1073741824) λi j=>.int (i / j)
noncomputable def BE:D->D->M D:=LQ (λ_ j=>0<j) λi j=>.int (i % j)
noncomputable def SW:D->D->M D:=LQ (λi j=>0<=j/\j<=1000000/\i.natAbs<2 ^ 64) λi j=>.int (i ^ j.toNat)
noncomputable def El:D->D->M D:=LQ (λ_ _=>True) λi j=>.bl (decide (i<j))
noncomputable def SX:D->D->M D:=LQ (λ_ _=>True) λi j=>.bl (decide (i<=j))
noncomputable def Jj:D->D->M D:=LQ (λ_ _=>True) λi j=>.bl (decide (j<i))
noncomputable def MK:D->D->M D:=LQ (λ_ _=>True) λi j=>.bl (decide (j<=i))
section
variable{X:Cx}
theorem Em[∀i j,Decidable (C i j)](hg:∀i j ι k H,Is X.kw ι k H (g i j) (gv i j))(ho:OpR X f (rI C gv)):OpR X f (rM X.kw (LQ C g)):=OpR.wk ho λx y H Q h=>by
 obtain⟨ι,μ,a,b,d,μ',R,ia,ib,e,q⟩:=h;cases a with
 |int i=>
  cases b with
  |int j=>
   have e':(if C i j then some (g i j,μ) else none)=some (d,μ'):=e;split at e'
   ·rename_i hc;cases e';exact⟨i,j,BO ia,BO ib,hc,q ι H R.ext0 R _ (hg i j _ _ _)⟩
   ·cases e'
  |_=>cases e
 |_=>cases e
theorem OpR.ofI0(ho:OpR X f (rI0 gv)):OpR X f (rI (λ_ _=>True) gv):=OpR.wk ho λx y H Q h=>by
 obtain⟨i,j,h1,h2,_,q⟩:=h;exact⟨i,j,h1,h2,q⟩
theorem Iv:OpR X (binaryOp .Sub) (rM X.kw FY):=Em (λ_ _ _ _ _=>ofI _) (OpR.ofI0 Xy)
theorem Bc:OpR X (binaryOp .FloorDiv) (rM X.kw A6):=Em (λ_ _ _ _ _=>ofI _) Vh
theorem Bl:OpR X (binaryOp .Mod) (rM X.kw BE):=Em (λ_ _ _ _ _=>ofI _) X3
theorem ZX:OpR X (binaryOp .Pow) (rM X.kw SW):=Em (λ_ _ _ _ _=>ofI _) X0
theorem LJ:OpR X (compareOp .Lt) (rM X.kw El):=Em (λ_ _ _ _ _=>ofB _) (OpR.ofI0 ZQ)
theorem Vl:OpR X (compareOp .LtE) (rM X.kw SX):=Em (λ_ _ _ _ _=>ofB _) (OpR.ofI0 ZR)
theorem TB:OpR X (compareOp .Gt) (rM X.kw Jj):=Em (λ_ _ _ _ _=>ofB _) (OpR.ofI0 ZS)
theorem X9:OpR X (compareOp .GtE) (rM X.kw MK):=Em (λ_ _ _ _ _=>ofB _) (OpR.ofI0 ZT)
noncomputable def Ha:D->M D
 | .int i=>ret (.int (-i))
 |_=>A5
theorem KI:UnR X (unaryOp .USub) (rM1 X.kw Ha):=λpins s σ H x v Q I r h=>by
 obtain⟨ι,μ,a,d,μ',R,ia,e,q⟩:=h;cases a with
 |int i=>
  cases e;have z:=BO ia;subst z;exact XC pins s σ H _ v Q I r ⟨i,rfl,q ι H R.ext0 R _ (ofI _)⟩
 |_=>cases e
noncomputable def SY:D->D->M D
 | .int i,.int j=>ret (.int (i+j))
 | .str i,.str j=>bnd (lim (i.length+j.length)) λ_=>ret (.str (i++j))
 | .lst a,.lst b=>Ba (a++b)
 | .tup [],.tup b=>A5
 | .tup (a::as),.tup b=>Ah (a::as++b)
 |_,_=>A5
theorem Za:OpR X (binaryOp .Add) (rM X.kw SY):=λpins s σ H x y v u Q I rx ry h=>by
 obtain⟨ι,μ,a,b,d,μ',R,ia,ib,e,q⟩:=h;unfold SY at e;split at e
 ·cases e;cases BO ia;cases BO ib;exact X7 pins s σ H _ _ v u Q I rx ry ⟨_,_,rfl,rfl,q ι H R.ext0 R _ (ofI _)⟩
 ·obtain⟨_,μ1,e1,e2⟩:=AI e;obtain⟨hl,rfl⟩:=Dg e1;cases e2;cases DL ia;cases DL ib;exact Ng pins s σ H _ _ v u Q I rx ry ⟨_,_,rfl,rfl,hl,q ι H R.ext0 R _ (ofS _)⟩
 ·unfold Is at ia ib;obtain⟨p,vs,rfl,h1,hn,h2⟩:=ia;obtain⟨p',vs',rfl,h1',hn',h2'⟩:=ib;obtain⟨hl,w⟩:=D6 R (h2.append h2') e q;exact X6 pins s σ H _ _ v u Q I rx ry ⟨p,p',vs,vs',rfl,rfl,h1,h1',by rw[←AAH];exact hl,w⟩
 ·cases e
 ·rename_i a as bs;unfold Is at ia ib;obtain⟨p,vs,rfl,h1,h2⟩:=ia;obtain⟨p',vs',rfl,h1',h2'⟩:=ib;obtain⟨hl,w⟩:=Ox R (h2.append h2') e q;refine Vi pins s σ H _ _ v u Q I rx ry ⟨p,p',vs,vs',rfl,rfl,h1,h1',λz=>?_,by rw[←AAH];exact hl,λz=>?_,λ_=>w⟩
  ·have:=h2.length;rw[z] at this;cases this
  ·subst z;have hb:bs=[]:=by
    have:=h2'.length;cases bs with
    |nil=>rfl
    |cons _ _=>cases this
   subst hb;obtain⟨_,μ1,e1,e2⟩:=AI e;obtain⟨hl,rfl⟩:=Dg e1;cases e2;exact q ι H R.ext0 R _ (by unfold Is;exact⟨p,vs,rfl,h1,by rw[AAb];exact h2⟩)
 ·cases e
noncomputable def EJ:D->D->M D
 | .int i,.int j=>λμ=>if (-(2 ^ 64)<i/\i<2 ^ 64)∨(-(2 ^ 64)<j/\j<2 ^ 64) then some (.int (i * j),μ) else none
 | .lst a,.int j=>λμ=>if -(2 ^ 63)<=j/\j<2 ^ 63/\a.length * j.toNat<=sizeLine then Ba (List.replicate j.toNat a).flatten μ else none
 |_,_=>A5
theorem IsL.rep(h:IsL K ι k H ds vs):∀n:Nat,IsL K ι k H (List.replicate n ds).flatten (List.replicate n vs).flatten
 |0=>.nil
 |n+1=>by
  rw[AAn,AAn,List.flatten_cons,List.flatten_cons];exact h.append (IsL.rep h n)
theorem KJ:OpR X (binaryOp .Mult) (rM X.kw EJ):=λpins s σ H x y v u Q I rx ry h=>by
 obtain⟨ι,μ,a,b,d,μ',R,ia,ib,e,q⟩:=h;unfold EJ at e;split at e
 ·split at e
  ·rename_i hc;cases e;cases BO ia;cases BO ib;exact X2 pins s σ H _ _ v u Q I rx ry ⟨_,_,rfl,rfl,hc,q ι H R.ext0 R _ (ofI _)⟩
  ·cases e
 ·split at e
  ·rename_i hc;cases BO ib;unfold Is at ia;obtain⟨p,vs,rfl,h1,hn,h2⟩:=ia;obtain⟨hl,w⟩:=D6 R (h2.rep _) e q;exact Xz pins s σ H _ _ v u Q I rx ry ⟨p,_,vs,rfl,rfl,h1,hc.1,hc.2.1,by rw[h2.length];exact hc.2.2,w⟩
  ·cases e
 ·cases e
mutual
def toP(μ:Mh):D->Option PyData
 | .non=>some .none
 | .bl b=>some (.bool b)
 | .int i=>some (.int i)
 | .str x=>some (.str x)
 | .ty _=>none
 | .scr ns=>some (.list (ns.map PyData.int))
 | .tup ds=>(Fq μ ds).map PyData.tuple
 | .lst ds=>(Fq μ ds).map PyData.list
 | .ref _=>none
def Fq(μ:Mh):List D->Option (List PyData)
 |[]=>some []
 |d::ds=>(toP μ d).bind λp=>(Fq μ ds).map (p::·)
end
noncomputable def NY(μ:Mh):D->Option PyData
 | .ref n=>match μ[n]? with
  |some (.lst ds)=>(Fq μ ds).map PyData.list
  |_=>none
 |d=>toP μ d
section
variable{K:KW}{ι:Nat->Addr}{μ:Mh}{H:Hp}{k:Nat}
theorem PV:∀(ns:List Int),DatVs K H (ns.map V.int) (ns.map PyData.int)
 |[]=>.nil
 |n::r=>.cons (.int n) (PV r)
mutual
theorem Is.dat:∀{d:D} {v:V} {p:PyData},Is K ι k H d v->toP μ d=some p->DatV K H v p
 | .non,_,_,h,e=>by unfold Is at h;unfold toP at e;cases e;subst h;exact .non
 | .bl b,_,_,h,e=>by unfold Is at h;unfold toP at e;cases e;subst h;exact .bl b
 | .int b,_,_,h,e=>by unfold Is at h;unfold toP at e;cases e;subst h;exact .int b
 | .str b,_,_,h,e=>by unfold Is at h;unfold toP at e;cases e;subst h;exact .str b
 | .ty b,_,_,h,e=>by unfold toP at e;cases e
 | .scr ns,_,_,h,e=>by
  unfold Is at h;unfold toP at e;cases e;obtain⟨p,rfl,h⟩:=h;exact .lst h.sq (PV ns)
 | .tup ds,_,_,h,e=>by
  unfold Is at h;unfold toP at e;obtain⟨p,vs,rfl,h1,h2⟩:=h;cases q:Fq μ ds with
  |none=>rw[q] at e;cases e
  |some ps=>rw[q] at e;cases e;exact .tup h1 (IsL.dat h2 q)
 | .lst ds,_,_,h,e=>by
  unfold Is at h;unfold toP at e;obtain⟨p,vs,rfl,h1,_,h2⟩:=h;cases q:Fq μ ds with
  |none=>rw[q] at e;cases e
  |some ps=>rw[q] at e;cases e;exact .lst (SqL.of h1) (IsL.dat h2 q)
 | .ref n,_,_,h,e=>by unfold toP at e;cases e
theorem IsL.dat:∀{ds:List D} {vs:List V} {ps:List PyData},IsL K ι k H ds vs->Fq μ ds=some ps->DatVs K H vs ps
 |[],_,_,h,e=>by unfold IsL at h;unfold Fq at e;cases e;subst h;exact .nil
 |d::ds,_,_,h,e=>by
  unfold IsL at h;unfold Fq at e;obtain⟨v,vs',rfl,h1,h2⟩:=h;cases q:toP μ d with
  |none=>rw[q] at e;cases e
  |some p=>
   rw[q] at e;cases q2:Fq μ ds with
   |none=>rw[q2] at e;cases e
   |some ps=>rw[q2] at e;cases e;exact .cons (Is.dat h1 q) (IsL.dat h2 q2)
end
theorem V3(R:RelH K ι μ H)(h:Is K ι μ.length H d v)(e:NY μ d=some p):DatV K H v p:=by
 cases d with
 |ref n=>
  unfold Is at h;obtain⟨_,rfl⟩:=h;have e':(match μ[n]? with|some (.lst ds)=>(Fq μ ds).map PyData.list|_=>none)=some p:=e;split at e'
  ·rename_i ds hq;obtain⟨u,h1,vs,rfl,h2⟩:=R.obj n _ hq;cases q:Fq μ ds with
   |none=>rw[q] at e';cases e'
   |some ps=>rw[q] at e';cases e';exact .lst (SqL.of h1) (IsL.dat h2 q)
  ·cases e'
 |_=>exact Is.dat (μ:=μ) h e
end
noncomputable def KF(neg:Bool)(a b:D):M D:=λμ=>match NY μ a,NY μ b with
 |some p,some q=>if SeqAt.shaped p=true/\SeqAt.shaped q=true then some (.bl (if neg then !PyData.eqv p q else PyData.eqv p q),μ) else none
 |_,_=>none
noncomputable def Ai:D->D->M D:=KF false
noncomputable def CY:D->D->M D:=KF true
theorem Ip(e:KF neg a b μ=some (d,μ')):∃p q,NY μ a=some p/\NY μ b=some q/\SeqAt.shaped p=true/\SeqAt.shaped q=true/\d=.bl (if neg then !PyData.eqv p q else PyData.eqv p q)/\μ'=μ:=by
 unfold KF at e;split at e
 ·rename_i p q e1 e2;split at e
  ·rename_i h;cases e;exact⟨p,q,e1,e2,h.1,h.2,rfl,rfl⟩
  ·cases e
 ·cases e
theorem A0(hr:Room k X.A):OpR X (compareOp .Eq) (rM X.kw Ai):=OpR.wk (X5 (SK hr)) λx y H Q h=>by
 obtain⟨ι,μ,a,b,d,μ',R,ia,ib,e,q⟩:=h;obtain⟨p,p',e1,e2,s1,s2,rfl,rfl⟩:=Ip e;exact⟨p,p',V3 R ia e1,V3 R ib e2,s1,s2,q ι H R.ext0 R _ (ofB _)⟩
theorem Jm(hr:Room k X.A):OpR X (compareOp .NotEq) (rM X.kw CY):=OpR.wk (X1 (SK hr)) λx y H Q h=>by
 obtain⟨ι,μ,a,b,d,μ',R,ia,ib,e,q⟩:=h;obtain⟨p,p',e1,e2,s1,s2,rfl,rfl⟩:=Ip e;exact⟨p,p',V3 R ia e1,V3 R ib e2,s1,s2,q ι H R.ext0 R _ (ofB _)⟩
noncomputable def isN:D->Bool
 | .non=>true
 |_=>false
noncomputable def EW(neg:Bool):D->D->M D
 |a,.non=>ret (.bl (if neg then !isN a else isN a))
 |_,_=>A5
theorem PJ(h:Is K ι k H a x):decide (x=V.non)=isN a:=by
 cases a with
 |non=>unfold Is at h;subst h;rfl
 |bl b=>unfold Is at h;subst h;rfl
 |int b=>unfold Is at h;subst h;rfl
 |str b=>unfold Is at h;subst h;rfl
 |ty b=>unfold Is at h;subst h;rfl
 |scr ns=>unfold Is at h;obtain⟨p,rfl,_⟩:=h;rfl
 |tup ns=>unfold Is at h;obtain⟨p,o,rfl,_⟩:=h;rfl
 |lst ns=>unfold Is at h;obtain⟨p,o,rfl,_⟩:=h;rfl
 |ref ns=>unfold Is at h;obtain⟨_,rfl⟩:=h;rfl
theorem MR:OpR X (compareOp .Is) (rM X.kw (EW false)):=OpR.wk X4 λx y H Q h=>by
 obtain⟨ι,μ,a,b,d,μ',R,ia,ib,e,q⟩:=h;cases b with
 |non=>cases e;exact⟨Nw ib,by rw[PJ ia];exact q ι H R.ext0 R _ (ofB _)⟩
 |_=>cases e
theorem LK:OpR X (compareOp .IsNot) (rM X.kw (EW true)):=OpR.wk Vg λx y H Q h=>by
 obtain⟨ι,μ,a,b,d,μ',R,ia,ib,e,q⟩:=h;cases b with
 |non=>cases e;exact⟨Nw ib,by rw[PJ ia];exact q ι H R.ext0 R _ (ofB _)⟩
 |_=>cases e
noncomputable def Mr:D->Option V
 | .non=>some .non
 | .bl b=>some (.bl b)
 | .int i=>some (.int i)
 | .str x=>some (.str x)
 |_=>none
noncomputable def HG:List D->Option (List V)
 |[]=>some []
 |d::ds=>(Mr d).bind λv=>(HG ds).map (v::·)
section
variable{K:KW}{ι:Nat->Addr}{H:Hp}{k:Nat}
theorem JL(h:Is K ι k H d x)(e:Mr d=some v):x=v/\C7 v=true:=by
 cases d with
 |non=>cases e;unfold Is at h;exact⟨h,rfl⟩
 |bl b=>cases e;unfold Is at h;exact⟨h,rfl⟩
 |int b=>cases e;unfold Is at h;exact⟨h,rfl⟩
 |str b=>cases e;unfold Is at h;exact⟨h,rfl⟩
 |_=>cases e
theorem HF:∀{ds:List D} {vs xs:List V},IsL K ι k H ds xs->HG ds=some vs->xs=vs/\vs.all C7=true
 |[],_,_,h,e=>by cases e;unfold IsL at h;exact⟨h,rfl⟩
 |d::ds,_,_,h,e=>by
  unfold IsL at h;obtain⟨v,vs',rfl,h1,h2⟩:=h;unfold HG at e;cases q:Mr d with
  |none=>rw[q] at e;cases e
  |some w=>
   rw[q] at e;cases q2:HG ds with
   |none=>rw[q2] at e;cases e
   |some ws=>
    rw[q2] at e;cases e;obtain⟨rfl,f1⟩:=JL h1 q;obtain⟨rfl,f2⟩:=HF h2 q2;exact⟨rfl,by rw[List.all_cons,f1,f2];rfl⟩
end
noncomputable def B7:D->M (List D)
 | .tup ds=>ret ds
 |d=>By d
theorem CQ(R:RelH K ι μ H)(i:Is K ι μ.length H d v)(e:B7 d μ=some (ds,μ')):μ'=μ/\∃p vs,v=.ref p/\(SqL K H p vs∨SqT K H p vs)/\IsL K ι μ.length H ds vs:=by
 cases d with
 |tup es=>
  cases e;unfold Is at i;obtain⟨p,vs,rfl,h1,h2⟩:=i;exact⟨rfl,p,vs,rfl,.inr h1,h2⟩
 |lst es=>obtain⟨h,p,vs,a,b,c⟩:=Br R i e;exact⟨h,p,vs,a,.inl b,c⟩
 |scr es=>obtain⟨h,p,vs,a,b,c⟩:=Br R i e;exact⟨h,p,vs,a,.inl b,c⟩
 |ref es=>obtain⟨h,p,vs,a,b,c⟩:=Br R i e;exact⟨h,p,vs,a,.inl b,c⟩
 |_=>cases e
noncomputable def Wb(neg:Bool)(a b:D):M D:=bnd (B7 b) λds=>λμ=>match Mr a,HG ds with
 |some x,some xs=>some (.bl (if neg then !inV x xs else inV x xs),μ)
 |_,_=>none
noncomputable def Hl(neg:Bool):D->D->M D
 | .str i,.str j=>ret (.bl (if neg then !(!(Builtin.Str.occurrences j i 0 j.length 1).isEmpty) else !(Builtin.Str.occurrences j i 0 j.length 1).isEmpty))
 |a,b=>Wb neg a b
theorem SV(R:RelH K ι μ H)(ia:Is K ι μ.length H a x)(ib:Is K ι μ.length H b y)(e:Wb neg a b μ=some (d,μ'))(q:Aft K ι μ H μ' λι' H'=>∀v,Is K ι' μ'.length H' d v->Q v H'):rIn K neg x y H Q:=by
 obtain⟨ds,μ1,e1,e2⟩:=AI e;obtain⟨hm,p,vs,rfl,h1,h2⟩:=CQ R ib e1;subst hm;split at e2
 ·rename_i w ws q1 q2;cases e2;obtain⟨rfl,f1⟩:=JL ia q1;obtain⟨rfl,f2⟩:=HF h2 q2;exact⟨p,_,rfl,h1,f1,f2,q ι H R.ext0 R _ (ofB _)⟩
 ·cases e2
theorem ZY:OpR X (compareOp .In) (rM X.kw (Hl false)):=λpins s σ H x y v u Q I rx ry h=>by
 obtain⟨ι,μ,a,b,d,μ',R,ia,ib,e,q⟩:=h;unfold Hl at e;split at e
 ·cases e;cases DL ia;cases DL ib;exact QH pins s σ H _ _ v u Q I rx ry ⟨_,_,rfl,rfl,q ι H R.ext0 R _ (ofB _)⟩
 ·exact QI pins s σ H _ _ v u Q I rx ry (SV R ia ib e q)
theorem Ov:OpR X (compareOp .NotIn) (rM X.kw (Hl true)):=λpins s σ H x y v u Q I rx ry h=>by
 obtain⟨ι,μ,a,b,d,μ',R,ia,ib,e,q⟩:=h;unfold Hl at e;split at e
 ·cases e;cases DL ia;cases DL ib;exact LH pins s σ H _ _ v u Q I rx ry ⟨_,_,rfl,rfl,q ι H R.ext0 R _ (ofB _)⟩
 ·exact LI pins s σ H _ _ v u Q I rx ry (SV R ia ib e q)
noncomputable def ixD(ds:List D)(i:Int):M D:=λμ=>(atI ds i).map λd=>(d,μ)
noncomputable def AN:D->D->M D
 | .str z,.int i=>λμ=>if z.length<=sizeLine then (atI z.cps.toList i).map λc=>(.str ⟨#[c]⟩,μ) else none
 |a,.int i=>bnd (B7 a) λds=>ixD ds i
 |_,_=>A5
theorem AT:IxR X (rM X.kw AN):=λva sl pins s σ H x y v u Q I rx ry h hsl=>by
 obtain⟨ι,μ,a,b,d,μ',R,ia,ib,e,q⟩:=h;unfold AN at e;split at e
 ·split at e
  ·rename_i z i hl;cases DL ia;cases BO ib;cases qq:atI z.cps.toList i with
   |none=>rw[qq] at e;cases e
   |some c=>
    rw[qq] at e;cases e;exact Nu va sl pins s σ H _ _ v u Q I rx ry (.inr (.inr ⟨z,i,c,rfl,rfl,hl,qq,q ι H R.ext0 R _ (ofS _)⟩)) hsl
  ·cases e
 ·cases BO ib;obtain⟨ds,μ1,e1,e2⟩:=AI e;obtain⟨hm,p,vs,rfl,h1,h2⟩:=CQ R ia e1;subst hm;rename_i i _;unfold ixD at e2;cases qq:atI ds i with
  |none=>rw[qq] at e2;cases e2
  |some c=>
   rw[qq] at e2;cases e2;obtain⟨w,ew,iw⟩:=Yd h2 qq;rcases h1 with h1|h1
   ·exact Nu va sl pins s σ H _ _ v u Q I rx ry (.inl ⟨p,vs,i,w,rfl,rfl,h1,ew,q ι H R.ext0 R _ iw⟩) hsl
   ·exact Nu va sl pins s σ H _ _ v u Q I rx ry (.inr (.inl ⟨p,vs,i,w,rfl,rfl,h1,ew,q ι H R.ext0 R _ iw⟩)) hsl
 ·cases e
noncomputable def FO:List D->M D
 |[.str z]=>λμ=>if z.length<=sizeLine then some (.int z.length,μ) else none
 |[.ref n]=>λμ=>match μ[n]? with
  |some (.lst ds)=>some (.int ds.length,μ)
  |_=>none
 |[d]=>bnd (B7 d) λds=>ret (.int ds.length)
 |_=>A5
theorem Hi:Bv X (.builtin "len") (rMA X.kw FO):=λpins s σ H xs us Q I r h=>by
 obtain⟨ι,μ,as,d,μ',R,ia,e,q⟩:=h;refine Tw pins s σ H xs us Q I r ?_;unfold FO at e;split at e
 ·rename_i z;obtain⟨v,rfl,i1⟩:=HB ia;split at e
  ·rename_i hl;cases e;cases DL i1;exact⟨_,_,rfl,⟨hl,rfl⟩,q ι H R.ext0 R _ (ofI _)⟩
  ·cases e
 ·rename_i n;obtain⟨v,rfl,i1⟩:=HB ia;unfold Is at i1;obtain⟨_,rfl⟩:=i1;split at e
  ·rename_i ds hq;cases e;obtain⟨u,h1,vs,rfl,h2⟩:=R.obj n _ hq;exact⟨_,_,rfl,.inl ⟨vs,SqL.of h1,rfl⟩,by rw[h2.length];exact q ι H R.ext0 R _ (ofI _)⟩
  ·cases e
 ·obtain⟨v,rfl,i1⟩:=HB ia;obtain⟨ds,μ1,e1,e2⟩:=AI e;obtain⟨hm,p,vs,rfl,h1,h2⟩:=CQ R i1 e1;subst hm;cases e2;rw[←h2.length] at q;rcases h1 with h1|h1
  ·exact⟨_,_,rfl,.inl ⟨vs,h1,rfl⟩,q ι H R.ext0 R _ (ofI _)⟩
  ·exact⟨_,_,rfl,.inr ⟨vs,h1,rfl⟩,q ι H R.ext0 R _ (ofI _)⟩
 ·cases e
noncomputable def M3(ds:List D)(lo hi:Option Int):List D:=(ds.drop (HT.sIx ds.length 0 lo)).take (HT.sIx ds.length ds.length hi-HT.sIx ds.length 0 lo)
noncomputable def ZF(lo hi:Option Int):D->M D
 | .tup ds=>if HT.sIx ds.length 0 lo=0/\HT.sIx ds.length ds.length hi=ds.length then A5 else ret (.tup (M3 ds lo hi))
 |d=>bnd (By d) λds=>ret (.lst (M3 ds lo hi))
noncomputable def rMS(K:KW):V->Option Int->Option Int->Hp->VK->Prop:=λx lo hi H Q=>∃ι μ a d μ',RelH K ι μ H/\Is K ι μ.length H a x/\ZF lo hi a μ=some (d,μ') /\
 Aft K ι μ H μ' λι' H'=>∀v,Is K ι' μ'.length H' d v->Q v H'
theorem WT{K:KW}{ι:Nat->Addr}{μ:Mh}{vs:List V}{Q:VK}(R:RelH K ι μ H)(i:IsL K ι μ.length H ds vs)(q:Aft K ι μ H μ λι' H'=>∀v,Is K ι' μ.length H' (.lst ds) v->Q v H')(p:Addr)(hp:H p=none):Q (.ref p) (upd H p (.lst vs)):=by
 obtain⟨E1,R1⟩:=R.laid (.lst vs) hp;have ho:∀n,n<μ.length->ι n≠p:=λn hn z=>by
  obtain⟨o,e,_⟩:=R.muts n hn;rw[z,hp] at e;cases e
 exact q ι _ E1 R1 _ (by unfold Is;exact⟨p,vs,rfl,BI,ho,i.ext E1⟩)
theorem Mf{K:KW}{ι:Nat->Addr}{μ:Mh}{vs:List V}{Q:VK}(R:RelH K ι μ H)(i:IsL K ι μ.length H ds vs)(q:Aft K ι μ H μ λι' H'=>∀v,Is K ι' μ.length H' (.tup ds) v->Q v H')(p:Addr)(hp:H p=none):Q (.ref p) (upd H p (.tup vs)):=by
 obtain⟨E1,R1⟩:=R.laid (.tup vs) hp;exact q ι _ E1 R1 _ (by unfold Is;exact⟨p,vs,rfl,SqT.of BI,i.ext E1⟩)
theorem aY:SlR X (rMS X.kw):=λpins s σ H x v vl vu lo hi sl Q I rx hs pl pu h=>by
 obtain⟨ι,μ,a,d,μ',R,ia,e,q⟩:=h;refine(SlR.or Uv XM) pins s σ H x v vl vu lo hi sl Q I rx hs pl pu ?_;unfold ZF at e;split at e
 ·rename_i ds;unfold Is at ia;obtain⟨p,vs,rfl,h1,h2⟩:=ia;split at e
  ·cases e
  ·rename_i hc;cases e;exact .inr ⟨p,vs,rfl,h1,by rw[h2.length];exact hc,λp hp=>Mf R (To h2) q p hp⟩
 ·obtain⟨ds,μ1,e1,e2⟩:=AI e;obtain⟨hm,p,vs,rfl,h1,h2⟩:=Br R ia e1;subst hm;cases e2;exact .inl ⟨p,vs,rfl,h1,λp hp=>WT R (To h2) q p hp⟩
noncomputable def Ci:Sl->M (Option Int):=λ_=>ret none
noncomputable def asI:D->M (Option Int)
 | .int i=>ret (some i)
 |_=>A5
noncomputable def EN(m:Sl->M D):Sl->M (Option Int):=λτ=>bnd (m τ) asI
noncomputable def tPt(K:KW)(m:Sl->M (Option Int)):TO:=λσ H Q=>∃ι μ τ b μ',RelH K ι μ H/\RelS K ι μ.length H τ σ/\m τ μ=some (b,μ')/\Aft K ι μ H μ' λ_ H'=>Q b H'
structure RO(X:Cx)(e:Option Expr)(m:Sl->M (Option Int)):Prop where
 pe:PO X e (tPt X.kw m)
theorem PO.wk(h:PO X e t)(w:∀σ H Q,t' σ H Q->t σ H Q):PO X e t':=λpins s σ H Q I q=>h pins s σ H Q I (w σ H Q q)
theorem RO.wk(h:PO X e t)(w:∀σ H Q,tPt X.kw m σ H Q->t σ H Q):RO X e m:=⟨PO.wk h w⟩
theorem Dy:RO X none Ci:=RO.wk VQ λσ H Q h=>by
 obtain⟨ι,μ,τ,b,μ',R,S,e,q⟩:=h;cases e;exact q ι H R.ext0 R
theorem Dx(h:RE X e m):RO X (some e) (EN m):=RO.wk (VP h.pe) λσ H Q h=>by
 obtain⟨ι,μ,τ,b,μ',R,S,e,q⟩:=h;obtain⟨x,μ1,e1,e⟩:=AI e;refine⟨ι,μ,τ,x,μ1,R,S,e1,λι1 H1 E1 R1 v i1=>?_⟩;cases x with
 |int i=>cases e;exact⟨i,BO i1,q ι1 H1 E1 R1⟩
 |_=>cases e
noncomputable def tyD(μ:Mh):D->Option String
 | .non=>some "NoneType"
 | .bl _=>some "bool"
 | .int _=>some "int"
 | .str _=>some "str"
 | .tup _=>some "tuple"
 | .lst _=>some "list"
 | .scr _=>none
 | .ref n=>match μ[n]? with
  |some (.lst _)=>some "list"
  |some (.dK _)=>some "dict"
  |some (.dC _)=>none
  |some (.ins _ _)=>none
  |some (.dP _)=>none
  |none=>none
 | .ty _=>none
noncomputable def PF(t T:String):Option Bool:=
 if t∈["NoneType", "bool", "int", "str", "tuple", "list", "dict"]/\T∈["bool", "int", "str", "tuple", "list", "dict"] then some (t==T||(t == "bool" && T == "int")) else none
theorem Vq(h:PF t T=some b):PySem.W.kitOne K (.type t) (.type T)=some b:=by
 unfold PF at h;split at h
 ·rename_i hm;obtain⟨h1,h2⟩:=hm;simp only[AAJ,List.not_mem_nil,or_false] at h1 h2;rcases h1 with rfl|rfl|rfl|rfl|rfl|rfl|rfl<;>rcases h2 with rfl|rfl|rfl|rfl|rfl|rfl<;>(cases h;kernel_rfl)
 ·cases h
noncomputable def Mp:List D->M D
 |[a,.ty T]=>λμ=>match tyD μ a with
  |some t=>(PF t T).map λb=>(.bl b,μ)
  |none=>none
 |_=>A5
theorem OB:Bv X (.builtin "isinstance") (rMA X.kw Mp):=λpins s σ H xs us Q I r h=>by
 obtain⟨ι,μ,as,d,μ',R,ia,e,q⟩:=h;unfold Mp at e;split at e
 ·rename_i a T;obtain⟨v,v',rfl,i1,i2⟩:=Ta ia;cases Ze i2;split at e
  ·rename_i t ht;cases hk:PF t T with
   |none=>rw[hk] at e;cases e
   |some b=>
    rw[hk] at e;cases e;have kit:=Vq (K:=X.kw) hk;have fin:=q ι H R.ext0 R _ (ofB b);have byTy:Gn X.kw H v (.type t)->wpAny (model X.prog X.w) X.A (call (.builtin "isinstance") us) (EP X pins σ Q) X.xe s:=λty=>
     M9 pins s σ H _ us Q I r ⟨v,T,_,b,rfl,ty,kit,fin⟩
    cases a with
    |non=>cases ht;cases Nw i1;exact byTy .non
    |bl x=>cases ht;cases TY i1;exact byTy (.bl x)
    |int x=>cases ht;cases BO i1;exact byTy (.int x)
    |str x=>cases ht;cases DL i1;exact byTy (.str x)
    |ty n=>cases ht
    |lst ds=>cases ht;unfold Is at i1;obtain⟨p,vs,rfl,h1,_⟩:=i1;exact byTy (.lst h1)
    |scr ns=>cases ht
    |ref n=>
     unfold Is at i1;obtain⟨_,rfl⟩:=i1;have ht:(match μ[n]? with|some (.lst _)=>some "list" |some (.dK _)=>some "dict" |some (.dC _)=>none|some (.ins _ _)=>none|some (.dP _)=>none|none=>none)=some t:=ht;split at ht
     ·rename_i ds hq;cases ht;obtain⟨u,h1,vs,rfl,h2⟩:=R.obj n _ hq;exact byTy (.lst h1)
     ·rename_i ds hq;cases ht;obtain⟨u,h1,vs,rfl,h2⟩:=R.obj n _ hq;exact byTy (.dK h1)
     ·cases ht
     ·cases ht
     ·cases ht
     ·cases ht
    |tup ds=>
     cases ht;unfold Is at i1;obtain⟨p,vs,rfl,h1,h2⟩:=i1;obtain⟨its,_,⟨o,g1,g2,_⟩,_⟩:=I.tuple h1;obtain⟨u1,u2,rfl,r1,r2⟩:=Vals.two r;cases r1;cases r2;exact PySem.W.kia_one PySem.W.kitx_tuple I.kIn ⟨o,g1,g2⟩ kit (λz=>nomatch z) λtk=>⟨.bl b,H,I.tok _,rfl,fin⟩
  ·cases e
 ·cases e
noncomputable def Jq:List D->M D
 |[.int i]=>ret (.int i)
 |[.bl b]=>ret (.int (if b then 1 else 0))
 |_=>A5
theorem Kh:Bv X (.type "int") (rMA X.kw Jq):=λpins s σ H xs us Q I r h=>by
 obtain⟨ι,μ,as,d,μ',R,ia,e,q⟩:=h;refine Qo pins s σ H xs us Q I r ?_;unfold Jq at e;split at e
 ·obtain⟨v,rfl,i1⟩:=HB ia;cases e;cases BO i1;exact .inl ⟨_,rfl,q ι H R.ext0 R _ (ofI _)⟩
 ·obtain⟨v,rfl,i1⟩:=HB ia;cases e;cases TY i1;exact .inr ⟨_,rfl,q ι H R.ext0 R _ (ofI _)⟩
 ·cases e
noncomputable def TF:List D->M D
 |[.int i,.int j]=>ret (.int (if j > i then j else i))
 |_=>A5
noncomputable def TD:List D->M D
 |[.int i,.int j]=>ret (.int (if j<i then j else i))
 |_=>A5
theorem Wl(hc:X.calm=true):Bv X (.builtin "max") (rMA X.kw TF):=λpins s σ H xs us Q I r h=>by
 obtain⟨ι,μ,as,d,μ',R,ia,e,q⟩:=h;refine Qn hc pins s σ H xs us Q I r ?_;unfold TF at e;split at e
 ·obtain⟨v,w,rfl,i1,i2⟩:=Ta ia;cases e;cases BO i1;cases BO i2;exact⟨_,_,rfl,q ι H R.ext0 R _ (ofI _)⟩
 ·cases e
theorem Wk(hc:X.calm=true):Bv X (.builtin "min") (rMA X.kw TD):=λpins s σ H xs us Q I r h=>by
 obtain⟨ι,μ,as,d,μ',R,ia,e,q⟩:=h;refine Qm hc pins s σ H xs us Q I r ?_;unfold TD at e;split at e
 ·obtain⟨v,w,rfl,i1,i2⟩:=Ta ia;cases e;cases BO i1;cases BO i2;exact⟨_,_,rfl,q ι H R.ext0 R _ (ofI _)⟩
 ·cases e
noncomputable def Ds:List D->M D
 |[.tup ds]=>ret (.tup ds)
 |[d]=>bnd (By d) λds=>ret (.tup ds)
 |_=>A5
theorem Gh:Bv X (.type "tuple") (rMA X.kw Ds):=λpins s σ H xs us Q I r h=>by
 obtain⟨ι,μ,as,d,μ',R,ia,e,q⟩:=h;unfold Ds at e;split at e
 ·obtain⟨v,rfl,i1⟩:=HB ia;cases e;have i2:=i1;unfold Is at i1;obtain⟨p,vs,rfl,h1,h2⟩:=i1;exact M7 pins s σ H _ us Q I r ⟨p,vs,rfl,h1,q ι H R.ext0 R _ i2⟩
 ·obtain⟨v,rfl,i1⟩:=HB ia;obtain⟨ds,μ1,e1,e2⟩:=AI e;obtain⟨hm,p,vs,rfl,h1,h2⟩:=Br R i1 e1;subst hm;cases e2;obtain⟨u,rfl,ru⟩:=Vals.one r;cases ru;obtain⟨its,rv,pl,hz⟩:=I.list h1;refine PySem.call_tuple_list pl.isList (λh' hk=>?_) (by rw[List.size_toArray,←rv.length];exact hz);have I1:Inv X pins σ H { s with heap:=h' }:=I.kept (t':=s.toks) hk;have I2:Inv X pins σ (upd H h'.objs.size (.tup vs)) { s with heap:=h'.push { cls:=.type "tuple",data:=.seq its.toArray } }:=I1.laid (t':=s.toks) (o:=.tup vs) (λb ob q=>AAC _ q) (AAF _) ⟨hz,its,rv,PyProof.Rows.IsTup.new _ _⟩;exact⟨.ref h'.objs.size,_,I2,rfl,Mf R h2 q _ (I1.hok.fresh (AAF _))⟩
 ·cases e
end
section
variable{X:Cx}{e a b c o i f:Expr}{es:List Expr}{pos apos cpos:Pos}
theorem Ru(h:tE K (LM g g' ma mb mc) σ H Q):Rx (rM K g) (rM K g') (tE K ma) (tE K mb) (tE K mc) σ H Q:=by
 obtain⟨ι,μ,τ,d,μ',R,S,e,q⟩:=h;obtain⟨x,μ1,e1,ee1⟩:=AI e;obtain⟨y,μ2,e2,ee2⟩:=AI ee1;obtain⟨z,μ3,e3,ee3⟩:=AI ee2;obtain⟨k,μ4,e4,ee4⟩:=AI ee3;obtain⟨hz,hm⟩:=Gj e4;subst hm;subst hz;refine⟨ι,μ,τ,x,μ1,R,S,e1,λι1 H1 E1 R1 v1 i1=>⟨ι1,μ1,τ,y,μ2,R1,S.ext E1,e2,λι2 H2 E2 R2 v2 i2=>?_⟩⟩;refine⟨ι2,μ2,x,y,_,_,R2,i1.ext E2,i2,e3,λι3 H3 E3 R3 v3 i3=>⟨k,TY i3,?_⟩⟩;have E13:=(E1.trans E2).trans E3;cases k with
 |false=>cases ee4;exact q ι3 H3 E13 R3 _ (ofB _)
 |true=>
  obtain⟨w,μ5,e5,ee5⟩:=AI ee4;exact⟨ι3,_,τ,w,μ5,R3,S.ext E13,e5,λι4 H4 E4 R4 v4 i4=>⟨ι4,μ5,y,w,d,μ',R4,i2.ext (E3.trans E4),i4,ee5,λι5 H5 E5 R5=>q ι5 H5 ((E13.trans E4).trans E5) R5⟩⟩
theorem MI(ho:OpR X (compareOp op) (rM X.kw g))(ho':OpR X (compareOp op') (rM X.kw g'))(ha:RE X a ma)(hb:RE X b mb)(hc:RE X c mc)(hm:lastMarks [op,op'] [b,c]=false:=by with_unfolding_all rfl):
  RE X (.Compare a [op,op'] [b,c] pos) (LM g g' ma mb mc):=RE.wk (Sz ho ho' ha.pe hb.pe hc.pe hm) λ_ _ _ h=>Ru h
theorem LE(hm:X.mg x=none)(hv:bootBuiltins x=some (.type n))(hg:Gl X x:=by rfl)(hn:x ≠ "__name__" := by decide)(hdb:(x==("__debug__" : Str))=false:=by decide):RE X (.Name x pos) (mC (.ty n)):=
 P9 (t:=λ_ _ _=>True) (Vd (v:=.ty n) hg hm hv rfl hn hdb) λ_ _ _=>by unfold Is;rfl
noncomputable def Cj(d:D):M Unit:=bnd (By d) λ_=>ret ()
noncomputable def A3(g:D->List D->M D)(mo:Sl->M D)(ma:Sl->M (List D)):Sl->M D:=λτ=>bnd (mo τ) λx=>bnd (Cj x) λ_=>bnd (ma τ) λxs=>g x xs
noncomputable def rMM(K:KW)(g:D->List D->M D):V->List V->Hp->VK->Prop:=λx xs H Q=>∃ι μ a as d μ',RelH K ι μ H/\Is K ι μ.length H a x/\IsL K ι μ.length H as xs/\g a as μ=some (d,μ') /\
 Aft K ι μ H μ' λι' H'=>∀v,Is K ι' μ'.length H' d v->Q v H'
theorem Hf(R:RelH K ι μ H)(i:Is K ι μ.length H d v)(e:Cj d μ=some (u,μ')):μ'=μ/\tyV K "list" v H:=by
 obtain⟨ds,μ1,e1,ee1⟩:=AI e;cases ee1;obtain⟨hm,p,vs,rfl,h1,h2⟩:=Br R i e1;exact⟨hm,.inl ⟨rfl,vs,h1⟩⟩
theorem HD(e:Cj d μ=some (u,μ')):μ'=μ:=by
 obtain⟨ds,μ1,e1,ee1⟩:=AI e;cases ee1;cases d with
 |lst _=>cases e1;rfl
 |scr _=>cases e1;rfl
 |ref n=>
  have e1:(match μ[n]? with|some (.lst ds)=>some (ds,μ)|_=>none)=some (ds,μ'):=e1;split at e1
  ·cases e1;rfl
  ·cases e1
 |_=>cases e1
theorem Rt(h:tE K (A3 g mo ma) σ H Q):tBM K "list" (rMM K g) (tE K mo) (tL K ma) σ H Q:=by
 obtain⟨ι,μ,τ,d,μ',R,S,e,q⟩:=h;obtain⟨x,μ1,e1,ee1⟩:=AI e;obtain⟨u,μ2,e2,ee2⟩:=AI ee1;obtain⟨as,μ3,e3,ee3⟩:=AI ee2;have hm:=HD e2;subst hm;refine⟨ι,μ,τ,x,_,R,S,e1,λι1 H1 E1 R1 v1 i1=>⟨(Hf R1 i1 e2).2,?_⟩⟩;refine⟨ι1,_,τ,as,μ3,R1,S.ext E1,e3,λι2 H2 E2 R2 vs i2=>?_⟩;exact⟨ι2,μ3,x,as,d,μ',R2,i1.ext E2,i2,ee3,λι3 H3 E3 R3=>q ι3 H3 ((E1.trans E2).trans E3) R3⟩
theorem BZ{name:Str}{id:String}(slot:Slot "list" name id)(hty:typeOf (.builtin id)=pure (.type "method_descriptor"))(hm:MtR X id (rMM X.kw g))(ho:RE X o mo)(ha:RA X (e::es) ma)
  (hbase:attributeBase o name X.env (eval o X.env)=eval o X.env:=by rfl)
  (hfew:((backTo cpos (starEach (e::es) X.env)).all (λx=>!x.1)&&(backToKw cpos (keywordEach [] X.env)).all (λx=>x.1.isSome)
   && decide ((e::es).length+([]:List Keyword).length+(if ([]:List Keyword).isEmpty then 0 else 1)<30))=true:=by rfl)
  (hline:(apos.endLine==cpos.line)=true:=by rfl) (hs:starEach (e::es) X.env=(false,eval e X.env)::starEach es X.env:=by exact As rfl) (hplain:(backTo cpos (starEach es X.env)).any (·.1)=false:=by exact BW rfl) :
  RE X (.Call (.Attribute o name apos) (e::es) [] cpos) (A3 g mo ma):=RE.wk (ZM PySem.F.plainAttrs_list slot hty hm ho.pe ha.pe hbase hfew hline hs hplain) λ_ _ _ h=>Rt h
noncomputable def IV(n:Nat)(k:List D->Option (D×List D)):M D:=λμ=>match μ[n]? with
 |some (.lst ds)=>(k ds).map λr=>(r.1,μ.set n (.lst r.2))
 |_=>none
theorem Gw(e:IV n k μ=some (d,μ')):∃ds es,μ[n]?=some (.lst ds)/\k ds=some (d,es)/\μ'=μ.set n (.lst es):=by
 unfold IV at e;split at e
 ·rename_i ds hq;cases hk:k ds with
  |none=>rw[hk] at e;cases e
  |some r=>rw[hk] at e;cases e;exact⟨ds,r.2,hq,hk,rfl⟩
 ·cases e
theorem K3{K:KW}{ι:Nat->Addr}{μ:Mh}{H:Hp}{n:Nat}{d:D}{es:List D}{ws:List V}{v:V}{Q:VK}{ds:List D}(R:RelH K ι μ H)(hn:μ[n]?=some (.lst ds))(iw:IsL K ι μ.length H es ws)(iv:Is K ι μ.length H d v)
  (q:Aft K ι μ H (μ.set n (.lst es)) λι' H'=>∀v,Is K ι' (μ.set n (.lst es)).length H' d v->Q v H'):Q v (upd H (ι n) (.lst ws)):=by
 have hlt:n<μ.length:=(AAU.mp hn).1;obtain⟨E1,R1⟩:=R.changed (m:=.lst es) (o:=.lst ws) hlt ⟨ws,rfl,iw⟩;exact q ι _ E1 R1 v (iv.ext E1)
noncomputable def GC:D->List D->M D
 | .ref n,[d]=>IV n λds=>if ds.length<sizeLine then some (.non,ds++[d]) else none
 |_,_=>A5
theorem Cc:MtR X "list.append" (rMM X.kw GC):=λpins s σ H x xs v us Q I rx rs h=>by
 obtain⟨ι,μ,a,as,d,μ',R,ia,ib,e,q⟩:=h;unfold GC at e;split at e
 ·rename_i n y;obtain⟨ds,es,h1,h2,rfl⟩:=Gw e;split at h2
  ·rename_i hl;cases h2;obtain⟨w,rfl,iw⟩:=HB ib;unfold Is at ia;obtain⟨_,rfl⟩:=ia;obtain⟨u,g1,vs,rfl,g2⟩:=R.obj n _ h1;exact QQ pins s σ H _ _ v us Q I rx rs ⟨_,vs,w,rfl,rfl,g1,by rw[g2.length];exact hl,K3 R h1 (g2.append (.one iw)) ofN q⟩
  ·cases h2
 ·cases e
noncomputable def JM:D->List D->M D
 | .ref n,[.lst zs]=>IV n λds=>if ds.length+zs.length<=sizeLine then some (.non,ds++zs) else none
 |_,_=>A5
theorem JB:MtR X "list.extend" (rMM X.kw JM):=λpins s σ H x xs v us Q I rx rs h=>by
 obtain⟨ι,μ,a,as,d,μ',R,ia,ib,e,q⟩:=h;unfold JM at e;split at e
 ·rename_i n zs;obtain⟨ds,es,h1,h2,rfl⟩:=Gw e;split at h2
  ·rename_i hl;cases h2;obtain⟨w,rfl,iw⟩:=HB ib;unfold Is at ia iw;obtain⟨_,rfl⟩:=ia;obtain⟨p,ws,rfl,k1,_,k2⟩:=iw;obtain⟨u,g1,vs,rfl,g2⟩:=R.obj n _ h1;exact QP pins s σ H _ _ v us Q I rx rs ⟨_,p,vs,ws,rfl,rfl,g1,k1,by rw[g2.length,k2.length];exact hl,K3 R h1 (g2.append k2) ofN q⟩
  ·cases h2
 ·cases e
noncomputable def U1:D->D->D->M Unit
 | .ref n,.int k,d=>λμ=>match μ[n]? with
  |some (.lst ds)=>(ixN ds.length k).map λj=>((),μ.set n (.lst (ds.set j d)))
  |_=>none
 |_,_,_=>A5
noncomputable def Qt(mo mi:Sl->M D):D->Sl->M Sl:=λd τ=>bnd (mo τ) λx=>bnd (mi τ) λy=>bnd (U1 x y d) λ_=>ret τ
theorem P3(e:U1 x y d μ=some (u,μ')):∃n k ds j,x=.ref n/\y=.int k/\μ[n]?=some (.lst ds)/\ixN ds.length k=some j/\μ'=μ.set n (.lst (ds.set j d)):=by
 unfold U1 at e;split at e
 ·rename_i n k;split at e
  ·rename_i ds hq;cases hk:ixN ds.length k with
   |none=>rw[hk] at e;cases e
   |some j=>rw[hk] at e;cases e;exact⟨n,k,ds,j,rfl,rfl,hq,hk,rfl⟩
  ·cases e
 ·cases e
theorem SR(ho:RE X o mo)(hi:RE X i mi)
  (ha:∀v,assign (.Subscript o i pos) X.env v=(do
   let ov ←holding [v] (eval o X.env)
   let iv ←holding [v,ov] (eval i X.env)
   standAt pos
   holding [v,ov,iv] (setItem ov iv v)
   release [v,ov,iv] []):=by intro _;rfl):RG X (.Subscript o i pos) (Qt mo mi):=RG.wk (Xh ho.pe hi.pe R8 ha) λv σ H Q h=>by
 obtain⟨ι,μ,τ,d,τ',μ',R,S,i1,e,q⟩:=h;obtain⟨x,μ1,e1,ee1⟩:=AI e;obtain⟨y,μ2,e2,ee2⟩:=AI ee1;obtain⟨u,μ3,e3,ee3⟩:=AI ee2;cases ee3;refine⟨ι,μ,_,x,μ1,R,S,e1,λι1 H1 E1 R1 v1 j1=>⟨ι1,μ1,_,y,μ2,R1,S.ext E1,e2,λι2 H2 E2 R2 v2 j2=>?_⟩⟩;obtain⟨n,k,ds,j,rfl,rfl,g1,g2,rfl⟩:=P3 e3;have E12:=E1.trans E2;have j1':=j1.ext E2;unfold Is at j1';obtain⟨hlt,rfl⟩:=j1';cases BO j2;obtain⟨w,k1,vs,rfl,k2⟩:=R2.obj n _ g1;obtain⟨E3,R3⟩:=R2.changed (m:=.lst (ds.set j d)) (o:=.lst (vs.set j v)) hlt ⟨_,rfl,k2.set (i1.ext E12) j⟩;exact⟨_,vs,k,j,rfl,rfl,k1,by rw[k2.length];exact g2,q ι2 _ (E12.trans E3) R3 σ (S.ext (E12.trans E3))⟩
noncomputable def JG:D->Option Key
 | .int i=>some (.inl i)
 | .str x=>some (.inr x)
 |_=>none
noncomputable def Be:D->M (Nat×List (Key×D))
 | .ref n=>λμ=>match μ[n]? with
  |some (.dK l)=>some ((n,l),μ)
  |_=>none
 |_=>A5
noncomputable def GM(l:List (Key×D))(k:Key):Option D:=(l.find? λkv=>decide (kv.1=k)).map (·.2)
noncomputable def C3(l:List (Key×D))(k:Key)(d:D):List (Key×D):=
 if (l.any λkv=>decide (kv.1=k))=true then l.map (λkv=>if kv.1=k then (kv.1,d) else kv) else l++[(k,d)]
noncomputable def YA:Sl->M D:=λ_ μ=>some (.ref μ.length,μ++[.dK []])
theorem VB:RE X (.Dict [] [] pos) YA:=RE.wk Sy λσ H Q h=>by
 obtain⟨ι,μ,τ,d,μ',R,S,e,q⟩:=h;cases e;intro p hp;obtain⟨ι',E1,R1,e0⟩:=R.grown (m:=.dK []) (o:=.dK []) hp ⟨[],rfl,rfl⟩;exact q ι' _ E1 R1 _ (by unfold Is;exact⟨by simp,by rw[e0]⟩)
section
variable{K:KW}{ι:Nat->Addr}{k:Nat}{H:Hp}
theorem KVs.val:∀{l:List (Key×D)} {r:List (Key×V)} (y:Key),KVs K ι k H l r->(GM l y=none/\Fp r y=none)∨∃d v,GM l y=some d/\Fp r y=some v/\Is K ι k H d v
 |[],_,y,h=>by cases h;exact .inl ⟨rfl,rfl⟩
 |(z,d)::l,_,y,h=>by
  obtain⟨v,r',rfl,h1,h2⟩:=h;by_cases hz:z=y
  ·subst hz;exact .inr ⟨d,v,by simp[GM],by simp[Fp],h1⟩
  ·have:=KVs.val y h2;simpa[GM,Fp,List.find?_cons,hz] using this
theorem KVs.any:∀{l:List (Key×D)} {r:List (Key×V)} (y:Key),KVs K ι k H l r->(l.any λkv=>decide (kv.1=y))=(r.any λkv=>decide (kv.1=y))
 |[],_,y,h=>by cases h;rfl
 |(z,d)::l,_,y,h=>by
  obtain⟨v,r',rfl,h1,h2⟩:=h;rw[List.any_cons,List.any_cons,KVs.any y h2]
theorem KVs.length:∀{l:List (Key×D)} {r:List (Key×V)},KVs K ι k H l r->r.length=l.length
 |[],_,h=>by cases h;rfl
 |(z,d)::l,_,h=>by
  obtain⟨v,r',rfl,h1,h2⟩:=h;rw[AAI,AAI,KVs.length h2]
theorem KVs.app:∀{l:List (Key×D)} {r:List (Key×V)} {y:Key} {d:D} {v:V},KVs K ι k H l r->Is K ι k H d v->KVs K ι k H (l++[(y,d)]) (r++[(y,v)])
 |[],_,y,d,v,h,h1=>by cases h;exact⟨v,[],rfl,h1,rfl⟩
 |(z,e)::l,_,y,d,v,h,h1=>by
  obtain⟨w,r',rfl,h2,h3⟩:=h;exact⟨w,_,rfl,h2,KVs.app h3 h1⟩
theorem KVs.mapPut:∀{l:List (Key×D)} {r:List (Key×V)} {y:Key} {d:D} {v:V},KVs K ι k H l r->Is K ι k H d v->KVs K ι k H (l.map λkv=>if kv.1=y then (kv.1,d) else kv) (r.map λkv=>if kv.1=y then (kv.1,v) else kv)
 |[],_,y,d,v,h,h1=>by cases h;rfl
 |(z,e)::l,_,y,d,v,h,h1=>by
  obtain⟨w,r',rfl,h2,h3⟩:=h;rw[AAX,AAX];by_cases hz:z=y
  ·subst hz;simp only[if_true];exact⟨v,_,rfl,h1,KVs.mapPut h3 h1⟩
  ·simp only[hz,if_false];exact⟨w,_,rfl,h2,KVs.mapPut h3 h1⟩
theorem KVs.put(h:KVs K ι k H l r)(h1:Is K ι k H d v):KVs K ι k H (C3 l y d) (DD r y v):=by
 unfold C3 DD;rw[h.any y];split
 ·exact h.mapPut h1
 ·exact h.app h1
theorem LP(h:Is K ι k H d v)(e:JG d=some y):v=kV y:=by
 cases d with
 |int i=>cases e;unfold Is at h;exact h
 |str i=>cases e;unfold Is at h;exact h
 |_=>cases e
theorem Cg(R:RelH K ι μ H)(i:Is K ι μ.length H d v)(e:Be d μ=some (r,μ')):μ'=μ/\d=.ref r.1/\μ[r.1]?=some (.dK r.2)/\v=.ref (ι r.1)/\∃kvs,H (ι r.1)=some (.dK kvs)/\KVs K ι μ.length H r.2 kvs:=by
 cases d with
 |ref n=>
  have e:(match μ[n]? with|some (.dK l)=>some ((n,l),μ)|_=>none)=some (r,μ'):=e;split at e
  ·rename_i l hq;cases e;unfold Is at i;obtain⟨u,h1,kvs,rfl,h2⟩:=R.obj n _ hq;exact⟨rfl,rfl,hq,i.2,kvs,h1,h2⟩
  ·cases e
 |_=>cases e
end
noncomputable def Bt(d y:D):M D:=bnd (Be d) λr=>λμ=>((JG y).bind (GM r.2)).map λv=>(v,μ)
theorem Bp(hr:Room k X.A)(ho:RE X o mo)(hi:RE X i mi)(hs:Qu i:=by exact λ_ _=>rfl):RE X (.Subscript o i pos) (mOp Bt mo mi):=RE.wk (VZ (Wd hr) ho.pe hi.pe hs) λσ H Q h=>by
 obtain⟨ι,μ,τ,d,μ',R,S,e,q⟩:=h;obtain⟨x,μ1,e1,ee1⟩:=AI e;obtain⟨y,μ2,e2,ee2⟩:=AI ee1;obtain⟨r,μ3,e3,ee3⟩:=AI ee2;refine⟨ι,μ,τ,x,μ1,R,S,e1,λι1 H1 E1 R1 v1 i1=>⟨ι1,μ1,τ,y,μ2,R1,S.ext E1,e2,λι2 H2 E2 R2 v2 i2=>?_⟩⟩;obtain⟨hm,_,g1,rfl,kvs,g2,g3⟩:=Cg R2 (i1.ext E2) e3;subst hm;cases hk:JG y with
 |none=>rw[hk] at ee3;cases ee3
 |some ky=>
  rw[hk] at ee3;cases LP i2 hk;rcases g3.val ky with ⟨z1,_⟩|⟨dd,vv,z1,z2,z3⟩
  ·rw[Option.bind_some,z1] at ee3;cases ee3
  ·rw[Option.bind_some,z1] at ee3;cases ee3;exact⟨_,vv,rfl,by rw[←z2];exact DGet.k g2,q ι2 H2 (E1.trans E2) R2 vv z3⟩
noncomputable def C0(mo mi mv:Sl->M D):Sl->M (Fl×Sl):=λτ=>bnd (mv τ) λv=>bnd (mo τ) λx=>bnd (mi τ) λy=>bnd (Be x) λr=>λμ=>match JG y with
 |some k=>if r.2.length<sizeLine then some ((.next,τ),μ.set r.1 (.dK (C3 r.2 k v))) else none
 |none=>none
theorem Dw(hr:Room k X.A)(ho:RE X o mo)(hi:RE X i mi)(hv:RE X value mv)(hs:swapsWith value (some (.Subscript o i pos')) pos.line X.env=pure false:=by rfl):RS X (.Assign [.Subscript o i pos'] value pos) (C0 mo mi mv):=RS.wk (VN (Wd hr) ho.pe hi.pe hv.pe hs) λDn σ H h=>by
 obtain⟨ι,μ,τ,f,τ',μ',R,S,e,q⟩:=h;obtain⟨v,μ1,e1,ee1⟩:=AI e;obtain⟨x,μ2,e2,ee2⟩:=AI ee1;obtain⟨y,μ3,e3,ee3⟩:=AI ee2;obtain⟨r,μ4,e4,ee4⟩:=AI ee3;refine⟨ι,μ,τ,v,μ1,R,S,e1,λι1 H1 E1 R1 v1 i1=>⟨ι1,μ1,τ,x,μ2,R1,S.ext E1,e2,λι2 H2 E2 R2 v2 i2=>⟨ι2,μ2,τ,y,μ3,R2,S.ext (E1.trans E2),e3,λι3 H3 E3 R3 v3 i3=>?_⟩⟩⟩;obtain⟨hm,hx,g1,hv2,kvs,g2,g3⟩:=Cg R3 (i2.ext E3) e4;subst hm;have E13:=(E1.trans E2).trans E3;cases hk:JG y with
 |none=>rw[hk] at ee4;cases ee4
 |some ky=>
  rw[hk] at ee4;have ee4:(if r.2.length<sizeLine then some ((Fl.next,τ),List.set μ4 r.1 (MO.dK (C3 r.2 ky v))) else none)=some ((f,τ'),μ'):=ee4;split at ee4
  ·rename_i hl;cases ee4;cases LP i3 hk;have hlt:r.1<List.length μ4:=(AAU.mp g1).1;obtain⟨E4,R4⟩:=R3.changed (m:=.dK (C3 r.2 ky v)) (o:=.dK (DD kvs ky v1)) hlt ⟨_,rfl,g3.put (i1.ext (E2.trans E3))⟩;exact⟨_,_,hv2,DPut.k g2 (by rw[g3.length];exact hl),q ι3 _ (E13.trans E4) R4 σ (S.ext (E13.trans E4))⟩
  ·cases ee4
noncomputable def Ff:Nat->List D->List D
 |_,[]=>[]
 |k,d::ds=>.tup [.int k,d]::Ff (k+1) ds
theorem Ke:∀(k:Nat) (ds:List D),(Ff k ds).length=ds.length
 |_,[]=>rfl
 |k,_::ds=>by unfold Ff;simp[Ke (k+1) ds]
theorem Kf:∀(k:Nat) (ds:List D) (j:Nat),(Ff k ds)[j]?=(ds[j]?).map λd=>.tup [.int ((k+j:Nat):Int),d]
 |_,[],j=>by simp[Ff]
 |k,d::ds,0=>by simp[Ff]
 |k,d::ds,j+1=>by
  unfold Ff;rw[List.getElem?_cons_succ,List.getElem?_cons_succ,Kf (k+1) ds j];have:k+1+j=k+(j+1):=by omega
  rw[this]
theorem TV(st:∀ι' (μ':Mh) H',Ext ι μ.length H ι' μ'.length H'->RelH K ι' μ' H'->Cond K H')(i:IsL K ι μ.length H ds vs):
  ItM K (ItP K vs.length (Ge vs) Cond) (Ff 0 ds) ι μ H:=by
 intro ι' μ' H' E R;have h:=st ι' μ' H' E R;rw[Ke,←i.length];refine⟨λj hj=>⟨hj,h⟩,⟨rfl,h⟩,λj x H2 d hd y=>?_⟩;obtain⟨T,hT,rfl,rfl⟩:=y;obtain⟨E2,R2⟩:=R.laid (.tup (Ge vs j)) hT;refine⟨E2,R2,?_⟩;rw[Kf] at hd;cases q:ds[j]? with
 |none=>rw[q] at hd;cases hd
 |some d0=>
  rw[q] at hd;cases hd;obtain⟨w,ew,iw⟩:=(i.ext E).get q;have e0:vs.getD j V.non=w:=by simp[List.getD,ew]
  have es:Ge vs j=[.int j,w]:=by unfold Ge;rw[e0]
  have key:IsL K ι' (List.length μ') (upd H' T (.tup (Ge vs j))) [.int ((0+j:Nat):Int),d0] [.int j,w]:=.cons (by unfold Is;simp) (.one (iw.ext E2));unfold Is;exact⟨T,_,rfl,SqT.of BI,(congrArg (IsL K ι' (List.length μ') (upd H' T (.tup (Ge vs j))) [.int ((0+j:Nat):Int),d0]) es).mpr key⟩
end
theorem Cf:bootBuiltins "len" = some (.builtin "len"):=by decide +kernel
theorem Cn:bootBuiltins "isinstance" = some (.builtin "isinstance"):=by decide +kernel
theorem NC:bootBuiltins "max" = some (.builtin "max"):=by decide +kernel
theorem NB:bootBuiltins "min" = some (.builtin "min"):=by decide +kernel
theorem DB:bootBuiltins "int" = some (.type "int"):=by decide +kernel
theorem Qs:bootBuiltins "bool" = some (.type "bool"):=by decide +kernel
theorem B6:bootBuiltins "tuple" = some (.type "tuple"):=by decide +kernel
theorem Ki:bootBuiltins "dict" = some (.type "dict"):=by decide +kernel
theorem Tx:bootBuiltins "set" = some (.type "set"):=by decide +kernel
structure Fn(P:Program)(w:World)(K:PySem.W.Frag)(mg:Str->Option Value)(base:Heap)(x:Str)(ps:List Str)(k:Nat)(φ:List D->M D):Prop where
 len:∀ds μ r,φ ds μ=some r->ds.length=ps.length
 ex:∃f fd,FnOk P w K mg base CX0 k f fd ps (spM ⟨K,w⟩ ps.length φ)/\mg x=some (.ref f)/\PySem.W.keepIn K (.ref f)=true/\Binds K fd ps []
def Glo(K:PySem.W.Frag)(mg:Str->Option Value)(x:Str)(d:D):Prop:=∃u v,mg x=some u/\RelV v u/\∀w ι k H,Is ⟨K,w⟩ ι k H d v
section
variable{X:Cx}{e:Expr}{es:List Expr}{pos p:Pos}
theorem Ag(F:Fn X.prog X.w X.kw X.mg X.base x ps k φ)(hr:Room j X.A)(ha:RA X (e::es) m)(hkj:k<=j:=by decide)(hg:Gl X x:=by rfl)(hdb:(x==("__debug__" : Str))=false:=by decide)
  (he:starEach (e::es) X.env=(false,eval e X.env)::starEach es X.env:=by exact As rfl) (hpl:(backTo pos (starEach es X.env)).any (·.1)=false:=by exact BW rfl):RE X (.Call (.Name x p) (e::es) [] pos) (AH φ m):=by
 obtain⟨len,f,fd,F,hm,hk,hb⟩:=F;exact VC F (hr.mono hkj) hm hk hb len ha hg hdb he hpl
theorem Cp(h:Glo X.kw X.mg x d)(hg:Gl X x:=by rfl)(hdb:(x==("__debug__" : Str))=false:=by decide):RE X (.Name x pos) (mC d):=by
 obtain⟨u,v,hm,r,hd⟩:=h;exact U9 hm r (hd _) hg hdb
end
theorem YS(F:Fun K x qual st f fd)(S:Ad N ps (AR st))(hm:mg x=some (.ref f))(hb:Binds K fd ps [])
  (body:∀(cdv:Value) (A:Around) (outer:List Env) (s:Shared) (H:Hp) (E:XK),Room k (A.deeper (PyProof.Rows.envOfC qual (AR st) s.heap.objs.size f cdv))->RSs (Gf CX0 P w K mg base N qual (AR st) f cdv A outer s H E).nox (BY st) mb)
  (len:∀ds μ r,φ ds μ=some r->ds.length=ps.length)
  (run:∀ds μ d μ',φ ds μ=some (d,μ')->∃fl τ2 μ2,mb (BV N.length ds) μ=some ((fl,τ2),μ2)/\(fl=.next∨∃d,fl=.rt d)/\Fg μ μ2 μ' (Ej fl) d):Fn P w K mg base x ps (k+1) φ:=
 ⟨len,f,fd,Kc F S rfl body run,hm,F.kp,hb⟩
theorem IY(h:Cl μ.length d):Fg μ (μ++g) μ d d:=⟨⟨g,rfl⟩,AAF _,λ_ _ e=>.inl e,.inl ⟨rfl,h⟩⟩
section
variable{X:Cx}{e i:Expr}{pos p:Pos}
structure Yf(w:World)(K:PySem.W.Frag)(mg:Str->Option Value)(x:Str)(t:Str->Option D):Prop where
 ex:∃ad,mg x=some (.ref ad)/\∀y:Str,∃r,KGet w.params K ad (.str y) r/\((t y=none/\r=none)∨∃d v,t y=some d/\r=some v/\∀ι k H,Is ⟨K,w⟩ ι k H d v)
noncomputable def TQ(t:Str->Option D):D->M D
 | .str y=>λμ=>(t y).map λd=>(d,μ)
 |_=>A5
theorem U8(k:Yf X.w X.kw X.mg x t)(hi:RE X i mi)(hg:Gl X x:=by rfl)(hdb:(x==("__debug__" : Str))=false:=by decide)(hs:Qu i:=by exact λ_ _=>rfl):RE X (.Subscript (.Name x p) i pos) (mUn (TQ t) mi):=by
 obtain⟨ad,hm,kk⟩:=k;refine RE.wk (VW (Ou (v:=.ref ad) hg hm rfl hdb) hi.pe hs) λσ H Q h=>?_;obtain⟨ι,μ,τ,d,μ',R,S,e,q⟩:=h;obtain⟨y,μ1,e1,e2⟩:=AI e;refine⟨ι,μ,τ,y,μ1,R,S,e1,λι1 H1 E1 R1 v1 i1=>?_⟩;cases y with
 |str y=>
  cases DL i1;obtain⟨r,g,z⟩:=kk y;rcases z with ⟨z1,_⟩|⟨d0,v0,z1,rfl,z3⟩
  ·have e3:(t y).map (λd=>(d,μ1))=some (d,μ'):=e2;rw[z1] at e3;cases e3
  ·have e3:(t y).map (λd=>(d,μ1))=some (d,μ'):=e2;rw[z1] at e3;cases e3;exact⟨ad,v0,rfl,g,q ι1 H1 E1 R1 v0 (z3 _ _ _)⟩
 |_=>cases e2
end
end Mi
namespace L2
open PySem PySem.Spec PyProof.Rows Sem
section
variable{prog:Program}{w:World}{A:Around}{E:Value->Shared->Prop}{s:Shared}
theorem BA[Decidable c](h:¬c)(hb:wpAny M A b Q E s):wpAny M A (if c then a else b) Q E s:=by
 rw[if_neg h];exact hb
theorem Lx(hh:A.handled=none)(hit:s.heap.IsTupleIter it t i)(ht:s.heap.IsTuple t items)
  (more:∀x h',items[i]?=some x->h'.IsTupleIter it t (i+1)->Heap.SameBut it s.heap h'->Q x { s with heap:=h' })
  (over:items[i]?=none->∀h' e,Heap.ExtBut it s.heap h'->(∃o,h'.get? e=some o/\o.cls=.type "StopIteration")->E (.ref e) { s with heap:=h' }) :
  wpAny (model prog w) A (Builtin.SmallTypes.nextOf (.ref it)) Q E s:=by
 have ty:=hit.typeIs;obtain⟨o,at_it,hc,hd⟩:=hit;obtain⟨ot,at_t,_,n,hdt⟩:=ht;have put:∀(k:Nat) (v:Value),(s.heap.update it (Obj.mapFields (λfs=>fs.set! k v))).get? it=some (Obj.mapFields (λfs=>fs.set! k v) o):=λk v=>Heap.get?_update_self _ at_it (Obj.isFreed_of_fields (Obj.data_mapFields hd _));unfold Builtin.SmallTypes.nextOf;refine AAA (wpAny_callSpecial?_slot ty F.slot_tuple_iterator_next (AAe F.slot_tuple_iterator_next ty F.entry_tuple_iterator_next ?_ (F.args_tuple_iterator_next_1 _)));have notNone:¬(Value.ref t==Value.none)=true:=AAi;refine AAA (m:=field (.ref it) 0) (AAx at_it hd (x:=.ref t) rfl ?_);refine BA notNone ?_;refine AAA (m:=field (.ref it) 1) (AAx at_it hd (x:=.int i 0) rfl (AAA (m:=seqItems? (.ref t)) (AAy at_t hdt ?_)));have ei:((i:Int)).toNat=i:=Int.toNat_natCast i;cases hx:items[i]? with
 |some x=>
  dsimp only;rw[ei,hx];refine AAA (wpAny_setField at_it hd (by simp) (AAB ⟨x,rfl,AAB (more x _ hx ⟨_,put _ _,?_,?_⟩ (Heap.SameBut.update ..))⟩))
  ·exact(Obj.cls_mapFields ..).trans hc
  ·rw[Obj.data_mapFields hd];rfl
 |none=>
  dsimp only;rw[ei,hx];refine AAA (wpAny_rule (AAA (wpAny_setField at_it hd (by simp) ?_)));have first:firstArgMember (.type "StopIteration") []=pure Value.none:=by first|rfl|(unfold firstArgMember;rfl)
  unfold Builtin.SmallTypes.stopIteration newExc newTuple;refine AAA (AAA (AAs (AAA (AAw first (AAs (wpAny_raiseNew_none hh ?_) (by size_fits)))) (by size_fits)));exact over hx _ _ (((Heap.SameBut.update ..).extBut.push _).push _) ⟨_,AAD _ rfl,rfl⟩
theorem FN(hh:A.handled=none)(it t:Addr)(hne:t≠it)(items:Array Value):
  Draws prog w A it [it,t] items.size (λi v=>items[i]?=some v) (λi h=>h.IsTupleIter it t i/\h.IsTuple t items):=by
 refine⟨λi h st=>?_,λi h h' st k=>⟨?_,?_⟩,λi s Q E hi st q=>?_,λs Q E st q=>?_⟩
 ·obtain⟨⟨o,e,_⟩,_⟩:=st;exact⟨o,e⟩
 ·obtain⟨⟨o,e,r⟩,_⟩:=st;exact⟨o,k it (by simp) o e,r⟩
 ·obtain⟨_,⟨o,e,r⟩⟩:=st;exact⟨o,k t (by simp) o e,r⟩
 ·exact Lx hh st.1 st.2 (λx h' hx st' sb=>q x h' s.toks hx ⟨st',st.2.extBut sb.extBut hne⟩ sb) λno=>absurd no (by simp[hi])
 ·exact Lx hh st.1 st.2 (λx h' hx=>absurd hx (by simp)) λ_ h' e eb so=>q h' e eb so
noncomputable abbrev Gc(it:Addr):Obj:={ cls:=.type "enumerate",data:=.fields #[.none,.bool false,.ref it,rawInt 0,.none,.none] }
theorem Tj(v:Value)(ob:Obj)(good:Heap->Prop)(hv:∀(prog:Program) (w:World) (A:Around) (E:Value->Shared->Prop) (s:Shared) (Q:Value->Shared->Prop),good s.heap->Q (.ref s.heap.objs.size) { s with heap:=s.heap.push ob }->wpAny (model prog w) A (pyIter v) Q E s):
  Meets (Builtin.«enumerate.__new__» ⟨[.type "enumerate",v],[]⟩) (λ_ R s=>good s.heap/\R (.ok (.ret (.ref (s.heap.push ob).objs.size))) { s with heap:=(s.heap.push ob).push (Gc s.heap.objs.size) }):=by
 refine .of_wp λprog w A R s ⟨g,q⟩=>?_;have own:=sub_enumerate;have walk:∀(A:Around) (E:Value->Shared->Prop) (Q:Value->Shared->Prop),Q (.ref s.heap.objs.size) { s with heap:=s.heap.push ob }->wpAny (model prog w) A (pyIter v) Q E s:=λA E Q z=>hv prog w A E s Q g z;obtain⟨hp,gs,dr,tk,os⟩:=s
 wp_walk
 refine wpAny_stack_any λst=>AAB ?_;split
 ·rename_i c _ _ _ _ _;cases (c==Value.type "enumerate")<;>(wp_walk using walk;exact⟨_,rfl,q⟩)
 ·wp_walk using walk
  exact⟨_,rfl,q⟩
end
end L2
namespace L2
open PySem PySem.Spec PyProof.Rows
theorem NW{P:Program}{w:World}{K:PySem.W.Frag}(a e it:Addr)(xs:List V)(hei:e≠it)(hea:e≠a)(hai:a≠it):
  NG P w K (.Tuple es k0 pos) (ItP K xs.length (Ge xs) λK H=>SqT K H a xs) [e,it] e (λi h=>(∃old,IsEnum h e it i old)/\h.IsTupleIter it a i):=by
 refine IW (ι:=List Value) (fp:=[e,it,a]) (Mid:=λits i T h=>(∃x,IsEnumOut h e it ((i:Int)+1) x T)/\(h.IsTupleIter it a (i+1)/\h.IsTuple a its.toArray)/\T≠e/\T≠it) (good:=λits=>Vals xs its) (Pt:=λits i vals=>∃t x,its.toArray[i]?=some x/\vals=#[.int i t,x]) (Sw:=λits i h=>(∃old,IsEnum h e it i old)/\h.IsTupleIter it a i/\h.IsTuple a its.toArray)
  (λA hA its r=>?walk) AAQ (λits i vals r h=>N5 r h) (λi=>(by show 2<=sizeLine;decide)) (λi h st=>?obj) (λi h h' st k=>?keep) (λX pins σ H s i hP hw hK I hc st=>?into) (λz i h st=>⟨st.1,st.2.1⟩) (λA i s Q E st h=>?self)
 case walk=>
  have hl:xs.length=its.toArray.size:=by rw[List.size_toArray];exact r.length
  have D:=FN (prog:=P) (w:=w) (A:=A.in1) hA it a hai its.toArray;rw[hl];exact WalksT.enumerateD D e hei (by simp[hei,hea]) (by simp)
 case obj=>
  obtain⟨o,ho,_,hd⟩:=st.2;exact YW st.1 ho ⟨_,hd⟩
 case keep=>
  obtain⟨⟨old,q⟩,o,ho,r⟩:=st;exact⟨⟨old,k e (by simp) _ q⟩,o,k it (by simp) o ho,r⟩
 case into=>
  subst hK;obtain⟨its,r,p,_⟩:=I.tuple hc;exact⟨its,r,st.1,st.2,p⟩
 case self=>exact V2 (f:=λi h=>h.IsTupleIter it a i) A i s Q E st h
section
variable{X:Cx}{es:List Expr}{k0:Nat}{tpos:Pos}
noncomputable def YQ(K:PySem.W.Frag)(ta:TA):TI:=λσ H R=>ta σ H λvs H1=>∃a xs,vs=[.ref a]/\SqT K H1 a xs/\R (ItP K xs.length (Ge xs) λK H=>SqT K H a xs) H1
theorem So(hg:Gl X "enumerate")(hm:X.mg "enumerate" = none)(ha:PA X [a] ta)(hs:starEach [a] X.env=[(false,eval a X.env)]:=by rfl):PI X (.Tuple es k0 tpos) (.Call (.Name "enumerate" p) [a] [] pos) (YQ X.kw ta):=by
 intro pins s σ H R I h;refine Call_ (Et I hg hm Qr (PyProof.Rows.callWith_type1 (thn (ha pos pins s σ H _ I h) λus s1 ⟨vs,H1,I1,r1,q1⟩=>?_) hs rfl));obtain⟨l,xs,ev,hq,q⟩:=q1;subst ev;obtain⟨u,eu,ru⟩:=IR r1;subst eu;cases ru;obtain⟨its,rv,pl,hz⟩:=I1.tuple hq;have lt:l<s1.heap.objs.size:=by obtain⟨o,e,_⟩:=pl;exact Heap.lt_size e
 have new:=Tj (.ref l) { cls:=.type "tuple_iterator",data:=.fields #[.ref l,.int 0 0] } (λh=>h.IsTuple l its.toArray) (λ_ _ _ _ _ _ g z=>wpAny_pyIter_tuple g z);refine callType_new F.called_enumerate (by decide) (F.typeCall_enumerate_1 _) (F.newCall_enumerate_1 _) (λobj=>F.args_object_init_2 obj _) F.entry_enumerate_new new ⟨pl,?_⟩;generalize hG:s1.heap.push { cls:=.type "tuple_iterator",data:=.fields #[.ref l,.int 0 0] }=G;have hsz:G.objs.size=s1.heap.objs.size+1:=by rw[←hG];exact Heap.size_push ..
 have at_e:(G.push (Gc s1.heap.objs.size)).get? (s1.heap.objs.size+1)=some (Gc s1.heap.objs.size):=by rw[←hsz];exact AAD _ rfl
 have he:IsEnum (G.push (Gc s1.heap.objs.size)) (s1.heap.objs.size+1) s1.heap.objs.size 0 .none:=at_e;have at_i:(G.push (Gc s1.heap.objs.size)).IsTupleIter s1.heap.objs.size l 0:=⟨_,AAC _ (hG ▸ AAD _ rfl),rfl,rfl⟩;show _/\_;rw[hsz];refine⟨⟨_,at_e,rfl⟩,wpAny_pyIter_enum he ?_⟩;refine⟨s1.heap.objs.size+1,[s1.heap.objs.size+1,s1.heap.objs.size],λi h=>(∃old,IsEnum h (s1.heap.objs.size+1) s1.heap.objs.size i old)/\h.IsTupleIter s1.heap.objs.size l i,_,H1,rfl,I1.kept (t':=s1.toks) λb o x=>AAC _ (hG ▸ AAC _ x),?_,⟨⟨_,he⟩,at_i⟩,XD I1,q⟩;exact NW l _ _ xs (Nat.succ_ne_self _) (Nat.ne_of_gt (AAj lt)) (AAf lt)
end
end L2
namespace Mi
open PySem L2
section
variable{X:Cx}{a:Expr}{es:List Expr}{pos:Pos}
noncomputable def Rq:List D->M (List D)
 |[.tup ds]=>ret ds
 |_=>A5
noncomputable def JE(m:Sl->M (List D)):Sl->M (List D):=λτ=>bnd (m τ) λas=>bnd (Rq as) λds=>ret (Ff 0 ds)
theorem ME(hm:X.mg "enumerate" = none)(ha:RA X [a] m)(hg:Gl X "enumerate" := by rfl)(hs:starEach [a] X.env=[(false,eval a X.env)]:=by exact As rfl):RI X (.Tuple es k0 tpos) (.Call (.Name "enumerate" p) [a] [] pos) (JE m):=
 RI.wk (So hg hm ha.pe hs) λσ H R q=>by
  obtain⟨ι,μ,τ,ds,μ',R0,S,e,q⟩:=q;obtain⟨xs,μ1,e1,e2⟩:=AI e;obtain⟨zs,μ2,e3,e4⟩:=AI e2;cases e4;refine⟨ι,μ,τ,xs,μ1,R0,S,e1,λι1 H1 E1 R1 vs i1=>?_⟩;unfold Rq at e3;split at e3
  ·cases e3;obtain⟨v,rfl,i2⟩:=HB i1;unfold Is at i2;obtain⟨p,ws,rfl,h1,h2⟩:=i2;exact⟨p,ws,rfl,h1,q ι1 H1 E1 R1 _ (TV (λι' μ' H' E _=>GO E h1) h2)⟩
  ·cases e3
end
end Mi
namespace L2
open PySem PySem.Spec PyProof.Rows Sem
def TwoAt(h:Heap)(T:Addr)(a b:Value):Prop:=∃n,h.get? T=some { cls:=.type "tuple",data:=.seq #[a,b] n }
noncomputable abbrev B2(TI TO:Addr)(f0:Value):Obj:={ cls:=.type "zip",data:=.fields #[f0,.bool false,.bool false,.ref TI,.ref TO] }
theorem TwoAt.keep(x:TwoAt h T a b)(k:∀o,h.get? T=some o->h'.get? T=some o):TwoAt h' T a b:=by
 obtain⟨n,e⟩:=x;exact⟨n,k _ e⟩
section
variable{prog:Program}{w:World}{A:Around}{E:Value->Shared->Prop}{s:Shared}
theorem OX(t:TwoAt s.heap T a b)(sh:(#[a,b]:Array Value).setIfInBounds k x=#[c,d])(h:∀h',TwoAt h' T c d->Heap.SameBut T s.heap h'->Q () { s with heap:=h' }):
  wpAny (model prog w) A (updateSeq T λxs=>xs.setIfInBounds k x) Q E s:=by
 obtain⟨n,e⟩:=t;refine wpAny_updateSeq e rfl (h _ ⟨n,?_⟩ (Heap.SameBut.update ..)) (by simp[sizeLine]) (by simp[sizeLine]);rw[Heap.get?_update_self _ e rfl];show some ({ cls:=.type "tuple",data:=.seq ((#[a,b]:Array Value).setIfInBounds k x) (if (((#[a,b]:Array Value).setIfInBounds k x).size==(#[a,b]:Array Value).size)=true then n else n+1) }:Obj)=_;rw[sh];rfl
structure DQ(z TI TO i1 i2:Addr)(f1 f2:List Addr):Prop where
 zTI:z≠TI
 zTO:z≠TO
 io:TI≠TO
 z1:z∉f1
 z2:z∉f2
 o1:TO∉f1
 o2:TO∉f2
 n1:TI≠i1
 n2:TI≠i2
 m1:i1∈f1
 m2:i2∈f2
 x12:i1∉f2
 x21:i2∉f1
theorem Lh{z TI TO i1 i2:Addr}{n k:Nat}{a b:Value}{f1 f2:List Addr}{Q:Value->Shared->Prop}(ap:DQ z TI TO i1 i2 f1 f2)
  (D1:Draws prog w A.in1 i1 f1 n P1 S1) (D2:Draws prog w A.in1 i2 f2 n P2 S2) (hk:k<n)
  (hz:s.heap.get? z=some (B2 TI TO .none)) (hI:TwoAt s.heap TI (.ref i1) (.ref i2)) (hO:TwoAt s.heap TO a b) (s1:S1 k s.heap) (s2:S2 k s.heap)
  (q:∀x y T h' tk,P1 k x->P2 k y->s.heap.objs.size<=T->h'.IsTuple T #[x,y]->h'.get? z=some (B2 TI TO (rawInt T))->TwoAt h' TI (.ref i1) (.ref i2)->TwoAt h' TO x y->S1 (k+1) h'->S2 (k+1) h'->(∀c o,c≠z->c≠TO->c≠i1->c≠i2->s.heap.get? c=some o->h'.get? c=some o)->Q (.ref T) { s with heap:=h',toks:=tk }) :
  wpAny (model prog w) A.in1 (Builtin.«zip.__next__» ⟨[.ref z],[]⟩) (λfin s'=>∃v,fin=.done (.ret v)/\Q v s') E s:=by
 obtain⟨nI,eI⟩:=id hI;refine AAA (m:=field (.ref z) 2) (AAx hz rfl (x:=.bool false) rfl ?_);refine AAA (m:=field (.ref z) 3) (AAx hz rfl (x:=.ref TI) rfl ?_);refine AAA (m:=seqItems? (.ref TI)) (AAy eI rfl ?_);refine BA (by simp) ?_;refine AAA (m:=Builtin.SmallTypes.ownedTupleIsFree (.ref z)) ?_;unfold Builtin.SmallTypes.ownedTupleIsFree;refine AAA (m:=field (.ref z) 0) (AAx hz rfl (x:=.none) rfl (AAB ?_));rw[if_pos rfl];refine AAA (wpAny_rule ?_);refine AAA (m:=field (.ref z) 4) (AAx hz rfl (x:=.ref TO) rfl ?_);refine AAA (AAr hz (by simp) λh1 z1 b1=>?_);have k1:∀c o,c≠z->s.heap.get? c=some o->h1.get? c=some o:=λc o hc e=>(b1.2 c hc).trans e;have z1':h1.get? z=some (B2 TI TO .ellipsis):=z1;have hI1:=hI.keep (h':=h1) λo e=>k1 TI o ap.zTI.symm e;have hO1:=hO.keep (h':=h1) λo e=>k1 TO o ap.zTO.symm e;have s11:=D1.frame _ _ h1 s1 λc hc o e=>k1 c o (λy=>ap.z1 (y ▸ hc)) e;have s21:=D2.frame _ _ h1 s2 λc hc o e=>k1 c o (λy=>ap.z2 (y ▸ hc)) e;refine AAA (m:=forIn [(Value.ref i1,0),(Value.ref i2,1)] _ _) ?_;rw[List.forIn_cons];refine AAA (AAA (wpAny_onRaise (AAA (D1.item k { s with heap:=h1 } _ _ hk s11 λx h2 t2 px s12 b2=>AAB ?_))));have k2:∀c o,c≠i1->h1.get? c=some o->h2.get? c=some o:=λc o hc e=>(b2.2 c hc).trans e;have ne1:∀{c:Addr},c∉f1->c≠i1:=λhc y=>hc (y ▸ ap.m1);have ne2:∀{c:Addr},c∉f2->c≠i2:=λhc y=>hc (y ▸ ap.m2);have hO2:=hO1.keep (h':=h2) λo e=>k2 TO o (ne1 ap.o1) e;have hI2:=hI1.keep (h':=h2) λo e=>k2 TI o ap.n1 e;have z2:=k2 z _ (ne1 ap.z1) z1';have s22:=D2.frame _ _ h2 s21 λc hc o e=>k2 c o (λy=>ap.x12 (y ▸ hc)) e;obtain⟨nO,eO⟩:=id hO2;refine AAA (m:=seqItems? (.ref TO)) (AAy eO rfl ?_);refine AAA (OX (s:={ s with heap:=h2,toks:=t2 }) (c:=x) (d:=b) hO2 rfl λh3 hO3 b3=>AAA (wpAny_letGo (AAB ?_)));have k3:∀c o,c≠TO->h2.get? c=some o->h3.get? c=some o:=λc o hc e=>(b3.2 c hc).trans e;have hI3:=hI2.keep (h':=h3) λo e=>k3 TI o ap.io e;have z3:=k3 z _ ap.zTO z2;have s13:=D1.frame _ _ h3 s12 λc hc o e=>k3 c o (λy=>ap.o1 (y ▸ hc)) e;have s23:=D2.frame _ _ h3 s22 λc hc o e=>k3 c o (λy=>ap.o2 (y ▸ hc)) e;show wpAny _ _ (forIn [(Value.ref i2,1)] _ _) _ _ _;rw[List.forIn_cons];refine AAA (AAA (wpAny_onRaise (AAA (D2.item k { s with heap:=h3,toks:=t2 } _ _ hk s23 λy h4 t4 py s24 b4=>AAB ?_))));have k4:∀c o,c≠i2->h3.get? c=some o->h4.get? c=some o:=λc o hc e=>(b4.2 c hc).trans e;have hO4:=hO3.keep (h':=h4) λo e=>k4 TO o (ne2 ap.o2) e;have hI4:=hI3.keep (h':=h4) λo e=>k4 TI o ap.n2 e;have z4:=k4 z _ (ne2 ap.z2) z3;have s14:=D1.frame _ _ h4 s13 λc hc o e=>k4 c o (λy=>ap.x21 (y ▸ hc)) e;obtain⟨nO4,eO4⟩:=id hO4;refine AAA (m:=seqItems? (.ref TO)) (AAy eO4 rfl ?_);refine AAA (OX (s:={ s with heap:=h4,toks:=t4 }) (c:=x) (d:=y) hO4 rfl λh5 hO5 b5=>AAA (wpAny_letGo (AAB ?_)));have k5:∀c o,c≠TO->h4.get? c=some o->h5.get? c=some o:=λc o hc e=>(b5.2 c hc).trans e;have hI5:=hI4.keep (h':=h5) λo e=>k5 TI o ap.io e;have z5:=k5 z _ ap.zTO z4;have s15:=D1.frame _ _ h5 s14 λc hc o e=>k5 c o (λy=>ap.o1 (y ▸ hc)) e;have s25:=D2.frame _ _ h5 s24 λc hc o e=>k5 c o (λy=>ap.o2 (y ▸ hc)) e;show wpAny _ _ (forIn [] _ _) _ _ _;rw[List.forIn_nil];refine AAB ?_;obtain⟨nO5,eO5⟩:=id hO5;refine AAA (m:=seqItems? (.ref TO)) (AAy eO5 rfl ?_);refine AAA (wpAny_newTuple ?_ (by simp[sizeLine]));have kp:∀c o,h5.get? c=some o->(h5.push { cls:=.type "tuple",data:=.seq #[x,y] }).get? c=some o:=λc o e=>AAC _ e;unfold Builtin.SmallTypes.ownedTupleHandOut;refine AAA (AAA (AAr (s:={ s with heap:=h5.push { cls:=.type "tuple",data:=.seq #[x,y] },toks:=t4 }) (kp z _ z5) (by simp) λh6 z6 b6=>AAr (s:={ s with heap:=h6,toks:=t4 }) z6 (by simp) λh7 z7 b7=>AAB ⟨_,rfl,?_⟩));have sz:h5.objs.size=s.heap.objs.size:=by rw[b5.1,b4.1,b3.1,b2.1,b1.1]
 have zlt:z<h5.objs.size:=Heap.lt_size z5;have k7:∀c o,c≠z->h5.get? c=some o->h7.get? c=some o:=λc o hc e=>(b7.2 c hc).trans ((b6.2 c hc).trans (kp c o e));refine q x y h5.objs.size h7 t4 px py (by rw[sz];exact AAF _) ?_ z7 (hI5.keep λo e=>k7 TI o ap.zTI.symm e) (hO5.keep λo e=>k7 TO o ap.zTO.symm e) (D1.frame _ _ h7 s15 λc hc o e=>k7 c o (λy=>ap.z1 (y ▸ hc)) e) (D2.frame _ _ h7 s25 λc hc o e=>k7 c o (λy=>ap.z2 (y ▸ hc)) e) ?_
 ·refine⟨{ cls:=.type "tuple",data:=.seq #[x,y] },?_,rfl,0,rfl⟩;have ne:h5.objs.size≠z:=Nat.ne_of_gt zlt;exact(b7.2 _ ne).trans ((b6.2 _ ne).trans (AAD _ rfl))
 ·intro c o c1 c2 c3 c4 e;exact k7 c o c1 (k5 c o c2 (k4 c o c4 (k3 c o c2 (k2 c o c3 (k1 c o c1 e)))))
theorem Lg{z TI TO i1 i2:Addr}{n:Nat}{a b:Value}(ap:DQ z TI TO i1 i2 f1 f2)(D1:Draws prog w A.in1 i1 f1 n P1 S1)
  (hz:s.heap.get? z=some (B2 TI TO .none)) (hI:TwoAt s.heap TI (.ref i1) (.ref i2)) (hO:TwoAt s.heap TO a b) (s1:S1 n s.heap)
  (q:∀h' e,(∀c o,c≠z->c≠i1->s.heap.get? c=some o->h'.get? c=some o)->(∃o,h'.get? e=some o/\o.cls=.type "StopIteration")->E (.ref e) { s with heap:=h' }) :
  wpAny (model prog w) A.in1 (Builtin.«zip.__next__» ⟨[.ref z],[]⟩) Q E s:=by
 obtain⟨nI,eI⟩:=id hI;refine AAA (m:=field (.ref z) 2) (AAx hz rfl (x:=.bool false) rfl (AAA (m:=field (.ref z) 3) (AAx hz rfl (x:=.ref TI) rfl (AAA (m:=seqItems? (.ref TI)) (AAy eI rfl ?_)))));refine BA (by simp) (AAA (m:=Builtin.SmallTypes.ownedTupleIsFree (.ref z)) ?_);unfold Builtin.SmallTypes.ownedTupleIsFree;refine AAA (m:=field (.ref z) 0) (AAx hz rfl (x:=.none) rfl (AAB ?_));rw[if_pos rfl];refine AAA (wpAny_rule (AAA (m:=field (.ref z) 4) (AAx hz rfl (x:=.ref TO) rfl (AAA (AAr hz (by simp) λh1 z1 b1=>?_)))));have s11:=D1.frame _ _ h1 s1 λc hc o e=>(b1.2 c (λy=>ap.z1 (y ▸ hc))).trans e;refine AAA (m:=forIn [(Value.ref i1,0),(Value.ref i2,1)] _ _) ?_;rw[List.forIn_cons];refine AAA (AAA (wpAny_onRaise (AAA (D1.done { s with heap:=h1 } _ _ s11 λh2 e eb so=>?_))));have zne:z≠i1:=λy=>ap.z1 (y ▸ ap.m1);have z2:h2.get? z=some (B2 TI TO .ellipsis):=eb z _ zne z1;obtain⟨oe,he,hce⟩:=so;refine AAr (s:={ s with heap:=h2 }) z2 (by simp) λh3 z3 b3=>q h3 e (λc o c1 c2 x=>(b3.2 c c1).trans (eb c o c2 ((b1.2 c c1).trans x))) ⟨oe,?_,hce⟩;have ez:e≠z:=λy=>by
  rw[y,z2] at he;cases he;exact absurd (Value.type.inj (show Value.type "zip" = Value.type "StopIteration" from hce)) (by decide)
 exact(b3.2 e ez).trans he
theorem GE{z TI TO:Addr}(hz:s.heap.get? z=some (B2 TI TO f0))(h:Q (.ref z) s):wpAny (model prog w) A (pyIter (.ref z)) Q E s:=wpAny_pyIter_zip hz h
theorem Pq(hh:A.handled=none){z TI TO i1 i2:Addr}{n:Nat}{S1 S2:Nat->Heap->Prop}{f1 f2:List Addr}(ap:DQ z TI TO i1 i2 f1 f2)
  (D1:Draws prog w A.in1 i1 f1 n P1 S1) (D2:Draws prog w A.in1 i2 f2 n P2 S2) :
  WalksT prog w A z (z::TI::TO::(f1++f2)) [z,TI,TO,i1,i2] n (λk vals=>∃x y,P1 k x/\P2 k y/\vals=#[x,y])
   (λk h=>h.get? z=some (B2 TI TO .none)/\TwoAt h TI (.ref i1) (.ref i2)/\(∃a b,TwoAt h TO a b)/\S1 k h/\S2 k h)
   (λk T h=>h.get? z=some (B2 TI TO (rawInt T))/\TwoAt h TI (.ref i1) (.ref i2)/\(∃a b,TwoAt h TO a b)/\S1 (k+1) h/\S2 (k+1) h/\T≠z/\T≠TI/\T≠TO/\T≠i1/\T≠i2) where
 sub:=λc hc=>by
  have hc':c=z∨c=TI∨c=TO∨c=i1∨c=i2:=by simpa using hc
  rcases hc' with e|e|e|e|e<;>subst e
  ·simp
  ·simp
  ·simp
  ·simp[ap.m1]
  ·simp[ap.m2]
 frame:=λk h h' st kp=>by
  obtain⟨a1,a2,⟨a,b,a3⟩,a4,a5⟩:=st;exact⟨kp z (by simp) _ a1,a2.keep λo e=>kp TI (by simp) o e,⟨a,b,a3.keep λo e=>kp TO (by simp) o e⟩,D1.frame _ _ _ a4 λc hc o e=>kp c (by simp[hc]) o e,D2.frame _ _ _ a5 λc hc o e=>kp c (by simp[hc]) o e⟩
 item:=λk s Q E hk st q=>by
  obtain⟨a1,a2,⟨a,b,a3⟩,a4,a5⟩:=st;have ty:s.TypeIs (.ref z) "zip" := ⟨_,a1,rfl⟩;unfold pyNext;refine AAA (AAz (wpAny_callSpecial?_slot (name:=Str.ofString "__next__") ty F.slot_zip_next (AAe F.slot_zip_next ty F.entry_zip_next (Lh ap D1 D2 hk a1 a2 a3 a4 a5 λx y T h' tk px py hT tup b1 b2 b3 b4 b5 kp=>?_) (F.args_zip_next_1 _))));have lt:∀{c:Addr} {o:Obj},s.heap.get? c=some o->T≠c:=λe=>Nat.ne_of_gt (AAN (Heap.lt_size e) hT);obtain⟨o1,e1⟩:=D1.live _ _ a4;obtain⟨o2,e2⟩:=D2.live _ _ a5;obtain⟨n3,e3⟩:=a3;obtain⟨n4,e4⟩:=id a2;refine AAB (q T #[x,y] h' tk ⟨x,y,px,py,rfl⟩ hT tup ⟨b1,b2,⟨x,y,b3⟩,b4,b5,lt a1,lt e4,lt e3,lt e1,lt e2⟩ λc o hc e=>?_);exact kp c o (λz=>hc (by simp[z])) (λz=>hc (by simp[z])) (λz=>hc (by simp[z])) (λz=>hc (by simp[z])) e
 go:=λes k0 pos k T s Q E st q=>by
  obtain⟨a1,a2,a3,a4,a5,t1,t5,t2,t3,t4⟩:=st;refine wpAny_letOwnedTupleGo_zip a1 λh' hz' sb=>?_;have kp:∀c o,c≠z->s.heap.get? c=some o->h'.get? c=some o:=λc o hc e=>(sb.2 c hc).trans e;obtain⟨a,b,a3⟩:=a3;refine q h' ⟨hz',a2.keep λo e=>kp TI o ap.zTI.symm e,⟨a,b,a3.keep λo e=>kp TO o ap.zTO.symm e⟩,D1.frame _ _ _ a4 λc hc o e=>kp c o (λy=>ap.z1 (y ▸ hc)) e,D2.frame _ _ _ a5 λc hc o e=>kp c o (λy=>ap.z2 (y ▸ hc)) e⟩ λc o hc e=>kp c o (λy=>hc (by simp[y])) e
 apart:=λk T h st hT=>by
  obtain⟨_,_,_,_,_,t1,t5,t2,t3,t4⟩:=st;have hT':T=z∨T=TI∨T=TO∨T=i1∨T=i2:=by simpa using hT
  rcases hT' with e|e|e|e|e
  ·exact t1 e
  ·exact t5 e
  ·exact t2 e
  ·exact t3 e
  ·exact t4 e
 done:=λs Q E st q=>by
  obtain⟨a1,a2,⟨a,b,a3⟩,a4,a5⟩:=st;have ty:s.TypeIs (.ref z) "zip" := ⟨_,a1,rfl⟩;unfold pyNext;refine AAA (AAz (wpAny_callSpecial?_slot (name:=Str.ofString "__next__") ty F.slot_zip_next (AAe F.slot_zip_next ty F.entry_zip_next (Lg ap D1 a1 a2 a3 a4 λh' e kp so=>?_) (F.args_zip_next_1 _))));obtain⟨o,ho,hc⟩:=so;refine AAA (AA0 (T := "StopIteration") (b:=true) ⟨o,ho,hc⟩ isSubtype_stop (AAB (q h' s.toks λc o hc e=>?_)));exact kp c o (λy=>hc (by simp[y])) (λy=>hc (by simp[y])) e
 self:=λk s Q E st h=>GE st.1 h
end
end L2
namespace L2
open PySem PySem.Spec PyProof.Rows
noncomputable abbrev Dr(a b:Value):Obj:={ cls:=.type "tuple",data:=.seq #[a,b] }
noncomputable abbrev zh2(h:Heap)(o1 o2:Obj):Heap:=(h.push o1).push o2
noncomputable abbrev zh4(h:Heap)(o1 o2:Obj):Heap:=((zh2 h o1 o2).push (Dr (.ref h.objs.size) (.ref (h.push o1).objs.size))).push (Dr .none .none)
noncomputable abbrev zh5(h:Heap)(o1 o2:Obj):Heap:=(zh4 h o1 o2).push (B2 (zh2 h o1 o2).objs.size ((zh2 h o1 o2).push (Dr (.ref h.objs.size) (.ref (h.push o1).objs.size))).objs.size .none)
theorem ON(v1 v2:Value)(o1 o2:Obj)(g1 g2:Heap->Prop)(g2p:∀h,g2 h->g2 (h.push o1))
  (w1:∀(prog:Program) (w:World) (A:Around) (E:Value->Shared->Prop) (s:Shared) (Q:Value->Shared->Prop),g1 s.heap->Q (.ref s.heap.objs.size) { s with heap:=s.heap.push o1 }->wpAny (model prog w) A (pyIter v1) Q E s)
  (w2:∀(prog:Program) (w:World) (A:Around) (E:Value->Shared->Prop) (s:Shared) (Q:Value->Shared->Prop),g2 s.heap->Q (.ref s.heap.objs.size) { s with heap:=s.heap.push o2 }->wpAny (model prog w) A (pyIter v2) Q E s) :
  Meets (Builtin.«zip.__new__» ⟨[.type "zip",v1,v2],[]⟩) (λ_ R s=>g1 s.heap/\g2 s.heap/\R (.ok (.ret (.ref (zh4 s.heap o1 o2).objs.size))) { s with heap:=zh5 s.heap o1 o2 }):=by
 refine .of_wp λprog w A R s ⟨x1,x2,q⟩=>?_;have own:=sub_zip;have walk1:∀(A:Around) (E:Value->Shared->Prop) (Q:Value->Shared->Prop),Q (.ref s.heap.objs.size) { s with heap:=s.heap.push o1 }->wpAny (model prog w) A (pyIter v1) Q E s:=λA E Q z=>w1 prog w A E s Q x1 z;have walk2:∀(A:Around) (E:Value->Shared->Prop) (Q:Value->Shared->Prop),Q (.ref (s.heap.push o1).objs.size) { s with heap:=zh2 s.heap o1 o2 }->wpAny (model prog w) A (pyIter v2) Q E { s with heap:=s.heap.push o1 }:=λA E Q z=>w2 prog w A E { s with heap:=s.heap.push o1 } Q (g2p _ x2) z;obtain⟨hp,gs,dr,tk,os⟩:=s
 wp_walk using walk1,walk2
 exact⟨_,rfl,q⟩
noncomputable def Ks(xs ys:List V)(i:Nat):List V:=[xs.getD i .non,ys.getD i .non]
theorem Ph(r:Vals xs its)(r2:Vals ys jts)(h:∃x y,its.toArray[i]?=some x/\jts.toArray[i]?=some y/\vals=#[x,y]):Vals (Ks xs ys i) vals.toList:=by
 obtain⟨x,y,hx,hy,rfl⟩:=h;have one:∀{zs:List V} {us:List Value} {u:Value},Vals zs us->us.toArray[i]?=some u->RelV (zs.getD i .non) u:=λ{zs us u} rz hu=>by
  have hu':us[i]?=some u:=by simpa using hu
  have hl:=rz.length;have lt:i<zs.length:=by have:=(AAU.mp hu').1;omega
  obtain⟨u',e1,e2⟩:=rz.get (show zs[i]?=some zs[i] by simp[lt]);rw[hu'] at e1;cases e1;simpa[List.getD,lt] using e2
 exact .cons (one r hx) (.cons (one r2 hy) .nil)
theorem Pu{P:Program}{w:World}{K:PySem.W.Frag}(a b z TI TO i1 i2:Addr)(xs ys:List V)(hl:ys.length=xs.length)(ap:DQ z TI TO i1 i2 [i1,a] [i2,b])(h1:a≠i1)(h2:b≠i2):
  NG P w K (.Tuple es k0 pos) (ItP K xs.length (Ks xs ys) λK H=>SqT K H a xs/\SqT K H b ys) [z,TI,TO,i1,i2] z (λi h=>h.get? z=some (B2 TI TO .none)/\TwoAt h TI (.ref i1) (.ref i2)/\(∃c d,TwoAt h TO c d)/\h.IsTupleIter i1 a i/\h.IsTupleIter i2 b i):=by
 refine IW (ι:=List Value×List Value) (good:=λp=>Vals xs p.1/\Vals ys p.2) (Pt:=λp i vals=>∃x y,p.1.toArray[i]?=some x/\p.2.toArray[i]?=some y/\vals=#[x,y])
  (Sw:=λp i h=>h.get? z=some (B2 TI TO .none)/\TwoAt h TI (.ref i1) (.ref i2)/\(∃c d,TwoAt h TO c d)/\(h.IsTupleIter i1 a i/\h.IsTuple a p.1.toArray)/\(h.IsTupleIter i2 b i/\h.IsTuple b p.2.toArray))
  (Mid:=λp i T h=>h.get? z=some (B2 TI TO (rawInt T))/\TwoAt h TI (.ref i1) (.ref i2)/\(∃c d,TwoAt h TO c d)/\(h.IsTupleIter i1 a (i+1)/\h.IsTuple a p.1.toArray)/\(h.IsTupleIter i2 b (i+1)/\h.IsTuple b p.2.toArray)/\T≠z/\T≠TI/\T≠TO/\T≠i1/\T≠i2)
  (fp:=z::TI::TO::([i1,a]++[i2,b]))
  (λA hA p r=>?walk) AAQ (λp i vals r h=>Ph r.1 r.2 h) (λi=>(by show 2<=sizeLine;decide)) (λi h st=>?obj) (λi h h' st k=>?keep) (λX pins σ H s i hP hw hK I hc st=>?into) (λp i h st=>⟨st.1,st.2.1,st.2.2.1,st.2.2.2.1.1,st.2.2.2.2.1⟩) (λA i s Q E st h=>GE st.1 h)
 case walk=>
  have l1:p.1.toArray.size=xs.length:=by rw[List.size_toArray];exact r.1.length.symm
  have l2:p.2.toArray.size=xs.length:=by rw[List.size_toArray,←hl];exact r.2.length.symm
  have D1:=FN (prog:=P) (w:=w) (A:=A.in1) hA i1 a h1 p.1.toArray;have D2:=FN (prog:=P) (w:=w) (A:=A.in1) hA i2 b h2 p.2.toArray;rw[l1] at D1;rw[l2] at D2;exact Pq hA ap D1 D2
 case obj=>
  intro c hc;obtain⟨a1,⟨n1,a2⟩,⟨c0,d0,n2,a3⟩,⟨o4,a4,_,d4⟩,⟨o5,a5,_,d5⟩⟩:=st;have hc':c=z∨c=TI∨c=TO∨c=i1∨c=i2:=by simpa using hc
  rcases hc' with e|e|e|e|e<;>subst e
  ·exact⟨_,a1,λv q=>by cases q⟩
  ·exact⟨_,a2,λv q=>by cases q⟩
  ·exact⟨_,a3,λv q=>by cases q⟩
  ·exact⟨_,a4,λv q=>by rw[d4] at q;cases q⟩
  ·exact⟨_,a5,λv q=>by rw[d5] at q;cases q⟩
 case keep=>
  obtain⟨a1,a2,⟨c0,d0,a3⟩,⟨o4,a4,r4⟩,⟨o5,a5,r5⟩⟩:=st;exact⟨k z (by simp) _ a1,a2.keep λo e=>k TI (by simp) o e,⟨c0,d0,a3.keep λo e=>k TO (by simp) o e⟩,⟨o4,k i1 (by simp) o4 a4,r4⟩,⟨o5,k i2 (by simp) o5 a5,r5⟩⟩
 case into=>
  subst hK;obtain⟨c1,c2⟩:=hc;obtain⟨a1,a2,a3,a4,a5⟩:=st;obtain⟨its,r,p,_⟩:=I.tuple c1;obtain⟨jts,r2,p2,_⟩:=I.tuple c2;exact⟨(its,jts),⟨r,r2⟩,a1,a2,a3,⟨a4,p⟩,⟨a5,p2⟩⟩
section
theorem NA:bootBuiltins "zip" = some (.type "zip"):=by decide +kernel
noncomputable def Zf(K:PySem.W.Frag)(ta:TA):TI:=λσ H R=>ta σ H λvs H1=>∃a b xs ys,vs=[.ref a,.ref b]/\SqT K H1 a xs/\SqT K H1 b ys/\ys.length=xs.length/\R (ItP K xs.length (Ks xs ys) λK H=>SqT K H a xs/\SqT K H b ys) H1
end
section
variable{X:Cx}{es:List Expr}{k0:Nat}{tpos:Pos}
theorem nin(h1:c≠n)(h2:c≠l):c∉([n,l]:List Nat):=λh=>by
 have h':c=n∨c=l:=by simpa using h
 exact h'.elim h1 h2
theorem zap(n l m:Nat)(hl:l<n)(hm:m<n):DQ (n+4) (n+2) (n+3) n (n+1) [n,l] [n+1,m] where
 zTI:=(by omega:¬(n+4:Nat)=n+2)
 zTO:=(by omega:¬(n+4:Nat)=n+3)
 io:=(by omega:¬(n+2:Nat)=n+3)
 z1:=nin (by omega) (by omega)
 z2:=nin (by omega) (by omega)
 o1:=nin (by omega) (by omega)
 o2:=nin (by omega) (by omega)
 n1:=(by omega:¬(n+2:Nat)=n)
 n2:=(by omega:¬(n+2:Nat)=n+1)
 m1:=AAQ
 m2:=AAQ
 x12:=nin (by omega) (by omega)
 x21:=nin (by omega) (by omega)
theorem V1(I:Inv X pins σ H s)(c:Addr)(hc:s.heap.objs.size<=c):GD X pins H c:=I.fpOk hc (I.hok.fresh hc)
theorem VR(hg:Gl X "zip")(hm:X.mg "zip" = none)(ha:PA X [a,b] ta)(hs:starEach [a,b] X.env=(false,eval a X.env)::starEach [b] X.env)(hpl:(backTo pos (starEach [b] X.env)).any (·.1)=false):
  PI X (.Tuple es k0 tpos) (.Call (.Name "zip" p) [a,b] [] pos) (Zf X.kw ta):=by
 intro pins s σ H R I h;refine Call_ (Et I hg hm NA (PyProof.Rows.callWith_type1 (thn (ha pos pins s σ H _ I h) λus s1 ⟨vs,H1,I1,r1,q1⟩=>?_) hs hpl));obtain⟨l,m,xs,ys,ev,hx,hy,hl,q⟩:=q1;subst ev;obtain⟨u1,u2,eu,ru1,ru2⟩:=Vals.two r1;subst eu;cases ru1;cases ru2;obtain⟨its,rx,px,_⟩:=I1.tuple hx;obtain⟨jts,ry,py,_⟩:=I1.tuple hy;have ltl:l<s1.heap.objs.size:=by obtain⟨o,e,_⟩:=px;exact Heap.lt_size e
 have ltm:m<s1.heap.objs.size:=by obtain⟨o,e,_⟩:=py;exact Heap.lt_size e
 have new:=ON (.ref l) (.ref m) { cls:=.type "tuple_iterator",data:=.fields #[.ref l,.int 0 0] } { cls:=.type "tuple_iterator",data:=.fields #[.ref m,.int 0 0] } (λh=>h.IsTuple l its.toArray) (λh=>h.IsTuple m jts.toArray) (λh x=>x.push _) (λ_ _ _ _ _ _ g z=>wpAny_pyIter_tuple g z) (λ_ _ _ _ _ _ g z=>wpAny_pyIter_tuple g z);refine callType_new F.called_zip (by decide) (F.typeCall_zip_2 _ _) (F.newCall_zip_2 _ _) (λobj=>F.args_object_init_3 obj _ _) F.entry_zip_new new ⟨px,py,?_⟩;generalize ho1:({ cls:=.type "tuple_iterator",data:=.fields #[.ref l,.int 0 0] }:Obj)=o1;generalize ho2:({ cls:=.type "tuple_iterator",data:=.fields #[.ref m,.int 0 0] }:Obj)=o2;have n1:(s1.heap.push o1).objs.size=s1.heap.objs.size+1:=Heap.size_push ..;have n2:(zh2 s1.heap o1 o2).objs.size=s1.heap.objs.size+2:=by rw[Heap.size_push,n1]
 have n3:((zh2 s1.heap o1 o2).push (Dr (.ref s1.heap.objs.size) (.ref (s1.heap.push o1).objs.size))).objs.size=s1.heap.objs.size+3:=by rw[Heap.size_push,n2]
 have n4:(zh4 s1.heap o1 o2).objs.size=s1.heap.objs.size+4:=by rw[Heap.size_push,n3]
 have kp:∀c o,s1.heap.get? c=some o->(zh5 s1.heap o1 o2).get? c=some o:=λc o e=>AAC _ (AAC _ (AAC _ (AAC _ (AAC _ e))));have f1:o1.isFreed=false:=by rw[←ho1];rfl
 have f2:o2.isFreed=false:=by rw[←ho2];rfl
 have a1:(zh5 s1.heap o1 o2).get? s1.heap.objs.size=some o1:=AAC _ (AAC _ (AAC _ (AAC _ (AAD _ f1))));have a2:(zh5 s1.heap o1 o2).get? (s1.heap.objs.size+1)=some o2:=by rw[←n1];exact AAC _ (AAC _ (AAC _ (AAD _ f2)))
 have a3:(zh5 s1.heap o1 o2).get? (s1.heap.objs.size+2)=some (Dr (.ref s1.heap.objs.size) (.ref (s1.heap.objs.size+1))):=by
  rw[←n1,←n2];exact AAC _ (AAC _ (AAD _ rfl))
 have a4:(zh5 s1.heap o1 o2).get? (s1.heap.objs.size+3)=some (Dr .none .none):=by
  rw[←n3];exact AAC _ (AAD _ rfl)
 have a5:(zh5 s1.heap o1 o2).get? (s1.heap.objs.size+4)=some (B2 (s1.heap.objs.size+2) (s1.heap.objs.size+3) .none):=by
  rw[←n4,←n2,←n3];exact AAD _ rfl
 show _/\_;rw[n4];refine⟨⟨_,a5,rfl⟩,GE a5 ?_⟩;refine⟨s1.heap.objs.size+4,[s1.heap.objs.size+4,s1.heap.objs.size+2,s1.heap.objs.size+3,s1.heap.objs.size,s1.heap.objs.size+1],_,_,H1,rfl,I1.kept (t':=s1.toks) kp,
  Pu l m (s1.heap.objs.size+4) (s1.heap.objs.size+2) (s1.heap.objs.size+3) s1.heap.objs.size (s1.heap.objs.size+1) xs ys hl (zap _ l m ltl ltm) (AAf ltl) (AAf (AAj ltm)),⟨a5,⟨_,a3⟩,⟨_,_,_,a4⟩,⟨o1,a1,by rw[←ho1],by rw[←ho1];rfl⟩,⟨o2,a2,by rw[←ho2],by rw[←ho2];rfl⟩⟩,λc hc=>V1 I1 c ?_,q⟩
 have hc':c=s1.heap.objs.size+4∨c=s1.heap.objs.size+2∨c=s1.heap.objs.size+3∨c=s1.heap.objs.size∨c=s1.heap.objs.size+1:=by simpa using hc
 rcases hc' with e|e|e|e|e<;>subst e<;>first|exact AAF _|exact Nat.le_add_right _ _
end
end L2
namespace Mi
open PySem L2
section
variable{X:Cx}{a b:Expr}{es:List Expr}{pos:Pos}
noncomputable def Hk:List D->List D->List D
 |x::xs,y::ys=>.tup [x,y]::Hk xs ys
 |_,_=>[]
noncomputable def OO:List D->M (List D)
 |[.tup xs,.tup ys]=>λμ=>if ys.length=xs.length then some (Hk xs ys,μ) else none
 |_=>A5
noncomputable def Vn(m:Sl->M (List D)):Sl->M (List D):=λτ=>bnd (m τ) OO
theorem Li:∀{xs ys:List D},ys.length=xs.length->(Hk xs ys).length=xs.length
 |[],[],_=>rfl
 |x::xs,y::ys,h=>by unfold Hk;simp at h ⊢;exact Li h
 |[],_::_,h=>by simp at h
 |_::_,[],h=>by simp at h
theorem Lj:∀{xs ys:List D} {j:Nat} {d:D},(Hk xs ys)[j]?=some d->∃x y,xs[j]?=some x/\ys[j]?=some y/\d=.tup [x,y]
 |[],_,j,d,h=>by simp[Hk] at h
 |_::_,[],j,d,h=>by simp[Hk] at h
 |x::xs,y::ys,0,d,h=>by simp[Hk] at h;exact⟨x,y,rfl,rfl,h.symm⟩
 |x::xs,y::ys,j+1,d,h=>by
  obtain⟨x',y',h1,h2,h3⟩:=Lj (xs:=xs) (ys:=ys) (j:=j) (d:=d) (by simpa[Hk] using h);exact⟨x',y',by simpa using h1,by simpa using h2,h3⟩
theorem Vr{K:KW}{ι:Nat->Addr}{μ:Mh}{ds es:List D}{Cond:PySem.W.Frag->Hp->Prop}(st:∀ι' (μ':Mh) H',Ext ι μ.length H ι' μ'.length H'->RelH K ι' μ' H'->Cond K H')(i:IsL K ι μ.length H ds vs)(j:IsL K ι μ.length H es ws)(hl:es.length=ds.length):
  ItM K (ItP K vs.length (Ks vs ws) Cond) (Hk ds es) ι μ H:=by
 intro ι' μ' H' E R;have h:=st ι' μ' H' E R;rw[Li hl,←i.length];refine⟨λj hj=>⟨hj,h⟩,⟨rfl,h⟩,λk x H2 d hd y=>?_⟩;obtain⟨T,hT,rfl,rfl⟩:=y;obtain⟨E2,R2⟩:=R.laid (.tup (Ks vs ws k)) hT;refine⟨E2,R2,?_⟩;obtain⟨x,y,h1,h2,rfl⟩:=Lj hd;obtain⟨v,ev,iv⟩:=(i.ext E).get h1;obtain⟨u,eu,iu⟩:=(j.ext E).get h2;have es':Ks vs ws k=[v,u]:=by unfold Ks;simp[List.getD,ev,eu]
 have key:IsL K ι' (List.length μ') (upd H' T (.tup (Ks vs ws k))) [x,y] [v,u]:=.cons (iv.ext E2) (.one (iu.ext E2));unfold Is;exact⟨T,_,rfl,SqT.of BI,(congrArg (IsL K ι' (List.length μ') (upd H' T (.tup (Ks vs ws k))) [x,y]) es').mpr key⟩
theorem U5{p tpos:Pos}{m:Sl->M (List D)}(hm:X.mg "zip" = none)(ha:RA X [a,b] m)(hg:Gl X "zip" := by rfl)(hs:starEach [a,b] X.env=(false,eval a X.env)::starEach [b] X.env:=by exact As rfl)(hpl:(backTo pos (starEach [b] X.env)).any (·.1)=false:=by exact BW rfl):
  RI X (.Tuple es k0 tpos) (.Call (.Name "zip" p) [a,b] [] pos) (Vn m):=
 RI.wk (VR hg hm ha.pe hs hpl) λσ H R q=>by
  obtain⟨ι,μ,τ,ds,μ',R0,S,e,q⟩:=q;obtain⟨xs,μ1,e1,e2⟩:=AI e;refine⟨ι,μ,τ,xs,μ1,R0,S,e1,λι1 H1 E1 R1 vs i1=>?_⟩;unfold OO at e2;split at e2
  ·rename_i xs ys;split at e2
   ·rename_i hl;cases e2;obtain⟨v,u,rfl,i2,i3⟩:=Ta i1;unfold Is at i2 i3;obtain⟨p,ws,rfl,h1,h2⟩:=i2;obtain⟨p',ws',rfl,h1',h2'⟩:=i3;exact⟨p,p',ws,ws',rfl,h1,h1',by rw[h2.length,h2'.length];exact hl,q ι1 H1 E1 R1 _ (Vr (λι' μ' H' E _=>⟨GO E h1,GO E h1'⟩) h2 h2' hl)⟩
   ·cases e2
  ·cases e2
end
end Mi
namespace L2
open PySem PySem.Spec PyProof.Rows Sem
noncomputable abbrev Gr(TI TO T:Addr)(b:Bool):Obj:={ cls:=.type "zip",data:=.fields #[rawInt T,.bool b,.bool false,.ref TI,.ref TO] }
section
variable{prog:Program}{w:World}{A:Around}{E:Value->Shared->Prop}{s:Shared}
theorem T1(ho:s.heap.get? a=some o)(h:Q (some o) s):wpAny (model prog w) A (PySem.loadIfAlive a) Q E s:=λΓ p _=>by
 unfold PySem.loadIfAlive;rw[wp_loadIfAlive,ho];exact h
theorem MP{z TI TO T:Addr}{b:Bool}(hz:s.heap.get? z=some (Gr TI TO T b))(hT:s.heap.get? T=some oT)
  (q:∀h',h'.get? z=some (Gr TI TO T true)->Heap.SameBut z s.heap h'->Q false { s with heap:=h' }):wpAny (model prog w) A (Builtin.SmallTypes.ownedTupleIsFree (.ref z)) Q E s:=by
 unfold Builtin.SmallTypes.ownedTupleIsFree;refine AAA (m:=field (.ref z) 0) (AAx hz rfl (x:=rawInt T) rfl ?_);refine AAA (T1 (o:=oT) (by show s.heap.get? ((T:Int)).toNat=some oT;rw[Int.toNat_natCast];exact hT) ?_);refine BA (by simp) ?_;refine AAA (m:=field (.ref z) 1) (AAx hz rfl (x:=.bool b) rfl ?_);cases b with
 |false=>
  rw[if_pos (by decide)];refine AAA (AAr hz (by simp) λh1 z1 b1=>AAB ?_);exact q h1 z1 b1
 |true=>
  rw[if_neg (by decide)];refine AAB ?_;exact q s.heap hz ⟨rfl,λ_ _=>rfl⟩
theorem Pf{z TI TO T i1 i2:Addr}{n k:Nat}{b:Bool}{oT:Obj}{f1 f2:List Addr}{Q:Value->Shared->Prop}(ap:DQ z TI TO i1 i2 f1 f2)
  (D1:Draws prog w A.in1 i1 f1 n P1 S1) (D2:Draws prog w A.in1 i2 f2 n P2 S2) (hk:k<n)
  (hz:s.heap.get? z=some (Gr TI TO T b)) (hT:s.heap.get? T=some oT) (hI:TwoAt s.heap TI (.ref i1) (.ref i2)) (s1:S1 k s.heap) (s2:S2 k s.heap)
  (q:∀x y U h' tk,P1 k x->P2 k y->s.heap.objs.size<=U->h'.IsTuple U #[x,y]->h'.get? z=some (Gr TI TO T true)->S1 (k+1) h'->S2 (k+1) h'->(∀c o,c≠z->c≠i1->c≠i2->s.heap.get? c=some o->h'.get? c=some o)->Q (.ref U) { s with heap:=h',toks:=tk }) :
  wpAny (model prog w) A.in1 (Builtin.«zip.__next__» ⟨[.ref z],[]⟩) (λfin s'=>∃v,fin=.done (.ret v)/\Q v s') E s:=by
 obtain⟨nI,eI⟩:=id hI;refine AAA (m:=field (.ref z) 2) (AAx hz rfl (x:=.bool false) rfl ?_);refine AAA (m:=field (.ref z) 3) (AAx hz rfl (x:=.ref TI) rfl ?_);refine AAA (m:=seqItems? (.ref TI)) (AAy eI rfl ?_);refine BA (by simp) ?_;refine AAA (MP hz hT λh1 z1 b1=>?_);rw[if_neg (by decide)];have k1:∀c o,c≠z->s.heap.get? c=some o->h1.get? c=some o:=λc o hc e=>(b1.2 c hc).trans e;have s11:=D1.frame _ _ h1 s1 λc hc o e=>k1 c o (λy=>ap.z1 (y ▸ hc)) e;have s21:=D2.frame _ _ h1 s2 λc hc o e=>k1 c o (λy=>ap.z2 (y ▸ hc)) e;have ne1:∀{c:Addr},c∉f1->c≠i1:=λhc y=>hc (y ▸ ap.m1);have ne2:∀{c:Addr},c∉f2->c≠i2:=λhc y=>hc (y ▸ ap.m2);refine AAA (m:=forIn (#[Value.ref i1,Value.ref i2]:Array Value) _ _) ?_;rw[←Array.forIn_toList];show wpAny _ _ (forIn [Value.ref i1,Value.ref i2] _ _) _ _ _;rw[List.forIn_cons];refine AAA (AAA (AAq (AAA (D1.item k { s with heap:=h1 } _ _ hk s11 λx h2 t2 px s12 b2=>AAB (AAB ?_)))));have k2:∀c o,c≠i1->h1.get? c=some o->h2.get? c=some o:=λc o hc e=>(b2.2 c hc).trans e;have z2:=k2 z _ (ne1 ap.z1) z1;have s22:=D2.frame _ _ h2 s21 λc hc o e=>k2 c o (λy=>ap.x12 (y ▸ hc)) e;show wpAny _ _ (forIn [Value.ref i2] _ _) _ _ _;rw[List.forIn_cons];refine AAA (AAA (AAq (AAA (D2.item k { s with heap:=h2,toks:=t2 } _ _ hk s22 λy h4 t4 py s24 b4=>AAB (AAB ?_)))));have k4:∀c o,c≠i2->h2.get? c=some o->h4.get? c=some o:=λc o hc e=>(b4.2 c hc).trans e;have z4:=k4 z _ (ne2 ap.z2) z2;have s14:=D1.frame _ _ h4 s12 λc hc o e=>k4 c o (λy=>ap.x21 (y ▸ hc)) e;show wpAny _ _ (forIn [] _ _) _ _ _;rw[List.forIn_nil];refine AAB ?_;refine AAA (wpAny_newTuple (AAB ⟨_,rfl,?_⟩) (by simp[sizeLine]));have kp:∀c o,h4.get? c=some o->(h4.push { cls:=.type "tuple",data:=.seq #[x,y] }).get? c=some o:=λc o e=>AAC _ e;have sz:h4.objs.size=s.heap.objs.size:=by rw[b4.1,b2.1,b1.1]
 exact q x y h4.objs.size _ t4 px py (by rw[sz];exact AAF _) ⟨_,AAD _ rfl,rfl,0,rfl⟩ (kp z _ z4) (D1.frame _ _ _ s14 λc _ o e=>kp c o e) (D2.frame _ _ _ s24 λc _ o e=>kp c o e) λc o c1 c2 c3 e=>kp c o (k4 c o c3 (k2 c o c2 (k1 c o c1 e)))
theorem Q2{z TI TO T i1 i2:Addr}{n:Nat}{b:Bool}{oT:Obj}(ap:DQ z TI TO i1 i2 f1 f2)(D1:Draws prog w A.in1 i1 f1 n P1 S1)
  (hz:s.heap.get? z=some (Gr TI TO T b)) (hT:s.heap.get? T=some oT) (hI:TwoAt s.heap TI (.ref i1) (.ref i2)) (s1:S1 n s.heap)
  (q:∀h' e,(∀c o,c≠z->c≠i1->s.heap.get? c=some o->h'.get? c=some o)->(∃o,h'.get? e=some o/\o.cls=.type "StopIteration")->E (.ref e) { s with heap:=h' }) :
  wpAny (model prog w) A.in1 (Builtin.«zip.__next__» ⟨[.ref z],[]⟩) Q E s:=by
 obtain⟨nI,eI⟩:=id hI;refine AAA (m:=field (.ref z) 2) (AAx hz rfl (x:=.bool false) rfl (AAA (m:=field (.ref z) 3) (AAx hz rfl (x:=.ref TI) rfl (AAA (m:=seqItems? (.ref TI)) (AAy eI rfl ?_)))));refine BA (by simp) (AAA (MP hz hT λh1 z1 b1=>?_));rw[if_neg (by decide)];have s11:=D1.frame _ _ h1 s1 λc hc o e=>(b1.2 c (λy=>ap.z1 (y ▸ hc))).trans e;refine AAA (m:=forIn (#[Value.ref i1,Value.ref i2]:Array Value) _ _) ?_;rw[←Array.forIn_toList];show wpAny _ _ (forIn [Value.ref i1,Value.ref i2] _ _) _ _ _;rw[List.forIn_cons];refine AAA (AAA (AAq (AAA (D1.done { s with heap:=h1 } _ _ s11 λh2 e eb so=>?_))));exact q h2 e (λc o c1 c2 x=>eb c o c2 ((b1.2 c c1).trans x)) so
end
section
variable{prog:Program}{w:World}{A:Around}{E:Value->Shared->Prop}{s:Shared}
theorem NL:typeLookup (.type "zip") "keys" = pure none:=by rw[typeLookup_type,builtinLookup_eq_fast];kernel_rfl
theorem NM:typeLookup (.type "zip") "__getattr__" = pure none:=by rw[typeLookup_type,builtinLookup_eq_fast];kernel_rfl
theorem Pg:entryFor table "zip.__getattribute__" = some Builtin.«object.__getattribute__»:=entryFor_alias (id' := "object.__getattribute__") (by kernel_rfl) (by decide +kernel) (by decide +kernel) (by kernel_rfl)
theorem Qz(z:Addr)(fs:Array Value)(u:Tok):Meets (Builtin.«object.__getattribute__» ⟨[.ref z,.str "keys" u],[]⟩) (λA R s=>s.heap.get? z=some { cls:=.type "zip",data:=.fields fs }/\raisesAttr (.ref z) "keys" A R s):=
 .of_wp λprog w A R s ⟨hz,q⟩=>by
  have ty:s.TypeIs (.ref z) "zip" := ⟨_,hz,rfl⟩;obtain⟨hp,gs,dr,tk,os⟩:=s;have no:=NL;unfold Builtin.«object.__getattribute__»
  wp_walk
  refine AAw no ?_
  wp_walk
  exact wpAny_raiseAttrError q.1 q.2 (by decide +kernel)
theorem Q0(there:s.heap.get? z=some { cls:=.type "zip",data:=.fields fs })(calm:A.handled=none)
  (q:∀h' n,(∀b o,s.heap.get? b=some o->h'.get? b=some o)->Q none { s with heap:=h',toks:=n }):wpAny (model prog w) A (getAttr? (.ref z) "keys") Q E s:=by
 unfold getAttr? getAttrBy?;refine AAA (wpAny_mkText (AAA (AAz ?_)));unfold getAttrBy;refine AAq (AAA (wpAny_typeOf (T := "zip") ⟨_,there,rfl⟩ ?_));refine AAA (AAw F.slot_zip_getattribute.lookup ?_);show wpAny _ _ (getAttrByItsOwn _ _ (.type "zip") _ false false) _ _ _;unfold getAttrByItsOwn;refine AAA (m:=hookBefore (.type "zip")) (AAB (AAA (AAz (AAq ?_))));show wpAny _ _ (boundAndCalled _ _ _) _ _ _;unfold boundAndCalled;refine AAA (AAw (F.slot_zip_getattribute.bind (.ref z)) ?_);refine call_meets F.slot_zip_getattribute ⟨_,there,rfl⟩ Pg (F.args_zip_getattribute_2 _ _) (Qz z fs _) ⟨there,calm,λh' n e new=>?_⟩;obtain⟨_,_,oe⟩:=new.there;unfold getattributeRaised;refine AAA (AA0 (T := "AttributeError") (b:=true) ⟨_,oe,rfl⟩ sub_AttributeError ?_);refine AAA (m:=hookBehind (.type "zip") none) (AAw NM (wpAny_throw ?_));exact AAA (AA0 (T := "AttributeError") (b:=true) ⟨_,oe,rfl⟩ sub_AttributeError (AAB (q h' n new.of.keeps)))
def ZOn(h:Heap)(z TI TO i1 i2:Addr):Prop:=TwoAt h TI (.ref i1) (.ref i2)/\((h.get? z=some (B2 TI TO .none)/\∃a b,TwoAt h TO a b)∨∃T b oT,h.get? z=some (Gr TI TO T b)/\h.get? T=some oT/\T≠TO/\T≠i1/\T≠i2/\T≠z)
theorem Q1{z TI TO i1 i2:Addr}{n k:Nat}{P1 P2:Nat->Value->Prop}(ap:DQ z TI TO i1 i2 f1 f2)
  (D1:Draws prog w A.in1 i1 f1 n P1 S1) (D2:Draws prog w A.in1 i2 f2 n P2 S2) (hk:k<n) (hz:ZOn s.heap z TI TO i1 i2) (s1:S1 k s.heap) (s2:S2 k s.heap)
  (q:∀x y U h' tk,P1 k x->P2 k y->s.heap.objs.size<=U->h'.IsTuple U #[x,y]->ZOn h' z TI TO i1 i2->S1 (k+1) h'->S2 (k+1) h'->(∀c o,c≠z->c≠TO->c≠i1->c≠i2->s.heap.get? c=some o->h'.get? c=some o)->Q (some (.ref U)) { s with heap:=h',toks:=tk }) :
  wpAny (model prog w) A (pyNext (.ref z)) Q E s:=by
 obtain⟨hI,⟨h0,a,b,hO⟩|⟨T,b,oT,h0,hT,t1,t2,t3,t4⟩⟩:=hz
 ·have ty:s.TypeIs (.ref z) "zip" := ⟨_,h0,rfl⟩;obtain⟨o1,e1⟩:=D1.live _ _ s1;obtain⟨o2,e2⟩:=D2.live _ _ s2;obtain⟨n3,e3⟩:=id hO;unfold pyNext;refine AAA (AAz (wpAny_callSpecial?_slot (name:=Str.ofString "__next__") ty F.slot_zip_next (AAe F.slot_zip_next ty F.entry_zip_next (Lh ap D1 D2 hk h0 hI hO s1 s2 λx y U h' tk px py hU tup b1 b2 b3 b4 b5 kp=>?_) (F.args_zip_next_1 _))));have lt:∀{c:Addr} {o:Obj},s.heap.get? c=some o->U≠c:=λe=>Nat.ne_of_gt (AAN (Heap.lt_size e) hU);obtain⟨oU,eU,_⟩:=id tup;exact AAB (q x y U h' tk px py hU tup ⟨b2,.inr ⟨U,false,oU,b1,eU,lt e3,lt e1,lt e2,lt h0⟩⟩ b4 b5 kp)
 ·have ty:s.TypeIs (.ref z) "zip" := ⟨_,h0,rfl⟩;unfold pyNext;refine AAA (AAz (wpAny_callSpecial?_slot (name:=Str.ofString "__next__") ty F.slot_zip_next (AAe F.slot_zip_next ty F.entry_zip_next (Pf ap D1 D2 hk h0 hT hI s1 s2 λx y U h' tk px py hU tup b1 b4 b5 kp=>?_) (F.args_zip_next_1 _))));exact AAB (q x y U h' tk px py hU tup ⟨hI.keep λo e=>kp TI o ap.zTI.symm ap.n1 ap.n2 e,.inr ⟨T,true,oT,b1,kp T oT t4 t2 t3 hT,t1,t2,t3,t4⟩⟩ b4 b5 λc o c1 _ c3 c4 e=>kp c o c1 c3 c4 e)
theorem Qy{z TI TO i1 i2:Addr}{n:Nat}{P1:Nat->Value->Prop}(ap:DQ z TI TO i1 i2 f1 f2)
  (D1:Draws prog w A.in1 i1 f1 n P1 S1) (hz:ZOn s.heap z TI TO i1 i2) (s1:S1 n s.heap) (q:∀h',(∀c o,c≠z->c≠i1->s.heap.get? c=some o->h'.get? c=some o)->Q none { s with heap:=h' }) :
  wpAny (model prog w) A (pyNext (.ref z)) Q E s:=by
 obtain⟨hI,⟨h0,a,b,hO⟩|⟨T,b,oT,h0,hT,_⟩⟩:=hz
 ·have ty:s.TypeIs (.ref z) "zip" := ⟨_,h0,rfl⟩;unfold pyNext;refine AAA (AAz (wpAny_callSpecial?_slot (name:=Str.ofString "__next__") ty F.slot_zip_next (AAe F.slot_zip_next ty F.entry_zip_next (Lg ap D1 h0 hI hO s1 λh' e kp so=>?_) (F.args_zip_next_1 _))));obtain⟨o,ho,hc⟩:=so;exact AAA (AA0 (T := "StopIteration") (b:=true) ⟨o,ho,hc⟩ isSubtype_stop (AAB (q h' kp)))
 ·have ty:s.TypeIs (.ref z) "zip" := ⟨_,h0,rfl⟩;unfold pyNext;refine AAA (AAz (wpAny_callSpecial?_slot (name:=Str.ofString "__next__") ty F.slot_zip_next (AAe F.slot_zip_next ty F.entry_zip_next (Q2 ap D1 h0 hT hI s1 λh' e kp so=>?_) (F.args_zip_next_1 _))));obtain⟨o,ho,hc⟩:=so;exact AAA (AA0 (T := "StopIteration") (b:=true) ⟨o,ho,hc⟩ isSubtype_stop (AAB (q h' kp)))
end
section
variable{prog:Program}{w:World}{A:Around}{R:Result->Shared->Prop}
theorem My(hA:A.handled=none){d z TI TO i1 i2:Addr}{n:Nat}(ap:DQ z TI TO i1 i2 f1 f2)(D1:∀A:Around,A.handled=none->Draws prog w A i1 f1 n P1 S1)(D2:∀A:Around,A.handled=none->Draws prog w A i2 f2 n P2 S2)
  (dz:d≠z) (dI:d≠TI) (dO:d≠TO) (d1:d∉f1) (d2:d∉f2) :
  ∀(more:List (Key×Value)) (k:Nat) (j:Int) (s:Shared) (kvs:List (Key×Value)),k+more.length=n->kvs.length+more.length<=sizeLine->ZOn s.heap z TI TO i1 i2->S1 k s.heap->S2 k s.heap->s.heap.DictOf (A9 prog w) d kvs->
   (∀(m:Nat) (key:Key) (v:Value),more[m]?=some (key,v)->∀x y,P1 (k+m) x->P2 (k+m) y->(A9 prog w).is key x=true/\y=v)->
   (∀s',s'.heap.DictOf (A9 prog w) d (merged kvs more)->(∀b o,b≠d->b≠z->b≠TO->b≠i1->b≠i2->s.heap.get? b=some o->s'.heap.get? b=some o)->s'.gens=s.gens->s'.drawn=s.drawn->s'.os=s.os->R (.ok (.ret .none)) s')->
   codeAny (model prog w) A (.builtin "dict.update.loop" ⟨[.ref d,.ref z,rawInt j,.none],[]⟩) R s
 |[],k,j,s,kvs,hn,hz,on,s1,s2,hd,hp,fin=>by
  refine codeAny_builtin EQ ?_;unfold Builtin.«dict.update.loop»;show wpAny _ _ (pyNext (.ref z) >>= _) _ _ s;have kn:k=n:=by simpa using hn
  subst kn;have di1:d≠i1:=λe=>d1 (e ▸ ap.m1);refine AAA (Qy ap (D1 _ hA) on s1 λh' eb=>?_);dsimp only;refine AAA (AAw (show Builtin.Dict.addKeywords d []=Pure.pure () from rfl) ?_);exact AAB (fin _ (hd.at λo e=>eb d o dz di1 e) (λb o _ b1 _ b2 _ e=>eb b o b1 b2 e) rfl rfl rfl)
 |(key,v)::more,k,j,s,kvs,hn,hz,on,s1,s2,hd,hp,fin=>by
  have hn':k+(more.length+1)=n:=hn;have hz':kvs.length+(more.length+1)<=sizeLine:=hz;have di1:d≠i1:=λe=>d1 (e ▸ ap.m1);have di2:d≠i2:=λe=>d2 (e ▸ ap.m2);refine codeAny_builtin EQ ?_;unfold Builtin.«dict.update.loop»;show wpAny _ _ (pyNext (.ref z) >>= _) _ _ s;refine AAA (Q1 ap (D1 _ hA) (D2 _ hA) (by omega) on s1 s2 λx y U h' tk px py hU tup on' s1' s2' kp=>?_);dsimp only;obtain⟨hkey,rfl⟩:=hp 0 key v rfl x y px py;have hd':h'.DictOf (A9 prog w) d kvs:=hd.at λo e=>kp d o dz dO di1 di2 e;refine AAA (AAq (AAA (wpAny_tryCatch ?_)));unfold Builtin.Dict.pairItems;obtain⟨o,ho,hc,m,hdat⟩:=id tup;refine AAA (wpAny_typeOf (T := "tuple") ⟨o,ho,hc⟩ ?_);rw[if_pos (by decide)];refine AAA ?_;unfold seqItems?;refine AAA (wpAny_load ho ?_);rw[hdat];refine AAB (AAB ?_);show wpAny _ _ (holding [x,y] (dictSet d x y)) _ _ _;refine AAq (wpAny_dictSet_pairs hkey hd' (λh2 hd2 sb2=>?_) (by omega));refine AAB ⟨EI _,?_⟩;have k2:∀b o,b≠d->h'.get? b=some o->h2.get? b=some o:=λb o h1 e=>(sb2.2 b h1).trans e;have lt:∀{c:Addr} {o:Obj},s.heap.get? c=some o->U≠c:=λe=>Nat.ne_of_gt (AAN (Heap.lt_size e) hU);have on2:ZOn h2 z TI TO i1 i2:=by
   obtain⟨a1,a2⟩:=on';refine⟨a1.keep λo e=>k2 TI o dI.symm e,?_⟩;rcases a2 with ⟨b1,b2,b3,b4⟩|⟨T,b,oT,c1,c2,c3,c4,c5,c6⟩
   ·exact .inl ⟨k2 z _ dz.symm b1,b2,b3,b4.keep λo e=>k2 TO o dO.symm e⟩
   ·by_cases hTd:T=d
    ·subst hTd;obtain⟨o',_,_,e',_⟩:=hd2;exact .inr ⟨T,b,o',k2 z _ dz.symm c1,e',c3,c4,c5,c6⟩
    ·exact .inr ⟨T,b,oT,k2 z _ dz.symm c1,k2 T oT hTd c2,c3,c4,c5,c6⟩
  refine My hA ap D1 D2 dz dI dO d1 d2 more (k+1) (j+1) _ (stored kvs key y) (by omega) ?_ on2 ((D1 _ hA).frame _ _ h2 s1' λc hc o e=>k2 c o (λz=>d1 (z ▸ hc)) e) ((D2 _ hA).frame _ _ h2 s2' λc hc o e=>k2 c o (λz=>d2 (z ▸ hc)) e) hd2 ?_ ?_
  ·have:=stored_length_le kvs key y;omega
  ·intro m key' v' e x' y' p1 p2;have e2:k+1+m=k+(m+1):=by omega
   rw[e2] at p1 p2;exact hp (m+1) key' v' (by simpa using e) x' y' p1 p2
  ·intro s' g1 g2 g3 g4 g5;exact fin s' g1 (λb o h1 h2' h3 h4 h5 e=>g2 b o h1 h2' h3 h4 h5 (k2 b o h1 (kp b o h2' h3 h4 h5 e))) g3 g4 g5
end
end L2
namespace L2
open PySem PySem.Spec PyProof.Rows
theorem TN:∀{ks:List Key} {ys:List V} {its jts:List Value},Vals (ks.map kV) its->Vals ys jts->KV (ks.zip ys) (ks.zip jts)
 |[],_,_,_,_,_=>by rw[List.zip_nil_left,List.zip_nil_left];exact .nil
 |_::_,[],_,_,_,r=>by cases r;rw[List.zip_nil_right,List.zip_nil_right];exact .nil
 |k::ks,y::ys,_,_,r,r2=>by
  rw[AAX] at r;cases r with
  |cons a r=>
   cases r2 with
   |cons b r2=>
    rw[List.zip_cons_cons,List.zip_cons_cons];exact .cons ⟨rfl,b⟩ (TN r r2)
theorem far(n:Nat):n+5≠n+4/\n+5≠n+2/\n+5≠n+3/\n+5≠n/\n+5≠n+1:=by omega
theorem YT(n l:Nat)(h:l<n):n+5≠l:=by omega
theorem Th(n c:Nat)(h:c<n):c≠n+5/\c≠n+4/\c≠n+3/\c≠n/\c≠n+1:=by omega
section
variable{X:Cx}
theorem VX(hc:X.calm=true)(hgd:Gl X "dict")(hmd:X.mg "dict" = none)(hg:Gl X "zip")(hm:X.mg "zip" = none)(ha:PA X [a,b] ta)(hs:starEach [a,b] X.env=(false,eval a X.env)::starEach [b] X.env)(hpl:(backTo pos2 (starEach [b] X.env)).any (·.1)=false):
  PE X (.Call (.Name "dict" p) [.Call (.Name "zip" p2) [a,b] [] pos2] [] pos) (λσ H Q=>ta σ H λvs H1=>∃(l m:Addr) (ks:List Key) (ys:List V),vs=[.ref l,.ref m]/\SqL X.kw H1 l (ks.map kV)/\SqT X.kw H1 m ys/\ys.length=ks.length/\ks.length<=1000/\∀q,H1 q=none->Q (.ref q) (upd H1 q (.dK (C5 [] (ks.zip ys))))):=by
 intro pins s σ H Q I h;refine wpAny_Call_Name_kw (Et I hgd hmd Mi.Ki ?_);refine PyProof.Rows.callWith_type1 ?_ (Mi.As rfl) rfl;rw[Mi.As (show Mi.F2 (.Call (.Name "zip" p2) [a,b] [] pos2)=false from rfl)];show wpAny _ _ (spliced ((false,eval (.Call (.Name "zip" p2) [a,b] [] pos2) X.env)::[])) _ _ s;refine Calls.spliced_cons (wpAny_Call_Name_kw (Et I hg hm NA (PyProof.Rows.callWith_type1 (thn (ha pos2 pins s σ H _ I h) λus s1 ⟨vs,H1,I1,r1,q1⟩=>?_) hs hpl)));obtain⟨l,m,ks,ys,ev,hx,hy,hl,h1000,q⟩:=q1;subst ev;obtain⟨u1,u2,eu,ru1,ru2⟩:=Vals.two r1;subst eu;cases ru1;cases ru2;obtain⟨its,rx,px,_⟩:=I1.list hx;obtain⟨jts,ry,py,_⟩:=I1.tuple hy;have px:=px.isList;have ltl:l<s1.heap.objs.size:=by obtain⟨o,e,_⟩:=px;exact Heap.lt_size e
 have ltm:m<s1.heap.objs.size:=by obtain⟨o,e,_⟩:=py;exact Heap.lt_size e
 have new:=ON (.ref l) (.ref m) { cls:=.type "list_iterator",data:=.fields #[.ref l,.int 0 0] } { cls:=.type "tuple_iterator",data:=.fields #[.ref m,.int 0 0] } (λh=>h.IsList l its.toArray) (λh=>h.IsTuple m jts.toArray) (λh x=>x.push _) (λ_ _ _ _ _ _ g z=>wpAny_pyIter_list g z) (λ_ _ _ _ _ _ g z=>wpAny_pyIter_tuple g z);refine callType_new F.called_zip (by decide) (F.typeCall_zip_2 _ _) (F.newCall_zip_2 _ _) (λobj=>F.args_object_init_3 obj _ _) F.entry_zip_new new ⟨px,py,?_⟩;generalize ho1:({ cls:=.type "list_iterator",data:=.fields #[.ref l,.int 0 0] }:Obj)=o1;generalize ho2:({ cls:=.type "tuple_iterator",data:=.fields #[.ref m,.int 0 0] }:Obj)=o2;have n1:(s1.heap.push o1).objs.size=s1.heap.objs.size+1:=Heap.size_push ..;have n2:(zh2 s1.heap o1 o2).objs.size=s1.heap.objs.size+2:=by rw[Heap.size_push,n1]
 have n3:((zh2 s1.heap o1 o2).push (Dr (.ref s1.heap.objs.size) (.ref (s1.heap.push o1).objs.size))).objs.size=s1.heap.objs.size+3:=by rw[Heap.size_push,n2]
 have n4:(zh4 s1.heap o1 o2).objs.size=s1.heap.objs.size+4:=by rw[Heap.size_push,n3]
 have n5:(zh5 s1.heap o1 o2).objs.size=s1.heap.objs.size+5:=by rw[Heap.size_push,n4]
 have kp:∀c o,s1.heap.get? c=some o->(zh5 s1.heap o1 o2).get? c=some o:=λc o e=>AAC _ (AAC _ (AAC _ (AAC _ (AAC _ e))));have f1:o1.isFreed=false:=by rw[←ho1];rfl
 have f2:o2.isFreed=false:=by rw[←ho2];rfl
 have a1:(zh5 s1.heap o1 o2).get? s1.heap.objs.size=some o1:=AAC _ (AAC _ (AAC _ (AAC _ (AAD _ f1))));have a2:(zh5 s1.heap o1 o2).get? (s1.heap.objs.size+1)=some o2:=by rw[←n1];exact AAC _ (AAC _ (AAC _ (AAD _ f2)))
 have a3:(zh5 s1.heap o1 o2).get? (s1.heap.objs.size+2)=some (Dr (.ref s1.heap.objs.size) (.ref (s1.heap.objs.size+1))):=by
  rw[←n1,←n2];exact AAC _ (AAC _ (AAD _ rfl))
 have a4:(zh5 s1.heap o1 o2).get? (s1.heap.objs.size+3)=some (Dr .none .none):=by
  rw[←n3];exact AAC _ (AAD _ rfl)
 have a5:(zh5 s1.heap o1 o2).get? (s1.heap.objs.size+4)=some (B2 (s1.heap.objs.size+2) (s1.heap.objs.size+3) .none):=by
  rw[←n4,←n2,←n3];exact AAD _ rfl
 show _/\_;rw[n4];refine⟨⟨_,a5,rfl⟩,Calls.spliced_nil ?_⟩;generalize zh5 s1.heap o1 o2=G at n5 kp a1 a2 a3 a4 a5;generalize hN:s1.heap.objs.size=N at n5 a1 a2 a3 a4 a5 ltl ltm;refine callType_codes (Q₁:=λobj s₁=>obj=.ref (N+5)/\s₁={ s1 with heap:=G.push { cls:=.type "dict",data:=.dict #[] } }) PySem.F.kt_called_dict (PySem.F.kt_typeCall_dict_1 _) PySem.F.entry_dict_init (PySem.kt_code_dict_new _ ⟨by rw[←n5],rfl⟩) ?_;rintro obj s₁ ⟨rfl,rfl⟩;have hnew:(G.push { cls:=.type "dict",data:=.dict #[] }).DictOf (A9 X.prog X.w) (N+5) []:=by rw[←n5];exact Heap.DictOf.new G
 refine⟨hnew.typeIs,PySem.F.args_dict_init_2 _ _,?_⟩;unfold Builtin.«dict.__init__»;refine AAA ?_;unfold Builtin.Dict.selfAndRest;refine AAA (wpAny_notOrdered_dict hnew.typeIs ?_);show wpAny _ _ (pure (N+5,[Value.ref (N+4)])) _ _ _;refine AAB ?_;show wpAny _ _ (Builtin.Dict.updateFrom "dict.__init__" (N+5) (.ref (N+4)) [] .none) _ _ _;unfold Builtin.Dict.updateFrom;have kg:∀c o,G.get? c=some o->(G.push { cls:=.type "dict",data:=.dict #[] }).get? c=some o:=λc o e=>AAC _ e;refine AAA (wpAny_typeOf (T := "zip") ⟨_,kg _ _ a5,rfl⟩ ?_);dsimp only;rw[if_pos (by decide)];refine AAA (Q0 (kg _ _ a5) (show X.A.handled=none from I1.ok.hd hc) λh' tk kk=>?_);rw[if_pos (show (none:Option Value).isNone=true from rfl)];have kk':∀c o,G.get? c=some o->h'.get? c=some o:=λc o e=>kk c o (kg c o e);have hd':h'.DictOf (A9 X.prog X.w) (N+5) []:=hnew.at λo e=>kk _ o e;refine AAA (wpAny_rule (AAA (GE (kk' _ _ a5) ?_)));refine AAB ⟨EI _,?_⟩;have ap:=zap N l m ltl ltm;have l1:its.toArray.size=ks.length:=by rw[List.size_toArray];have:=rx.length;rw[AAG] at this;exact this.symm
 have l2:jts.toArray.size=ks.length:=by rw[List.size_toArray,←hl];exact ry.length.symm
 refine My (prog:=X.prog) (w:=X.w) (A:=X.A.in1) (n:=ks.length) (show X.A.handled=none from I1.ok.hd hc) ap (λA hA=>l1 ▸ Draws.list (prog:=X.prog) (w:=X.w) hA N l (AAf ltl) its.toArray) (λA hA=>l2 ▸ FN (prog:=X.prog) (w:=X.w) hA (N+1) m (AAf (AAj ltm)) jts.toArray)
  (far N).1 (far N).2.1 (far N).2.2.1 (nin (far N).2.2.2.1 (YT N l ltl)) (nin (far N).2.2.2.2 (YT N m ltm)) (ks.zip jts) 0 0 _ [] ?_ ?_ ⟨⟨0,kk' _ _ a3⟩,.inl ⟨kk' _ _ a5,_,_,0,kk' _ _ a4⟩⟩ ⟨⟨o1,kk' _ _ a1,by rw[←ho1],by rw[←ho1];rfl⟩,by obtain⟨o,e,r⟩:=px;exact⟨o,kk' _ _ (kp _ _ e),r⟩⟩ ⟨⟨o2,kk' _ _ a2,by rw[←ho2],by rw[←ho2];rfl⟩,by obtain⟨o,e,r⟩:=py;exact⟨o,kk' _ _ (kp _ _ e),r⟩⟩ hd' ?_ ?_
 ·rw[List.length_zip,Nat.zero_add];rw[List.size_toArray] at l2;omega
 ·have:=G0 (n:=ks.length) h1000;rw[List.length_zip,List.length_nil];omega
 ·intro i key v e x y e1 e2;rw[Nat.zero_add] at e1 e2;have hz:=List.getElem?_zip_eq_some.mp e;have ek:(ks.map kV)[i]?=some (kV key):=by rw[AAW,hz.1];rfl
  obtain⟨u,g1,g2⟩:=rx.get ek;have e1':its[i]?=some x:=by simpa using e1
  rw[e1'] at g1;cases g1;have e2':jts[i]?=some y:=by simpa using e2
  rw[hz.2] at e2';cases e2';exact⟨Mj g2,rfl⟩
 ·intro s' g1 g2 g3 g4 g5;obtain⟨hh,g,dr,tk',os⟩:=s';cases g3;cases g4;cases g5;have hb:((N+5:Nat)==sysModules)=false:=AAg.mpr (by have:=I1.big;rw[hN] at this;exact YT N sysModules this);refine⟨rfl,.ref (N+5),_,I1.laid (t':=tk') (a:=N+5) (λc o e=>?_) (by rw[hN];exact Nat.le_add_right _ _) (LW ?_ hb (KV.merge (TN rx ry) .nil) g1),rfl,q _ (I1.hok.fresh (by rw[hN];exact Nat.le_add_right _ _))⟩
  ·have lt:=Heap.lt_size e;rw[hN] at lt;exact g2 c o (Th N c lt).1 (Th N c lt).2.1 (Th N c lt).2.2.1 (Th N c lt).2.2.2.1 (Th N c lt).2.2.2.2 (kk' c o (kp c o e))
  ·have h1:=DK (ks.zip ys) [];have h2:=G0 h1000;rw[List.length_zip,List.length_nil] at h1;omega
end
end L2
namespace L2
open PySem PySem.Spec PyProof.Rows Sem
noncomputable def C4(xs:List Str):List Str:=xs.foldl (λys x=>if x∈ys then ys else ys++[x]) []
theorem QK(xs:List Str)(x:Str):C4 (xs++[x])=if x∈C4 xs then C4 xs else C4 xs++[x]:=by
 unfold C4;rw[List.foldl_append];rfl
theorem KK:∀(xs ys:List Str),(xs.foldl (λys x=>if x∈ys then ys else ys++[x]) ys).length<=ys.length+xs.length
 |[],ys=>AAF _
 |x::xs,ys=>by
  rw[List.foldl_cons];have:=KK xs (if x∈ys then ys else ys++[x]);split at this<;>simp at this ⊢<;>(try split)<;>simp_all<;>omega
theorem Ow(xs:List Str):(C4 xs).length<=xs.length:=by
 have:=KK xs [];simpa[C4] using this
section
variable{prog:Program}{w:World}{A:Around}{E:Value->Shared->Prop}{s:Shared}
set_option maxHeartbeats 2000000 in
theorem Vm(ft:TypeCalled T nid iid)(ok:checkTypeCall T ⟨args,[]⟩=pure ())
  (new:codeAny (model prog w) A.in1 (.call (.builtin nid) ⟨.type T::args,[]⟩) (wants Q₁ E) s)
  (init:∀x s₁,Q₁ x s₁->s₁.TypeIs x T/\codeAny (model prog w) A.in1 (.call (.builtin iid) ⟨x::args,[]⟩) (wants (λr s₂=>r=.none/\Q x s₂) E) s₁) :
  wpAny (model prog w) A (call (.type T) args) Q E s:=by
 have a1:=ft.notType;have a2:=ft.canCreate;have a3:=ft.made;have a4:=ft.sub;obtain⟨c,tl,a5⟩:=ft.mro;have step:codeAny (model prog w) A (.builtin "type.__call__" ⟨.type T::args,[]⟩) (wants Q E) s:=by
  refine codeAny_builtin F.entry_type_call ?_;rw[Around.under_plain (weight_type_call_type T args []) rfl];unfold Builtin.«type.__call__»
  iterate 3 (any_goals (first|assumption|wp_step))
  first|refine AAw ok ?_|refine AAA (AAw ok ?_)
  repeat (any_goals (first|assumption|wp_step))
  refine codeAny_mono new λr s₁ hr=>?_
  match r,hr with
  | .error e,hr=>exact hr
  | .ok (.ret x),hr=>
   obtain⟨ty,run⟩:=init x s₁ hr;have b1:=ft.init.lookup;have b2:=ft.init.bind x
   repeat (any_goals (first|assumption|wp_step))
   refine codeAny_mono run λr₂ s₂ hr₂=>?_
   match r₂,hr₂ with
   | .error e,hr₂=>exact hr₂
   | .ok (.ret y),hr₂=>
    obtain⟨ey,hq⟩:=hr₂;subst ey
    repeat (any_goals (first|assumption|wp_step))
 exact wpAny_call (codeAny_of_tree (AAB ⟨Code.quiet_builtin _ (by decide +kernel),step⟩))
noncomputable abbrev Bf(led:Bool):Obj:={ cls:=.type "set",data:=.set #[] 0 (.fresh 0 0 led) }
end
end L2
namespace Mi
open PySem L2
noncomputable def HV:List D->Option (List Str)
 |[]=>some []
 | .str x::ds=>(HV ds).map (x::·)
 |_=>none
theorem L0:∀{ds:List D} {vs:List V} {ss:List Str},IsL K ι k H ds vs->HV ds=some ss->vs=ss.map V.str
 |[],_,_,h,e=>by cases e;unfold IsL at h;exact h
 |d::ds,_,_,h,e=>by
  cases d with
  |str x=>
   unfold IsL at h;obtain⟨v,vs',rfl,h1,h2⟩:=h;have e':(HV ds).map (x::·)=some _:=e;cases q:HV ds with
   |none=>rw[q] at e';cases e'
   |some ss=>
    rw[q] at e';cases e';unfold Is at h1;rw[h1,L0 h2 q];rfl
  |_=>cases e
inductive How where
 |all|drop|frz
noncomputable def QG(μ2:Mh):How->D->D
 | .frz,.ref n=>match μ2[n]? with
  |some (.lst ds)=>.lst ds
  |_=>.ref n
 |_,d=>d
noncomputable def Jl(μ μ2:Mh):How->Mh
 | .all=>μ2
 |_=>μ2.take μ.length
open Classical in
noncomputable def BJ(hw:How)(n ps:Nat)(mb:Sl->M (Fl×Sl)):List D->M D:=λds μ=>match mb (BV n ds) μ with
 |some ((fl,_),μ2)=>if ds.length=ps/\(fl=.next∨∃d,fl=.rt d)/\Fg μ μ2 (Jl μ μ2 hw) (Ej fl) (QG μ2 hw (Ej fl)) then some (QG μ2 hw (Ej fl),Jl μ μ2 hw) else none
 |none=>none
theorem F9(h:BJ hw n ps mb ds μ=some (d,μ')):
  ds.length=ps/\∃fl τ2 μ2,mb (BV n ds) μ=some ((fl,τ2),μ2)/\(fl=.next∨∃d,fl=.rt d)/\Fg μ μ2 μ' (Ej fl) d:=by
 unfold BJ at h;split at h
 ·rename_i fl τ2 μ2 e;split at h
  ·rename_i c;cases h;exact⟨c.1,fl,τ2,μ2,e,c.2.1,c.2.2⟩
  ·cases h
 ·cases h
theorem Dl(e:mb (BV n ds) μ=some ((fl,τ2),μ2))(hl:ds.length=ps)(hf:fl=.next∨∃d,fl=.rt d)(t:Fg μ μ2 (Jl μ μ2 hw) (Ej fl) (QG μ2 hw (Ej fl))):
  BJ hw n ps mb ds μ=some (QG μ2 hw (Ej fl),Jl μ μ2 hw):=by
 unfold BJ;rw[e];exact if_pos ⟨hl,hf,t⟩
theorem JU(e:mb (BV n ds) μ=some ((.rt d,τ2),μ++g))(hl:ds.length=ps)(c:Cl μ.length d):BJ .drop n ps mb ds μ=some (d,μ):=by
 have t:Jl μ (μ++g) .drop=μ:=by show (μ++g).take μ.length=μ;rw[List.take_left]
 have h:=Dl (hw:=.drop) e hl (.inr ⟨d,rfl⟩) (by rw[t];exact IY c);rw[t] at h;exact h
theorem Qp(e:mb (BV n ds) μ=some ((.rt (.ref k),τ2),μ++g))(hl:ds.length=ps)(hk:μ.length<=k)(hg:(μ++g)[k]?=some (.lst es))(c:ClL μ.length es):BJ .frz n ps mb ds μ=some (.lst es,μ):=by
 have t:Jl μ (μ++g) .frz=μ:=by show (μ++g).take μ.length=μ;rw[List.take_left]
 have o:QG (μ++g) .frz (Ej (.rt (.ref k)))=.lst es:=by
  show (match (μ++g)[k]? with|some (.lst ds)=>D.lst ds|_=>.ref k)=_;rw[hg]
 have h:=Dl (hw:=.frz) e hl (.inr ⟨_,rfl⟩) (by rw[t,o];exact⟨⟨g,rfl⟩,AAF _,λ_ _ z=>.inl z,.inr ⟨k,es,rfl,hg,hk,rfl,c⟩⟩);rw[t,o] at h;exact h
theorem OA(e:mb (BV n ds) μ=some ((.rt (.lst es),τ2),μ++g))(hl:ds.length=ps)(c:ClL μ.length es):BJ .frz n ps mb ds μ=some (.lst es,μ):=by
 have t:Jl μ (μ++g) .frz=μ:=by show (μ++g).take μ.length=μ;rw[List.take_left]
 have h:=Dl (hw:=.frz) e hl (.inr ⟨_,rfl⟩) (by rw[t];exact IY (by show Cl _ (D.lst es);unfold Cl;exact c));rw[t] at h;exact h
theorem Bm(hw:How)(F:Fun K x qual st f fd)(S:Ad N ps (AR st))(hm:mg x=some (.ref f))(hb:Binds K fd ps [])
  (body:∀(cdv:Value) (A:Around) (outer:List Env) (s:Shared) (H:Hp) (E:XK),Room k (A.deeper (PyProof.Rows.envOfC qual (AR st) s.heap.objs.size f cdv))->RSs (Gf CX0 P w K mg base N qual (AR st) f cdv A outer s H E).nox (BY st) mb) :
  Fn P w K mg base x ps (k+1) (BJ hw N.length ps.length mb):=
 YS F S hm hb body (λds μ r h=>(F9 (d:=r.1) (μ':=r.2) h).1) (λds μ d μ' h=>(F9 h).2)
theorem Fn.mono(F:Fn P w K mg base x ps j φ)(h:j<=k):Fn P w K mg base x ps k φ:=by
 obtain⟨len,f,fd,F,hm,hk,hb⟩:=F;exact⟨len,f,fd,F.mono h,hm,hk,hb⟩
theorem Bo(F:Fun K x qual st f fd)(hm:mg x=some (.ref f))(hb:Binds K fd ps []):Fn P w K mg base x ps k (λ_=>A5):=by
 refine⟨(λds μ r h=>absurd (show (none:Option (D×Mh))=some r from h) (by simp)),⟨f,fd,⟨λvs H Q E h=>?_,λA outer s H args us vs Q E _ _ _ _ h=>?_⟩,hm,F.kp,hb⟩⟩
 ·obtain⟨_,ι,μ,as,d,μ',_,_,e,_⟩:=h;cases e
 ·obtain⟨_,ι,μ,as,d,μ',_,_,e,_⟩:=h;cases e
section
variable{P:Program}{w:World}{K:PySem.W.Frag}{mg:Str->Option Value}{base h:Heap}{x:Str}
noncomputable def Gz:List Value->Option (List Str)
 |[]=>some []
 | .str s _::r=>(Gz r).map (s::·)
 |_::_=>none
theorem HU:∀{us:List Value} {xs:List Str},Gz us=some xs->Vals (xs.map V.str) us
 |[],xs,e=>by cases e;exact .nil
 |u::r,xs,e=>by
  cases u with
  |str s t=>
   have e:(Gz r).map (s::·)=some xs:=e;cases q:Gz r with
   |none=>rw[q] at e;cases e
   |some ys=>rw[q] at e;cases e;exact .cons ⟨t,rfl⟩ (HU q)
  |_=>cases e
def TupLit(K:PySem.W.Frag)(p:Addr)(xs:List Str):Prop:=∃od its n sl,K.lookup p=some ⟨.type "tuple",od,.seq its n,sl⟩/\Gz its.toList=some xs
theorem Yn(l:K.lookup p=some ⟨.type "tuple",od,.seq its n,sl⟩)(e:Gz its.toList=some xs):TupLit K p xs:=⟨od,its,n,sl,l,e⟩
theorem Mm:∀xs:List Str,IsL ⟨K,w⟩ ι k H (xs.map D.str) (xs.map V.str)
 |[]=>.nil
 |_::r=>.cons (by unfold Is;rfl) (Mm r)
theorem TupLit.is(h:TupLit K p xs)(hl:xs.length<=1000):Is ⟨K,w⟩ ι k H (.tup (xs.map D.str)) (.ref p):=by
 obtain⟨od,its,n,sl,l,e⟩:=h;have v:=HU e;unfold Is;refine⟨p,_,rfl,.inr ⟨_,its,n,l,rfl,rfl,?_,v⟩,Mm xs⟩;have:=v.length;rw[AAG] at this;have z:its.size=xs.length:=by rw[this];simp
 rw[z];exact Nat.le_of_lt (G0 hl)
theorem LS(X:K.In h)(G:h.Ns mainGlobals mg)(a:PySem.W.nsIn K mainGlobals x=some (some (.int i t))):Glo K mg x (.int i):=
 ⟨_,.int i,PySem.W.mg_of X G a,⟨t,rfl⟩,λ_ _ _ _=>by unfold Is;rfl⟩
theorem Vy(X:K.In h)(G:h.Ns mainGlobals mg)(a:PySem.W.nsIn K mainGlobals x=some (some (.ref p)))(l:TupLit K p xs)(hl:xs.length<=1000):Glo K mg x (.tup (xs.map D.str)):=
 ⟨_,.ref p,PySem.W.mg_of X G a,rfl,λ_ _ _ _=>l.is hl⟩
noncomputable def TabIs(K:PySem.W.Frag):List DictEntry->List (Str×List Str)->Prop
 |[],t=>t=[]
 |e::es,t=>∃x ys t' tok p,t=(x,ys)::t'/\e.key=.str x tok/\e.val=.ref p/\TupLit K p ys/\ys.length<=1000/\TabIs K es t'
theorem TabIs.noref:∀{es:List DictEntry} {t:List (Str×List Str)},TabIs K es t->es.any (·.refKey)=false
 |[],_,_=>rfl
 |e::es,t,h=>by
  obtain⟨x,ys,t',tok,p,rfl,hk,_,_,_,r⟩:=h;rw[List.any_cons,r.noref,Bool.or_false];show DictEntry.refKey e=false;unfold DictEntry.refKey;rw[hk]
noncomputable def K6(t:List (Str×List Str))(y:Str):Option D:=(t.find? (·.1==y)).map λp=>.tup (p.2.map D.str)
theorem TabIs.find:∀{es:List DictEntry} {t:List (Str×List Str)} (y:Str),TabIs K es t->(es.find? (·.key.isStr y)=none/\K6 t y=none)∨∃e p ys,es.find? (·.key.isStr y)=some e/\e.val=.ref p/\TupLit K p ys/\ys.length<=1000/\K6 t y=some (.tup (ys.map D.str))
 |[],t,y,h=>by cases (show t=[] from h);exact .inl ⟨rfl,rfl⟩
 |e::es,t,y,h=>by
  obtain⟨x,ys,t',tok,p,rfl,hk,hv,l,hl,r⟩:=h;have q:e.key.isStr y=(x==y):=by rw[hk];rfl
  cases b:(x==y) with
  |true=>
   right;refine⟨e,p,ys,?_,hv,l,hl,?_⟩
   ·rw[List.find?_cons];simp only[q,b]
   ·unfold K6;rw[List.find?_cons];simp only[b];rfl
  |false=>
   have z1:(e::es).find? (·.key.isStr y)=es.find? (·.key.isStr y):=by rw[List.find?_cons];simp only[q,b]
   have z2:K6 ((x,ys)::t') y=K6 t' y:=by unfold K6;rw[List.find?_cons];simp only[b]
   rw[z1,z2];exact r.find y
theorem Vp(X:K.In h)(G:h.Ns mainGlobals mg)(a:PySem.W.nsIn K mainGlobals x=some (some (.ref ad)))(l:K.lookup ad=some ⟨.type "dict",none,.dict es n,#[]⟩)(kl:PySem.W.KeysLit w.params es.toList)
  (hs:(ad==sysModules)=false) (T:TabIs K es.toList t):Yf w K mg x (K6 t):=by
 refine⟨ad,PySem.W.mg_of X G a,λy=>?_⟩;have nr:=T.noref;rcases T.find y with ⟨f,g⟩|⟨e,p,ys,f,hv,tl,hl,g⟩
 ·refine⟨none,⟨y,es,n,none,rfl,l,kl,?_,trivial,hs⟩,.inl ⟨g,rfl⟩⟩;unfold PySem.W.nsIn;rw[l];simp only[f,nr];rfl
 ·refine⟨some (.ref p),⟨y,es,n,some (.ref p),rfl,l,kl,?_,rfl,hs⟩,.inr ⟨_,.ref p,g,rfl,λ_ _ _=>tl.is hl⟩⟩;unfold PySem.W.nsIn;rw[l];simp only[f,hv]
structure Df(K:PySem.W.Frag)(x:Str)(st:Stmt)(f:Addr)(fd:FuncData):Prop where
 a:PySem.W.nsIn K mainGlobals x=some (some (.ref f))
 F:Fun K x x st f fd
theorem Zr{st:Stmt}{f:Addr}{oc:Value}{osl:Array (Option Value)}{kV doc pm cdv ct:Value}(a:PySem.W.nsIn K mainGlobals x=some (some (.ref f)))(l:K.lookup f=some ⟨oc,od,.func (PySem.W.fnOf x x (EB st) (BY st) (AR st) .none kV doc pm an cdv ct),osl⟩)
  (c:PySem.W.codeIn K cdv x=true) (k:PySem.W.keepIn K (.ref f)=true):∃f fd,Df K x st f fd:=⟨f,_,a,N3 l c k⟩
theorem Tg(hw:How)(F:Fun K x qual st f fd)(S:Ad N ps (AR st))
  (body:∀(cdv:Value) (A:Around) (outer:List Env) (s:Shared) (H:Hp) (E:XK),Room k (A.deeper (PyProof.Rows.envOfC qual (AR st) s.heap.objs.size f cdv))->RSs (Gf CX0 P w K mg base N qual (AR st) f cdv A outer s H E).nox (BY st) mb) :
  FnOk P w K mg base CX0 (k+1) f fd ps (spM ⟨K,w⟩ ps.length (BJ hw N.length ps.length mb)):=
 Kc F S rfl body (λds μ d μ' h=>(F9 h).2)
noncomputable def Og(K:PySem.W.Frag):Sp:=λvs H Q _=>∃(a:Addr) (ns:List Int),vs=[.ref a]/\ScrAt K H a (ns.map V.int)/\ns.length<=63/\∀H',Q (.bl true) H'
theorem XF(F:FnOk P w K mg base CX0 k f fd ["_law_script"] (spM ⟨K,w⟩ 1 φ))(hφ:∀ns:List Int,ns.length<=63->∃μ',φ [.scr ns] []=some (.bl true,μ')):FnOk P w K mg base CX0 k f fd ["_law_script"] (Og K):=
 F.imp λvs H Q E q=>by
  obtain⟨a,ns,rfl,s,hl,q⟩:=q;obtain⟨μ',e⟩:=hφ ns hl;refine⟨rfl,λ_=>a,[],[.scr ns],.bl true,μ',⟨λi j h=>absurd h (Nat.not_lt_zero _),λn o e=>by simp at e⟩,.one (by unfold Is;exact⟨a,rfl,s⟩),e,λι2 H2 E2 R2 v i=>?_⟩;unfold Is at i;rw[i];exact q H2
theorem L6(o:V9 H)(s:SqL K H a xs):ScrAt K H a xs:=by
 rcases s with z|z
 ·rcases z with z|⟨p,z⟩
  ·rcases o a with q|⟨p,ys,q⟩
   ·rw[q] at z;cases z
   ·rw[q] at z;cases z
  ·exact .inl ⟨p,z⟩
 ·exact .inr z
end
theorem Ym{l:PySem.W.OpenLaw}{q:Program}{loose:List Str}{XP:(Str->Option Value)->Heap->Prop}{K:Params->PySem.W.Frag}{k:Nat}(hn:l.most=some 63)(hdf:d.params.defaults=[])(hk:k<=60)
  (hY:∀(w:World) (h:Heap),YP w h->(K w.params).In h)
  (F:∀(w:World) (mg:Str->Option Value) (fa:Addr) (h:Heap),(K w.params).In h->h.Ns mainGlobals mg->mg d.name=some (.ref fa)->
   ∃fd:FuncData,(∀(s:Shared) (u:Value),BindsTo s fd ⟨[u],[]⟩ [("_law_script",u)])/\∀base:Heap,(K w.params).In base->base.Ns mainGlobals mg->FnOk l.prog w (K w.params) mg base CX0 k fa fd ["_law_script"] (Og (K w.params))) :
  PySem.W.WalkO q loose XP YP l.row.toRowW d [] (λf vs=>PySem.call f vs):=
 L2.Ul (n:=63) (k:=k) (x := "_law_script") (CX:=λ_=>CX0) (sp:=λw=>Og (K w.params)) hn (by decide) hdf (Room.mono (j:=k) (k:=60) ⟨rfl,by decide,by decide⟩ hk) hY F (λ_ _ a ns hl o hS=>⟨a,ns,rfl,L6 o hS,hl,λ_=>rfl⟩) λ_ _ _ _ _ z=>z
section
variable{K:KW}{ι:Nat->Addr}{k:Nat}{H:Hp}
theorem ClsAt.eq(a:ClsAt K c C)(b:ClsAt K c C'):C=C':=by
 unfold ClsAt at a b;rw[a] at b;cases b;rfl
theorem FVs.lookup:∀{l:List (Str×D)} {r:List (Str×V)} {d:D},FVs K ι k H l r->l.lookup f=some d->∃v,r.lookup f=some v/\Is K ι k H d v
 |[],_,_,_,e=>by cases e
 |(y,d0)::l,_,d,h,e=>by
  obtain⟨v,r',rfl,h1,h2⟩:=h;rw[List.lookup_cons] at e ⊢;cases q:f==y with
  |true=>rw[q] at e;cases e;exact⟨v,rfl,h1⟩
  |false=>rw[q] at e;exact FVs.lookup h2 e
theorem FVs.none:∀{l:List (Str×D)} {r:List (Str×V)},FVs K ι k H l r->l.lookup f=none->r.lookup f=none
 |[],_,h,_=>by cases h;rfl
 |(y,d0)::l,_,h,e=>by
  obtain⟨v,r',rfl,h1,h2⟩:=h;rw[List.lookup_cons] at e ⊢;cases q:f==y with
  |true=>rw[q] at e;cases e
  |false=>rw[q] at e;exact FVs.none h2 e
theorem FVs.len:∀{l:List (Str×D)} {r:List (Str×V)},FVs K ι k H l r->r.length=l.length
 |[],_,h=>by cases h;rfl
 |(y,d0)::l,_,h=>by
  obtain⟨v,r',rfl,h1,h2⟩:=h;simp[FVs.len h2]
noncomputable def B8(f:Str)(d:D):List (Str×D)->List (Str×D)
 |[]=>[(f,d)]
 |(y,x)::l=>if y=f then (y,d)::l else (y,x)::B8 f d l
theorem FVs.put(i:Is K ι k H d v):∀{l:List (Str×D)} {r:List (Str×V)},FVs K ι k H l r->FVs K ι k H (B8 f d l) (D5 f v r)
 |[],_,h=>by cases h;exact⟨v,[],rfl,i,rfl⟩
 |(y,d0)::l,_,h=>by
  obtain⟨w,r',rfl,h1,h2⟩:=h;unfold B8 D5;by_cases e:y=f
  ·rw[if_pos e,if_pos e];exact⟨v,r',rfl,i,h2⟩
  ·rw[if_neg e,if_neg e];exact⟨w,_,rfl,h1,FVs.put i h2⟩
end
noncomputable def Hj(c:Str):D->M (Nat×List (Str×D))
 | .ref n=>λμ=>match μ[n]? with
  |some (.ins c' l)=>if c'=c then some ((n,l),μ) else none
  |_=>none
 |_=>A5
theorem GB(R:RelH K ι μ H)(i:Is K ι μ.length H d v)(e:Hj c d μ=some (r,μ')):
  μ'=μ/\d=.ref r.1/\μ[r.1]?=some (.ins c r.2)/\v=.ref (ι r.1)/\∃C dx fs,H (ι r.1)=some (.ins C dx fs)/\ClsAt K c C/\H dx=some (.own (ι r.1))/\FVs K ι μ.length H r.2 fs:=by
 cases d with
 |ref n=>
  have e1:(match μ[n]? with|some (.ins c' l)=>if c'=c then some ((n,l),μ) else none|_=>none)=some (r,μ'):=e;clear e;split at e1
  ·rename_i c' l hq;split at e1
   ·rename_i hc;cases e1;rw[hc] at hq;unfold Is at i;obtain⟨u,h1,C,dx,fs,rfl,h2,h3,h4⟩:=R.obj n _ hq;exact⟨rfl,rfl,hq,i.2,C,dx,fs,h1,h2,h3,h4⟩
   ·cases e1
  ·cases e1
 |_=>cases e
structure CA(K:PySem.W.Frag)(c:Str)(C:Addr):Prop where
 at_:ClsAt K c C
 cl:Cls K C
noncomputable def Bw(c f:Str)(d:D):M D:=bnd (Hj c d) λr=>λμ=>(r.2.lookup f).map λx=>(x,μ)
noncomputable def FX(c f:Str)(mo mv:Sl->M D):Sl->M (Fl×Sl):=λτ=>bnd (mv τ) λy=>bnd (mo τ) λx=>bnd (Hj c x) λr=>λμ=>if r.2.length<1000 then some ((.next,τ),μ.set r.1 (.ins c (B8 f y r.2))) else none
noncomputable def Iz(c:Str)(φ:List D->M D):List D->M D:=λds μ=>match φ (.ref μ.length::ds) (μ++[.ins c []]) with
 |some (.non,μ')=>some (.ref μ.length,μ')
 |_=>none
noncomputable def C6(c m:Str)(φ:List D->M D)(mo:Sl->M D)(ma:Sl->M (List D)):Sl->M D:=λτ=>bnd (mo τ) λx=>bnd (Hj c x) λr=>if r.2.lookup m=none then bnd (ma τ) λds=>φ (x::ds) else A5
structure Ini(P:Program)(w:World)(K:PySem.W.Frag)(mg:Str->Option Value)(base:Heap)(c:Str)(ps:List Str)(k:Nat)(φ:List D->M D):Prop where
 len:∀ds μ r,φ ds μ=some r->ds.length=ps.length
 ex:∃C f fd,ClsAt K c C/\mg c=some (.ref C)/\Mk K C f/\FnOk P w K mg base CX0 k f fd ps (spM ⟨K,w⟩ ps.length φ)/\Binds K fd ps []
structure Mth(P:Program)(w:World)(K:PySem.W.Frag)(mg:Str->Option Value)(base:Heap)(c m:Str)(ps:List Str)(k:Nat)(φ:List D->M D):Prop where
 len:∀ds μ r,φ ds μ=some r->ds.length=ps.length
 ex:∃C f fd,CA K c C/\WA K C m f/\FnOk P w K mg base CX0 k f fd ps (spM ⟨K,w⟩ ps.length φ)/\Binds K fd ps []
section
variable{X:Cx}{e o value:Expr}{es:List Expr}{pos p pos' apos:Pos}{c f:Str}{C:Addr}
theorem BB(ca:CA X.kw c C)(na:NoAttr X.kw C f)(he:RE X e m)(hb:attributeBase e f X.env (eval e X.env)=eval e X.env:=by rfl):RE X (.Attribute e f pos) (mUn (Bw c f) m):=RE.wk (Xp he.pe hb) λσ H Q h=>by
 obtain⟨ι,μ,τ,d,μ',R,S,ev,q⟩:=h;obtain⟨x,μ1,e1,e2⟩:=AI ev;obtain⟨r,μ2,e3,e4⟩:=AI e2;refine⟨ι,μ,τ,x,μ1,R,S,e1,λι1 H1 E1 R1 v1 i1=>?_⟩;obtain⟨hm,_,g1,rfl,C',dx,fs,g2,g3,g4,g5⟩:=GB R1 i1 e3;subst hm;cases ca.at_.eq g3;cases hl:r.2.lookup f with
 |none=>rw[hl] at e4;cases e4
 |some x0=>
  rw[hl] at e4;cases e4;obtain⟨v,hv,iv⟩:=g5.lookup hl;exact⟨_,C,dx,fs,v,rfl,g2,ca.cl,na,hv,q ι1 H1 E1 R1 v iv⟩
theorem G3(ca:CA X.kw c C)(na:NoAttr X.kw C f)(ho:RE X o mo)(hv:RE X value mv)(hs:swapsWith value (some (.Attribute o f pos')) pos.line X.env=pure false:=by rfl):RS X (.Assign [.Attribute o f pos'] value pos) (FX c f mo mv):=RS.wk (Xb ho.pe hv.pe hs) λDn σ H h=>by
 obtain⟨ι,μ,τ,fl,τ',μ',R,S,ev,q⟩:=h;obtain⟨y,μ1,e1,ee1⟩:=AI ev;obtain⟨x,μ2,e2,ee2⟩:=AI ee1;obtain⟨r,μ3,e3,ee3⟩:=AI ee2;refine⟨ι,μ,τ,y,μ1,R,S,e1,λι1 H1 E1 R1 v1 i1=>⟨ι1,μ1,τ,x,μ2,R1,S.ext E1,e2,λι2 H2 E2 R2 v2 i2=>?_⟩⟩;obtain⟨hm,_,g1,rfl,C',dx,fs,g2,g3,g4,g5⟩:=GB R2 i2 e3;subst hm;cases ca.at_.eq g3;have ee3:(if r.2.length<1000 then some ((Fl.next,τ),List.set μ3 r.1 (MO.ins c (B8 f y r.2))) else none)=some ((fl,τ'),μ'):=ee3;split at ee3
 ·rename_i hl;cases ee3;have hlt:r.1<List.length μ3:=(AAU.mp g1).1;obtain⟨E4,R4⟩:=R2.changed (m:=.ins c (B8 f y r.2)) (o:=.ins C dx (D5 f v1 fs)) hlt ⟨C,dx,_,rfl,ca.at_,g4,FVs.put (i1.ext E2) g5⟩;exact⟨_,C,dx,fs,rfl,g2,ca.cl,na,by rw[g5.len];exact hl,q ι2 _ ((E1.trans E2).trans E4) R4 σ (S.ext ((E1.trans E2).trans E4))⟩
 ·cases ee3
theorem Oq(F:Ini X.prog X.w X.kw X.mg X.base c ps k φ)(hr:Room j X.A)(ha:RA X (e::es) m)(hkj:k+1<=j:=by decide)(hg:Gl X c:=by rfl)(hdb:(c==("__debug__" : Str))=false:=by decide)
  (he:starEach (e::es) X.env=(false,eval e X.env)::starEach es X.env:=by exact As rfl) (hpl:(backTo pos (starEach es X.env)).any (·.1)=false:=by exact BW rfl):RE X (.Call (.Name c p) (e::es) [] pos) (AH (Iz c φ) m):=by
 obtain⟨len,C,f,fd,hc,hm,M,F,hb⟩:=F;refine RE.wk (VU M F (hr.mono hkj) hg hm hb .nil S0 ha.pe hdb he hpl) λ_ _ _ q=>Dt q λι μ μ' H ds vs d R i ev q=>?_;intro x dx hx hdx hne;unfold Iz at ev;split at ev
 ·rename_i μ1 hφ;cases ev;obtain⟨E1,R1⟩:=R.laid (.own x) hdx;have hx1:upd H dx (.own x) x=none:=by rw[A1 (Ne.symm hne)];exact hx
  obtain⟨ι',E2,R2,e0⟩:=R1.grown (m:=.ins c []) (o:=.ins C dx []) hx1 ⟨C,dx,[],rfl,hc,BI,rfl⟩;have hlen:=len _ _ _ hφ;refine⟨by rw[AAI,AAH,List.length_nil,Nat.add_zero,i.length,←hlen];rfl,ι',_,_,_,_,R2,.cons (v:=.ref x) (by unfold Is;exact⟨by simp,by rw[e0]⟩) (by rw[AAb];exact i.ext (E1.trans E2)),hφ,λι3 H3 E3 R3 v iv=>?_⟩;unfold Is at iv;refine⟨iv,q ι3 H3 ((E1.trans E2).trans E3) R3 (.ref x) ?_⟩;unfold Is;have hl:μ.length<(μ++[MO.ins c []]).length:=by simp
  exact⟨AAN hl E3.le,by rw[E3.agree _ hl,e0]⟩
 ·cases ev
theorem DF(F:Mth X.prog X.w X.kw X.mg X.base c mm ps k φ)(hr:Room j X.A)(ho:RE X o mo)(ha:RA X (e::es) ma)(hkj:k<=j:=by decide)
  (hst:starEach (e::es) X.env=(false,eval e X.env)::starEach es X.env:=by exact As rfl) (hpl:(backTo pos (starEach es X.env)).any (·.1)=false:=by exact BW rfl)
  (ht:eval (.Call (.Attribute o mm apos) (e::es) [] pos) X.env=(do
   let ov ←eval o X.env
   standAt apos.atName
   let (f,first) ←holding [ov] (getMethod ov mm pl)
   callWith pos f first (backTo pos (starEach (e::es) X.env)) (backToKw pos (keywordEach [] X.env))):=by rfl):RE X (.Call (.Attribute o mm apos) (e::es) [] pos) (C6 c mm φ mo ma):=by
 obtain⟨len,C,f,fd,ca,M,F,hb⟩:=F;refine RE.wk (VT (pl:=pl) ho.pe ca.cl M F (hr.mono hkj) hb .nil S0 ha.pe hst hpl ht) λσ H Q h=>?_;obtain⟨ι,μ,τ,d,μ',R,S,ev,q⟩:=h;obtain⟨x,μ1,e1,e2⟩:=AI ev;obtain⟨r,μ2,e3,e4⟩:=AI e2;refine⟨ι,μ,τ,x,μ1,R,S,e1,λι1 H1 E1 R1 v1 i1=>?_⟩;obtain⟨hm,ex,g1,rfl,C',dx,fs,g2,g3,g4,g5⟩:=GB R1 i1 e3;subst hm;cases ca.at_.eq g3;split at e4
 ·rename_i hl;obtain⟨ds,μ3,e5,e6⟩:=AI e4;refine⟨_,dx,fs,rfl,g2,g5.none hl,ι1,μ2,τ,ds,μ3,R1,S.ext E1,e5,λι2 H2 E2 R2 vs i2=>?_⟩;have hlen:=len _ _ _ e6;exact⟨by rw[AAI,AAH,List.length_nil,Nat.add_zero,i2.length,←hlen];rfl,ι2,_,_,_,_,R2,.cons (i1.ext E2) (by rw[AAb];exact i2),e6,λι3 H3 E3 R3 v iv=>q ι3 H3 ((E1.trans E2).trans E3) R3 v iv⟩
 ·cases e4
end
noncomputable def NAs(K:PySem.W.Frag)(C:Addr):List Str->Prop
 |[]=>True
 |x::r=>PySem.W.findIn K (.ref C) x=some none/\NAs K C r
theorem NAs.all:∀{fl:List Str},NAs K C fl->∀x∈fl,NoAttr K C x
 |[],_,_,h=>nomatch h
 |y::r,n,x,h=>by
  rcases AAJ.mp h with rfl|h
  ·exact n.1
  ·exact NAs.all n.2 x h
structure Dc(K:PySem.W.Frag)(c:Str)(fl:List Str)(C:Addr):Prop where
 ca:CA K c C
 na:∀x∈fl,NoAttr K C x
structure Di(K:PySem.W.Frag)(c qual:Str)(st:Stmt)(C f:Addr)(fd:FuncData):Prop where
 at_:ClsAt K c C
 mak:Mk K C f
 F:Fun K "__init__" qual st f fd
structure Dm(K:PySem.W.Frag)(c m qual:Str)(st:Stmt)(C f:Addr)(fd:FuncData):Prop where
 ca:CA K c C
 me:WA K C m f
 F:Fun K m qual st f fd
section
variable{K:PySem.W.Frag}{c qual:Str}{st:Stmt}{C f:Addr}{fl:List Str}{oc:Value}{od an:Option Addr}{osl:Array (Option Value)}{kV doc pm cdv ct:Value}
theorem Zs(a:PySem.W.nsIn K mainGlobals c=some (some (.ref C)))(pg:PySem.W.plainGet K C Str.empty=true)(hd:PySem.W.hasDictIn K C=true)(po:PySem.W.plainOver K C=true)(sa:PySem.W.findIn K (.ref C) "__setattr__" = some (some (.builtin "object.__setattr__")))(na:NAs K C fl):∃C,Dc K c fl C:=
 ⟨C,⟨a,⟨pg,hd,po,sa⟩⟩,na.all⟩
theorem Zq(a:PySem.W.nsIn K mainGlobals c=some (some (.ref C)))(mk:PySem.W.makesIn K C=true)(ini:PySem.W.findIn K (.ref C) "__init__" = some (some (.ref f)))(fn:PySem.W.isFn K (.ref f)=true)(kc:PySem.W.keepIn K (.ref C)=true)
  (l:K.lookup f=some ⟨oc,od,.func (PySem.W.fnOf "__init__" qual (EB st) (BY st) (AR st) .none kV doc pm an cdv ct),osl⟩) (cd:PySem.W.codeIn K cdv qual=true) (k:PySem.W.keepIn K (.ref f)=true):∃C f fd,Di K c qual st C f fd:=⟨C,f,_,a,⟨mk,ini,fn,kc⟩,N3 l cd k⟩
end
noncomputable def KU(st:Stmt)(j:Nat):Stmt:=match st with
 | .ClassDef _ _ _ body _ _ _ _ _ _ _=>body.getD j (.Pass ⟨0,0,0,0⟩)
 |_=>.Pass ⟨0,0,0,0⟩
end Mi
namespace Pk
open PySem PySem.Spec PyProof.Rows L2 Mi PySem.MeetsSeq PySem.SeqAt
mutual
def draws:D->Nat
 | .tup ks=>HJ ks+1
 |_=>1
def HJ:List D->Nat
 |[]=>0
 |k::ks=>draws k+HJ ks
end
mutual
def At(h:Heap):D->Value->Prop
 | .non,v=>v=.none
 | .int i,v=>∃t,v=.int i t
 | .str x,v=>∃t,v=.str x t
 | .tup ks,v=>∃a o items n,v=.ref a/\h.get? a=some o/\o.cls=.type "tuple" /\ o.data=.seq items n/\Ats h ks items.toList
 |_,_=>False
def Ats(h:Heap):List D->List Value->Prop
 |[],vs=>vs=[]
 |k::ks,vs=>∃v vs',vs=v::vs'/\At h k v/\Ats h ks vs'
end
theorem OF(a:At h .non v):v=.none:=by unfold At at a;exact a
theorem Lb(a:At h (.int i) v):∃t,v=.int i t:=by unfold At at a;exact a
theorem ED(a:At h (.str x) v):∃t,v=.str x t:=by unfold At at a;exact a
theorem GA(a:At h (.tup ks) v):∃a o items n,v=.ref a/\h.get? a=some o/\o.cls=.type "tuple" /\ o.data=.seq items n/\Ats h ks items.toList:=by unfold At at a;exact a
theorem At.shape:∀{k:D},At h k v->(k=.non/\v=.none)∨(∃i t,k=.int i/\v=.int i t)∨(∃x t,k=.str x/\v=.str x t)∨∃ks a,k=.tup ks/\v=.ref a
 | .non,a=>.inl ⟨rfl,OF a⟩
 | .int i,a=>.inr (.inl ⟨i,(Lb a).choose,rfl,(Lb a).choose_spec⟩)
 | .str i,a=>.inr (.inr (.inl ⟨i,(ED a).choose,rfl,(ED a).choose_spec⟩))
 | .tup ks,a=>.inr (.inr (.inr (by obtain⟨x,_,_,_,e,_⟩:=GA a;exact⟨ks,x,rfl,e⟩)))
 | .bl _,a | .ty _,a | .scr _,a | .lst _,a | .ref _,a=>by unfold At at a;exact a.elim
mutual
theorem At.inj:∀{k j:D} {v:Value},At h k v->At h j v->k=j
 | .tup ks,j,v,a,b=>by
  rcases b.shape with ⟨rfl,e⟩|⟨i,t,rfl,e⟩|⟨x,t,rfl,e⟩|⟨js,y,rfl,e⟩
  ·obtain⟨_,_,_,_,e2,_⟩:=GA a;rw[e] at e2;cases e2
  ·obtain⟨_,_,_,_,e2,_⟩:=GA a;rw[e] at e2;cases e2
  ·obtain⟨_,_,_,_,e2,_⟩:=GA a;rw[e] at e2;cases e2
  ·obtain⟨x,o,items,n,rfl,h1,_,h3,h4⟩:=GA a;obtain⟨x',o',items',n',e',h1',_,h3',h4'⟩:=GA b;cases e';rw[h1] at h1';cases h1';rw[h3] at h3';cases h3';rw[Ats.inj h4 h4']
 | .non,j,v,a,b=>by
  cases OF a;rcases b.shape with ⟨rfl,e⟩|⟨i,t,rfl,e⟩|⟨x,t,rfl,e⟩|⟨js,y,rfl,e⟩<;>first|rfl|cases e
 | .int i,j,v,a,b=>by
  obtain⟨t,rfl⟩:=Lb a;rcases b.shape with ⟨rfl,e⟩|⟨i,t,rfl,e⟩|⟨x,t,rfl,e⟩|⟨js,y,rfl,e⟩
  ·cases e
  ·injection e with e1 _;rw[e1]
  ·cases e
  ·cases e
 | .str i,j,v,a,b=>by
  obtain⟨t,rfl⟩:=ED a;rcases b.shape with ⟨rfl,e⟩|⟨i,t,rfl,e⟩|⟨x,t,rfl,e⟩|⟨js,y,rfl,e⟩
  ·cases e
  ·cases e
  ·injection e with e1 _;rw[e1]
  ·cases e
 | .bl _,_,_,a,_ | .ty _,_,_,a,_ | .scr _,_,_,a,_ | .lst _,_,_,a,_ | .ref _,_,_,a,_=>by unfold At at a;exact a.elim
theorem Ats.inj:∀{ks js:List D} {vs:List Value},Ats h ks vs->Ats h js vs->ks=js
 |[],[],_,_,_=>rfl
 |[],_::_,vs,a,b=>by
  unfold Ats at a b;subst a;obtain⟨_,_,e,_⟩:=b;cases e
 |_::_,[],vs,a,b=>by
  unfold Ats at a b;subst b;obtain⟨_,_,e,_⟩:=a;cases e
 |k::ks,j::js,vs,a,b=>by
  unfold Ats at a b;obtain⟨v,vs',rfl,a1,a2⟩:=a;obtain⟨v',vs'',e,b1,b2⟩:=b;cases e;rw[At.inj a1 b1,Ats.inj a2 b2]
end
mutual
theorem At.kept:∀{k:D} {v:Value},At h k v->(∀a o items n,h.get? a=some o->o.cls=.type "tuple" -> o.data=.seq items n->h'.get? a=some o)->At h' k v
 | .non,v,a,_ | .int i,v,a,_ | .str i,v,a,_=>by unfold At at a ⊢;exact a
 | .tup ks,v,a,kp=>by
  unfold At at a ⊢;obtain⟨x,o,items,n,rfl,h1,h2,h3,h4⟩:=a;exact⟨x,o,items,n,rfl,kp x o items n h1 h2 h3,h2,h3,Ats.kept h4 kp⟩
 | .bl _,_,a,_ | .ty _,_,a,_ | .scr _,_,a,_ | .lst _,_,a,_ | .ref _,_,a,_=>by unfold At at a;exact a.elim
theorem Ats.kept:∀{ks:List D} {vs:List Value},Ats h ks vs->(∀a o items n,h.get? a=some o->o.cls=.type "tuple" -> o.data=.seq items n->h'.get? a=some o)->Ats h' ks vs
 |[],vs,a,_=>by unfold Ats at a ⊢;exact a
 |k::ks,vs,a,kp=>by
  unfold Ats at a ⊢;obtain⟨v,vs',rfl,a1,a2⟩:=a;exact⟨v,vs',rfl,At.kept a1 kp,Ats.kept a2 kp⟩
end
section
variable{prog:Program}{w:World}
theorem Qe(hu:A.units<cLine)(q:Q 0xFCA86420 { s with toks:=s.toks+1 }):wpAny (model prog w) A (pyHash .none) Q E s:=by
 show wpAny _ _ (pyHashByItsType .none) Q E s;refine PySem.W.pyHash_slot (T := "NoneType") rfl F.slot_NoneType_hash F.entry_NoneType_hash (F.args_NoneType_hash_1 _) (beq_builtin_none _) (.inr hu) (AAA (AAB ?_));refine AAA (wpAny_mkInt (AAB ⟨0xFCA86420,_,rfl,?_⟩));exact q
mutual
theorem At.hash:∀{k:D} {v:Value} {A:Around} {E:Value->Shared->Prop} {s:Shared} {Q:Int->Shared->Prop},A.units+DP k<cLine->At s.heap k v->Q (hD w k) { s with toks:=s.toks+draws k }->wpAny (model prog w) A (pyHash v) Q E s
 | .non,v,A,E,s,Q,hu,hk,q=>by
  unfold At at hk;subst hk;exact Qe (by omega) q
 | .int i,v,A,E,s,Q,hu,hk,q=>by
  unfold At at hk;obtain⟨t,rfl⟩:=hk;exact wpAny_pyHash_int q
 | .str i,v,A,E,s,Q,hu,hk,q=>by
  unfold At at hk;obtain⟨t,rfl⟩:=hk;exact wpAny_pyHash_str q
 | .tup ks,v,A,E,s,Q,hu,hk,q=>by
  unfold At at hk;obtain⟨a,o,items,n,rfl,h1,h2,h3,h4⟩:=hk;have hu':A.units+(Bu ks+1)<cLine:=hu;refine Nk.hash_tup (hs:=hDs w ks) (d:=HJ ks) (by omega) h1 h2 h3 (λP p=>?_) q;exact Ats.hash (A:=A.in1) (by show A.units+1+Bu ks<cLine;omega) h4 (acc:=#[]) (by simpa using p)
 | .bl _,_,_,_,_,_,_,a,_ | .ty _,_,_,_,_,_,_,a,_ | .scr _,_,_,_,_,_,_,a,_ | .lst _,_,_,_,_,_,_,a,_ | .ref _,_,_,_,_,_,_,a,_=>by unfold At at a;exact a.elim
theorem Ats.hash:∀{ks:List D} {vs:List Value} {A:Around} {E:Value->Shared->Prop} {s:Shared} {acc:Array Int} {P:Array Int->Shared->Prop},A.units+Bu ks<cLine->Ats s.heap ks vs->P (acc++(hDs w ks).toArray) { s with toks:=s.toks+HJ ks }->
  wpAny (model prog w) A (forIn vs acc λx r=>do let y ←pyHash x;pure (ForInStep.yield (r.push y))) P E s
 |[],vs,A,E,s,acc,P,hu,hk,q=>by
  unfold Ats at hk;subst hk;rw[List.forIn_nil];exact AAB (by simpa[hDs,HJ] using q)
 |k::ks,vs,A,E,s,acc,P,hu,hk,q=>by
  unfold Ats at hk;obtain⟨v,vs',rfl,a1,a2⟩:=hk;rw[List.forIn_cons];have hu':A.units+max (DP k) (Bu ks)<cLine:=hu;refine AAA (AAA (At.hash (by omega) a1 (AAB ?_)));refine Ats.hash (by omega) (s:={ s with toks:=s.toks+draws k }) a2 ?_;simpa[hDs,HJ,Nat.add_assoc] using q
end
end
theorem Ats.len:∀{ks:List D} {vs:List Value},Ats h ks vs->vs.length=ks.length
 |[],_,a=>by unfold Ats at a;subst a;rfl
 |k::ks,_,a=>by
  unfold Ats at a;obtain⟨v,vs',rfl,_,a2⟩:=a;simp[Ats.len a2]
noncomputable def JF(ks js:List D)(j:Nat):Bool:=decide (ks[j]?=js[j]?)
theorem QU:((List.range (min ks.length js.length)).all (JF ks js)&&ks.length==js.length)=decide (D.tup ks=D.tup js):=by
 by_cases e:ks=js
 ·subst e;rw[AAP rfl,beq_self_eq_true,Bool.and_true,List.all_eq_true];intro j _;exact AAP rfl
 ·rw[AAO (λz=>e (D.tup.inj z))];by_cases hl:ks.length=js.length
  ·rw[beq_iff_eq.mpr hl,Bool.and_true,←Bool.not_eq_true];intro z;rw[List.all_eq_true] at z;refine e (List.ext_getElem? λj=>?_);by_cases hj:j<ks.length
   ·exact of_decide_eq_true (z j (List.mem_range.mpr (by omega)))
   ·rw[List.getElem?_eq_none (by omega),List.getElem?_eq_none (by omega)]
  ·rw[AAg.mpr hl,Bool.and_false]
theorem PD(a:At h (.tup ks) v):∃x items,v=.ref x/\h.IsTuple x items:=by
 unfold At at a;obtain⟨x,o,items,n,rfl,h1,h2,h3,_⟩:=a;exact⟨x,items,rfl,o,h1,h2,n,h3⟩
mutual
theorem At.eq:∀{k j:D} {u v:Value} {A:Around} {s:Shared},A.units+DP k<cLine->At s.heap k u->At s.heap j v->EqAt A s u v (decide (k=j))
 | .non,j,u,v,A,s,hu,a,b=>by
  have hu':A.units<cLine:=AAt (Nat.le_add_right _ _) hu;unfold At at a;subst a;cases j with
  |non=>unfold At at b;subst b;rw[AAP rfl];exact EqAt.same _
  |int i=>unfold At at b;obtain⟨t,rfl⟩:=b;rw[AAO (by intro z;cases z)];exact EqAt.none_int i t
  |str i=>unfold At at b;obtain⟨t,rfl⟩:=b;rw[AAO (by intro z;cases z)];exact EqAt.none_str i t
  |tup ks=>obtain⟨x,its,rfl,h⟩:=PD b;rw[AAO (by intro z;cases z)];exact EqAt.none_tuple h hu'
  |_=>unfold At at b;exact b.elim
 | .int i,j,u,v,A,s,hu,a,b=>by
  have hu':A.units<cLine:=AAt (Nat.le_add_right _ _) hu;unfold At at a;obtain⟨t,rfl⟩:=a;cases j with
  |non=>unfold At at b;subst b;rw[AAO (by intro z;cases z)];exact EqAt.int_none i t
  |int j=>
   unfold At at b;obtain⟨t',rfl⟩:=b;have:decide (D.int i=D.int j)=(i==j):=by
    by_cases e:i=j
    ·subst e;simp
    ·rw[AAO (λz=>e (D.int.inj z)),AAg.mpr e]
   rw[this];exact EqAt.int_int i t j t'
  |str j=>unfold At at b;obtain⟨t',rfl⟩:=b;rw[AAO (by intro z;cases z)];exact EqAt.int_str i t j t'
  |tup ks=>obtain⟨x,its,rfl,h⟩:=PD b;rw[AAO (by intro z;cases z)];exact EqAt.int_tuple i t h hu'
  |_=>unfold At at b;exact b.elim
 | .str i,j,u,v,A,s,hu,a,b=>by
  have hu':A.units<cLine:=AAt (Nat.le_add_right _ _) hu;unfold At at a;obtain⟨t,rfl⟩:=a;cases j with
  |non=>unfold At at b;subst b;rw[AAO (by intro z;cases z)];exact EqAt.str_none i t
  |str j=>
   unfold At at b;obtain⟨t',rfl⟩:=b;have:decide (D.str i=D.str j)=(i==j):=by
    by_cases e:i=j
    ·subst e;simp
    ·rw[AAO (λz=>e (D.str.inj z)),AAg.mpr e]
   rw[this];exact EqAt.str_str i t j t'
  |int j=>unfold At at b;obtain⟨t',rfl⟩:=b;rw[AAO (by intro z;cases z)];exact EqAt.str_int i t j t'
  |tup ks=>obtain⟨x,its,rfl,h⟩:=PD b;rw[AAO (by intro z;cases z)];exact EqAt.str_tuple i t h hu'
  |_=>unfold At at b;exact b.elim
 | .tup ks,j,u,v,A,s,hu,a,b=>by
  have hu0:A.units<cLine:=AAt (Nat.le_add_right _ _) hu;obtain⟨x0,its0,e0,h0⟩:=PD a;cases j with
  |non=>unfold At at b;subst b e0;rw[AAO (by intro z;cases z)];exact EqAt.tuple_none h0 hu0
  |int j=>unfold At at b;obtain⟨t',rfl⟩:=b;subst e0;rw[AAO (by intro z;cases z)];exact EqAt.tuple_int j t' h0 hu0
  |str j=>unfold At at b;obtain⟨t',rfl⟩:=b;subst e0;rw[AAO (by intro z;cases z)];exact EqAt.tuple_str j t' h0 hu0
  |tup js=>
   have a':=a;have b':=b;unfold At at a b;obtain⟨x,o,items,n,rfl,h1,h2,h3,h4⟩:=a;obtain⟨y,o',items',n',rfl,h1',h2',h3',h4'⟩:=b;have hu':A.units+(Bu ks+1)<cLine:=hu;by_cases e:x=y
   ·subst e;rw[At.inj a' b',AAP rfl];exact EqAt.same _
   ·rw[←QU];have l1:=h4.len;have l2:=h4'.len;rw[Array.length_toList] at l1 l2;rw[←l1,←l2];refine EqAt.of_refs e (RcAt.tuples ⟨o,h1,h2,n,h3⟩ ⟨o',h1',h2',n',h3'⟩ (by omega) λj g1 g2=>?_);have:=Ats.eqs (A:=A.in1) (by show A.units+1+Bu ks<cLine;omega) h4 h4' j (by simpa using g1) (by simpa using g2);simpa using this
  |_=>unfold At at b;exact b.elim
 | .bl _,_,_,_,_,_,_,a,_ | .ty _,_,_,_,_,_,_,a,_ | .scr _,_,_,_,_,_,_,a,_ | .lst _,_,_,_,_,_,_,a,_ | .ref _,_,_,_,_,_,_,a,_=>by unfold At at a;exact a.elim
theorem Ats.eqs:∀{ks js:List D} {us vs:List Value} {A:Around} {s:Shared},A.units+Bu ks<cLine->Ats s.heap ks us->Ats s.heap js vs->∀(j:Nat) (h1:j<us.length) (h2:j<vs.length),EqAt A s us[j] vs[j] (JF ks js j)
 |[],js,us,vs,A,s,hu,a,b,j,h1,h2=>by unfold Ats at a;subst a;simp at h1
 |k::ks,[],us,vs,A,s,hu,a,b,j,h1,h2=>by unfold Ats at b;subst b;simp at h2
 |k::ks,l::js,us,vs,A,s,hu,a,b,j,h1,h2=>by
  unfold Ats at a b;obtain⟨u,us',rfl,a1,a2⟩:=a;obtain⟨v,vs',rfl,b1,b2⟩:=b;have hu':A.units+max (DP k) (Bu ks)<cLine:=hu;cases j with
  |zero=>
   have:=At.eq (k:=k) (j:=l) (A:=A) (by omega) a1 b1;have e:JF (k::ks) (l::js) 0=decide (k=l):=by unfold JF;simp
   rw[e];exact this
  |succ j=>
   have:=Ats.eqs (A:=A) (by omega) a2 b2 j (by simpa using h1) (by simpa using h2);have e:JF (k::ks) (l::js) (j+1)=JF ks js j:=by unfold JF;simp
   rw[e];simpa using this
end
section
variable{prog:Program}{w:World}
theorem At.quiet:∀(d:Nat) {k:D} {v:Value} {A:Around} {E:Value->Shared->Prop} {s:Shared} {Q:Bool->Shared->Prop},DP k<=d->At s.heap k v->Q true s->wpAny (model prog w) A (eqIsQuiet d v) Q E s
 |d,.non,v,A,E,s,Q,hd,a,q=>by
  cases OF a;unfold eqIsQuiet;exact AAB q
 |d,.int i,v,A,E,s,Q,hd,a,q=>by
  obtain⟨t,rfl⟩:=Lb a;unfold eqIsQuiet;exact AAB q
 |d,.str i,v,A,E,s,Q,hd,a,q=>by
  obtain⟨t,rfl⟩:=ED a;unfold eqIsQuiet;exact AAB q
 |0,.tup ks,v,A,E,s,Q,hd,a,q=>by
  have hd':Bu ks+1<=0:=hd;omega
 |d'+1,.tup ks,v,A,E,s,Q,hd,a,q=>by
  have hd':Bu ks+1<=d'+1:=hd;obtain⟨x,o,items,n,rfl,h1,h2,h3,h4⟩:=GA a;have hT:s.TypeIs (.ref x) "tuple" := ⟨o,h1,h2⟩;unfold eqIsQuiet;refine AAA (wpAny_specialOf hT PySem.F.slot_tuple_eq.lookup ?_);show wpAny _ _ (isInstance (.ref x) (.type "tuple") >>= _) _ _ s;refine AAA (AA0 hT isSubtype_tuple_tuple ?_);simp only[Bool.not_true,Bool.false_eq_true,if_false];refine AAA (AAy h1 h3 (AAA ?_));show wpAny _ _ (forIn items _ _) _ _ s;rw[←Array.forIn_toList];refine wpAny_forIn_list _ (λrest r s'=>r.1=none/\s'=s/\∃ks',Bu ks'<=d'/\Ats s.heap ks' rest) _ ?_ ?_ _ _ ⟨rfl,rfl,ks,by omega,h4⟩
  ·rintro y rest r s' ⟨hr,rfl,ks',hk,at'⟩;cases ks' with
   |nil=>unfold Ats at at';cases at'
   |cons k' ks'=>
    unfold Ats at at';obtain⟨_,_,e,a1,a2⟩:=at';cases e;have hk':max (DP k') (Bu ks')<=d':=hk;refine AAA (At.quiet d' (k:=k') (by omega) a1 ?_);simp only[Bool.not_true,Bool.false_eq_true,if_false];exact AAB ⟨rfl,rfl,ks',by omega,a2⟩
  ·rintro⟨r1,r2⟩ s' ⟨hr,rfl,_⟩;simp only at hr;subst hr;exact AAB q
 |_,.bl _,_,_,_,_,_,_,a,_|_,.ty _,_,_,_,_,_,_,a,_|_,.scr _,_,_,_,_,_,_,a,_|_,.lst _,_,_,_,_,_,_,a,_|_,.ref _,_,_,_,_,_,_,a,_=>by unfold At at a;exact a.elim
end
noncomputable def kind(prog:Program)(w:World):HeapKind prog w D where
 is:=λh k a=>At h k (.ref a)/\DP k<=8
 hash:=hD w
 draws:=draws
 room:=λA=>A.units+8<cLine
 inj:=λhx hy=>hx.1.inj hy.1
 keeps:=λ{h h' k a d o es ep} x ho hd hs=>⟨x.1.kept λb o' items n e _ e3=>by
  have hne:b≠d:=by
   intro z;subst z;rw[ho] at e;cases e;rw[hd] at e3;cases e3
  exact(hs.2 b hne).trans e,x.2⟩
 pyHash:=λhu hk h=>At.hash (by have:=hk.2;omega) hk.1 h
 eqBool:=λ{A E s x y a b Q} hu hx hy h=>At.eq (by have:=hx.2;omega) hx.1 hy.1 _ _ E Q h
 quiet:=λhk h=>At.quiet 8 hk.2 hk.1 h
section
variable{X:Cx}{pins:List (Addr×Obj)}{σ:L2.St}{H:Hp}{s:Shared}{ι:Nat->Addr}{k:Nat}
mutual
theorem Ko(I:Inv X pins σ H s):∀{d:D} {v:V} {u:Value},Kz d=true->Is X.kw ι k H d v->RelV v u->At s.heap d u
 | .non,v,u,_,i,r=>by unfold Is at i;subst i;unfold At;exact r
 | .int _,v,u,_,i,r=>by unfold Is at i;subst i;unfold At;exact r
 | .str _,v,u,_,i,r=>by unfold Is at i;subst i;unfold At;exact r
 | .tup ds,v,u,z,i,r=>by
  unfold Is at i;obtain⟨p,vs,rfl,h1,h2⟩:=i;cases r;obtain⟨its,rv,⟨o,g1,g2,n,g3⟩,_⟩:=I.tuple h1;unfold At;exact⟨p,o,_,n,rfl,g1,g2,g3,HM I z h2 rv⟩
 | .bl _,_,_,z,_,_ | .ty _,_,_,z,_,_ | .scr _,_,_,z,_,_ | .lst _,_,_,z,_,_ | .ref _,_,_,z,_,_=>by cases z
theorem HM(I:Inv X pins σ H s):∀{ds:List D} {vs:List V} {us:List Value},KzL ds=true->Mi.IsL X.kw ι k H ds vs->Vals vs us->Ats s.heap ds us
 |[],vs,us,_,i,r=>by unfold Mi.IsL at i;subst i;cases r;unfold Ats;rfl
 |d::ds,vs,us,z,i,r=>by
  unfold Mi.IsL at i;obtain⟨v,vs',rfl,i1,i2⟩:=i;cases r with
  |cons e t=>
   unfold KzL at z;rw[Bool.and_eq_true] at z;unfold Ats;exact⟨_,_,rfl,Ko I z.1 i1 e,HM I z.2 i2 t⟩
end
theorem isP(I:Inv X pins σ H s)(z:Kz d=true)(hd:DP d<=8)(i:Is X.kw ι k H d (.ref a)):(kind X.prog X.w).is s.heap d a:=⟨Ko I z i rfl,hd⟩
end
noncomputable def EY(l:List (D×Addr×V))(us:List Value):List (D×Addr×Value):=(l.zip us).map λx=>(x.1.1,x.1.2.1,x.2)
theorem OP(h:l.length=us.length):(EY l us).map (·.1)=l.map (·.1):=by
 unfold EY;rw[List.map_map];have:((λy:D×Addr×Value=>y.1) ∘ λx:(D×Addr×V)×Value=>(x.1.1,x.1.2.1,x.2))=(λy:D×Addr×V=>y.1) ∘ Prod.fst:=rfl;rw[this,←List.map_map,List.map_fst_zip (by omega)]
theorem Gi(h:l.length=us.length):(atKey (EY l us) c).isSome=l.any λy=>decide (y.1=c):=by
 have e:(atKey (EY l us) c).isSome=((EY l us).map (·.1)).any λy=>decide (y=c):=by
  unfold atKey;rw[Option.isSome_map,List.any_map];rw[Bool.eq_iff_iff,List.find?_isSome,List.any_eq_true];rfl
 rw[e,OP h,List.any_map];rfl
theorem Zt(hk:HOk P w H h)(e:H p=some (ER w' p l)):∃(us:List Value) (o:Obj) (es:Array DictEntry) (ep:Nat),Vals (l.map (·.2.2)) us/\h.get? p=some o/\o.ExactDict/\o.data=.dict es ep /\
  es.toList=(l.zip us).map (λx=>{ key:=.ref x.1.2.1,hash:=hD w' x.1.1,val:=x.2 })/\(l.map (·.1)).Nodup/\l.length<=sizeLine/\(p==sysModules)=false:=(hk p _ e).1
theorem Wj (x:∃(us:List Value) (o:Obj) (es:Array DictEntry) (ep:Nat),Vals (l.map (·.2.2)) us/\h.get? p=some o/\o.ExactDict/\o.data=.dict es ep /\
  es.toList=(l.zip us).map (λx=>{ key:=.ref x.1.2.1,hash:=hD w' x.1.1,val:=x.2 })/\(l.map (·.1)).Nodup/\l.length<=sizeLine/\(p==sysModules)=false):ObjOk P w H h p (ER w' p l):=by
 refine⟨x,?_,?_⟩
 ·obtain⟨us,o,es,ep,_,h1,_⟩:=x;exact⟨o,h1⟩
 ·rintro h1 h2 ⟨us,o,es,ep,a1,a2,a3⟩ k;exact⟨us,o,es,ep,a1,k o a2,a3⟩
theorem Zu(hl:l.length=us.length)(h1:h.get? p=some o)(h2:o.ExactDict)(h3:o.data=.dict es ep)
  (h4:es.toList=(l.zip us).map (λx=>{ key:=.ref x.1.2.1,hash:=hD w x.1.1,val:=x.2 })) (h5:(l.map (·.1)).Nodup) (hi:∀y∈l,(kind P w).is h y.1 y.2.1):h.DictOfH (kind P w) p (EY l us):=by
 refine⟨o,es,ep,h1,h2,h3,?_,?_,?_⟩
 ·rw[h4];unfold EY;rw[List.map_map];rfl
 ·intro x hx;unfold EY at hx;obtain⟨y,hy,rfl⟩:=AAM.mp hx;exact hi y.1 (List.of_mem_zip (a:=y.1) (b:=y.2) hy).1
 ·rw[OP hl];exact h5
end Pk
namespace Mi
open PySem L2 Pk
section
variable{K:KW}{ι:Nat->Addr}{k:Nat}{H:Hp}
theorem PVs.keys:∀{l:List (D×D)} {r:List (D×Addr×V)},PVs K ι k H l r->r.map (·.1)=l.map (·.1)
 |[],_,h=>by cases h;rfl
 |(y,d)::l,_,h=>by
  obtain⟨a,v,r',rfl,_,_,h3⟩:=h;rw[AAX,AAX,PVs.keys h3]
theorem PVs.at:∀{l:List (D×D)} {r:List (D×Addr×V)},PVs K ι k H l r->∀y∈r,Kz y.1=true/\DP y.1<=8/\Is K ι k H y.1 (.ref y.2.1)
 |[],_,h,y,hy=>by cases h;cases hy
 |(z,d)::l,_,h,y,hy=>by
  obtain⟨a,v,r',rfl,h1,_,h3⟩:=h;rcases AAJ.mp hy with rfl|hy
  ·exact h1
  ·exact PVs.at h3 y hy
theorem PVs.app(h1:Kz c=true/\DP c<=8/\Is K ι k H c (.ref a))(h2:Is K ι k H d v):∀{l:List (D×D)} {r:List (D×Addr×V)},PVs K ι k H l r->PVs K ι k H (l++[(c,d)]) (r++[(c,a,v)])
 |[],_,h=>by cases h;exact⟨a,v,[],rfl,h1,h2,rfl⟩
 |(z,e)::l,_,h=>by
  obtain⟨b,w,r',rfl,g1,g2,g3⟩:=h;exact⟨b,w,_,rfl,g1,g2,PVs.app h1 h2 g3⟩
noncomputable def IU(l:List (D×D))(c:D):Option D:=(l.find? λz=>decide (z.1=c)).map (·.2)
theorem PVs.val:∀{l:List (D×D)} {r:List (D×Addr×V)} {d:D} {us:List Value},PVs K ι k H l r->Vals (r.map (·.2.2)) us->IU l c=some d->∃v u p,Is K ι k H d v/\RelV v u/\atKey (EY r us) c=some (p,u)
 |[],_,d,us,h,_,e=>by cases e
 |(z,x)::l,_,d,us,h,vs,e=>by
  obtain⟨b,v,r',rfl,g1,g2,g3⟩:=h;rw[AAX] at vs;cases vs with
  |@cons _ u _ us' rv t=>
   by_cases hz:z=c
   ·subst hz;have:d=x:=by simpa[IU] using e.symm
    subst this;exact⟨v,u,b,g2,rv,by simp[atKey,EY]⟩
   ·have e':IU l c=some d:=by simpa[IU,hz] using e
    obtain⟨v',u',p,i1,i2,i3⟩:=PVs.val g3 t e';refine⟨v',u',p,i1,i2,?_⟩;simpa[atKey,EY,hz] using i3
end
theorem Kq{α β:Type}{l:List (D×α)}{r:List (D×β)}(h:r.map (·.1)=l.map (·.1))(c:D):(r.any λy=>decide (y.1=c))=l.any λy=>decide (y.1=c):=by
 have e1:(r.any λy=>decide (y.1=c))=(r.map (·.1)).any λy=>decide (y=c):=by rw[List.any_map];rfl
 have e2:(l.any λy=>decide (y.1=c))=(l.map (·.1)).any λy=>decide (y=c):=by rw[List.any_map];rfl
 rw[e1,e2,h]
noncomputable def JY:D->M (Nat×List (D×D))
 | .ref n=>λμ=>match μ[n]? with
  |some (.dP l)=>some ((n,l),μ)
  |_=>none
 |_=>A5
theorem HN(R:RelH K ι μ H)(i:Is K ι μ.length H d v)(e:JY d μ=some (r,μ')):μ'=μ/\d=.ref r.1/\μ[r.1]?=some (.dP r.2)/\v=.ref (ι r.1)/\∃kvs,H (ι r.1)=some (ER K.w (ι r.1) kvs)/\PVs K ι μ.length H r.2 kvs:=by
 cases d with
 |ref n=>
  unfold JY at e;dsimp only at e;split at e
  ·rename_i l hq;cases e;unfold Is at i;obtain⟨u,h1,kvs,rfl,h2⟩:=R.obj n _ hq;exact⟨rfl,rfl,hq,i.2,kvs,h1,h2⟩
  ·cases e
 |_=>cases e
section
variable{X:Cx}{e o i:Expr}{pos pos':Pos}
noncomputable def Oy:Sl->M D:=λ_ μ=>some (.ref μ.length,μ++[.dP []])
theorem Sx:PE X (.Dict [] [] pos) (λ_ H Q=>∀p,H p=none->Q (.ref p) (upd H p (ER w p []))):=λpins s σ H Q I h=>
 wpAny_Dict_empty ⟨.ref s.heap.objs.size,_,I.laid (a:=s.heap.objs.size) (o:=ER w s.heap.objs.size []) (t':=s.toks) (λ_ _ q=>AAC _ q) (AAF _)
  (Wj ⟨[],_,#[],0,.nil,AAD _ rfl,⟨rfl,rfl,rfl⟩,rfl,rfl,List.nodup_nil,AAm _,AAg.mpr (Ne.symm (AAf I.big))⟩),rfl,h _ (I.hok.fresh (AAF _))⟩
theorem MG:RE X (.Dict [] [] pos) Oy:=RE.wk (Sx (w:=X.w)) λσ H Q h=>by
 obtain⟨ι,μ,τ,d,μ',R,S,e,q⟩:=h;cases e;intro p hp;obtain⟨ι',E1,R1,e0⟩:=R.grown (m:=.dP []) (o:=ER X.w p []) hp ⟨[],rfl,rfl⟩;exact q ι' _ E1 R1 _ (by unfold Is;exact⟨by simp,by rw[e0]⟩)
theorem KC(hr:Room k X.A):(Pk.kind X.prog X.w).room X.A.in1:=by
 have:=hr.units;show X.A.units+1+8<cLine;omega
theorem JP(I:Inv X pins σ H s)(h:H p=some (ER X.w p l))(hi:∀y∈l,Kz y.1=true/\DP y.1<=8/\Is X.kw ι k H y.1 (.ref y.2.1)):
  ∃us,l.length=us.length/\Vals (l.map (·.2.2)) us/\s.heap.DictOfH (Pk.kind X.prog X.w) p (EY l us)/\(l.map (·.1)).Nodup/\l.length<=sizeLine/\(p==sysModules)=false:=by
 obtain⟨us,o,es,ep,h0,h1,h2,h3,h4,h5,h6,h7⟩:=Zt I.hok h;have hl:l.length=us.length:=by have:=h0.length;simpa using this
 exact⟨us,hl,h0,Zu hl h1 h2 h3 h4 h5 λy hy=>isP I (hi y hy).1 (hi y hy).2.1 (hi y hy).2.2,h5,h6,h7⟩
noncomputable def F1(d:D):Option D:=match d with
 | .tup ds=>if Kz (.tup ds)=true/\DP (.tup ds)<=8 then some (.tup ds) else none
 |_=>none
theorem G9(h:F1 d=some c):c=d/\(∃ds,d=.tup ds)/\Kz d=true/\DP d<=8:=by
 unfold F1 at h;split at h
 ·split at h
  ·rename_i ds z;cases h;exact⟨rfl,⟨ds,rfl⟩,z⟩
  ·cases h
 ·cases h
noncomputable def Si(neg:Bool)(y d:D):M D:=bnd (JY d) λr=>λμ=>(F1 y).map λc=>(.bl (if neg then !(r.2.any λz=>decide (z.1=c)) else r.2.any λz=>decide (z.1=c)),μ)
theorem MQ{k:Nat}(hr:Room k X.A):OpR X (compareOp .NotIn) (rM X.kw (Si true)):=λpins s σ H x y v u Q I rx ry h=>by
 obtain⟨ι,μ,a,b,d,μ',R,ia,ib,e,q⟩:=h;obtain⟨r,μ1,e1,e2⟩:=AI e;obtain⟨hm,_,g1,rfl,kvs,g2,g3⟩:=HN R ib e1;subst hm;cases hc:F1 a with
 |none=>rw[hc] at e2;cases e2
 |some c=>
  rw[hc] at e2;cases e2;obtain⟨rfl,⟨ds,rfl⟩,kz,kd⟩:=G9 hc;have ia':=ia;unfold Is at ia';obtain⟨pa,_,rfl,_⟩:=ia';cases rx;cases ry;obtain⟨us,hl,_,dd,_,_,lo⟩:=JP I g2 g3.at;refine PyProof.Rows.wpAny_notIn_heap (KC hr) (isP I kz kd ia) lo dd ?_;rw[Pk.Gi hl,Kq g3.keys];exact⟨.bl _,H,I.tok _,rfl,q ι H R.ext0 R _ (ofB _)⟩
noncomputable def ML(d y:D):M D:=bnd (JY d) λr=>λμ=>((F1 y).bind (IU r.2)).map λv=>(v,μ)
theorem Op(hr:Room k X.A)(ho:RE X o mo)(hi:RE X i mi)(hs:Qu i:=by exact λ_ _=>rfl):RE X (.Subscript o i pos) (mOp ML mo mi):=by
 refine RE.wk (t:=λσ H Q=>tE X.kw mo σ H λx H1=>tE X.kw mi σ H1 λy H2=>∃(p:Addr) (l:List (D×D)×List (D×Addr×V)) (c d:D) (a:Addr) (ι:Nat->Addr) (k:Nat),x=.ref p/\y=.ref a/\H2 p=some (ER X.w p l.2)/\PVs X.kw ι k H2 l.1 l.2/\Kz c=true/\DP c<=8/\Is X.kw ι k H2 c (.ref a)/\IU l.1 c=some d/\∀v,Is X.kw ι k H2 d v->Q v H2) (λpins s σ H Q I h=>?_) λσ H Q h=>?_
 ·refine K8 PySem.F.slot_dict_getitem.lookup hs (thn (ho.pe pins s σ H _ I h) λu s1 ⟨x,H1,I1,rx,q1⟩=>thn (hi.pe pins s1 σ H1 _ I1 q1) λiv s2 ⟨y,H2,I2,ry,p,l,c,d,a,ι,k,ex,ey,e,pv,kz,kd,ic,vd,q2⟩=>?_);subst ex ey;cases rx;cases ry;obtain⟨us,hl,hvs,dd,_,_,lo⟩:=JP I2 e pv.at;obtain⟨v,uu,pp,iv,rv,at_⟩:=pv.val hvs vd;refine⟨dd.typeIs,wpAny_getItem_heap (KC hr) (isP I2 kz kd ic) dd at_ ?_⟩;exact⟨v,H2,I2.tok _,rv,q2 v iv⟩
 ·obtain⟨ι,μ,τ,d,μ',R,S,e,q⟩:=h;obtain⟨x,μ1,e1,ee1⟩:=AI e;obtain⟨y,μ2,e2,ee2⟩:=AI ee1;obtain⟨r,μ3,e3,ee3⟩:=AI ee2;refine⟨ι,μ,τ,x,μ1,R,S,e1,λι1 H1 E1 R1 v1 i1=>⟨ι1,μ1,τ,y,μ2,R1,S.ext E1,e2,λι2 H2 E2 R2 v2 i2=>?_⟩⟩;obtain⟨hm,_,g1,rfl,kvs,g2,g3⟩:=HN R2 (i1.ext E2) e3;subst hm;cases hc:F1 y with
  |none=>rw[hc] at ee3;cases ee3
  |some c=>
   rw[hc,Option.bind_some] at ee3;obtain⟨rfl,⟨ds,rfl⟩,kz,kd⟩:=G9 hc;cases hv:IU r.2 (.tup ds) with
   |none=>rw[hv] at ee3;cases ee3
   |some dv=>
    rw[hv] at ee3;cases ee3;have i2':=i2;unfold Is at i2';obtain⟨pa,_,rfl,_⟩:=i2';exact⟨_,(r.2,kvs),_,_,pa,ι2,_,rfl,rfl,g2,g3,kz,kd,i2,hv,λv iv=>q ι2 H2 (E1.trans E2) R2 v iv⟩
noncomputable def MB(mo mi mv:Sl->M D):Sl->M (Fl×Sl):=λτ=>bnd (mv τ) λv=>bnd (mo τ) λx=>bnd (mi τ) λy=>bnd (JY x) λr=>λμ=>match F1 y with
 |some c=>if r.2.length<sizeLine/\(r.2.any λz=>decide (z.1=c))=false then some ((.next,τ),μ.set r.1 (.dP (r.2++[(c,v)]))) else none
 |none=>none
noncomputable def Yr(td ty tv:TE)(K:KW)(w:World):TS:=λDn σ H=>tv σ H λv H1=>td σ H1 λx H2=>ty σ H2 λy H3=>∃p l c a ι k,x=.ref p/\y=.ref a/\H3 p=some (ER w p l)/\(∀z∈l,Kz z.1=true/\DP z.1<=8/\Is K ι k H3 z.1 (.ref z.2.1))/\(Kz c=true/\DP c<=8/\Is K ι k H3 c (.ref a))/\l.length<sizeLine/\(l.any λz=>decide (z.1=c))=false/\Dn.nx σ (upd H3 p (ER w p (l++[(c,a,v)])))
theorem VL(hr:Room k0 X.A)(ho:PE X o td)(hi:PE X i ty)(hv:PE X value tv)(hs:swapsWith value (some (.Subscript o i pos')) pos.line X.env=pure false):
  PS X (.Assign [.Subscript o i pos'] value pos) (Yr td ty tv X.kw X.w):=by
 intro pins s σ H D I h;refine wpAny_Assign_Subscript (thn (hv pins s σ H _ I h) λr s1 ⟨v,H1,I1,rv,q1⟩=>thn (ho pins s1 σ H1 _ I1 q1) λu s2 ⟨x,H2,I2,rx,q2⟩=>thn (hi pins s2 σ H2 _ I2 q2) λiv s3 ⟨y,H3,I3,ry,p,l,c,a,ι,k,ex,ey,e,hl,hc,hz,hn,q3⟩=>?_) hs;subst ex ey;cases rx;cases ry;obtain⟨us,hlen,hvs,dd,nd,hs,lo⟩:=JP I3 e hl;have hx:(EY l us).length=l.length:=by unfold EY;rw[AAG,List.length_zip];omega
 have no:atKey (EY l us) c=none:=by
  have:=Pk.Gi (c:=c) hlen;rw[hn] at this;cases z:atKey (EY l us) c with
  |none=>rfl
  |some _=>rw[z] at this;cases this
 refine wpAny_setItem_heap (hsz:=by omega) (KC hr) (isP I3 hc.1 hc.2.1 hc.2.2) dd λh' dd' sb=>⟨σ,_,?_,q3⟩;rw[storedH_new no] at dd';obtain⟨o',es',ep',d1,d2,d3,d4,_,_⟩:=dd';refine IH I3 (by rw[e];exact True.intro) sb ⟨o',d1⟩ (Wj ⟨us++[r],o',es',ep',?_,d1,d2,d3,?_,?_,?_,lo⟩)
 ·rw[AAY];exact hvs.append (.cons rv .nil)
 ·rw[d4,List.zip_append hlen,AAY];unfold EY;rw[AAY,List.map_map];rfl
 ·rw[AAY];refine List.nodup_append.mpr ⟨nd,by simp,?_⟩;intro z hz' w hw;have hw':w=c:=by simpa using hw
  intro hzc;obtain⟨t,ht,et⟩:=AAM.mp hz';have et':t.1=c:=et.trans (hzc.trans hw');have:(l.any λz=>decide (z.1=c))=true:=List.any_eq_true.mpr ⟨t,ht,by simp[et']⟩;rw[hn] at this;cases this
 ·rw[AAH];simp;omega
theorem On{value:Expr}{k:Nat}(hr:Room k X.A)(ho:RE X o mo)(hi:RE X i mi)(hv:RE X value mv)(hs:swapsWith value (some (.Subscript o i pos')) pos.line X.env=pure false:=by rfl):RS X (.Assign [.Subscript o i pos'] value pos) (MB mo mi mv):=RS.wk (VL hr ho.pe hi.pe hv.pe hs) λDn σ H h=>by
 obtain⟨ι,μ,τ,f,τ',μ',R,S,e,q⟩:=h;obtain⟨v,μ1,e1,ee1⟩:=AI e;obtain⟨x,μ2,e2,ee2⟩:=AI ee1;obtain⟨y,μ3,e3,ee3⟩:=AI ee2;obtain⟨r,μ4,e4,ee4⟩:=AI ee3;refine⟨ι,μ,τ,v,μ1,R,S,e1,λι1 H1 E1 R1 v1 i1=>⟨ι1,μ1,τ,x,μ2,R1,S.ext E1,e2,λι2 H2 E2 R2 v2 i2=>⟨ι2,μ2,τ,y,μ3,R2,S.ext (E1.trans E2),e3,λι3 H3 E3 R3 v3 i3=>?_⟩⟩⟩;obtain⟨hm,hx,g1,hv2,kvs,g2,g3⟩:=HN R3 (i2.ext E3) e4;subst hm;have E13:=(E1.trans E2).trans E3;cases hk:F1 y with
 |none=>rw[hk] at ee4;cases ee4
 |some c=>
  rw[hk] at ee4;have ee4:(if r.2.length<sizeLine/\(r.2.any λz=>decide (z.1=c))=false then some ((Fl.next,τ),List.set μ4 r.1 (MO.dP (r.2++[(c,v)]))) else none)=some ((f,τ'),μ'):=ee4;split at ee4
  ·rename_i hl;cases ee4;obtain⟨rfl,⟨ds,rfl⟩,kz,kd⟩:=G9 hk;have i3':=i3;unfold Is at i3';obtain⟨a,_,rfl,_⟩:=i3';have hlt:r.1<List.length μ4:=(AAU.mp g1).1;have hkl:kvs.length=r.2.length:=by have:=congrArg List.length g3.keys;simpa using this
   obtain⟨E4,R4⟩:=R3.changed (m:=.dP (r.2++[(.tup ds,v)])) (o:=ER X.w (ι3 r.1) (kvs++[(.tup ds,a,v1)])) hlt ⟨_,rfl,PVs.app ⟨kz,kd,i3⟩ (i1.ext (E2.trans E3)) g3⟩;exact⟨_,kvs,_,a,ι3,_,hv2,rfl,g2,g3.at,⟨kz,kd,i3⟩,by omega,by rw[Kq g3.keys];exact hl.2,q ι3 _ (E13.trans E4) R4 σ (S.ext (E13.trans E4))⟩
  ·cases ee4
end
end Mi
namespace Mi
open PySem L2
noncomputable def PB:List D->Option (List Key)
 |[]=>some []
 |d::ds=>match JG d,PB ds with
  |some k,some ks=>some (k::ks)
  |_,_=>none
theorem Mg:∀{ds:List D} {vs:List V} {ks:List Key},IsL K ι k H ds vs->PB ds=some ks->vs=ks.map kV
 |[],vs,ks,i,e=>by cases e;unfold IsL at i;exact i
 |d::ds,vs,ks,i,e=>by
  unfold IsL at i;obtain⟨v,vs',rfl,i1,i2⟩:=i;unfold PB at e;split at e
  ·rename_i ky ks' h1 h2;cases e;rw[AAX,Mg i2 h2,LP i1 h1]
  ·cases e
noncomputable def Ix(kvs more:List (Key×D)):List (Key×D):=more.foldl (λacc kv=>C3 acc kv.1 kv.2) kvs
theorem KQ:∀{ks:List Key} {ds:List D} {vs:List V} {l:List (Key×D)} {r:List (Key×V)},IsL K ι k H ds vs->KVs K ι k H l r->KVs K ι k H (Ix l (ks.zip ds)) (C5 r (ks.zip vs))
 |[],_,_,_,_,_,h=>by rw[List.zip_nil_left,List.zip_nil_left];exact h
 |_::_,[],_,_,_,i,h=>by unfold IsL at i;subst i;rw[List.zip_nil_right,List.zip_nil_right];exact h
 |y::ks,d::ds,_,l,r,i,h=>by
  unfold IsL at i;obtain⟨v,vs',rfl,i1,i2⟩:=i;rw[List.zip_cons_cons,List.zip_cons_cons];exact KQ (l:=C3 l y d) (r:=DD r y v) i2 (KVs.put h i1)
noncomputable def Tk:List D->M D
 |[.lst xs,.tup ds]=>λμ=>match PB xs with
  |some ks=>if ds.length=ks.length/\ks.length<=1000 then some (.ref μ.length,μ++[.dK (Ix [] (ks.zip ds))]) else none
  |none=>none
 |_=>A5
section
variable{X:Cx}{a b:Expr}{p p2 pos pos2:Pos}
theorem VA(hmd:X.mg "dict" = none)(hm:X.mg "zip" = none)(ha:RA X [a,b] m)(hc:X.calm=true:=by rfl)(hgd:Gl X "dict" := by rfl)(hg:Gl X "zip" := by rfl)(hs:starEach [a,b] X.env=(false,eval a X.env)::starEach [b] X.env:=by exact As rfl)(hpl:(backTo pos2 (starEach [b] X.env)).any (·.1)=false:=by exact BW rfl):
  RE X (.Call (.Name "dict" p) [.Call (.Name "zip" p2) [a,b] [] pos2] [] pos) (AH Tk m):=RE.wk (VX hc hgd hmd hg hm ha.pe hs hpl) λσ H Q h=>by
 obtain⟨ι,μ,τ,d,μ',R,S,ev,q⟩:=h;obtain⟨as,μ1,e1,e2⟩:=AI ev;refine⟨ι,μ,τ,as,μ1,R,S,e1,λι1 H1 E1 R1 vs i1=>?_⟩;unfold Tk at e2;split at e2
 ·rename_i xs ds;split at e2
  ·rename_i ks hk;split at e2
   ·rename_i hl;cases e2;obtain⟨v1,v2,rfl,j1,j2⟩:=Ta i1;unfold Is at j1 j2;obtain⟨l,vl,rfl,g1,_,g2⟩:=j1;obtain⟨t,vt,rfl,t1,t2⟩:=j2;have ek:=Mg g2 hk;subst ek;refine⟨l,t,ks,vt,rfl,SqL.of g1,t1,by rw[t2.length];exact hl.1,hl.2,λpn hp=>?_⟩;obtain⟨ι',E2,R2,e0⟩:=R1.grown (m:=.dK (Ix [] (ks.zip ds))) (o:=.dK (C5 [] (ks.zip vt))) hp ⟨_,rfl,KQ t2 (show KVs _ _ _ _ [] [] from rfl)⟩;exact q ι' _ (E1.trans E2) R2 _ (by unfold Is;exact⟨by simp,by rw[e0]⟩)
   ·cases e2
  ·cases e2
 ·cases e2
end
section
variable{K:PySem.W.Frag}{c m qual:Str}{st:Stmt}{C f:Addr}{oc:Value}{od an:Option Addr}{osl:Array (Option Value)}{kV doc pm cdv ct:Value}
theorem Zo(a:PySem.W.nsIn K mainGlobals c=some (some (.ref C)))(pg:PySem.W.plainGet K C Str.empty=true)(hd:PySem.W.hasDictIn K C=true)(po:PySem.W.plainOver K C=true)(sa:PySem.W.findIn K (.ref C) "__setattr__" = some (some (.builtin "object.__setattr__")))
  (me:PySem.W.findIn K (.ref C) m=some (some (.ref f))) (fn:PySem.W.isFn K (.ref f)=true)
  (l:K.lookup f=some ⟨oc,od,.func (PySem.W.fnOf m qual (EB st) (BY st) (AR st) .none kV doc pm an cdv ct),osl⟩) (cd:PySem.W.codeIn K cdv qual=true) (k:PySem.W.keepIn K (.ref f)=true):∃C f fd,Dm K c m qual st C f fd:=⟨C,f,_,⟨a,⟨pg,hd,po,sa⟩⟩,⟨me,fn,k⟩,N3 l cd k⟩
end
open Pk in
noncomputable def FP(h:Heap)(y:D)(v:Value):Bool:=@decide (At h y v) (Classical.propDecidable _)
open Pk in
theorem PH(a:At h z v):FP h y v=decide (z=y):=by
 unfold FP;by_cases e:z=y
 ·subst e;rw[AAP rfl,@AAP _ (Classical.propDecidable _) a]
 ·rw[AAO e,@AAO _ (Classical.propDecidable _) λb=>e (a.inj b)]
open Pk in
theorem JZ:∀{ds:List D} {us:List Value},Ats h ds us->us.any (FP h y)=ds.any λz=>decide (z=y)
 |[],_,a=>by unfold Ats at a;subst a;rfl
 |d::ds,_,a=>by
  unfold Ats at a;obtain⟨v,us',rfl,a1,a2⟩:=a;rw[List.any_cons,List.any_cons,PH a1,JZ a2]
open Pk PySem.SeqAt in
theorem Iy(hu:A.units+8<cLine)(hx:At s.heap y x):∀{ds:List D} {us:List Value},Bu ds<=8->Ats s.heap ds us->∀v∈us,EqAt A s v x (FP s.heap y v)
 |[],_,_,a,v,hv=>by unfold Ats at a;subst a;cases hv
 |d::ds,_,hd,a,v,hv=>by
  unfold Ats at a;unfold Bu at hd;obtain⟨v',us',rfl,a1,a2⟩:=a;rcases AAJ.mp hv with rfl|hv
  ·rw[PH a1];exact At.eq (by omega) a1 hx
  ·exact Iy hu hx (by omega) a2 v hv
open Pk in
noncomputable def Jr(neg:Bool)(y d:D):M D:=bnd (B7 d) λds=>λμ=>if Kz y=true/\KzL ds=true/\Bu ds<=8 then some (.bl (if neg then !(ds.any λz=>decide (z=y)) else ds.any λz=>decide (z=y)),μ) else none
open Pk in
theorem WN(hr:Room k X.A):OpR X (compareOp .In) (rM X.kw (Jr false)):=λpins s σ H x y v u Q I rx ry h=>by
 obtain⟨ι,μ,a,b,d,μ',R,ia,ib,e,q⟩:=h;obtain⟨ds,μ1,e1,e2⟩:=AI e;obtain⟨hm,p,vs,rfl,h1,h2⟩:=CQ R ib e1;subst hm;split at e2
 ·rename_i hz;cases e2;cases ry;have hx:=Ko I hz.1 ia rx;have hu:X.A.in1.units+8<cLine:=KC hr;rcases h1 with h1|h1
  ·obtain⟨its,rv,pl,_⟩:=I.list h1;have hA:=HM I hz.2.1 h2 rv;refine PySem.SeqAt.in_listAt (FP s.heap a) pl.isList (λw hw=>Iy (A:=X.A.in1) hu hx hz.2.2 hA w (by simpa using hw)) ⟨.bl _,H,I,rfl,?_⟩;rw[show its.toArray.any (FP s.heap a)=its.any (FP s.heap a) by simp,JZ hA];exact q ι H R.ext0 R _ (ofB _)
  ·obtain⟨its,rv,pl,_⟩:=I.tuple h1;have hA:=HM I hz.2.1 h2 rv;refine PySem.SeqAt.in_tupleAt (FP s.heap a) pl (λw hw=>Iy (A:=X.A.in1) hu hx hz.2.2 hA w (by simpa using hw)) ⟨.bl _,H,I,rfl,?_⟩;rw[show its.toArray.any (FP s.heap a)=its.any (FP s.heap a) by simp,JZ hA];exact q ι H R.ext0 R _ (ofB _)
 ·cases e2
section
variable{X:Cx}
noncomputable def JO:List D->M D
 |[d]=>bnd (Be d) λr=>λμ=>some (.ref μ.length,μ++[.dK r.2])
 |_=>A5
theorem V7:Bv X (.type "dict") (rMA X.kw JO):=λpins s σ H xs us Q I r h=>by
 obtain⟨ι,μ,as,d,μ',R,ia,e,q⟩:=h;unfold JO at e;split at e
 ·rename_i y;obtain⟨z,μ1,e1,e2⟩:=AI e;obtain⟨v,rfl,i1⟩:=HB ia;obtain⟨hm,_,g1,rfl,kvs,g2,g3⟩:=Cg R i1 e1;subst hm;cases e2;obtain⟨u,rfl,ru⟩:=IR r;cases ru;refine Tm I (.inl g2) λp s' hp I'=>⟨.ref p,_,I',rfl,?_⟩;obtain⟨ι',E1,R1,e0⟩:=R.grown (m:=.dK z.2) (o:=.dK kvs) hp ⟨kvs,rfl,g3⟩;exact q ι' _ E1 R1 _ (by unfold Is;exact⟨by simp,by rw[e0]⟩)
 ·cases e
noncomputable def Jt(kb:List (Key×D)):List (Key×D)->Option Bool
 |[]=>some true
 |(k,d)::r=>match GM kb k with
  |none=>some false
  |some d'=>if Kz d=true/\Kz d'=true/\DP d<=8 then (Jt kb r).map λb=>decide (d=d')&&b else none
noncomputable def Qi(a b:D):M D:=bnd (Be a) λx=>bnd (Be b) λy=>λμ=>if x.2.length=y.2.length then (Jt y.2 x.2).map λz=>(.bl z,μ) else some (.bl false,μ)
open Pk in
theorem M1(hu:X.A.in1.units+8<cLine)(I:Inv X pins σ H s)(kb:KVs X.kw ι k H lb rb)(hb:KV rb vb):
  ∀{l:List (Key×D)} {r:List (Key×V)} {v:List (Key×Value)} {z:Bool},KVs X.kw ι k H l r->KV r v->Jt lb l=some z->PySem.W.KeqHits X.A.in1 s vb v z
 |[],_,_,z,h,hv,e=>by
  cases h;cases hv;cases e;exact .nil
 |(y,d)::l,_,_,z,h,hv,e=>by
  obtain⟨v1,r',rfl,h1,h2⟩:=h;unfold KV at hv;cases hv with
  |@cons _ q _ qs hq t=>
   obtain⟨q1,q2⟩:=q;obtain⟨hk,hr⟩:=hq;dsimp only at hk hr;subst hk;unfold Jt at e;have rv:=KV.val hb y;rcases kb.val y with ⟨z1,z2⟩|⟨d',v',z1,z2,z3⟩
   ·rw[z1] at e;cases e;rw[z2] at rv;refine .miss ?_;cases hq:valueAt vb y with
    |none=>rfl
    |some _=>rw[hq] at rv;exact(show False from rv).elim
   ·rw[z1] at e;dsimp only at e;rw[z2] at rv;cases hq:valueAt vb y with
    |none=>rw[hq] at rv;exact(show False from rv).elim
    |some u'=>
     rw[hq] at rv;split at e
     ·rename_i hc;cases hd:Jt lb l with
      |none=>rw[hd] at e;cases e
      |some b=>
       rw[hd] at e;cases e;exact .hit hq (At.eq (by omega) (Ko I hc.1 h1 hr) (Ko I hc.2.1 z3 rv)) (M1 hu I kb hb h2 t hd)
     ·cases e
theorem ZZ(hr:Room k X.A):OpR X (compareOp .Eq) (rM X.kw Qi):=λpins s σ H x y v u Q I rx ry h=>by
 obtain⟨ι,μ,a,b,d,μ',R,ia,ib,e,q⟩:=h;obtain⟨xa,μ1,e1,e2⟩:=AI e;obtain⟨xb,μ2,e3,e4⟩:=AI e2;obtain⟨hm,_,g1,rfl,kvs,g2,g3⟩:=Cg R ia e1;subst hm;obtain⟨hm,_,f1,rfl,jvs,f2,f3⟩:=Cg R ib e3;subst hm;cases rx;cases ry;obtain⟨_,la,va,ra,da⟩:=PU I.hok g2;obtain⟨_,lb,vb,rb,db⟩:=PU I.hok f2;have ha:va.length=xa.2.length:=by rw[←ra.length,g3.length]
 have hb:vb.length=xb.2.length:=by rw[←rb.length,f3.length]
 have hu:X.A.in1.units+8<cLine:=KC hr;have hu0:X.A.units<cLine:=by have:=hr.units;omega
 by_cases hl:xa.2.length=xb.2.length
 ·rw[if_pos hl] at e4;cases hd:Jt xb.2 xa.2 with
  |none=>rw[hd] at e4;cases e4
  |some z=>
   rw[hd] at e4;cases e4;refine PySem.W.keq_eq (r:=z) la lb da db hu0 (λ_=>M1 hu I f3 rb g3 ra hd) ⟨.bl z,H,I,?_,q ι H R.ext0 R _ (ofB _)⟩;rw[ha,hb,hl,beq_self_eq_true,Bool.true_and];rfl
 ·rw[if_neg hl] at e4;cases e4;refine PySem.W.keq_eq (r:=true) la lb da db hu0 (λz=>absurd (by rw[←ha,←hb];exact z) hl) ⟨.bl false,H,I,?_,q ι H R.ext0 R _ (ofB _)⟩;rw[show (va.length==vb.length)=false from AAg.mpr (by rw[ha,hb];exact hl)];rfl
end
noncomputable def LF:D->D->M D
 | .int i,.int j=>ret (.int (i-j))
 |_,_=>A5
section
variable{X:Cx}{e:Expr}{pos pos':Pos}
theorem U3(i:Nat)(hN:X.N.Nodup)(he:RE X e m)(hi:X.N[i]?=some x:=by rfl)(hx:Loc X.env.scope x:=by first|exact Or.inl rfl|exact Or.inr rfl)(hf:X.fn x=true∨X.env.scope.names.lookup x=some .local:=by first|exact .inl rfl|exact .inr rfl|assumption):
  RS X (.AugAssign (.Name x pos') .Sub e pos) (Ab (mOp LF (AC i) m) (AM i)):=RS.wk (Xc hN hi hx he.pe YM hf) λDn σ H h=>by
 obtain⟨ι,μ,τ,f,τ',μ',R,S,ev,q⟩:=h;obtain⟨d,μ1,e1,ev⟩:=AI ev;obtain⟨τ1,μ2,e2,ev⟩:=AI ev;cases ev;cases e2;obtain⟨a,μ3,e3,ev⟩:=AI e1;obtain⟨b,μ4,e4,e5⟩:=AI ev;unfold AC at e3;split at e3
 ·rename_i d' ed;cases e3;obtain⟨v,s1,h1⟩:=S.get i _ ed;refine⟨v,s1,ι,μ,τ,b,μ4,R,S,e4,λι1 H1 E1 R1 v1 i1=>?_⟩;cases a with
  |int k=>
   cases b with
   |int j=>
    cases e5;have z1:=BO h1;have z2:=BO i1;subst z1 z2;exact⟨k,j,rfl,rfl,q ι1 H1 E1 R1 _ ((S.ext E1).set i (ofI _))⟩
   |_=>cases e5
  |_=>cases e5
 ·cases e3
end
mutual
def clB(k:Nat):D->Bool
 | .tup ds=>Gg k ds
 | .lst ds=>Gg k ds
 | .ref n=>Nat.blt n k
 |_=>true
def Gg(k:Nat):List D->Bool
 |[]=>true
 |d::ds=>match clB k d with
  |true=>Gg k ds
  |false=>false
end
noncomputable def Zy(k:Nat):MO->Bool
 | .lst ds=>Gg k ds
 | .dK l=>Gg k (l.map (·.2))
 | .dC l=>Gg k (l.map (·.2))
 | .ins _ l=>Gg k (l.map (·.2))
 | .dP l=>Gg k (l.map (·.1))&&Gg k (l.map (·.2))
mutual
theorem Tt:∀{d:D},clB k d=true->Cl k d
 | .tup ds,h=>by unfold clB at h;unfold Cl;exact CV h
 | .lst ds,h=>by unfold clB at h;unfold Cl;exact CV h
 | .ref n,h=>by unfold clB at h;unfold Cl;exact Nat.blt_eq.mp h
 | .non,_ | .bl _,_ | .int _,_ | .str _,_ | .ty _,_ | .scr _,_=>by unfold Cl;trivial
theorem CV:∀{ds:List D},Gg k ds=true->ClL k ds
 |[],_=>by unfold ClL;trivial
 |d::ds,h=>by
  unfold Gg at h;unfold ClL;cases e:clB k d with
  |true=>rw[e] at h;exact⟨Tt e,CV h⟩
  |false=>rw[e] at h;cases h
end
theorem V5(h:Zy k o=true):ClO k o:=by
 cases o with
 |lst ds=>exact CV h
 |dK l=>exact CV h
 |dC l=>exact CV h
 |ins _ l=>exact CV h
 |dP l=>
  have h:(Gg k (l.map (·.1))&&Gg k (l.map (·.2)))=true:=h;rw[Bool.and_eq_true] at h;exact⟨CV h.1,CV h.2⟩
noncomputable def F4(k:Nat):Nat->Mh->Option Mh
 |0,_=>some []
 |_+1,[]=>none
 |n+1,o::μ=>match Zy k o with
  |true=>match F4 k n μ with
   |some r=>some (o::r)
   |none=>none
  |false=>none
theorem HI:∀{n:Nat} {μ r:Mh},F4 k n μ=some r->(∃g,μ=r++g)/\List.length r=n/\∀o∈r,ClO k o
 |0,μ,r,h=>by cases h;exact⟨⟨μ,rfl⟩,rfl,λo ho=>by cases ho⟩
 |_+1,[],r,h=>by cases h
 |n+1,o::μ,r,h=>by
  unfold F4 at h;split at h
  ·rename_i hc;split at h
   ·rename_i r' hr;cases h;obtain⟨⟨g,rfl⟩,h2,h3⟩:=HI hr;refine⟨⟨g,rfl⟩,by rw[AAI,h2],λp hp=>?_⟩;rcases AAJ.mp hp with rfl|hp
    ·exact V5 hc
    ·exact h3 p hp
   ·cases h
  ·cases h
noncomputable def Xw(μ:Mh)(hw:How)(d:D)(μ2:Mh):Option (D×Mh):=match hw with
 | .all=>some (d,μ2)
 | .drop=>match clB (List.length μ) d with
  |true=>match F4 (List.length μ) (List.length μ) μ2 with
   |some r=>some (d,r)
   |none=>none
  |false=>none
 | .frz=>match d with
  | .ref n=>match Nat.ble (List.length μ) n with
   |true=>match μ2[n]? with
    |some (.lst ds)=>match Gg (List.length μ) ds with
     |true=>match F4 (List.length μ) (List.length μ) μ2 with
      |some r=>some (.lst ds,r)
      |none=>none
     |false=>none
    |_=>none
   |false=>none
  |d=>match clB (List.length μ) d with
   |true=>match F4 (List.length μ) (List.length μ) μ2 with
    |some r=>some (d,r)
    |none=>none
   |false=>none
theorem Ve(h:Xw μ hw d' μ2=some (d,μ')):(μ'=μ2/\d=d')∨Fg μ μ2 μ' d' d:=by
 have dr:∀{d' d:D} {μ':Mh},(match clB (List.length μ) d' with|true=>(match F4 (List.length μ) (List.length μ) μ2 with|some r=>some (d',r)|none=>none)|false=>none)=some (d,μ')->Fg μ μ2 μ' d' d:=by
  intro d' d μ' h;split at h
  ·rename_i hc;split at h
   ·rename_i r hr;cases h;obtain⟨g,hl,ho⟩:=HI hr;exact⟨g,by rw[hl];exact AAF _,λn o e=>.inr (by rw[hl];exact ho o (AAV e)),.inl ⟨rfl,by rw[hl];exact Tt hc⟩⟩
   ·cases h
  ·cases h
 unfold Xw at h;split at h
 ·cases h;exact .inl ⟨rfl,rfl⟩
 ·exact .inr (dr h)
 ·split at h
  ·split at h
   ·rename_i n hn;split at h
    ·rename_i ds hq;split at h
     ·rename_i hc;split at h
      ·rename_i r hr;cases h;obtain⟨g,hl,ho⟩:=HI hr;exact .inr ⟨g,by rw[hl];exact AAF _,λn o e=>.inr (by rw[hl];exact ho o (AAV e)),.inr ⟨_,ds,rfl,hq,by rw[hl];exact AAE hn,rfl,by rw[hl];exact CV hc⟩⟩
      ·cases h
     ·cases h
    ·cases h
   ·cases h
  ·exact .inr (dr h)
noncomputable def Wa:Fl->Bool
 | .next=>true
 | .rt _=>true
 |_=>false
theorem Tb(h:Wa f=true):f=.next∨∃d,f=.rt d:=by
 cases f with
 |next=>exact .inl rfl
 |rt d=>exact .inr ⟨d,rfl⟩
 |_=>cases h
noncomputable def Ax(hw:How)(n ps:Nat)(mb:Sl->M (Fl×Sl)):List D->M D:=λds μ=>match Nat.beq (List.length ds) ps with
 |true=>match mb (BV n ds) μ with
  |some ((fl,_),μ2)=>match Wa fl with
   |true=>Xw μ hw (Ej fl) μ2
   |false=>none
  |none=>none
 |false=>none
theorem EC(h:Ax hw n ps mb ds μ=some (d,μ')):
  ds.length=ps/\∃fl τ2 μ2,mb (BV n ds) μ=some ((fl,τ2),μ2)/\(fl=.next∨∃d,fl=.rt d)/\((μ'=μ2/\d=Ej fl)∨Fg μ μ2 μ' (Ej fl) d):=by
 unfold Ax at h;split at h
 ·rename_i hl;split at h
  ·rename_i fl τ2 μ2 e;split at h
   ·rename_i hf;exact⟨Nat.eq_of_beq_eq_true hl,fl,τ2,μ2,e,Tb hf,Ve h⟩
   ·cases h
  ·cases h
 ·cases h
section
variable{P:Program}{w:World}{K:PySem.W.Frag}{mg:Str->Option Value}{base:Heap}
theorem HE(hw:How)(F:Fun K x qual st f fd)(S:Ad N ps (AR st))
  (body:∀(cdv:Value) (A:Around) (outer:List Env) (s:Shared) (H:Hp) (E:XK),Room k (A.deeper (PyProof.Rows.envOfC qual (AR st) s.heap.objs.size f cdv))->RSs (Gf CX0 P w K mg base N qual (AR st) f cdv A outer s H E).nox (BY st) mb) :
  FnOk P w K mg base CX0 (k+1) f fd ps (spM ⟨K,w⟩ ps.length (Ax hw N.length ps.length mb)):=by
 refine F.ok S (λvs H Q E h=>h.1) (λcdv A outer s H vs Q E hr h=>⟨_,(body cdv A outer s H E hr).pe,?_⟩);obtain⟨hl,ι,μ,ds,d,μ',R,i,e,q⟩:=h;obtain⟨_,fl,τ2,μ2,e2,hfl,t⟩:=EC e;refine⟨ι,μ,_,fl,τ2,μ2,R,RelS.start i,e2,λι2 H2 E2 R2 σ2 S2=>?_⟩;have z:Ext ι μ.length H ι2 μ'.length H2/\RelH ⟨K,w⟩ ι2 μ' H2/\∀v,Is ⟨K,w⟩ ι2 μ2.length H2 (Ej fl) v->Is ⟨K,w⟩ ι2 μ'.length H2 d v:=by
  rcases t with ⟨rfl,rfl⟩|t
  ·exact⟨E2,R2,λv iv=>iv⟩
  ·exact Ly R E2 R2 t
 obtain⟨E3,R3,c⟩:=z;rcases hfl with rfl|⟨d0,rfl⟩
 ·exact q ι2 H2 E3 R3 _ (c _ (by unfold Ej Is;rfl))
 ·exact λv iv=>q ι2 H2 E3 R3 v (c v iv)
theorem Aw(hw:How)(F:Fun K x qual st f fd)(S:Ad N ps (AR st))(hm:mg x=some (.ref f))(hb:Binds K fd ps [])
  (body:∀(cdv:Value) (A:Around) (outer:List Env) (s:Shared) (H:Hp) (E:XK),Room k (A.deeper (PyProof.Rows.envOfC qual (AR st) s.heap.objs.size f cdv))->RSs (Gf CX0 P w K mg base N qual (AR st) f cdv A outer s H E).nox (BY st) mb) :
  Fn P w K mg base x ps (k+1) (Ax hw N.length ps.length mb):=⟨λds μ r h=>(EC (d:=r.1) (μ':=r.2) h).1,f,fd,HE hw F S body,hm,F.kp,hb⟩
theorem DZ(hw:How)(d:Dm K c m qual st C f fd)(S:Ad N ps (AR st))(hb:Binds K fd ps [])
  (body:∀(cdv:Value) (A:Around) (outer:List Env) (s:Shared) (H:Hp) (E:XK),Room k (A.deeper (PyProof.Rows.envOfC qual (AR st) s.heap.objs.size f cdv))->RSs (Gf CX0 P w K mg base N qual (AR st) f cdv A outer s H E).nox (BY st) mb) :
  Mth P w K mg base c m ps (k+1) (Ax hw N.length ps.length mb):=⟨λds μ r h=>(EC (d:=r.1) (μ':=r.2) h).1,C,f,fd,d.ca,d.me,HE hw d.F S body,hb⟩
theorem Qb(hw:How)(d:Di K c qual st C f fd)(S:Ad N ps (AR st))(hm:mg c=some (.ref C))(hb:Binds K fd ps [])
  (body:∀(cdv:Value) (A:Around) (outer:List Env) (s:Shared) (H:Hp) (E:XK),Room k (A.deeper (PyProof.Rows.envOfC qual (AR st) s.heap.objs.size f cdv))->RSs (Gf CX0 P w K mg base N qual (AR st) f cdv A outer s H E).nox (BY st) mb) :
  Ini P w K mg base c ps (k+1) (Ax hw N.length ps.length mb):=⟨λds μ r h=>(EC (d:=r.1) (μ':=r.2) h).1,C,f,fd,d.at_,hm,d.mak,HE hw d.F S body,hb⟩
end
section
variable{ι2 ι':Nat->Addr}{k k2 k':Nat}
variable(ag:∀n,n<k->ι' n=ι2 n)(am:∀m,m<k'->∃n,n<k2/\ι' m=ι2 n)(hk:k<=k')
include ag am hk
end
end Mi
local macro_rules | `(tactic| wtm_at "r")=>`(tactic| simp only[Mi.mSlotR_eq,Mi.mOpR_eq,Mi.mDispR_eq,Mi.aConsR_eq,Mi.sSeqR_eq,Mi.sSetR_eq,Mi.sIfR_eq,Mi.mAndR_eq,Mi.mOrR_eq,Mi.mTestR_eq,Mi.sRetR_eq])
namespace Mi
section
variable{α:Type}{P:List α->Prop}
theorem lq1(h:∀a,P [a]):∀us:List α,us.length=1->P us:=λus e=>by
 rcases us with _|⟨a,us⟩
 ·cases e
 ·cases List.eq_nil_of_length_eq_zero (Nat.succ.inj e);exact h a
theorem lqs(h:∀a,∀us:List α,us.length=n->P (a::us)):∀us:List α,us.length=n+1->P us:=λus e=>by
 rcases us with _|⟨a,us⟩
 ·cases e
 ·exact h a us (Nat.succ.inj e)
theorem lq2(h:∀a b,P [a,b]):∀us:List α,us.length=2->P us:=lqs λa=>lq1 (P:=λl=>P (a::l)) (h a)
theorem lq3(h:∀a b c,P [a,b,c]):∀us:List α,us.length=3->P us:=lqs λa=>lq2 (P:=λl=>P (a::l)) (h a)
theorem lq4(h:∀a b c d,P [a,b,c,d]):∀us:List α,us.length=4->P us:=lqs λa=>lq3 (P:=λl=>P (a::l)) (h a)
theorem lq5(h:∀a b c d e,P [a,b,c,d,e]):∀us:List α,us.length=5->P us:=lqs λa=>lq4 (P:=λl=>P (a::l)) (h a)
end
end Mi
namespace Mi
open PySem L2 PyProof.Rows
section
variable{X:Cx}{e a b c:Expr}{pos:Pos}
theorem S6:OpR X (binaryOp .Add) (λx y H Q=>∃a b ys,x=.ref a/\y=.ref b/\SqT X.kw H a []/\SqT X.kw H b ys/\Q (.ref b) H):=by
 intro pins s σ H x y v u Q I rx ry h;obtain⟨a,b,ys,rfl,rfl,ha,hb,q⟩:=h;cases rx;cases ry;obtain⟨its,r1,p1,_⟩:=I.tuple ha;obtain⟨its2,r2,p2,_⟩:=I.tuple hb;cases r1;obtain⟨⟨cls,dd,data,sl⟩,ho,hc,n,hd⟩:=p1;obtain⟨⟨cls2,dd2,data2,sl2⟩,ho2,hc2,n2,hd2⟩:=p2;simp only at hc hd hc2 hd2;subst hc hd hc2 hd2;exact concat_meets ⟨_,ho,rfl⟩ ⟨_,ho2,rfl⟩ noFill_tuple_add seq_tuple_add PySem.F.slot_tuple_add PySem.F.entry_tuple_add (PySem.F.args_tuple_add_2 _ _) (tuple_addW0 a b _ _ n n2 dd dd2 sl sl2 rfl) ⟨ho,ho2,⟨.ref b,H,I,rfl,q⟩⟩
noncomputable def Av(a b:D):M D:=match a,b with
 | .tup [],.tup ds=>ret (.tup ds)
 |a,b=>SY a b
theorem BC:OpR X (binaryOp .Add) (rM X.kw Av):=λpins s σ H x y v u Q I rx ry h=>by
 obtain⟨ι,μ,a,b,d,μ',R,ia,ib,e,q⟩:=h;unfold Av at e;split at e
 ·rename_i ds;cases e;unfold Is at ia;obtain⟨p,vs,rfl,h1,h2⟩:=ia;unfold IsL at h2;subst h2;have ib2:=ib;unfold Is at ib;obtain⟨p',vs',rfl,h1',h2'⟩:=ib;exact S6 pins s σ H _ _ v u Q I rx ry ⟨p,p',vs',rfl,rfl,h1,h1',q ι H R.ext0 R _ ib2⟩
 ·exact Za pins s σ H x y v u Q I rx ry ⟨ι,μ,_,_,d,μ',R,ia,ib,e,q⟩
theorem Js{prog:Program}{w:World}{A:Around}{E:Value->Shared->Prop}{s:Shared}{vl vu:Value}{lo hi:Option Int}{Q:Value->Shared->Prop}(ht:IsTup s.heap t items)(hs:s.heap.IsSliceOf sl vl vu .none)(pl:IsPart vl lo)(pu:IsPart vu hi)
  (h1:HT.sIx items.size 0 lo=0) (h2:HT.sIx items.size items.size hi=items.size) (h:Q (.ref t) s):wpAny (model prog w) A (getItem (.ref t) (.ref sl)) Q E s:=by
 obtain⟨os,hos,hcs,hds⟩:=id hs;have hTs:s.TypeIs (.ref sl) "slice" := ⟨os,hos,hcs⟩;unfold getItem
 try with_reducible refine AAq ?_
 first|refine AAA (AAB ?_)|skip
 refine AAA (wpAny_sequenceKey ht.typeIs (by decide) ?_);refine AAA (wpAny_callSpecial?_slot (name:=Str.ofString "__getitem__") ht.typeIs PyProof.Rows.slot_tuple_getitem
  (AAe PyProof.Rows.slot_tuple_getitem ht.typeIs entry_tuple_getitem ?_ (args_tuple_getitem _ _)))
 show wpAny _ _ (Builtin.Tuple.tupleItemsOf (.ref t) >>= _) _ _ s;refine AAA (tupleItemsOf_ ht ?_);refine AAA (wpAny_typeOf hTs ?_);rw[if_pos (by decide)];refine AAA (HT.DW hs pl pu ?_);have hyes:((((HT.sIx items.size 0 lo:Nat):Int)==0&&(1:Int)==1&&(HT.sIx items.size items.size hi-HT.sIx items.size 0 lo)==items.size)=true):=by rw[h1,h2];simp
 show wpAny _ _ (if (((HT.sIx items.size 0 lo:Nat):Int)==0&&(1:Int)==1&&(HT.sIx items.size items.size hi-HT.sIx items.size 0 lo)==items.size)=true then _ else _) _ _ s;rw[if_pos hyes];refine AAA (m:=Builtin.Tuple.tupleIsExact (.ref t)) ?_;unfold Builtin.Tuple.tupleIsExact;refine AAA (wpAny_typeOf ht.typeIs (AAB ?_));rw[if_pos (by decide)];refine AAA (wpAny_rule ?_);exact AAB ⟨_,rfl,AAB h⟩
theorem Uu:SlR X (λx lo hi H Q=>∃a xs,x=.ref a/\SqT X.kw H a xs/\HT.sIx xs.length 0 lo=0/\HT.sIx xs.length xs.length hi=xs.length/\Q (.ref a) H):=by
 intro pins s σ H x v vl vu lo hi sl Q I rx hs pl pu h;obtain⟨a,xs,rfl,hx,h1,h2,q⟩:=h;cases rx;obtain⟨its,r,ht,hz⟩:=I.tuple hx;have hlen:its.toArray.size=xs.length:=by rw[List.size_toArray];exact r.length.symm
 refine⟨"tuple",_,PyProof.Rows.slot_tuple_getitem.lookup,ht.typeIs,?_⟩;exact Js ht hs pl pu (by rw[hlen];exact h1) (by rw[hlen];exact h2) ⟨.ref a,H,I,rfl,q⟩
theorem Tp{ds:List D}{lo hi:Option Int}(h1:HT.sIx ds.length 0 lo=0)(h2:HT.sIx ds.length ds.length hi=ds.length):M3 ds lo hi=ds:=by
 unfold M3;rw[h1,h2];simp
noncomputable def Os(lo hi:Option Int):D->M D
 | .tup ds=>ret (.tup (M3 ds lo hi))
 |d=>bnd (By d) λds=>ret (.lst (M3 ds lo hi))
noncomputable def aS(K:KW):V->Option Int->Option Int->Hp->VK->Prop:=λx lo hi H Q=>∃ι μ a d μ',RelH K ι μ H/\Is K ι μ.length H a x/\Os lo hi a μ=some (d,μ') /\
 Aft K ι μ H μ' λι' H'=>∀v,Is K ι' μ'.length H' d v->Q v H'
theorem ZW:SlR X (aS X.kw):=λpins s σ H x v vl vu lo hi sl Q I rx hs pl pu h=>by
 obtain⟨ι,μ,a,d,μ',R,ia,e,q⟩:=h;by_cases c:∃ds,a=.tup ds/\HT.sIx ds.length 0 lo=0/\HT.sIx ds.length ds.length hi=ds.length
 ·obtain⟨ds,rfl,h1,h2⟩:=c;have e:some (D.tup (M3 ds lo hi),μ)=some (d,μ'):=e;rw[Tp h1 h2] at e;cases e;have ia2:=ia;unfold Is at ia;obtain⟨p,vs,rfl,g1,g2⟩:=ia;exact Uu pins s σ H _ v vl vu lo hi sl Q I rx hs pl pu ⟨p,vs,rfl,g1,by rw[g2.length];exact h1,by rw[g2.length];exact h2,q ι H R.ext0 R _ ia2⟩
 ·refine aY pins s σ H x v vl vu lo hi sl Q I rx hs pl pu ⟨ι,μ,a,d,μ',R,ia,?_,q⟩;cases a with
  |tup ds=>
   show (if HT.sIx ds.length 0 lo=0/\HT.sIx ds.length ds.length hi=ds.length then (A5:M D) else ret (D.tup (M3 ds lo hi))) μ=_;rw[if_neg (λz=>c ⟨ds,rfl,z.1,z.2⟩)];exact e
  |_=>exact e
noncomputable def Hn(me:Sl->M D)(ml mh:Sl->M (Option Int)):Sl->M D:=λτ=>bnd (me τ) λx=>bnd (ml τ) λl=>bnd (mh τ) λh=>Os l h x
theorem Fv{e:Expr}{lo hi:Option Expr}(he:RE X e me)(hl:RO X lo ml)(hh:RO X hi mh):RE X (.Subscript e (.Slice lo hi none p2) pos) (Hn me ml mh):=RE.wk (Ss ZW he.pe hl.pe hh.pe) λσ H Q h=>by
 obtain⟨ι,μ,τ,z,μ',R,S,e,q⟩:=h;obtain⟨x,μ1,e1,e⟩:=AI e;obtain⟨l,μ2,e2,e⟩:=AI e;obtain⟨u,μ3,e3,e⟩:=AI e;refine⟨ι,μ,τ,x,μ1,R,S,e1,λι1 H1 E1 R1 v i1=>⟨ι1,μ1,τ,l,μ2,R1,S.ext E1,e2,λι2 H2 E2 R2=>⟨ι2,μ2,τ,u,μ3,R2,S.ext (E1.trans E2),e3,λι3 H3 E3 R3=>?_⟩⟩⟩;have E23:=E2.trans E3;exact⟨ι3,μ3,x,z,μ',R3,i1.ext E23,e,λι4 H4 E4 R4=>q ι4 H4 ((E1.trans E23).trans E4) R4⟩
end
end Mi
namespace Mi
open PySem L2
open PyProof.Rows hiding St
section
variable{X:Cx}{e o:Expr}{apos cpos:Pos}
noncomputable def Ay(g:D->List D->M D)(mo:Sl->M D):Sl->M D:=λτ=>bnd (mo τ) λx=>bnd (Cj x) λ_=>g x []
theorem Px{K:KW}{g:D->List D->M D}{mo:Sl->M D}(h:tE K (Ay g mo) σ H Q):Y3 K "list" (rMM K g) (tE K mo) σ H Q:=by
 obtain⟨ι,μ,τ,d,μ',R,S,e,q⟩:=h;obtain⟨x,μ1,e1,ee1⟩:=AI e;obtain⟨u,μ2,e2,ee2⟩:=AI ee1;have hm:=HD e2;subst hm;refine⟨ι,μ,τ,x,_,R,S,e1,λι1 H1 E1 R1 v1 i1=>⟨(Hf R1 i1 e2).2,?_⟩⟩;exact⟨ι1,_,x,[],d,μ',R1,i1,IsL.nil,ee2,λι3 H3 E3 R3=>q ι3 H3 (E1.trans E3) R3⟩
theorem A4{name:Str}{id:String}(slot:Slot "list" name id)(hty:typeOf (.builtin id)=pure (.type "method_descriptor"))(hm:MtR X id (rMM X.kw g))(ho:RE X o mo)
  (hbase:attributeBase o name X.env (eval o X.env)=eval o X.env:=by rfl) (hline:(apos.endLine==cpos.line)=true:=by rfl) :
  RE X (.Call (.Attribute o name apos) [] [] cpos) (Ay g mo):=RE.wk (Xq PySem.F.plainAttrs_list slot hty hm ho.pe hbase hline) λ_ _ _ h=>Px h
end
section
variable{X:Cx}{e a o:Expr}
theorem Ms:∀{ys:List V} {us:List Value} {j:Nat},Vals ys us->ys.all C7=true->ys.findIdx? (λz=>eqV z y)=some j->∃hj:j<us.length,eqU y us[j]=true/\∀m (hm:m<us.length),m<j->eqU y us[m]=false
 |_,_,j,.nil,_,e=>by simp at e
 |z::ys,u::us,j,.cons r t,f,e=>by
  rw[List.all_cons,Bool.and_eq_true] at f;rw[List.findIdx?_cons] at e;cases hz:eqV z y with
  |true=>
   rw[hz] at e;simp at e;subst e;exact⟨by simp,by show eqU y u=true;rw[LU r f.1,hz],λm hm h=>by omega⟩
  |false=>
   rw[hz] at e;cases q:ys.findIdx? (λz=>eqV z y) with
   |none=>rw[q] at e;simp at e
   |some k=>
    rw[q] at e;simp at e;subst e;obtain⟨hk,h1,h2⟩:=Ms t f.2 q;refine⟨by simp;omega,by simpa using h1,λm hm h=>?_⟩;cases m with
    |zero=>show eqU y u=false;rw[LU r f.1,hz]
    |succ m=>simpa using h2 m (by simpa using hm) (by omega)
noncomputable abbrev aT(Sq:Hp->Addr->List V->Prop):V->List V->Hp->VK->Prop:=λx xs H Q=>∃p ys y j,x=.ref p/\xs=[y]/\Sq H p ys/\C7 y=true/\ys.all C7=true/\ys.findIdx? (λz=>eqV z y)=some j/\Q (.int j) H
theorem Jp:MtR X "list.index" (aT λH p ys=>SqL X.kw H p ys):=by
 intro pins s σ H x xs v us Q I rx rs h;obtain⟨p,ys,y,j,rfl,rfl,hp,fy,fys,hj,q⟩:=h;cases rx;obtain⟨u,rfl,ru⟩:=IR rs;obtain⟨its,rv,pl,hz⟩:=I.list hp;have hl:=rv.length;obtain⟨⟨cls,dd,data,sl⟩,ho,hc,n,hd⟩:=pl.isList;simp only at hc hd;subst hc hd;obtain⟨hj2,e1,e2⟩:=Ms rv fys hj;have hn:=F0;refine call_meets PySem.F.slot_list_index ⟨_,ho,rfl⟩ PySem.F.entry_list_index (PySem.F.args_list_index_2 _ _) (SeqAt.list_indexAt _ its.toArray n dd sl u (eqU y) j (by rw[List.size_toArray];exact hj2) (by omega) (by simpa using e1) (λm hm h=>by simpa using e2 m (by simpa using hm) h)) ⟨ho,λw hw=>Da ru fy rv fys w (by simpa using hw),?_⟩;exact⟨.int j,H,I.tok _,⟨_,rfl⟩,q⟩
noncomputable def YO:D->List D->M D
 |d,[y]=>bnd (B7 d) λds=>λμ=>match Mr y,HG ds with
  |some y,some xs=>(xs.findIdx? λz=>eqV z y).map λ(j:Nat)=>(D.int (j:Int),μ)
  |_,_=>none
 |_,_=>A5
theorem Qc{d r:D}{μ μ':Mh}{K:KW}{ι:Nat->Addr}(R:RelH K ι μ H)(ia:Is K ι μ.length H d x)(ib:IsL K ι μ.length H as xs)(e:YO d as μ=some (r,μ')):
  ∃p ys y j,x=.ref p/\xs=[y]/\(SqL K H p ys∨SqT K H p ys)/\C7 y=true/\ys.all C7=true/\ys.findIdx? (λz=>eqV z y)=some j/\r=.int j/\μ'=μ:=by
 unfold YO at e;split at e
 ·rename_i y0;obtain⟨ds,μ1,e1,e2⟩:=AI e;obtain⟨hm,p,vs,rfl,h1,h2⟩:=CQ R ia e1;subst hm;obtain⟨v,rfl,i1⟩:=HB ib;split at e2
  ·rename_i w ws q1 q2;obtain⟨rfl,f1⟩:=JL i1 q1;obtain⟨rfl,f2⟩:=HF h2 q2;cases hj:vs.findIdx? (λz=>eqV z v) with
   |none=>rw[hj] at e2;cases e2
   |some j=>rw[hj] at e2;cases e2;exact⟨p,vs,v,j,rfl,rfl,h1,f1,f2,hj,rfl,rfl⟩
  ·cases e2
 ·cases e
noncomputable def KY(d:D)(as:List D):M D:=bnd (Cj d) λ_=>YO d as
theorem MZ:MtR X "list.index" (rMM X.kw KY):=λpins s σ H x xs v us Q I rx rs h=>by
 obtain⟨ι,μ,a,as,d,μ',R,ia,ib,e,q⟩:=h;obtain⟨u,μ1,e1,e2⟩:=AI e;have hm:=HD e1;subst hm;obtain⟨ds,μ2,g1,g2⟩:=AI e1;obtain⟨_,p0,vs0,hx,hq,_⟩:=Br R ia g1;obtain⟨p,ys,y,j,rfl,rfl,h1,f1,f2,hj,rfl,rfl⟩:=Qc R ia ib e2;cases hx;have hs:SqL X.kw H p0 ys:=by
  rcases h1 with z|z
  ·exact z
  ·obtain⟨its,_,pl,_⟩:=I.list hq;obtain⟨its2,_,pt,_⟩:=I.tuple z;obtain⟨o,e1,c1,_⟩:=pl.isList;obtain⟨o2,e2,c2,_⟩:=pt;rw[e1] at e2;cases e2;rw[c1] at c2;exact absurd c2 (by decide)
 exact Jp pins s σ H _ _ v us Q I rx rs ⟨p0,ys,y,j,rfl,rfl,hs,f1,f2,hj,q ι H R.ext0 R _ (ofI _)⟩
end
end Mi
namespace Mi
open PySem L2
end Mi
local macro_rules | `(tactic| wtm_at "q")=>`(tactic| repeat first|exact Mi.pu_slot|exact Mi.pu_c|exact Mi.pu_true|exact Mi.pu_ix|exact Mi.pu_eqB|exact Mi.pu_nil|exact Mi.pu_inst|exact Mi.pu_len|apply Mi.pu_test|apply Mi.pu_op|apply Mi.pu_cons|apply Mi.pu_disp|apply Mi.pu_or|apply Mi.pu_and|apply Mi.pu_not)
namespace Ht
open PySem PySem.SetTable
abbrev Ris(l:List Nat):Prop:=l.Pairwise (· < ·)
theorem SN{xs:Array Nat}(r:Ris xs.toList)(hk:k<xs.size)(h:i<k):xs[i]'(Nat.lt_trans h hk)<xs[k]:=by
 have:=List.pairwise_iff_getElem.mp r i k (by simpa using Nat.lt_trans h hk) (by simpa using hk) h;simpa using this
theorem SO{xs:Array Nat}(r:Ris xs.toList)(hk:k<xs.size)(h:i<=k):xs[i]'(AAt h hk)<=xs[k]:=by
 rcases Nat.lt_or_eq_of_le h with z|z
 ·exact Nat.le_of_lt (SN r hk z)
 ·subst z;exact AAF _
structure Bel(xs:Array Nat)(j b:Nat):Prop where
 le:b<=xs.size
 lo:∀i (h:i<xs.size),i<b->xs[i]<j
 hi:∀i (h:i<xs.size),b<=i->j<=xs[i]
theorem JW{xs:Array Nat}(r:Ris xs.toList):∀fuel lo hi,lo<=hi->hi<=xs.size->hi-lo<=fuel->(∀i (h:i<xs.size),i<lo->xs[i]<j)->(∀i (h:i<xs.size),hi<=i->j<=xs[i])->Bel xs j (below.go xs j fuel lo hi)
 |0,lo,hi,h1,h2,h3,h4,h5=>by
  have:lo=hi:=by omega
  subst this;exact⟨h2,h4,h5⟩
 |fuel+1,lo,hi,h1,h2,h3,h4,h5=>by
  unfold below.go;by_cases z:lo<hi
  ·rw[if_pos z];have hm:(lo+hi) / 2<hi:=by omega
   have hm2:lo<=(lo+hi) / 2:=by omega
   have hs:(lo+hi) / 2<xs.size:=by omega
   have e:xs.getD ((lo+hi) / 2) j=xs[(lo+hi) / 2]:=by simp[Array.getD,hs]
   dsimp only;rw[e];by_cases q:xs[(lo+hi) / 2]<j
   ·rw[if_pos q];exact JW r fuel _ hi (by omega) h2 (by omega) (λi h hi'=>AAt (SO r hs (by omega)) q) h5
   ·rw[if_neg q];exact JW r fuel lo _ hm2 (by omega) (by omega) h4 (λi h hi'=>AAu (Nat.le_of_not_lt q) (SO r h hi'))
  ·rw[if_neg z];have:lo=hi:=by omega
   subst this;exact⟨h2,h4,h5⟩
theorem JV(r:Ris xs.toList)(j:Nat):Bel xs j (below xs j):=
 JW r _ 0 _ (AAm _) (AAF _) (by omega) (λi _ h=>absurd h (by omega)) (λi h h2=>absurd h2 (by omega))
theorem OE{xs:Array Nat}(r:Ris xs.toList)(hk:k<xs.size):below xs (xs[k]+1)=k+1:=by
 have b:=JV r (xs[k]+1);rcases Nat.lt_trichotomy (below xs (xs[k]+1)) (k+1) with z|z|z
 ·have h1:=b.hi k hk (by omega);omega
 ·exact z
 ·have h1:=b.lo (k+1) (by have:=b.le;omega) z;have h2:=SN r (k:=k+1) (i:=k) (by have:=b.le;omega) (by omega);omega
theorem OD(r:Ris xs.toList):below xs 0=0:=by
 have b:=JV r 0;rcases Nat.eq_zero_or_pos (below xs 0) with z|z
 ·exact z
 ·have:=b.lo 0 (by have:=b.le;omega) z;omega
structure Tab(t:SetTable)(n:Nat):Prop where
 ris:Ris t.place.toList
 sz:t.place.size=n
 dm:t.dummies=#[]
 mks:(t.mask=7/\n<=4)∨(t.mask=31/\n<=18)∨(t.mask=127/\19<=n/\n<=75)
 pl:t.plain=true
theorem Pw(led:Bool):Tab (.fresh 0 0 led) 0:=⟨List.Pairwise.nil,rfl,rfl,.inl ⟨rfl,by omega⟩,rfl⟩
theorem Tab.fits(h:Tab t n):t.fits n=true:=by
 unfold SetTable.fits fill;rw[h.sz,h.dm];rcases h.mks with ⟨a,b⟩|⟨a,b⟩|⟨a,b⟩<;>simp[a]<;>omega
end Ht
namespace Ht
open PySem PySem.SetTable
open PyProof.Rows
section
theorem PM{h:Heap}{a:Addr}{o:Obj}(ho:h.get? a=some o)(hd:o.data=.set es ep t)(es':Array (Int×Value))(t':SetTable):
  (h.update a (Obj.putSet es' t')).get? a=some { o with data:=.set es' (ep+1) t' }:=by
 have:=Heap.get?_update_self (Obj.putSet es' t') ho (by rw[putSet_of es' t' hd];rfl);rw[putSet_of es' t' hd] at this;exact this
end
end Ht
namespace Ht
open PySem PySem.Spec PyProof.Rows Sem L2
section
variable{prog:Program}{w:World}{A:Around}{E:Value->Shared->Prop}{s:Shared}
theorem Ux(a:Value)(h:Q (.ref s.heap.objs.size) { s with heap:=s.heap.push (Bf !(w.params.followText "set-order")) }):
  codeAny (model prog w) A (.call (.builtin "set.__new__") ⟨[.type "set",a],[]⟩) (wants Q E) s:=by
 refine codeAny_call_builtin (b:=Builtin.«set.__new__») PySem.F.plain_set_new PySem.F.entry_set_new (AAw (PySem.F.newCall_set_1 a) ?_);unfold Builtin.«set.__new__» Builtin.Frozenset.newClass;have z:=sub_set_self
 wp_walk
 refine wpAny_askSetting (AAB ?_);have e:∀{Q:Value->Shared->Prop} {E:Value->Shared->Prop} (t:SetTable),Q (.ref s.heap.objs.size) { s with heap:=s.heap.push { cls:=.type "set",data:=.set #[] 0 t } }->wpAny (model prog w) A.in1 (newObj (.type "set") (.set #[] 0 t)) Q E s:=λt z=>by
  unfold newObj
  wp_walk
  first|exact z|exact AAA (wpAny_alloc (AAB z))|trace_state
 exact e _ (AAB h)
end
end Ht
namespace Ht
open PySem PySem.Spec PyProof.Rows Sem L2 PySem.SetTable
theorem F7:∀(l:List α) (i:Nat) (x:α),l[i]?=some x->(x::l.eraseIdx i).Perm l
 |[],_,_,e=>by cases e
 |a::l,0,x,e=>by
  simp at e;subst e;exact .refl _
 |a::l,i+1,x,e=>by
  have e':l[i]?=some x:=by simpa using e
  exact(List.Perm.swap a x _).trans ((F7 l i x e').cons a)
theorem Ot(f:Nat->Nat):∀(fuel k:Nat) (left:List α) (out:Array α),left.length<=fuel->(pickOrder.go f fuel k left out).toList.Perm (out.toList++left)
 |0,k,left,out,h=>by
  have:left=[]:=List.length_eq_zero_iff.mp (by omega);subst this;unfold pickOrder.go;rw[AAb]
 |fuel+1,k,left,out,h=>by
  unfold pickOrder.go;cases e:left[f k % left.length]? with
  |none=>
   simp only[];have:left=[]:=by
    cases left with
    |nil=>rfl
    |cons a l=>
     exfalso;have:=List.getElem?_eq_none_iff.mp e;have:=Nat.mod_lt (f k) (show 0<(a::l).length by simp);omega
   rw[this,AAb]
  |some x=>
   simp only[];have hp:=F7 left _ x e;have hl:=hp.length_eq;rw[AAI] at hl;refine(Ot f fuel (k+1) _ (out.push x) (by omega)).trans ?_;rw[Array.toList_push,List.append_assoc];exact hp.append_left _
theorem QC(f:Nat->Nat)(xs:Array α):(pickOrder f xs).toList.Perm xs.toList:=by
 have:=Ot f xs.size 0 xs.toList #[] (by simp);simpa[pickOrder] using this
noncomputable def wv(w:World)(S:Addr)(ep:Nat)(es:Array (Int×Value)):Array (Int×Value):=if w.params.followText "set-order" = true then pickOrder (w.params.setOrder S ep) es else es
theorem OQ(w:World)(S:Addr)(ep:Nat)(es:Array (Int×Value)):(wv w S ep es).toList.Perm es.toList:=by
 unfold wv;split
 ·exact QC _ _
 ·exact .refl _
theorem Hu(w:World)(S:Addr)(ep:Nat)(es:Array (Int×Value)):(wv w S ep es).size=es.size:=by
 have:=(OQ w S ep es).length_eq;simpa using this
structure Wt(w:World)(t:SetTable)(n:Nat):Prop where
 fits:t.fits n=true
 nd:w.params.followText "set-order" = false->Ris t.place.toList/\(!t.plain&&decide (n > 1))=false
theorem Wt.sz(T:Wt w t n):t.place.size=n:=by
 have:=T.fits;unfold SetTable.fits at this;simp only[Bool.and_eq_true,beq_iff_eq] at this;exact this.1
section
variable{prog:Program}{w:World}{A:Around}{E:Value->Shared->Prop}{s:Shared}
theorem L4(ho:s.heap.get? S=some o)(hd:o.data=.set es ep t)(T:Wt w t es.size)(hled:t.led=!(w.params.followText "set-order"))
  (hsl:w.params.followText "set-order" = false->below t.place sl=i)
  (h1:∀e sl',(wv w S ep es)[i]?=some e->(w.params.followText "set-order" = false->below t.place sl'=i+1)->Q (some (e.2,sl')) s)
  (h2:(wv w S ep es)[i]?=none->Q none s):wpAny (model prog w) A (setNext S sl i ep) Q E s:=by
 unfold setNext;refine AAA (AAk ho hd T.fits ?_);dsimp only;unfold setsByText;refine AAA (AAA (wpAny_askSetting (AAB ?_)));dsimp only[model];by_cases hb:w.params.followText "set-order" = true
 ·rw[if_pos hb];have e0:(ep != ep)=false:=by simp
  rw[e0,if_neg AAi];unfold setWalk setsByText;refine AAA (AAA (AAk ho hd T.fits ?_));dsimp only;refine AAA (AAA (wpAny_askSetting (AAB ?_)));dsimp only[model];rw[if_pos hb];refine AAA (wpAny_askSetting (AAB (AAB ?_)));dsimp only;have ew:wv w S ep es=pickOrder (w.params.setOrder S ep) es:=by unfold wv;rw[if_pos hb]
  rw[ew] at h1 h2;cases q:(pickOrder (w.params.setOrder S ep) es)[i]? with
  |none=>exact h2 q
  |some e=>exact h1 e sl q λz=>by rw[hb] at z;cases z
 ·have hb':w.params.followText "set-order" = false:=by simpa using hb
  rw[if_neg hb];have hl:t.led=true:=by rw[hled,hb'];rfl
  have ew:wv w S ep es=es:=by unfold wv;rw[if_neg hb]
  rw[ew] at h1 h2;have hs:=hsl hb';split
  ·rename_i z;have z':(!t.plain&&decide (es.size > 1))=true:=z;rw[(T.nd hb').2] at z';cases z'
  ·refine AAA ?_;show wpAny _ _ (if (!t.led&&!es.isEmpty)=true then PySem.unsupported "set:maker-not-led" else Pure.pure ()) _ _ _;rw[hl];rw[if_neg (by simp)];refine AAB ?_;refine AAB ?_;rw[hs];have hsz:=T.sz;by_cases hi:i<es.size
   ·have e1:es[i]?=some es[i]:=by simp[hi]
    have e2:t.place[i]?=some (t.place[i]'(by omega)):=by simp[hsz,hi]
    rw[e1,e2];exact h1 es[i] _ e1 λ_=>OE (T.nd hb').1 (by omega)
   ·have e1:es[i]?=none:=by simp;omega
    rw[e1];exact h2 e1
end
theorem si_next:Slot "set_iterator" "__next__" "set_iterator.__next__" :=
 Slot.of (owner := "set_iterator") (n := "__next__") (by rw[typeLookup_type,builtinLookup_eq_fast];kernel_rfl) (by decide +kernel) (by decide +kernel) (by decide +kernel) (.inl (by decide +kernel)) (by rw[isSubtype_type];kernel_rfl)
theorem Hz:Slot "set_iterator" "__iter__" "set_iterator.__iter__" :=
 Slot.of (owner := "set_iterator") (n := "__iter__") (by rw[typeLookup_type,builtinLookup_eq_fast];kernel_rfl) (by decide +kernel) (by decide +kernel) (by decide +kernel) (.inl (by decide +kernel)) (by rw[isSubtype_type];kernel_rfl)
theorem Gd:entryFor table "set_iterator.__next__" = some Builtin.«set_iterator.__next__»:=entryFor_of_tree (by kernel_rfl)
theorem Mu:entryFor table "set_iterator.__iter__" = some Builtin.«dict_keyiterator.__iter__»:=entryFor_alias (id' := "dict_keyiterator.__iter__") (by kernel_rfl) rfl (by decide +kernel) (by kernel_rfl)
theorem Mv:entryFor table "set.__iter__" = some Builtin.«frozenset.__iter__»:=entryFor_alias (id' := "frozenset.__iter__") (by kernel_rfl) rfl (by decide +kernel) (by kernel_rfl)
theorem Gk(a:Value):argsOk "set_iterator.__next__" ⟨[a],[]⟩:=by unfold argsOk;kernel_rfl
theorem NF(a:Value):argsOk "set_iterator.__iter__" ⟨[a],[]⟩:=by unfold argsOk;kernel_rfl
noncomputable def itO(S:Addr)(sl i n ep:Nat):Obj:={ cls:=.type "set_iterator",data:=.fields #[.int sl 0,.int i 0,.ref S,.int n 0,.int ep 0] }
section
variable{prog:Program}{w:World}{A:Around}{E:Value->Shared->Prop}{s:Shared}
theorem Im(hh:A.handled=none)(h:∀a h',(∀b o,s.heap.get? b=some o->h'.get? b=some o)->Shared.TypeIs { s with heap:=h' } (.ref a) "StopIteration" -> E (.ref a) { s with heap:=h' }):
  wpAny (model prog w) A (newExc (.type "StopIteration") [] >>= λe=>(raiseNew e:Sem α)) Q E s:=by
 unfold newExc newTuple;refine AAA (AAA (AAs ?_ (by size_fits)));refine AAA (m:=firstArgMember _ _) (AAw (a:=Value.none) (by kernel_rfl) ?_);refine AAs ?_ (by size_fits);unfold raiseNew;refine AAA (wpAny_handled ?_);rw[hh];refine AAA (AAB (wpAny_throw (h _ _ (λb o e=>AAC _ (AAC _ e)) ⟨_,AAD _ rfl,rfl⟩)))
theorem Vv(hne:S≠I)(hI:s.heap.get? I=some (itO S sl i es.size ep))(ho:s.heap.get? S=some o)(hd:o.data=.set es ep t)(T:Wt w t es.size)(hled:t.led=!(w.params.followText "set-order"))
  (hsl:w.params.followText "set-order" = false->below t.place sl=i) (hx:(wv w S ep es)[i]?=some x)
  (q:∀h' sl',h'.get? I=some (itO S sl' (i+1) es.size ep)->(w.params.followText "set-order" = false->below t.place sl'=i+1)->Heap.SameBut I s.heap h'->Q (some x.2) { s with heap:=h' }) :
  wpAny (model prog w) A (pyNext (.ref I)) Q E s:=by
 have hT:s.TypeIs (.ref I) "set_iterator" := ⟨_,hI,rfl⟩;unfold pyNext;refine AAA (AAz (wpAny_callSpecial?_slot (name:=Str.ofString "__next__") hT si_next (AAe si_next hT Gd ?_ (Gk _))));unfold Builtin.«set_iterator.__next__»;refine AAA (AAw (a:=(Value.ref I,[])) rfl ?_);refine AAA (wpAny_fieldsOf hI rfl ?_);dsimp only;unfold setEntries;refine AAA (AAA (AAk ho hd T.fits (AAB ?_)));dsimp only;have e0:((es.size:Int) != (es.size:Int))=false:=by simp
 rw[e0,if_neg AAi];simp only[Int.toNat_natCast];refine AAA (L4 ho hd T hled hsl (λe sl' h1 h2=>?_) λz=>by rw[hx] at z;cases z);rw[hx] at h1;cases h1;dsimp only;refine AAA (AAr hI (by simp) λh1 g1 s1=>?_);refine AAA (AAr g1 (by simp) λh2' g2 s2=>?_);refine AAB ⟨_,rfl,AAB (q h2' sl' ?_ h2 (s1.trans s2))⟩;rw[g2];simp[itO,rawInt]
theorem YL(hh:A.handled=none)(hI:s.heap.get? I=some (itO S sl i es.size ep))(ho:s.heap.get? S=some o)(hd:o.data=.set es ep t)(T:Wt w t es.size)(hled:t.led=!(w.params.followText "set-order"))
  (hsl:w.params.followText "set-order" = false->below t.place sl=i) (hx:(wv w S ep es)[i]?=none)
  (q:∀h',(∀b o,b≠I->s.heap.get? b=some o->h'.get? b=some o)->Q none { s with heap:=h' }) :
  wpAny (model prog w) A (pyNext (.ref I)) Q E s:=by
 have hT:s.TypeIs (.ref I) "set_iterator" := ⟨_,hI,rfl⟩;unfold pyNext;refine AAA (AAz (wpAny_callSpecial?_slot (name:=Str.ofString "__next__") hT si_next (AAe si_next hT Gd ?_ (Gk _))));unfold Builtin.«set_iterator.__next__»;refine AAA (AAw (a:=(Value.ref I,[])) rfl ?_);refine AAA (wpAny_fieldsOf hI rfl ?_);dsimp only;unfold setEntries;refine AAA (AAA (AAk ho hd T.fits (AAB ?_)));dsimp only;have e0:((es.size:Int) != (es.size:Int))=false:=by simp
 rw[e0,if_neg AAi];simp only[Int.toNat_natCast];refine AAA (L4 ho hd T hled hsl (λe sl' h1 h2=>by rw[hx] at h1;cases h1) λ_=>?_);dsimp only;refine AAA (AAr hI (by simp) λh1 g1 s1=>?_);refine Im (A:=A.in1) (s:={ s with heap:=h1 }) hh λa h' k ty=>?_;refine AAA (AA0 (T := "StopIteration") (b:=true) ty isSubtype_stop ?_);exact AAB (q h' λb o hb e=>k b o (s1.extBut b o hb e))
theorem Vu(hI:s.heap.get? I=some (itO S sl i n ep))(h:Q (.ref I) s):wpAny (model prog w) A (pyIter (.ref I)) Q E s:=by
 have hT:s.TypeIs (.ref I) "set_iterator" := ⟨_,hI,rfl⟩;refine wpAny_pyIter_slot hT Hz (AAe Hz hT Mu ?_ (NF _));exact AAB ⟨_,rfl, "set_iterator",_,hT,si_next.lookup,h⟩
theorem YK(ho:s.heap.get? S=some o)(hex:o.ExactSet)(hd:o.data=.set es ep t)(T:Wt w t es.size)
  (h:Q (.ref s.heap.objs.size) { s with heap:=s.heap.push (itO S 0 0 es.size ep) }):wpAny (model prog w) A (pyIter (.ref S)) Q E s:=by
 have hT:s.TypeIs (.ref S) "set" := ⟨_,ho,hex.1⟩;refine wpAny_pyIter_slot hT PySem.F.slot_set_iter (AAe PySem.F.slot_set_iter hT Mv ?_ (PySem.F.args_set_iter_1 _));unfold Builtin.«frozenset.__iter__» Builtin.Frozenset.slot0 Builtin.Frozenset.sizeOf setEntries setDrawn setsByText;refine AAA (AAA (AAw (a:=(Value.ref S,[])) rfl (AAB ?_)));refine AAA (AAA (AAA (AAk ho hd T.fits (AAB (AAB ?_)))));refine AAA (AAA (AAk ho hd T.fits ?_));dsimp only;refine AAA (AAA (wpAny_askSetting (AAB (AAB ?_))));dsimp only;have e0:(!(w.params.followText "set-order")&&(!t.plain&&decide (es.size > 1)))=false:=by
  cases b:w.params.followText "set-order" with
  |true=>rfl
  |false=>rw[(T.nd b).2];rfl
 split
 ·rename_i z;have z':=e0.symm.trans z;cases z'
 ·refine AAA (AAB ?_);refine AAA (wpAny_setEpoch_of ho hd T.fits ?_);unfold newFields;exact AAA (AAs (AAB ⟨_,rfl, "set_iterator",_,⟨_,AAD _ rfl,rfl⟩,si_next.lookup,h⟩))
end
section
variable{prog:Program}{w:World}{A:Around}{E:Value->Shared->Prop}{s:Shared}
theorem XL:splitId "set.__len__" = some ("set", "__len__"):=by decide +kernel
theorem L5(hT:s.TypeIs (.ref S) "set")(h:Q false s):wpAny (model prog w) A (Builtin.List.listLengthHint (.ref S)) Q E s:=by
 obtain⟨id,hid⟩:∃id,id = "set.__len__" := ⟨_,rfl⟩;have l:=PySem.F.slot_set_len.lookup;have z:=sub_set_self;have sp:=XL;rw[←hid] at l sp;unfold Builtin.List.listLengthHint
 wp_walk
 rw[sp]
 wp_walk
 split
 ·wp_walk
  exact h
 ·rename_i no;exact absurd (by rw[hid];decide +kernel) no
theorem Ps(hh:A.handled=none)(hne:S≠I)(hd:o.data=.set es ep t)(T:Wt w t es.size)(hled:t.led=!(w.params.followText "set-order")):
  Walks prog w A I [I,S] [I] es.size (λi v=>∃e,(wv w S ep es)[i]?=some e/\v=e.2)
   (λi h=>(∃sl:Nat,h.get? I=some (itO S sl i es.size ep)/\(w.params.followText "set-order" = false->below t.place sl=i))/\h.get? S=some o) where
 sub:=λb hb=>by simp at hb;simp[hb]
 frame:=λi h h' st k=>by
  obtain⟨⟨sl,h1,h2⟩,h3⟩:=st;exact⟨⟨sl,k I (by simp) _ h1,h2⟩,k S (by simp) _ h3⟩
 item:=λi s Q E hi st q=>by
  obtain⟨⟨sl,h1,h2⟩,h3⟩:=st;obtain⟨x,hx⟩:∃x,(wv w S ep es)[i]?=some x:=⟨(wv w S ep es)[i]'(by rw[Hu];exact hi),by simp[Hu,hi]⟩;refine Vv hne h1 h3 hd T hled h2 hx λh' sl' g1 g2 sb=>?_;exact q x.2 h' s.toks ⟨x,hx,rfl⟩ ⟨⟨sl',g1,g2⟩,(sb.2 S hne).trans h3⟩ λb o hb e=>(sb.2 b (by simpa using hb)).trans e
 done:=λs Q E st q=>by
  obtain⟨⟨sl,h1,h2⟩,h3⟩:=st;refine YL hh h1 h3 hd T hled h2 (by simp[Hu]) λh' k=>?_;exact q h' s.toks λb o hb e=>k b o (by simpa using hb) e
 self:=λi s Q E st h=>by
  obtain⟨⟨sl,h1,h2⟩,h3⟩:=st;exact Vu h1 h
theorem Ut(hex:o.ExactSet)(hd:o.data=.set es ep t)(T:Wt w t es.size)(hled:t.led=!(w.params.followText "set-order")):
  PySem.W.KdlSrc prog w "set" S S es.size (λi v=>∃e,(wv w S ep es)[i]?=some e/\v=e.2) (λh=>h.get? S=some o) where
 type:=λs h=>⟨_,h,hex.1⟩
 there:=λh e=>⟨Heap.lt_size e,Heap.lt_size e⟩
 keep:=λh h' e k=>k S (.inl rfl) _ e
 notList:=by decide
 notTuple:=by decide
 hint:=λA E s Q e h=>L5 ⟨_,e,hex.1⟩ h
 iter:=λA s hh e=>⟨itO S 0 0 es.size ep,_,λE Q h=>YK e hex hd T h,Ps hh (AAf (Heap.lt_size e)) hd T hled,⟨0,AAD _ rfl,λb=>OD (T.nd b).1⟩,AAC _ e⟩
end
end Ht
namespace Ht
end Ht
namespace L2
open PySem PySem.Spec PyProof.Rows Sem Ht
end L2
namespace Mi
open PySem L2 Ht
theorem Mo:∀ns:List Int,IsL K ι k H (ns.map D.int) (ns.map V.int)
 |[]=>IsL.nil
 |n::r=>by
  rw[AAX,AAX];unfold IsL;exact⟨_,_,rfl,ofI _,Mo r⟩
end Mi
namespace L2
open PySem PySem.Spec PyProof.Rows Sem Ht
section
variable{prog:Program}{w:World}{A:Around}{E:Value->Shared->Prop}{s:Shared}
theorem R6{n:Nat}:Builtin.Range.rangeSize 0 n 1=(n:Int):=by rw[rangeSize_one];split<;>omega
theorem Py{n:Nat}(h:n<=1000):Builtin.Range.small 0 n 1=true:=small_one (by omega) (by omega) (by omega) (by omega)
theorem M4{r:Addr}{n:Nat}(hh:A.handled=none)(hr:IsRange s.heap r 0 n 1 t u v)(hn:n<=1000)
  (q:∀h' tk (acc:List Value),(∀b o,s.heap.get? b=some o->h'.get? b=some o)->IntsAre acc ((List.range n).map Int.ofNat)->Q acc { s with heap:=h',toks:=tk }) :
  wpAny (model prog w) A (collect (.ref r)) Q E s:=by
 unfold collect;refine AAA (wpAny_runValue (codeAny_builtin entry_proto_collect' ?_));rw[Around.under_plainId PySem.F.plain_proto_collect _];unfold Builtin.«proto.collect»;refine AAA (wpAny_newList ?_);refine AAB ⟨plainId_quiet PySem.F.plain_list_iadd _,codeAny_builtin entry_list_iadd' ?_⟩;rw[Around.under_plainId PySem.F.plain_list_iadd _];have got:∀(acc:Array Value) (c:Nat) (h':Heap) (tk:Nat),(∀b o,s.heap.get? b=some o->h'.get? b=some o)->h'.get? s.heap.objs.size=some { cls:=.type "list",dict:=none,data:=.seq acc c,slots:=#[] }->ItemsOf (λi v=>∃t,v=.int (0+(i:Int) * 1) t) acc n->
   wpAny (model prog w) A (load s.heap.objs.size >>= λo=>match o.data with | .seq xs _=>Pure.pure xs.toList|_=>PySem.unsupported "internal:collect") Q E { s with heap:=h',toks:=tk }:=λacc c h' tk k e it=>by
  refine AAA (wpAny_load e (AAB (q h' tk acc.toList k ?_)));have im:=intsAre_map acc.toList λv hv=>by
   obtain⟨i,hi,rfl⟩:=List.getElem_of_mem hv;obtain⟨t,e⟩:=it.2 i _ (Array.getElem?_eq_getElem (by simpa using hi));exact⟨_,t,by simpa using e⟩
  have en:acc.toList.map numOf=(List.range n).map Int.ofNat:=by
   refine List.ext_getElem? λi=>?_;rw[AAW,AAW];by_cases hi:i<n
   ·have hi':i<acc.size:=by rw[it.1];exact hi
    obtain⟨t,e⟩:=it.2 i _ (Array.getElem?_eq_getElem hi');rw[Array.getElem?_toList,Array.getElem?_eq_getElem hi',e,List.getElem?_range hi];simp[numOf]
   ·rw[List.getElem?_eq_none (by rw[Array.length_toList,it.1];omega),List.getElem?_eq_none (by simp;omega)];rfl
  rwa [en] at im
 have key:=wpAny_extend_range (prog:=prog) (w:=w) (A:=A) (s:={ s with heap:=s.heap.push { cls:=.type "list",data:=.seq ([]:List Value).toArray } })
  (R:=λ(z:Result) (s':Shared)=>∃(h':Heap) (tk:Nat) (acc:Array Value) (c:Nat),z=.ok (.ret (.ref s.heap.objs.size))/\s'={ s with heap:=h',toks:=tk } /\
   (∀b o,s.heap.get? b=some o->h'.get? b=some o)/\h'.get? s.heap.objs.size=some { cls:=.type "list",dict:=none,data:=.seq acc c,slots:=#[] }/\ItemsOf (λi v=>∃t,v=.int (0+(i:Int) * 1) t) acc n)
  (n:=n) hh (AAC _ hr) (Py hn) R6 (by omega) s.heap.objs.size (.ref s.heap.objs.size) 0 (AAD _ rfl)
  (λh' tk acc c k e it=>⟨h',tk,acc,c,rfl,rfl,λb o z=>k b o (AAf (Heap.lt_size z)) (AAC _ z),e,it⟩)
 refine AAl key (λfin s' z=>?_) λe s' z=>by obtain⟨_,_,_,_,y,_⟩:=z;cases y
 cases fin with
 |done f=>
  obtain⟨h',tk,acc,c,y,rfl,k,e,it⟩:=z;cases y;exact got acc c h' tk k e it
 |again c=>
  refine⟨z.1,codeAny_mono z.2 λf s2 y=>?_⟩;obtain⟨h',tk,acc,c,rfl,rfl,k,e,it⟩:=y;exact got acc c h' tk k e it
end
section
variable{X:Cx}
theorem Ql:Bv X (.type "range") (λxs H Q=>∃n:Nat,xs=[.int n]/\∀p,H p=none->Q (.ref p) (upd H p (.rng 0 n))):=by
 intro pins s σ H xs us Q I r h;obtain⟨n,rfl,q⟩:=h;obtain⟨u,rfl,t,rfl⟩:=Vals.one r;refine call_range_1 ⟨.ref s.heap.objs.size,_,I.laid (o:=.rng 0 n) (λb o e=>AAC _ e) (AAF _) ⟨_,_,_,AAD _ rfl⟩,rfl,q _ (I.hok.fresh (AAF _))⟩
noncomputable abbrev O1(n:Nat):List V:=((List.range n).map Int.ofNat).map V.int
theorem QN(n:Nat):(O1 n).length=n:=by simp
theorem M8(hc:X.calm=true):Bv X (.type "tuple") (λxs H Q=>∃p n,xs=[.ref p]/\H p=some (.rng 0 (n:Nat))/\n<=1000/\∀l,H l=none->Q (.ref l) (upd H l (.tup (O1 n)))):=by
 intro pins s σ H xs us Q I r h;obtain⟨p,n,rfl,hp,hn,q⟩:=h;obtain⟨u,rfl,ru⟩:=Vals.one r;cases ru;obtain⟨t,u,v,e⟩:=I.hok p _ hp;refine callType_codes PySem.F.called_tuple (PySem.F.typeCall_tuple_1 (.ref p)) PySem.F.entry_object_init (Q₁:=λx s₁=>s₁.TypeIs x "tuple" /\ EP X pins σ Q x s₁) ?_ (λx s₁ z=>And.intro z.1 (And.intro (PySem.F.args_object_init_2 x (.ref p)) ?_))
 ·refine codeAny_call_builtin PySem.F.plain_tuple_new PySem.F.entry_tuple_new (AAw (PySem.F.newCall_tuple_1 _) ?_);have a1:=sub_tuple_self;have a2:=init_tuple_lookup;have a3:=madeHere_tuple;have a4:s.TypeIs (.ref p) "range" := ⟨_,e,rfl⟩;unfold Builtin.«tuple.__new__»;have go:∀(A:Around) (Q:List Value->Shared->Prop) (E:Value->Shared->Prop),A.handled=none->(∀h' tk (acc:List Value),(∀b o,s.heap.get? b=some o->h'.get? b=some o)->IntsAre acc ((List.range n).map Int.ofNat)->Q acc { s with heap:=h',toks:=tk })->wpAny (model X.prog X.w) A (collect (.ref p)) Q E s:=λA Q E hh z=>M4 hh e hn z
  wp_walk using go
  ·exact I.ok.hd hc
  ·intro h' tk acc k im;have hl:acc.length=n:=by
    have:=congrArg List.length im.nums;simpa using this
   refine AAA (AAB ?_);unfold Builtin.Tuple.tupleExact;refine AAA (AAs ?_ (by show acc.toArray.size<=sizeLine;rw[sizeLine_eq];simp;omega));have I1:=I.kept (t':=tk) k;refine AAB ⟨⟨_,AAD _ rfl,rfl⟩,.ref h'.objs.size,_,I1.laid (t':=tk) (o:=.tup (O1 n)) (λb o z=>AAC _ z) (AAF _) ⟨by rw[QN,sizeLine_eq];omega,acc,Gv im,IsTup.new _ _⟩,rfl,q _ (I1.hok.fresh (AAF _))⟩
 ·exact object_init_meets PySem.F.called_tuple.init.lookup PySem.F.called_tuple.made (by decide) X.prog X.w X.A.in1 (wants (λr s₂=>r=.none/\EP X pins σ Q x s₂) X.xe) s₁ (And.intro z.1 (And.intro rfl z.2))
end
end L2
namespace Mi
open PySem L2 Ht
noncomputable def O2(n:Nat):List D:=((List.range n).map Int.ofNat).map D.int
noncomputable def SL(how:List D->D)(d:D):M D:=match d with
 | .int j=>λμ=>if 0<=j/\j<=1000 then some (how (O2 j.toNat),μ) else none
 |_=>A5
section
variable{X:Cx}{e:Expr}{pos p p2 pos2:Pos}
theorem U7{T:String}{f:List D->D}{how:List V->HO}{m:Sl->M D}(call:X.calm=true->Bv X (.type T) (λxs H Q=>∃p n,xs=[.ref p]/\H p=some (.rng 0 (n:Nat))/\n<=1000/\∀l,H l=none->Q (.ref l) (upd H l (how (O1 n)))))
  (fin:∀{ι:Nat->Addr} {μ:Mh} {H:Hp} {Q:VK} {ds:List D} {vs:List V},RelH X.kw ι μ H->IsL X.kw ι μ.length H ds vs->(Aft X.kw ι μ H μ λι' H'=>∀v,Is X.kw ι' μ.length H' (f ds) v->Q v H')->∀l,H l=none->Q (.ref l) (upd H l (how vs)))
  (yl:X.mg T=none) (ys:X.mg "range" = none) (bt:bootBuiltins T=some (.type T)) (he:RE X e m) (hc:X.calm=true:=by rfl) (hgl:Gl X T:=by rfl) (hgs:Gl X "range" := by rfl) (hst:F2 e=false:=by rfl) (n1:(T:Str) ≠ "__name__" := by decide) (n2:((T:Str)==("__debug__" : Str))=false:=by decide) :
  RE X (.Call (.Name T p) [.Call (.Name "range" p2) [e] [] pos2] [] pos) (mUn (SL f) m):=by
 have hs:PE X (.Call (.Name "range" p2) [e] [] pos2) _:=FJ Ql hgs ys PyProof.Rows.boot_range (GT he.pe Iq (As hst)) (by decide) (by decide) (As hst) rfl;refine RE.wk (FJ (call hc) hgl yl bt (GT hs Iq (As rfl)) n1 n2 (As rfl) rfl) λσ H Q h=>?_;obtain⟨ι,μ,τ,d,μ',R,S,ev,q⟩:=h;obtain⟨x,μ1,e1,e2⟩:=AI ev;refine⟨ι,μ,τ,x,μ1,R,S,e1,λι1 H1 E1 R1 v1 i1=>?_⟩;cases x with
 |int j=>
  have e3:(if 0<=j/\j<=1000 then some (f (O2 j.toNat),μ1) else none)=some (d,μ'):=e2;split at e3
  ·rename_i hj;cases e3;have z:=BO i1;subst z;have ej:j=((j.toNat:Nat):Int):=by omega
   refine⟨j.toNat,by rw[←ej],λp hp=>?_⟩;obtain⟨E2,R2⟩:=R1.laid (.rng 0 (j.toNat:Nat)) hp;exact⟨p,j.toNat,rfl,BI,by omega,λl hl=>fin R2 (Mo _) (λι' H' E' R'=>q ι' H' ((E1.trans E2).trans E') R') l hl⟩
  ·cases e3
 |_=>cases e2
theorem P8(yl:X.mg "tuple" = none)(ys:X.mg "range" = none)(he:RE X e m)(hc:X.calm=true:=by rfl)(hgl:Gl X "tuple" := by rfl)(hgs:Gl X "range" := by rfl)(hst:F2 e=false:=by rfl):
  RE X (.Call (.Name "tuple" p) [.Call (.Name "range" p2) [e] [] pos2] [] pos) (mUn (SL D.tup) m):=U7 (T := "tuple") (how:=HO.tup) M8 Mf yl ys Mi.B6 he hc hgl hgs hst
end
end Mi
namespace L2
open PySem PySem.Spec PyProof.Rows Sem Ht
theorem OY:fillsNumberSlot (.type "tuple") "mul" = Pure.pure false:=PySem.fillsNumberSlot_seq (id := "tuple.__mul__") (r:=some (.builtin "tuple.__rmul__")) PySem.F.slot_tuple_mul.lookup (by decide +kernel) PySem.F.slot_tuple_rmul.lookup (by decide +kernel)
theorem Rr:seqRepeat? (.type "tuple")=Pure.pure (some (.builtin "tuple.__mul__")):=by
 unfold seqRepeat?;rw[PySem.seqSlot_of (T := "tuple") (name := "__mul__") PySem.F.slot_tuple_mul.lookup (by decide +kernel),PySem.seqSlot_of (T := "tuple") (name := "__rmul__") PySem.F.slot_tuple_rmul.lookup (by decide +kernel)];rfl
section
variable{w:World}{A:Around}{s:Shared}
theorem Rs(a:Int)(t:Tok)(l:Addr)(items:Array Value):Meets (Builtin.«int.__rmul__» ⟨[.int a t,.ref l],[]⟩) (λ_ R s=>IsTup s.heap l items/\R (.ok (.ret Value.notImplemented)) s):=
 .of_wp λprog w A R s h=>by
  obtain⟨⟨o,ho,hc,n,hd⟩,h⟩:=h;have hT:s.TypeIs (.ref l) "tuple" := ⟨o,ho,hc⟩;have z:=PySem.F.sub_tuple_int
  wp_walk
  rw[hd]
  wp_walk
  exact⟨_,rfl,h⟩
theorem XG(l:Addr)(items:Array Value)(k:Int)(t:Tok)(h0:items.isEmpty=false)(h1:1<=k)(h2:k<=1000)(h3:items.size<=1000):
  Meets (Builtin.«tuple.__mul__» ⟨[.ref l,.int k t],[]⟩) (λ_ R s=>IsTup s.heap l items/\(k=1->R (.ok (.ret (.ref l))) s)/\(k≠1->R (.ok (.ret (.ref s.heap.objs.size))) { s with heap:=s.heap.push { cls:=.type "tuple",data:=.seq ((List.replicate k.toNat items).foldl (·++·) #[]) } })):=
 .of_wp λprog w A R s h=>by
  obtain⟨⟨o,ho,hc,n,hd⟩,q1,q2⟩:=h;have hT:s.TypeIs (.ref l) "tuple" := ⟨o,ho,hc⟩;have b1:(items.size:Int) * k<=1000000:=by
   have:=Int.mul_le_mul (show (items.size:Int)<=1000 by omega) h2 (by omega) (by omega);omega
  have c1:(decide (k < -2 ^ 63)||decide (k ≥ 2 ^ 63))=false:=by simp;omega
  have c3:(decide (k<=0)||items.isEmpty)=false:=by rw[h0];simp;omega
  have c5:Builtin.Tuple.tupleTooMany ((items.size:Int) * k)=false:=by
   unfold Builtin.Tuple.tupleTooMany;simp[sizeLine_eq];omega
  unfold Builtin.«tuple.__mul__»
  wp_walk
  rw[c1,if_neg AAi];refine AAA ?_;unfold Builtin.Tuple.tupleItemsOf;refine AAA (AAy ho hd (AAB ?_));rw[h0];by_cases hk:k=1
  ·have c2:(false||k==1)=true:=by simp[hk]
   rw[c2];simp only[↓reduceIte]
   wp_walk
   exact⟨_,rfl,q1 hk⟩
  ·have c2:(false||k==1)=false:=by simp[hk]
   rw[c2];simp only[Bool.false_eq_true,↓reduceIte];rw[Bool.or_false,AAO (show ¬k<=0 by omega)];simp only[Bool.false_eq_true,↓reduceIte];rw[if_neg (show ¬(items.size:Int) * k > (2 ^ 63-1) / 8 by omega),c5];simp only[Bool.false_eq_true,↓reduceIte];unfold Builtin.Tuple.tupleExact;refine AAA (AAs (AAB ⟨_,rfl,q2 hk⟩) ?_);show ((List.replicate k.toNat items).foldl (·++·) #[]).size<=sizeLine;have sz:∀(m:Nat) (z:Array Value),((List.replicate m items).foldl (·++·) z).size=z.size+m * items.size:=by
    intro m
    induction m with
    |zero=>intro z;simp
    |succ m ih=>intro z;rw[AAn,List.foldl_cons,ih,Array.size_append,Nat.succ_mul];omega
   rw[sz,sizeLine_eq];have:((k.toNat * items.size:Nat):Int)=(items.size:Int) * k:=by
    rw[Int.natCast_mul,Int.toNat_of_nonneg (by omega),Int.mul_comm]
   simp;omega
end
theorem JK(its:List Value):∀(m:Nat) (z:List Value),(List.replicate m its.toArray).foldl (·++·) z.toArray=(z++(List.replicate m its).flatten).toArray
 |0,z=>by simp
 |m+1,z=>by
  rw[AAn,List.foldl_cons,List.append_toArray,JK its m,AAn,List.flatten_cons,List.append_assoc]
theorem Vals.reps(r:Vals vs us):∀m:Nat,Vals (List.replicate m vs).flatten (List.replicate m us).flatten
 |0=>.nil
 |m+1=>by
  rw[AAn,List.flatten_cons,AAn,List.flatten_cons];exact r.append (Vals.reps r m)
section
variable{X:Cx}
theorem Vf:OpR X (binaryOp .Mult) (λx y H Q=>∃l k xs,x=.ref l/\y=.int k/\SqT X.kw H l xs/\xs≠[]/\xs.length<=1000/\1<=k/\k<=1000/\(k=1->Q (.ref l) H)/\(k≠1->∀p,H p=none->Q (.ref p) (upd H p (.tup (List.replicate k.toNat xs).flatten)))):=by
 intro pins s σ H x y v u Q I rx ry h;obtain⟨l,k,xs,rfl,rfl,ha,hx,hz,k1,k2,q1,q2⟩:=h;cases rx;obtain⟨t,rfl⟩:=ry;obtain⟨its,r,p,_⟩:=I.tuple ha;have hlen:=r.length;have hT:s.TypeIs (.ref l) "tuple" := by obtain⟨o,e,c,_⟩:=p;exact⟨o,e,c⟩
 have he:its.toArray.isEmpty=false:=by
  cases its with
  |nil=>exact absurd (List.length_eq_zero_iff.mp (by simpa using hlen)) hx
  |cons a b=>rfl
 refine wpAny_binaryOp_repeat_ref (T := "tuple") (U := "int") (by decide) hT (λs'=>typeIs_int s' k t) OY PySem.F.fills_int_mul PySem.F.slot_int_rmul Rr PySem.F.slot_int_index.lookup ?_;refine call_meets PySem.F.slot_int_rmul (typeIs_int s k t) PySem.F.entry_int_rmul (PySem.F.args_int_rmul_2 _ _) (Rs k t l its.toArray) ⟨p,rfl,hT,?_⟩;refine call_meets PySem.F.slot_tuple_mul hT PySem.F.entry_tuple_mul (PySem.F.args_tuple_mul_2 _ _) (XG l its.toArray k t he k1 k2 (by rw[List.size_toArray];omega)) ⟨p,λz=>⟨.ref l,H,I,rfl,q1 z⟩,λz=>?_⟩;have ef:=JK its k.toNat [];rw[List.nil_append] at ef;rw[ef];refine⟨.ref s.heap.objs.size,_,I.laid (t':=s.toks) (o:=.tup (List.replicate k.toNat xs).flatten) (λb ob q=>AAC _ q) (AAF _) ⟨?_,_,r.reps _,IsTup.new _ _⟩,rfl,q2 z _ (I.hok.fresh (AAF _))⟩;rw[O8,sizeLine_eq];have:k.toNat * xs.length<=1000 * 1000:=Nat.mul_le_mul (by omega) hz;omega
end
end L2
namespace Mi
open PySem L2 Ht
noncomputable def Nc(a b:D):M D:=match a,b with
 | .tup ds,.int k=>λμ=>if ds≠[]/\ds.length<=1000/\1<=k/\k<=1000 then some (.tup (List.replicate k.toNat ds).flatten,μ) else none
 |a,b=>EJ a b
section
variable{X:Cx}
theorem X8:OpR X (binaryOp .Mult) (rM X.kw Nc):=λpins s σ H x y v u Q I rx ry h=>by
 obtain⟨ι,μ,a,b,d,μ',R,ia,ib,e,q⟩:=h;unfold Nc at e;split at e
 ·rename_i ds k;split at e
  ·rename_i hc;obtain⟨c1,c2,c3,c4⟩:=hc;cases e;have zb:=BO ib;subst zb;unfold Is at ia;obtain⟨p,vs,rfl,h1,h2⟩:=ia;have hl:=h2.length;refine Vf pins s σ H _ _ v u Q I rx ry ⟨p,k,vs,rfl,rfl,h1,λz=>c1 (List.length_eq_zero_iff.mp (by rw[←hl,z];rfl)),by omega,c3,c4,λz=>?_,λz=>?_⟩
   ·subst z;refine q ι H R.ext0 R _ ?_;unfold Is;exact⟨p,vs,rfl,h1,by simpa using h2⟩
   ·exact Mf R (h2.rep _) q
  ·cases e
 ·exact KJ pins s σ H _ _ v u Q I rx ry ⟨ι,μ,a,b,d,μ',R,ia,ib,e,q⟩
end
end Mi
namespace L2
open PySem PySem.Spec PyProof.Rows
end L2
namespace Mi
open PySem L2
end Mi
namespace L2
open PySem PySem.Spec PyProof.Rows
end L2
namespace Mi
open PySem L2 Ht
section
variable{X:Cx}{e:Expr}{pos:Pos}
def tPk(K:KW)(ks:List Key)(m:Sl->M (List D))(σ:St)(H:Hp)(Q:List (V×V)->Hp->Prop):Prop:=∃ι μ τ ds μ',RelH K ι μ H/\RelS K ι μ.length H τ σ/\m τ μ=some (ds,μ') /\
 Aft K ι μ H μ' λι' H'=>∀vs,IsL K ι' μ'.length H' ds vs->Q ((ks.map kV).zip vs) H'
structure RP(X:Cx)(pos:Pos)(keys:List (Option Expr))(values:List Expr)(ks:List Key)(m:Sl->M (List D)):Prop where
 pe:∃trs,PPs X pos keys values trs/\∀σ H Q,tPk X.kw ks m σ H Q->K7 trs σ H Q
theorem SJ:RP X pos [] [] [] AJ:=⟨[],VO,λσ H Q h=>by
 obtain⟨ι,μ,τ,ds,μ',R,S,e,q⟩:=h;cases e;exact q ι H R.ext0 R [] .nil⟩
theorem FI(h:RE X v mv)(r:RP X pos keys values ks m):RP X pos (some (.Constant (.str k) n p)::keys) (v::values) (.inr k::ks) (AD mv m):=by
 obtain⟨trs,pp,hh⟩:=r.pe;refine⟨(tC (.str k),tE X.kw mv)::trs,Sh Sr h.pe pp,λσ H Q h=>?_⟩;obtain⟨ι,μ,τ,ds,μ',R,S,e,q⟩:=h;obtain⟨x,μ1,e1,e2⟩:=AI e;obtain⟨xs,μ2,e3,e4⟩:=AI e2;cases e4;refine⟨ι,μ,τ,x,μ1,R,S,e1,λι1 H1 E1 R1 v1 i1=>hh _ _ _ ⟨ι1,μ1,τ,xs,_,R1,S.ext E1,e3,λι2 H2 E2 R2 vs i2=>?_⟩⟩;exact q ι2 H2 (E1.trans E2) R2 (v1::vs) (.cons (i1.ext E2) i2)
noncomputable def Fz(ks:List Key)(m:Sl->M (List D)):Sl->M D:=λτ μ=>match m τ (μ++[.dK []]) with
 |some (ds,μ1)=>match μ1[μ.length]? with
  |some (.dK [])=>if ds.length=ks.length then some (.ref μ.length,μ1.set μ.length (.dK (ks.zip ds))) else none
  |_=>none
 |none=>none
theorem O9:∀{ks:List Key} {ds:List D} {vs:List V},IsL K ι k H ds vs->ds.length=ks.length->KVs K ι k H (ks.zip ds) (ks.zip vs)
 |[],[],_,i,_=>by unfold IsL at i;subst i;rfl
 |[],_::_,_,_,h=>by simp at h
 |_::_,[],_,_,h=>by simp at h
 |_::ks,_::ds,_,i,h=>by
  unfold IsL at i;obtain⟨v,vs',rfl,i1,i2⟩:=i;exact⟨v,_,rfl,i1,O9 i2 (by simpa using h)⟩
theorem VG{kvs:List (Key×V)}(h:∀p∈kvs,p.1≠k):DD kvs k v=kvs++[(k,v)]:=by
 unfold DD;rw[if_neg];intro z;obtain⟨p,hp,e⟩:=List.any_eq_true.mp z;exact h p hp (of_decide_eq_true e)
theorem MX:∀{more kvs:List (Key×V)},((kvs++more).map (·.1)).Nodup->C5 kvs more=kvs++more
 |[],kvs,_=>by simp[C5]
 |(k,v)::r,kvs,h=>by
  have hp:∀p∈kvs,p.1≠k:=λp hp z=>by
   rw[AAY,List.nodup_append] at h;exact h.2.2 p.1 (AAM.mpr ⟨p,hp,rfl⟩) k (by simp) z
  show C5 (DD kvs k v) r=_;rw[VG hp,MX (by simpa using h)];simp
theorem II:∀{ks:List Key} {vs:List V},(ks.map kV).zip vs=(ks.zip vs).map λkv=>(kV kv.1,kv.2)
 |[],_=>rfl
 |_::_,[]=>rfl
 |k::ks,v::vs=>by simp[II (ks:=ks) (vs:=vs)]
theorem MH(h:RP X pos keys values ks m)(nd:ks.Nodup:=by decide +kernel)(hall:keys.all (·.isSome)=true:=by rfl)(hl:keys.length=values.length:=by rfl)(h0:keys≠[]:=by simp)(h15:keys.length<=15:=by simp)(hks:ks.length<=15:=by simp):RE X (.Dict keys values pos) (Fz ks m):=by
 obtain⟨trs,pp,hh⟩:=h.pe;refine RE.wk (VY pp hall hl h0 h15) λσ H Q h=>?_;obtain⟨ι,μ,τ,d,μ',R,S,e,q⟩:=h;intro p hp;obtain⟨ι0,E0,R0,e0⟩:=R.grown (m:=.dK []) (o:=.dK []) hp ⟨[],rfl,rfl⟩;unfold Fz at e;split at e
 ·rename_i ds μ1 em;split at e
  ·rename_i en;split at e
   ·rename_i hlen;cases e;refine hh _ _ _ ⟨ι0,μ++[.dK []],τ,ds,μ1,R0,S.ext E0,em,λι1 H1 E1 R1 vs iv=>?_⟩;have hn:μ.length<μ1.length:=(AAU.mp en).1;obtain⟨u,hu,r,rfl,hr⟩:=R1.obj μ.length _ en;have hr':r=[]:=hr;subst hr';have ei:ι1 μ.length=p:=by rw[E1.agree μ.length (by simp),e0]
    rw[ei] at hu;have hvl:=iv.length;have hnd:((ks.zip vs).map (·.1)).Nodup:=by
     rw[List.map_fst_zip (by omega)];exact nd
    refine⟨hu,ks.zip vs,II,by rw[List.length_zip];omega,?_⟩;rw[MX (kvs:=[]) (by simpa using hnd),List.nil_append];obtain⟨E2,R2⟩:=R1.changed (n:=μ.length) (o:=.dK (ks.zip vs)) (m:=.dK (ks.zip ds)) hn ⟨_,rfl,O9 iv hlen⟩;rw[ei] at E2 R2;have E01:Ext ι μ.length H ι1 (μ1.set μ.length (.dK (ks.zip ds))).length (upd H1 p (.dK (ks.zip vs))):=(E0.trans E1).trans E2;refine q ι1 _ E01 R2 _ ?_;unfold Is;exact⟨by simpa using hn,by rw[ei]⟩
   ·cases e
  ·cases e
 ·cases e
end
end Mi
namespace Sq
open PySem PySem.W PyProof.Rows
end Sq
namespace Nk
open PySem PySem.Spec PyProof.Rows HT
end Nk
namespace Hs
open PySem PySem.SetTable
end Hs
namespace Hs
open PySem PySem.SetTable Ht
end Hs
set_option maxHeartbeats 4000000
namespace Hs
open PySem PySem.Spec PyProof.Rows Nk
end Hs
set_option maxHeartbeats 4000000
namespace Hs
open PySem PySem.Spec PyProof.Rows Nk PySem.SetTable Ht
end Hs
set_option maxHeartbeats 4000000
namespace Hs
open PySem PySem.Spec PyProof.Rows Nk PySem.SetTable Ht
end Hs
set_option maxHeartbeats 4000000
namespace Hs
open PySem PySem.Spec PyProof.Rows Nk PySem.SetTable Ht
end Hs
set_option maxHeartbeats 4000000
namespace Hs
open PySem PySem.Spec PyProof.Rows Nk PySem.SetTable Ht
end Hs
set_option maxHeartbeats 4000000
namespace Hs
open PySem PySem.Spec PyProof.Rows Nk PySem.SetTable Ht
end Hs
set_option maxHeartbeats 4000000
namespace Hs
open PySem PySem.Spec PyProof.Rows Sem L2 Nk PySem.SetTable Ht
section
variable{α:Type}[DecidableEq α]
end
end Hs
namespace Hs
open PySem PySem.Spec PyProof.Rows Sem L2 Nk Ht
end Hs
set_option maxHeartbeats 4000000
namespace Nk
open PySem PySem.Spec PyProof.Rows Ht
end Nk
namespace Nk
open PySem PySem.Spec PyProof.Rows L2 Mi
end Nk
namespace Mi
open PySem L2 Ht Nk
end Mi
namespace Hs
open PySem PySem.Spec PyProof.Rows Sem L2 Nk Ht
end Hs
namespace Nk
open PySem PySem.Spec PyProof.Rows PySem.SeqAt
end Nk
set_option maxHeartbeats 4000000
namespace Hs
open PySem PySem.Spec PyProof.Rows PySem.SeqAt Nk Ht
end Hs
set_option maxHeartbeats 4000000
namespace Hs
open PySem PySem.Spec PyProof.Rows Nk PySem.SetTable Ht L2
end Hs
set_option maxHeartbeats 4000000
namespace Hs
open PySem PySem.Spec PyProof.Rows Nk PySem.SetTable Ht L2
end Hs
set_option maxHeartbeats 4000000
namespace Hs
open PySem PySem.Spec PyProof.Rows Nk PySem.SetTable Ht L2
end Hs
namespace Mi
open PySem L2 Ht Nk
section
variable{X:Cx}{e:Expr}
noncomputable def Ca:D->List D->M D
 | .ref n,[]=>IV n λds=>(ds[ds.length-1]?).map λd=>(d,ds.dropLast)
 |_,_=>A5
theorem IsL.dropLast(h:IsL K ι k H ds vs):IsL K ι k H ds.dropLast vs.dropLast:=by
 rw[List.dropLast_eq_take,List.dropLast_eq_take,h.length];exact h.take _
theorem Cq:MtR X "list.pop" (rMM X.kw Ca):=λpins s σ H x xs v us Q I rx rs h=>by
 obtain⟨ι,μ,a,as,d,μ',R,ia,ib,e,q⟩:=h;unfold Ca at e;split at e
 ·rename_i n;obtain⟨ds,es,h1,h2,rfl⟩:=Gw e;cases hd:ds[ds.length-1]? with
  |none=>rw[hd] at h2;cases h2
  |some d0=>
   rw[hd] at h2;cases h2;unfold IsL at ib;subst ib;unfold Is at ia;obtain⟨_,rfl⟩:=ia;obtain⟨u,g1,vs,rfl,g2⟩:=R.obj n _ h1;obtain⟨w,ew,iw⟩:=g2.get hd;refine YB pins s σ H _ _ v us Q I rx rs ⟨_,vs,w,rfl,rfl,g1,by rw[g2.length];exact ew,?_⟩;exact K3 R h1 g2.dropLast iw q
 ·cases e
noncomputable def WR(m:Sl->M D):Sl->M Bool:=λτ=>bnd (m τ) λd=>bnd (B7 d) λds=>ret (!ds.isEmpty)
theorem U2(h:RE X e m)(he:∀whole,isTrue e X.env whole=(do let v ←whole;standAt e.pos;holding [v] (truthy v)):=by intro _;rfl):RT X e (WR m):=RT.wk (Sc h.pe he) λσ H Q q=>by
 obtain⟨ι,μ,τ,b,μ',R,S,e,q⟩:=q;obtain⟨x,μ1,e1,ee1⟩:=AI e;obtain⟨ds,μ2,e2,ee2⟩:=AI ee1;cases ee2;refine⟨ι,μ,τ,x,μ1,R,S,e1,λι1 H1 E1 R1 v1 i1=>?_⟩;obtain⟨hm,p,vs,rfl,g1,g2⟩:=CQ R1 i1 e2;subst hm;have hl:=g2.length;have he:vs.isEmpty=ds.isEmpty:=by
  cases vs<;>cases ds<;>first|rfl|(simp at hl)
 refine⟨!vs.isEmpty,?_,by rw[he];exact q ι1 H1 E1 R1⟩;rcases g1 with g1|g1
 ·exact .inl ⟨vs,g1,rfl⟩
 ·exact .inr (.inl ⟨vs,g1,rfl⟩)
end
end Mi
namespace Mi
open PySem L2 Ht Nk PySem.SeqAt
section
variable{X:Cx}{e st:Expr}{pos p2:Pos}
noncomputable def SS(d k:D):M D:=match k with
 | .int i=>if i=-1 then bnd (By d) λds=>EX ds.reverse else A5
 |_=>A5
theorem XR(he:RE X e m)(hst:RE X st ms):RE X (.Subscript e (.Slice none none (some st) p2) pos) (mOp SS m ms):=RE.wk (Xk he.pe hst.pe) λσ H Q h=>by
 obtain⟨ι,μ,τ,d,μ',R,S,ev,q⟩:=h;obtain⟨x,μ1,e1,e2⟩:=AI ev;obtain⟨y,μ2,e3,e4⟩:=AI e2;refine⟨ι,μ,τ,x,μ1,R,S,e1,λι1 H1 E1 R1 v1 i1=>⟨ι1,μ1,τ,y,μ2,R1,S.ext E1,e3,λι2 H2 E2 R2 v2 i2=>?_⟩⟩;unfold SS at e4;split at e4
 ·rename_i i;split at e4
  ·rename_i hi;subst hi;obtain⟨ds,μ3,e5,e6⟩:=AI e4;obtain⟨hm,a,vs,rfl,h1,h2⟩:=Br R2 (i1.ext E2) e5;subst hm;unfold Is at i2;subst i2;exact⟨rfl,a,vs,rfl,h1,(Oz R2 h2.reverse e6 λι3 H3 E3 R3 v3 i3=>q ι3 H3 ((E1.trans E2).trans E3) R3 v3 i3).2⟩
  ·cases e4
 ·cases e4
end
end Mi
set_option maxHeartbeats 2000000
namespace Mi
open PySem PySem.Spec PyProof.Rows L2 Ht Nk Hs
end Mi
set_option maxHeartbeats 2000000
namespace Mi
open PySem PySem.Spec PyProof.Rows L2 Ht Nk Hs
end Mi
namespace L2
open PySem PySem.Spec PyProof.Rows
end L2
namespace Mi
open PySem L2
end Mi
namespace L2
open PySem PySem.Spec PyProof.Rows Sem Ht
theorem Uo(l:Addr)(items:Array Value)(t:Tok)(h0:items.isEmpty=false):
  Meets (Builtin.«tuple.__mul__» ⟨[.ref l,.int 0 t],[]⟩) (λ_ R s=>IsTup s.heap l items/\R (.ok (.ret (.ref s.heap.objs.size))) { s with heap:=s.heap.push { cls:=.type "tuple",data:=.seq #[] } }):=
 .of_wp λprog w A R s h=>by
  obtain⟨⟨o,ho,hc,n,hd⟩,q⟩:=h;have hT:s.TypeIs (.ref l) "tuple" := ⟨o,ho,hc⟩;unfold Builtin.«tuple.__mul__»
  wp_walk
  rw[hd];refine AAB (AAB ?_);dsimp only;rw[h0];have c2:(false||(0:Int)==1)=false:=by decide
  rw[c2];simp only[Bool.false_eq_true,↓reduceIte];have c3:(decide ((0:Int)<=0)||false)=true:=by decide
  rw[c3];simp only[↓reduceIte];unfold Builtin.Tuple.tupleExact;exact AAA (AAs (AAB ⟨_,rfl,q⟩))
section
variable{X:Cx}
theorem S5:OpR X (binaryOp .Mult) (λx y H Q=>∃l xs,x=.ref l/\y=.int 0/\SqT X.kw H l xs/\xs≠[]/\∀p,H p=none->Q (.ref p) (upd H p (.tup []))):=by
 intro pins s σ H x y v u Q I rx ry h;obtain⟨l,xs,rfl,rfl,ha,hx,q⟩:=h;cases rx;obtain⟨t,rfl⟩:=ry;obtain⟨its,r,p,_⟩:=I.tuple ha;have hlen:=r.length;have hT:s.TypeIs (.ref l) "tuple" := by
  obtain⟨o,e,c,_⟩:=p;exact⟨o,e,c⟩
 have he:its.toArray.isEmpty=false:=by
  cases its with
  |nil=>exact absurd (List.length_eq_zero_iff.mp (by simpa using hlen)) hx
  |cons a b=>rfl
 refine wpAny_binaryOp_repeat_ref (T := "tuple") (U := "int") (by decide) hT (λs'=>typeIs_int s' 0 t) OY PySem.F.fills_int_mul PySem.F.slot_int_rmul Rr PySem.F.slot_int_index.lookup ?_;refine call_meets PySem.F.slot_int_rmul (typeIs_int s 0 t) PySem.F.entry_int_rmul (PySem.F.args_int_rmul_2 _ _) (Rs 0 t l its.toArray) ⟨p,rfl,hT,?_⟩;refine call_meets PySem.F.slot_tuple_mul hT PySem.F.entry_tuple_mul (PySem.F.args_tuple_mul_2 _ _) (Uo l its.toArray t he) ⟨p,?_⟩;exact⟨.ref s.heap.objs.size,_,I.laid (t':=s.toks) (o:=.tup []) (λb ob z=>AAC _ z) (AAF _) ⟨by simp,[],.nil,IsTup.new _ _⟩,rfl,q _ (I.hok.fresh (AAF _))⟩
end
end L2
namespace Mi
open PySem L2 Ht
noncomputable def Io(a b:D):M D:=match a,b with
 | .tup (x::ds),.int 0=>λμ=>some (.tup [],μ)
 |a,b=>Nc a b
section
variable{X:Cx}
theorem Nh:OpR X (binaryOp .Mult) (rM X.kw Io):=λpins s σ H x y v u Q I rx ry h=>by
 obtain⟨ι,μ,a,b,d,μ',R,ia,ib,e,q⟩:=h;unfold Io at e;split at e
 ·rename_i z ds;cases e;have zb:=BO ib;subst zb;unfold Is at ia;obtain⟨p,vs,rfl,h1,h2⟩:=ia;have hl:=h2.length;refine S5 pins s σ H _ _ v u Q I rx ry ⟨p,vs,rfl,rfl,h1,λn=>by rw[n] at hl;simp at hl,?_⟩;exact Mf R IsL.nil q
 ·exact X8 pins s σ H _ _ v u Q I rx ry ⟨ι,μ,a,b,d,μ',R,ia,ib,e,q⟩
end
end Mi
set_option maxHeartbeats 2000000
namespace Xt
open PySem PySem.Spec PyProof.Rows Sem L2 Ht
theorem Gy:∀{vs us:List Value},vs.Perm us->∀{ks:List Str},StrsAre us ks->∃ms,StrsAre vs ms/\ms.Perm ks:=by
 intro vs us p
 induction p with
 |nil=>exact λh=>⟨_,h,.refl _⟩
 |cons x _ ih=>
  intro ks h;cases h with
  |cons y t h=>exact(ih h).elim λm z=>⟨y::m,.cons y t z.1,z.2.cons y⟩
 |swap x y l=>
  intro ks h;cases h with
  |cons a t h=>
   cases h with
   |cons b u h=>exact⟨_,.cons b u (.cons a t h),.swap a b _⟩
 |trans _ _ i1 i2=>
  intro ks h;obtain⟨m,a,b⟩:=i2 h;obtain⟨n,c,d⟩:=i1 a;exact⟨n,c,d.trans b⟩
theorem R7(t:SetTable)(n:Nat):(t.orStandIn n).led=t.led:=by
 unfold SetTable.orStandIn SetTable.standIn;split<;>rfl
theorem NZ(t:SetTable)(n:Nat)(h:t.plain=false):(t.orStandIn n).plain=false:=by
 unfold SetTable.orStandIn SetTable.standIn;split
 ·exact h
 ·rfl
theorem Vo(t:SetTable)(es:Array (Int×Value))(h:Int)(x:Value):(layNew t es h x).2.1.led=t.led/\(t.plain=false->(layNew t es h x).2.1.plain=false):=by
 unfold layNew;split
 ·exact⟨R7 _ _,λz=>NZ _ _ z⟩
 ·exact⟨rfl,λ_=>rfl⟩
theorem P7(t:SetTable)(es:Array (Int×Value))(n:Nat):(relayAll t es n).2.1.led=t.led/\(t.plain=false->(relayAll t es n).2.1.plain=false):=by
 unfold relayAll;split
 ·rename_i t' order e;have f:t'.led=t.led/\t'.plain=t.plain:=by
   unfold SetTable.relaid SetTable.laid at e;simp only[Option.bind_eq_bind,Option.bind_eq_some_iff] at e;obtain⟨a,_,e⟩:=e;cases e;exact⟨rfl,rfl⟩
  dsimp only;split
  ·exact⟨f.1,λz=>f.2.trans z⟩
  ·exact⟨rfl,λ_=>rfl⟩
 ·exact⟨rfl,λ_=>rfl⟩
def SetT(prog:Program)(w:World)(h:Heap)(a:Addr)(ks:List Str):Prop:=
 ∃o es ep t,h.get? a=some o/\o.ExactSet/\o.data=.set es ep t/\ElemsOf (PySem.strKind prog w) es.toList/\(∃ns,StrsAre (es.toList.map (·.2)) ns/\ns.Perm ks)/\t.fits es.size=true/\t.led=!(w.params.followText "set-order")/\(es.size≠0->t.plain=false)
theorem SetT.at(z:SetT prog w h a ks)(k:∀o,h.get? a=some o->h'.get? a=some o):SetT prog w h' a ks:=by
 obtain⟨o,es,ep,t,e,rest⟩:=z;exact⟨o,es,ep,t,k o e,rest⟩
theorem J4{l:Array (Int×Value)}(h:StrsAre (l.toList.map (·.2)) ns)(p:ns.Perm ks):l.size=ks.length:=by
 rw[←p.length_eq,←h.length,AAG,Array.length_toList]
theorem Ur(prog:Program)(w:World):∀{l:List (Int×Value)},StrsAre (l.map (·.2)) ks->∀k:Str,(∃e∈l,(PySem.strKind prog w).is k e.2=true)↔k∈ks:=by
 intro l
 induction l generalizing ks with
 |nil=>intro h k;cases h;simp
 |cons e l ih=>
  intro h k;obtain⟨a,v⟩:=e;have h0:StrsAre (v::l.map (·.2)) _:=h;clear h;cases h0 with
  |cons y t h1=>
   have:=ih h1 k;have hy:(PySem.strKind prog w).is k (.str y t)=true↔k=y:=by
    rw[KeyKind.is_eq_decide (strKind_is prog w y t) k,decide_eq_true_iff]
   rw[AAJ,←this];constructor
   ·rintro⟨e,he,q⟩;rcases AAJ.mp he with rfl|he
    ·exact .inl (hy.mp q)
    ·exact .inr ⟨e,he,q⟩
   ·rintro(z|⟨e,he,q⟩)
    ·exact⟨_,AAQ,hy.mpr z⟩
    ·exact⟨e,AAR _ he,q⟩
section
variable{prog:Program}{w:World}{A:Around}{E:Value->Shared->Prop}{s:Shared}
set_option hygiene false in
local macro_rules | `(tactic| wtm_at "m")=>`(tactic| (
 refine AAA (wpAny_storeSet_of (s:={ s with toks:=s.toks+1 }) ho hd ?_ (by rw[sizeLine_eq];unfold scanBound at room;omega));have ho1:=PM ho hd es1 t2;have sb1:=Heap.SameBut.update s.heap a (Obj.putSet es1 t2);by_cases hf:(!wd&&t2.tooFull)=true
 ·rw[if_pos hf];have rp:=relayAll_perm t2 es1 (SetTable.grown es1.size);have rf:=relayAll_fits t2 es1 (SetTable.grown es1.size);have rl:=P7 t2 es1 (SetTable.grown es1.size);generalize relayAll t2 es1 (SetTable.grown es1.size)=ry at rp rf rl;obtain⟨es3,t3,gv3⟩:=ry;dsimp only at rp rf rl ⊢;have s3:es3.size=es1.size:=by simpa using rp.length_eq
  cases gv3
  all_goals
   first
    |refine AAA (AAB ?_)
    |refine AAA (wpAny_rule ?_)
   refine AAA (wpAny_storeSet_of (s:={ s with heap:=s.heap.update a (Obj.putSet es1 t2),toks:=s.toks+1 }) ho1 rfl ?_ (by rw[sizeLine_eq];unfold scanBound at room;omega));exact AAB (AAB (wrap es3 t3 _ o _ _ (sb1.trans (Heap.SameBut.update _ a _)) (PM ho1 rfl es3 t3) rp rf (rl.1.trans fl.2.1) (rl.2 fl.2.2)))
 ·rw[if_neg hf];exact AAB (AAB (wrap es1 t2 _ o _ _ sb1 ho1 (.refl _) fl.1 fl.2.1 fl.2.2))))
theorem SA(hS:SetT prog w s.heap a ks)(room:ks.length+1<scanBound)
  (q:∀b h' tk,Heap.SameBut a s.heap h'->SetT prog w h' a (if x∈ks then ks else ks++[x])->Q b { s with heap:=h',toks:=tk }) :
  wpAny (model prog w) A (setAdd a (.str x tk)) Q E s:=by
 obtain⟨o,es,ep,t,ho,hex,hd,hel,⟨ns,hen,hp⟩,hfit,hled,hpl⟩:=hS;have hsz:=J4 hen hp;have hb:es.size<scanBound:=by omega
 have kx:=strKind_is prog w x tk;unfold setAdd;refine AAq (AAA ((PySem.strKind prog w).pyHash kx ?_));unfold setAddHashed setAddHashedIn;refine AAq (AAA (AAk (s:={ s with toks:=s.toks+1 }) ho hd hfit ?_));dsimp only;rw[byScan_of (knd:=PySem.strKind prog w) rfl hb hel];simp only[↓reduceIte];unfold setAddByScan;refine AAA ?_;refine AAA (wpAny_rule ?_);refine AAA (wpAny_setScan_of (knd:=PySem.strKind prog w) (s:={ s with toks:=s.toks+1 }) kx ho hd hfit hel ?_);have mem:=Ur prog w hen x;rw[hp.mem_iff] at mem;cases hr:List.findIdx? (λe=>(PySem.strKind prog w).is x e.2) es.toList with
 |some j=>
  dsimp only;obtain⟨hj,hpj,_⟩:=List.findIdx?_eq_some_iff_getElem.mp hr;rw[if_pos (mem.mp ⟨_,List.getElem_mem hj,hpj⟩)] at q;exact AAB (AAB (q _ s.heap _ (Heap.SameBut.refl a s.heap) ⟨o,es,ep,t,ho,hex,hd,hel,⟨ns,hen,hp⟩,hfit,hled,hpl⟩))
 |none=>
  dsimp only;have hm:x∉ks:=λz=>by
   obtain⟨e,he,hq⟩:=mem.mpr z;rw[List.findIdx?_eq_none_iff.mp hr e he] at hq;cases hq
  rw[if_neg hm] at q;have lp:=layNew_perm t es ((PySem.strKind prog w).hash x) (.str x tk);have lf:=layNew_fits t es ((PySem.strKind prog w).hash x) (.str x tk);have ll:=(Vo t es ((PySem.strKind prog w).hash x) (.str x tk)).1;generalize layNew t es ((PySem.strKind prog w).hash x) (.str x tk)=lay at lp lf ll;obtain⟨es1,t1,wd,gv⟩:=lay;dsimp only at lp lf ll ⊢;have s1:es1.size=es.size+1:=by simpa using lp.length_eq
  rw[Array.toList_push] at lp;have hel1:ElemsOf (PySem.strKind prog w) es1.toList:=(hel.push kx rfl).perm lp;have hen0:StrsAre ((es.toList++[((PySem.strKind prog w).hash x,Value.str x tk)]).map (·.2)) (ns++[x]):=by
   rw[AAY];exact StrsAre.append' hen (.cons x tk .nil)
  obtain⟨ms,hen1,hp1⟩:=Gy (lp.map (·.2)) hen0;have hp2:ms.Perm (ks++[x]):=hp1.trans (hp.append_right [x]);have wrap:∀(es2:Array (Int×Value)) (t2:SetTable) (h':Heap) (o2:Obj) (ep2:Nat) (n2:Nat),Heap.SameBut a s.heap h'->h'.get? a=some { o with data:=.set es2 ep2 t2 }->es2.toList.Perm es1.toList->t2.fits es2.size=true->t2.led=t.led->t2.plain=false->Q true { s with heap:=h',toks:=n2 }:=λes2 t2 h' o2 ep2 n2 sb g pm f l pl=>by
   obtain⟨ls,hen2,hp3⟩:=Gy (pm.map (·.2)) hen1;exact q _ _ _ sb ⟨_,es2,ep2,t2,g,hex,rfl,hel1.perm pm,⟨ls,hen2,hp3.trans hp2⟩,f,l.trans hled,λ_=>pl⟩
  have off:∀n,t1.fits n=true->({ t1 with plain:=false }:SetTable).fits n=true:=λn h=>SetTable.fits_plain_off h;cases gv
  all_goals
   first
    |refine AAA (AAB ?_)
    |refine AAA (wpAny_rule ?_)
   by_cases e:t1.plain=true
   ·rw[if_pos e,hashByValue_scannable 8 (x:=.str x tk) rfl];refine AAA (AAB ?_);have pk:plainKind (.str x tk)=false:=rfl;rw[pk];simp only[Bool.false_eq_true,↓reduceIte];have fl:({ t1 with plain:=false }:SetTable).fits es1.size=true/\({ t1 with plain:=false }:SetTable).led=t.led/\({ t1 with plain:=false }:SetTable).plain=false:=⟨off _ lf,ll,rfl⟩;generalize ({ t1 with plain:=false }:SetTable)=t2 at fl;wtm_at "m"
   ·rw[if_neg e];refine AAA (AAB ?_);simp only[↓reduceIte];have fl:t1.fits es1.size=true/\t1.led=t.led/\t1.plain=false:=⟨lf,ll,by simpa using e⟩;generalize t1=t2 at fl;wtm_at "m"
end
end Xt
set_option maxHeartbeats 2000000
namespace Xt
open PySem PySem.Spec PyProof.Rows Sem L2 Ht
section
variable{prog:Program}{w:World}{A:Around}{E:Value->Shared->Prop}{s:Shared}
theorem P0(hh:A.in1.handled=none)(hlI:l≠I)(hSI:S≠I)(hSl:S≠l)(rv:StrsAre its ss)(room:ss.length+1<scanBound):
  ∀(m i:Nat) (s:Shared),ss.length-i=m->i<=ss.length->s.heap.IsListIter I l i->s.heap.IsList l its.toArray->SetT prog w s.heap S (C4 (ss.take i))->
   (∀h' tk,(∀c o,c≠S->c≠I->s.heap.get? c=some o->h'.get? c=some o)->SetT prog w h' S (C4 ss)->R (.ok (.ret .none)) { s with heap:=h',toks:=tk })->
   codeAny (model prog w) A (.builtin "set.update.loop" ⟨[.ref S,.ref I],[]⟩) R s:=by
 have hl:its.toArray.size=ss.length:=by rw[List.size_toArray];exact rv.length
 have W:=Walks.list (prog:=prog) (w:=w) hh I l hlI its.toArray;rw[hl] at W;intro m
 induction m with
 |zero=>
  intro i s hm hi hit hls hS q;cases (show i=ss.length by omega);refine codeAny_builtin PyProof.Rows.F.entry_set_update_loop ?_;rw[Around.under_plainId PyProof.Rows.F.plain_set_update_loop _];refine AAA (m:=pyNext (.ref I)) (W.done s _ _ ⟨hit,hls⟩ λh' tk kp=>AAB ?_);rw[List.take_length] at hS;exact q h' tk (λc o _ c2 e=>kp c o (by simpa using c2) e) (hS.at λo e=>kp S o (by simpa using hSI) e)
 |succ m ih=>
  intro i s hm hi hit hls hS q;have lt:i<ss.length:=by omega
  refine codeAny_builtin PyProof.Rows.F.entry_set_update_loop ?_;rw[Around.under_plainId PyProof.Rows.F.plain_set_update_loop _];refine AAA (m:=pyNext (.ref I)) (W.item i s _ _ lt ⟨hit,hls⟩ λv h' tk hv st kp=>?_);obtain⟨t,e⟩:=StrsAre.at rv (AAv lt);have hv':its[i]?=some v:=by simpa using hv
  cases e.symm.trans hv';have nb:(if ss[i]∈C4 (ss.take i) then C4 (ss.take i) else C4 (ss.take i)++[ss[i]])=C4 (ss.take (i+1)):=by
   rw[List.take_succ,AAv lt,Option.toList_some,QK]
  have le:=Ow (ss.take i);rw[List.length_take] at le;refine AAA (AAq (SA (s:={ s with heap:=h',toks:=tk }) (hS.at λo e=>kp S o (by simpa using hSI) e) (by omega) λb h2 t2 sb hS2=>?_));rw[nb] at hS2;have k2:∀c o,c≠S->h'.get? c=some o->h2.get? c=some o:=λc o hc e=>(sb.2 c hc).trans e;refine AAB ⟨plainId_quiet PyProof.Rows.F.plain_set_update_loop _,ih (i+1) _ (by omega) lt (st.1.at λo e=>k2 I o hSI.symm e) (st.2.at λo e=>k2 l o hSl.symm e) hS2 λh3 t3 kp3 hS3=>?_⟩;exact q h3 t3 (λc o c1 c2 e=>kp3 c o c1 c2 (k2 c o c1 (kp c o (by simpa using c2) e))) hS3
theorem call_setX(hh:A.handled=none)(hl:s.heap.IsList l its.toArray)(rv:StrsAre its ss)(room:ss.length+1<scanBound)
  (q:∀h' tk,(∀c o,s.heap.get? c=some o->h'.get? c=some o)->SetT prog w h' s.heap.objs.size (C4 ss)->Q (.ref s.heap.objs.size) { s with heap:=h',toks:=tk }) :
  wpAny (model prog w) A (call (.type "set") [.ref l]) Q E s:=by
 refine Vm PySem.F.called_set (PySem.F.typeCall_set_1 _) (Ux (.ref l) (Q:=λx s₁=>x=.ref s.heap.objs.size/\s₁={ s with heap:=s.heap.push (Bf !(w.params.followText "set-order")) }) ⟨rfl,rfl⟩) ?_;rintro x s₁ ⟨rfl,rfl⟩;generalize hled:(!(w.params.followText "set-order"))=led;have at_S:(s.heap.push (Bf led)).get? s.heap.objs.size=some (Bf led):=AAD _ rfl;have ty:Shared.TypeIs { s with heap:=s.heap.push (Bf led) } (.ref s.heap.objs.size) "set" := ⟨_,at_S,rfl⟩;have lt:l<s.heap.objs.size:=by
  obtain⟨o,e,_⟩:=hl;exact Heap.lt_size e
 have hl1:(s.heap.push (Bf led)).IsList l its.toArray:=hl.push _;have tyl:Shared.TypeIs { s with heap:=s.heap.push (Bf led) } (.ref l) "list" := hl1.typeIs;refine⟨ty,codeAny_call_builtin PySem.F.called_set.init.plain PySem.F.entry_set_init (check_set_init_1 ty ?_)⟩;have c1:=PySem.F.sub_list_set;have c2:=PySem.F.sub_list_frozenset;unfold Builtin.«set.__init__» noKeywords Builtin.Frozenset.updateFrom;have walk:∀(A:Around) (E:Value->Shared->Prop) (Q:Value->Shared->Prop),Q (.ref (s.heap.push (Bf led)).objs.size) { s with heap:=(s.heap.push (Bf led)).push { cls:=.type "list_iterator",data:=.fields #[.ref l,.int 0 0] } }->wpAny (model prog w) A (pyIter (.ref l)) Q E { s with heap:=s.heap.push (Bf led) }:=λA E Q z=>wpAny_pyIter_list hl1 z
 wp_walk using walk
 have sz:(s.heap.push (Bf led)).objs.size=s.heap.objs.size+1:=Heap.size_push ..;have far:∀{c:Addr},c<s.heap.objs.size->c≠(s.heap.push (Bf led)).objs.size:=λz=>by rw[sz];exact AAf (AAj z)
 refine P0 (l:=l) (ss:=ss) (A:=A.in1.in1) (by simp[hh]) (far lt) (by rw[sz];exact AAf (Nat.lt_succ_self _)) (Nat.ne_of_gt lt) rv room ss.length 0 _ (Nat.sub_zero _) (AAm _) ⟨_,AAD _ rfl,rfl,rfl⟩ (hl1.push _) ?start λh' tk kp hS=>?fin
 case start=>
  refine⟨_,#[],0,_,AAC _ at_S,⟨rfl,rfl,rfl⟩,rfl,?_,⟨[],.nil,.refl _⟩,(Pw led).fits,hled.symm,λz=>absurd rfl z⟩;intro e he;cases he
 case fin=>
  exact AAB (AAB ⟨rfl,q h' tk (λc o e=>kp c o (AAf (Heap.lt_size e)) (far (Heap.lt_size e)) (AAC _ (AAC _ e))) hS⟩)
end
end Xt
set_option maxHeartbeats 2000000
namespace Xt
open PySem PySem.Spec PyProof.Rows Sem L2 Ht
noncomputable def itD(T S:Addr)(i n ep:Nat):Obj:={ cls:=.type "set_iterator",data:=.fields #[.ref T,.int i 0,.ref S,.int n 0,.int ep 0] }
noncomputable def plO(ord:List Nat):Obj:={ cls:=.type "tuple",data:=.seq (ord.map λ(i:Nat)=>rawInt i).toArray }
section
variable{prog:Program}{w:World}{A:Around}{E:Value->Shared->Prop}{s:Shared}
theorem Qh(hn:n≠0)(h:∀i d,i<n->Q i { s with drawn:=d }):wpAny (model prog w) A (choose src n) Q E s:=λΓ p _=>⟨hn,h _ _ (Nat.mod_lt _ (Nat.pos_of_ne_zero hn))⟩
theorem Mw:∀(n:Nat) (xs:List α) (s:Shared) {Q:List α->Shared->Prop},xs.length<=n->(∀ys d,ys.Perm xs->Q ys { s with drawn:=d })->wpAny (model prog w) A (drawOrder n xs) Q E s
 |0,xs,s,Q,h,q=>by
  cases xs with
  |nil=>unfold drawOrder;exact AAB (q [] s.drawn (.refl _))
  |cons x xs=>simp at h
 |n+1,[],s,Q,_,q=>by unfold drawOrder;exact AAB (q [] s.drawn (.refl _))
 |n+1,x::xs,s,Q,h,q=>by
  unfold drawOrder;refine AAA (Qh (by simp) λi d hi=>?_);have e:(x::xs)[i]?=some (x::xs)[i]:=AAv hi;rw[e];dsimp only;refine AAA (Mw n ((x::xs).eraseIdx i) _ (by rw[List.length_eraseIdx_of_lt hi];simp at h ⊢;omega) λys d2 p=>AAB ?_);exact q _ d2 ((p.cons _).trans (F7 _ _ _ e))
theorem TW(hI:s.heap.get? I=some (itD T S i n ep))(h:Q (.ref I) s):wpAny (model prog w) A (pyIter (.ref I)) Q E s:=by
 have hT:s.TypeIs (.ref I) "set_iterator" := ⟨_,hI,rfl⟩;refine wpAny_pyIter_slot hT Hz (AAe Hz hT Mu ?_ (NF _));exact AAB ⟨_,rfl, "set_iterator",_,hT,si_next.lookup,h⟩
theorem Vw(ho:s.heap.get? S=some o)(hex:o.ExactSet)(hd:o.data=.set es ep t)(hf:t.fits es.size=true)(nf:w.params.followText "set-order" = false)(np:t.plain=false)(n1:1<es.size)(n2:es.size<=1000)
  (h:∀ord d,ord.Perm (List.range es.size)->Q (.ref (s.heap.objs.size+1)) { s with drawn:=d,heap:=(s.heap.push (plO ord)).push (itD s.heap.objs.size S 0 es.size ep) }):wpAny (model prog w) A (pyIter (.ref S)) Q E s:=by
 have hT:s.TypeIs (.ref S) "set" := ⟨_,ho,hex.1⟩;refine wpAny_pyIter_slot hT PySem.F.slot_set_iter (AAe PySem.F.slot_set_iter hT Mv ?_ (PySem.F.args_set_iter_1 _));unfold Builtin.«frozenset.__iter__» Builtin.Frozenset.slot0 Builtin.Frozenset.sizeOf setEntries setDrawn setsByText;refine AAA (AAA (AAw (a:=(Value.ref S,[])) rfl (AAB ?_)));refine AAA (AAA (AAA (AAk ho hd hf (AAB (AAB ?_)))));refine AAA (AAA (AAk ho hd hf ?_));dsimp only;refine AAA (AAA (wpAny_askSetting (AAB (AAB ?_))));dsimp only;have e0:(!(w.params.followText "set-order")&&(!t.plain&&decide (es.size > 1)))=true:=by rw[nf,np];simp[n1]
 split
 ·refine AAA (Mw es.size (List.range es.size) s (by simp) λord d p=>?_);have ol:ord.length<=1000:=by rw[p.length_eq,List.length_range];exact n2
  refine AAA (wpAny_newTuple ?_ (by rw[AAG,sizeLine_eq];omega));refine AAA (wpAny_setEpoch_of (AAC _ ho) hd hf ?_);unfold newFields;refine AAA (AAs ?_);have sz:(s.heap.push (plO ord)).objs.size=s.heap.objs.size+1:=Heap.size_push ..;refine AAB ⟨_,rfl, "set_iterator",_,⟨_,AAD _ rfl,rfl⟩,si_next.lookup,?_⟩;have:=h ord d p;rw[←sz] at this;exact this
 ·rename_i z;exact absurd e0 z
theorem TX(hI:s.heap.get? I=some (itD T S i es.size ep))(hT:s.heap.get? T=some (plO ord))(ho:s.heap.get? S=some o)(hd:o.data=.set es ep t)(hf:t.fits es.size=true)
  (hj:ord[i]?=some j) (hx:es[j]?=some x)
  (q:∀h',h'.get? I=some (itD T S (i+1) es.size ep)->Heap.SameBut I s.heap h'->Q (some x.2) { s with heap:=h' }) :
  wpAny (model prog w) A (pyNext (.ref I)) Q E s:=by
 have hTy:s.TypeIs (.ref I) "set_iterator" := ⟨_,hI,rfl⟩;unfold pyNext;refine AAA (AAz (wpAny_callSpecial?_slot (name:=Str.ofString "__next__") hTy si_next (AAe si_next hTy Gd ?_ (Gk _))));unfold Builtin.«set_iterator.__next__»;refine AAA (AAw (a:=(Value.ref I,[])) rfl ?_);refine AAA (wpAny_fieldsOf hI rfl ?_);dsimp only;unfold setEntries;refine AAA (AAA (AAk ho hd hf (AAB ?_)));dsimp only;have e0:((es.size:Int) != (es.size:Int))=false:=by simp
 rw[e0,if_neg AAi];simp only[Int.toNat_natCast];refine AAA (AAy hT rfl ?_);dsimp only;have pj:(ord.map λ(i:Nat)=>rawInt i).toArray[i]?=some (.int (j:Int) 0):=by simp[hj,rawInt]
 rw[pj];dsimp only;unfold setNextDrawn;refine AAA (AAA (AAk ho hd hf ?_));dsimp only;have e1:(ep != ep)=false:=by simp
 rw[e1,if_neg AAi,Int.toNat_natCast,hx];refine AAB ?_;refine AAA (AAr hI (by simp) λh1 g1 s1=>?_);refine AAB ⟨_,rfl,AAB (q h1 ?_ s1)⟩;rw[g1];simp[itD,rawInt]
theorem Vx(hh:A.handled=none)(hI:s.heap.get? I=some (itD T S i es.size ep))(hT:s.heap.get? T=some (plO ord))(ho:s.heap.get? S=some o)(hd:o.data=.set es ep t)(hf:t.fits es.size=true)
  (hj:ord[i]?=none) (q:∀h',(∀b o,b≠I->s.heap.get? b=some o->h'.get? b=some o)->Q none { s with heap:=h' }) :
  wpAny (model prog w) A (pyNext (.ref I)) Q E s:=by
 have hTy:s.TypeIs (.ref I) "set_iterator" := ⟨_,hI,rfl⟩;unfold pyNext;refine AAA (AAz (wpAny_callSpecial?_slot (name:=Str.ofString "__next__") hTy si_next (AAe si_next hTy Gd ?_ (Gk _))));unfold Builtin.«set_iterator.__next__»;refine AAA (AAw (a:=(Value.ref I,[])) rfl ?_);refine AAA (wpAny_fieldsOf hI rfl ?_);dsimp only;unfold setEntries;refine AAA (AAA (AAk ho hd hf (AAB ?_)));dsimp only;have e0:((es.size:Int) != (es.size:Int))=false:=by simp
 rw[e0,if_neg AAi];simp only[Int.toNat_natCast];refine AAA (AAy hT rfl ?_);dsimp only;have pj:(ord.map λ(i:Nat)=>rawInt i).toArray[i]?=none:=by simp at hj ⊢;exact hj
 rw[pj];dsimp only;refine AAA (AAr hI (by simp) λh1 g1 s1=>?_);refine AAA (AAr g1 (by simp) λh2 g2 s2=>?_);refine Im (A:=A.in1) (s:={ s with heap:=h2 }) hh λa h' k ty=>?_;refine AAA (AA0 (T := "StopIteration") (b:=true) ty isSubtype_stop ?_);exact AAB (q h' λb o hb e=>k b o (s2.extBut b o hb (s1.extBut b o hb e)))
theorem XB(hh:A.handled=none)(hSI:S≠I)(hTI:T≠I)(hd:o.data=.set es ep t)(hf:t.fits es.size=true)(hp:ord.Perm (List.range es.size)):
  Walks prog w A I [I,S,T] [I] es.size (λi v=>∃j e,ord[i]?=some j/\es[j]?=some e/\v=e.2) (λi h=>h.get? I=some (itD T S i es.size ep)/\h.get? S=some o/\h.get? T=some (plO ord)) where
 sub:=λb hb=>by simp at hb;simp[hb]
 frame:=λi h h' st k=>⟨k I (by simp) _ st.1,k S (by simp) _ st.2.1,k T (by simp) _ st.2.2⟩
 item:=λi s Q E hi st q=>by
  have ol:ord.length=es.size:=by rw[hp.length_eq,List.length_range]
  have e1:ord[i]?=some (ord[i]'(by omega)):=by simp[ol,hi]
  have lt:ord[i]'(by omega)<es.size:=List.mem_range.mp (hp.mem_iff.mp (List.getElem_mem (by omega)));have e2:es[ord[i]'(by omega)]?=some (es[ord[i]'(by omega)]):=by simp[lt]
  refine TX st.1 st.2.2 st.2.1 hd hf e1 e2 λh' g sb=>?_;exact q _ h' s.toks ⟨_,_,e1,e2,rfl⟩ ⟨g,(sb.2 S hSI).trans st.2.1,(sb.2 T hTI).trans st.2.2⟩ λb o hb e=>(sb.2 b (by simpa using hb)).trans e
 done:=λs Q E st q=>by
  have ol:ord.length=es.size:=by rw[hp.length_eq,List.length_range]
  refine Vx hh st.1 st.2.2 st.2.1 hd hf (by simp[ol]) λh' k=>?_;exact q h' s.toks λb o hb e=>k b o (by simpa using hb) e
 self:=λi s Q E st h=>TW st.1 h
end
end Xt
set_option maxHeartbeats 2000000
namespace Xt
open PySem PySem.Spec PyProof.Rows Sem L2 Ht
section
variable{prog:Program}{w:World}{A:Around}{E:Value->Shared->Prop}{s:Shared}
theorem Nv{ord:List Nat}{es:Array (Int×Value)}{acc:Array Value}(it:ItemsOf (λi v=>∃j e,ord[i]?=some j/\es[j]?=some e/\v=e.2) acc es.size)(hp:ord.Perm (List.range es.size)):acc.toList.Perm (es.toList.map (·.2)):=by
 have ol:ord.length=es.size:=by rw[hp.length_eq,List.length_range]
 have e1:acc.toList=ord.map λj=>(es.toList.map (·.2)).getD j .none:=by
  refine List.ext_getElem? λi=>?_;by_cases hi:i<acc.size
  ·obtain⟨j,e,h1,h2,h3⟩:=it.2 i acc[i] (by simp[hi]);have e0:acc.toList[i]?=some acc[i]:=by simp[hi]
   rw[e0,AAW,h1];simp[h2,h3]
  ·have h1:=it.1;rw[List.getElem?_eq_none (by simp;omega),List.getElem?_eq_none (by simp;omega)]
 have e2:(List.range es.size).map (λj=>(es.toList.map (·.2)).getD j .none)=es.toList.map (·.2):=by
  refine List.ext_getElem? λi=>?_;by_cases hi:i<es.size
  ·simp[hi]
  ·rw[List.getElem?_eq_none (by simp;omega),List.getElem?_eq_none (by simp;omega)]
 rw[e1];exact(hp.map _).trans (by rw[e2])
theorem Tr{S:Addr}{ep:Nat}{es:Array (Int×Value)}{t:SetTable}{o:Obj}{R:List Value->Shared->Prop}(hh:A.handled=none)(ho:s.heap.get? S=some o)(hex:o.ExactSet)(hd:o.data=.set es ep t)(hf:t.fits es.size=true)(nf:w.params.followText "set-order" = false)(np:t.plain=false)(n1:1<es.size)(n2:es.size<=1000)
  (q:∀h' tk d (acc:List Value),(∀b o,s.heap.get? b=some o->h'.get? b=some o)->acc.Perm (es.toList.map (·.2))->R acc { s with heap:=h',toks:=tk,drawn:=d }):wpAny (model prog w) A (collect (.ref S)) R E s:=by
 unfold collect;refine AAA (wpAny_runValue (codeAny_builtin entry_proto_collect' ?_));rw[Around.under_plainId PySem.F.plain_proto_collect _];unfold Builtin.«proto.collect»
 wp_walk
 refine⟨plainId_quiet PySem.F.plain_list_iadd _,codeAny_builtin entry_list_iadd' ?_⟩;rw[Around.under_plainId PySem.F.plain_list_iadd _];obtain⟨h1,e1⟩:∃h1,h1=s.heap.push { cls:=.type "list",data:=.seq #[] }:=⟨_,rfl⟩;have sz:h1.objs.size=s.heap.objs.size+1:=by rw[e1];exact Heap.size_push ..
 have hL:h1.get? s.heap.objs.size=some { cls:=.type "list",data:=.seq #[] }:=by rw[e1];exact AAD _ rfl
 have hS:h1.get? S=some o:=by rw[e1];exact AAC _ ho
 have old:∀b o,s.heap.get? b=some o->h1.get? b=some o:=λb o e=>by rw[e1];exact AAC _ e
 have ltS:=Heap.lt_size ho;rw[←e1];have tS:Shared.TypeIs { s with heap:=h1 } (.ref S) "set" := ⟨_,hS,hex.1⟩;have iter:∀(A:Around) (E:Value->Shared->Prop) (Q:Value->Shared->Prop),(∀ord d,ord.Perm (List.range es.size)->Q (.ref (h1.objs.size+1)) { s with drawn:=d,heap:=(h1.push (plO ord)).push (itD h1.objs.size S 0 es.size ep) })->wpAny (model prog w) A (pyIter (.ref S)) Q E { s with heap:=h1 }:=λA E Q z=>Vw (s:={ s with heap:=h1 }) hS hex hd hf nf np n1 n2 z;unfold Builtin.«list.__iadd__»
 wp_walk using iter
 have ne:Builtin.List.listSameRef (.ref s.heap.objs.size) (.ref S)=false:=by
  simp[Builtin.List.listSameRef];exact λz=>absurd ltS (by rw[←z];exact AA2 _)
 rw[ne,if_neg (by decide)];refine AAA (iter _ _ _ λord d p=>?_);have sz2:(h1.push (plO ord)).objs.size=h1.objs.size+1:=Heap.size_push ..;have up:∀b o,h1.get? b=some o->((h1.push (plO ord)).push (itD h1.objs.size S 0 es.size ep)).get? b=some o:=λb o e=>AAC _ (AAC _ e);have hI:((h1.push (plO ord)).push (itD h1.objs.size S 0 es.size ep)).get? (h1.objs.size+1)=some (itD h1.objs.size S 0 es.size ep):=by
  rw[←sz2];exact AAD _ rfl
 have hT:((h1.push (plO ord)).push (itD h1.objs.size S 0 es.size ep)).get? h1.objs.size=some (plO ord):=AAC _ (AAD _ rfl);generalize (h1.push (plO ord)).push (itD h1.objs.size S 0 es.size ep)=h2 at up hI hT;refine AAA (AAq (L5 (s:={ s with drawn:=d,heap:=h2 }) ⟨_,up _ _ hS,hex.1⟩ ?_));rw[if_pos (by decide +kernel)];refine AAA (wpAny_rule ?_);unfold Builtin.List.listTouch;have hL2:=up _ _ hL
 wp_walk
 have f1:=Heap.get?_update_self (Obj.mapSeq λx=>x.push Value.none) hL2 rfl;have f2:=Heap.get?_update_self (Obj.mapSeq λx=>x.pop) f1 rfl;have far:∀b o,b≠s.heap.objs.size->h2.get? b=some o->((h2.update s.heap.objs.size (Obj.mapSeq λx=>x.push Value.none)).update s.heap.objs.size (Obj.mapSeq λx=>x.pop)).get? b=some o:=λb o hb e=>(Heap.get?_update_other _ _ (Ne.symm hb)).trans ((Heap.get?_update_other _ _ (Ne.symm hb)).trans e);generalize (h2.update s.heap.objs.size (Obj.mapSeq λx=>x.push Value.none)).update s.heap.objs.size (Obj.mapSeq λx=>x.pop)=h3 at f2 far;have n1:S≠h1.objs.size+1:=AAf (by rw[sz];exact AAj (AAj ltS));have n2':h1.objs.size≠h1.objs.size+1:=AAf (Nat.lt_succ_self _);have n3:S≠s.heap.objs.size:=AAf ltS;have n4:h1.objs.size≠s.heap.objs.size:=Nat.ne_of_gt (by rw[sz];exact Nat.lt_succ_self _);have n5:h1.objs.size+1≠s.heap.objs.size:=Nat.ne_of_gt (by rw[sz];exact AAj (Nat.lt_succ_self _));have W:=XB (prog:=prog) (w:=w) (A:=A.in1) (I:=h1.objs.size+1) (T:=h1.objs.size) (S:=S) (ep:=ep) (by simp[hh]) n1 n2' hd hf p;refine⟨plainId_quiet PySem.F.plain_extend_loop _,codeAny_extend_loopS W.toS (by rw[sizeLine_eq];omega) s.heap.objs.size (by simp[n3.symm,n4.symm,n5.symm]) _ es.size 0 _ #[] _ rfl (AAm _) ⟨far _ _ n5 hI,far _ _ n3 (up _ _ hS),far _ _ n4 hT⟩ f2 (ItemsOf.nil _) λs' acc' c' hm hS' hacc=>?_⟩;dsimp only;refine AAA (wpAny_load hS' (AAB ?_));rw[Moved.eq_with hm];refine q s'.heap s'.toks d acc'.toList (λb o e=>hm.heap b o (λz=>?_) (far _ _ (AAf (Heap.lt_size e)) (up _ _ (old b o e)))) (Nv hacc p);have lt:=Heap.lt_size e;rcases AAJ.mp z with z|z
 ·rw[z] at lt;exact AA2 _ lt
 ·rw[AAL.mp z,sz] at lt;exact absurd lt (Nat.not_lt.mpr (Nat.le_succ_of_le (Nat.le_succ _)))
end
end Xt
set_option maxHeartbeats 2000000
namespace Xt
open PySem PySem.Spec PyProof.Rows Sem L2 Ht
theorem U4{xs:Array Nat}(h:xs.size<=1):Ris xs.toList:=by
 obtain⟨l⟩:=xs
 match l,h with
 |[],_=>exact List.Pairwise.nil
 |[x],_=>exact List.pairwise_singleton _ _
 |_::_::_,h=>simp at h
section
variable{prog:Program}{w:World}{A:Around}{E:Value->Shared->Prop}{s:Shared}
theorem Tq(hh:A.handled=none)(hS:SetT prog w s.heap S ks)(hk:ks.length<=1000)
  (q:∀h' tk d (acc:List Value) ms,(∀b o,s.heap.get? b=some o->h'.get? b=some o)->StrsAre acc ms->ms.Perm ks->R acc { s with heap:=h',toks:=tk,drawn:=d }):wpAny (model prog w) A (collect (.ref S)) R E s:=by
 obtain⟨o,es,ep,t,ho,hex,hd,hel,⟨ns,hen,hp⟩,hfit,hled,hpl⟩:=hS;have hsz:=J4 hen hp;have fin:∀h' tk d (acc:List Value),(∀b o,s.heap.get? b=some o->h'.get? b=some o)->acc.Perm (es.toList.map (·.2))->R acc { s with heap:=h',toks:=tk,drawn:=d }:=λh' tk d acc k p=>by
  obtain⟨ms,m1,m2⟩:=Gy p hen;exact q h' tk d acc ms k m1 (m2.trans hp)
 by_cases dr:w.params.followText "set-order" = false/\1<es.size
 ·exact Tr hh ho hex hd hfit dr.1 (hpl (by omega)) dr.2 (by omega) fin
 ·have pz:t.place.size=es.size:=by
   have z:=hfit;unfold SetTable.fits at z;simp only[Bool.and_eq_true,beq_iff_eq] at z;exact z.1
  have T:Wt w t es.size:=by
   refine⟨hfit,λnf=>?_⟩;have le:es.size<=1:=Nat.not_lt.mp λz=>dr ⟨nf,z⟩;exact⟨U4 (by omega),by rw[AAO (by omega)];simp⟩
  refine PySem.W.kdu_collect (A:=A) (Ut (S:=S) hex hd T hled) hh ho (by rw[sizeLine_eq];omega) λh1 t1 acc k1 it=>?_;have hacc:acc.toList=(wv w S ep es).toList.map (·.2):=by
   refine List.ext_getElem? λi=>?_;by_cases hi:i<acc.size
   ·obtain⟨e,h1,h2⟩:=it.2 i acc[i] (by simp[hi]);have:acc.toList[i]?=some acc[i]:=by simp[hi]
    rw[this,h2,AAW,Array.getElem?_toList,h1];rfl
   ·have h1:=it.1;have h2:=Hu w S ep es;rw[List.getElem?_eq_none (by simp;omega),List.getElem?_eq_none (by simp;omega)]
  exact fin h1 t1 s.drawn acc.toList k1 (by rw[hacc];exact(OQ w S ep es).map _)
theorem L3(hh:A.handled=none)(h64:ks.length<64)(hS:SetT prog w s.heap S ks)
  (q:∀(h1 h':Heap) tk d c (out:Array Value) ms,(∀b o,s.heap.get? b=some o->h1.get? b=some o)->(∀b o,h1.get? b=some o->h'.get? b=some o)->h'.get? h1.objs.size=some (seqObj "list" out c)->StrsAre out.toList ms->ms.Perm ks->sortedS ms=true->Q (.ref h1.objs.size) { s with heap:=h',toks:=tk,drawn:=d }) :
  wpAny (model prog w) A (call (.builtin "sorted") [.ref S]) Q E s:=by
 refine Calls.call_function_entry kind_sorted plain_sorted entry_sorted (args_sorted1 _) ?_;unfold Builtin.«sorted»;refine AAA (AAw (a:=()) rfl ?_);refine AAA (Tq (A:=A.in1) hh hS (by omega) λh1 t1 d acc ms k1 im pm=>?_);have hlen:acc.length<64:=by rw[im.length,pm.length_eq];exact h64
 refine AAA (wpAny_newList ?_ (by rw[sizeLine_eq];omega));have hL:(h1.push (seqObj "list" acc.toArray 0)).get? h1.objs.size=some (seqObj "list" acc.toArray 0):=AAD _ rfl;have kL:∀b o,h1.get? b=some o->(h1.push (seqObj "list" acc.toArray 0)).get? b=some o:=λb o e=>AAC _ e;refine AAA (AAq (AAe slot_list_sort ⟨_,hL,rfl⟩ entry_list_sort (list_sort_treeK strKind_oneLt hL im.keysOf (λv₁ v₂ rest e=>keyKind_strs (by rw[←e];exact im)) hlen λst' hp hs=>⟨_,rfl,?_⟩) (args_list_sort _)));obtain⟨ss',a1,a2,a3⟩:=sorted_out_str im hp hs;obtain⟨c,hc⟩:=sortedHeap_at (out:=(arrOf st').map (·.2)) hL;exact AAB ⟨_,rfl,q h1 _ _ d c _ ss' k1 (λb o e=>by rw[sortedHeap_old (AAf (Heap.lt_size e)) (Heap.lt_size (kL b o e))];exact kL b o e) hc a1 (a2.trans pm) a3⟩
end
noncomputable abbrev sl(x:Str):List Nat:=x.cps.toList
theorem XO(h:sl x=sl y):x=y:=by
 obtain⟨⟨a⟩⟩:=x;obtain⟨⟨b⟩⟩:=y;have h:a=b:=h;rw[h]
theorem Rz(h:¬sl x<sl y)(n:x≠y):sl y<sl x:=by
 refine Classical.byContradiction λz=>n (XO (List.le_antisymm ?_ ?_))
 ·exact List.not_lt.mp z
 ·exact List.not_lt.mp h
noncomputable def HC(x:Str):List Str->List Str
 |[]=>[x]
 |y::ys=>if sl x<sl y then x::y::ys else if x=y then y::ys else y::HC x ys
noncomputable def CF(xs:List Str):List Str:=xs.foldr HC []
theorem JI(x k:Str):∀ys:List Str,k∈HC x ys↔k=x∨k∈ys
 |[]=>by simp[HC]
 |y::ys=>by
  unfold HC;split
  ·simp
  ·split
   ·rename_i e;subst e;simp
   ·rw[AAJ,JI x k ys,AAJ];constructor<;>(intro z;rcases z with z|z|z<;>simp[z])
theorem PK(x:Str):∀{ys:List Str},ys.Pairwise (λa b=>sl a<sl b)->(HC x ys).Pairwise λa b=>sl a<sl b
 |[],_=>by simp[HC]
 |y::ys,h=>by
  obtain⟨h1,h2⟩:=AA3.mp h;unfold HC;split
  ·rename_i hx;exact AA3.mpr ⟨λz hz=>(AAJ.mp hz).elim (λe=>e ▸ hx) λm=>List.lt_trans hx (h1 z m),h⟩
  ·rename_i hx;split
   ·exact h
   ·rename_i ne;refine AA3.mpr ⟨λz hz=>?_,PK x h2⟩;rcases(JI x z ys).mp hz with rfl|m
    ·exact Rz hx ne
    ·exact h1 z m
theorem GN(xs:List Str)(k:Str):k∈CF xs↔k∈xs:=by
 unfold CF
 induction xs with
 |nil=>simp
 |cons x xs ih=>rw[List.foldr_cons,JI,ih,AAJ]
theorem Of(xs:List Str):(CF xs).Pairwise λa b=>sl a<sl b:=by
 unfold CF
 induction xs with
 |nil=>exact .nil
 |cons x xs ih=>exact PK x ih
theorem WL{α:Type}{r:α->α->Prop}(asym:∀x y,r x y->r y x->False):∀{xs ys:List α},xs.Pairwise r->ys.Pairwise r->xs.Perm ys->xs=ys
 |[],ys,_,_,p=>p.nil_eq
 |x::xs,[],_,_,p=>by cases p.length_eq
 |x::xs,y::ys,a,b,p=>by
  obtain⟨a1,a2⟩:=AA3.mp a;obtain⟨b1,b2⟩:=AA3.mp b;have e:x=y:=by
   rcases AAJ.mp (p.mem_iff.mp AAQ) with z|z
   ·exact z
   ·rcases AAJ.mp (p.mem_iff.mpr AAQ) with z2|z2
    ·exact z2.symm
    ·exact(asym x y (a1 y z2) (b1 x z)).elim
  subst e;rw[WL asym a2 b2 p.cons_inv]
theorem WG:∀(p:Str) (l:List Str),risingS p l=true->(p::l).Pairwise λa b=>¬sl b<sl a
 |p,[],_=>List.pairwise_singleton _ _
 |p,x::r,h=>by
  have h':(!ltCps x.cps.toList p.cps.toList&&risingS x r)=true:=h;rw[Bool.and_eq_true,ltCps_eq] at h';have h1:¬sl x<sl p:=by simpa using h'.1
  have ih:=WG x r h'.2;refine AA3.mpr ⟨λz hz=>?_,ih⟩;rcases AAJ.mp hz with rfl|hz
  ·exact h1
  ·have h2:=(AA3.mp ih).1 z hz;exact List.not_lt.mpr (List.le_trans (List.not_lt.mp h1) (List.not_lt.mp h2))
theorem Us{ms ns:List Str}(nd:ms.Nodup)(hm:∀k,k∈ms↔k∈ns)(h:sortedS ms=true):ms=CF ns:=by
 have up:ms.Pairwise λa b=>¬sl b<sl a:=by
  cases ms with
  |nil=>exact .nil
  |cons p l=>exact WG p l h
 have lt:ms.Pairwise λa b=>sl a<sl b:=(List.pairwise_and_iff.mpr ⟨up,nd⟩).imp λz=>Rz z.1 (Ne.symm z.2);have nd2:(CF ns).Nodup:=(Of ns).imp λz e=>by
  rw[e] at z;exact List.lt_irrefl _ z
 refine WL (λx y a b=>List.lt_irrefl _ (List.lt_trans a b)) lt (Of ns) ((List.perm_ext_iff_of_nodup nd nd2).mpr λk=>?_);rw[hm,GN]
theorem Ni(xs:List Str):(C4 xs).Nodup/\∀k,k∈C4 xs↔k∈xs:=by
 suffices h:∀(xs ys:List Str),ys.Nodup->(xs.foldl (λys x=>if x∈ys then ys else ys++[x]) ys).Nodup/\∀k,k∈xs.foldl (λys x=>if x∈ys then ys else ys++[x]) ys↔k∈ys∨k∈xs by
  have:=h xs [] List.nodup_nil;exact⟨this.1,λk=>(this.2 k).trans (by simp)⟩
 intro xs
 induction xs with
 |nil=>intro ys nd;exact⟨nd,λk=>by simp⟩
 |cons x xs ih=>
  intro ys nd;rw[List.foldl_cons];by_cases z:x∈ys
  ·rw[if_pos z];obtain⟨a,b⟩:=ih ys nd;refine⟨a,λk=>(b k).trans ?_⟩;rw[AAJ];exact⟨λq=>q.elim .inl λq=>.inr (.inr q),λq=>q.elim .inl λq=>q.elim (λe=>.inl (e ▸ z)) .inr⟩
  ·rw[if_neg z];obtain⟨a,b⟩:=ih (ys++[x]) (List.nodup_append.mpr ⟨nd,by simp,λu hu v hv=>by rw[AAL.mp hv];exact λe=>z (e ▸ hu)⟩);refine⟨a,λk=>(b k).trans ?_⟩;rw[AAK,AAL,AAJ,or_assoc]
end Xt
namespace L2
open PySem PySem.Spec PyProof.Rows Sem Ht Xt
noncomputable def U0(P:Program)(w:World)(p:Addr)(ks:List Str):HO:=.ext λh=>SetT P w h p ks
theorem Oe:∀{ss:List Str} {us:List Value},Vals (ss.map V.str) us->StrsAre us ss
 |[],us,h=>by cases h;exact .nil
 |s::ss,us,h=>by
  rw[AAX] at h;cases h with
  |cons r h=>
   obtain⟨t,rfl⟩:=r;exact .cons s t (Oe h)
theorem J2:∀{us:List Value} {ss:List Str},StrsAre us ss->Vals (ss.map V.str) us
 |_,_,.nil=>.nil
 |_,_,.cons y t h=>.cons ⟨t,rfl⟩ (J2 h)
section
variable{X:Cx}
theorem Inv.draw(I:Inv X pins σ H s)(d:Drawn):Inv X pins σ H { s with drawn:=d }:=⟨I.ok,I.os,I.bare,I.base,I.loc,I.cell,I.free,I.freeC,I.pin,I.hok,I.len⟩
theorem call_setX(hc:X.calm=true):Bv X (.type "set") (λxs H Q=>∃a ss,xs=[.ref a]/\SqL X.kw H a (ss.map V.str)/\ss.length+1<scanBound/\∀p,H p=none->Q (.ref p) (upd H p (U0 X.prog X.w p (C4 ss)))):=by
 intro pins s σ H xs us Q I r h;obtain⟨a,ss,rfl,ha,room,q⟩:=h;obtain⟨u,rfl,ru⟩:=Vals.one r;cases ru;obtain⟨its,rv,pl,hz⟩:=I.list ha;refine Xt.call_setX (I.ok.hd hc) pl.isList (Oe rv) room λh' tk kp hS=>?_;refine⟨.ref s.heap.objs.size,_,I.laid (o:=U0 X.prog X.w s.heap.objs.size (C4 ss)) kp (AAF _) ?_,rfl,q _ (I.hok.fresh (AAF _))⟩;obtain⟨o,es,ep,t,e,rest⟩:=id hS;exact⟨hS,⟨o,e⟩,λh1 h2 z k=>z.at k⟩
theorem N9(hc:X.calm=true):Bv X (.builtin "sorted") (λxs H Q=>∃p ss,xs=[.ref p]/\H p=some (U0 X.prog X.w p (C4 ss))/\(C4 ss).length<64/\∀l,H l=none->Q (.ref l) (upd H l (.lst ((CF ss).map V.str)))):=by
 intro pins s σ H xs us Q I r h;obtain⟨p,ss,rfl,hp,h64,q⟩:=h;obtain⟨u,rfl,ru⟩:=Vals.one r;cases ru;obtain⟨hS,_⟩:=I.hok p _ hp;refine L3 (I.ok.hd hc) h64 hS λh1 h' tk d c out ms k1 k2 e1 im pm sm=>?_;obtain⟨nd,mem⟩:=Ni ss;have em:=Us (pm.nodup_iff.mpr nd) (λk=>pm.mem_iff.trans (mem k)) sm;subst em;have I1:=I.kept (t':=tk) k1;have rv:=J2 im;have I2:=I1.laid (t':=tk) (o:=.lst ((CF ss).map V.str)) k2 (AAF _) ⟨by rw[AAG,pm.length_eq,sizeLine_eq];omega,out.toList,c,rv,e1⟩;exact⟨.ref h1.objs.size,_,I2.draw d,rfl,q _ (I1.hok.fresh (AAF _))⟩
end
end L2
namespace Mi
open PySem L2 Ht Xt
noncomputable def FG(d:D):M D:=bnd (By d) λds=>λμ=>match HV ds with
 |some ss=>if ss.length<=1000/\(C4 ss).length<64 then some (.lst ((CF ss).map D.str),μ) else none
 |none=>none
theorem Mn:∀ss:List Str,IsL K ι k H (ss.map D.str) (ss.map V.str)
 |[]=>IsL.nil
 |n::r=>by
  rw[AAX,AAX];unfold IsL;exact⟨_,_,rfl,ofS _,Mn r⟩
section
variable{X:Cx}{e:Expr}{pos p p2 pos2:Pos}
theorem MF(yl:X.mg "sorted" = none)(ys:X.mg "set" = none)(he:RE X e m)(hc:X.calm=true:=by rfl)(hgl:Gl X "sorted" := by rfl)(hgs:Gl X "set" := by rfl)(hst:F2 e=false:=by rfl):
  RE X (.Call (.Name "sorted" p) [.Call (.Name "set" p2) [e] [] pos2] [] pos) (mUn FG m):=by
 have hs:PE X (.Call (.Name "set" p2) [e] [] pos2) _:=FJ (call_setX hc) hgs ys Mi.Tx (GT he.pe Iq (As hst)) (by decide) (by decide) (As hst) rfl;refine RE.wk (MM (N9 hc) hgl yl PyProof.Rows.boot_sorted (GT hs Iq (As rfl)) (by decide) (by decide) (As rfl) rfl) λσ H Q h=>?_;obtain⟨ι,μ,τ,d,μ',R,S,ev,q⟩:=h;obtain⟨x,μ1,e1,e2⟩:=AI ev;obtain⟨ds,μ2,e3,e4⟩:=AI e2;refine⟨ι,μ,τ,x,μ1,R,S,e1,λι1 H1 E1 R1 v1 i1=>?_⟩;obtain⟨hm,a,vs,rfl,h1,h2⟩:=Br R1 i1 e3;subst hm;cases hx:HV ds with
 |none=>rw[hx] at e4;cases e4
 |some ss=>
  rw[hx] at e4;have e5:(if ss.length<=1000/\(C4 ss).length<64 then some (D.lst ((CF ss).map D.str),μ2) else none)=some (d,μ'):=e4;split at e5
  ·rename_i room;cases e5;have ev:=L0 h2 hx;subst ev;refine⟨a,ss,rfl,h1,by unfold scanBound;omega,λp hp=>?_⟩;obtain⟨E2,R2⟩:=R1.laid (U0 X.prog X.w p (C4 ss)) hp;exact⟨p,ss,rfl,BI,room.2,λl hl=>WT R2 (Mn _) (λι' H' E' R'=>q ι' H' ((E1.trans E2).trans E') R') l hl⟩
  ·cases e5
end
end Mi
namespace Mi
open PySem L2
open Pk in
theorem S9(hr:Room k X.A):OpR X (compareOp .NotIn) (rM X.kw (Jr true)):=λpins s σ H x y v u Q I rx ry h=>by
 obtain⟨ι,μ,a,b,d,μ',R,ia,ib,e,q⟩:=h;obtain⟨ds,μ1,e1,e2⟩:=AI e;obtain⟨hm,p,vs,rfl,h1,h2⟩:=CQ R ib e1;subst hm;split at e2
 ·rename_i hz;cases e2;cases ry;have hx:=Ko I hz.1 ia rx;have hu:X.A.in1.units+8<cLine:=KC hr;rcases h1 with h1|h1
  ·obtain⟨its,rv,pl,_⟩:=I.list h1;have hA:=HM I hz.2.1 h2 rv;refine PySem.SeqAt.notIn_listAt (FP s.heap a) pl.isList (λw hw=>Iy (A:=X.A.in1) hu hx hz.2.2 hA w (by simpa using hw)) ⟨.bl _,H,I,rfl,?_⟩;rw[show its.toArray.any (FP s.heap a)=its.any (FP s.heap a) by simp,JZ hA];exact q ι H R.ext0 R _ (ofB _)
  ·obtain⟨its,rv,pl,_⟩:=I.tuple h1;have hA:=HM I hz.2.1 h2 rv;refine PySem.SeqAt.notIn_tupleAt (FP s.heap a) pl (λw hw=>Iy (A:=X.A.in1) hu hx hz.2.2 hA w (by simpa using hw)) ⟨.bl _,H,I,rfl,?_⟩;rw[show its.toArray.any (FP s.heap a)=its.any (FP s.heap a) by simp,JZ hA];exact q ι H R.ext0 R _ (ofB _)
 ·cases e2
end Mi
namespace K23
open PySem L2 Mi
noncomputable def C9:D:=.int (-1)
noncomputable def HK:D:=.int (-1)
noncomputable def Gx:List (Str×List Str):=[("put",["box", "expression"]),("get",["variable", "box"]),("let",["variable", "expression"]),("unless",["expression", "target"]),("jump",["target"]),("tell",["expression"]),("done",[])]
noncomputable def Hw:Str->Option D:=K6 Gx
noncomputable def DA:D:=.int 9
noncomputable def Ce:D:=.tup [.str "let",.str "jump",.str "unless"]
noncomputable abbrev fuel:Nat:=10000
noncomputable def Jo  : Sl->M (Fl×Sl):=
  (AQ (Ab (mOp FY (AH FO (AD (mOp AN (AC 0) (mC (.int 4))) AJ)) (mC (.int 1))) (AM 1))
  (AQ (sIf (AS (mOp Ai (mOp AN (AC 0) (mC (.int 0))) (mC (.str "whole")))) (Ae (AH Ah (AD (AH Ah (AD (mOp AN (AC 0) (mC (.int 2))) (AD (mC C9) (AD (mOp Io (AH Ah (AD (mC C9) AJ)) (AC 1)) AJ)))) AJ))) Ak)
  (Ae (AH Ah (AD (mOp AN (AC 0) (mC (.int 2))) (AD (mC C9) (AD (mOp Io (AH Ah (AD (mC .non) AJ)) (AC 1)) AJ)))))))
noncomputable def JC(bQ:List D->M D)(bF:List D->M D)(bP:List D->M D):Sl->M (Fl×Sl):=
  (AQ (sIf (AS (mOp Ai (mOp AN (AC 0) (mC (.int 0))) (mC (.str "whole")))) (Ae (AH bF (AD (Cr 1 [2] (De (AC 1)) (AM 0) Dd (AH bQ (AD (AC 0) (AD (mC (.int 0)) (AD (AC 1) AJ)))) Ba) AJ))) Ak)
  (AQ (Ab (Cr 1 [0,2] (De (mOp AN (AC 1) (mC (.int 2)))) (AM 0) Dd (mIf (AS (mOp (EW false) (AC 0) (mC .non))) (AC 0) (AH bP (AD (mOp AN (AC 1) (mC (.int 0))) (AD (mOp AN (AC 1) (mC (.int 1))) (AD (AC 0) (AD (AC 2) AJ)))))) Ba) (AM 3))
  (Ae (AH Ah (AD (mOp AN (AC 1) (mC (.int 0))) (AD (AC 2) (AD (AH Ds (AD (AC 3) AJ)) AJ)))))))
noncomputable def Hm(bM:List D->M D)(bF:List D->M D):Sl->M (Fl×Sl):=
  (AQ (sIf (AS (mOp Ai (mOp AN (AC 0) (mC (.int 0))) (mC (.str "whole")))) (Ae (AH bF (AD (AH bM (AD (AC 1) (AD (mC (.int 0)) (AD (mC C9) AJ)))) AJ))) Ak)
  (Ae (AH Ah (AD (mOp AN (AC 1) (mC (.int 1))) (AD (mC C9) (AD (mOp AN (AC 1) (mC (.int 2))) AJ))))))
noncomputable def Jn(bQ:List D->M D)(bF:List D->M D)(bP:List D->M D)(bB:List D->M D):Sl->M (Fl×Sl):=
  (AQ (sIf (AS (mOp Ai (mOp AN (AC 0) (mC (.int 0))) (mC (.str "whole")))) (Ae (AH bF (AD (Cr 1 [2] (De (AC 1)) (AM 0) Dd (AH bQ (AD (AC 0) (AD (mOp Av (AC 1) (mC (.int 1))) (AD (mC C9) AJ)))) Ba) AJ))) Ak)
  (AQ (Ab (AH Ah (AD (mOp AN (AC 1) (mC (.int 0))) AJ)) (AM 3))
  (AQ (sIf (AS (mOp CY (mOp AN (AC 1) (mC (.int 1))) (mC C9))) (Ab (AH bP (AD (mOp AN (AC 0) (mC (.int 0))) (AD (mOp AN (AC 0) (mC (.int 1))) (AD (AC 3) (AD (mOp AN (AC 1) (mC (.int 1))) AJ))))) (AM 3)) Ak)
  (Ae (AH Ah (AD (mOp AN (AC 1) (mC (.int 0))) (AD (mOp AN (AC 1) (mC (.int 1))) (AD (AH bB (AD (mOp AN (AC 1) (mC (.int 2))) (AD (AC 2) (AD (AC 3) AJ)))) AJ))))))))
noncomputable def GV(bM:List D->M D)(bF:List D->M D)(bB:List D->M D):Sl->M (Fl×Sl):=
  (AQ (sIf (AS (mOp Ai (mOp AN (AC 0) (mC (.int 0))) (mC (.str "whole")))) (AQ (Ab (AH bM (AD (AC 1) (AD (mOp Av (AC 2) (mC (.int 1))) (AD (AC 3) AJ)))) (AM 4))
  (Ae (mIf (WR (AC 4)) (AH bF (AD (AC 4) AJ)) (mC .non)))) Ak)
  (AQ (sIf (AS (mOp (Hl true) (AC 3) (mOp AN (mOp AN (AC 1) (mC (.int 2))) (AC 2)))) (Ae (mC .non)) Ak)
  (Ae (AH Ah (AD (mOp AN (AC 1) (mC (.int 0))) (AD (mOp AN (AC 1) (mC (.int 1))) (AD (AH bB (AD (mOp AN (AC 1) (mC (.int 2))) (AD (AC 2) (AD (mC .non) AJ)))) AJ)))))))
noncomputable def LL  : Sl->M (Fl×Sl):=
  (Ae (mOp Av (mOp Av (Hn (AC 0) Ci (EN (AC 1))) (AH Ah (AD (AC 2) AJ))) (Hn (AC 0) (EN (mOp Av (AC 1) (mC (.int 1)))) Ci)))
noncomputable def No  : Sl->M (Fl×Sl):=
  (Ae (Ep (AH Mp (AD (AC 0) (AD (mC (.ty "int")) AJ))) (Ep (WS (AH Mp (AD (AC 0) (AD (mC (.ty "bool")) AJ)))) (LM SX SX (AC 1) (AC 0) (AC 2)))))
noncomputable def BM(bA:List D->M D):Sl->M (Fl×Sl):=
  (AQ (sIf (AS (mOp Ai (mOp AN (AC 0) (mC (.int 0))) (mC (.str "num")))) (Ae (AH Ba AJ)) Ak)
  (AQ (sIf (AS (mOp Ai (mOp AN (AC 0) (mC (.int 0))) (mC (.str "var")))) (Ae (AH Ba (AD (mOp AN (AC 0) (mC (.int 1))) AJ))) Ak)
  (AQ (Ab (AH EX AJ) (AM 1))
  (AQ (EV (De (Hn (AC 0) (EN (mC (.int 1))) Ci)) (AM 2) (Bs (A3 JM (AC 1) (AD (AH bA (AD (AC 2) AJ)) AJ))))
  (Ae (AC 1))))))
noncomputable def m_number_of(a9:List D->M D)(a8:List D->M D)(bE:List D->M D):Sl->M (Fl×Sl):=
  (AQ (Ab (mOp AN (AC 0) (mC (.int 0))) (AM 2))
  (AQ (sIf (AS (mOp Ai (AC 2) (mC (.str "num")))) (Ae (mOp AN (AC 0) (mC (.int 1)))) Ak)
  (AQ (sIf (AS (mOp Ai (AC 2) (mC (.str "var")))) (Ae (mOp Bt (AC 1) (mOp AN (AC 0) (mC (.int 1))))) Ak)
  (AQ (Ab (AH a9 (AD (mOp AN (AC 0) (mC (.int 1))) (AD (AC 1) AJ))) (AM 3))
  (AQ (sIf (AS (mOp Ai (AC 2) (mC (.str "not")))) (Ae (AH a8 (AD (mOp Ai (AC 3) (mC (.int 0))) AJ))) Ak)
  (Ae (AH bE (AD (AC 2) (AD (AC 3) (AD (AH a9 (AD (mOp AN (AC 0) (mC (.int 2))) (AD (AC 1) AJ))) AJ))))))))))
noncomputable def Bq(a8:List D->M D):Sl->M (Fl×Sl):=
  (AQ (sIf (AS (mOp Ai (AC 0) (mC (.str "+")))) (Ae (AH TD (AD (mOp Av (AC 1) (AC 2)) (AD (mC DA) AJ)))) Ak)
  (AQ (sIf (AS (mOp Ai (AC 0) (mC (.str "-")))) (Ae (AH TF (AD (mOp FY (AC 1) (AC 2)) (AD (mC (.int 0)) AJ)))) Ak)
  (AQ (sIf (AS (mOp Ai (AC 0) (mC (.str "=")))) (Ae (AH a8 (AD (mOp Ai (AC 1) (AC 2)) AJ))) Ak)
  (AQ (sIf (AS (mOp Ai (AC 0) (mC (.str "<")))) (Ae (AH a8 (AD (mOp El (AC 1) (AC 2)) AJ))) Ak)
  (AQ (sIf (AS (mOp Ai (AC 0) (mC (.str "and")))) (Ae (AH a8 (AD (Ep (mOp CY (AC 1) (mC (.int 0))) (mOp CY (AC 2) (mC (.int 0)))) AJ))) Ak)
  (Ae (AH a8 (AD (Nq (mOp CY (AC 1) (mC (.int 0))) (mOp CY (AC 2) (mC (.int 0)))) AJ))))))))
noncomputable def DH  : Sl->M (Fl×Sl):=
  (Ae (mIf (AS (AC 0)) (mC (.int 1)) (mC (.int 0))))
noncomputable def Np  : Sl->M (Fl×Sl):=
  (Ae (Ep (AH Mp (AD (AC 0) (AD (mC (.ty "tuple")) AJ))) (LM SX SX (AC 1) (AH FO (AD (AC 0) AJ)) (AC 2))))
noncomputable def CJ(bA:List D->M D):Sl->M (Fl×Sl):=
  (AQ (Ab (AH EX AJ) (AM 1))
  (AQ (EV (Vn (AD (mUn (TQ Hw) (mOp AN (AC 0) (mC (.int 0)))) (AD (Hn (AC 0) (EN (mC (.int 1))) Ci) AJ))) (Hq [2,3]) (AQ (sIf (AS (mOp Ai (AC 2) (mC (.str "variable")))) (Bs (A3 GC (AC 1) (AD (AC 3) AJ))) Ak)
  (sIf (AS (mOp Ai (AC 2) (mC (.str "expression")))) (Bs (A3 JM (AC 1) (AD (AH bA (AD (AC 3) AJ)) AJ))) Ak)))
  (Ae (AC 1))))
noncomputable def En(bZ:List D->M D)(bX:List D->M D)(bc:List D->M D)(bh:List D->M D):Sl->M (Fl×Sl):=
  (AQ (Ab (mOp Ai (mOp AN (AC 2) (mC (.int 0))) (mC (.str "begin"))) (AM 3))
  (AQ (sIf (AS (mOp Ai (mOp AN (AC 2) (mC (.int 1))) (mC (.int 0)))) (Ae (mIf (AS (AC 3)) (AH bZ (AD (AC 0) (AD (AC 1) (AD (mOp AN (AC 2) (mC (.int 2))) AJ)))) (AH bX (AD (AC 0) (AD (AC 1) AJ))))) Ak)
  (AQ (Ab (mOp FY (mOp AN (AC 2) (mC (.int 1))) (mC (.int 1))) (AM 4))
  (Ae (mIf (AS (AC 3)) (AH bc (AD (AC 0) (AD (AC 1) (AD (AC 4) AJ)))) (AH bh (AD (AC 0) (AD (AC 1) (AD (AC 4) (AD (mOp AN (AC 2) (mC (.int 2))) AJ))))))))))
noncomputable def EM(bU:List D->M D):Sl->M (Fl×Sl):=
  (AQ (FX "Plan" "making" (AC 0) (AC 1))
  (AQ (FX "Plan" "names" (AC 0) (Cr 1 [] (De (mOp AN (AC 1) (mC (.int 4)))) (AM 0) Dd (mOp AN (AC 0) (mC (.int 0))) Ba))
  (AQ (FX "Plan" "variables" (AC 0) (Cr 1 [] (De (mOp AN (AC 1) (mC (.int 4)))) (AM 0) Dd (AH bU (AD (mOp AN (AC 0) (mC (.int 2))) AJ)) Ba))
  (AQ (FX "Plan" "places" (AC 0) YA)
  (AQ (EV (JE (AD (mOp AN (AC 1) (mC (.int 3))) AJ)) (Hq [2,3]) (C0 (mUn (Bw "Plan" "places") (AC 0)) (mOp AN (AC 3) (mC (.int 0))) (AC 2)))
  (AQ (FX "Plan" "ways" (AC 0) Oy)
  (FX "Plan" "claims" (AC 0) Oy)))))))
noncomputable def Fc  : Sl->M (Fl×Sl):=
  (Ae (mOp AN (mOp AN (mOp AN (mOp AN (mUn (Bw "Plan" "making") (AC 0)) (mC (.int 4))) (AC 1)) (mC (.int 2))) (AC 2)))
noncomputable def EK  : Sl->M (Fl×Sl):=
  (Ae (mOp Bt (mUn (Bw "Plan" "places") (AC 0)) (mIf (AS (mOp Ai (mOp AN (AC 1) (mC (.int 0))) (mC (.str "put")))) (mOp AN (AC 1) (mC (.int 1))) (mOp AN (AC 1) (mC (.int 2))))))
noncomputable def Cd  : Sl->M (Fl×Sl):=
  (AQ (Ab (AH Tk (AD (mOp AN (mUn (Bw "Plan" "variables") (AC 0)) (AC 1)) (AD (AC 3) AJ))) (AM 4))
  (AQ (sIf (AS (mOp Ai (AC 1) (mC (.int 0)))) (C0 (AC 4) (mC (.str "v")) (AC 2)) Ak)
  (Ae (AC 4))))
noncomputable def Fb(bj:List D->M D):Sl->M (Fl×Sl):=
  (AQ (Ab (AH Ah (AD (AC 1) (AD (AC 2) (AD (AC 3) (AD (AC 4) AJ))))) (AM 5))
  (AQ (sIf (AS (mOp (Si true) (AC 5) (mUn (Bw "Plan" "ways") (AC 0)))) (MB (mUn (Bw "Plan" "ways") (AC 0)) (AC 5) (AH bj (AD (AC 0) (AD (AC 1) (AD (AC 2) (AD (AC 3) (AD (AC 4) AJ))))))) Ak)
  (Ae (mOp ML (mUn (Bw "Plan" "ways") (AC 0)) (AC 5)))))
noncomputable def EL(bY:List D->M D):Sl->M (Fl×Sl):=
  (AQ (Ab (AH Ah (AD (AC 1) (AD (AC 2) (AD (AC 3) (AD (AC 4) AJ))))) (AM 5))
  (AQ (sIf (AS (mOp (Si true) (AC 5) (mUn (Bw "Plan" "claims") (AC 0)))) (MB (mUn (Bw "Plan" "claims") (AC 0)) (AC 5) (AH bY (AD (mUn (Bw "Plan" "making") (AC 0)) (AD (AC 1) (AD (AH Ah (AD (AC 2) (AD (AC 3) (AD (AC 4) AJ)))) AJ))))) Ak)
  (Ae (mOp ML (mUn (Bw "Plan" "claims") (AC 0)) (AC 5)))))
noncomputable def BX(bK:List D->M D):Sl->M (Fl×Sl):=
  (AQ (Ab (AH EX AJ) (AM 1))
  (AQ (EV (De (AC 0)) (AM 2) (Bs (A3 JM (AC 1) (AD (AH bK (AD (AC 2) AJ)) AJ))))
  (Ae (Cr 1 [] (De (mUn FG (AC 1))) (AM 0) (AS (mOp CY (AC 0) (mC (.str "v")))) (AC 0) Ba))))
noncomputable def Hb(bS:List D->M D)(bu:List D->M D)(a9:List D->M D):Sl->M (Fl×Sl):=
  (AQ (Ab (mOp AN (mOp AN (mOp AN (mUn (Bw "Plan" "making") (AC 0)) (mC (.int 4))) (AC 1)) (mC (.int 2))) (AM 5))
  (AQ (Ab (C6 "Plan" "named_numbers" bS (AC 0) (AD (AC 1) (AD (AC 3) (AD (AC 4) AJ)))) (AM 6))
  (AQ (Ab (AH bu (AD (AC 5) (AD (AC 2) (AD (AC 6) AJ)))) (AM 2))
  (AQ (sIf (AS (mOp (EW false) (AC 2) (mC .non))) (Ae (AH Ah (AD (mC (.str "stuck")) (AD (mC .non) (AD (mC .non) (AD (mC .non) AJ)))))) Ak)
  (AQ (Ab (AH Ds (AD (Cr 1 [6] (De (mOp AN (mUn (Bw "Plan" "variables") (AC 0)) (AC 1))) (AM 0) Dd (mOp Bt (AC 1) (AC 0)) Ba) AJ)) (AM 7))
  (AQ (sIf (AS (mOp Ai (AC 2) (AH FO (AD (AC 5) AJ)))) (Ae (AH Ah (AD (mIf (AS (mOp Ai (AC 1) (mC (.int 0)))) (mC (.str "ends")) (mC (.str "silent"))) (AD (mC .non) (AD (AC 7) (AD (mC .non) AJ)))))) Ak)
  (AQ (Ab (mOp AN (AC 5) (AC 2)) (AM 8))
  (AQ (sIf (AS (mOp (Hl false) (mOp AN (AC 8) (mC (.int 0))) (AH Ah (AD (mC (.str "put")) (AD (mC (.str "get")) AJ))))) (Ae (AH Ah (AD (mC (.str "stands")) (AD (AC 2) (AD (AC 7) (AD (mC .non) AJ)))))) Ak)
  (AQ (sIf (AS (mOp Ai (mOp AN (AC 8) (mC (.int 0))) (mC (.str "done")))) (Ae (AH Ah (AD (mC (.str "ends")) (AD (mC .non) (AD (AC 7) (AD (mC .non) AJ)))))) Ak)
  (AQ (Ab (AH a9 (AD (mOp AN (AC 8) (mC (.int 1))) (AD (AC 6) AJ))) (AM 9))
  (Ae (AH Ah (AD (mIf (AS (mOp El (AC 9) (mOp AN (mUn (Bw "Plan" "making") (AC 0)) (mC (.int 1))))) (mC (.str "ends")) (mC (.str "great"))) (AD (mC .non) (AD (AC 7) (AD (AC 9) AJ))))))))))))))))
noncomputable def D7(bR:List D->M D):Sl->M (Fl×Sl):=
  (AQ (Ab (mC .non) (AM 3))
  (AQ (Ab (mC .non) (AM 4))
  (AQ (Ab (mC (.int 1)) (AM 5))
  (AQ (Ab (mC (.int 1)) (AM 6))
  (AQ (Ei fuel (GX (AS (mOp El (AC 1) (AH FO (AD (AC 0) AJ)))) (AS (mOp (Hl false) (mOp AN (mOp AN (AC 0) (AC 1)) (mC (.int 0))) (mC Ce)))) (AQ (sIf (GX (AS (mOp Ai (AC 1) (AC 3))) (AS (mOp Qi (AC 2) (AC 4)))) (Ae (mC .non)) Ak)
  (AQ (Ab (mOp LF (AC 6) (mC (.int 1))) (AM 6))
  (AQ (sIf (AS (mOp Ai (AC 6) (mC (.int 0)))) (AQ (Ab (AC 1) (AM 3))
  (AQ (Ab (AH JO (AD (AC 2) AJ)) (AM 4))
  (AQ (Ab (mOp EJ (mC (.int 2)) (AC 5)) (AM 5))
  (Ab (AC 5) (AM 6))))) Ak)
  (Ab (AH bR (AD (mOp AN (AC 0) (AC 1)) (AD (AC 1) (AD (AC 2) AJ)))) (AM 1))))))
  (Ae (AC 1)))))))
noncomputable def Cv(a9:List D->M D):Sl->M (Fl×Sl):=
  (AQ (sIf (AS (mOp Ai (mOp AN (AC 0) (mC (.int 0))) (mC (.str "jump")))) (Ae (mOp AN (AC 0) (mC (.int 1)))) Ak)
  (AQ (sIf (GX (AS (mOp Ai (mOp AN (AC 0) (mC (.int 0))) (mC (.str "unless")))) (AS (mOp Ai (AH a9 (AD (mOp AN (AC 0) (mC (.int 1))) (AD (AC 2) AJ))) (mC (.int 0))))) (Ae (mOp AN (AC 0) (mC (.int 2)))) Ak)
  (AQ (sIf (AS (mOp Ai (mOp AN (AC 0) (mC (.int 0))) (mC (.str "let")))) (C0 (AC 2) (mOp AN (AC 0) (mC (.int 1))) (AH a9 (AD (mOp AN (AC 0) (mC (.int 2))) (AD (AC 2) AJ)))) Ak)
  (Ae (mOp Av (AC 1) (mC (.int 1)))))))
noncomputable def Fa(bI:List D->M D)(bb:List D->M D):Sl->M (Fl×Sl):=
  (Ae (AH bb (AD (AH (Iz "Plan" bI) (AD (AC 0) AJ)) AJ)))
noncomputable def KL(bI:List D->M D)(b0:List D->M D)(b9:List D->M D):Sl->M (Fl×Sl):=
  (AQ (Ab (AH (Iz "Plan" bI) (AD (AC 0) AJ)) (AM 3))
  (AQ (Ab (AH b0 (AD (AC 3) (AD (AC 1) (AD (AC 2) AJ)))) (AM 4))
  (AQ (sIf (AS (mOp (EW false) (AC 4) (mC .non))) SE Ak)
  (Ae (AH b9 (AD (AC 3) (AD (AC 1) (AD (AC 4) AJ))))))))
noncomputable def FZ(ba:List D->M D):Sl->M (Fl×Sl):=
  (AQ (Ab (Cr 1 [] (De (mUn (Bw "Plan" "variables") (AC 0))) (AM 0) Dd (AH Ah (AD (mC HK) (AD (mC .non) (AD (mC (.int 0)) (AD (mC (.int 0)) (AD (mOp Io (AH Ah (AD (mC (.int 0)) AJ)) (AH FO (AD (AC 0) AJ))) AJ)))))) Ba) (AM 1))
  (AQ (Ab (Cr 1 [] (De (mOp AN (mUn (Bw "Plan" "making") (AC 0)) (mC (.int 3)))) (AM 0) Dd (AH Ah (AD (mOp AN (AC 0) (mC (.int 3))) (AD (mC C9) AJ))) Ba) (AM 2))
  (Ae (AH Ah (AD (AH Ds (AD (AC 1) AJ)) (AD (AH Ds (AD (AC 2) AJ)) (AD (AH ba (AD (mUn (Bw "Plan" "making") (AC 0)) AJ)) AJ)))))))
noncomputable def JA(bm:List D->M D):Sl->M (Fl×Sl):=
  (AQ (Ab (AH EX AJ) (AM 2))
  (AQ (EV (JE (AD (mOp AN (AC 1) (mC (.int 0))) AJ)) (Hq [3,4]) (EV (De (AH bm (AD (AC 0) (AD (AC 3) (AD (AC 4) AJ))))) (AM 5) (Bs (A3 GC (AC 2) (AD (AH Ah (AD (AC 3) (AD (AC 5) AJ))) AJ)))))
  (Ae (AC 2))))
noncomputable def Fy(bN:List D->M D):Sl->M (Fl×Sl):=
  (AQ (sIf (AS (mOp Ai (mOp AN (AC 2) (mC (.int 0))) (mC HK))) (Ae (mIf (AS (mOp Ai (AC 1) (mC (.int 0)))) (mUn (SL D.tup) (mOp AN (mUn (Bw "Plan" "making") (AC 0)) (mC (.int 1)))) (AH Ah (AD (mC (.int 0)) AJ)))) Ak)
  (AQ (sIf (GX (AS (mOp (EW true) (mOp AN (AC 2) (mC (.int 1))) (mC .non))) (AS (mOp Ai (mOp AN (C6 "Plan" "row_at" bN (AC 0) (AD (AC 1) (AD (mOp AN (AC 2) (mC (.int 0))) AJ))) (mC (.int 0))) (mC (.str "get"))))) (Ae (mOp AN (AC 2) (mC (.int 1)))) Ak)
  (Ae (AH Ah (AD (mC (.int 0)) AJ)))))
noncomputable def KM(bv:List D->M D)(bq:List D->M D)(bo:List D->M D):Sl->M (Fl×Sl):=
  (AQ (sIf (mOr (Md (AS (AH bv (AD (AC 2) (AD (mC (.int 2)) (AD (mC (.int 2)) AJ)))))) (mOr (AS (mOp (Hl true) (mOp AN (AC 2) (mC (.int 0))) (mUn (Bw "Plan" "names") (AC 0)))) (Md (AS (AH bq (AD (mOp AN (AC 2) (mC (.int 1))) (AD (mC (.int 0)) (AD (mC DA) AJ)))))))) (Ae (mC .non)) Ak)
  (AQ (Ab (AH Ah (AD (A3 KY (mUn (Bw "Plan" "names") (AC 0)) (AD (mOp AN (AC 2) (mC (.int 0))) AJ)) (AD (mOp AN (AC 2) (mC (.int 1))) AJ))) (AM 3))
  (Ae (mIf (AS (mOp (Jr false) (AC 3) (AH bo (AD (AC 0) (AD (AC 1) AJ))))) (AC 3) (mC .non)))))
noncomputable def O3(cA:List D->M D)(bT:List D->M D)(bN:List D->M D)(cC:List D->M D)(cD:List D->M D)(bH:List D->M D)(bi:List D->M D):Sl->M (Fl×Sl):=
  (AQ (Ab (mOp AN (AC 2) (mC (.int 0))) (AM 3))
  (AQ (Ab (mOp AN (mOp AN (AC 1) (mC (.int 0))) (AC 3)) (AM 4))
  (AQ (sIf (AS (mOp Ai (mOp AN (AC 4) (mC (.int 0))) (mC HK))) (Ae (AH cA (AD (AC 0) (AD (AC 1) (AD (AC 2) AJ))))) Ak)
  (AQ (sIf (AS (mOp MK (mOp AN (AC 4) (mC (.int 3))) (mOp AN (mOp AN (mOp AN (mUn (Bw "Plan" "making") (AC 0)) (mC (.int 4))) (AC 3)) (mC (.int 1))))) (Ae (AH bT (AD (mC (.str "long")) (AD (AC 0) (AD (AC 3) (AD (AH Ba AJ) AJ)))))) Ak)
  (AQ (Ab (C6 "Plan" "row_at" bN (AC 0) (AD (AC 3) (AD (mOp AN (AC 4) (mC (.int 0))) AJ))) (AM 5))
  (AQ (sIf (AS (mOp Ai (mOp AN (AC 5) (mC (.int 0))) (mC (.str "get")))) (Ae (AH cC (AD (AC 0) (AD (AC 1) (AD (AC 2) (AD (AC 5) AJ)))))) Ak)
  (AQ (sIf (AS (mOp (EW false) (mOp AN (AC 4) (mC (.int 1))) (mC .non))) (Ae (AH cD (AD (AC 0) (AD (AC 1) (AD (AC 3) (AD (AC 5) AJ)))))) Ak)
  (AQ (Ab (C6 "Plan" "place_of" bH (AC 0) (AD (AC 5) AJ)) (AM 6))
  (Ae (AH bi (AD (AC 0) (AD (AC 1) (AD (AC 3) (AD (AC 6) (AD (mOp AN (mOp AN (mOp AN (AC 1) (mC (.int 1))) (AC 6)) (mC (.int 1))) AJ)))))))))))))))
noncomputable def Ma  : Sl->M (Fl×Sl):=
  (Ae (AH Ah (AD (mC .non) (AD (AH Ah (AD (AC 0) (AD (mOp AN (mUn (Bw "Plan" "names") (AC 1)) (AC 2)) AJ))) (AD (AC 3) AJ)))))
noncomputable def O4(bJ:List D->M D)(bW:List D->M D):Sl->M (Fl×Sl):=
  (AQ (Ab (mOp AN (AC 2) (mC (.int 0))) (AM 3))
  (AQ (Ab (mOp AN (AC 2) (mC (.int 1))) (AM 4))
  (AQ (Ab (mIf (AS (mOp Ai (AC 3) (mC (.int 0)))) (AH Ah (AD (mC (.str "begin")) (AD (mOp AN (mUn (Bw "Plan" "names") (AC 0)) (AC 3)) (AD (AC 4) AJ)))) (AH Ah (AD (mC (.str "begin")) (AD (mOp AN (mUn (Bw "Plan" "names") (AC 0)) (AC 3)) AJ)))) (AM 5))
  (AQ (Ab (C6 "Plan" "claim_on" bJ (AC 0) (AD (mOp AN (AC 1) (mC (.int 2))) (AD (mC (.str "begin")) (AD (AC 3) (AD (AC 4) AJ))))) (AM 6))
  (Ae (AH bW (AD (AC 0) (AD (AH Ah (AD (mOp AN (AC 1) (mC (.int 0))) (AD (mOp AN (AC 1) (mC (.int 1))) (AD (AC 6) AJ)))) (AD (AC 3) (AD (AH Ah (AD (mC (.int 0)) (AD (AC 4) (AD (mC (.int 0)) (AD (mOp AN (mOp AN (mOp AN (AC 1) (mC (.int 0))) (AC 3)) (mC (.int 4))) AJ))))) (AD (AH Ba (AD (AC 5) AJ)) AJ)))))))))))
noncomputable def WQ(bH:List D->M D)(bP:List D->M D)(bx:List D->M D)(bL:List D->M D)(bB:List D->M D)(bW:List D->M D):Sl->M (Fl×Sl):=
  (AQ (Ab (mOp AN (AC 2) (mC (.int 0))) (AM 4))
  (AQ (Ab (mOp AN (mOp AN (AC 1) (mC (.int 0))) (AC 4)) (AM 5))
  (AQ (Ab (C6 "Plan" "place_of" bH (AC 0) (AD (AC 3) AJ)) (AM 6))
  (AQ (Ab (mOp AN (mOp AN (mUn (Bw "Plan" "making") (AC 0)) (mC (.int 3))) (AC 6)) (AM 7))
  (AQ (Ab (mOp AN (mOp AN (AC 1) (mC (.int 1))) (AC 6)) (AM 8))
  (AQ (sIf (GX (AS (mOp CY (mOp AN (AC 7) (mC (.int 1))) (mC (.str "whole")))) (AS (mOp (EW false) (mOp AN (AC 5) (mC (.int 1))) (mC .non)))) (AQ (Ab (mIf (AS (mOp Ai (mOp AN (AC 8) (mC (.int 1))) (mC C9))) (AH Ah (AD (mOp AN (AC 8) (mC (.int 0))) AJ)) (AH bP (AD (mOp AN (AC 7) (mC (.int 1))) (AD (mOp AN (AC 7) (mC (.int 2))) (AD (Hn (AC 8) Ci (EN (mC (.int 1)))) (AD (mOp AN (AC 8) (mC (.int 1))) AJ)))))) (AM 9))
  (Ae (AH Ah (AD (AH bL (AD (AC 1) (AD (AC 4) (AD (AH bx (AD (AC 5) (AD (AC 9) AJ))) AJ)))) (AD (mC .non) (AD (AH Ba AJ) AJ)))))) Ak)
  (AQ (Ab (mIf (AS (mOp Ai (mOp AN (AC 7) (mC (.int 1))) (mC (.str "whole")))) (mOp AN (AC 8) (mC (.int 0))) (mOp AN (AC 2) (mC (.int 1)))) (AM 10))
  (AQ (Ab (AH bB (AD (mOp AN (AC 5) (mC (.int 4))) (AD (A3 KY (mOp AN (mUn (Bw "Plan" "variables") (AC 0)) (AC 4)) (AD (mOp AN (AC 3) (mC (.int 1))) AJ)) (AD (AC 10) AJ)))) (AM 11))
  (Ae (AH bW (AD (AC 0) (AD (AC 1) (AD (AC 4) (AD (AH Ah (AD (mOp Av (mOp AN (AC 5) (mC (.int 0))) (mC (.int 1))) (AD (mOp AN (AC 5) (mC (.int 2))) (AD (mOp Av (mOp AN (AC 5) (mC (.int 3))) (mC (.int 1))) (AD (AC 11) AJ))))) (AD (AH Ba AJ) AJ)))))))))))))))
noncomputable def MY(bB:List D->M D):Sl->M (Fl×Sl):=
  (Ae (AH Ah (AD (AH bB (AD (mOp AN (AC 0) (mC (.int 0))) (AD (AC 1) (AD (AC 2) AJ)))) (AD (mOp AN (AC 0) (mC (.int 1))) (AD (mOp AN (AC 0) (mC (.int 2))) AJ)))))
noncomputable def KN(bd:List D->M D)(bL:List D->M D)(bT:List D->M D)(bJ:List D->M D):Sl->M (Fl×Sl):=
  (AQ (Ab (C6 "Plan" "way_on" bd (AC 0) (AD (AC 2) (AD (mOp AN (AC 3) (mC (.int 0))) (AD (mOp AN (AC 3) (mC (.int 1))) (AD (mOp AN (AC 3) (mC (.int 3))) AJ))))) (AM 5))
  (AQ (sIf (AS (mOp Ai (mOp AN (AC 5) (mC (.int 0))) (mC (.str "stands")))) (Ae (AH Ah (AD (AH bL (AD (AC 1) (AD (AC 2) (AD (AH Ah (AD (mOp AN (AC 5) (mC (.int 1))) (AD (mC .non) (AD (mOp AN (AC 3) (mC (.int 1))) (AD (mOp AN (AC 3) (mC (.int 2))) (AD (mOp AN (AC 5) (mC (.int 2))) AJ)))))) AJ)))) (AD (mC .non) (AD (AC 4) AJ))))) Ak)
  (AQ (sIf (AS (mOp CY (mOp AN (AC 5) (mC (.int 0))) (mC (.str "ends")))) (Ae (AH bT (AD (mOp AN (AC 5) (mC (.int 0))) (AD (AC 0) (AD (AC 2) (AD (AC 4) AJ)))))) Ak)
  (AQ (Ab (mOp AN (mUn (Bw "Plan" "names") (AC 0)) (AC 2)) (AM 6))
  (AQ (Ab (mOp Av (AC 4) (AH Ba (AD (mIf (AS (mOp Ai (AC 2) (mC (.int 0)))) (AH Ah (AD (mC (.str "end")) (AD (AC 6) AJ))) (AH Ah (AD (mC (.str "end")) (AD (AC 6) (AD (mOp AN (AC 5) (mC (.int 3))) AJ))))) AJ))) (AM 7))
  (AQ (Ab (C6 "Plan" "claim_on" bJ (AC 0) (AD (mOp AN (AC 1) (mC (.int 2))) (AD (mC (.str "end")) (AD (AC 2) (AD (mOp AN (AC 5) (mC (.int 3))) AJ))))) (AM 8))
  (AQ (sIf (AS (mOp (EW false) (AC 8) (mC .non))) (Ae (AH bT (AD (mC (.str "tells")) (AD (AC 0) (AD (AC 2) (AD (AC 7) AJ)))))) Ak)
  (AQ (Ab (AH Ah (AD (mC HK) (AD (mC .non) (AD (mC (.int 0)) (AD (mC (.int 0)) (AD (mOp AN (AC 5) (mC (.int 2))) AJ)))))) (AM 9))
  (Ae (AH Ah (AD (AH bL (AD (AH Ah (AD (mOp AN (AC 1) (mC (.int 0))) (AD (mOp AN (AC 1) (mC (.int 1))) (AD (AC 8) AJ)))) (AD (AC 2) (AD (AC 9) AJ)))) (AD (mC .non) (AD (AC 7) AJ)))))))))))))
noncomputable def JD  : Sl->M (Fl×Sl):=
  (AQ (sIf (AS (mOp El (AC 1) (AH FO (AD (AC 0) AJ)))) (Ae (mOp AN (AC 0) (AC 1))) Ak)
  (Ae (mC (.int 0))))
noncomputable def KO  : Sl->M (Fl×Sl):=
  (AQ (Ab (AH EX AJ) (AM 2))
  (AQ (sIf (AS (mOp MK (AC 0) (mOp SW (mC (.int 10)) (mC (.int 40))))) (AQ (Ab (mOp A6 (AC 0) (mC (.int 7))) (AM 3))
  (AQ (EV (GW (AD (AC 1) AJ)) (AM 4) (AQ (Bs (A3 GC (AC 2) (AD (mOp BE (AC 3) (mC (.int 10000019))) AJ)))
  (Ab (mOp A6 (AC 3) (mC (.int 10000019))) (AM 3))))
  (Ae (mOp SS (AC 2) (mUn Ha (mC (.int 1))))))) Ak)
  (AQ (Ab (mOp BE (mOp EJ (mOp Av (mOp BE (AC 0) (mC (.int 2147483647))) (mC (.int 1))) (mC (.int 48271))) (mC (.int 2147483647))) (AM 5))
  (AQ (Ab (mOp BE (mOp EJ (mOp Av (mOp BE (AC 0) (mC (.int 1000003))) (mC (.int 1))) (mC (.int 69621))) (mC (.int 2147483629))) (AM 6))
  (AQ (EV (GW (AD (AC 1) AJ)) (AM 4) (AQ (Ab (mOp Av (mOp Av (mOp BE (mOp EJ (AC 5) (mOp Av (mOp A6 (AC 5) (mC (.int 1009))) (mC (.int 69621)))) (mC (.int 2147483647))) (AC 4)) (mC (.int 1))) (AM 5))
  (AQ (Ab (mOp BE (mOp EJ (AC 6) (mC (.int 48271))) (mC (.int 2147483629))) (AM 6))
  (Bs (A3 GC (AC 2) (AD (mOp Av (AC 5) (AC 6)) AJ))))))
  (Ae (AC 2)))))))
noncomputable def O6(bO:List D->M D):Sl->M (Fl×Sl):=
  (AQ (Ab (mOp BE (mOp A6 (Ay Ca (AC 0)) (mC (.int 3))) (mC (.int 9))) (AM 3))
  (AQ (sIf (mOr (AS (mOp Ai (AC 2) (mC (.int 0)))) (AS (mOp El (AC 3) (mC (.int 4))))) (AQ (sIf (AS (mOp Ai (mOp BE (AC 3) (mC (.int 2))) (mC (.int 0)))) (Ae (AH Ah (AD (mC (.str "num")) (AD (mOp BE (mOp A6 (Ay Ca (AC 0)) (mC (.int 3))) (mC (.int 4))) AJ)))) Ak)
  (Ae (AH Ah (AD (mC (.str "var")) (AD (mOp AN (AC 1) (mOp BE (mOp A6 (Ay Ca (AC 0)) (mC (.int 3))) (AH FO (AD (AC 1) AJ)))) AJ))))) Ak)
  (AQ (sIf (AS (mOp Ai (AC 3) (mC (.int 4)))) (Ae (AH Ah (AD (mC (.str "not")) (AD (AH bO (AD (AC 0) (AD (AC 1) (AD (mOp FY (AC 2) (mC (.int 1))) AJ)))) AJ)))) Ak)
  (AQ (Ab (mOp AN (AH Ba (AD (mC (.str "+")) (AD (mC (.str "-")) (AD (mC (.str "=")) (AD (mC (.str "<")) (AD (mC (.str "and")) (AD (mC (.str "or")) (AD (mC (.str "=")) AJ)))))))) (mOp BE (mOp A6 (Ay Ca (AC 0)) (mC (.int 3))) (mC (.int 7)))) (AM 4))
  (AQ (Ab (AH bO (AD (AC 0) (AD (AC 1) (AD (mOp FY (AC 2) (mC (.int 1))) AJ)))) (AM 5))
  (Ae (AH Ah (AD (AC 4) (AD (AC 5) (AD (AH bO (AD (AC 0) (AD (AC 1) (AD (mOp FY (AC 2) (mC (.int 1))) AJ)))) AJ))))))))))
noncomputable def O5(bO:List D->M D):Sl->M (Fl×Sl):=
  (AQ (Ab (mOp Av (mC (.int 2)) (mOp BE (mOp A6 (Ay Ca (AC 0)) (mC (.int 3))) (mC (.int 6)))) (AM 1))
  (AQ (Ab (AH EX AJ) (AM 2))
  (AQ (EV (GW (AD (AC 1) AJ)) (AM 3) (AQ (Ab (mOp BE (mOp A6 (Ay Ca (AC 0)) (mC (.int 3))) (mC (.int 6))) (AM 4))
  (sIf (AS (mOp El (AC 4) (mC (.int 3)))) (Bs (A3 GC (AC 2) (AD (AH Ah (AD (mC (.str "let")) (AD (mOp AN (mC (.str "xy")) (mOp BE (mOp A6 (Ay Ca (AC 0)) (mC (.int 3))) (mC (.int 2)))) (AD (AH bO (AD (AC 0) (AD (AH Ba (AD (mC (.str "x")) (AD (mC (.str "y")) AJ))) (AD (mC (.int 2)) AJ)))) AJ)))) AJ))) (sIf (AS (mOp El (AC 4) (mC (.int 5)))) (Bs (A3 GC (AC 2) (AD (AH Ah (AD (mC (.str "unless")) (AD (AH bO (AD (AC 0) (AD (AH Ba (AD (mC (.str "x")) (AD (mC (.str "y")) AJ))) (AD (mC (.int 1)) AJ)))) (AD (mOp BE (mOp A6 (Ay Ca (AC 0)) (mC (.int 3))) (mOp Av (AC 1) (mC (.int 1)))) AJ)))) AJ))) (Bs (A3 GC (AC 2) (AD (AH Ah (AD (mC (.str "jump")) (AD (mOp BE (mOp A6 (Ay Ca (AC 0)) (mC (.int 3))) (mOp Av (AC 1) (mC (.int 1)))) AJ))) AJ)))))))
  (AQ (sIf (AS (mOp Ai (mOp BE (mOp A6 (Ay Ca (AC 0)) (mC (.int 3))) (mC (.int 2))) (mC (.int 0)))) (Ab (AH Ah (AD (mC (.str "get")) (AD (mOp AN (mC (.str "xy")) (mOp BE (mOp A6 (Ay Ca (AC 0)) (mC (.int 3))) (mC (.int 2)))) (AD (mC (.str "a")) AJ)))) (Qt (AC 2) (mOp BE (mOp A6 (Ay Ca (AC 0)) (mC (.int 3))) (AC 1)))) Ak)
  (AQ (sIf (AS (mOp Jj (mOp BE (mOp A6 (Ay Ca (AC 0)) (mC (.int 3))) (mC (.int 6))) (mC (.int 0)))) (Ab (AH Ah (AD (mC (.str "tell")) (AD (AH Ah (AD (mC (.str "var")) (AD (mOp AN (mC (.str "xy")) (mOp BE (mOp A6 (Ay Ca (AC 0)) (mC (.int 3))) (mC (.int 2)))) AJ))) AJ))) (Qt (AC 2) (mUn Ha (mC (.int 1))))) Ak)
  (Ae (AC 2)))))))
noncomputable def Mc  : Sl->M (Fl×Sl):=
  (AQ (sIf (mOr (AS (mOp Ai (mOp AN (AC 0) (mC (.int 0))) (mC (.str "unless")))) (AS (mOp Ai (mOp AN (AC 0) (mC (.int 0))) (mC (.str "jump"))))) (Ae (mOp Av (Hn (AC 0) Ci (EN (mUn Ha (mC (.int 1))))) (AH Ah (AD (mOp Av (mOp AN (AC 0) (mUn Ha (mC (.int 1)))) (mC (.int 2))) AJ)))) Ak)
  (Ae (AC 0)))
noncomputable def Db(bG:List D->M D):Sl->M (Fl×Sl):=
  (AQ (sIf (AS (mOp Ai (mOp AN (AC 0) (mC (.int 0))) (mC (.str "num")))) (Ae (mOp AN (AC 0) (mC (.int 1)))) Ak)
  (AQ (sIf (AS (mOp Ai (mOp AN (AC 0) (mC (.int 0))) (mC (.str "var")))) (Ae (mOp Bt (AC 1) (mOp AN (AC 0) (mC (.int 1))))) Ak)
  (AQ (Ab (AH bG (AD (mOp AN (AC 0) (mC (.int 1))) (AD (AC 1) AJ))) (AM 2))
  (AQ (sIf (AS (mOp Ai (mOp AN (AC 0) (mC (.int 0))) (mC (.str "not")))) (Ae (AH Jq (AD (mOp Ai (AC 2) (mC (.int 0))) AJ))) Ak)
  (AQ (Ab (AH bG (AD (mOp AN (AC 0) (mC (.int 2))) (AD (AC 1) AJ))) (AM 3))
  (AQ (Ab (Fz [.inr "+",.inr "-",.inr "=",.inr "<"] (AD (AH TD (AD (mC (.int 9)) (AD (mOp Av (AC 2) (AC 3)) AJ))) (AD (AH TF (AD (mC (.int 0)) (AD (mOp FY (AC 2) (AC 3)) AJ))) (AD (AH Jq (AD (mOp Ai (AC 2) (AC 3)) AJ)) (AD (AH Jq (AD (mOp El (AC 2) (AC 3)) AJ)) AJ))))) (AM 4))
  (AQ (C0 (AC 4) (mC (.str "and")) (AH Jq (AD (Ep (mOp Jj (AC 2) (mC (.int 0))) (mOp Jj (AC 3) (mC (.int 0)))) AJ)))
  (AQ (C0 (AC 4) (mC (.str "or")) (AH Jq (AD (Nq (mOp Jj (AC 2) (mC (.int 0))) (mOp Jj (AC 3) (mC (.int 0)))) AJ)))
  (Ae (mOp Bt (AC 4) (mOp AN (AC 0) (mC (.int 0)))))))))))))
noncomputable def TJ(bG:List D->M D):Sl->M (Fl×Sl):=
  (AQ (Ab (AH EX AJ) (AM 4))
  (AQ (EV (GW (AD (mC (.int 2000)) AJ)) (AM 5) (AQ (sIf (AS (mOp Ai (AC 1) (AH FO (AD (AC 0) AJ)))) (Ae (AH Ah (AD (mC (.str "broken")) (AD (mC (.str "silent")) AJ)))) Ak)
  (AQ (Ab (mOp AN (AC 0) (AC 1)) (AM 6))
  (AQ (sIf (AS (mOp Ai (mOp AN (AC 6) (mC (.int 0))) (mC (.str "get")))) (Ae (AH Ah (AD (mC (.str "stands")) (AD (AC 1) AJ)))) Ak)
  (AQ (sIf (AS (mOp Ai (mOp AN (AC 6) (mC (.int 0))) (mC (.str "tell")))) (AQ (Ab (AH bG (AD (mOp AN (AC 6) (mC (.int 1))) (AD (AC 2) AJ))) (AM 7))
  (Ae (mOp AN (AH Ba (AD (AH Ah (AD (mC (.str "told")) (AD (AC 7) AJ))) (AD (AH Ah (AD (mC (.str "broken")) (AD (mC (.str "great")) AJ))) AJ))) (AH Jq (AD (mOp MK (AC 7) (AC 3)) AJ))))) Ak)
  (AQ (sIf (AS (mOp (Jr false) (AH Ah (AD (AC 1) (AD (mOp Bt (AC 2) (mC (.str "x"))) (AD (mOp Bt (AC 2) (mC (.str "y"))) AJ)))) (AC 4))) (Ae (AH Ah (AD (mC (.str "broken")) (AD (mC (.str "stuck")) AJ)))) Ak)
  (AQ (Bs (A3 GC (AC 4) (AD (AH Ah (AD (AC 1) (AD (mOp Bt (AC 2) (mC (.str "x"))) (AD (mOp Bt (AC 2) (mC (.str "y"))) AJ)))) AJ)))
  (AQ (Ab (mOp Av (AC 1) (mC (.int 1))) (AM 1))
  (sIf (AS (mOp Ai (mOp AN (AC 6) (mC (.int 0))) (mC (.str "let")))) (C0 (AC 2) (mOp AN (AC 6) (mC (.int 1))) (AH bG (AD (mOp AN (AC 6) (mC (.int 2))) (AD (AC 2) AJ)))) (sIf (AS (mOp Ai (mOp AN (AC 6) (mC (.int 0))) (mC (.str "jump")))) (Ab (mOp AN (AC 6) (mC (.int 1))) (AM 1)) (sIf (AS (mOp Ai (AH bG (AD (mOp AN (AC 6) (mC (.int 1))) (AD (AC 2) AJ))) (mC (.int 0)))) (Ab (mOp AN (AC 6) (mC (.int 2))) (AM 1)) Ak)))))))))))
  (Ae (AH Ah (AD (mC (.str "long")) (AD (mC .non) AJ))))))
noncomputable def Mb  : Sl->M (Fl×Sl):=
  (AQ (Ab (AC 1) (Hq [5,6,7]))
  (AQ (sIf (AS (mOp Ai (mOp AN (AC 2) (mC (.int 0))) (mC (.str "broken")))) (Ae (Ep (mOp (EW false) (AC 5) (mC .non)) (mOp Ai (AC 6) (AH Ah (AD (mOp AN (AC 2) (mC (.int 1))) (AD (mC (.str "r")) AJ)))))) Ak)
  (AQ (sIf (AS (mOp Ai (mOp AN (AC 2) (mC (.int 0))) (mC (.str "told")))) (AQ (sIf (mOr (AS (mOp CY (AH Ah (AD (mC (.str "end")) (AD (mC (.str "r")) (AD (mOp AN (AC 2) (mC (.int 1))) AJ)))) (mOp AN (AC 7) (mUn Ha (mC (.int 1)))))) (AS (mOp (Jr true) (AC 6) (AH Ah (AD (mC .non) (AD (AH Ah (AD (mC (.str "tells")) (AD (mC (.str "r")) AJ))) AJ)))))) (Ae (mC (.bl false))) Ak)
  (Ae (Nq (mOp (EW true) (AC 6) (mC .non)) (mOp Ai (mOp AN (mOp AN (AC 5) (mC (.int 0))) (mC (.int 1))) (AH Ah (AD (mUn Ha (mC (.int 1))) (AD (mC .non) (AD (mC (.int 0)) (AD (mC (.int 0)) (AD (AH Ah (AD (mOp Bt (AC 3) (mC (.str "x"))) (AD (mOp Bt (AC 3) (mC (.str "y"))) AJ))) AJ)))))))))) Ak)
  (Ae (Ep (mOp (EW false) (AC 6) (mC .non)) (mOp Ai (mOp AN (mOp AN (AC 5) (mC (.int 0))) (mC (.int 1))) (AH Ah (AD (mOp AN (AC 2) (mC (.int 1))) (AD (mC .non) (AD (mC (.int 0)) (AD (AC 4) (AD (AH Ah (AD (mOp Bt (AC 3) (mC (.str "x"))) (AD (mOp Bt (AC 3) (mC (.str "y"))) AJ))) AJ))))))))))))
noncomputable def WO(bn:List D->M D)(bw:List D->M D)(cB:List D->M D)(b8:List D->M D)(be:List D->M D)(bz:List D->M D)(bV:List D->M D)(bg:List D->M D):Sl->M (Fl×Sl):=
  (AQ (Ab (AH bw (AD (AH bn (AD (AC 0) (AD (mC (.int 0)) AJ))) (AD (mC (.int 200)) AJ))) (AM 1))
  (AQ (Ab (AH cB (AD (AC 1) AJ)) (AM 2))
  (AQ (Ab (mOp Av (AH Ba (AD (AH Ah (AD (mC (.str "let")) (AD (mC (.str "x")) (AD (AH Ah (AD (mC (.str "var")) (AD (mC (.str "x")) AJ))) AJ)))) (AD (AH Ah (AD (mC (.str "let")) (AD (mC (.str "y")) (AD (AH Ah (AD (mC (.str "var")) (AD (mC (.str "y")) AJ))) AJ)))) AJ))) (Cr 1 [] (De (AC 2)) (AM 0) Dd (AH b8 (AD (AC 0) AJ)) Ba)) (AM 2))
  (AQ (Ab (mOp BE (mOp A6 (Ay Ca (AC 1)) (mC (.int 3))) (mC (.int 5))) (AM 3))
  (AQ (Ab (mOp Av (mC (.int 2)) (mOp BE (mOp A6 (Ay Ca (AC 1)) (mC (.int 3))) (mC (.int 9)))) (AM 4))
  (AQ (Ab (AH Ah (AD (mC (.str "safe")) (AD (AC 4) (AD (mC (.int 0)) (AD (AH Ah (AD (AH Ah (AD (mC (.str "a")) (AD (mC (.str "whole")) (AD (mC (.int 5)) (AD (AC 3) (AD (mC (.str "w")) AJ)))))) AJ)) (AD (AH Ah (AD (AH Ah (AD (mC (.str "w")) (AD (mC (.int 0)) (AD (AH Ah AJ) AJ)))) (AD (AH Ah (AD (mC (.str "r")) (AD (mC (.int 3)) (AD (AH Ds (AD (AC 2) AJ)) AJ)))) AJ))) AJ)))))) (AM 5))
  (AQ (Ab (AH be (AD (AC 5) AJ)) (AM 6))
  (AQ (Ab (Fz [.inr "x",.inr "y"] (AD (mC (.int 0)) (AD (mC (.int 0)) AJ))) (AM 7))
  (AQ (EV (GW (AD (mC (.int 3)) AJ)) (AM 8) (AQ (Ab (AH bz (AD (AC 2) (AD (mC (.int 0)) (AD (AC 7) (AD (AC 4) AJ))))) (AM 9))
  (AQ (Ab (AH bV (AD (AC 5) (AD (AC 6) (AD (AH Ah (AD (mC (.str "r")) (AD (mC (.int 0)) AJ))) AJ)))) (AM 10))
  (AQ (sIf (mOr (AS (mOp CY (Hn (mOp AN (AC 10) (mC (.int 2))) Ci (EN (mC (.int 1)))) (AH Ba (AD (AH Ah (AD (mC (.str "begin")) (AD (mC (.str "r")) AJ))) AJ)))) (Md (AS (AH bg (AD (AC 6) (AD (AC 10) (AD (AC 9) (AD (AC 7) (AD (mC (.int 0)) AJ))))))))) (Ae (mC (.bl false))) Ak)
  (AQ (Ab (mC (.int 0)) (AM 11))
  (AQ (Ei fuel (GX (AS (mOp Ai (mOp AN (AC 9) (mC (.int 0))) (mC (.str "stands")))) (AS (mOp El (AC 11) (mC (.int 3))))) (AQ (Ab (mOp Av (AC 11) (mC (.int 1))) (AM 11))
  (AQ (C0 (AC 7) (mOp AN (mOp AN (AC 2) (mOp AN (AC 9) (mC (.int 1)))) (mC (.int 1))) (AC 3))
  (AQ (Ab (AH bz (AD (AC 2) (AD (mOp Av (mOp AN (AC 9) (mC (.int 1))) (mC (.int 1))) (AD (AC 7) (AD (AC 4) AJ))))) (AM 9))
  (AQ (Ab (AH bV (AD (AC 5) (AD (mOp AN (AC 10) (mC (.int 0))) (AD (AH Ah (AD (mC (.str "r")) (AD (mC (.int 0)) AJ))) AJ)))) (AM 10))
  (sIf (Md (AS (AH bg (AD (AC 6) (AD (AC 10) (AD (AC 9) (AD (AC 7) (AD (AC 11) AJ)))))))) (Ae (mC (.bl false))) Ak))))))
  (AQ (sIf (AS (mOp Ai (mOp AN (AC 9) (mC (.int 0))) (mC (.str "stands")))) (Ae (mOp Ai (mOp AN (AH bV (AD (AC 5) (AD (mOp AN (AC 10) (mC (.int 0))) (AD (AH Ah (AD (mC (.str "r")) (AD (mC (.int 0)) AJ))) AJ)))) (mC (.int 1))) (AH Ah (AD (mC (.str "long")) (AD (mC (.str "r")) AJ))))) Ak)
  (AQ (sIf (AS (mOp (EW true) (mOp AN (AC 10) (mC (.int 1))) (mC .non))) (Ae (mC (.bl true))) Ak)
  (Ab (mOp AN (AC 10) (mC (.int 0))) (AM 6))))))))))
  (Ae (mC (.bl true))))))))))))
noncomputable def V0:List Str:=["making", "names", "variables", "places", "ways", "claims"]
noncomputable def top(i:Nat):Stmt:=PySem.Challenge.pw_strongboxes_k23_rows_without_a_step.main.body.getD i (.Pass ⟨0,0,0,0⟩)
section
noncomputable abbrev SB:Stmt:=top 14
noncomputable abbrev LA:Stmt:=top 11
noncomputable abbrev Ji:Stmt:=top 13
noncomputable abbrev SC:Stmt:=top 9
noncomputable abbrev Y6:Stmt:=top 52
noncomputable abbrev L7:Stmt:=top 53
noncomputable abbrev P5:Stmt:=top 54
noncomputable abbrev FU:Stmt:=top 4
theorem sc_claim_begun:Ad ["making", "readers"] ["making"] (AR FU):=⟨rfl,rfl,rfl,by decide +kernel,rfl,by decide +kernel,by decide +kernel⟩
noncomputable abbrev Eg:Stmt:=top 5
theorem sc_claim_writes:Ad ["making", "claim", "worth", "tells"] ["making", "claim", "worth"] (AR Eg):=⟨rfl,rfl,rfl,by decide +kernel,rfl,by decide +kernel,by decide +kernel⟩
noncomputable abbrev EE:Stmt:=top 6
theorem sc_claim_written:Ad ["making", "claim"] ["making", "claim"] (AR EE):=⟨rfl,rfl,rfl,by decide +kernel,rfl,by decide +kernel,by decide +kernel⟩
noncomputable abbrev FT:Stmt:=top 7
theorem sc_claim_reads:Ad ["making", "claim", "reader", "told"] ["making", "claim", "reader"] (AR FT):=⟨rfl,rfl,rfl,by decide +kernel,rfl,by decide +kernel,by decide +kernel⟩
noncomputable abbrev GR:Stmt:=top 8
theorem sc_claim_told:Ad ["making", "claim", "reader", "worth", "left"] ["making", "claim", "reader", "worth"] (AR GR):=⟨rfl,rfl,rfl,by decide +kernel,rfl,by decide +kernel,by decide +kernel⟩
noncomputable abbrev GP:Stmt:=top 10
theorem sc_with_thing:Ad ["things", "place", "thing"] ["things", "place", "thing"] (AR GP):=⟨rfl,rfl,rfl,by decide +kernel,rfl,by decide +kernel,by decide +kernel⟩
noncomputable abbrev Ig:Stmt:=top 22
theorem sc_is_whole:Ad ["thing", "least", "most"] ["thing", "least", "most"] (AR Ig):=⟨rfl,rfl,rfl,by decide +kernel,rfl,by decide +kernel,by decide +kernel⟩
noncomputable abbrev Ef:Stmt:=top 23
theorem sc_variables_in:Ad ["expression", "names", "part"] ["expression"] (AR Ef):=⟨rfl,rfl,rfl,by decide +kernel,rfl,by decide +kernel,by decide +kernel⟩
noncomputable abbrev HZ:Stmt:=top 24
theorem sc_number_of:Ad ["expression", "numbers", "word", "first"] ["expression", "numbers"] (AR HZ):=⟨rfl,rfl,rfl,by decide +kernel,rfl,by decide +kernel,by decide +kernel⟩
noncomputable abbrev DX:Stmt:=top 25
theorem sc_number_of_pair:Ad ["word", "first", "second"] ["word", "first", "second"] (AR DX):=⟨rfl,rfl,rfl,by decide +kernel,rfl,by decide +kernel,by decide +kernel⟩
noncomputable abbrev HY:Stmt:=top 26
theorem sc_one_where:Ad ["holds"] ["holds"] (AR HY):=⟨rfl,rfl,rfl,by decide +kernel,rfl,by decide +kernel,by decide +kernel⟩
noncomputable abbrev Ih:Stmt:=top 29
theorem sc_is_tuple:Ad ["thing", "least", "most"] ["thing", "least", "most"] (AR Ih):=⟨rfl,rfl,rfl,by decide +kernel,rfl,by decide +kernel,by decide +kernel⟩
noncomputable abbrev Ee:Stmt:=top 30
theorem sc_variables_of:Ad ["row", "names", "part", "thing"] ["row"] (AR Ee):=⟨rfl,rfl,rfl,by decide +kernel,rfl,by decide +kernel,by decide +kernel⟩
noncomputable abbrev Eh:Stmt:=top 32
theorem sc_claim_behind:Ad ["making", "claim", "act", "begins", "reader"] ["making", "claim", "act"] (AR Eh):=⟨rfl,rfl,rfl,by decide +kernel,rfl,by decide +kernel,by decide +kernel⟩
noncomputable abbrev EH:Stmt:=KU (top 35) 0
theorem sc_Plan___init__:Ad ["self", "making", "place", "box"] ["self", "making"] (AR EH):=⟨rfl,rfl,rfl,by decide +kernel,rfl,by decide +kernel,by decide +kernel⟩
noncomputable abbrev FW:Stmt:=KU (top 35) 1
theorem sc_Plan_row_at:Ad ["self", "number", "at"] ["self", "number", "at"] (AR FW):=⟨rfl,rfl,rfl,by decide +kernel,rfl,by decide +kernel,by decide +kernel⟩
noncomputable abbrev EF:Stmt:=KU (top 35) 2
theorem sc_Plan_place_of:Ad ["self", "row"] ["self", "row"] (AR EF):=⟨rfl,rfl,rfl,by decide +kernel,rfl,by decide +kernel,by decide +kernel⟩
noncomputable abbrev CW:Stmt:=KU (top 35) 3
theorem sc_Plan_named_numbers:Ad ["self", "number", "worth", "numbers", "named"] ["self", "number", "worth", "numbers"] (AR CW):=⟨rfl,rfl,rfl,by decide +kernel,rfl,by decide +kernel,by decide +kernel⟩
noncomputable abbrev FV:Stmt:=KU (top 35) 4
theorem sc_Plan_way_on:Ad ["self", "number", "at", "worth", "numbers", "asked"] ["self", "number", "at", "worth", "numbers"] (AR FV):=⟨rfl,rfl,rfl,by decide +kernel,rfl,by decide +kernel,by decide +kernel⟩
noncomputable abbrev EG:Stmt:=KU (top 35) 5
theorem sc_Plan_claim_on:Ad ["self", "claim", "word", "number", "worth", "asked"] ["self", "claim", "word", "number", "worth"] (AR EG):=⟨rfl,rfl,rfl,by decide +kernel,rfl,by decide +kernel,by decide +kernel⟩
noncomputable abbrev Co:Stmt:=top 36
theorem sc_variables_of_rows:Ad ["rows", "names", "row"] ["rows"] (AR Co):=⟨rfl,rfl,rfl,by decide +kernel,rfl,by decide +kernel,by decide +kernel⟩
noncomputable abbrev HX:Stmt:=top 37
theorem sc_way_found:Ad ["plan", "number", "at", "worth", "numbers", "rows", "named", "later", "row", "told"] ["plan", "number", "at", "worth", "numbers"] (AR HX):=⟨rfl,rfl,rfl,by decide +kernel,rfl,by decide +kernel,by decide +kernel⟩
noncomputable abbrev Ii:Stmt:=top 38
theorem sc_followed:Ad ["rows", "at", "named", "kept_at", "kept_named", "span", "left"] ["rows", "at", "named"] (AR Ii):=⟨rfl,rfl,rfl,by decide +kernel,rfl,by decide +kernel,by decide +kernel⟩
noncomputable abbrev GQ:Stmt:=top 39
theorem sc_row_behind:Ad ["row", "at", "named"] ["row", "at", "named"] (AR GQ):=⟨rfl,rfl,rfl,by decide +kernel,rfl,by decide +kernel,by decide +kernel⟩
noncomputable abbrev FS:Stmt:=top 42
theorem sc_first_stand:Ad ["making"] ["making"] (AR FS):=⟨rfl,rfl,rfl,by decide +kernel,rfl,by decide +kernel,by decide +kernel⟩
noncomputable abbrev J6:Stmt:=top 43
theorem sc_stepped:Ad ["making", "stand", "step", "plan", "move"] ["making", "stand", "step"] (AR J6):=⟨rfl,rfl,rfl,by decide +kernel,rfl,by decide +kernel,by decide +kernel⟩
noncomputable abbrev FR:Stmt:=top 44
theorem sc_stand_begun:Ad ["plan", "hands", "boxes"] ["plan"] (AR FR):=⟨rfl,rfl,rfl,by decide +kernel,rfl,by decide +kernel,by decide +kernel⟩
noncomputable abbrev Ie:Stmt:=top 45
theorem sc_moves_of:Ad ["plan", "stand", "moves", "number", "hand", "pick"] ["plan", "stand"] (AR Ie):=⟨rfl,rfl,rfl,by decide +kernel,rfl,by decide +kernel,by decide +kernel⟩
noncomputable abbrev Ic:Stmt:=top 46
theorem sc_picks_of:Ad ["plan", "number", "hand"] ["plan", "number", "hand"] (AR Ic):=⟨rfl,rfl,rfl,by decide +kernel,rfl,by decide +kernel,by decide +kernel⟩
noncomputable abbrev J7:Stmt:=top 47
theorem sc_move_of:Ad ["plan", "stand", "step", "move"] ["plan", "stand", "step"] (AR J7):=⟨rfl,rfl,rfl,by decide +kernel,rfl,by decide +kernel,by decide +kernel⟩
noncomputable abbrev Oi:Stmt:=top 48
theorem sc_moved:Ad ["plan", "stand", "move", "number", "hand", "row", "place"] ["plan", "stand", "move"] (AR Oi):=⟨rfl,rfl,rfl,by decide +kernel,rfl,by decide +kernel,by decide +kernel⟩
noncomputable abbrev L8:Stmt:=top 49
theorem sc_broken:Ad ["word", "plan", "number", "events"] ["word", "plan", "number", "events"] (AR L8):=⟨rfl,rfl,rfl,by decide +kernel,rfl,by decide +kernel,by decide +kernel⟩
noncomputable abbrev Oj:Stmt:=top 50
theorem sc_begun:Ad ["plan", "stand", "move", "number", "worth", "event", "claim"] ["plan", "stand", "move"] (AR Oj):=⟨rfl,rfl,rfl,by decide +kernel,rfl,by decide +kernel,by decide +kernel⟩
noncomputable abbrev WJ:Stmt:=top 51
theorem sc_got:Ad ["plan", "stand", "move", "row", "number", "hand", "place", "box", "there", "may", "worth", "numbers"] ["plan", "stand", "move", "row"] (AR WJ):=⟨rfl,rfl,rfl,by decide +kernel,rfl,by decide +kernel,by decide +kernel⟩
noncomputable abbrev HW:Stmt:=top 56
theorem sc_with_hand:Ad ["stand", "number", "hand"] ["stand", "number", "hand"] (AR HW):=⟨rfl,rfl,rfl,by decide +kernel,rfl,by decide +kernel,by decide +kernel⟩
noncomputable abbrev J8:Stmt:=top 57
theorem sc_gone_on:Ad ["plan", "stand", "number", "deed", "events", "way", "name", "ended", "claim", "idle"] ["plan", "stand", "number", "deed", "events"] (AR J8):=⟨rfl,rfl,rfl,by decide +kernel,rfl,by decide +kernel,by decide +kernel⟩
noncomputable abbrev Ij:Stmt:=top 59
theorem sc_Lcell_at:Ad ["_law_script", "_law_k"] ["_law_script", "_law_k"] (AR Ij):=⟨rfl,rfl,rfl,by decide +kernel,rfl,by decide +kernel,by decide +kernel⟩
noncomputable abbrev J9:Stmt:=top 60
theorem sc_Lstream:Ad ["_law_cell", "_law_size", "_law_found", "_law_rest", "_law_k", "_law_number_here", "_law_other"] ["_law_cell", "_law_size"] (AR J9):=⟨rfl,rfl,rfl,by decide +kernel,rfl,by decide +kernel,by decide +kernel⟩
noncomputable abbrev Om:Stmt:=top 61
theorem sc_Lexpr:Ad ["_law_xs", "_law_names", "_law_deep", "_law_way", "_law_word", "_law_one"] ["_law_xs", "_law_names", "_law_deep"] (AR Om):=⟨rfl,rfl,rfl,by decide +kernel,rfl,by decide +kernel,by decide +kernel⟩
noncomputable abbrev Ol:Stmt:=top 62
theorem sc_Lrows:Ad ["_law_xs", "_law_n", "_law_rows_here", "_law_k", "_law_way"] ["_law_xs"] (AR Ol):=⟨rfl,rfl,rfl,by decide +kernel,rfl,by decide +kernel,by decide +kernel⟩
noncomputable abbrev MA:Stmt:=top 63
theorem sc_Llater:Ad ["_law_row"] ["_law_row"] (AR MA):=⟨rfl,rfl,rfl,by decide +kernel,rfl,by decide +kernel,by decide +kernel⟩
noncomputable abbrev KA:Stmt:=top 64
theorem sc_Lnumber:Ad ["_law_e", "_law_numbers", "_law_one", "_law_two", "_law_some"] ["_law_e", "_law_numbers"] (AR KA):=⟨rfl,rfl,rfl,by decide +kernel,rfl,by decide +kernel,by decide +kernel⟩
noncomputable abbrev SD:Stmt:=top 65
theorem sc_Lrun:Ad ["_law_rows_here", "_law_at", "_law_numbers", "_law_size", "_law_been", "_law_k", "_law_row", "_law_told"] ["_law_rows_here", "_law_at", "_law_numbers", "_law_size"] (AR SD):=⟨rfl,rfl,rfl,by decide +kernel,rfl,by decide +kernel,by decide +kernel⟩
noncomputable abbrev L9:Stmt:=top 66
theorem sc_Lright:Ad ["_law_stand", "_law_found", "_law_due", "_law_numbers", "_law_count", "_law_later_here", "_law_broken", "_law_events"] ["_law_stand", "_law_found", "_law_due", "_law_numbers", "_law_count"] (AR L9):=⟨rfl,rfl,rfl,by decide +kernel,rfl,by decide +kernel,by decide +kernel⟩
noncomputable abbrev WI:Stmt:=top 67
theorem sc_law:Ad ["_law_script", "_law_xs", "_law_rows_here", "_law_worth", "_law_size", "_law_making", "_law_stand", "_law_numbers", "_law_turn", "_law_due", "_law_found", "_law_count"] ["_law_script"] (AR WI):=⟨rfl,rfl,rfl,by decide +kernel,rfl,by decide +kernel,by decide +kernel⟩
end
noncomputable def CP:List D->M D:=BJ .drop 2 2 (JD)
noncomputable def Cy:List D->M D:=Ax .all 7 2 (KO)
noncomputable def FM:Nat->List D->M D
 |0=>λ_=>A5
 |n+1=>BJ .drop 6 3 (O6 (FM n))
noncomputable def FL:List D->M D:=BJ .frz 5 1 (O5 (FM 4))
noncomputable def Dj:List D->M D:=BJ .drop 1 1 (Mc)
noncomputable def Ao:Nat->List D->M D
 |0=>λ_=>A5
 |n+1=>BJ .frz 3 1 (BM (Ao n))
noncomputable def Bb:List D->M D:=BJ .frz 4 1 (CJ (Ao 6))
noncomputable def Ap:List D->M D:=BJ .drop 3 1 (BX Bb)
noncomputable def Bi:List D->M D:=Ax .all 4 2 (EM Ap)
noncomputable def DN:List D->M D:=Ax .all 2 1 (Jo)
noncomputable def DM:List D->M D:=Ax .all 3 1 (FZ DN)
noncomputable def Bj:List D->M D:=BJ .drop 1 1 (Fa Bi DM)
noncomputable def BS:Nat->List D->M D
 |0=>λ_=>A5
 |n+1=>BJ .drop 5 2 (Db (BS n))
noncomputable def E6:List D->M D:=BJ .drop 8 4 (TJ (BS 5))
noncomputable def F6:List D->M D:=Ax .all 3 3 (Np)
noncomputable def F5:List D->M D:=Ax .all 3 3 (No)
noncomputable def B1:List D->M D:=Ax .all 3 3 (Fc)
noncomputable def CO:List D->M D:=Ax .all 3 3 (Fy B1)
noncomputable def D8:List D->M D:=BJ .frz 6 2 (JA CO)
noncomputable def FK:List D->M D:=Ax .all 4 3 (KM F6 F5 D8)
noncomputable def EA:List D->M D:=λ_=>A5
noncomputable def Ew:List D->M D:=λ_=>A5
noncomputable def GZ:List D->M D:=λ_=>A5
noncomputable def Ey:List D->M D:=Ax .all 4 3 (JC EA Ew GZ)
noncomputable def DO:List D->M D:=λ_=>A5
noncomputable def EO:List D->M D:=Ax .all 2 2 (Hm DO Ew)
noncomputable def Bd:List D->M D:=Ax .all 3 3 (LL)
noncomputable def Fe:List D->M D:=Ax .all 4 3 (Jn EA Ew GZ Bd)
noncomputable def D9:List D->M D:=Ax .all 5 4 (GV DO Ew Bd)
noncomputable def BD:List D->M D:=Ax .all 5 3 (En Ey EO Fe D9)
noncomputable def Bh:List D->M D:=Ax .all 6 5 (EL BD)
noncomputable def BU:List D->M D:=Ax .all 5 4 (Cd)
noncomputable def f_one_where:List D->M D:=Ax .all 1 1 (DH)
noncomputable def f_number_of_pair:List D->M D:=Ax .all 3 3 (Bq f_one_where)
noncomputable def f_number_of:Nat->List D->M D
 |0=>λ_=>A5
 |n+1=>Ax .all 4 2 (m_number_of (f_number_of n) f_one_where f_number_of_pair)
noncomputable def f_row_behind:List D->M D:=Ax .all 3 3 (Cv (f_number_of 6))
noncomputable def f_followed:List D->M D:=Ax .all 7 3 (D7 f_row_behind)
noncomputable def DJ:List D->M D:=BJ .drop 10 5 (Hb BU f_followed (f_number_of 6))
noncomputable def CU:List D->M D:=Ax .all 6 5 (Fb DJ)
noncomputable def DI:List D->M D:=Ax .all 3 3 (MY Bd)
noncomputable def Ez:List D->M D:=Ax .all 4 4 (Ma)
noncomputable def Dh:List D->M D:=Ax .all 10 5 (KN CU DI Ez Bh)
noncomputable def IG:List D->M D:=Ax .all 7 3 (O4 Bh Dh)
noncomputable def Bg:List D->M D:=Ax .all 2 2 (EK)
noncomputable def Kd:List D->M D:=λ_=>A5
noncomputable def PN:List D->M D:=Ax .all 12 4 (WQ Bg GZ Kd DI Bd Dh)
noncomputable def Wg:List D->M D:=λ_=>A5
noncomputable def Hg:List D->M D:=λ_=>A5
noncomputable def IF:List D->M D:=Ax .all 7 3 (O3 IG Ez B1 PN Wg Bg Hg)
noncomputable def B9:List D->M D:=BJ .drop 5 3 (KL Bi FK IF)
noncomputable def C8:List D->M D:=BJ .drop 8 5 (Mb)
noncomputable def Mt:List D->M D:=BJ .drop 12 1 (WO CP Cy FL Dj Bj E6 B9 C8)
structure Al(w:World)(K:PySem.W.Frag)(mg:Str->Option Value)(h:Heap):Prop where
 X:K.In h
 G:h.Ns mainGlobals mg
 e0:∃f fd,Df K "_law_cell_at" Ij f fd
 e1:∃f fd,Df K "_law_stream" J9 f fd
 e2:∃f fd,Df K "_law_expr" Om f fd
 e3:∃f fd,Df K "_law_rows" Ol f fd
 e4:∃f fd,Df K "_law_later" MA f fd
 e5:∃f fd,Df K "variables_in" Ef f fd
 e6:∃f fd,Df K "variables_of" Ee f fd
 e7:∃f fd,Df K "variables_of_rows" Co f fd
 e8:∃C f fd,Di K "Plan" "Plan.__init__" EH C f fd
 e9:∃f fd,Df K "claim_begun" FU f fd
 e10:∃f fd,Df K "stand_begun" FR f fd
 e11:∃f fd,Df K "first_stand" FS f fd
 e12:∃f fd,Df K "_law_number" KA f fd
 e13:∃f fd,Df K "_law_run" SD f fd
 e14:∃f fd,Df K "is_tuple" Ih f fd
 e15:∃f fd,Df K "is_whole" Ig f fd
 e16:∃C f fd,Dm K "Plan" "row_at" "Plan.row_at" FW C f fd
 e17:∃f fd,Df K "picks_of" Ic f fd
 e18:∃f fd,Df K "moves_of" Ie f fd
 e19:∃f fd,Df K "move_of" J7 f fd
 e20:∃f fd,Df K "case_begun" LA f fd
 e21:∃f fd,Df K "closed" SB f fd
 e22:∃f fd,Df K "beside" SC f fd
 e23:∃f fd,Df K "claim_writes" Eg f fd
 e24:∃f fd,Df K "cases_ended" Ji f fd
 e25:∃f fd,Df K "claim_written" EE f fd
 e26:∃f fd,Df K "with_thing" GP f fd
 e27:∃f fd,Df K "claim_reads" FT f fd
 e28:∃f fd,Df K "claim_told" GR f fd
 e29:∃f fd,Df K "claim_behind" Eh f fd
 e30:∃C f fd,Dm K "Plan" "claim_on" "Plan.claim_on" EG C f fd
 e31:∃C f fd,Dm K "Plan" "named_numbers" "Plan.named_numbers" CW C f fd
 e32:∃f fd,Df K "one_where" HY f fd
 e33:∃f fd,Df K "number_of_pair" DX f fd
 e34:∃f fd,Df K "number_of" HZ f fd
 e35:∃f fd,Df K "row_behind" GQ f fd
 e36:∃f fd,Df K "followed" Ii f fd
 e37:∃f fd,Df K "way_found" HX f fd
 e38:∃C f fd,Dm K "Plan" "way_on" "Plan.way_on" FV C f fd
 e39:∃f fd,Df K "with_hand" HW f fd
 e40:∃f fd,Df K "broken" L8 f fd
 e41:∃f fd,Df K "gone_on" J8 f fd
 e42:∃f fd,Df K "begun" Oj f fd
 e43:∃C f fd,Dm K "Plan" "place_of" "Plan.place_of" EF C f fd
 e44:∃f fd,Df K "between" P5 f fd
 e45:∃f fd,Df K "got" WJ f fd
 e46:∃f fd,Df K "put" Y6 f fd
 e47:∃f fd,Df K "put_ended" L7 f fd
 e48:∃f fd,Df K "moved" Oi f fd
 e49:∃f fd,Df K "stepped" J6 f fd
 e50:∃f fd,Df K "_law_right" L9 f fd
 e51:∃f fd,Df K "law" WI f fd
 e52:∃C,Dc K "Plan" V0 C
 y0:mg "bool" = none
 y1:mg "dict" = none
 y2:mg "enumerate" = none
 y3:mg "int" = none
 y4:mg "isinstance" = none
 y5:mg "len" = none
 y6:mg "max" = none
 y7:mg "min" = none
 y8:mg "range" = none
 y9:mg "set" = none
 y10:mg "sorted" = none
 y11:mg "tuple" = none
 y12:mg "zip" = none
 g0:Glo K mg "GREATEST" DA
 g1:Glo K mg "IDLE" HK
 g2:Glo K mg "NONE" C9
 g3:Glo K mg "UNCOUNTED" Ce
 g4:Yf w K mg "PARTS" Hw
section
variable{P:Program}{w:World}{K:PySem.W.Frag}{mg:Str->Option Value}{base h:Heap}(a:Al w K mg h)
include a
theorem OM:Fn P w K mg base "_law_cell_at" ["_law_script", "_law_k"] 1 (CP):=by
 obtain⟨f,fd,d⟩:=a.e0;exact Bm (k:=0) .drop d.F sc_Lcell_at (PySem.W.mg_of a.X a.G d.a) (d.F.binds λ_ _ _ _ _ _=>lq2 λ_ _=>rfl) (λ_ _ _ _ _ _ hr=>have nd:=sc_Lcell_at.nd;(AF (Aj (AW LJ (AA 1) (BL Hi a.y5 Mi.Cf (AB (AA 0) AG))) (AK (AU (AL AT (AA 0) (AA 1)))) AZ) (AK (AU AE))))
theorem Qx:Fn P w K mg base "_law_stream" ["_law_cell", "_law_size"] 1 (Cy):=by
 obtain⟨f,fd,d⟩:=a.e1;exact Aw (k:=0) .all d.F sc_Lstream (PySem.W.mg_of a.X a.G d.a) (d.F.binds λ_ _ _ _ _ _=>lq2 λ_ _=>rfl) (λ_ _ _ _ _ _ hr=>have nd:=sc_Lstream.nd;(AF (AX 2 nd (D3 AG)) (AF (Aj (AW X9 (AA 0) (Af ZX AE AE)) (AF (AX 3 nd (Af Bc (AA 0) AE)) (AF (C1 PassesOwn.never rfl (DY a.y8 (AB (AA 1) AG)) (DE 4 nd) (AF (CG (BZ PySem.F.slot_list_append PySem.F.type_list_append Cc (AA 2) (AB (Af Bl (AA 3) AE) AG))) (AK (AX 3 nd (Af Bc (AA 3) AE))))) (AK (AU (XR (AA 2) (KD KI AE)))))) AZ) (AF (AX 5 nd (Af Bl (Af KJ (Af BC (Af Bl (AA 0) AE) AE) AE) AE)) (AF (AX 6 nd (Af Bl (Af KJ (Af BC (Af Bl (AA 0) AE) AE) AE) AE)) (AF (C1 PassesOwn.never rfl (DY a.y8 (AB (AA 1) AG)) (DE 4 nd) (AF (AX 5 nd (Af BC (Af BC (Af Bl (Af KJ (AA 5) (Af BC (Af Bc (AA 5) AE) AE)) AE) (AA 4)) AE)) (AF (AX 6 nd (Af Bl (Af KJ (AA 6) AE) AE)) (AK (CG (BZ PySem.F.slot_list_append PySem.F.type_list_append Cc (AA 2) (AB (Af BC (AA 5) (AA 6)) AG))))))) (AK (AU (AA 2)))))))))
theorem Pe(n:Nat):Fn P w K mg base "_law_expr" ["_law_xs", "_law_names", "_law_deep"] (n+1) (FM n):=by
 obtain⟨f,fd,d⟩:=a.e2
 induction n with
 |zero=>exact Bo d.F (PySem.W.mg_of a.X a.G d.a) (d.F.binds λ_ _ _ _ _ _=>lq3 λ_ _ _=>rfl)
 |succ n ih=>exact(Bm (k:=n+1) .drop d.F sc_Lexpr (PySem.W.mg_of a.X a.G d.a) (d.F.binds λ_ _ _ _ _ _=>lq3 λ_ _ _=>rfl) (λ_ _ _ _ _ _ hr=>have nd:=sc_Lexpr.nd;(AF (AX 3 nd (Af Bl (Af Bc (A4 PySem.F.slot_list_pop PySem.F.type_list_pop Cq (AA 0)) AE) AE)) (AF (Aj (RW.rt (KB (AW (A0 hr) (AA 2) AE) (Ik (AW LJ (AA 3) AE)))) (AF (Aj (AW (A0 hr) (Af Bl (AA 3) AE) AE) (AK (AU (AY (AB AO (AB (Af Bl (Af Bc (A4 PySem.F.slot_list_pop PySem.F.type_list_pop Cq (AA 0)) AE) AE) AG))))) AZ) (AK (AU (AY (AB AO (AB (AL AT (AA 1) (Af Bl (Af Bc (A4 PySem.F.slot_list_pop PySem.F.type_list_pop Cq (AA 0)) AE) (BL Hi a.y5 Mi.Cf (AB (AA 1) AG)))) AG)))))) AZ) (AF (Aj (AW (A0 hr) (AA 3) AE) (AK (AU (AY (AB AO (AB (Ag (hkj:=AAF _) ih hr (AB (AA 0) (AB (AA 1) (AB (Af Iv (AA 2) AE) AG)))) AG))))) AZ) (AF (AX 4 nd (AL AT (CM (AB AO (AB AO (AB AO (AB AO (AB AO (AB AO (AB AO AG)))))))) (Af Bl (Af Bc (A4 PySem.F.slot_list_pop PySem.F.type_list_pop Cq (AA 0)) AE) AE))) (AF (AX 5 nd (Ag (hkj:=AAF _) ih hr (AB (AA 0) (AB (AA 1) (AB (Af Iv (AA 2) AE) AG))))) (AK (AU (AY (AB (AA 4) (AB (AA 5) (AB (Ag (hkj:=AAF _) ih hr (AB (AA 0) (AB (AA 1) (AB (Af Iv (AA 2) AE) AG)))) AG))))))))))))).mono (by omega)
theorem WD:Fn P w K mg base "_law_rows" ["_law_xs"] 6 (FL):=by
 obtain⟨f,fd,d⟩:=a.e3;exact Bm (k:=5) .frz d.F sc_Lrows (PySem.W.mg_of a.X a.G d.a) (d.F.binds λ_ _ _ _ _ _=>lq1 λ_=>rfl) (λ_ _ _ _ _ _ hr=>have nd:=sc_Lrows.nd;(AF (AX 1 nd (Af BC AE (Af Bl (Af Bc (A4 PySem.F.slot_list_pop PySem.F.type_list_pop Cq (AA 0)) AE) AE))) (AF (AX 2 nd (D3 AG)) (AF (C1 PassesOwn.never rfl (DY a.y8 (AB (AA 1) AG)) (DE 3 nd) (AF (AX 4 nd (Af Bl (Af Bc (A4 PySem.F.slot_list_pop PySem.F.type_list_pop Cq (AA 0)) AE) AE)) (AK (Aj (AW LJ (AA 4) AE) (AK (CG (BZ PySem.F.slot_list_append PySem.F.type_list_append Cc (AA 2) (AB (AY (AB AO (AB (AL AT AO (Af Bl (Af Bc (A4 PySem.F.slot_list_pop PySem.F.type_list_pop Cq (AA 0)) AE) AE)) (AB (Ag (Pe a 4) hr (AB (AA 0) (AB (CM (AB AO (AB AO AG))) (AB AE AG)))) AG)))) AG)))) (AK (Aj (AW LJ (AA 4) AE) (AK (CG (BZ PySem.F.slot_list_append PySem.F.type_list_append Cc (AA 2) (AB (AY (AB AO (AB (Ag (Pe a 4) hr (AB (AA 0) (AB (CM (AB AO (AB AO AG))) (AB AE AG)))) (AB (Af Bl (Af Bc (A4 PySem.F.slot_list_pop PySem.F.type_list_pop Cq (AA 0)) AE) (Af BC (AA 1) AE)) AG)))) AG)))) (AK (CG (BZ PySem.F.slot_list_append PySem.F.type_list_append Cc (AA 2) (AB (AY (AB AO (AB (Af Bl (Af Bc (A4 PySem.F.slot_list_pop PySem.F.type_list_pop Cq (AA 0)) AE) (Af BC (AA 1) AE)) AG))) AG)))))))))) (AF (Aj (AW (A0 hr) (Af Bl (Af Bc (A4 PySem.F.slot_list_pop PySem.F.type_list_pop Cq (AA 0)) AE) AE) AE) (AK (Nb (AY (AB AO (AB (AL AT AO (Af Bl (Af Bc (A4 PySem.F.slot_list_pop PySem.F.type_list_pop Cq (AA 0)) AE) AE)) (AB AO AG)))) (SR (AA 2) (Af Bl (Af Bc (A4 PySem.F.slot_list_pop PySem.F.type_list_pop Cq (AA 0)) AE) (AA 1))))) AZ) (AF (Aj (AW TB (Af Bl (Af Bc (A4 PySem.F.slot_list_pop PySem.F.type_list_pop Cq (AA 0)) AE) AE) AE) (AK (Nb (AY (AB AO (AB (AY (AB AO (AB (AL AT AO (Af Bl (Af Bc (A4 PySem.F.slot_list_pop PySem.F.type_list_pop Cq (AA 0)) AE) AE)) AG))) AG))) (SR (AA 2) (KD KI AE)))) AZ) (AK (AU (AA 2)))))))))
theorem T3:Fn P w K mg base "_law_later" ["_law_row"] 1 (Dj):=by
 obtain⟨f,fd,d⟩:=a.e4;exact Bm (k:=0) .drop d.F sc_Llater (PySem.W.mg_of a.X a.G d.a) (d.F.binds λ_ _ _ _ _ _=>lq1 λ_=>rfl) (λ_ _ _ _ _ _ hr=>have nd:=sc_Llater.nd;(AF (Aj (RW.rt (KB (AW (A0 hr) (AL AT (AA 0) AE) AO) (Ik (AW (A0 hr) (AL AT (AA 0) AE) AO)))) (AK (AU (Af BC (Fv (AA 0) Dy (Dx (KD KI AE))) (AY (AB (Af BC (AL AT (AA 0) (KD KI AE)) AE) AG))))) AZ) (AK (AU (AA 0)))))
theorem Jc(n:Nat):Fn P w K mg base "variables_in" ["expression"] (n+1) (Ao n):=by
 obtain⟨f,fd,d⟩:=a.e5
 induction n with
 |zero=>exact Bo d.F (PySem.W.mg_of a.X a.G d.a) (d.F.binds λ_ _ _ _ _ _=>lq1 λ_=>rfl)
 |succ n ih=>exact(Bm (k:=n+1) .frz d.F sc_variables_in (PySem.W.mg_of a.X a.G d.a) (d.F.binds λ_ _ _ _ _ _=>lq1 λ_=>rfl) (λ_ _ _ _ _ _ hr=>have nd:=sc_variables_in.nd;(AF (Aj (AW (A0 hr) (AL AT (AA 0) AE) AO) (AK (AU (CM AG))) AZ) (AF (Aj (AW (A0 hr) (AL AT (AA 0) AE) AO) (AK (AU (CM (AB (AL AT (AA 0) AE) AG)))) AZ) (AF (AX 1 nd (D3 AG)) (AF (C1 PassesOwn.never rfl (CL (Fv (AA 0) (Dx AE) Dy)) (DE 2 nd) (AK (CG (BZ PySem.F.slot_list_extend PySem.F.type_list_extend JB (AA 1) (AB (Ag (hkj:=AAF _) ih hr (AB (AA 2) AG)) AG))))) (AK (AU (AA 1))))))))).mono (by omega)
theorem Jb:Fn P w K mg base "variables_of" ["row"] 8 (Bb):=by
 obtain⟨f,fd,d⟩:=a.e6;exact Bm (k:=7) .frz d.F sc_variables_of (PySem.W.mg_of a.X a.G d.a) (d.F.binds λ_ _ _ _ _ _=>lq1 λ_=>rfl) (λ_ _ _ _ _ _ hr=>have nd:=sc_variables_of.nd;(AF (AX 1 nd (D3 AG)) (AF (C1 PassesOwn.never rfl (U5 a.y12 (AB (U8 a.g4 (AL AT (AA 0) AE)) (AB (Fv (AA 0) (Dx AE) Dy) AG))) (LD (is:=[2,3]) rfl (CI (BF (i:=2) nd rfl (by first|exact Or.inl rfl|exact Or.inr rfl)) (CI (BF (i:=3) nd rfl (by first|exact Or.inl rfl|exact Or.inr rfl)) H9))) (AF (Aj (AW (A0 hr) (AA 2) AO) (AK (CG (BZ PySem.F.slot_list_append PySem.F.type_list_append Cc (AA 1) (AB (AA 3) AG)))) AZ) (AK (Aj (AW (A0 hr) (AA 2) AO) (AK (CG (BZ PySem.F.slot_list_extend PySem.F.type_list_extend JB (AA 1) (AB (Ag (Jc a 6) hr (AB (AA 3) AG)) AG)))) AZ)))) (AK (AU (AA 1))))))
theorem FQ:Fn P w K mg base "variables_of_rows" ["rows"] 9 (Ap):=by
 obtain⟨f,fd,d⟩:=a.e7;exact Bm (k:=8) .drop d.F sc_variables_of_rows (PySem.W.mg_of a.X a.G d.a) (d.F.binds λ_ _ _ _ _ _=>lq1 λ_=>rfl) (λ_ _ _ _ _ _ hr=>have nd:=sc_variables_of_rows.nd;(AF (AX 1 nd (D3 AG)) (AF (C1 PassesOwn.never rfl (CL (AA 0)) (DE 2 nd) (AK (CG (BZ PySem.F.slot_list_extend PySem.F.type_list_extend JB (AA 1) (AB (Ag (Jb a) hr (AB (AA 2) AG)) AG))))) (AK (AU (D4 (tgs:=["name"]) (ix:=[]) (i:=0) (n:=1) ⟨rfl,by decide +kernel,by decide +kernel,trivial,rfl,by decide +kernel⟩ rfl (CL (MF a.y10 a.y9 (AA 1))) (λ_ _ _ _=>BF (i:=0) (show List.Nodup (["name"]:List Str) from by decide +kernel) rfl (Or.inl rfl)) (λ_ _ _ _=>SQ (AW (Jm hr) (AA 0) AO)) (λ_ _ _ _=>(AA 0))))))))
theorem EU:Ini P w K mg base "Plan" ["self", "making"] 10 (Bi):=by
 obtain⟨C,f,fd,d⟩:=a.e8;obtain⟨bC,a7⟩:=a.e52;exact Qb (k:=9) .all d sc_Plan___init__ (PySem.W.mg_of a.X a.G d.at_) (d.F.binds λ_ _ _ _ _ _=>lq2 λ_ _=>rfl) (λ_ _ _ _ _ _ hr=>have nd:=sc_Plan___init__.nd;(AF (G3 a7.ca (a7.na "making" (by decide +kernel)) (AA 0) (AA 1)) (AF (G3 a7.ca (a7.na "names" (by decide +kernel)) (AA 0) (D4 (tgs:=["hand"]) (ix:=[]) (i:=0) (n:=1) ⟨rfl,by decide +kernel,by decide +kernel,trivial,rfl,by decide +kernel⟩ rfl (CL (AL AT (AA 1) AE)) (λ_ _ _ _=>BF (i:=0) (show List.Nodup (["hand"]:List Str) from by decide +kernel) rfl (Or.inl rfl)) (λ_ _ _ _=>CH) (λ_ _ _ _=>(AL AT (AA 0) AE)))) (AF (G3 a7.ca (a7.na "variables" (by decide +kernel)) (AA 0) (D4 (tgs:=["hand"]) (ix:=[]) (i:=0) (n:=1) ⟨rfl,by decide +kernel,by decide +kernel,trivial,rfl,by decide +kernel⟩ rfl (CL (AL AT (AA 1) AE)) (λ_ _ _ _=>BF (i:=0) (show List.Nodup (["hand"]:List Str) from by decide +kernel) rfl (Or.inl rfl)) (λ_ _ _ _=>CH) (λ_ _ _ _=>(Ag (FQ a) hr (AB (AL AT (AA 0) AE) AG))))) (AF (G3 a7.ca (a7.na "places" (by decide +kernel)) (AA 0) VB) (AF (C1 PassesOwn.never rfl (ME a.y2 (AB (AL AT (AA 1) AE) AG)) (LD (is:=[2,3]) rfl (CI (BF (i:=2) nd rfl (by first|exact Or.inl rfl|exact Or.inr rfl)) (CI (BF (i:=3) nd rfl (by first|exact Or.inl rfl|exact Or.inr rfl)) H9))) (AK (Dw hr (BB a7.ca (a7.na "places" (by decide +kernel)) (AA 0)) (AL AT (AA 3) AE) (AA 2)))) (AF (G3 a7.ca (a7.na "ways" (by decide +kernel)) (AA 0) MG) (AK (G3 a7.ca (a7.na "claims" (by decide +kernel)) (AA 0) MG)))))))))
theorem Jx:Fn P w K mg base "claim_begun" ["making"] 1 (DN):=by
 obtain⟨f,fd,d⟩:=a.e9;exact Aw (k:=0) .all d.F sc_claim_begun (PySem.W.mg_of a.X a.G d.a) (d.F.binds λ_ _ _ _ _ _=>lq1 λ_=>rfl) (λ_ _ _ _ _ _ hr=>have nd:=sc_claim_begun.nd;(AF (AX 1 nd (Af Iv (BL Hi a.y5 Mi.Cf (AB (AL AT (AA 0) AE) AG)) AE)) (AF (Aj (AW (A0 hr) (AL AT (AA 0) AE) AO) (AK (AU (AY (AB (AY (AB (AL AT (AA 0) AE) (AB (Cp a.g2) (AB (Af Nh (AY (AB (Cp a.g2) AG)) (AA 1)) AG)))) AG)))) AZ) (AK (AU (AY (AB (AL AT (AA 0) AE) (AB (Cp a.g2) (AB (Af Nh (AY (AB Ar AG)) (AA 1)) AG)))))))))
theorem Ju:Fn P w K mg base "stand_begun" ["plan"] 2 (DM):=by
 obtain⟨f,fd,d⟩:=a.e10;obtain⟨bC,a7⟩:=a.e52;exact Aw (k:=1) .all d.F sc_stand_begun (PySem.W.mg_of a.X a.G d.a) (d.F.binds λ_ _ _ _ _ _=>lq1 λ_=>rfl) (λ_ _ _ _ _ _ hr=>have nd:=sc_stand_begun.nd;(AF (Fu 1 (tgs:=["names"]) (ix:=[]) (i:=0) (n:=1) nd ⟨rfl,by decide +kernel,by decide +kernel,trivial,rfl,by decide +kernel⟩ rfl (CL (BB a7.ca (a7.na "variables" (by decide +kernel)) (AA 0))) (λ_ _ _ _=>BF (i:=0) (show List.Nodup (["names"]:List Str) from by decide +kernel) rfl (Or.inl rfl)) (λ_ _ _ _=>CH) (λ_ _ _ _=>(AY (AB (Cp a.g1) (AB Ar (AB AE (AB AE (AB (Af Nh (AY (AB AE AG)) (BL Hi a.y5 Mi.Cf (AB (AA 0) AG))) AG))))))) (λ_ _ _ _ _ _ _ _ R i e q=>D6 R i e q)) (AF (Fu 2 (tgs:=["box"]) (ix:=[]) (i:=0) (n:=1) nd ⟨rfl,by decide +kernel,by decide +kernel,trivial,rfl,by decide +kernel⟩ rfl (CL (AL AT (BB a7.ca (a7.na "making" (by decide +kernel)) (AA 0)) AE)) (λ_ _ _ _=>BF (i:=0) (show List.Nodup (["box"]:List Str) from by decide +kernel) rfl (Or.inl rfl)) (λ_ _ _ _=>CH) (λ_ _ _ _=>(AY (AB (AL AT (AA 0) AE) (AB (Cp a.g2) AG)))) (λ_ _ _ _ _ _ _ _ R i e q=>D6 R i e q)) (AK (AU (AY (AB (BR Gh a.y11 Mi.B6 (AB (AA 1) AG)) (AB (BR Gh a.y11 Mi.B6 (AB (AA 2) AG)) (AB (Ag (Jx a) hr (AB (BB a7.ca (a7.na "making" (by decide +kernel)) (AA 0)) AG)) AG)))))))))
theorem Jv:Fn P w K mg base "first_stand" ["making"] 12 (Bj):=by
 obtain⟨f,fd,d⟩:=a.e11;exact Bm (k:=11) .drop d.F sc_first_stand (PySem.W.mg_of a.X a.G d.a) (d.F.binds λ_ _ _ _ _ _=>lq1 λ_=>rfl) (λ_ _ _ _ _ _ hr=>have nd:=sc_first_stand.nd;(AK (AU (Ag (Ju a) hr (AB (Oq (EU a) hr (AB (AA 0) AG)) AG)))))
theorem HS(n:Nat):Fn P w K mg base "_law_number" ["_law_e", "_law_numbers"] (n+1) (BS n):=by
 obtain⟨f,fd,d⟩:=a.e12
 induction n with
 |zero=>exact Bo d.F (PySem.W.mg_of a.X a.G d.a) (d.F.binds λ_ _ _ _ _ _=>lq2 λ_ _=>rfl)
 |succ n ih=>exact(Bm (k:=n+1) .drop d.F sc_Lnumber (PySem.W.mg_of a.X a.G d.a) (d.F.binds λ_ _ _ _ _ _=>lq2 λ_ _=>rfl) (λ_ _ _ _ _ _ hr=>have nd:=sc_Lnumber.nd;(AF (Aj (AW (A0 hr) (AL AT (AA 0) AE) AO) (AK (AU (AL AT (AA 0) AE))) AZ) (AF (Aj (AW (A0 hr) (AL AT (AA 0) AE) AO) (AK (AU (Bp hr (AA 1) (AL AT (AA 0) AE)))) AZ) (AF (AX 2 nd (Ag (hkj:=AAF _) ih hr (AB (AL AT (AA 0) AE) (AB (AA 1) AG)))) (AF (Aj (AW (A0 hr) (AL AT (AA 0) AE) AO) (AK (AU (BR Kh a.y3 Mi.DB (AB (BK (A0 hr) (AA 2) AE) AG)))) AZ) (AF (AX 3 nd (Ag (hkj:=AAF _) ih hr (AB (AL AT (AA 0) AE) (AB (AA 1) AG)))) (AF (AX 4 nd (MH (FI (BL (Wk rfl) a.y7 Mi.NB (AB AE (AB (Af BC (AA 2) (AA 3)) AG))) (FI (BL (Wl rfl) a.y6 Mi.NC (AB AE (AB (Af Iv (AA 2) (AA 3)) AG))) (FI (BR Kh a.y3 Mi.DB (AB (BK (A0 hr) (AA 2) (AA 3)) AG)) (FI (BR Kh a.y3 Mi.DB (AB (BK LJ (AA 2) (AA 3)) AG)) SJ)))))) (AF (Dw hr (AA 4) AO (BR Kh a.y3 Mi.DB (AB (Fw (BK TB (AA 2) AE) (Dz (BK TB (AA 3) AE))) AG))) (AF (Dw hr (AA 4) AO (BR Kh a.y3 Mi.DB (AB (ST (BK TB (AA 2) AE) (Dz (BK TB (AA 3) AE))) AG))) (AK (AU (Bp hr (AA 4) (AL AT (AA 0) AE)))))))))))))).mono (by omega)
theorem T2:Fn P w K mg base "_law_run" ["_law_rows_here", "_law_at", "_law_numbers", "_law_size"] 7 (E6):=by
 obtain⟨f,fd,d⟩:=a.e13;exact Bm (k:=6) .drop d.F sc_Lrun (PySem.W.mg_of a.X a.G d.a) (d.F.binds λ_ _ _ _ _ _=>lq4 λ_ _ _ _=>rfl) (λ_ _ _ _ _ _ hr=>have nd:=sc_Lrun.nd;(AF (AX 4 nd (D3 AG)) (AF (C1 PassesOwn.never rfl (DY a.y8 (AB AE AG)) (DE 5 nd) (AF (Aj (AW (A0 hr) (AA 1) (BL Hi a.y5 Mi.Cf (AB (AA 0) AG))) (AK (AU (AY (AB AO (AB AO AG))))) AZ) (AF (AX 6 nd (AL AT (AA 0) (AA 1))) (AF (Aj (AW (A0 hr) (AL AT (AA 6) AE) AO) (AK (AU (AY (AB AO (AB (AA 1) AG))))) AZ) (AF (Aj (AW (A0 hr) (AL AT (AA 6) AE) AO) (AF (AX 7 nd (Ag (HS a 5) hr (AB (AL AT (AA 6) AE) (AB (AA 2) AG)))) (AK (AU (AL AT (CM (AB (AY (AB AO (AB (AA 7) AG))) (AB (AY (AB AO (AB AO AG))) AG))) (BR Kh a.y3 Mi.DB (AB (BK X9 (AA 7) (AA 3)) AG)))))) AZ) (AF (Aj (AW (WN hr) (AY (AB (AA 1) (AB (Bp hr (AA 2) AO) (AB (Bp hr (AA 2) AO) AG)))) (AA 4)) (AK (AU (AY (AB AO (AB AO AG))))) AZ) (AF (CG (BZ PySem.F.slot_list_append PySem.F.type_list_append Cc (AA 4) (AB (AY (AB (AA 1) (AB (Bp hr (AA 2) AO) (AB (Bp hr (AA 2) AO) AG)))) AG))) (AF (AX 1 nd (Af BC (AA 1) AE)) (AK (Aj (AW (A0 hr) (AL AT (AA 6) AE) AO) (AK (Dw hr (AA 2) (AL AT (AA 6) AE) (Ag (HS a 5) hr (AB (AL AT (AA 6) AE) (AB (AA 2) AG))))) (AK (Aj (AW (A0 hr) (AL AT (AA 6) AE) AO) (AK (AX 1 nd (AL AT (AA 6) AE))) (AK (Aj (AW (A0 hr) (Ag (HS a 5) hr (AB (AL AT (AA 6) AE) (AB (AA 2) AG))) AE) (AK (AX 1 nd (AL AT (AA 6) AE))) AZ)))))))))))))) (AK (AU (AY (AB AO (AB Ar AG))))))))
theorem OK:Fn P w K mg base "is_tuple" ["thing", "least", "most"] 1 (F6):=by
 obtain⟨f,fd,d⟩:=a.e14;exact Aw (k:=0) .all d.F sc_is_tuple (PySem.W.mg_of a.X a.G d.a) (d.F.binds λ_ _ _ _ _ _=>lq3 λ_ _ _=>rfl) (λ_ _ _ _ _ _ hr=>have nd:=sc_is_tuple.nd;(AK (AU (Fw (BL OB a.y4 Mi.Cn (AB (AA 0) (AB (LE a.y11 Mi.B6) AG))) (Dz (MI Vl Vl (AA 1) (BL Hi a.y5 Mi.Cf (AB (AA 0) AG)) (AA 2)))))))
theorem OJ:Fn P w K mg base "is_whole" ["thing", "least", "most"] 1 (F5):=by
 obtain⟨f,fd,d⟩:=a.e15;exact Aw (k:=0) .all d.F sc_is_whole (PySem.W.mg_of a.X a.G d.a) (d.F.binds λ_ _ _ _ _ _=>lq3 λ_ _ _=>rfl) (λ_ _ _ _ _ _ hr=>have nd:=sc_is_whole.nd;(AK (AU (Fw (BL OB a.y4 Mi.Cn (AB (AA 0) (AB (LE a.y3 Mi.DB) AG))) (Fw (XS (BL OB a.y4 Mi.Cn (AB (AA 0) (AB (LE a.y0 Mi.Qs) AG)))) (Dz (MI Vl Vl (AA 1) (AA 0) (AA 2))))))))
theorem Fi:Mth P w K mg base "Plan" "row_at" ["self", "number", "at"] 1 (B1):=by
 obtain⟨C,f,fd,d⟩:=a.e16;obtain⟨bC,a7⟩:=a.e52;exact DZ (k:=0) .all d sc_Plan_row_at (d.F.binds λ_ _ _ _ _ _=>lq3 λ_ _ _=>rfl) (λ_ _ _ _ _ _ hr=>have nd:=sc_Plan_row_at.nd;(AK (AU (AL AT (AL AT (AL AT (AL AT (BB a7.ca (a7.na "making" (by decide +kernel)) (AA 0)) AE) (AA 1)) AE) (AA 2)))))
theorem OH:Fn P w K mg base "picks_of" ["plan", "number", "hand"] 2 (CO):=by
 obtain⟨f,fd,d⟩:=a.e17;obtain⟨bC,a7⟩:=a.e52;exact Aw (k:=1) .all d.F sc_picks_of (PySem.W.mg_of a.X a.G d.a) (d.F.binds λ_ _ _ _ _ _=>lq3 λ_ _ _=>rfl) (λ_ _ _ _ _ _ hr=>have nd:=sc_picks_of.nd;(AF (Aj (AW (A0 hr) (AL AT (AA 2) AE) (Cp a.g1)) (AK (AU (DG (AW (A0 hr) (AA 1) AE) (P8 a.y11 a.y8 (AL AT (BB a7.ca (a7.na "making" (by decide +kernel)) (AA 0)) AE)) (AY (AB AE AG))))) AZ) (AF (Aj (RW.rt (G1 (AW LK (AL AT (AA 2) AE) Ar) (FH (AW (A0 hr) (AL AT (DF (Fi a) hr (AA 0) (AB (AA 1) (AB (AL AT (AA 2) AE) AG))) AE) AO)))) (AK (AU (AL AT (AA 2) AE))) AZ) (AK (AU (AY (AB AE AG)))))))
theorem OI:Fn P w K mg base "moves_of" ["plan", "stand"] 3 (D8):=by
 obtain⟨f,fd,d⟩:=a.e18;exact Bm (k:=2) .frz d.F sc_moves_of (PySem.W.mg_of a.X a.G d.a) (d.F.binds λ_ _ _ _ _ _=>lq2 λ_ _=>rfl) (λ_ _ _ _ _ _ hr=>have nd:=sc_moves_of.nd;(AF (AX 2 nd (D3 AG)) (AF (C1 PassesOwn.never rfl (ME a.y2 (AB (AL AT (AA 1) AE) AG)) (LD (is:=[3,4]) rfl (CI (BF (i:=3) nd rfl (by first|exact Or.inl rfl|exact Or.inr rfl)) (CI (BF (i:=4) nd rfl (by first|exact Or.inl rfl|exact Or.inr rfl)) H9))) (AK (C1 PassesOwn.never rfl (CL (Ag (OH a) hr (AB (AA 0) (AB (AA 3) (AB (AA 4) AG))))) (DE 5 nd) (AK (CG (BZ PySem.F.slot_list_append PySem.F.type_list_append Cc (AA 2) (AB (AY (AB (AA 3) (AB (AA 5) AG))) AG))))))) (AK (AU (AA 2))))))
theorem Qv:Fn P w K mg base "move_of" ["plan", "stand", "step"] 4 (FK):=by
 obtain⟨f,fd,d⟩:=a.e19;obtain⟨bC,a7⟩:=a.e52;exact Aw (k:=3) .all d.F sc_move_of (PySem.W.mg_of a.X a.G d.a) (d.F.binds λ_ _ _ _ _ _=>lq3 λ_ _ _=>rfl) (λ_ _ _ _ _ _ hr=>have nd:=sc_move_of.nd;(AF (Aj (RW.rt (KB (LC (Ft (Ag (OK a) hr (AB (AA 2) (AB AE (AB AE AG)))))) (KB (AW Ov (AL AT (AA 2) AE) (BB a7.ca (a7.na "names" (by decide +kernel)) (AA 0))) (Ik (LC (Ft (Ag (OJ a) hr (AB (AL AT (AA 2) AE) (AB AE (AB (Cp a.g0) AG)))))))))) (AK (AU Ar)) AZ) (AF (AX 3 nd (AY (AB (BZ PySem.F.slot_list_index PySem.F.type_list_index MZ (BB a7.ca (a7.na "names" (by decide +kernel)) (AA 0)) (AB (AL AT (AA 2) AE) AG)) (AB (AL AT (AA 2) AE) AG)))) (AK (AU (DG (AW (WN hr) (AA 3) (Ag (OI a) hr (AB (AA 0) (AB (AA 1) AG)))) (AA 3) Ar))))))
theorem Gq:Fn P w K mg base "case_begun" ["case", "hand", "worth"] 1 (EA):=by
 obtain⟨f,fd,d⟩:=a.e20;exact Bo d.F (PySem.W.mg_of a.X a.G d.a) (d.F.binds λ_ _ _ _ _ _=>lq3 λ_ _ _=>rfl)
theorem Gp:Fn P w K mg base "closed" ["cases"] 1 (Ew):=by
 obtain⟨f,fd,d⟩:=a.e21;exact Bo d.F (PySem.W.mg_of a.X a.G d.a) (d.F.binds λ_ _ _ _ _ _=>lq1 λ_=>rfl)
theorem Jg:Fn P w K mg base "beside" ["kind", "size", "worths", "coming"] 1 (GZ):=by
 obtain⟨f,fd,d⟩:=a.e22;exact Bo d.F (PySem.W.mg_of a.X a.G d.a) (d.F.binds λ_ _ _ _ _ _=>lq4 λ_ _ _ _=>rfl)
theorem Jd:Fn P w K mg base "claim_writes" ["making", "claim", "worth"] 2 (Ey):=by
 obtain⟨f,fd,d⟩:=a.e23;exact Aw (k:=1) .all d.F sc_claim_writes (PySem.W.mg_of a.X a.G d.a) (d.F.binds λ_ _ _ _ _ _=>lq3 λ_ _ _=>rfl) (λ_ _ _ _ _ _ hr=>have nd:=sc_claim_writes.nd;(AF (Aj (AW (A0 hr) (AL AT (AA 0) AE) AO) (AK (AU (Ag (Gp a) hr (AB (D4 (tgs:=["case"]) (ix:=[2]) (i:=0) (n:=1) ⟨rfl,by decide +kernel,by decide +kernel,⟨Or.inl rfl,trivial⟩,rfl,by decide +kernel⟩ rfl (CL (AA 1)) (λ_ _ _ _=>BF (i:=0) (show List.Nodup (["case", "worth"]:List Str) from by decide +kernel) rfl (Or.inl rfl)) (λ_ _ _ _=>CH) (λ_ _ _ _=>(Ag (Gq a) hr (AB (AA 0) (AB AE (AB (AA 1) AG)))))) AG)))) AZ) (AF (Fu 3 (tgs:=["told"]) (ix:=[0,2]) (i:=0) (n:=1) nd ⟨rfl,by decide +kernel,by decide +kernel,⟨Or.inl rfl,Or.inl rfl,trivial⟩,rfl,by decide +kernel⟩ rfl (CL (AL AT (AA 1) AE)) (λ_ _ _ _=>BF (i:=0) (show List.Nodup (["told", "making", "worth"]:List Str) from by decide +kernel) rfl (Or.inl rfl)) (λ_ _ _ _=>CH) (λ_ _ _ _=>(DG (AW MR (AA 0) Ar) (AA 0) (Ag (Jg a) hr (AB (AL AT (AA 1) AE) (AB (AL AT (AA 1) AE) (AB (AA 0) (AB (AA 2) AG))))))) (λ_ _ _ _ _ _ _ _ R i e q=>D6 R i e q)) (AK (AU (AY (AB (AL AT (AA 1) AE) (AB (AA 2) (AB (BR Gh a.y11 Mi.B6 (AB (AA 3) AG)) AG)))))))))
theorem Fh:Fn P w K mg base "cases_ended" ["cases", "hand", "worth"] 1 (DO):=by
 obtain⟨f,fd,d⟩:=a.e24;exact Bo d.F (PySem.W.mg_of a.X a.G d.a) (d.F.binds λ_ _ _ _ _ _=>lq3 λ_ _ _=>rfl)
theorem Hr:Fn P w K mg base "claim_written" ["making", "claim"] 2 (EO):=by
 obtain⟨f,fd,d⟩:=a.e25;exact Aw (k:=1) .all d.F sc_claim_written (PySem.W.mg_of a.X a.G d.a) (d.F.binds λ_ _ _ _ _ _=>lq2 λ_ _=>rfl) (λ_ _ _ _ _ _ hr=>have nd:=sc_claim_written.nd;(AF (Aj (AW (A0 hr) (AL AT (AA 0) AE) AO) (AK (AU (Ag (Gp a) hr (AB (Ag (Fh a) hr (AB (AA 1) (AB AE (AB (Cp a.g2) AG)))) AG)))) AZ) (AK (AU (AY (AB (AL AT (AA 1) AE) (AB (Cp a.g2) (AB (AL AT (AA 1) AE) AG))))))))
theorem Cw:Fn P w K mg base "with_thing" ["things", "place", "thing"] 1 (Bd):=by
 obtain⟨f,fd,d⟩:=a.e26;exact Aw (k:=0) .all d.F sc_with_thing (PySem.W.mg_of a.X a.G d.a) (d.F.binds λ_ _ _ _ _ _=>lq3 λ_ _ _=>rfl) (λ_ _ _ _ _ _ hr=>have nd:=sc_with_thing.nd;(AK (AU (Af BC (Af BC (Fv (AA 0) Dy (Dx (AA 1))) (AY (AB (AA 2) AG))) (Fv (AA 0) (Dx (Af BC (AA 1) AE)) Dy)))))
theorem Jw:Fn P w K mg base "claim_reads" ["making", "claim", "reader"] 2 (Fe):=by
 obtain⟨f,fd,d⟩:=a.e27;exact Aw (k:=1) .all d.F sc_claim_reads (PySem.W.mg_of a.X a.G d.a) (d.F.binds λ_ _ _ _ _ _=>lq3 λ_ _ _=>rfl) (λ_ _ _ _ _ _ hr=>have nd:=sc_claim_reads.nd;(AF (Aj (AW (A0 hr) (AL AT (AA 0) AE) AO) (AK (AU (Ag (Gp a) hr (AB (D4 (tgs:=["case"]) (ix:=[2]) (i:=0) (n:=1) ⟨rfl,by decide +kernel,by decide +kernel,⟨Or.inl rfl,trivial⟩,rfl,by decide +kernel⟩ rfl (CL (AA 1)) (λ_ _ _ _=>BF (i:=0) (show List.Nodup (["case", "reader"]:List Str) from by decide +kernel) rfl (Or.inl rfl)) (λ_ _ _ _=>CH) (λ_ _ _ _=>(Ag (Gq a) hr (AB (AA 0) (AB (Af BC (AA 1) AE) (AB (Cp a.g2) AG)))))) AG)))) AZ) (AF (AX 3 nd (AY (AB (AL AT (AA 1) AE) AG))) (AF (Aj (AW (Jm hr) (AL AT (AA 1) AE) (Cp a.g2)) (AK (AX 3 nd (Ag (Jg a) hr (AB (AL AT (AA 0) AE) (AB (AL AT (AA 0) AE) (AB (AA 3) (AB (AL AT (AA 1) AE) AG))))))) AZ) (AK (AU (AY (AB (AL AT (AA 1) AE) (AB (AL AT (AA 1) AE) (AB (Ag (Cw a) hr (AB (AL AT (AA 1) AE) (AB (AA 2) (AB (AA 3) AG)))) AG))))))))))
theorem Lf:Fn P w K mg base "claim_told" ["making", "claim", "reader", "worth"] 2 (D9):=by
 obtain⟨f,fd,d⟩:=a.e28;exact Aw (k:=1) .all d.F sc_claim_told (PySem.W.mg_of a.X a.G d.a) (d.F.binds λ_ _ _ _ _ _=>lq4 λ_ _ _ _=>rfl) (λ_ _ _ _ _ _ hr=>have nd:=sc_claim_told.nd;(AF (Aj (AW (A0 hr) (AL AT (AA 0) AE) AO) (AF (AX 4 nd (Ag (Fh a) hr (AB (AA 1) (AB (Af BC (AA 2) AE) (AB (AA 3) AG))))) (AK (AU (DG (U2 (AA 4)) (Ag (Gp a) hr (AB (AA 4) AG)) Ar)))) AZ) (AF (Aj (AW Ov (AA 3) (AL AT (AL AT (AA 1) AE) (AA 2))) (AK (AU Ar)) AZ) (AK (AU (AY (AB (AL AT (AA 1) AE) (AB (AL AT (AA 1) AE) (AB (Ag (Cw a) hr (AB (AL AT (AA 1) AE) (AB (AA 2) (AB Ar AG)))) AG)))))))))
theorem Je:Fn P w K mg base "claim_behind" ["making", "claim", "act"] 3 (BD):=by
 obtain⟨f,fd,d⟩:=a.e29;exact Aw (k:=2) .all d.F sc_claim_behind (PySem.W.mg_of a.X a.G d.a) (d.F.binds λ_ _ _ _ _ _=>lq3 λ_ _ _=>rfl) (λ_ _ _ _ _ _ hr=>have nd:=sc_claim_behind.nd;(AF (AX 3 nd (BK (A0 hr) (AL AT (AA 2) AE) AO)) (AF (Aj (AW (A0 hr) (AL AT (AA 2) AE) AE) (AK (AU (DG (Ft (AA 3)) (Ag (Jd a) hr (AB (AA 0) (AB (AA 1) (AB (AL AT (AA 2) AE) AG)))) (Ag (Hr a) hr (AB (AA 0) (AB (AA 1) AG)))))) AZ) (AF (AX 4 nd (Af Iv (AL AT (AA 2) AE) AE)) (AK (AU (DG (Ft (AA 3)) (Ag (Jw a) hr (AB (AA 0) (AB (AA 1) (AB (AA 4) AG)))) (Ag (Lf a) hr (AB (AA 0) (AB (AA 1) (AB (AA 4) (AB (AL AT (AA 2) AE) AG))))))))))))
theorem ET:Mth P w K mg base "Plan" "claim_on" ["self", "claim", "word", "number", "worth"] 4 (Bh):=by
 obtain⟨C,f,fd,d⟩:=a.e30;obtain⟨bC,a7⟩:=a.e52;exact DZ (k:=3) .all d sc_Plan_claim_on (d.F.binds λ_ _ _ _ _ _=>lq5 λ_ _ _ _ _=>rfl) (λ_ _ _ _ _ _ hr=>have nd:=sc_Plan_claim_on.nd;(AF (AX 5 nd (AY (AB (AA 1) (AB (AA 2) (AB (AA 3) (AB (AA 4) AG)))))) (AF (Aj (AW (MQ hr) (AA 5) (BB a7.ca (a7.na "claims" (by decide +kernel)) (AA 0))) (AK (On hr (BB a7.ca (a7.na "claims" (by decide +kernel)) (AA 0)) (AA 5) (Ag (Je a) hr (AB (BB a7.ca (a7.na "making" (by decide +kernel)) (AA 0)) (AB (AA 1) (AB (AY (AB (AA 2) (AB (AA 3) (AB (AA 4) AG)))) AG)))))) AZ) (AK (AU (Op hr (BB a7.ca (a7.na "claims" (by decide +kernel)) (AA 0)) (AA 5)))))))
theorem FC:Mth P w K mg base "Plan" "named_numbers" ["self", "number", "worth", "numbers"] 1 (BU):=by
 obtain⟨C,f,fd,d⟩:=a.e31;obtain⟨bC,a7⟩:=a.e52;exact DZ (k:=0) .all d sc_Plan_named_numbers (d.F.binds λ_ _ _ _ _ _=>lq4 λ_ _ _ _=>rfl) (λ_ _ _ _ _ _ hr=>have nd:=sc_Plan_named_numbers.nd;(AF (AX 4 nd (VA a.y1 a.y12 (AB (AL AT (BB a7.ca (a7.na "variables" (by decide +kernel)) (AA 0)) (AA 1)) (AB (AA 3) AG)))) (AF (Aj (AW (A0 hr) (AA 1) AE) (AK (Dw hr (AA 4) AO (AA 2))) AZ) (AK (AU (AA 4))))))
theorem Ch:Fn P w K mg base "one_where" ["holds"] 1 (f_one_where):=by
 obtain⟨f,fd,d⟩:=a.e32;exact Aw (k:=0) .all d.F sc_one_where (PySem.W.mg_of a.X a.G d.a) (d.F.binds λ_ _ _ _ _ _=>lq1 λ_=>rfl) (λ_ _ _ _ _ _ hr=>have nd:=sc_one_where.nd;(AK (AU (DG (Ft (AA 0)) AE AE))))
theorem HR:Fn P w K mg base "number_of_pair" ["word", "first", "second"] 2 (f_number_of_pair):=by
 obtain⟨f,fd,d⟩:=a.e33;exact Aw (k:=1) .all d.F sc_number_of_pair (PySem.W.mg_of a.X a.G d.a) (d.F.binds λ_ _ _ _ _ _=>lq3 λ_ _ _=>rfl) (λ_ _ _ _ _ _ hr=>have nd:=sc_number_of_pair.nd;(AF (Aj (AW (A0 hr) (AA 0) AO) (AK (AU (BL (Wk rfl) a.y7 Mi.NB (AB (Af BC (AA 1) (AA 2)) (AB (Cp a.g0) AG))))) AZ) (AF (Aj (AW (A0 hr) (AA 0) AO) (AK (AU (BL (Wl rfl) a.y6 Mi.NC (AB (Af Iv (AA 1) (AA 2)) (AB AE AG))))) AZ) (AF (Aj (AW (A0 hr) (AA 0) AO) (AK (AU (Ag (Ch a) hr (AB (BK (A0 hr) (AA 1) (AA 2)) AG)))) AZ) (AF (Aj (AW (A0 hr) (AA 0) AO) (AK (AU (Ag (Ch a) hr (AB (BK LJ (AA 1) (AA 2)) AG)))) AZ) (AF (Aj (AW (A0 hr) (AA 0) AO) (AK (AU (Ag (Ch a) hr (AB (Fw (BK (Jm hr) (AA 1) AE) (Dz (BK (Jm hr) (AA 2) AE))) AG)))) AZ) (AK (AU (Ag (Ch a) hr (AB (ST (BK (Jm hr) (AA 1) AE) (Dz (BK (Jm hr) (AA 2) AE))) AG))))))))))
theorem FB(n:Nat):Fn P w K mg base "number_of" ["expression", "numbers"] (n+3) (f_number_of n):=by
 obtain⟨f,fd,d⟩:=a.e34
 induction n with
 |zero=>exact Bo d.F (PySem.W.mg_of a.X a.G d.a) (d.F.binds λ_ _ _ _ _ _=>lq2 λ_ _=>rfl)
 |succ n ih=>exact(Aw (k:=n+3) .all d.F sc_number_of (PySem.W.mg_of a.X a.G d.a) (d.F.binds λ_ _ _ _ _ _=>lq2 λ_ _=>rfl) (λ_ _ _ _ _ _ hr=>have nd:=sc_number_of.nd;(AF (AX 2 nd (AL AT (AA 0) AE)) (AF (Aj (AW (A0 hr) (AA 2) AO) (AK (AU (AL AT (AA 0) AE))) AZ) (AF (Aj (AW (A0 hr) (AA 2) AO) (AK (AU (Bp hr (AA 1) (AL AT (AA 0) AE)))) AZ) (AF (AX 3 nd (Ag (hkj:=AAF _) ih hr (AB (AL AT (AA 0) AE) (AB (AA 1) AG)))) (AF (Aj (AW (A0 hr) (AA 2) AO) (AK (AU (Ag (hkj:=by omega) (Ch a) hr (AB (BK (A0 hr) (AA 3) AE) AG)))) AZ) (AK (AU (Ag (hkj:=by omega) (HR a) hr (AB (AA 2) (AB (AA 3) (AB (Ag (hkj:=AAF _) ih hr (AB (AL AT (AA 0) AE) (AB (AA 1) AG))) AG))))))))))))).mono (by omega)
theorem Le:Fn P w K mg base "row_behind" ["row", "at", "named"] 10 (f_row_behind):=by
 obtain⟨f,fd,d⟩:=a.e35;exact Aw (k:=9) .all d.F sc_row_behind (PySem.W.mg_of a.X a.G d.a) (d.F.binds λ_ _ _ _ _ _=>lq3 λ_ _ _=>rfl) (λ_ _ _ _ _ _ hr=>have nd:=sc_row_behind.nd;(AF (Aj (AW (A0 hr) (AL AT (AA 0) AE) AO) (AK (AU (AL AT (AA 0) AE))) AZ) (AF (Aj (RW.rt (G1 (AW (A0 hr) (AL AT (AA 0) AE) AO) (FH (AW (A0 hr) (Ag (FB a 6) hr (AB (AL AT (AA 0) AE) (AB (AA 2) AG))) AE)))) (AK (AU (AL AT (AA 0) AE))) AZ) (AF (Aj (AW (A0 hr) (AL AT (AA 0) AE) AO) (AK (Dw hr (AA 2) (AL AT (AA 0) AE) (Ag (FB a 6) hr (AB (AL AT (AA 0) AE) (AB (AA 2) AG))))) AZ) (AK (AU (Af BC (AA 1) AE)))))))
theorem OL:Fn P w K mg base "followed" ["rows", "at", "named"] 11 (f_followed):=by
 obtain⟨f,fd,d⟩:=a.e36;exact Aw (k:=10) .all d.F sc_followed (PySem.W.mg_of a.X a.G d.a) (d.F.binds λ_ _ _ _ _ _=>lq3 λ_ _ _=>rfl) (λ_ _ _ _ _ _ hr=>have nd:=sc_followed.nd;(AF (AX 3 nd Ar) (AF (AX 4 nd Ar) (AF (AX 5 nd AE) (AF (AX 6 nd AE) (AF (MC fuel PassesOwn.never (RW.rt (G1 (AW LJ (AA 1) (BL Hi a.y5 Mi.Cf (AB (AA 0) AG))) (FH (AW ZY (AL AT (AL AT (AA 0) (AA 1)) AE) (Cp a.g3))))) (AF (Aj (RW.rt (G1 (AW (A0 hr) (AA 1) (AA 3)) (FH (AW (ZZ hr) (AA 2) (AA 4))))) (AK (AU Ar)) AZ) (AF (U3 6 nd AE) (AF (Aj (AW (A0 hr) (AA 6) AE) (AF (AX 3 nd (AA 1)) (AF (AX 4 nd (BR V7 a.y1 Mi.Ki (AB (AA 2) AG))) (AF (AX 5 nd (Af KJ AE (AA 5))) (AK (AX 6 nd (AA 5)))))) AZ) (AK (AX 1 nd (Ag (Le a) hr (AB (AL AT (AA 0) (AA 1)) (AB (AA 1) (AB (AA 2) AG)))))))))) (AK (AU (AA 1)))))))))
theorem NH:Fn P w K mg base "way_found" ["plan", "number", "at", "worth", "numbers"] 12 (DJ):=by
 obtain⟨f,fd,d⟩:=a.e37;obtain⟨bC,a7⟩:=a.e52;exact Bm (k:=11) .drop d.F sc_way_found (PySem.W.mg_of a.X a.G d.a) (d.F.binds λ_ _ _ _ _ _=>lq5 λ_ _ _ _ _=>rfl) (λ_ _ _ _ _ _ hr=>have nd:=sc_way_found.nd;(AF (AX 5 nd (AL AT (AL AT (AL AT (BB a7.ca (a7.na "making" (by decide +kernel)) (AA 0)) AE) (AA 1)) AE)) (AF (AX 6 nd (DF (FC a) hr (AA 0) (AB (AA 1) (AB (AA 3) (AB (AA 4) AG))))) (AF (AX 2 nd (Ag (OL a) hr (AB (AA 5) (AB (AA 2) (AB (AA 6) AG))))) (AF (Aj (AW MR (AA 2) Ar) (AK (AU (AY (AB AO (AB Ar (AB Ar (AB Ar AG))))))) AZ) (AF (AX 7 nd (BR Gh a.y11 Mi.B6 (AB (D4 (tgs:=["name"]) (ix:=[6]) (i:=0) (n:=1) ⟨rfl,by decide +kernel,by decide +kernel,⟨Or.inl rfl,trivial⟩,rfl,by decide +kernel⟩ rfl (CL (AL AT (BB a7.ca (a7.na "variables" (by decide +kernel)) (AA 0)) (AA 1))) (λ_ _ _ _=>BF (i:=0) (show List.Nodup (["name", "named"]:List Str) from by decide +kernel) rfl (Or.inl rfl)) (λ_ _ _ _=>CH) (λ_ _ _ _=>(Bp hr (AA 1) (AA 0)))) AG))) (AF (Aj (AW (A0 hr) (AA 2) (BL Hi a.y5 Mi.Cf (AB (AA 5) AG))) (AK (AU (AY (AB (DG (AW (A0 hr) (AA 1) AE) AO AO) (AB Ar (AB (AA 7) (AB Ar AG))))))) AZ) (AF (AX 8 nd (AL AT (AA 5) (AA 2))) (AF (Aj (AW ZY (AL AT (AA 8) AE) (AY (AB AO (AB AO AG)))) (AK (AU (AY (AB AO (AB (AA 2) (AB (AA 7) (AB Ar AG))))))) AZ) (AF (Aj (AW (A0 hr) (AL AT (AA 8) AE) AO) (AK (AU (AY (AB AO (AB Ar (AB (AA 7) (AB Ar AG))))))) AZ) (AF (AX 9 nd (Ag (FB a 6) hr (AB (AL AT (AA 8) AE) (AB (AA 6) AG)))) (AK (AU (AY (AB (DG (AW LJ (AA 9) (AL AT (BB a7.ca (a7.na "making" (by decide +kernel)) (AA 0)) AE)) AO AO) (AB Ar (AB (AA 7) (AB (AA 9) AG))))))))))))))))))
theorem Jy:Mth P w K mg base "Plan" "way_on" ["self", "number", "at", "worth", "numbers"] 13 (CU):=by
 obtain⟨C,f,fd,d⟩:=a.e38;obtain⟨bC,a7⟩:=a.e52;exact DZ (k:=12) .all d sc_Plan_way_on (d.F.binds λ_ _ _ _ _ _=>lq5 λ_ _ _ _ _=>rfl) (λ_ _ _ _ _ _ hr=>have nd:=sc_Plan_way_on.nd;(AF (AX 5 nd (AY (AB (AA 1) (AB (AA 2) (AB (AA 3) (AB (AA 4) AG)))))) (AF (Aj (AW (MQ hr) (AA 5) (BB a7.ca (a7.na "ways" (by decide +kernel)) (AA 0))) (AK (On hr (BB a7.ca (a7.na "ways" (by decide +kernel)) (AA 0)) (AA 5) (Ag (NH a) hr (AB (AA 0) (AB (AA 1) (AB (AA 2) (AB (AA 3) (AB (AA 4) AG)))))))) AZ) (AK (AU (Op hr (BB a7.ca (a7.na "ways" (by decide +kernel)) (AA 0)) (AA 5)))))))
theorem FA:Fn P w K mg base "with_hand" ["stand", "number", "hand"] 2 (DI):=by
 obtain⟨f,fd,d⟩:=a.e39;exact Aw (k:=1) .all d.F sc_with_hand (PySem.W.mg_of a.X a.G d.a) (d.F.binds λ_ _ _ _ _ _=>lq3 λ_ _ _=>rfl) (λ_ _ _ _ _ _ hr=>have nd:=sc_with_hand.nd;(AK (AU (AY (AB (Ag (Cw a) hr (AB (AL AT (AA 0) AE) (AB (AA 1) (AB (AA 2) AG)))) (AB (AL AT (AA 0) AE) (AB (AL AT (AA 0) AE) AG)))))))
theorem Jf:Fn P w K mg base "broken" ["word", "plan", "number", "events"] 1 (Ez):=by
 obtain⟨f,fd,d⟩:=a.e40;obtain⟨bC,a7⟩:=a.e52;exact Aw (k:=0) .all d.F sc_broken (PySem.W.mg_of a.X a.G d.a) (d.F.binds λ_ _ _ _ _ _=>lq4 λ_ _ _ _=>rfl) (λ_ _ _ _ _ _ hr=>have nd:=sc_broken.nd;(AK (AU (AY (AB Ar (AB (AY (AB (AA 0) (AB (AL AT (BB a7.ca (a7.na "names" (by decide +kernel)) (AA 1)) (AA 2)) AG))) (AB (AA 3) AG)))))))
theorem Kr:Fn P w K mg base "gone_on" ["plan", "stand", "number", "deed", "events"] 14 (Dh):=by
 obtain⟨f,fd,d⟩:=a.e41;obtain⟨bC,a7⟩:=a.e52;exact Aw (k:=13) .all d.F sc_gone_on (PySem.W.mg_of a.X a.G d.a) (d.F.binds λ_ _ _ _ _ _=>lq5 λ_ _ _ _ _=>rfl) (λ_ _ _ _ _ _ hr=>have nd:=sc_gone_on.nd;(AF (AX 5 nd (DF (Jy a) hr (AA 0) (AB (AA 2) (AB (AL AT (AA 3) AE) (AB (AL AT (AA 3) AE) (AB (AL AT (AA 3) AE) AG)))))) (AF (Aj (AW (A0 hr) (AL AT (AA 5) AE) AO) (AK (AU (AY (AB (Ag (FA a) hr (AB (AA 1) (AB (AA 2) (AB (AY (AB (AL AT (AA 5) AE) (AB Ar (AB (AL AT (AA 3) AE) (AB (AL AT (AA 3) AE) (AB (AL AT (AA 5) AE) AG)))))) AG)))) (AB Ar (AB (AA 4) AG)))))) AZ) (AF (Aj (AW (Jm hr) (AL AT (AA 5) AE) AO) (AK (AU (Ag (Jf a) hr (AB (AL AT (AA 5) AE) (AB (AA 0) (AB (AA 2) (AB (AA 4) AG))))))) AZ) (AF (AX 6 nd (AL AT (BB a7.ca (a7.na "names" (by decide +kernel)) (AA 0)) (AA 2))) (AF (AX 7 nd (Af BC (AA 4) (CM (AB (DG (AW (A0 hr) (AA 2) AE) (AY (AB AO (AB (AA 6) AG))) (AY (AB AO (AB (AA 6) (AB (AL AT (AA 5) AE) AG))))) AG)))) (AF (AX 8 nd (DF (ET a) hr (AA 0) (AB (AL AT (AA 1) AE) (AB AO (AB (AA 2) (AB (AL AT (AA 5) AE) AG)))))) (AF (Aj (AW MR (AA 8) Ar) (AK (AU (Ag (Jf a) hr (AB AO (AB (AA 0) (AB (AA 2) (AB (AA 7) AG))))))) AZ) (AF (AX 9 nd (AY (AB (Cp a.g1) (AB Ar (AB AE (AB AE (AB (AL AT (AA 5) AE) AG))))))) (AK (AU (AY (AB (Ag (FA a) hr (AB (AY (AB (AL AT (AA 1) AE) (AB (AL AT (AA 1) AE) (AB (AA 8) AG)))) (AB (AA 2) (AB (AA 9) AG)))) (AB Ar (AB (AA 7) AG)))))))))))))))
theorem WC:Fn P w K mg base "begun" ["plan", "stand", "move"] 15 (IG):=by
 obtain⟨f,fd,d⟩:=a.e42;obtain⟨bC,a7⟩:=a.e52;exact Aw (k:=14) .all d.F sc_begun (PySem.W.mg_of a.X a.G d.a) (d.F.binds λ_ _ _ _ _ _=>lq3 λ_ _ _=>rfl) (λ_ _ _ _ _ _ hr=>have nd:=sc_begun.nd;(AF (AX 3 nd (AL AT (AA 2) AE)) (AF (AX 4 nd (AL AT (AA 2) AE)) (AF (AX 5 nd (DG (AW (A0 hr) (AA 3) AE) (AY (AB AO (AB (AL AT (BB a7.ca (a7.na "names" (by decide +kernel)) (AA 0)) (AA 3)) (AB (AA 4) AG)))) (AY (AB AO (AB (AL AT (BB a7.ca (a7.na "names" (by decide +kernel)) (AA 0)) (AA 3)) AG))))) (AF (AX 6 nd (DF (ET a) hr (AA 0) (AB (AL AT (AA 1) AE) (AB AO (AB (AA 3) (AB (AA 4) AG)))))) (AK (AU (Ag (Kr a) hr (AB (AA 0) (AB (AY (AB (AL AT (AA 1) AE) (AB (AL AT (AA 1) AE) (AB (AA 6) AG)))) (AB (AA 3) (AB (AY (AB AE (AB (AA 4) (AB AE (AB (AL AT (AL AT (AL AT (AA 1) AE) (AA 3)) AE) AG))))) (AB (CM (AB (AA 5) AG)) AG)))))))))))))
theorem ES:Mth P w K mg base "Plan" "place_of" ["self", "row"] 1 (Bg):=by
 obtain⟨C,f,fd,d⟩:=a.e43;obtain⟨bC,a7⟩:=a.e52;exact DZ (k:=0) .all d sc_Plan_place_of (d.F.binds λ_ _ _ _ _ _=>lq2 λ_ _=>rfl) (λ_ _ _ _ _ _ hr=>have nd:=sc_Plan_place_of.nd;(AK (AU (Bp hr (BB a7.ca (a7.na "places" (by decide +kernel)) (AA 0)) (DG (AW (A0 hr) (AL AT (AA 1) AE) AO) (AL AT (AA 1) AE) (AL AT (AA 1) AE))))))
theorem Qw:Fn P w K mg base "between" ["hand", "half"] 1 (Kd):=by
 obtain⟨f,fd,d⟩:=a.e44;exact Bo d.F (PySem.W.mg_of a.X a.G d.a) (d.F.binds λ_ _ _ _ _ _=>lq2 λ_ _=>rfl)
theorem Z3:Fn P w K mg base "got" ["plan", "stand", "move", "row"] 15 (PN):=by
 obtain⟨f,fd,d⟩:=a.e45;obtain⟨bC,a7⟩:=a.e52;exact Aw (k:=14) .all d.F sc_got (PySem.W.mg_of a.X a.G d.a) (d.F.binds λ_ _ _ _ _ _=>lq4 λ_ _ _ _=>rfl) (λ_ _ _ _ _ _ hr=>have nd:=sc_got.nd;(AF (AX 4 nd (AL AT (AA 2) AE)) (AF (AX 5 nd (AL AT (AL AT (AA 1) AE) (AA 4))) (AF (AX 6 nd (DF (ES a) hr (AA 0) (AB (AA 3) AG))) (AF (AX 7 nd (AL AT (AL AT (BB a7.ca (a7.na "making" (by decide +kernel)) (AA 0)) AE) (AA 6))) (AF (AX 8 nd (AL AT (AL AT (AA 1) AE) (AA 6))) (AF (Aj (RW.rt (G1 (AW (Jm hr) (AL AT (AA 7) AE) AO) (FH (AW MR (AL AT (AA 5) AE) Ar)))) (AF (AX 9 nd (DG (AW (A0 hr) (AL AT (AA 8) AE) (Cp a.g2)) (AY (AB (AL AT (AA 8) AE) AG)) (Ag (Jg a) hr (AB (AL AT (AA 7) AE) (AB (AL AT (AA 7) AE) (AB (Fv (AA 8) Dy (Dx AE)) (AB (AL AT (AA 8) AE) AG))))))) (AK (AU (AY (AB (Ag (FA a) hr (AB (AA 1) (AB (AA 4) (AB (Ag (Qw a) hr (AB (AA 5) (AB (AA 9) AG))) AG)))) (AB Ar (AB (CM AG) AG))))))) AZ) (AF (AX 10 nd (DG (AW (A0 hr) (AL AT (AA 7) AE) AO) (AL AT (AA 8) AE) (AL AT (AA 2) AE))) (AF (AX 11 nd (Ag (Cw a) hr (AB (AL AT (AA 5) AE) (AB (BZ PySem.F.slot_list_index PySem.F.type_list_index MZ (AL AT (BB a7.ca (a7.na "variables" (by decide +kernel)) (AA 0)) (AA 4)) (AB (AL AT (AA 3) AE) AG)) (AB (AA 10) AG))))) (AK (AU (Ag (Kr a) hr (AB (AA 0) (AB (AA 1) (AB (AA 4) (AB (AY (AB (Af BC (AL AT (AA 5) AE) AE) (AB (AL AT (AA 5) AE) (AB (Af BC (AL AT (AA 5) AE) AE) (AB (AA 11) AG))))) (AB (CM AG) AG)))))))))))))))))
theorem Z2:Fn P w K mg base "put" ["plan", "stand", "number", "row"] 1 (Wg):=by
 obtain⟨f,fd,d⟩:=a.e46;exact Bo d.F (PySem.W.mg_of a.X a.G d.a) (d.F.binds λ_ _ _ _ _ _=>lq4 λ_ _ _ _=>rfl)
theorem NI:Fn P w K mg base "put_ended" ["plan", "stand", "number", "place", "worth"] 1 (Hg):=by
 obtain⟨f,fd,d⟩:=a.e47;exact Bo d.F (PySem.W.mg_of a.X a.G d.a) (d.F.binds λ_ _ _ _ _ _=>lq5 λ_ _ _ _ _=>rfl)
theorem WB:Fn P w K mg base "moved" ["plan", "stand", "move"] 16 (IF):=by
 obtain⟨f,fd,d⟩:=a.e48;obtain⟨bC,a7⟩:=a.e52;exact Aw (k:=15) .all d.F sc_moved (PySem.W.mg_of a.X a.G d.a) (d.F.binds λ_ _ _ _ _ _=>lq3 λ_ _ _=>rfl) (λ_ _ _ _ _ _ hr=>have nd:=sc_moved.nd;(AF (AX 3 nd (AL AT (AA 2) AE)) (AF (AX 4 nd (AL AT (AL AT (AA 1) AE) (AA 3))) (AF (Aj (AW (A0 hr) (AL AT (AA 4) AE) (Cp a.g1)) (AK (AU (Ag (WC a) hr (AB (AA 0) (AB (AA 1) (AB (AA 2) AG)))))) AZ) (AF (Aj (AW X9 (AL AT (AA 4) AE) (AL AT (AL AT (AL AT (BB a7.ca (a7.na "making" (by decide +kernel)) (AA 0)) AE) (AA 3)) AE)) (AK (AU (Ag (Jf a) hr (AB AO (AB (AA 0) (AB (AA 3) (AB (CM AG) AG))))))) AZ) (AF (AX 5 nd (DF (Fi a) hr (AA 0) (AB (AA 3) (AB (AL AT (AA 4) AE) AG)))) (AF (Aj (AW (A0 hr) (AL AT (AA 5) AE) AO) (AK (AU (Ag (Z3 a) hr (AB (AA 0) (AB (AA 1) (AB (AA 2) (AB (AA 5) AG))))))) AZ) (AF (Aj (AW MR (AL AT (AA 4) AE) Ar) (AK (AU (Ag (Z2 a) hr (AB (AA 0) (AB (AA 1) (AB (AA 3) (AB (AA 5) AG))))))) AZ) (AF (AX 6 nd (DF (ES a) hr (AA 0) (AB (AA 5) AG))) (AK (AU (Ag (NI a) hr (AB (AA 0) (AB (AA 1) (AB (AA 3) (AB (AA 6) (AB (AL AT (AL AT (AL AT (AA 1) AE) (AA 6)) AE) AG)))))))))))))))))
theorem HQ:Fn P w K mg base "stepped" ["making", "stand", "step"] 17 (B9):=by
 obtain⟨f,fd,d⟩:=a.e49;exact Bm (k:=16) .drop d.F sc_stepped (PySem.W.mg_of a.X a.G d.a) (d.F.binds λ_ _ _ _ _ _=>lq3 λ_ _ _=>rfl) (λ_ _ _ _ _ _ hr=>have nd:=sc_stepped.nd;(AF (AX 3 nd (Oq (EU a) hr (AB (AA 0) AG))) (AF (AX 4 nd (Ag (Qv a) hr (AB (AA 3) (AB (AA 1) (AB (AA 2) AG))))) (AF (Aj (AW MR (AA 4) Ar) (AK SI) AZ) (AK (AU (Ag (WB a) hr (AB (AA 3) (AB (AA 1) (AB (AA 4) AG))))))))))
theorem NJ:Fn P w K mg base "_law_right" ["_law_stand", "_law_found", "_law_due", "_law_numbers", "_law_count"] 1 (C8):=by
 obtain⟨f,fd,d⟩:=a.e50;exact Bm (k:=0) .drop d.F sc_Lright (PySem.W.mg_of a.X a.G d.a) (d.F.binds λ_ _ _ _ _ _=>lq5 λ_ _ _ _ _=>rfl) (λ_ _ _ _ _ _ hr=>have nd:=sc_Lright.nd;(AF (Nb (AA 1) (LD (is:=[5,6,7]) rfl (CI (BF (i:=5) nd rfl (by first|exact Or.inl rfl|exact Or.inr rfl)) (CI (BF (i:=6) nd rfl (by first|exact Or.inl rfl|exact Or.inr rfl)) (CI (BF (i:=7) nd rfl (by first|exact Or.inl rfl|exact Or.inr rfl)) H9))))) (AF (Aj (AW (A0 hr) (AL AT (AA 2) AE) AO) (AK (AU (Fw (BK MR (AA 5) Ar) (Dz (BK (A0 hr) (AA 6) (AY (AB (AL AT (AA 2) AE) (AB AO AG)))))))) AZ) (AF (Aj (AW (A0 hr) (AL AT (AA 2) AE) AO) (AF (Aj (RW.rt (KB (AW (Jm hr) (AY (AB AO (AB AO (AB (AL AT (AA 2) AE) AG)))) (AL AT (AA 7) (KD KI AE))) (Ik (AW (S9 hr) (AA 6) (AY (AB Ar (AB (AY (AB AO (AB AO AG))) AG))))))) (AK (AU MJ)) AZ) (AK (AU (ST (BK LK (AA 6) Ar) (Dz (BK (A0 hr) (AL AT (AL AT (AA 5) AE) AE) (AY (AB (KD KI AE) (AB Ar (AB AE (AB AE (AB (AY (AB (Bp hr (AA 3) AO) (AB (Bp hr (AA 3) AO) AG))) AG)))))))))))) AZ) (AK (AU (Fw (BK MR (AA 6) Ar) (Dz (BK (A0 hr) (AL AT (AL AT (AA 5) AE) AE) (AY (AB (AL AT (AA 2) AE) (AB Ar (AB AE (AB (AA 4) (AB (AY (AB (Bp hr (AA 3) AO) (AB (Bp hr (AA 3) AO) AG))) AG)))))))))))))))
end
theorem all_mk{l:PySem.W.OpenLaw}{w:World}{K:PySem.W.Frag}{h:Heap}{mg:Str->Option Value}{fa:Addr}(hφ:∀ns:List Int,ns.length<=63->∃μ',Mt [.scr ns] []=some (.bl true,μ'))(a:Al w K mg h)(hfa:mg "law" = some (.ref fa)):
  ∃fd:FuncData,(∀(s:Shared) (v:Value),BindsTo s fd ⟨[v],[]⟩ [("_law_script",v)])/\∀base:Heap,K.In base->base.Ns mainGlobals mg->FnOk l.prog w K mg base CX0 18 fa fd ["_law_script"] (Og K):=by
 obtain⟨fa_law,fd_law,d⟩:=a.e51;have e:=hfa.symm.trans (PySem.W.mg_of a.X a.G d.a);cases e;refine⟨fd_law,λs v=>?_,λbase _ _=>?_⟩
 ·obtain⟨oc,od,kV,doc,pm,an,cdv,ct,osl,rfl,lk,hcd⟩:=d.F.ex;exact .of_eq rfl
 exact XF (φ:=Mt) (Tg (k:=17) .drop d.F sc_law (λ_ _ _ _ _ _ hr=>have nd:=sc_law.nd;(AF (AX 1 nd (Ag (Qx a) hr (AB (Ag (OM a) hr (AB (AA 0) (AB AE AG))) (AB AE AG)))) (AF (AX 2 nd (Ag (WD a) hr (AB (AA 1) AG))) (AF (AX 2 nd (Af BC (CM (AB (AY (AB AO (AB AO (AB (AY (AB AO (AB AO AG))) AG)))) (AB (AY (AB AO (AB AO (AB (AY (AB AO (AB AO AG))) AG)))) AG))) (D4 (tgs:=["_law_row"]) (ix:=[]) (i:=0) (n:=1) ⟨rfl,by decide +kernel,by decide +kernel,trivial,rfl,by decide +kernel⟩ rfl (CL (AA 2)) (λ_ _ _ _=>BF (i:=0) (show List.Nodup (["_law_row"]:List Str) from by decide +kernel) rfl (Or.inl rfl)) (λ_ _ _ _=>CH) (λ_ _ _ _=>(Ag (T3 a) hr (AB (AA 0) AG)))))) (AF (AX 3 nd (Af Bl (Af Bc (A4 PySem.F.slot_list_pop PySem.F.type_list_pop Cq (AA 1)) AE) AE)) (AF (AX 4 nd (Af BC AE (Af Bl (Af Bc (A4 PySem.F.slot_list_pop PySem.F.type_list_pop Cq (AA 1)) AE) AE))) (AF (AX 5 nd (AY (AB AO (AB (AA 4) (AB AE (AB (AY (AB (AY (AB AO (AB AO (AB AE (AB (AA 3) (AB AO AG)))))) AG)) (AB (AY (AB (AY (AB AO (AB AE (AB (AY AG) AG)))) (AB (AY (AB AO (AB AE (AB (BR Gh a.y11 Mi.B6 (AB (AA 2) AG)) AG)))) AG))) AG))))))) (AF (AX 6 nd (Ag (Jv a) hr (AB (AA 5) AG))) (AF (AX 7 nd (MH (FI AE (FI AE SJ)))) (AF (C1 PassesOwn.never rfl (DY a.y8 (AB AE AG)) (DE 8 nd) (AF (AX 9 nd (Ag (T2 a) hr (AB (AA 2) (AB AE (AB (AA 7) (AB (AA 4) AG)))))) (AF (AX 10 nd (Ag (HQ a) hr (AB (AA 5) (AB (AA 6) (AB (AY (AB AO (AB AE AG))) AG))))) (AF (Aj (RW.rt (KB (AW (Jm hr) (Fv (AL AT (AA 10) AE) Dy (Dx AE)) (CM (AB (AY (AB AO (AB AO AG))) AG))) (Ik (LC (Ft (Ag (NJ a) hr (AB (AA 6) (AB (AA 10) (AB (AA 9) (AB (AA 7) (AB AE AG))))))))))) (AK (AU MJ)) AZ) (AF (AX 11 nd AE) (AF (MC fuel PassesOwn.never (RW.rt (G1 (AW (A0 hr) (AL AT (AA 9) AE) AO) (FH (AW LJ (AA 11) AE)))) (AF (AX 11 nd (Af BC (AA 11) AE)) (AF (Dw hr (AA 7) (AL AT (AL AT (AA 2) (AL AT (AA 9) AE)) AE) (AA 3)) (AF (AX 9 nd (Ag (T2 a) hr (AB (AA 2) (AB (Af BC (AL AT (AA 9) AE) AE) (AB (AA 7) (AB (AA 4) AG)))))) (AF (AX 10 nd (Ag (HQ a) hr (AB (AA 5) (AB (AL AT (AA 10) AE) (AB (AY (AB AO (AB AE AG))) AG))))) (AK (Aj (LC (Ft (Ag (NJ a) hr (AB (AA 6) (AB (AA 10) (AB (AA 9) (AB (AA 7) (AB (AA 11) AG)))))))) (AK (AU MJ)) AZ))))))) (AF (Aj (AW (A0 hr) (AL AT (AA 9) AE) AO) (AK (AU (BK (A0 hr) (AL AT (Ag (HQ a) hr (AB (AA 5) (AB (AL AT (AA 10) AE) (AB (AY (AB AO (AB AE AG))) AG)))) AE) (AY (AB AO (AB AO AG)))))) AZ) (AF (Aj (AW LK (AL AT (AA 10) AE) Ar) (AK (AU MJ)) AZ) (AK (AX 6 nd (AL AT (AA 10) AE))))))))))) (AK (AU MJ))))))))))))) hφ
end K23
namespace Kst
open PySem L2 Mi
noncomputable def DA:D:=.int 9
noncomputable def Ce:D:=.tup [.str "let",.str "jump",.str "unless"]
noncomputable abbrev fuel:Nat:=10000
noncomputable def m_number_of(a9:List D->M D)(a8:List D->M D)(bE:List D->M D):Sl->M (Fl×Sl):=
  (AQ (Ab (mOp AN (AC 0) (mC (.int 0))) (AM 2))
  (AQ (sIf (AS (mOp Ai (AC 2) (mC (.str "num")))) (Ae (mOp AN (AC 0) (mC (.int 1)))) Ak)
  (AQ (sIf (AS (mOp Ai (AC 2) (mC (.str "var")))) (Ae (mOp Bt (AC 1) (mOp AN (AC 0) (mC (.int 1))))) Ak)
  (AQ (Ab (AH a9 (AD (mOp AN (AC 0) (mC (.int 1))) (AD (AC 1) AJ))) (AM 3))
  (AQ (sIf (AS (mOp Ai (AC 2) (mC (.str "not")))) (Ae (AH a8 (AD (mOp Ai (AC 3) (mC (.int 0))) AJ))) Ak)
  (Ae (AH bE (AD (AC 2) (AD (AC 3) (AD (AH a9 (AD (mOp AN (AC 0) (mC (.int 2))) (AD (AC 1) AJ))) AJ))))))))))
noncomputable def Bq(a8:List D->M D):Sl->M (Fl×Sl):=
  (AQ (sIf (AS (mOp Ai (AC 0) (mC (.str "+")))) (Ae (AH TD (AD (mOp Av (AC 1) (AC 2)) (AD (mC DA) AJ)))) Ak)
  (AQ (sIf (AS (mOp Ai (AC 0) (mC (.str "-")))) (Ae (AH TF (AD (mOp FY (AC 1) (AC 2)) (AD (mC (.int 0)) AJ)))) Ak)
  (AQ (sIf (AS (mOp Ai (AC 0) (mC (.str "=")))) (Ae (AH a8 (AD (mOp Ai (AC 1) (AC 2)) AJ))) Ak)
  (AQ (sIf (AS (mOp Ai (AC 0) (mC (.str "<")))) (Ae (AH a8 (AD (mOp El (AC 1) (AC 2)) AJ))) Ak)
  (AQ (sIf (AS (mOp Ai (AC 0) (mC (.str "and")))) (Ae (AH a8 (AD (Ep (mOp CY (AC 1) (mC (.int 0))) (mOp CY (AC 2) (mC (.int 0)))) AJ))) Ak)
  (Ae (AH a8 (AD (Nq (mOp CY (AC 1) (mC (.int 0))) (mOp CY (AC 2) (mC (.int 0)))) AJ))))))))
noncomputable def DH  : Sl->M (Fl×Sl):=
  (Ae (mIf (AS (AC 0)) (mC (.int 1)) (mC (.int 0))))
noncomputable def D7(bR:List D->M D):Sl->M (Fl×Sl):=
  (AQ (Ab (mC .non) (AM 3))
  (AQ (Ab (mC .non) (AM 4))
  (AQ (Ab (mC (.int 1)) (AM 5))
  (AQ (Ab (mC (.int 1)) (AM 6))
  (AQ (Ei fuel (GX (AS (mOp El (AC 1) (AH FO (AD (AC 0) AJ)))) (AS (mOp (Hl false) (mOp AN (mOp AN (AC 0) (AC 1)) (mC (.int 0))) (mC Ce)))) (AQ (sIf (GX (AS (mOp Ai (AC 1) (AC 3))) (AS (mOp Qi (AC 2) (AC 4)))) (Ae (mC .non)) Ak)
  (AQ (Ab (mOp LF (AC 6) (mC (.int 1))) (AM 6))
  (AQ (sIf (AS (mOp Ai (AC 6) (mC (.int 0)))) (AQ (Ab (AC 1) (AM 3))
  (AQ (Ab (AH JO (AD (AC 2) AJ)) (AM 4))
  (AQ (Ab (mOp EJ (mC (.int 2)) (AC 5)) (AM 5))
  (Ab (AC 5) (AM 6))))) Ak)
  (Ab (AH bR (AD (mOp AN (AC 0) (AC 1)) (AD (AC 1) (AD (AC 2) AJ)))) (AM 1))))))
  (Ae (AC 1)))))))
noncomputable def Cv(a9:List D->M D):Sl->M (Fl×Sl):=
  (AQ (sIf (AS (mOp Ai (mOp AN (AC 0) (mC (.int 0))) (mC (.str "jump")))) (Ae (mOp AN (AC 0) (mC (.int 1)))) Ak)
  (AQ (sIf (GX (AS (mOp Ai (mOp AN (AC 0) (mC (.int 0))) (mC (.str "unless")))) (AS (mOp Ai (AH a9 (AD (mOp AN (AC 0) (mC (.int 1))) (AD (AC 2) AJ))) (mC (.int 0))))) (Ae (mOp AN (AC 0) (mC (.int 2)))) Ak)
  (AQ (sIf (AS (mOp Ai (mOp AN (AC 0) (mC (.int 0))) (mC (.str "let")))) (C0 (AC 2) (mOp AN (AC 0) (mC (.int 1))) (AH a9 (AD (mOp AN (AC 0) (mC (.int 2))) (AD (AC 2) AJ)))) Ak)
  (Ae (mOp Av (AC 1) (mC (.int 1)))))))
noncomputable def f_one_where:List D->M D:=Ax .all 1 1 (DH)
noncomputable def f_number_of_pair:List D->M D:=Ax .all 3 3 (Bq f_one_where)
noncomputable def f_number_of:Nat->List D->M D
 |0=>λ_=>A5
 |n+1=>Ax .all 4 2 (m_number_of (f_number_of n) f_one_where f_number_of_pair)
noncomputable def f_row_behind:List D->M D:=Ax .all 3 3 (Cv (f_number_of 6))
noncomputable def f_followed:List D->M D:=Ax .all 7 3 (D7 f_row_behind)
end Kst
namespace Mi
open PySem L2
section
variable{τ:Sl}{μ:Mh}{d:D}{ds:List D}
theorem Gb(h:τ[i]?=some (some d)):AC i τ μ=some (d,μ):=by unfold AC;rw[h]
theorem WW(h:0<j):BE (.int i) (.int j) μ=some (.int (i % j),μ):=by show (if 0<j then some (D.int (i % j),μ) else none)=_;rw[if_pos h]
theorem TL(h:0<j)(h2:j<1073741824):A6 (.int i) (.int j) μ=some (.int (i / j),μ):=by show (if 0<j/\j<1073741824 then some (D.int (i / j),μ) else none)=_;rw[if_pos ⟨h,h2⟩]
theorem WV(h:(-(2 ^ 64)<i/\i<2 ^ 64)∨(-(2 ^ 64)<j/\j<2 ^ 64)):EJ (.int i) (.int j) μ=some (.int (i * j),μ):=by show (if (-(2 ^ 64)<i/\i<2 ^ 64)∨(-(2 ^ 64)<j/\j<2 ^ 64) then some (D.int (i * j),μ) else none)=_;rw[if_pos h]
theorem WX(h2:atI ds i=some d):AN (.tup ds) (.int i) μ=some (d,μ):=by
 show bnd (B7 (.tup ds)) (λds=>ixD ds i) μ=_;rw[A8 (show B7 (.tup ds) μ=some (ds,μ) from rfl)];unfold ixD;rw[h2];rfl
theorem WY(h2:atI ds i=some d):AN (.lst ds) (.int i) μ=some (d,μ):=by
 show bnd (B7 (.lst ds)) (λds=>ixD ds i) μ=_;rw[A8 (show B7 (.lst ds) μ=some (ds,μ) from rfl)];unfold ixD;rw[h2];rfl
theorem WU(h:μ[n]?=some (.lst ds))(h2:ixN ds.length k=some j):U1 (.ref n) (.int k) d μ=some ((),μ.set n (.lst (ds.set j d))):=by
 show (match μ[n]? with|some (.lst ds)=>(ixN ds.length k).map λj=>((),μ.set n (.lst (ds.set j d)))|_=>none)=_;rw[h];show (ixN ds.length k).map _=_;rw[h2];rfl
end
end Mi
local macro_rules | `(tactic| wtm_at "k")=>`(tactic| first|rfl|assumption)
local macro_rules | `(tactic| wtm_at "c")=>`(tactic| first
 |(with_reducible apply Mi.ev_nil)|(with_reducible apply Mi.ev_nilA)|(with_reducible apply Mi.ev_c)|(with_reducible apply Mi.ev_noPart)|(with_reducible apply Mi.ev_retN)
 |((with_reducible apply Mi.Gb);first|rfl|assumption)
 |((with_reducible apply Mi.ev_seqR);wtm_at "c")
 |((with_reducible apply Mi.ev_seq);(wtm_at "c");(wtm_at "c"))
 |((with_reducible apply Mi.ev_asg);(wtm_at "c");(wtm_at "c"))
 |((with_reducible apply Mi.ev_name);rfl)
 |((with_reducible apply Mi.ev_sub);(wtm_at "c");(wtm_at "c");(wtm_at "c"))
 |((with_reducible apply Mi.ev_expr);wtm_at "c")
 |((with_reducible apply Mi.ev_ret);wtm_at "c")
 |((with_reducible apply Mi.ev_ifT);(wtm_at "c");(wtm_at "c"))
 |((with_reducible apply Mi.ev_ifF);(wtm_at "c");(wtm_at "c"))
 |((with_reducible apply Mi.ev_op);(wtm_at "c");(wtm_at "c");(wtm_at "c"))
 |((with_reducible apply Mi.ev_un);(wtm_at "c");(wtm_at "c"))
 |((with_reducible apply Mi.ev_disp);(wtm_at "c");(wtm_at "c"))
 |((with_reducible apply Mi.ev_consA);(wtm_at "c");(wtm_at "c"))
 |((with_reducible apply Mi.ev_meth);(wtm_at "c");(wtm_at "c");(wtm_at "c");(wtm_at "c"))
 |((with_reducible apply Mi.ev_test);wtm_at "c")
 |((with_reducible apply Mi.ev_notT);wtm_at "c")
 |((with_reducible apply Mi.ev_notF);wtm_at "c")
 |((with_reducible apply Mi.ev_andT);(wtm_at "c");(wtm_at "c"))
 |((with_reducible apply Mi.ev_andF);wtm_at "c")
 |((with_reducible apply Mi.ev_orF);(wtm_at "c");(wtm_at "c"))
 |((with_reducible apply Mi.ev_orT);wtm_at "c")
 |((with_reducible apply Mi.ev_andVT);(wtm_at "c");(wtm_at "c"))
 |((with_reducible apply Mi.ev_andVF);wtm_at "c")
 |((with_reducible apply Mi.ev_orVF);(wtm_at "c");(wtm_at "c"))
 |((with_reducible apply Mi.ev_orVT);wtm_at "c")
 |((with_reducible apply Mi.ev_notVT);wtm_at "c")
 |((with_reducible apply Mi.ev_notVF);wtm_at "c")
 |((with_reducible apply Mi.ev_chainT);(wtm_at "c");(wtm_at "c");(wtm_at "c");(wtm_at "c");(wtm_at "c"))
 |((with_reducible apply Mi.ev_chainF);(wtm_at "c");(wtm_at "c");(wtm_at "c"))
 |((with_reducible apply Mi.ev_part);wtm_at "c")
 |((with_reducible apply Mi.ev_sl);(wtm_at "c");(wtm_at "c");(wtm_at "c");(wtm_at "c"))
 |wtm_at "k")
local macro_rules | `(tactic| wtm_at "g")=>`(tactic| first|assumption|decide|omega)
local macro_rules | `(tactic| wtm_at "k")=>`(tactic| first
 |((with_reducible apply Mi.l_le);wtm_at "g")|((with_reducible apply Mi.l_leF);wtm_at "g")|((with_reducible apply Mi.l_lt);wtm_at "g")|((with_reducible apply Mi.l_ltF);wtm_at "g")|((with_reducible apply Mi.l_gt);wtm_at "g")|((with_reducible apply Mi.l_gtF);wtm_at "g")
 |(with_reducible apply Mi.l_inst_ii)|(with_reducible apply Mi.l_inst_ib)|(with_reducible apply Mi.l_inst_ss)|(with_reducible apply Mi.l_inst_tt)|(with_reducible apply Mi.l_add)|(with_reducible apply Mi.l_sub)|((with_reducible apply Mi.WW);wtm_at "g")|((with_reducible apply Mi.TL);(wtm_at "g");(wtm_at "g"))|((with_reducible apply Mi.WV);first|(left;omega)|(right;omega))
 |((with_reducible apply Mi.WX);rfl)|((with_reducible apply Mi.WY);rfl)|((with_reducible apply Mi.l_ixRef);(first|assumption|rfl);(rfl))|((with_reducible apply Mi.WU);(first|assumption|rfl);(rfl)))
namespace Mi
open PySem L2
def WP{α:Type}(m:M α)(μ:Mh)(Q:α->Mh->Prop):Prop:=∃a μ',m μ=some (a,μ')/\Q a μ'
section
variable{α β:Type}{m:M α}{f:α->M β}{μ μ':Mh}{Q Q':α->Mh->Prop}{R:β->Mh->Prop}{a:α}
theorem AV(h:m μ=some (a,μ'))(q:Q a μ'):WP m μ Q:=⟨a,μ',h,q⟩
theorem Ac(h:WP m μ Q)(k:∀a μ',Q a μ'->Q' a μ'):WP m μ Q':=by
 obtain⟨a,μ',e,q⟩:=h;exact⟨a,μ',e,k a μ' q⟩
theorem Aa(h:WP m μ λa μ1=>WP (f a) μ1 R):WP (bnd m f) μ R:=by
 obtain⟨a,μ1,e,b,μ2,e2,q⟩:=h;exact⟨b,μ2,by rw[A8 e];exact e2,q⟩
theorem A2(q:Q a μ):WP (ret a) μ Q:=⟨a,μ,rfl,q⟩
end
section
variable{τ τ1:Sl}{μ μ1:Mh}{d x y:D}{ds:List D}{ma mb:Sl->M D}{ra:Sl->M (List D)}{tc tb:Sl->M Bool}{m1 m2:Sl->M (Fl×Sl)}{g:D->D->M D}{QD:D->Mh->Prop}{QB:Bool->Mh->Prop}{QL:List D->Mh->Prop}{QS:Fl×Sl->Mh->Prop}{QO:Option Int->Mh->Prop}{i j:Int}{k n:Nat}
theorem Hv{i:Nat}(h:τ[i]?=some (some d))(q:QD d μ):WP (AC i τ) μ QD:=AV (Gb h) q
theorem Z6(q:QD d μ):WP (mC d τ) μ QD:=⟨d,μ,rfl,q⟩
theorem Yk(h:WP (ma τ) μ λx μ1=>WP (mb τ) μ1 λy μ2=>WP (g x y) μ2 QD):WP (mOp g ma mb τ) μ QD:=Aa (Ac h λ_ _ z=>Aa z)
theorem WE(h:WP (ma τ) μ λx μ1=>WP (u x) μ1 QD):WP (mUn u ma τ) μ QD:=Aa h
theorem Ud(h:WP (ra τ) μ λds μ1=>WP (f ds) μ1 QD):WP (AH f ra τ) μ QD:=Aa h
theorem UV(q:QL [] μ):WP (AJ τ) μ QL:=⟨[],μ,rfl,q⟩
theorem Re(h:WP (ma τ) μ λx μ1=>WP (ra τ) μ1 λds μ2=>QL (x::ds) μ2):WP (AD ma ra τ) μ QL:=Aa (Ac h λ_ _ z=>Aa (Ac z λ_ _ z=>A2 z))
theorem Ws(z:WP (ma τ) μ λx μ1=>WP (l τ) μ1 λa μ2=>WP (h τ) μ2 λb μ3=>WP (Os a b x) μ3 QD):WP (Hn ma l h τ) μ QD:=Aa (Ac z λ_ _ z=>Aa (Ac z λ_ _ z=>Aa z))
theorem Pm(q:QO none μ):WP (Ci τ) μ QO:=⟨none,μ,rfl,q⟩
theorem UT(h:WP (ma τ) μ λd μ1=>∃i,d=.int i/\QO (some i) μ1):WP (EN ma τ) μ QO:=Aa (Ac h λ_ _ ⟨i,e,q⟩=>by subst e;exact A2 q)
theorem W2(h:WP (mc τ) μ λb μ1=>(b=true->WP (ma τ) μ1 QD)/\(b=false->WP (mb τ) μ1 QD)):WP (mIf mc ma mb τ) μ QD:=Aa (Ac h λb _ z=>by cases b;exact z.2 rfl;exact z.1 rfl)
theorem UN(h:WP (ma τ) μ λd μ1=>∃b,d=.bl b/\QB b μ1):WP (AS ma τ) μ QB:=Aa (Ac h λ_ _ ⟨b,e,q⟩=>by subst e;exact A2 q)
theorem W0(h:WP (tc τ) μ λb μ1=>QB (!b) μ1):WP (Md tc τ) μ QB:=Aa (Ac h λ_ _ q=>A2 q)
noncomputable def Ye(m:M Bool)(QB:Bool->Mh->Prop):Bool->Mh->Prop
 |true,μ=>WP m μ QB
 |false,μ=>QB false μ
noncomputable def orK(m:M Bool)(QB:Bool->Mh->Prop):Bool->Mh->Prop
 |true,μ=>QB true μ
 |false,μ=>WP m μ QB
theorem W8(h:WP (tc τ) μ (Ye (tb τ) QB)):WP (GX tc tb τ) μ QB:=Aa (Ac h λb _ z=>by cases b;exact A2 z;exact z)
theorem Yj(h:WP (tc τ) μ (orK (tb τ) QB)):WP (mOr tc tb τ) μ QB:=Aa (Ac h λb _ z=>by cases b;exact z;exact A2 z)
theorem Uh(h:WP (ma τ) μ λd μ1=>∃b,d=.bl b/\(b=true->WP (mb τ) μ1 QD)/\(b=false->QD (.bl false) μ1)):WP (Ep ma mb τ) μ QD:=Aa (Ac h λd μ1 ⟨b,e,z⟩=>by
 subst e;refine Aa (A2 ?_);cases b
 ·exact A2 (z.2 rfl)
 ·exact z.1 rfl)
noncomputable def J3(m2:Sl->M (Fl×Sl))(QS:Fl×Sl->Mh->Prop):Fl×Sl->Mh->Prop
 |(.next,τ1),μ1=>WP (m2 τ1) μ1 QS
 |r,μ1=>QS r μ1
theorem DV(h:WP (m2 τ1) μ1 QS):J3 m2 QS (.next,τ1) μ1:=h
theorem Rm(h:QS (.rt d,τ1) μ1):J3 m2 QS (.rt d,τ1) μ1:=h
theorem NO(h:WP (m1 τ) μ (J3 m2 QS)):WP (AQ m1 m2 τ) μ QS:=Aa (Ac h λr _ z=>by
 obtain⟨fl,τ1⟩:=r;cases fl
 ·exact z
 ·exact A2 z
 ·exact A2 z
 ·exact A2 z)
theorem Ug{i:Nat}(h:WP (ma τ) μ λd μ1=>QS (.next,τ.set i (some d)) μ1):WP (Ab ma (AM i) τ) μ QS:=Aa (Ac h λ_ _ q=>Aa (A2 (A2 q)))
theorem NT(h:WP (ma τ) μ λd μ1=>WP (bf d τ) μ1 λτ1 μ2=>QS (.next,τ1) μ2):WP (Ab ma bf τ) μ QS:=Aa (Ac h λ_ _ q=>Aa (Ac q λ_ _ z=>A2 z))
theorem Wv(h:WP (ma τ) μ λd μ1=>QS (.rt d,τ) μ1):WP (Ae ma τ) μ QS:=Aa (Ac h λ_ _ q=>A2 q)
theorem FF(h:WP (ma τ) μ λ_ μ1=>QS (.next,τ) μ1):WP (Bs ma τ) μ QS:=Aa (Ac h λ_ _ q=>A2 q)
theorem Gs(q:QS (.next,τ) μ):WP (Ak τ) μ QS:=⟨_,μ,rfl,q⟩
noncomputable def ifK(m1 m2:Sl->M (Fl×Sl))(τ:Sl)(QS:Fl×Sl->Mh->Prop):Bool->Mh->Prop
 |true,μ=>WP (m1 τ) μ QS
 |false,μ=>WP (m2 τ) μ QS
theorem CD(h:WP (m1 τ) μ QS):ifK m1 m2 τ QS true μ:=h
theorem BP(h:WP (m2 τ) μ QS):ifK m1 m2 τ QS false μ:=h
theorem Yl(h:WP (tc τ) μ (ifK m1 m2 τ QS)):WP (sIf tc m1 m2 τ) μ QS:=Aa (Ac h λb _ z=>by cases b;exact z;exact z)
theorem W6(h:WP (src τ) μ λds μ1=>WP (Cu bf m1 ds τ) μ1 QS):WP (EV src bf m1 τ) μ QS:=Aa h
noncomputable def Me(I:Sl->Mh->Prop)(QS:Fl×Sl->Mh->Prop):Fl×Sl->Mh->Prop
 |(.next,τ),μ=>I τ μ
 |(.cont,τ),μ=>I τ μ
 |(.brk,τ),μ=>QS (.next,τ) μ
 |(.rt d,τ),μ=>QS (.rt d,τ) μ
theorem Aq(h:I τ μ):Me I QS (.next,τ) μ:=h
theorem Gu(I:List D->Sl->Mh->Prop)(step:∀x xs τ μ,I (x::xs) τ μ->WP (bf x τ) μ λτ1 μ1=>WP (m1 τ1) μ1 (Me (I xs) QS))(fin:∀τ μ,I [] τ μ->QS (.next,τ) μ):∀{ds:List D} {τ:Sl} {μ:Mh},I ds τ μ->WP (Cu bf m1 ds τ) μ QS
 |[],τ,μ,h=>A2 (fin τ μ h)
 |x::xs,τ,μ,h=>Aa (Ac (step x xs τ μ h) λτ1 μ1 z=>Aa (Ac z λr μ2 z=>by
   obtain⟨fl,τ2⟩:=r;cases fl
   ·exact Gu I step fin z
   ·exact A2 z
   ·exact Gu I step fin z
   ·exact A2 z))
theorem Rg{QT:Sl->Mh->Prop}{i:Nat}(q:QT (τ.set i (some d)) μ):WP (AM i d τ) μ QT:=⟨_,μ,rfl,q⟩
theorem DT{QT:Sl->Mh->Prop}{i j:Nat}(q:QT ((τ.set i (some x)).set j (some y)) μ):WP (Hq [i,j] (.tup [x,y]) τ) μ QT:=⟨_,μ,rfl,q⟩
theorem GH{QT:Sl->Mh->Prop}{i j k:Nat}(q:QT (((τ.set i (some x)).set j (some y)).set k (some d)) μ):WP (Hq [i,j,k] (.tup [x,y,d]) τ) μ QT:=⟨_,μ,rfl,q⟩
theorem Ue(h:WP (src τ) μ λds μ1=>ds.length<=sizeLine/\WP (Ck bf tc ma (Dv N ix τ) ds []) μ1 λes μ2=>WP (fin es) μ2 QD):WP (Cr N ix src bf tc ma fin τ) μ QD:=Aa (Ac h λds μ1 z=>Aa (AV (G7 z.1 μ1) (Aa z.2)))
theorem K0(I:List D->List D->Mh->Prop)(step:∀x xs ys μ,I (x::xs) ys μ->WP (bf x τ0) μ λτ1 μ1=>WP (tc τ1) μ1 λc μ2=>(c=true->WP (ma τ1) μ2 λy μ3=>I xs (ys++[y]) μ3)/\(c=false->I xs ys μ2))(fin:∀ys μ,I [] ys μ->QL ys μ):∀{ds ys:List D} {μ:Mh},I ds ys μ->WP (Ck bf tc ma τ0 ds ys) μ QL
 |[],ys,μ,h=>A2 (fin ys μ h)
 |x::xs,ys,μ,h=>Aa (Ac (step x xs ys μ h) λτ1 μ1 z=>Aa (Ac z λc μ2 z=>by
   cases c
   ·exact K0 I step fin (z.2 rfl)
   ·exact Aa (Ac (z.1 rfl) λy μ3 z=>K0 I step fin z)))
theorem UM(q:QB true μ):WP (Dd τ) μ QB:=⟨true,μ,rfl,q⟩
theorem Ui(q:QD (.int (i+j)) μ):WP (Av (.int i) (.int j)) μ QD:=⟨_,μ,rfl,q⟩
theorem Wq(q:QD (.int (i-j)) μ):WP (FY (.int i) (.int j)) μ QD:=⟨_,μ,rfl,q⟩
theorem RN(h:0<j)(q:QD (.int (i % j)) μ):WP (BE (.int i) (.int j)) μ QD:=AV (WW h) q
theorem Uc(h:0<j)(h2:j<1073741824)(q:QD (.int (i / j)) μ):WP (A6 (.int i) (.int j)) μ QD:=AV (TL h h2) q
theorem IL(h:(-(2 ^ 64)<i/\i<2 ^ 64)∨(-(2 ^ 64)<j/\j<2 ^ 64))(q:QD (.int (i * j)) μ):WP (EJ (.int i) (.int j)) μ QD:=AV (WV h) q
theorem RU(q:QD (.bl (decide (i<j))) μ):WP (El (.int i) (.int j)) μ QD:=⟨_,μ,rfl,q⟩
theorem RX(q:QD (.bl (decide (j<i))) μ):WP (Jj (.int i) (.int j)) μ QD:=⟨_,μ,rfl,q⟩
theorem RZ(q:QD (.bl (decide (j<=i))) μ):WP (MK (.int i) (.int j)) μ QD:=⟨_,μ,rfl,q⟩
theorem NS(q:QD (.bl (i==j)) μ):WP (Ai (.int i) (.int j)) μ QD:=⟨_,μ,rfl,q⟩
theorem NQ(q:QD (.bl (!(i==j))) μ):WP (CY (.int i) (.int j)) μ QD:=⟨_,μ,rfl,q⟩
theorem Ua(q:QD (.int (if b then 1 else 0)) μ):WP (Jq [.bl b]) μ QD:=⟨_,μ,rfl,q⟩
theorem UW(h:ds.length<=sizeLine)(q:QD (.tup ds) μ):WP (Ah ds) μ QD:=by
 refine AV (a:=.tup ds) (μ':=μ) ?_ q;unfold Ah;rw[A8 (G7 h _)];rfl
theorem CB(h:ds.length<=sizeLine)(q:QD (.lst ds) μ):WP (Ba ds) μ QD:=by
 refine AV (a:=.lst ds) (μ':=μ) ?_ q;unfold Ba;rw[A8 (G7 h _)];rfl
theorem UY(h:ds.length<=sizeLine)(q:QD (.ref μ.length) (μ++[.lst ds])):WP (EX ds) μ QD:=by
 refine AV (a:=.ref μ.length) (μ':=μ++[.lst ds]) ?_ q;unfold EX;rw[A8 (G7 h _)]
theorem Eb(h2:atI ds i=some d)(q:QD d μ):WP (AN (.tup ds) (.int i)) μ QD:=AV (WX h2) q
theorem IM(h2:atI ds i=some d)(q:QD d μ):WP (AN (.lst ds) (.int i)) μ QD:=AV (WY h2) q
theorem Wr(h:WP (ma τ) μ λd μ1=>WP (Pc d) μ1 QL):WP (De ma τ) μ QL:=Aa h
theorem UO(q:QL ds μ):WP (Pc (.tup ds)) μ QL:=⟨_,μ,rfl,q⟩
theorem UP(q:QL ds μ):WP (Pc (.lst ds)) μ QL:=⟨_,μ,rfl,q⟩
theorem US(h:WP (ra τ) μ λds μ1=>∃j:Nat,ds=[.int j]/\j<1000000/\QL ((List.range j).map λ(i:Nat)=>.int (i:Int)) μ1):WP (GW ra τ) μ QL:=Aa (Ac h λds μ1 ⟨j,e,hj,q⟩=>by
 subst e;refine AV (a:=MD 0 j) (μ':=μ1) ?_ ?_
 ·have hj2:-(2 ^ 62)<=(j:Int)/\(j:Int)<2 ^ 62:=⟨by omega,by omega⟩;unfold SM;simp only[];rw[if_pos hj2]
 ·have e:MD 0 (j:Int)=(List.range j).map λ(i:Nat)=>.int (i:Int):=by
   unfold MD;rw[show ((j:Int)-0).toNat=j by omega];congr 1
   funext i
   rw[Int.zero_add]
  rw[e];exact q)
theorem UL(q:QD (.tup ds) μ):WP (Ds [.lst ds]) μ QD:=⟨_,μ,rfl,q⟩
theorem UZ(q:QD (.int ds.length) μ):WP (FO [.tup ds]) μ QD:=⟨_,μ,rfl,q⟩
def Xs(μ:Mh)(n k:Nat):Prop:=∃xs:List Int,μ[n]?=some (.lst (xs.map D.int))/\k<=xs.length
def XU(n:Nat)(μ μ':Mh):Prop:=∃xs:List Int,μ'=μ.set n (.lst (xs.map D.int))
theorem Xs.lt(h:Xs μ n k):n<μ.length:=by
 obtain⟨_,h,_⟩:=h;exact(AAU.mp h).1
theorem Xs.mono(h:Xs μ n k)(le:k'<=k):Xs μ n k':=by
 obtain⟨xs,h1,h2⟩:=h;exact⟨xs,h1,by omega⟩
theorem XU.trans(h:XU n μ μ1)(h2:XU n μ1 μ2):XU n μ μ2:=by
 obtain⟨xs,rfl⟩:=h;obtain⟨ys,rfl⟩:=h2;exact⟨ys,by rw[List.set_set]⟩
theorem XU.len(h:XU n μ μ1):μ1.length=μ.length:=by
 obtain⟨xs,rfl⟩:=h;simp
theorem XU.other(h:XU n μ μ1){j:Nat}(hj:j≠n):μ1[j]?=μ[j]?:=by
 obtain⟨xs,rfl⟩:=h;rw[AAp λe=>hj e.symm]
theorem YZ:∀xs:List Int,ClL k (xs.map D.int)
 |[]=>by unfold List.map ClL;trivial
 |x::xs=>by unfold List.map ClL;exact⟨by unfold Cl;trivial,YZ xs⟩
theorem CS{gs:Mh}{i:Nat}(ht:τ[i]?=some (some (.ref n)))(x:Xs μ n k)(hk:1<=k)(q:∀v μ1,XU n μ μ1->Xs μ1 n (k-1)->QD (.int v) (μ1++gs)):WP (Ay Ca (AC i) τ) (μ++gs) QD:=by
 have hlt:=x.lt;obtain⟨xs,h1,h2⟩:=x;have hne:xs≠[]:=λe=>by rw[e] at h2;simp at h2;omega
 have h1':(μ++gs)[n]?=some (.lst (xs.map D.int)):=by rw[AAT hlt];exact h1
 have hlast:(xs.map D.int)[(xs.map D.int).length-1]?=some (.int (xs.getLast hne)):=by
  rw[AAG,AAW,←List.getLast?_eq_getElem?,List.getLast?_eq_some_getLast hne];rfl
 refine AV (a:=.int (xs.getLast hne)) (μ':=μ.set n (.lst (xs.dropLast.map D.int))++gs) ?_ (q _ _ ⟨_,rfl⟩ ⟨xs.dropLast,by rw[List.getElem?_set_self hlt],by rw[List.length_dropLast];omega⟩);unfold Ay;rw[A8 (Gb ht)];have hg:Cj (.ref n) (μ++gs)=some ((),μ++gs):=by
  unfold Cj;rw[A8 (show By (.ref n) (μ++gs)=some (xs.map D.int,μ++gs) from by show (match (μ++gs)[n]? with|some (.lst ds)=>some (ds,μ++gs)|_=>none)=_;rw[h1'])];rfl
 rw[A8 hg];show IV n (λds=>(ds[ds.length-1]?).map λd=>(d,ds.dropLast)) (μ++gs)=_;unfold IV;rw[h1'];dsimp only;rw[hlast];show some (D.int (xs.getLast hne),(μ++gs).set n (.lst (xs.map D.int).dropLast))=_;rw[List.set_append_left _ _ hlt,List.map_dropLast]
theorem Fm{k:Nat}{i:Nat}(ht:τ[i]?=some (some (.ref n)))(x:Xs μ n k)(hk:1<=k)(q:∀v μ1,XU n μ μ1->Xs μ1 n (k-1)->QD (.int v) μ1):WP (Ay Ca (AC i) τ) μ QD:=by
 have:=CS (gs:=[]) (QD:=QD) ht x hk λv μ1 u x=>by rw[AAb];exact q v μ1 u x
 rw[AAb] at this;exact this
theorem CT{gs:Mh}{i:Nat}(ht:τ[i]?=some (some (.ref gs.length)))(hs:ds.length<sizeLine)(h:WP (ra τ) (gs++[.lst ds]) λes μ1=>∃gs' y,es=[y]/\μ1=gs'++[.lst ds]/\gs'.length=gs.length/\QD .non (gs'++[.lst (ds++[y])])):WP (A3 GC (AC i) ra τ) (gs++[.lst ds]) QD:=by
 unfold A3;refine Aa (AV (Gb ht) ?_);have hg:Cj (.ref gs.length) (gs++[.lst ds])=some ((),gs++[.lst ds]):=by
  unfold Cj;rw[A8 (show By (.ref gs.length) (gs++[.lst ds])=some (ds,gs++[.lst ds]) from by show (match (gs++[MO.lst ds])[gs.length]? with|some (.lst ds')=>some (ds',gs++[MO.lst ds])|_=>none)=some (ds,gs++[MO.lst ds]);rw[AAS (AAF _)];simp)];rfl
 refine Aa (AV hg (Aa (Ac h ?_)));rintro es μ1 ⟨gs',y,rfl,rfl,hl,q⟩;refine AV (a:=.non) (μ':=gs'++[.lst (ds++[y])]) ?_ q;show IV gs.length (λds=>if ds.length<sizeLine then some (.non,ds++[y]) else none) (gs'++[.lst ds])=_;unfold IV;rw[←hl,AAS (AAF _)];simp[hs]
theorem Rh{N ps:Nat}{mb:Sl->M (Fl×Sl)}(hl:ds.length=ps)(h:WP (mb (BV N ds)) μ λr μ2=>∃d τ2 μ1 gs,r=(.rt d,τ2)/\μ2=μ1++gs/\XU n μ μ1/\Cl μ.length d/\QD d μ1):WP (BJ .drop N ps mb ds) μ QD:=by
 obtain⟨r,μ2,e,d,τ2,μ1,gs,rfl,rfl,u,c,q⟩:=h;have t:Jl μ (μ1++gs) .drop=μ1:=by show (μ1++gs).take μ.length=μ1;rw[←u.len,List.take_left]
 refine AV (a:=d) (μ':=μ1) ?_ q;have hh:=Dl (hw:=.drop) e hl (.inr ⟨d,rfl⟩) (by
  rw[t];refine⟨⟨gs,rfl⟩,by rw[u.len];exact AAF _,λj o e=>?_,.inl ⟨rfl,by rw[u.len];exact c⟩⟩;by_cases hj:j=n
  ·subst hj;obtain⟨xs,rfl⟩:=u;right;rw[List.getElem?_set] at e;simp at e;obtain⟨_,rfl⟩:=e;exact YZ xs
  ·left;rw[←u.other hj];exact e)
 rw[t] at hh;exact hh
theorem CC{N ps:Nat}{mb:Sl->M (Fl×Sl)}(hl:ds.length=ps)(h:WP (mb (BV N ds)) μ λr μ2=>∃d τ2 gs,r=(.rt d,τ2)/\μ2=μ++gs/\Cl μ.length d/\QD d μ):WP (BJ .drop N ps mb ds) μ QD:=by
 obtain⟨r,μ2,e,d,τ2,gs,rfl,rfl,c,q⟩:=h;exact AV (JU e hl c) q
end
mutual
def Pz:D->Prop
 | .non=>True
 | .int _=>True
 | .str x=>PyData.strOk x=true
 | .tup ds=>PzL ds
 | .lst ds=>PzL ds
 |_=>False
def PzL:List D->Prop
 |[]=>True
 |d::ds=>Pz d/\PzL ds
end
mutual
def dpt:D->Nat
 | .tup ds=>LV ds+1
 | .lst ds=>LV ds+1
 |_=>0
def LV:List D->Nat
 |[]=>0
 |d::ds=>max (dpt d) (LV ds)
end
mutual
def toZ:D->PyData
 | .int i=>.int i
 | .str x=>.str x
 | .tup ds=>.tuple (DC ds)
 | .lst ds=>.list (DC ds)
 |_=>.none
def DC:List D->List PyData
 |[]=>[]
 |d::ds=>toZ d::DC ds
end
mutual
theorem NX(μ:Mh):∀{d:D},Pz d->toP μ d=some (toZ d)
 | .non,_=>rfl
 | .int _,_=>rfl
 | .str _,_=>rfl
 | .tup ds,h=>by unfold Pz at h;unfold toP toZ;rw[K5 μ h];rfl
 | .lst ds,h=>by unfold Pz at h;unfold toP toZ;rw[K5 μ h];rfl
 | .bl _,h | .ty _,h | .scr _,h | .ref _,h=>by unfold Pz at h;exact h.elim
theorem K5(μ:Mh):∀{ds:List D},PzL ds->Fq μ ds=some (DC ds)
 |[],_=>by unfold Fq DC;rfl
 |d::ds,h=>by
  unfold PzL at h;unfold Fq DC;rw[NX μ h.1,K5 μ h.2];rfl
end
mutual
theorem K4:∀{d:D},Pz d->PyData.canLay0 (toZ d)=true/\PyData.depth (toZ d)=dpt d
 | .non,_=>⟨rfl,rfl⟩
 | .int _,_=>⟨rfl,rfl⟩
 | .str _,h=>by unfold Pz at h;exact⟨h,rfl⟩
 | .tup ds,h=>by
  unfold Pz at h;obtain⟨h1,h2⟩:=IX h;unfold toZ dpt;exact⟨h1,by show PyData.depthAll (DC ds)+1=_;rw[h2]⟩
 | .lst ds,h=>by
  unfold Pz at h;obtain⟨h1,h2⟩:=IX h;unfold toZ dpt;exact⟨h1,by show PyData.depthAll (DC ds)+1=_;rw[h2]⟩
 | .bl _,h | .ty _,h | .scr _,h | .ref _,h=>by unfold Pz at h;exact h.elim
theorem IX:∀{ds:List D},PzL ds->PyData.canLayAll0 (DC ds)=true/\PyData.depthAll (DC ds)=LV ds
 |[],_=>by unfold DC LV;exact⟨rfl,rfl⟩
 |d::ds,h=>by
  unfold PzL at h;obtain⟨h1,h2⟩:=K4 h.1;obtain⟨h3,h4⟩:=IX h.2;unfold DC LV;refine⟨?_,?_⟩
  ·show (PyData.canLay0 (toZ d)&&PyData.canLayAll0 (DC ds))=true;rw[h1,h3];rfl
  ·show max (PyData.depth (toZ d)) (PyData.depthAll (DC ds))=_;rw[h2,h4]
end
mutual
theorem eqZ:∀{a b:D},Pz a->Pz b->(PyData.eqv (toZ a) (toZ b)=true↔a=b)
 | .non,b,_,hb=>by
  cases b<;>first|exact⟨λ_=>rfl,λ_=>rfl⟩|(unfold Pz at hb;exact hb.elim)|(unfold toZ;exact⟨λz=>(by cases z),λz=>(by cases z)⟩)
 | .int i,b,_,hb=>by
  cases b with
  |int j=>exact⟨λz=>by have:(i==j)=true:=z;rw[beq_iff_eq.mp this],λz=>by cases z;show (i==i)=true;simp⟩
  |_=>first|(unfold Pz at hb;exact hb.elim)|(unfold toZ;exact⟨λz=>(by cases z),λz=>(by cases z)⟩)
 | .str i,b,_,hb=>by
  cases b with
  |str j=>exact⟨λz=>by have:(i==j)=true:=z;rw[beq_iff_eq.mp this],λz=>by cases z;show (i==i)=true;simp⟩
  |_=>first|(unfold Pz at hb;exact hb.elim)|(unfold toZ;exact⟨λz=>(by cases z),λz=>(by cases z)⟩)
 | .tup xs,b,ha,hb=>by
  cases b with
  |tup ys=>
   unfold Pz at ha hb;unfold toZ;have:=YU ha hb;exact⟨λz=>by rw[this.mp z],λz=>by cases z;exact this.mpr rfl⟩
  |_=>first|(unfold Pz at hb;exact hb.elim)|(unfold toZ;exact⟨λz=>(by cases z),λz=>(by cases z)⟩)
 | .lst xs,b,ha,hb=>by
  cases b with
  |lst ys=>
   unfold Pz at ha hb;unfold toZ;have:=YU ha hb;exact⟨λz=>by rw[this.mp z],λz=>by cases z;exact this.mpr rfl⟩
  |_=>first|(unfold Pz at hb;exact hb.elim)|(unfold toZ;exact⟨λz=>(by cases z),λz=>(by cases z)⟩)
 | .bl _,_,h,_ | .ty _,_,h,_ | .scr _,_,h,_ | .ref _,_,h,_=>by unfold Pz at h;exact h.elim
theorem YU:∀{as bs:List D},PzL as->PzL bs->(PyData.eqvAll (DC as) (DC bs)=true↔as=bs)
 |[],[],_,_=>by unfold DC;exact⟨λ_=>rfl,λ_=>rfl⟩
 |[],_::_,_,_=>by unfold DC;exact⟨λz=>(by cases z),λz=>(by cases z)⟩
 |_::_,[],_,_=>by unfold DC;exact⟨λz=>(by cases z),λz=>(by cases z)⟩
 |a::as,b::bs,ha,hb=>by
  unfold PzL at ha hb;unfold DC;have h1:=eqZ ha.1 hb.1;have h2:=YU ha.2 hb.2;show (PyData.eqv (toZ a) (toZ b)&&PyData.eqvAll (DC as) (DC bs))=true↔_;rw[Bool.and_eq_true,h1,h2];exact⟨λ⟨x,y⟩=>by rw[x,y],λz=>by cases z;exact⟨rfl,rfl⟩⟩
end
section
variable{μ:Mh}{a b:D}{QD:D->Mh->Prop}
theorem Ti(ha:Pz a)(hb:Pz b)(da:dpt a<=64)(db:dpt b<=64):∃e:Bool,(e=true↔a=b)/\KF neg a b μ=some (.bl (if neg then !e else e),μ):=by
 refine⟨PyData.eqv (toZ a) (toZ b),eqZ ha hb,?_⟩;obtain⟨a1,a2⟩:=K4 ha;obtain⟨b1,b2⟩:=K4 hb;have s1:SeqAt.shaped (toZ a)=true:=by
  show (PyData.canLay0 (toZ a)&&decide (PyData.depth (toZ a)<=64))=true;rw[a1,AAP (by omega)];rfl
 have s2:SeqAt.shaped (toZ b)=true:=by
  show (PyData.canLay0 (toZ b)&&decide (PyData.depth (toZ b)<=64))=true;rw[b1,AAP (by omega)];rfl
 have e1:NY μ a=some (toZ a):=by
  cases a with
  |ref n=>unfold Pz at ha;exact ha.elim
  |_=>exact NX μ ha
 have e2:NY μ b=some (toZ b):=by
  cases b with
  |ref n=>unfold Pz at hb;exact hb.elim
  |_=>exact NX μ hb
 unfold KF;rw[e1,e2];exact if_pos ⟨s1,s2⟩
theorem Rb(ha:Pz a)(hb:Pz b)(da:dpt a<=64)(db:dpt b<=64)(q:∀e:Bool,(e=true↔a=b)->QD (.bl e) μ):WP (Ai a b) μ QD:=by
 obtain⟨e,h1,h2⟩:=Ti (μ:=μ) (neg:=false) ha hb da db;exact AV h2 (q e h1)
theorem NP(ha:Pz a)(hb:Pz b)(da:dpt a<=64)(db:dpt b<=64)(q:∀e:Bool,(e=true↔a=b)->QD (.bl (!e)) μ):WP (CY a b) μ QD:=by
 obtain⟨e,h1,h2⟩:=Ti (μ:=μ) (neg:=true) ha hb da db;exact AV h2 (q e h1)
end
end Mi
namespace Mi
section
variable{b:Bool}{i:Int}
theorem Rl{P:Bool->Prop}(h:P b):∃b',D.bl b=D.bl b'/\P b':=⟨b,rfl,h⟩
theorem Uk{P:Int->Prop}(h:P i):∃i',D.int i=D.int i'/\P i':=⟨i,rfl,h⟩
theorem GI{n:Nat}{P:Nat->Prop}(e:i=n)(hn:n<1000000)(h:P n):∃j:Nat,[D.int i]=[D.int j]/\j<1000000/\P j:=⟨n,by rw[e],hn,h⟩
end
end Mi
local macro_rules | `(tactic| wtm_at "i")=>`(tactic| first|assumption|decide|omega|exact AAE rfl)
local macro_rules | `(tactic| wtm_at "l")=>`(tactic| first
 |(with_reducible apply Mi.NO)|(with_reducible apply Mi.DV)|(with_reducible apply Mi.Ug)|(with_reducible apply Mi.Wv)|(with_reducible apply Mi.Rm)|(with_reducible apply Mi.FF)|(with_reducible apply Mi.Gs)|(with_reducible apply Mi.Yl)|(with_reducible apply Mi.CD)|(with_reducible apply Mi.BP)|(with_reducible apply Mi.Yk)|(with_reducible apply Mi.Z6)|((with_reducible apply Mi.Hv);rfl)|(with_reducible apply Mi.Re)|(with_reducible apply Mi.UV)|(with_reducible apply Mi.Ud)|(with_reducible apply Mi.WE)
 |(with_reducible apply Mi.UN)|(with_reducible apply Mi.Rl)|(with_reducible apply Mi.W0)|(with_reducible apply Mi.W8)|(with_reducible apply Mi.Yj)|(with_reducible apply Mi.W6)|(with_reducible apply Mi.Ue)|(with_reducible apply Mi.Wr)|(with_reducible apply Mi.UO)|(with_reducible apply Mi.UP)|(with_reducible apply Mi.US)|(with_reducible apply Mi.Ws)|(with_reducible apply Mi.Pm)|(with_reducible apply Mi.UT)|(with_reducible apply Mi.Uk)
 |(with_reducible apply Mi.Ui)|(with_reducible apply Mi.wq_add)|(with_reducible apply Mi.Wq)|(with_reducible apply Mi.RU)|(with_reducible apply Mi.RX)|(with_reducible apply Mi.RZ)|(with_reducible apply Mi.NS)|(with_reducible apply Mi.NQ)|(with_reducible apply Mi.wq_isF)|(with_reducible apply Mi.wq_isT)|(with_reducible apply Mi.Ua)|(with_reducible apply Mi.wq_neB)|(with_reducible apply Mi.wq_tupT)|(with_reducible apply Mi.UL)|(with_reducible apply Mi.UZ)|(with_reducible apply Mi.UM)|(with_reducible apply Mi.Rg)
 |((with_reducible apply Mi.RN);(wtm_at "i"))|((with_reducible apply Mi.Uc);(wtm_at "i");(wtm_at "i"))|((with_reducible apply Mi.UW);(wtm_at "i"))|((with_reducible apply Mi.CB);(wtm_at "i"))|((with_reducible apply Mi.UY);(wtm_at "i"))|((with_reducible apply Mi.Eb);rfl)|((with_reducible apply Mi.IM);rfl))
local macro_rules | `(tactic| wtm_at "b")=>`(tactic| repeat wtm_at "l")
namespace Mi
open PySem L2
section
variable{τ τ1:Sl}{μ μ1:Mh}{x y:D}{ds:List D}{ma:Sl->M D}{ra:Sl->M (List D)}{tc:Sl->M Bool}{QD:D->Mh->Prop}{QL:List D->Mh->Prop}
theorem Ed{α:Type}(f:α->D)(p:α->Bool)(F:α->D){bf:D->Sl->M Sl}{xs:List α}(h:∀a∈xs,WP (bf (f a) τ0) μ λτ1 μ1=>μ1=μ/\WP (tc τ1) μ λc μ2=>c=p a/\μ2=μ/\(p a=true->WP (ma τ1) μ λy μ3=>y=F a/\μ3=μ))(q:QL ((xs.filter p).map F) μ):WP (Ck bf tc ma τ0 (xs.map f) []) μ QL:=by
 refine K0 (I:=λrest ys μ'=>∃a b,a++b=xs/\rest=b.map f/\ys=(a.filter p).map F/\μ'=μ) (λz zs ys μ' hI=>?_) (λys μ' hI=>?_) ⟨[],xs,rfl,rfl,rfl,rfl⟩
 ·obtain⟨a,b,hab,hr,rfl,rfl⟩:=hI;cases b with
  |nil=>cases hr
  |cons w b=>
   rw[AAX] at hr;obtain⟨e1,e2⟩:=List.cons.inj hr;subst e1;have hw:w∈xs:=by rw[←hab];simp
   refine Ac (h w hw) λτ1 μ1 ⟨e,z⟩=>?_;subst e;refine Ac z λc μ2 ⟨e3,e4,z2⟩=>?_;subst e3 e4;refine⟨λhc=>Ac (z2 hc) λy μ3 ⟨e5,e6⟩=>?_,λhc=>?_⟩
   ·subst e5 e6;exact⟨a++[w],b,by rw[←hab];simp,e2,by rw[List.filter_append,AAY,List.filter_cons_of_pos hc];rfl,rfl⟩
   ·exact⟨a++[w],b,by rw[←hab];simp,e2,by rw[List.filter_append,AAY,List.filter_cons_of_neg (by rw[hc];exact AAi)];simp,rfl⟩
 ·obtain⟨a,b,hab,hr,rfl,rfl⟩:=hI;cases b with
  |cons w b=>cases hr
  |nil=>
   rw[AAb] at hab;subst hab;exact q
theorem Fj(h:WP (ra τ) μ λds μ1=>∃xs ys,ds=[.tup xs,.tup ys]/\ys.length=xs.length/\QL (Hk xs ys) μ1):WP (Vn ra τ) μ QL:=Aa (Ac h λds μ1 ⟨xs,ys,e,hl,q⟩=>by
 subst e;refine AV (a:=Hk xs ys) (μ':=μ1) ?_ q;exact if_pos hl)
theorem B3{x y:Str}(h1:PyData.strOk x=true)(h2:PyData.strOk y=true)(q:QD (.bl (x==y)) μ):WP (Ai (.str x) (.str y)) μ QD:=by
 refine Rb (by unfold Pz;exact h1) (by unfold Pz;exact h2) (by show 0<=64;omega) (by show 0<=64;omega) λe he=>?_;have:e=(x==y):=by
  rw[Bool.eq_iff_iff,he,beq_iff_eq];exact⟨λz=>by cases z;rfl,λz=>by rw[z]⟩
 rw[this];exact q
end
theorem Ww(h:0<=j/\j<=1000000/\i.natAbs<2 ^ 64)(q:QD (.int (i ^ j.toNat)) μ):WP (SW (.int i) (.int j)) μ QD:=by
 refine AV (a:=.int (i ^ j.toNat)) (μ':=μ) ?_ q;exact if_pos h
theorem Kx(I:Nat->Sl->Mh->Prop)(step:∀(j:Nat) τ μ,j<m->I j τ μ->WP (bf (.int (j:Int)) τ) μ λτ1 μ1=>WP (m1 τ1) μ1 (Me (I (j+1)) QS))(last:∀τ μ,I m τ μ->QS (.next,τ) μ)(h:I 0 τ μ):WP (Cu bf m1 ((List.range m).map λ(i:Nat)=>D.int (i:Int)) τ) μ QS:=by
 refine Gu (I:=λrest τ μ=>∃j,j<=m/\rest=(List.range' j (m-j)).map (λ(i:Nat)=>D.int (i:Int))/\I j τ μ) ?_ ?_ ⟨0,AAm _,by rw[Nat.sub_zero,←List.range_eq_range'],h⟩
 ·rintro x xs τ μ ⟨j,hj,hr,hI⟩;have hlt:j<m:=by
   rcases Nat.lt_or_ge j m with z|z
   ·exact z
   ·rw[show m-j=0 by omega] at hr;cases hr
  rw[show m-j=(m-(j+1))+1 by omega,List.range'_succ,AAX] at hr;obtain⟨e3,e4⟩:=List.cons.inj hr;subst e3;refine Ac (step j τ μ hlt hI) λτ1 μ1 z=>Ac z λr μ2 z2=>?_;obtain⟨fl,τ2⟩:=r;cases fl
  ·exact⟨j+1,hlt,e4,z2⟩
  ·exact z2
  ·exact⟨j+1,hlt,e4,z2⟩
  ·exact z2
 ·rintro τ μ ⟨j,hj,hr,hI⟩;have hj':j=m:=by
   have:=congrArg List.length hr;simp at this;omega
  subst hj';exact last τ μ hI
theorem An(hl:Nat.beq ds.length ps=true)(h:WP (mb (BV N ds)) μ λr μ2=>∃d τ2,r=(.rt d,τ2)/\QD d μ2):WP (Ax .all N ps mb ds) μ QD:=by
 obtain⟨r,μ2,e,d,τ2,rfl,q⟩:=h;refine AV (a:=d) (μ':=μ2) ?_ q;unfold Ax;rw[hl,e];rfl
end Mi
namespace K21
open PySem L2 Mi
noncomputable def Gx:List (Str×List Str):=[("put",["box", "expression"]),("get",["variable", "box"]),("let",["variable", "expression"]),("unless",["expression", "target"]),("jump",["target"]),("tell",["expression"]),("done",[])]
noncomputable def Hw:Str->Option D:=K6 Gx
noncomputable def BM(bA:List D->M D):Sl->M (Fl×Sl):=
  (AQ (sIf (AS (mOp Ai (mOp AN (AC 0) (mC (.int 0))) (mC (.str "num")))) (Ae (AH Ba AJ)) Ak)
  (AQ (sIf (AS (mOp Ai (mOp AN (AC 0) (mC (.int 0))) (mC (.str "var")))) (Ae (AH Ba (AD (mOp AN (AC 0) (mC (.int 1))) AJ))) Ak)
  (AQ (Ab (AH EX AJ) (AM 1))
  (AQ (EV (De (Hn (AC 0) (EN (mC (.int 1))) Ci)) (AM 2) (Bs (A3 JM (AC 1) (AD (AH bA (AD (AC 2) AJ)) AJ))))
  (Ae (AC 1))))))
noncomputable def CJ(bA:List D->M D):Sl->M (Fl×Sl):=
  (AQ (Ab (AH EX AJ) (AM 1))
  (AQ (EV (Vn (AD (mUn (TQ Hw) (mOp AN (AC 0) (mC (.int 0)))) (AD (Hn (AC 0) (EN (mC (.int 1))) Ci) AJ))) (Hq [2,3]) (AQ (sIf (AS (mOp Ai (AC 2) (mC (.str "variable")))) (Bs (A3 GC (AC 1) (AD (AC 3) AJ))) Ak)
  (sIf (AS (mOp Ai (AC 2) (mC (.str "expression")))) (Bs (A3 JM (AC 1) (AD (AH bA (AD (AC 3) AJ)) AJ))) Ak)))
  (Ae (AC 1))))
noncomputable def BX(bK:List D->M D):Sl->M (Fl×Sl):=
  (AQ (Ab (AH EX AJ) (AM 1))
  (AQ (EV (De (AC 0)) (AM 2) (Bs (A3 JM (AC 1) (AD (AH bK (AD (AC 2) AJ)) AJ))))
  (Ae (Cr 1 [] (De (mUn FG (AC 1))) (AM 0) (AS (mOp CY (AC 0) (mC (.str "v")))) (AC 0) Ba))))
noncomputable def Ao:Nat->List D->M D
 |0=>λ_=>A5
 |n+1=>BJ .frz 3 1 (BM (Ao n))
noncomputable def Bb:List D->M D:=BJ .frz 4 1 (CJ (Ao 6))
noncomputable def Ap:List D->M D:=BJ .drop 3 1 (BX Bb)
inductive Ex where
 |num (n:Int)
 |var (x:Str)
 |neg (e:Ex)
 |bin (w:Str) (a b:Ex)
def Ex.toD:Ex->D
 | .num n=>.tup [.str "num",.int n]
 | .var x=>.tup [.str "var",.str x]
 | .neg e=>.tup [.str "not",e.toD]
 | .bin w a b=>.tup [.str w,a.toD,b.toD]
def Ex.vars:Ex->List Str
 | .num _=>[]
 | .var x=>[x]
 | .neg e=>e.vars
 | .bin _ a b=>a.vars++b.vars
abbrev BH:List Str:=["+", "-", "=", "<", "and", "or", "="]
abbrev BG:List Str:=["x", "y", "v"]
def Ex.Ok:Nat->Ex->Prop
 |_,.num _=>True
 |_,.var x=>x∈BG
 |0,.neg _=>False
 |d+1,.neg e=>e.Ok d
 |0,.bin _ _ _=>False
 |d+1,.bin w a b=>w∈BH/\a.Ok d/\b.Ok d
noncomputable def F8:Nat->Nat
 |0=>2
 |d+1=>2+2 * F8 d
theorem JQ(d:Nat):2<=F8 d:=by cases d<;>unfold F8<;>omega
theorem Ga(k:Nat):∀e:Ex,Cl k e.toD
 | .num n=>by unfold Ex.toD Cl ClL;refine⟨?_,?_⟩<;>(simp[Cl,ClL])
 | .var x=>by unfold Ex.toD Cl ClL;refine⟨?_,?_⟩<;>(simp[Cl,ClL])
 | .neg e=>by
  have:=Ga k e;unfold Ex.toD;simp[Cl,ClL,this]
 | .bin w a b=>by
  have:=Ga k a;have:=Ga k b;unfold Ex.toD;simp[Cl,ClL, *]
theorem ED(h:xs≠[])(i:Int):∃w∈xs,atI (xs.map D.str) (i % (xs.length:Int))=some (.str w):=by
 have hl:0<xs.length:=List.length_pos_iff.mpr h;have h1:=AAZ i (show (xs.length:Int)≠0 by omega);have h2:=AAa i (show (0:Int)<xs.length by omega);obtain⟨k,hk⟩:=Int.eq_ofNat_of_zero_le h1;have hlt:k<xs.length:=by omega
 refine⟨xs[k],List.getElem_mem hlt,?_⟩;rw[hk];unfold atI ixN;rw[if_pos (by omega),if_pos (by rw[AAG];omega)];simp[hlt]
theorem FE(q:QD (.int ds.length) μ):WP (FO [.lst ds]) μ QD:=⟨_,μ,rfl,q⟩
theorem K1(h:QB true μ):orK m QB true μ:=h
theorem K2(h:WP m μ QB):orK m QB false μ:=h
inductive Rw where
 |put (b:Str) (e:Ex)
 |get (x b:Str)
 |lett (x:Str) (e:Ex)
 |unl (e:Ex) (t:Int)
 |jump (t:Int)
 |tell (e:Ex)
 |fin
def Rw.toD:Rw->D
 | .put b e=>.tup [.str "put",.str b,e.toD]
 | .get x b=>.tup [.str "get",.str x,.str b]
 | .lett x e=>.tup [.str "let",.str x,e.toD]
 | .unl e t=>.tup [.str "unless",e.toD,.int t]
 | .jump t=>.tup [.str "jump",.int t]
 | .tell e=>.tup [.str "tell",e.toD]
 | .fin=>.tup [.str "done"]
def Rw.vars:Rw->List Str
 | .put _ e=>e.vars
 | .get x _=>[x]
 | .lett x e=>x::e.vars
 | .unl e _=>e.vars
 | .jump _=>[]
 | .tell e=>e.vars
 | .fin=>[]
abbrev Ty:List Str:=["a", "b", "c"]
def Rw.Ok:Rw->Prop
 | .put b e=>b∈Ty/\e.Ok 2
 | .get x b=>x∈BG/\b∈Ty
 | .lett x e=>x∈BG/\e.Ok 2
 | .unl e _=>e.Ok 2
 | .tell e=>e.Ok 2
 |_=>True
theorem Il(k:Nat)(r:Rw):Cl k r.toD:=by
 cases r<;>unfold Rw.toD<;>simp[Cl,ClL,Ga]
end K21
namespace Mi
open PySem L2
theorem Xs.app(x:Xs μ m k)(gs:Mh):Xs (μ++gs) m k:=by
 obtain⟨xs,h1,h2⟩:=x;exact⟨xs,by rw[AAT (AAU.mp h1).1];exact h1,h2⟩
theorem XU.cut(h:XU m (μ++gs) μ2)(lt:m<μ.length):∃μ3,μ2=μ3++gs/\XU m μ μ3:=by
 obtain⟨xs,rfl⟩:=h;exact⟨μ.set m (.lst (xs.map D.int)),by rw[List.set_append_left m _ lt],xs,rfl⟩
theorem Xs.cut(x:Xs (μ++gs) m k)(lt:m<μ.length):Xs μ m k:=by
 obtain⟨xs,h1,h2⟩:=x;rw[AAT lt] at h1;exact⟨xs,h1,h2⟩
theorem Ls(h:WP (mo τ) μ λx μ1=>WP (mi τ) μ1 λy μ2=>∃n k ds j,x=.ref n/\y=.int k/\μ2[n]?=some (.lst ds)/\ixN ds.length k=some j/\QT τ (μ2.set n (.lst (ds.set j d)))):WP (Qt mo mi d τ) μ QT:=by
 unfold Qt;refine Aa (Ac h λx μ1 h=>Aa (Ac h λy μ2 ⟨n,k,ds,j,e1,e2,e3,e4,q⟩=>?_));subst e1 e2;exact Aa (AV (WU e3 e4) (A2 q))
end Mi
namespace K21
open PySem L2 Mi
theorem Fs(k:Nat):∀rs:List Rw,ClL k (rs.map Rw.toD)
 |[]=>by unfold List.map ClL;trivial
 |r::rs=>by unfold List.map ClL;exact⟨Il k r,Fs k rs⟩
end K21
namespace K41
open PySem L2 Mi
end K41
namespace K41
open PySem L2 Mi Ht Nk Hs
end K41
namespace Mi
open PySem L2
end Mi
namespace K41
open PySem L2 Mi Ht Nk Hs
end K41
namespace K21
open PySem L2 Mi
end K21
namespace Mi
open PySem L2
theorem DU(hl:ds.length=ps)(h:WP (mb (BV N ds)) μ λr μ2=>∃es τ2 gs,μ2=μ++gs/\ClL μ.length es/\QD (.lst es) μ/\(r=(.rt (.lst es),τ2)∨∃j,r=(.rt (.ref j),τ2)/\μ.length<=j/\μ2[j]?=some (.lst es))):WP (BJ .frz N ps mb ds) μ QD:=by
 obtain⟨r,μ2,e,es,τ2,gs,rfl,c,q,z|⟨j,z,hj,hg⟩⟩:=h
 ·subst z;exact AV (OA e hl c) q
 ·subst z;exact AV (Qp e hl hj hg c) q
theorem Ku(ht:τ[i]?=some (some (.ref gs.length)))(h:WP (ra τ) (gs++[.lst ds]) λes μ1=>∃zs,es=[.lst zs]/\μ1=gs++[.lst ds]/\ds.length+zs.length<=1000000/\QD .non (gs++[.lst (ds++zs)])):WP (A3 JM (AC i) ra τ) (gs++[.lst ds]) QD:=by
 unfold A3;refine Aa (AV (Gb ht) ?_);have at_:(gs++[MO.lst ds])[gs.length]?=some (.lst ds):=by
  rw[AAS (AAF _),AA1];rfl
 have hg:Cj (.ref gs.length) (gs++[.lst ds])=some ((),gs++[.lst ds]):=by
  unfold Cj;rw[A8 (show By (.ref gs.length) (gs++[.lst ds])=some (ds,gs++[.lst ds]) from by unfold By;dsimp only;rw[at_])];rfl
 refine Aa (AV hg (Aa (Ac h ?_)));rintro es μ1 ⟨zs,rfl,rfl,hl,q⟩;refine AV (a:=.non) (μ':=gs++[.lst (ds++zs)]) ?_ q;show IV gs.length (λds=>if ds.length+zs.length<=sizeLine then some (.non,ds++zs) else none) (gs++[.lst ds])=_;unfold IV;rw[at_];dsimp only;rw[if_pos (by rw[sizeLine_eq];omega)];simp
end Mi
namespace K21
open PySem L2 Mi
theorem WM:∀c∈BH,PyData.strOk c=true:=by decide +kernel
theorem Iu:PyData.strOk ("num" : Str)=true:=by decide +kernel
theorem Ir:PyData.strOk ("var" : Str)=true:=by decide +kernel
theorem S7:PyData.strOk ("not" : Str)=true:=by decide +kernel
theorem XA:∀c∈BH,(c==("num" : Str))=false:=by decide +kernel
theorem W9:∀c∈BH,(c==("var" : Str))=false:=by decide +kernel
theorem Hy(k:Nat):∀xs:List Str,ClL k (xs.map D.str)
 |[]=>by unfold List.map ClL;trivial
 |x::xs=>by unfold List.map ClL;exact⟨by unfold Cl;trivial,Hy k xs⟩
theorem Bn:∀(d:Nat) (e:Ex),e.Ok d->e.vars.length<=2 ^ d
 |_,.num _,_=>by unfold Ex.vars;simp
 |d,.var x,_=>by unfold Ex.vars;simp;exact Nat.one_le_two_pow
 |0,.neg e,h=>absurd h (by unfold Ex.Ok;exact id)
 |d+1,.neg e,h=>by
  have:=Bn d e h;unfold Ex.vars;rw[Nat.pow_succ];omega
 |0,.bin _ _ _,h=>absurd h (by unfold Ex.Ok;exact id)
 |d+1,.bin w a b,h=>by
  have h1:=Bn d a h.2.1;have h2:=Bn d b h.2.2;unfold Ex.vars;rw[AAH,Nat.pow_succ];omega
section
variable{μ:Mh}{QD:D->Mh->Prop}
theorem Lv{n:Nat}{es:List Ex}(rec:∀e∈es,∀{μ:Mh} {QD:D->Mh->Prop},QD (.lst (e.vars.map D.str)) μ->WP (Ao n [e.toD]) μ QD)(small:(es.flatMap Ex.vars).length<=1000)(q:QD (.lst ((es.flatMap Ex.vars).map D.str)) μ):
  WP (Cu (AM 2) (Bs (A3 JM (AC 1) (AD (AH (Ao n) (AD (AC 2) AJ)) AJ))) (es.map Ex.toD) [x0,some (.ref μ.length),none]) (μ++[.lst []]) (J3 (Ae (AC 1)) λr μ2=>∃es τ2 gs,μ2=μ++gs/\ClL μ.length es/\QD (.lst es) μ/\(r=(.rt (.lst es),τ2)∨∃j,r=(.rt (.ref j),τ2)/\μ.length<=j/\μ2[j]?=some (.lst es))):=by
 refine Gu (I:=λrest τ μ'=>∃a b o2,a++b=es/\rest=b.map Ex.toD/\μ'=μ++[.lst ((a.flatMap Ex.vars).map D.str)]/\τ=[x0,some (.ref μ.length),o2]) ?_ ?_ ⟨[],es,none,rfl,rfl,rfl,rfl⟩
 ·rintro y ys τ μ' ⟨a,b,o2,hab,hr,rfl,rfl⟩;cases b with
  |nil=>cases hr
  |cons e b=>
   rw[AAX] at hr;obtain⟨e3,e4⟩:=List.cons.inj hr;subst e3;have hm:e∈es:=by rw[←hab];simp
   have hsm:(a.flatMap Ex.vars).length+e.vars.length<=1000:=by
    have:(es.flatMap Ex.vars).length=(a.flatMap Ex.vars).length+(e.vars.length+(b.flatMap Ex.vars).length):=by rw[←hab,List.flatMap_append,AAH,List.flatMap_cons,AAH]
    omega
   wtm_at "b";refine Ku rfl ?_;wtm_at "b";refine rec e hm ?_;wtm_at "b";refine⟨_,rfl,rfl,by rw[AAG,AAG];omega,Aq ⟨a++[e],b,_,by rw[←hab];simp,e4,?_,rfl⟩⟩;rw[List.flatMap_append,AAY,List.flatMap_cons,List.flatMap_nil,AAb]
 ·rintro τ μ' ⟨a,b,o2,hab,hr,rfl,rfl⟩;cases b with
  |cons e b=>cases hr
  |nil=>
   rw[AAb] at hab;subst hab;wtm_at "b";exact⟨_,_,_,rfl,Hy _ _,q,.inr ⟨μ.length,rfl,AAF _,by rw[AAS (AAF _),AA1];rfl⟩⟩
theorem Kt:∀(d n:Nat) (e:Ex) {μ:Mh} {QD:D->Mh->Prop},d<n->d<=4->e.Ok d->QD (.lst (e.vars.map D.str)) μ->WP (Ao n [e.toD]) μ QD
 |d,0,_,_,_,h,_,_,_=>absurd h (Nat.not_lt_zero d)
 |d,n+1,.num i,μ,QD,h,d4,ok,q=>by
  unfold Ao;refine DU rfl ?_;unfold BM Ex.toD;wtm_at "b";refine B3 Iu Iu ?_;wtm_at "b";rw[beq_self_eq_true];refine CD ?_;wtm_at "b";exact⟨[],_,[],by simp,by unfold ClL;trivial,q,.inl rfl⟩
 |d,n+1,.var y,μ,QD,h,d4,ok,q=>by
  unfold Ao;refine DU rfl ?_;unfold BM Ex.toD;wtm_at "b";refine B3 Ir Iu ?_;wtm_at "b";rw[show ((("var" : Str))==("num" : Str))=false from by decide +kernel];refine BP ?_;wtm_at "b";refine B3 Ir Ir ?_;wtm_at "b";rw[beq_self_eq_true];refine CD ?_;wtm_at "b";exact⟨[.str y],_,[],by simp,by unfold ClL Cl ClL;exact⟨trivial,trivial⟩,q,.inl rfl⟩
 |0,n+1,.neg e,_,_,_,_,ok,_=>absurd ok (by unfold Ex.Ok;exact id)
 |d+1,n+1,.neg e,μ,QD,h,d4,ok,q=>by
  have vl:=Bn d e ok;have p4:2 ^ d<=2 ^ 4:=Nat.pow_le_pow_right (by decide) (by omega);unfold Ao;refine DU rfl ?_;unfold BM Ex.toD;wtm_at "b";refine B3 S7 Iu ?_;wtm_at "b";rw[show ((("not" : Str))==("num" : Str))=false from by decide +kernel];refine BP ?_;wtm_at "b";refine B3 S7 Ir ?_;wtm_at "b";rw[show ((("not" : Str))==("var" : Str))=false from by decide +kernel];refine BP ?_;wtm_at "b";refine AV (a:=.tup [e.toD]) (μ':=_) rfl ?_;wtm_at "b";refine Lv (es:=[e]) (λe' he=>?_) (by simp;omega) (by simpa[Ex.vars] using q);cases AAL.mp he;exact λ{μ QD} q=>Kt d n e (by omega) (by omega) ok q
 |0,n+1,.bin _ _ _,_,_,_,_,ok,_=>absurd ok (by unfold Ex.Ok;exact id)
 |d+1,n+1,.bin w a b,μ,QD,h,d4,ok,q=>by
  have va:=Bn d a ok.2.1;have vb:=Bn d b ok.2.2;have p4:2 ^ d<=2 ^ 4:=Nat.pow_le_pow_right (by decide) (by omega);unfold Ao;refine DU rfl ?_;unfold BM Ex.toD;wtm_at "b";refine B3 (WM w ok.1) Iu ?_;wtm_at "b";rw[XA w ok.1];refine BP ?_;wtm_at "b";refine B3 (WM w ok.1) Ir ?_;wtm_at "b";rw[W9 w ok.1];refine BP ?_;wtm_at "b";refine AV (a:=.tup [a.toD,b.toD]) (μ':=_) rfl ?_;wtm_at "b";refine Lv (es:=[a,b]) (λe' he=>?_) (by simp;omega) (by simpa[Ex.vars] using q);rcases AAJ.mp he with z|z
  ·cases z;exact λ{μ QD} q=>Kt d n a (by omega) (by omega) ok.2.1 q
  ·cases AAL.mp z;exact λ{μ QD} q=>Kt d n b (by omega) (by omega) ok.2.2 q
end
end K21
namespace Mi
open PySem L2
theorem Bk(h:WP (bf x τ) μ λτ1 μ1=>WP (m1 τ1) μ1 (Me (λτ2 μ2=>WP (Cu bf m1 xs τ2) μ2 QS) QS)):WP (Cu bf m1 (x::xs) τ) μ QS:=
 Aa (Ac h λτ1 μ1 z=>Aa (Ac z λr μ2 z=>by
  obtain⟨fl,τ2⟩:=r;cases fl
  ·exact z
  ·exact A2 z
  ·exact z
  ·exact A2 z))
theorem Ky(h:QS (.next,τ) μ):WP (Cu bf m1 [] τ) μ QS:=A2 h
end Mi
namespace K21
open PySem L2 Mi
theorem Cb:PyData.strOk ("variable" : Str)=true:=by decide +kernel
theorem Bz:PyData.strOk ("expression" : Str)=true:=by decide +kernel
theorem S8:PyData.strOk ("box" : Str)=true:=by decide +kernel
theorem KH:PyData.strOk ("target" : Str)=true:=by decide +kernel
noncomputable abbrev PZ:Sl->M (Fl×Sl):=(AQ (sIf (AS (mOp Ai (AC 2) (mC (.str "variable")))) (Bs (A3 GC (AC 1) (AD (AC 3) AJ))) Ak)
  (sIf (AS (mOp Ai (AC 2) (mC (.str "expression")))) (Bs (A3 JM (AC 1) (AD (AH (Ao 6) (AD (AC 3) AJ)) AJ))) Ak))
section
variable{μ:Mh}
variable{x0 o2 o3:Option D}{ds:List D}{QS:Fl×Sl->Mh->Prop}
theorem MN(hl:ds.length<=100)(h:∀o2 o3,QS (.next,[x0,some (.ref μ.length),o2,o3]) (μ++[.lst (ds++[.str y])])):WP (Hq [2,3] (.tup [.str "variable",.str y]) [x0,some (.ref μ.length),o2,o3]) (μ++[.lst ds]) λτ1 μ1=>WP (PZ τ1) μ1 QS:=by
 (with_reducible apply DT);wtm_at "b";refine B3 Cb Cb ?_;wtm_at "b";rw[beq_self_eq_true];refine CD ?_;wtm_at "b";refine CT (gs:=μ) rfl (by rw[sizeLine_eq];omega) ?_;wtm_at "b";refine⟨μ,_,rfl,rfl,rfl,?_⟩;wtm_at "b";refine B3 Cb Bz ?_;wtm_at "b";rw[show (("variable" : Str)==("expression" : Str))=false from by decide +kernel];refine BP ?_;(with_reducible apply Gs);exact h _ _
theorem GS{e:Ex}(ok:e.Ok 2)(hl:ds.length<=100)(h:∀o2 o3,QS (.next,[x0,some (.ref μ.length),o2,o3]) (μ++[.lst (ds++e.vars.map D.str)])):WP (Hq [2,3] (.tup [.str "expression",e.toD]) [x0,some (.ref μ.length),o2,o3]) (μ++[.lst ds]) λτ1 μ1=>WP (PZ τ1) μ1 QS:=by
 have vl:=Bn 2 e ok;(with_reducible apply DT);wtm_at "b";refine B3 Bz Cb ?_;wtm_at "b";rw[show (("expression" : Str)==("variable" : Str))=false from by decide +kernel];refine BP ?_;(with_reducible apply Gs);(with_reducible apply DV);wtm_at "b";refine B3 Bz Bz ?_;wtm_at "b";rw[beq_self_eq_true];refine CD ?_;wtm_at "b";refine Ku rfl ?_;wtm_at "b";refine Kt 2 6 e (by decide) (by decide) ok ?_;wtm_at "b";exact⟨_,rfl,rfl,by rw[AAG];omega,h _ _⟩
theorem IA(ow:PyData.strOk w=true)(w1:(w==("variable" : Str))=false)(w2:(w==("expression" : Str))=false)(h:∀o2 o3,QS (.next,[x0,some (.ref μ.length),o2,o3]) (μ++[.lst ds])):WP (Hq [2,3] (.tup [.str w,y]) [x0,some (.ref μ.length),o2,o3]) (μ++[.lst ds]) λτ1 μ1=>WP (PZ τ1) μ1 QS:=by
 (with_reducible apply DT);wtm_at "b";refine B3 ow Cb ?_;wtm_at "b";rw[w1];refine BP ?_;(with_reducible apply Gs);(with_reducible apply DV);wtm_at "b";refine B3 ow Bz ?_;wtm_at "b";rw[w2];refine BP ?_;(with_reducible apply Gs);exact h _ _
end
theorem nb1:(("box" : Str)==("variable" : Str))=false:=by decide +kernel
theorem nb2:(("box" : Str)==("expression" : Str))=false:=by decide +kernel
theorem nt1:(("target" : Str)==("variable" : Str))=false:=by decide +kernel
theorem nt2:(("target" : Str)==("expression" : Str))=false:=by decide +kernel
section
variable{μ:Mh}{QD:D->Mh->Prop}
theorem Wp{r:Rw}(ok:r.Ok)(q:QD (.lst (r.vars.map D.str)) μ):WP (Bb [r.toD]) μ QD:=by
 unfold Bb;refine DU rfl ?_;unfold CJ;have fin:∀(ds:List D) (x0 o2 o3:Option D),ds=r.vars.map D.str->WP (Cu (Hq [2,3]) PZ [] [x0,some (.ref μ.length),o2,o3]) (μ++[.lst ds]) (J3 (Ae (AC 1)) λr μ2=>∃es τ2 gs,μ2=μ++gs/\ClL μ.length es/\QD (.lst es) μ/\(r=(.rt (.lst es),τ2)∨∃j,r=(.rt (.ref j),τ2)/\μ.length<=j/\μ2[j]?=some (.lst es))):=λds x0 o2 o3 e=>by
  subst e;refine Ky ?_;(with_reducible apply DV);wtm_at "b";exact⟨_,_,_,rfl,Hy _ _,q,.inr ⟨μ.length,rfl,AAF _,by rw[AAS (AAF _),AA1];rfl⟩⟩
 cases r with
 |put b e=>
  unfold Rw.toD;wtm_at "b";(with_reducible apply Fj);wtm_at "b";refine AV (a:=.tup [.str "box",.str "expression"]) (μ':=_) rfl ?_;wtm_at "b";refine AV (a:=.tup [.str b,e.toD]) (μ':=_) rfl ?_;wtm_at "b";refine⟨_,_,rfl,rfl,?_⟩;refine Bk (IA S8 nb1 nb2 λo2 o3=>Aq ?_);refine Bk (GS ok.2 (by simp) λo2 o3=>Aq ?_);exact fin _ _ _ _ rfl
 |get y b=>
  unfold Rw.toD;wtm_at "b";(with_reducible apply Fj);wtm_at "b";refine AV (a:=.tup [.str "variable",.str "box"]) (μ':=_) rfl ?_;wtm_at "b";refine AV (a:=.tup [.str y,.str b]) (μ':=_) rfl ?_;wtm_at "b";refine⟨_,_,rfl,rfl,?_⟩;refine Bk (MN (by simp) λo2 o3=>Aq ?_);refine Bk (IA S8 nb1 nb2 λo2 o3=>Aq ?_);exact fin _ _ _ _ rfl
 |lett y e=>
  unfold Rw.toD;wtm_at "b";(with_reducible apply Fj);wtm_at "b";refine AV (a:=.tup [.str "variable",.str "expression"]) (μ':=_) rfl ?_;wtm_at "b";refine AV (a:=.tup [.str y,e.toD]) (μ':=_) rfl ?_;wtm_at "b";refine⟨_,_,rfl,rfl,?_⟩;refine Bk (MN (by simp) λo2 o3=>Aq ?_);refine Bk (GS ok.2 (by simp) λo2 o3=>Aq ?_);exact fin _ _ _ _ rfl
 |unl e t=>
  unfold Rw.toD;wtm_at "b";(with_reducible apply Fj);wtm_at "b";refine AV (a:=.tup [.str "expression",.str "target"]) (μ':=_) rfl ?_;wtm_at "b";refine AV (a:=.tup [e.toD,.int t]) (μ':=_) rfl ?_;wtm_at "b";refine⟨_,_,rfl,rfl,?_⟩;refine Bk (GS ok (by simp) λo2 o3=>Aq ?_);refine Bk (IA KH nt1 nt2 λo2 o3=>Aq ?_);exact fin _ _ _ _ rfl
 |jump t=>
  unfold Rw.toD;wtm_at "b";(with_reducible apply Fj);wtm_at "b";refine AV (a:=.tup [.str "target"]) (μ':=_) rfl ?_;wtm_at "b";refine AV (a:=.tup [.int t]) (μ':=_) rfl ?_;wtm_at "b";refine⟨_,_,rfl,rfl,?_⟩;refine Bk (IA KH nt1 nt2 λo2 o3=>Aq ?_);exact fin _ _ _ _ rfl
 |tell e=>
  unfold Rw.toD;wtm_at "b";(with_reducible apply Fj);wtm_at "b";refine AV (a:=.tup [.str "expression"]) (μ':=_) rfl ?_;wtm_at "b";refine AV (a:=.tup [e.toD]) (μ':=_) rfl ?_;wtm_at "b";refine⟨_,_,rfl,rfl,?_⟩;refine Bk (GS ok (by simp) λo2 o3=>Aq ?_);exact fin _ _ _ _ rfl
 |fin=>
  unfold Rw.toD;wtm_at "b";(with_reducible apply Fj);wtm_at "b";refine AV (a:=.tup []) (μ':=_) rfl ?_;wtm_at "b";refine AV (a:=.tup []) (μ':=_) rfl ?_;wtm_at "b";refine⟨_,_,rfl,rfl,?_⟩;exact fin _ _ _ _ rfl
end
end K21
namespace K21
open PySem L2 Mi Xt
theorem Lz:∀xs:List Str,HV (xs.map D.str)=some xs
 |[]=>rfl
 |x::xs=>by
  rw[AAX];unfold HV;rw[Lz xs];rfl
theorem Mq(x:Str):∀ys:List Str,(HC x ys).length<=ys.length+1
 |[]=>by simp[HC]
 |y::ys=>by
  have:=Mq x ys;unfold HC;split
  ·simp
  ·split
   ·simp
   ·rw[AAI,AAI];omega
theorem L1:∀xs:List Str,(CF xs).length<=xs.length
 |[]=>by simp[CF]
 |x::xs=>by
  have:=L1 xs;have e:CF (x::xs)=HC x (CF xs):=rfl;rw[e,AAI];have:=Mq x (CF xs);omega
noncomputable def hv(rs:List Rw):List Str:=(CF (rs.flatMap Rw.vars)).filter λx=>!(x==("v" : Str))
theorem JN:∀(d:Nat) (e:Ex),e.Ok d->∀x∈e.vars,x∈BG
 |_,.num _,_,x,h=>by unfold Ex.vars at h;cases h
 |d,.var y,ok,x,h=>by
  unfold Ex.vars at h;rw[AAL.mp h];cases d<;>exact ok
 |0,.neg e,ok,_,_=>absurd ok (by unfold Ex.Ok;exact id)
 |d+1,.neg e,ok,x,h=>JN d e ok x h
 |0,.bin _ _ _,ok,_,_=>absurd ok (by unfold Ex.Ok;exact id)
 |d+1,.bin w a b,ok,x,h=>by
  unfold Ex.vars at h;rcases AAK.mp h with z|z
  ·exact JN d a ok.2.1 x z
  ·exact JN d b ok.2.2 x z
theorem Y8{r:Rw}(ok:r.Ok):∀x∈r.vars,x∈BG:=λx h=>by
 cases r with
 |put b e=>exact JN 2 e ok.2 x h
 |get y b=>rw[AAL.mp h];exact ok.1
 |lett y e=>
  rcases AAJ.mp h with z|z
  ·rw[z];exact ok.1
  ·exact JN 2 e ok.2 x z
 |unl e t=>exact JN 2 e ok x h
 |jump t=>cases h
 |tell e=>exact JN 2 e ok x h
 |fin=>cases h
theorem SF{r:Rw}(ok:r.Ok):r.vars.length<=5:=by
 cases r with
 |put b e=>exact AAu (Bn 2 e ok.2) (by decide)
 |get y b=>show 1<=5;decide
 |lett y e=>
  have:=Bn 2 e ok.2;show (y::e.vars).length<=5;rw[AAI];omega
 |unl e t=>exact AAu (Bn 2 e ok) (by decide)
 |jump t=>show 0<=5;decide
 |tell e=>exact AAu (Bn 2 e ok) (by decide)
 |fin=>show 0<=5;decide
theorem LB:∀{rs:List Rw},(∀r∈rs,r.Ok)->(rs.flatMap Rw.vars).length<=5 * rs.length
 |[],_=>by simp
 |r::rs,h=>by
  have a:=SF (h r AAQ);have b:=LB (rs:=rs) λx hx=>h x (AAR _ hx);rw[List.flatMap_cons,AAH,AAI];omega
theorem ZV:∀c∈BG,PyData.strOk c=true:=by decide +kernel
theorem aX:PyData.strOk ("v" : Str)=true:=by decide +kernel
section
variable{μ:Mh}{QD:D->Mh->Prop}
theorem Kw(h:as.length+bs.length<=1000000)(q:QD (.lst (as++bs)) μ):WP (Av (.lst as) (.lst bs)) μ QD:=by
 refine AV (a:=.lst (as++bs)) (μ':=μ) ?_ q;show Ba (as++bs) μ=_;unfold Ba;rw[A8 (G7 (by rw[AAH,sizeLine_eq];omega) _)];rfl
end
end K21
namespace K21
open PySem L2 Mi
end K21
namespace Mi
open PySem L2
section
variable{μ:Mh}{QD:D->Mh->Prop}{QS:Fl×Sl->Mh->Prop}{τ:Sl}{c f:Str}{n:Nat}{l:List (Str×D)}{d:D}
theorem NE(h:μ[n]?=some (.ins c l)):Hj c (.ref n) μ=some ((n,l),μ):=by
 unfold Hj;dsimp only;rw[h];exact if_pos rfl
theorem Ub(h:μ[n]?=some (.ins c l))(hl:l.lookup f=some d)(q:QD d μ):WP (Bw c f (.ref n)) μ QD:=by
 refine AV (a:=d) (μ':=μ) ?_ q;unfold Bw;rw[A8 (NE h)];show (l.lookup f).map _=_;rw[hl];rfl
theorem UQ(h:WP (mv τ) μ λy μ1=>WP (mo τ) μ1 λx μ2=>∃n l,x=.ref n/\μ2[n]?=some (.ins c l)/\l.length<1000/\QS (.next,τ) (μ2.set n (.ins c (B8 f y l)))):WP (FX c f mo mv τ) μ QS:=by
 unfold FX;refine Aa (Ac h λy μ1 h=>Aa (Ac h λx μ2 ⟨n,l,e1,e2,e3,q⟩=>?_));subst e1;refine Aa (AV (NE e2) ?_);exact⟨_,_,if_pos e3,q⟩
theorem RQ(h:WP (φ (.ref μ.length::ds)) (μ++[.ins c []]) λd μ'=>d=.non/\QD (.ref μ.length) μ'):WP (Iz c φ ds) μ QD:=by
 obtain⟨d,μ',e,rfl,q⟩:=h;refine AV (a:=.ref μ.length) (μ':=μ') ?_ q;unfold Iz;rw[e]
end
end Mi
namespace K21
open PySem L2 Mi
end K21
namespace Mi
open PySem L2
section
variable{μ gs:Mh}{QD:D->Mh->Prop}{QS:Fl×Sl->Mh->Prop}{τ:Sl}{c f:Str}{i:Nat}{l:List (Str×D)}
theorem E9(o:MO):(μ++o::gs)[μ.length]?=some o:=by
 rw[AAS (AAF _),AA1];rfl
theorem Uy(o o':MO):(μ++o::gs).set μ.length o'=μ++o'::gs:=by
 rw[AAh _ _ (AAF _),AA1];rfl
theorem DS(ht:τ[i]?=some (some (.ref μ.length)))(hl:l.length<1000)(h:WP (mv τ) (μ++.ins c l::gs) λy μ1=>∃gs',μ1=μ++.ins c l::gs'/\QS (.next,τ) (μ++.ins c (B8 f y l)::gs')):WP (FX c f (AC i) mv τ) (μ++.ins c l::gs) QS:=by
 refine UQ (Ac h λy μ1 ⟨gs',e,q⟩=>?_);subst e;refine Hv ht ⟨μ.length,l,rfl,E9 _,hl,?_⟩;rw[Uy];exact q
theorem UX(q:QD (.ref μ.length) (μ++[.dK []])):WP (YA τ) μ QD:=⟨_,_,rfl,q⟩
theorem Rc(ht:τ[i]?=some (some (.ref μ.length)))(hf:l.lookup f=some (.ref (μ.length+1)))(hk:kvs.length<1000)(hv:WP (mv τ) (μ++.ins c l::.dK kvs::gs) λy μ1=>y=v/\μ1=μ++.ins c l::.dK kvs::gs)(hi:WP (mi τ) (μ++.ins c l::.dK kvs::gs) λy μ1=>y=.str x/\μ1=μ++.ins c l::.dK kvs::gs)(q:∀ky,JG (.str x)=some ky->QS (.next,τ) (μ++.ins c l::.dK (C3 kvs ky v)::gs))(ks:(JG (.str x)).isSome):WP (C0 (mUn (Bw c f) (AC i)) mi mv τ) (μ++.ins c l::.dK kvs::gs) QS:=by
 unfold C0;refine Aa (Ac hv λy μ1 ⟨e1,e2⟩=>?_);subst e1 e2;refine Aa (WE (Hv ht (Ub (E9 _) hf ?_)));refine Aa (Ac hi λy μ1 ⟨e1,e2⟩=>?_);subst e1 e2;have ha:Be (.ref (μ.length+1)) (μ++MO.ins c l::.dK kvs::gs)=some ((μ.length+1,kvs),μ++MO.ins c l::.dK kvs::gs):=by
  unfold Be;dsimp only;rw[AAS (by omega),show μ.length+1-μ.length=1 by omega];rfl
 refine Aa (AV ha ?_);obtain⟨ky,hky⟩:=Option.isSome_iff_exists.mp ks;refine⟨_,_,?_,q ky hky⟩;rw[hky];dsimp only;rw[if_pos (by rw[sizeLine_eq];omega)];rw[AAh _ _ (by omega),show μ.length+1-μ.length=1 by omega];rfl
end
end Mi
namespace K21
open PySem L2 Mi
theorem Ec(h:WP (ra τ) μ λas μ1=>∃ds,as=[.tup ds]/\QL (Ff 0 ds) μ1):WP (JE ra τ) μ QL:=by
 unfold JE;refine Aa (Ac h λas μ1 ⟨ds,e,q⟩=>?_);subst e;exact Aa (AV (a:=ds) (μ':=μ1) rfl (A2 q))
theorem Sb(l:List (Key×D))(k:Key)(d:D):(C3 l k d).length<=l.length+1:=by
 unfold C3;split<;>simp
end K21
namespace Mi
open PySem L2
section
variable{τ:Sl}{μ μ1:Mh}{d x y:D}{ds:List D}{ma mb:Sl->M D}{ra:Sl->M (List D)}{QD:D->Mh->Prop}{QB:Bool->Mh->Prop}{QS:Fl×Sl->Mh->Prop}{i j:Int}
theorem UI{x y:Str}(h1:PyData.strOk x=true)(h2:PyData.strOk y=true)(h:(x==y)=true)(q:QD (.bl true) μ):WP (Ai (.str x) (.str y)) μ QD:=B3 h1 h2 (by rw[h];exact q)
theorem Dp{x y:Str}(h1:PyData.strOk x=true)(h2:PyData.strOk y=true)(h:(x==y)=false)(q:QD (.bl false) μ):WP (Ai (.str x) (.str y)) μ QD:=B3 h1 h2 (by rw[h];exact q)
theorem OS{x y:Str}(h1:PyData.strOk x=true)(h2:PyData.strOk y=true)(q:QD (.bl (!(x==y))) μ):WP (CY (.str x) (.str y)) μ QD:=by
 refine NP (by unfold Pz;exact h1) (by unfold Pz;exact h2) (by show 0<=64;omega) (by show 0<=64;omega) λe he=>?_;have:e=(x==y):=by
  rw[Bool.eq_iff_iff,he,beq_iff_eq];exact⟨λz=>by cases z;rfl,λz=>by rw[z]⟩
 rw[this];exact q
theorem T7{x y:Str}(h1:PyData.strOk x=true)(h2:PyData.strOk y=true)(h:(x==y)=false)(q:QD (.bl true) μ):WP (CY (.str x) (.str y)) μ QD:=OS h1 h2 (by rw[h];exact q)
theorem T8{x y:Str}(h1:PyData.strOk x=true)(h2:PyData.strOk y=true)(h:(x==y)=true)(q:QD (.bl false) μ):WP (CY (.str x) (.str y)) μ QD:=OS h1 h2 (by rw[h];exact q)
theorem GF(h:i=j)(q:QD (.bl true) μ):WP (Ai (.int i) (.int j)) μ QD:=NS (by rw[beq_iff_eq.mpr h];exact q)
theorem GG(h:i≠j)(q:QD (.bl false) μ):WP (Ai (.int i) (.int j)) μ QD:=NS (by rw[AAg.mpr h];exact q)
theorem Q6(h:i≠j)(q:QD (.bl true) μ):WP (CY (.int i) (.int j)) μ QD:=NQ (by rw[AAg.mpr h];exact q)
theorem Q7(h:i=j)(q:QD (.bl false) μ):WP (CY (.int i) (.int j)) μ QD:=NQ (by rw[beq_iff_eq.mpr h];exact q)
theorem UA(h:i<j)(q:QD (.bl true) μ):WP (El (.int i) (.int j)) μ QD:=RU (by rw[AAP h];exact q)
theorem UB(h:¬i<j)(q:QD (.bl false) μ):WP (El (.int i) (.int j)) μ QD:=RU (by rw[AAO h];exact q)
theorem UE(h:j<i)(q:QD (.bl true) μ):WP (Jj (.int i) (.int j)) μ QD:=RX (by rw[AAP h];exact q)
theorem UF(h:¬j<i)(q:QD (.bl false) μ):WP (Jj (.int i) (.int j)) μ QD:=RX (by rw[AAO h];exact q)
theorem UG(h:j<=i)(q:QD (.bl true) μ):WP (MK (.int i) (.int j)) μ QD:=RZ (by rw[AAP h];exact q)
theorem UH(h:¬j<=i)(q:QD (.bl false) μ):WP (MK (.int i) (.int j)) μ QD:=RZ (by rw[AAO h];exact q)
theorem RC(q:QD (.bl true) μ):WP (EW false .non .non) μ QD:=⟨_,μ,rfl,q⟩
theorem RB(q:QD (.bl false) μ):WP (EW true .non .non) μ QD:=⟨_,μ,rfl,q⟩
theorem UD(q:QD (.bl b) μ):WP (EW b (.int i) .non) μ QD:=by cases b<;>exact⟨_,μ,rfl,q⟩
theorem UC(q:QD (.bl b) μ):WP (EW b (.tup ds) .non) μ QD:=by cases b<;>exact⟨_,μ,rfl,q⟩
theorem RF(h:WP m μ QB):Ye m QB true μ:=h
theorem RH(h:QB false μ):Ye m QB false μ:=h
theorem T6(h:QB true μ):orK m QB true μ:=h
theorem OR(h:WP m μ QB):orK m QB false μ:=h
noncomputable def YC(m1 m2:M D)(QD:D->Mh->Prop):Bool->Mh->Prop
 |true,μ=>WP m1 μ QD
 |false,μ=>WP m2 μ QD
theorem T9(h:WP (mc τ) μ (YC (ma τ) (mb τ) QD)):WP (mIf mc ma mb τ) μ QD:=W2 (Ac h λb _ z=>by cases b;exact⟨λe=>(nomatch e),λ_=>z⟩;exact⟨λ_=>z,λe=>(nomatch e)⟩)
theorem Q8(h:WP m1 μ QD):YC m1 m2 QD true μ:=h
theorem Q9(h:WP m2 μ QD):YC m1 m2 QD false μ:=h
noncomputable def T0(m:M D)(QD:D->Mh->Prop):D->Mh->Prop
 | .bl true,μ=>WP m μ QD
 | .bl false,μ=>QD (.bl false) μ
 |_,_=>False
theorem RD(h:WP (ma τ) μ (T0 (mb τ) QD)):WP (Ep ma mb τ) μ QD:=Uh (Ac h λd μ1 z=>by
 match d,z with
 | .bl true,z=>exact⟨true,rfl,λ_=>z,λe=>(nomatch e)⟩
 | .bl false,z=>exact⟨false,rfl,λe=>(nomatch e),λ_=>z⟩)
theorem Pi(h:WP m μ QD):T0 m QD (.bl true) μ:=h
theorem Pj(h:QD (.bl false) μ):T0 m QD (.bl false) μ:=h
noncomputable def Xx(m:M D)(QD:D->Mh->Prop):D->Mh->Prop
 | .bl true,μ=>QD (.bl true) μ
 | .bl false,μ=>WP m μ QD
 |_,_=>False
theorem T5(h:WP (ma τ) μ (Xx (mb τ) QD)):WP (Nq ma mb τ) μ QD:=by
 obtain⟨d,μ1,e,z⟩:=h;unfold Nq
 match d,e,z with
 | .bl true,e,z=>exact⟨.bl true,μ1,by rw[A8 e];rfl,z⟩
 | .bl false,e,z=>
  obtain⟨d2,μ2,e2,q⟩:=z;exact⟨d2,μ2,by rw[A8 e];exact e2,q⟩
theorem Q4(h:QD (.bl true) μ):Xx m QD (.bl true) μ:=h
theorem Q5(h:WP m μ QD):Xx m QD (.bl false) μ:=h
theorem Au(h:μ[n]?=some (.ins c l))(hl:l.lookup f=some d)(q:QD d μ):WP (Bw c f (.ref n)) μ QD:=by
 refine AV (a:=d) (μ':=μ) ?_ q;unfold Bw Hj;show bnd (λμ=>match μ[n]? with|some (.ins c' l)=>if c'=c then some ((n,l),μ) else none|_=>none) _ μ=_;rw[A8 (show (match μ[n]? with|some (.ins c' l)=>if c'=c then some ((n,l),μ) else none|_=>none)=some ((n,l),μ) from by rw[h];exact if_pos rfl)];show (l.lookup f).map _=_;rw[hl];rfl
theorem Cz(ht:τ[k]?=some (some (.ref n)))(h:μ[n]?=some (.ins c l))(hl:l.lookup m=none)(q:WP (ra τ) μ λds μ1=>WP (φ (.ref n::ds)) μ1 QD):WP (C6 c m φ (AC k) ra τ) μ QD:=by
 unfold C6;refine Aa (Hv ht ?_);refine Aa (AV (a:=(n,l)) (μ':=μ) ?_ ?_)
 ·unfold Hj;dsimp only;rw[h];exact if_pos rfl
 ·rw[if_pos hl];exact Aa q
structure Chg(n:Nat)(μ μ1:Mh):Prop where
 len:μ1.length=μ.length
 low:∀j,j<n->μ1[j]?=μ[j]?
 cl:∀(j:Nat) (o:MO),μ1[j]?=some o->μ[j]?=some o∨∀k,ClO k o
theorem Chg.set(h:n<=k)(c:∀k,ClO k o):Chg n μ (μ.set k o):=⟨List.length_set,λj hj=>by rw[AAp (by omega)],λj o' e=>by
 by_cases z:k=j
 ·subst z;rw[List.getElem?_set] at e;simp at e;obtain⟨_,rfl⟩:=e;exact .inr c
 ·rw[AAp z] at e;exact .inl e⟩
theorem Rj{n N ps:Nat}{mb:Sl->M (Fl×Sl)}(hl:ds.length=ps)(h:WP (mb (BV N ds)) μ λr μ2=>∃d τ2 μ1 gs,r=(.rt d,τ2)/\μ2=μ1++gs/\Chg n μ μ1/\Cl μ.length d/\QD d μ1):WP (BJ .drop N ps mb ds) μ QD:=by
 obtain⟨r,μ2,e,d,τ2,μ1,gs,rfl,rfl,u,c,q⟩:=h;have t:Jl μ (μ1++gs) .drop=μ1:=by show (μ1++gs).take μ.length=μ1;rw[←u.len,List.take_left]
 refine AV (a:=d) (μ':=μ1) ?_ q;have hh:=Dl (hw:=.drop) e hl (.inr ⟨d,rfl⟩) (by
  rw[t];refine⟨⟨gs,rfl⟩,by rw[u.len];exact AAF _,λj o e=>?_,.inl ⟨rfl,by rw[u.len];exact c⟩⟩;exact(u.cl j o e).imp id λz=>z _)
 rw[t] at hh;exact hh
theorem IJ(h:μ[n]?=some (.dP l))(hk:F1 y=some y)(hn:(l.any λz=>decide (z.1=y))=false)(q:QD (.bl true) μ):WP (Si true y (.ref n)) μ QD:=by
 refine AV (a:=.bl true) (μ':=μ) ?_ q;unfold Si;rw[A8 (show JY (.ref n) μ=some ((n,l),μ) from by unfold JY;dsimp only;rw[h])];show (F1 y).map _=_;rw[hk];show some (D.bl (!(l.any λz=>decide (z.1=y))),μ)=_;rw[hn];rfl
theorem Ll(h:μ[n]?=some (.dP l))(hk:F1 y=some y)(hv:IU l y=some d)(q:QD d μ):WP (ML (.ref n) y) μ QD:=by
 refine AV (a:=d) (μ':=μ) ?_ q;unfold ML;rw[A8 (show JY (.ref n) μ=some ((n,l),μ) from by unfold JY;dsimp only;rw[h])];show ((F1 y).bind (IU l)).map _=_;rw[hk,Option.bind_some,hv];rfl
theorem Lk(h:WP (mv τ) μ λv μ1=>WP (mo τ) μ1 λx μ2=>WP (mi τ) μ2 λy μ3=>∃n l,x=.ref n/\μ3[n]?=some (.dP l)/\F1 y=some y/\l.length<1000/\(l.any λz=>decide (z.1=y))=false/\QS (.next,τ) (μ3.set n (.dP (l++[(y,v)])))):WP (MB mo mi mv τ) μ QS:=by
 unfold MB;refine Aa (Ac h λv μ1 h=>Aa (Ac h λx μ2 h=>Aa (Ac h λy μ3 ⟨n,l,e1,e2,e3,e4,e5,q⟩=>?_)));subst e1;refine Aa (AV (show JY (.ref n) μ3=some ((n,l),μ3) from by unfold JY;dsimp only;rw[e2]) ?_);refine⟨_,_,?_,q⟩;rw[e3];dsimp only;rw[if_pos ⟨by rw[sizeLine_eq];omega,e5⟩]
theorem Az(h:μ[n]?=some (.dK l))(hk:JG y=some k)(hv:GM l k=some d)(q:QD d μ):WP (Bt (.ref n) y) μ QD:=by
 refine AV (a:=d) (μ':=μ) ?_ q;unfold Bt;rw[A8 (show Be (.ref n) μ=some ((n,l),μ) from by unfold Be;dsimp only;rw[h])];show ((JG y).bind (GM l)).map _=_;rw[hk,Option.bind_some,hv];rfl
theorem EZ(h:WP (mv τ) μ λv μ1=>WP (mo τ) μ1 λx μ2=>WP (mi τ) μ2 λy μ3=>∃n l k,x=.ref n/\μ3[n]?=some (.dK l)/\JG y=some k/\l.length<1000/\QS (.next,τ) (μ3.set n (.dK (C3 l k v)))):WP (C0 mo mi mv τ) μ QS:=by
 unfold C0;refine Aa (Ac h λv μ1 h=>Aa (Ac h λx μ2 h=>Aa (Ac h λy μ3 ⟨n,l,k,e1,e2,e3,e4,q⟩=>?_)));subst e1;refine Aa (AV (show Be (.ref n) μ3=some ((n,l),μ3) from by unfold Be;dsimp only;rw[e2]) ?_);refine⟨_,_,?_,q⟩;rw[e3];dsimp only;rw[if_pos (by rw[sizeLine_eq];omega)]
end
end Mi
local macro_rules | `(tactic| wtm_at "e")=>`(tactic| (decide +kernel))
local macro_rules | `(tactic| wtm_at "f")=>`(tactic| first|omega|(focus (simp;done)))
local macro_rules | `(tactic| wtm_at "o")=>`(tactic| first
 |((with_reducible apply Mi.Dp);(wtm_at "e");(wtm_at "e");(wtm_at "e"))|((with_reducible apply Mi.UI);(wtm_at "e");(wtm_at "e");(wtm_at "e"))|((with_reducible apply Mi.T7);(wtm_at "e");(wtm_at "e");(wtm_at "e"))|((with_reducible apply Mi.T8);(wtm_at "e");(wtm_at "e");(wtm_at "e"))
 |((with_reducible apply Mi.GF);(wtm_at "f"))|((with_reducible apply Mi.GG);(wtm_at "f"))|((with_reducible apply Mi.Q6);(wtm_at "f"))|((with_reducible apply Mi.Q7);(wtm_at "f"))|((with_reducible apply Mi.UA);(wtm_at "f"))|((with_reducible apply Mi.UB);(wtm_at "f"))|((with_reducible apply Mi.UE);(wtm_at "f"))|((with_reducible apply Mi.UF);(wtm_at "f"))|((with_reducible apply Mi.UG);(wtm_at "f"))|((with_reducible apply Mi.UH);(wtm_at "f"))|((with_reducible apply Mi.wqa_leT);(wtm_at "f"))
 |(with_reducible apply Mi.RC)|(with_reducible apply Mi.RB)|(with_reducible apply Mi.UD)|(with_reducible apply Mi.UC)|(with_reducible apply Mi.RF)|(with_reducible apply Mi.RH)|(with_reducible apply Mi.T6)|(with_reducible apply Mi.OR)|(with_reducible apply Mi.T9)|(with_reducible apply Mi.Q8)|(with_reducible apply Mi.Q9)|(with_reducible apply Mi.RD)|(with_reducible apply Mi.Pi)|(with_reducible apply Mi.Pj)|(with_reducible apply Mi.T5)|(with_reducible apply Mi.Q4)|(with_reducible apply Mi.Q5)|(with_reducible apply Mi.wqa_chain)
 |wtm_at "l")
local macro_rules | `(tactic| wtm_at "a")=>`(tactic| repeat wtm_at "o")
namespace Kst
open PySem L2 Mi
open K21 (Ex BH)
abbrev Am(E:List (Str×Int)):List (Key×D):=E.map λp=>(.inr p.1,.int p.2)
noncomputable def look(E:List (Str×Int))(x:Str):Option Int:=(E.find? λp=>decide (p.1=x)).map (·.2)
theorem val_env:∀{E:List (Str×Int)},GM (Am E) (.inr x)=(look E x).map D.int
 |[]=>rfl
 |(y,i)::E=>by
  have ih:=val_env (x:=x) (E:=E);unfold GM look at ih ⊢;show Option.map _ (List.find? _ (((.inr y:Key),D.int i)::Am E))=_;rw[List.find?_cons,List.find?_cons];by_cases e:y=x
  ·subst e;simp
  ·have e1:decide ((Sum.inr y:Key)=.inr x)=false:=AAO λz=>e (Sum.inr.inj z);have e2:decide (y=x)=false:=AAO e;dsimp only;rw[e1,e2];exact ih
noncomputable def one(b:Bool):Int:=if b then 1 else 0
noncomputable def pairN(w:Str)(a b:Int):Int:=
 if w = "+" then min (a+b) 9 else if w = "-" then max (a-b) 0 else if w = "=" then one (a==b) else if w = "<" then one (decide (a<b)) else if w = "and" then one (a != 0&&b != 0) else one (a != 0||b != 0)
noncomputable def A7(E:List (Str×Int)):Ex->Int
 | .num n=>n
 | .var x=>(look E x).getD 0
 | .neg e=>one (A7 E e==0)
 | .bin w a b=>pairN w (A7 E a) (A7 E b)
noncomputable def Ek(ns:List Str):Nat->Ex->Prop
 |_,.num _=>True
 |_,.var x=>x∈ns
 |0,.neg _=>False
 |d+1,.neg e=>Ek ns d e
 |0,.bin _ _ _=>False
 |d+1,.bin w a b=>w∈BH/\Ek ns d a/\Ek ns d b
section
variable{μ:Mh}{QD:D->Mh->Prop}{E:List (Str×Int)}{k:Nat}
theorem Ea(q:QD (.int (one b)) μ):WP (f_one_where [.bl b]) μ QD:=by
 unfold f_one_where;refine An rfl ?_;unfold DH;cases b<;>(wtm_at "a";exact⟨_,_,rfl,q⟩)
theorem UU(hw:w∈BH)(q:QD (.int (pairN w a b)) μ):WP (f_number_of_pair [.str w,.int a,.int b]) μ QD:=by
 unfold f_number_of_pair;refine An rfl ?_;unfold Bq;have hw:w∈(["+", "-", "=", "<", "and", "or", "="]:List Str):=hw;simp only[AAJ,List.mem_nil_iff,or_false] at hw;rcases hw with rfl|rfl|rfl|rfl|rfl|rfl|rfl
 ·wtm_at "a";refine AV (a:=.int (if 9<a+b then 9 else a+b)) (μ':=μ) rfl ?_;wtm_at "a";exact⟨_,_,rfl,by rw[show (if 9<a+b then 9 else a+b)=min (a+b) 9 by omega];exact q⟩
 ·wtm_at "a";refine AV (a:=.int (if 0 > a-b then 0 else a-b)) (μ':=μ) rfl ?_;wtm_at "a";exact⟨_,_,rfl,by rw[show (if 0 > a-b then 0 else a-b)=max (a-b) 0 by omega];exact q⟩
 ·wtm_at "a";refine Ea ?_;wtm_at "a";exact⟨_,_,rfl,q⟩
 ·wtm_at "a";refine Ea ?_;wtm_at "a";exact⟨_,_,rfl,q⟩
 ·have q:QD (.int (one (a != 0&&b != 0))) μ:=q;by_cases h:a=0
  ·subst h;wtm_at "a";refine Ea ?_;wtm_at "a";exact⟨_,_,rfl,q⟩
  ·have q:QD (.int (one (b != 0))) μ:=by rw[show (a != 0&&b != 0)=(b != 0) by simp[h]] at q;exact q
   wtm_at "a";refine Ea ?_;wtm_at "a";exact⟨_,_,rfl,q⟩
 ·have q:QD (.int (one (a != 0||b != 0))) μ:=q;by_cases h:a=0
  ·subst h;have q:QD (.int (one (b != 0))) μ:=q;wtm_at "a";refine Ea ?_;wtm_at "a";exact⟨_,_,rfl,q⟩
  ·have q:QD (.int (one true)) μ:=by rw[show (a != 0||b != 0)=true by simp[h]] at q;exact q
   wtm_at "a";refine Ea ?_;wtm_at "a";exact⟨_,_,rfl,q⟩
 ·wtm_at "a";refine Ea ?_;wtm_at "a";exact⟨_,_,rfl,q⟩
theorem str_w(hw:w∈BH):PyData.strOk w=true/\(w == "num")=false/\(w == "var")=false/\(w == "not")=false:=(show ∀w∈BH,PyData.strOk w=true/\(w == "num")=false/\(w == "var")=false/\(w == "not")=false by decide +kernel) w hw
def Has(ns:List Str)(E:List (Str×Int)):Prop:=∀x∈ns,(look E x).isSome=true
theorem wq_num(hE:Has ns E):∀(n:Nat) {e:Ex} {d:Nat} {QD:D->Mh->Prop},d<n->Ek ns d e->μ[k]?=some (.dK (Am E))->QD (.int (A7 E e)) μ->WP (f_number_of n [e.toD,.ref k]) μ QD
 |0,_,_,_,h,_,_,_=>absurd h (by omega)
 |n+1,.num i,d,QD,_,_,_,q=>by
  unfold f_number_of;refine An rfl ?_;unfold m_number_of Ex.toD;wtm_at "a";exact⟨_,_,rfl,q⟩
 |n+1,.var x,d,QD,_,hx,hm,q=>by
  have hx:(look E x).isSome=true:=hE x (by unfold Ek at hx;exact hx);obtain⟨i,hi⟩:=Option.isSome_iff_exists.mp hx;unfold f_number_of;refine An rfl ?_;unfold m_number_of Ex.toD;wtm_at "a";refine Az hm rfl (by rw[val_env,hi];rfl) ?_;wtm_at "a";refine⟨_,_,rfl,?_⟩;unfold A7 at q;rw[hi] at q;exact q
 |n+1,.neg e,0,QD,_,hx,_,q=>by unfold Ek at hx;exact hx.elim
 |n+1,.neg e,d+1,QD,hd,hx,hm,q=>by
  unfold Ek at hx;unfold f_number_of;refine An rfl ?_;unfold m_number_of Ex.toD;wtm_at "a";refine wq_num hE n (Nat.lt_of_succ_lt_succ hd) hx hm ?_;wtm_at "a";refine Ea ?_;wtm_at "a";exact⟨_,_,rfl,q⟩
 |n+1,.bin w a b,0,QD,_,hx,_,q=>by unfold Ek at hx;exact hx.elim
 |n+1,.bin w a b,d+1,QD,hd,hx,hm,q=>by
  unfold Ek at hx;obtain⟨hw,ha,hb⟩:=hx;obtain⟨w1,w2,w3,w4⟩:=str_w hw;unfold f_number_of;refine An rfl ?_;unfold m_number_of Ex.toD;wtm_at "a";refine Dp w1 (by decide +kernel) w2 ?_;wtm_at "a";refine Dp w1 (by decide +kernel) w3 ?_;wtm_at "a";refine wq_num hE n (Nat.lt_of_succ_lt_succ hd) ha hm ?_;wtm_at "a";refine Dp w1 (by decide +kernel) w4 ?_;wtm_at "a";refine wq_num hE n (Nat.lt_of_succ_lt_succ hd) hb hm ?_;wtm_at "a";refine UU hw ?_;wtm_at "a";exact⟨_,_,rfl,q⟩
end
end Kst
namespace Kst
open PySem L2 Mi
open K21 (Ex Rw BH)
noncomputable def CZ(E:List (Str×Int))(x:Str)(v:Int):List (Str×Int):=E.map λp=>if p.1=x then (p.1,v) else p
theorem put_env(h:(look E x).isSome=true):C3 (Am E) (.inr x) (.int v)=Am (CZ E x v):=by
 have e1:((Am E).any λkv=>decide (kv.1=.inr x))=true:=by
  unfold look at h;rw[Option.isSome_map] at h;obtain⟨p,hp⟩:=Option.isSome_iff_exists.mp h;have m:=List.mem_of_find?_eq_some hp;have q:=List.find?_some hp;rw[List.any_map,List.any_eq_true];have e0:p.1=x:=by simpa using q
  exact⟨p,m,by simp[e0]⟩
 unfold C3;rw[if_pos e1];unfold CZ Am;rw[List.map_map,List.map_map];refine List.map_congr_left λp _=>?_;show (if (Sum.inr p.1:Key)=.inr x then ((.inr p.1:Key),D.int v) else (.inr p.1,.int p.2))=_;by_cases e:p.1=x
 ·rw[if_pos (by rw[e])];show _=((.inr (if p.1=x then (p.1,v) else p).1:Key),D.int (if p.1=x then (p.1,v) else p).2);rw[if_pos e]
 ·rw[if_neg (λz=>e (Sum.inr.inj z))];show _=((.inr (if p.1=x then (p.1,v) else p).1:Key),D.int (if p.1=x then (p.1,v) else p).2);rw[if_neg e]
theorem TR:(CZ E x v).map (·.1)=E.map (·.1):=by
 unfold CZ;rw[List.map_map];refine List.map_congr_left λp _=>?_;show (if p.1=x then (p.1,v) else p).1=p.1;split<;>rfl
theorem G6:∀{E:List (Str×Int)},(look E x).isSome=true↔x∈E.map (·.1)
 |[]=>by simp[look]
 |(y,i)::E=>by
  have ih:=G6 (x:=x) (E:=E);unfold look at ih ⊢;rw[List.find?_cons,AAX,AAJ];by_cases e:y=x
  ·subst e;simp
  ·rw[AAO e];dsimp only;rw[ih];constructor
   ·exact .inr
   ·rintro(z|z)
    ·exact absurd z.symm e
    ·exact z
noncomputable def BQ(r:Rw)(a:Int)(E:List (Str×Int)):Int×List (Str×Int):=match r with
 | .jump t=>(t,E)
 | .unl e t=>if A7 E e=0 then (t,E) else (a+1,E)
 | .lett x e=>(a+1,CZ E x (A7 E e))
 |_=>(a+1,E)
noncomputable def isU:Rw->Bool
 | .jump _=>true
 | .unl _ _=>true
 | .lett _ _=>true
 |_=>false
def Rk(ns:List Str)(r:Rw):Prop:=match r with
 | .put _ e=>Ek ns 5 e
 | .get x _=>x∈ns
 | .lett x e=>x∈ns/\Ek ns 5 e
 | .unl e _=>Ek ns 5 e
 | .tell e=>Ek ns 5 e
 |_=>True
section
variable{μ gs:Mh}{QD:D->Mh->Prop}{E:List (Str×Int)}{ns:List Str}
theorem E9(gs:Mh):(μ++o::gs)[μ.length]?=some o:=by simp
theorem OU(hE:Has ns E)(hl:E.length<1000)(hr:Rk ns r)(hu:isU r=true)(q:QD (.int (BQ r a E).1) (μ++.dK (Am (BQ r a E).2)::gs)):WP (f_row_behind [r.toD,.int a,.ref μ.length]) (μ++.dK (Am E)::gs) QD:=by
 unfold f_row_behind;refine An rfl ?_;unfold Cv;cases r with
 |jump t=>
  unfold Rw.toD;wtm_at "a";exact⟨_,_,rfl,q⟩
 |unl e t=>
  unfold Rk at hr;unfold Rw.toD;wtm_at "a";refine wq_num hE 6 (by omega) hr (E9 _) ?_;wtm_at "a";by_cases h:A7 E e=0
  ·have q:QD (.int t) (μ++.dK (Am E)::gs):=by rw[show BQ (.unl e t) a E=(t,E) from if_pos h] at q;exact q
   rw[beq_iff_eq.mpr h];wtm_at "a";exact⟨_,_,rfl,q⟩
  ·have q:QD (.int (a+1)) (μ++.dK (Am E)::gs):=by rw[show BQ (.unl e t) a E=(a+1,E) from if_neg h] at q;exact q
   rw[AAg.mpr h];wtm_at "a";exact⟨_,_,rfl,q⟩
 |lett x e=>
  obtain⟨hx,he⟩:=(show x∈ns/\Ek ns 5 e from hr);unfold Rw.toD;wtm_at "a";refine EZ ?_;wtm_at "a";refine wq_num hE 6 (by omega) he (E9 _) ?_;wtm_at "a";refine⟨μ.length,_,.inr x,rfl,E9 _,rfl,by rw[AAG];exact hl,?_⟩;rw[put_env (hE x hx),AAh _ _ (AAF _),AA1,List.set_cons_zero];wtm_at "a";exact⟨_,_,rfl,q⟩
 |_=>cases hu
theorem M0:∀{E F L R:List (Str×Int)},F.map (·.1)=E.map (·.1)->L=R++F->(L.map (·.1)).Nodup->Jt (Am L) (Am E)=some (decide (E=F))
 |[],F,L,R,hk,_,_=>by
  cases F with
  |nil=>rfl
  |cons _ _=>cases hk
 |(x,i)::E,[],L,R,hk,_,_=>by cases hk
 |(x,i)::E,(y,j)::F,L,R,hk,hL,nd=>by
  rw[AAX,AAX] at hk;obtain⟨e1,e2⟩:=List.cons.inj hk;have e1:y=x:=e1;subst e1;have ih:=M0 (E:=E) (F:=F) (L:=L) (R:=R++[(y,j)]) e2 (by rw[hL];simp) nd;have hv:look L y=some j:=by
   rw[hL] at nd ⊢;rw[AAY,AAX] at nd;have ny:y∉R.map (·.1):=λz=>(List.nodup_append.mp nd).2.2 y z y (AAQ) rfl;unfold look;rw[List.find?_append,List.find?_cons,AAP rfl];have:R.find? (λp=>decide (p.1=y))=none:=by
    rw[List.find?_eq_none];intro p hp z;exact ny (AAM.mpr ⟨p,hp,by simpa using z⟩)
   rw[this];rfl
  show (match GM (Am L) (.inr y) with|none=>some false|some d'=>if Kz (.int i)=true/\Kz d'=true/\DP (.int i)<=8 then (Jt (Am L) (Am E)).map λb=>decide (D.int i=d')&&b else none)=_;rw[val_env,hv];show (if Kz (.int i)=true/\Kz (.int j)=true/\DP (.int i)<=8 then (Jt (Am L) (Am E)).map λb=>decide (D.int i=.int j)&&b else none)=_;rw[if_pos ⟨rfl,rfl,by show 0<=8;omega⟩,ih];show some (decide (D.int i=.int j)&&decide (E=F))=_;congr 1;rw[Bool.eq_iff_iff];simp
theorem W7(h1:μ[n]?=some (.dK (Am E)))(h2:μ[m]?=some (.dK (Am F)))(hk:F.map (·.1)=E.map (·.1))(nd:(F.map (·.1)).Nodup)(q:QD (.bl (decide (E=F))) μ):WP (Qi (.ref n) (.ref m)) μ QD:=by
 refine AV (a:=.bl (decide (E=F))) (μ':=μ) ?_ q;unfold Qi;rw[A8 (show Be (.ref n) μ=some ((n,Am E),μ) from by unfold Be;dsimp only;rw[h1]),A8 (show Be (.ref m) μ=some ((m,Am F),μ) from by unfold Be;dsimp only;rw[h2])];show (if (Am E).length=(Am F).length then (Jt (Am F) (Am E)).map λz=>(D.bl z,μ) else some (.bl false,μ))=_;rw[if_pos (by have:=congrArg List.length hk;simpa using this.symm),M0 (L:=F) (R:=[]) hk rfl nd];rfl
end
noncomputable def B0(rs:List Rw):Nat->Int->List (Str×Int)->Option (Int×List (Str×Int))->Int->Int->Option (Option Int×List (Str×Int))
 |0,_,_,_,_,_=>none
 |f+1,a,E,kp,sp,lf=>match rs[a.toNat]? with
  |none=>some (some a,E)
  |some r=>match isU r with
   |false=>some (some a,E)
   |true=>if kp=some (a,E) then some (none,E) else
    if lf-1=0 then B0 rs f (BQ r a E).1 (BQ r a E).2 (some (a,E)) (2 * sp) (2 * sp)
    else B0 rs f (BQ r a E).1 (BQ r a E).2 kp sp (lf-1)
structure Rows(ns:List Str)(rs:List Rw):Prop where
 rk:∀r∈rs,Rk ns r
 tu:∀e t,Rw.unl e t∈rs->0<=t/\t<=rs.length
 tj:∀t,Rw.jump t∈rs->0<=t/\t<=rs.length
 few:rs.length<=1000
noncomputable def Kp(n:Nat)(gs:Mh)(E:List (Str×Int)):Option (Int×List (Str×Int))->D->D->Prop
 |none,s3,s4=>s3=.non/\s4=.non
 |some (a,F),s3,s4=>s3=.int a/\F.map (·.1)=E.map (·.1)/\∃j,s4=.ref (n+1+j)/\gs[j]?=some (.dK (Am F))
section
variable{E:List (Str×Int)}{ns:List Str}{rs:List Rw}
theorem row_in(h:Rows ns rs){r:Rw}{a:Int}(hr:r∈rs)(ha:0<=a/\a<rs.length):0<=(BQ r a E).1/\(BQ r a E).1<=rs.length:=by
 cases r with
 |jump t=>exact h.tj t hr
 |unl e t=>
  unfold BQ;dsimp only;split
  ·exact h.tu e t hr
  ·constructor
   ·show 0<=a+1;omega
   ·show a+1<=_;omega
 |_=>constructor<;>(unfold BQ;dsimp only;omega)
theorem row_keys:(BQ r a E).2.map (·.1)=E.map (·.1):=by
 cases r with
 |unl e t=>unfold BQ;dsimp only;split<;>rfl
 |lett x e=>exact TR
 |_=>rfl
theorem Oo(h:Has ns E):Has ns (BQ r a E).2:=λx hx=>by
 rw[G6,row_keys,←G6];exact h x hx
noncomputable abbrev whC:Sl->M Bool:=(GX (AS (mOp El (AC 1) (AH FO (AD (AC 0) AJ)))) (AS (mOp (Hl false) (mOp AN (mOp AN (AC 0) (AC 1)) (mC (.int 0))) (mC Ce))))
noncomputable def whR:Sl->M (Fl×Sl):=(AQ (Ab (mOp LF (AC 6) (mC (.int 1))) (AM 6))
  (AQ (sIf (AS (mOp Ai (AC 6) (mC (.int 0)))) (AQ (Ab (AC 1) (AM 3))
  (AQ (Ab (AH JO (AD (AC 2) AJ)) (AM 4))
  (AQ (Ab (mOp EJ (mC (.int 2)) (AC 5)) (AM 5))
  (Ab (AC 5) (AM 6))))) Ak)
  (Ab (AH f_row_behind (AD (mOp AN (AC 0) (AC 1)) (AD (AC 1) (AD (AC 2) AJ)))) (AM 1))))
noncomputable abbrev whB:Sl->M (Fl×Sl):=(AQ (sIf (GX (AS (mOp Ai (AC 1) (AC 3))) (AS (mOp Qi (AC 2) (AC 4)))) (Ae (mC .non)) Ak) whR)
theorem Qg:D7 f_row_behind=(AQ (Ab (mC .non) (AM 3)) (AQ (Ab (mC .non) (AM 4)) (AQ (Ab (mC (.int 1)) (AM 5)) (AQ (Ab (mC (.int 1)) (AM 6)) (AQ (Ei fuel whC whB) (Ae (AC 1))))))):=rfl
theorem ix_row(ha:0<=a)(h:rs[a.toNat]?=some r):atI (rs.map Rw.toD) a=some r.toD:=by
 obtain⟨n,rfl⟩:=Int.eq_ofNat_of_zero_le ha;have h:rs[n]?=some r:=h;exact Pb (j:=n) (by rw[AAW,h];rfl)
end
section
variable{μ gs:Mh}{QD:D->Mh->Prop}{QS:Fl×Sl->Mh->Prop}{E E':List (Str×Int)}{ns:List Str}{rs:List Rw}
abbrev fs(rs:List Rw)(n:Nat)(a:Int)(s3 s4:D)(sp lf:Int):Sl:=[some (.tup (rs.map Rw.toD)),some (.int a),some (.ref n),some s3,some s4,some (.int sp),some (.int lf)]
theorem Wm{a sp lf:Int}{s3 s4:D}(ha:0<=a/\a<=rs.length)(q:QB (match rs[a.toNat]? with|none=>false|some r=>isU r) μ):WP (whC (fs rs n a s3 s4 sp lf)) μ QB:=by
 wtm_at "a";rw[AAG];cases e:rs[a.toNat]? with
 |none=>
  rw[e] at q;have:=List.getElem?_eq_none_iff.mp e;rw[AAO (show ¬a<(rs.length:Int) by omega)];wtm_at "a";exact q
 |some r=>
  rw[e] at q;have:=(AAU.mp e).1;rw[AAP (show a<(rs.length:Int) by omega)];wtm_at "a";refine Eb (ix_row ha.1 e) ?_;have q:QB (isU r) μ:=q;cases r<;>(unfold Rw.toD;wtm_at "a";exact⟨_,_,rfl,_,rfl,q⟩)
theorem Wn{a sp lf:Int}{s3 s4:D}(h:Rows ns rs)(hE:Has ns E)(hl:E.length<1000)(nd:(E.map (·.1)).Nodup)(ha:0<=a/\a<=rs.length)(e:rs[a.toNat]?=some r)(hu:isU r=true)(hk:Kp μ.length gs E kp s3 s4)
  (q1:kp=some (a,E)->QS (.rt .non,fs rs μ.length a s3 s4 sp lf) (μ++.dK (Am E)::gs))
  (q2:kp≠some (a,E)->lf-1=0->QS (.next,fs rs μ.length (BQ r a E).1 (.int a) (.ref (μ.length+1+gs.length)) (2 * sp) (2 * sp)) (μ++.dK (Am (BQ r a E).2)::(gs++[.dK (Am E)])))
  (q3:kp≠some (a,E)->lf-1≠0->QS (.next,fs rs μ.length (BQ r a E).1 s3 s4 sp (lf-1)) (μ++.dK (Am (BQ r a E).2)::gs)) :
  WP (whB (fs rs μ.length a s3 s4 sp lf)) (μ++.dK (Am E)::gs) QS:=by
 have hr:r∈rs:=AAV e;have go:kp≠some (a,E)->WP (whR (fs rs μ.length a s3 s4 sp lf)) (μ++.dK (Am E)::gs) QS:=λhne=>by
  unfold whR;wtm_at "a";refine AV (a:=.int (lf-1)) (μ':=_) rfl ?_;by_cases hz:lf-1=0
  ·wtm_at "a";refine AV (a:=.ref (μ.length+1+gs.length)) (μ':=μ++.dK (Am E)::(gs++[.dK (Am E)])) ?_ ?_
   ·show bnd (Be (.ref μ.length)) (λr μ=>some (D.ref (List.length μ),μ++[MO.dK r.2])) (μ++.dK (Am E)::gs)=_;rw[A8 (show Be (.ref μ.length) (μ++.dK (Am E)::gs)=some ((μ.length,Am E),μ++.dK (Am E)::gs) from by unfold Be;dsimp only;rw[E9])];show some (D.ref (μ++MO.dK (Am E)::gs).length,(μ++MO.dK (Am E)::gs)++[MO.dK (Am E)])=_;rw[AAH,AAI,List.append_assoc,List.cons_append,show μ.length+(gs.length+1)=μ.length+1+gs.length by omega]
   wtm_at "a";refine IL (.inl (by decide)) ?_;wtm_at "a";refine Eb (ix_row ha.1 e) ?_;wtm_at "a";refine OU hE hl (h.rk r hr) hu ?_;wtm_at "a";exact q2 hne hz
  ·wtm_at "a";refine Eb (ix_row ha.1 e) ?_;wtm_at "a";refine OU hE hl (h.rk r hr) hu ?_;wtm_at "a";exact q3 hne hz
 cases kp with
 |none=>
  obtain⟨rfl,rfl⟩:=hk;have go:=go (by intro z;cases z);wtm_at "a";refine AV (a:=.bl false) (μ':=_) rfl ?_;wtm_at "a";exact go
 |some p=>
  obtain⟨b,F⟩:=p;obtain⟨rfl,hF,j,rfl,hj⟩:=hk;have hj':(μ++MO.dK (Am E)::gs)[μ.length+1+j]?=some (.dK (Am F)):=by
   rw[AAS (by omega),show μ.length+1+j-μ.length=j+1 by omega,List.getElem?_cons_succ];exact hj
  by_cases hb:a=b
  ·subst hb;wtm_at "a";refine W7 (E9 _) hj' hF (by rw[hF];exact nd) ?_;by_cases hf:E=F
   ·subst hf;rw[AAP rfl];wtm_at "a";exact q1 rfl
   ·rw[AAO hf];wtm_at "a";exact go (by intro z;cases z;exact hf rfl)
  ·have go:=go (by intro z;cases z;exact hb rfl);wtm_at "a";exact go
theorem NN(h:Rows ns rs){res:Option Int}:∀(f:Nat) {a:Int} {E:List (Str×Int)} {kp:Option (Int×List (Str×Int))} {sp lf:Int} {gs:Mh} {s3 s4:D},Has ns E->E.length<1000->(E.map (·.1)).Nodup->0<=a/\a<=rs.length->Kp μ.length gs E kp s3 s4->B0 rs f a E kp sp lf=some (res,E')->
  (∀(τ:Sl) (gs':Mh),res=none->QS (.rt .non,τ) (μ++.dK (Am E')::gs'))->(∀(a':Int) (s3 s4:D) (sp lf:Int) (gs':Mh),res=some a'->E'.map (·.1)=E.map (·.1)->0<=a'/\a'<=rs.length->QS (.next,fs rs μ.length a' s3 s4 sp lf) (μ++.dK (Am E')::gs'))->
  WP (IQ whC whB f (fs rs μ.length a s3 s4 sp lf)) (μ++.dK (Am E)::gs) QS
 |0,_,_,_,_,_,_,_,_,_,_,_,_,_,hf,_,_=>by cases hf
 |f+1,a,E,kp,sp,lf,gs,s3,s4,hE,hl,nd,ha,hk,hf,q1,q2=>by
  unfold B0 at hf;unfold IQ;refine Aa (Wm ha ?_);cases e:rs[a.toNat]? with
  |none=>
   rw[e] at hf;cases hf;rw[if_neg (by decide)];exact A2 (q2 a s3 s4 sp lf gs rfl rfl ha)
  |some r=>
   rw[e] at hf;dsimp only at hf ⊢;by_cases hu:isU r=true
   case neg=>
    rw[Bool.eq_false_iff.mpr hu] at hf;cases hf;rw[if_neg hu];exact A2 (q2 a s3 s4 sp lf gs rfl rfl ha)
   case pos=>
    rw[hu] at hf;dsimp only at hf;rw[if_pos hu];have hlt:a<rs.length:=by
     have:=(AAU.mp e).1;omega
    have hr:r∈rs:=AAV e;have hl2:(BQ r a E).2.length<1000:=by
     have:=congrArg List.length (row_keys (r:=r) (a:=a) (E:=E));rw[AAG,AAG] at this;omega
    have nd2:((BQ r a E).2.map (·.1)).Nodup:=by rw[row_keys];exact nd
    refine Aa (Wn h hE hl nd ha e hu hk (λhz=>?_) (λhz h0=>?_) (λhz h0=>?_))
    ·rw[if_pos hz] at hf;cases hf;exact A2 (q1 _ gs rfl)
    ·rw[if_neg hz,if_pos h0] at hf;refine NN (kp:=some (a,E)) h f (Oo hE) hl2 nd2 (row_in h hr ⟨ha.1,hlt⟩) ⟨rfl,row_keys.symm,gs.length,rfl,by simp⟩ hf q1 λa' s3 s4 sp lf gs' hr hk=>q2 a' s3 s4 sp lf gs' hr (hk.trans row_keys)
    ·rw[if_neg hz,if_neg h0] at hf;refine NN h f (Oo hE) hl2 nd2 (row_in h hr ⟨ha.1,hlt⟩) ?_ hf q1 λa' s3 s4 sp lf gs' hr hk=>q2 a' s3 s4 sp lf gs' hr (hk.trans row_keys);cases kp with
     |none=>exact hk
     |some p=>obtain⟨k1,k2,k3⟩:=hk;exact⟨k1,k2.trans row_keys.symm,k3⟩
noncomputable def fol(rs:List Rw)(a:Int)(E:List (Str×Int)):Option (Option Int×List (Str×Int)):=B0 rs fuel a E none 1 1
theorem wq_followed(h:Rows ns rs){res:Option Int}{a:Int}(hE:Has ns E)(hl:E.length<1000)(nd:(E.map (·.1)).Nodup)(ha:0<=a/\a<=rs.length)(hf:fol rs a E=some (res,E'))
  (q1:∀gs':Mh,res=none->QD .non (μ++.dK (Am E')::gs')) (q2:∀(a':Int) (gs':Mh),res=some a'->E'.map (·.1)=E.map (·.1)->0<=a'/\a'<=rs.length->QD (.int a') (μ++.dK (Am E')::gs')):WP (f_followed [.tup (rs.map Rw.toD),.int a,.ref μ.length]) (μ++[.dK (Am E)]) QD:=by
 unfold f_followed;refine An rfl ?_;rw[Qg];wtm_at "a";unfold Ei;refine NN (μ:=μ) (gs:=[]) (kp:=none) h fuel hE hl nd ha ⟨rfl,rfl⟩ hf (λτ gs' hr=>?_) (λa' s3 s4 sp lf gs' hr hk hb=>?_)
 ·wtm_at "a";exact⟨_,_,rfl,q1 gs' hr⟩
 ·wtm_at "a";exact⟨_,_,rfl,q2 a' gs' hr hk hb⟩
end
theorem Iw:∀(n:Nat) (l:List Nat),l.Nodup->(∀x∈l,x<n)->l.length<=n
 |0,[],_,_=>AAF 0
 |0,x::l,_,h=>absurd (h x AAQ) (Nat.not_lt_zero x)
 |n+1,l,nd,h=>by
  by_cases hn:n∈l
  ·have h1:=Iw n (l.erase n) (nd.erase n) λx hx=>by
    have:=(List.Nodup.mem_erase_iff nd).mp hx;have:=h x this.2;omega
   rw[List.length_erase_of_mem hn] at h1;omega
  ·have h1:=Iw n l nd λx hx=>by
    have h2:=h x hx;rcases Nat.lt_or_ge x n with z|z
    ·exact z
    ·exact absurd hx (by rw[show x=n by omega];exact hn)
   omega
section
variable{σ:Type}{f:σ->σ}{stop:σ->Bool}{s:σ}
noncomputable def it(f:σ->σ):Nat->σ->σ
 |0,s=>s
 |n+1,s=>it f n (f s)
theorem HA:∀(n m:Nat) (s:σ),it f (n+m) s=it f m (it f n s)
 |0,m,s=>by rw[Nat.zero_add];rfl
 |n+1,m,s=>by rw[Nat.add_right_comm];exact HA n m (f s)
theorem it_succ(n:Nat)(s:σ):it f (n+1) s=f (it f n s):=HA n 1 s
theorem Nj(hn:stop (it f n s)=true)(hl:∀i,i<n->stop (it f i s)=false)(h:i<j)(hj:j<=n):it f i s≠it f j s:=λe=>by
 have h1:it f (i+(n-j)) s=it f n s:=by rw[HA,e,←HA,show j+(n-j)=n by omega]
 have h2:=hl (i+(n-j)) (by omega);rw[h1,hn] at h2;cases h2
theorem WH{c:σ->Nat}{V:σ->Prop}(inj:∀a b,V a->V b->c a=c b->a=b)(hv:∀i,i<=900->V (it f i s))(hc:∀a,V a->c a<900):∃i d,0<d/\i+d<=900/\it f (i+d) s=it f i s:=by
 refine Classical.byContradiction λno=>?_;have nd:((List.range 901).map λk=>c (it f k s)).Nodup:=by
  rw[List.nodup_iff_pairwise_ne,List.pairwise_map];refine List.Pairwise.imp_of_mem (λ{a b} ha hb hab=>?_) (List.pairwise_lt_range);intro e;rw[List.mem_range] at ha hb;have:=inj _ _ (hv a (by omega)) (hv b (by omega)) e;exact no ⟨a,b-a,by omega,by omega,by rw[show a+(b-a)=b by omega];exact this.symm⟩
 have:=Iw 900 _ nd λx hx=>by
  obtain⟨k,hk,rfl⟩:=AAM.mp hx;rw[List.mem_range] at hk;exact hc _ (hv k (by omega))
 rw[AAG,List.length_range] at this;omega
theorem Zd(h:it f (i+d) s=it f i s)(hq:i<=q):it f (q+d) s=it f q s:=by
 rw[show q+d=(i+d)+(q-i) by omega,HA,h,←HA,show i+(q-i)=q by omega]
end
section
variable{σ:Type}[DecidableEq σ]
noncomputable def brt(f:σ->σ)(stop:σ->Bool):Nat->σ->Option σ->Int->Int->Option (Bool×σ)
 |0,_,_,_,_=>none
 |n+1,s,kp,sp,lf=>if stop s=true then some (true,s) else if kp=some s then some (false,s) else if lf-1=0 then brt f stop n (f s) (some s) (2 * sp) (2 * sp) else brt f stop n (f s) kp sp (lf-1)
noncomputable def lrn(f:σ->σ)(stop:σ->Bool):Nat->List σ->σ->Option (Option σ)
 |0,_,_=>none
 |n+1,been,s=>if stop s=true then some (some s) else if s∈been then some none else lrn f stop n (been++[s]) (f s)
variable{f:σ->σ}{stop:σ->Bool}{s:σ}
theorem LY(hn:stop (it f n s)=true)(hl:∀i,i<n->stop (it f i s)=false):∀(m k:Nat) {kp:Option σ} {sp lf:Int},n-k<m->k<=n->(kp=none∨∃p,p<k/\kp=some (it f p s))->brt f stop m (it f k s) kp sp lf=some (true,it f n s)
 |0,k,_,_,_,h,_,_=>absurd h (Nat.not_lt_zero _)
 |m+1,k,kp,sp,lf,h,hk,hp=>by
  unfold brt;by_cases e:k=n
  ·subst e;rw[if_pos hn]
  ·have lt:k<n:=by omega
   rw[if_neg (by rw[hl k lt];decide),if_neg (by
    rcases hp with rfl|⟨p,hp,rfl⟩
    ·intro z;cases z
    ·intro z;exact Nj hn hl hp hk (Option.some.inj z))]
   split
   ·rw[←it_succ (f:=f)];exact LY hn hl m (k+1) (by omega) lt (.inr ⟨k,by omega,rfl⟩)
   ·rw[←it_succ (f:=f)];exact LY hn hl m (k+1) (by omega) lt (hp.imp id λ⟨p,h1,h2⟩=>⟨p,by omega,h2⟩)
theorem O7(hn:stop (it f n s)=true)(hl:∀i,i<n->stop (it f i s)=false):∀(m k:Nat) {been:List σ},n-k<m->k<=n->(∀x∈been,∃p,p<k/\x=it f p s)->lrn f stop m been (it f k s)=some (some (it f n s))
 |0,k,_,h,_,_=>absurd h (Nat.not_lt_zero _)
 |m+1,k,been,h,hk,hp=>by
  unfold lrn;by_cases e:k=n
  ·subst e;rw[if_pos hn]
  ·have lt:k<n:=by omega
   rw[if_neg (by rw[hl k lt];decide),if_neg (λz=>by
    obtain⟨p,h1,h2⟩:=hp _ z;exact Nj hn hl h1 hk h2.symm),←it_succ (f:=f)]
   refine O7 hn hl m (k+1) (by omega) lt λx hx=>?_;rcases AAK.mp hx with z|z
   ·obtain⟨p,h1,h2⟩:=hp x z;exact⟨p,by omega,h2⟩
   ·exact⟨k,by omega,AAL.mp z⟩
theorem LX(hl:∀i,stop (it f i s)=false)(hd:0<d)(hi:i+d<=900)(hr:it f (i+d) s=it f i s):∀(m k p:Nat) {sp lf:Int},k+m=10000->sp=p+2->(k:Int)+lf=p+1+sp->1<=lf->p<k->p<=1802->(∀q,p<q->q<k->it f q s≠it f p s)->∃x,brt f stop m (it f k s) (some (it f p s)) sp lf=some (false,x)
 |0,k,p,sp,lf,h,h1,h2,h3,h4,h5,h6=>by omega
 |m+1,k,p,sp,lf,h,h1,h2,h3,h4,h5,h6=>by
  unfold brt;rw[if_neg (by rw[hl k];decide)];by_cases e:it f p s=it f k s
  ·rw[if_pos (by rw[e])];exact⟨_,rfl⟩
  ·rw[if_neg (λz=>e (Option.some.inj z)),←it_succ (f:=f)];split
   ·rename_i hz;have p9:p<=900:=by
     refine Classical.byContradiction λno=>?_;have hq:=Zd hr (q:=p) (by omega);exact h6 (p+d) (by omega) (by omega) hq
    exact LX hl hd hi hr m (k+1) k (by omega) (by omega) (by omega) (by omega) (by omega) (by omega) λq q1 q2=>by omega
   ·rename_i hz;refine LX hl hd hi hr m (k+1) p (by omega) h1 (by omega) (by omega) (by omega) h5 λq q1 q2=>?_;by_cases z:q=k
    ·subst z;exact λy=>e y.symm
    ·exact h6 q q1 (by omega)
theorem Qq(hl:∀i,stop (it f i s)=false)(hd:0<d)(hi:i+d<=900)(hr:it f (i+d) s=it f i s):∃x,brt f stop 10000 s none 1 1=some (false,x):=by
 show ∃x,brt f stop (9999+1) s none 1 1=some (false,x);unfold brt;rw[if_neg (by have:=hl 0;rw[show s=it f 0 s from rfl,this];decide),if_neg (by intro z;cases z),if_pos (by decide)];exact LX hl hd hi hr 9999 1 0 (by omega) (by omega) (by omega) (by omega) (by omega) (by omega) λq q1 q2=>by omega
theorem KP(hl:∀i,stop (it f i s)=false)(hd:0<d)(hi:i+d<=900)(hr:it f (i+d) s=it f i s):∀(m k:Nat) {been:List σ},k<=i+d->i+d-k<m->(∀p,p<k->it f p s∈been)->lrn f stop m been (it f k s)=some none
 |0,k,_,_,h,_=>absurd h (Nat.not_lt_zero _)
 |m+1,k,been,hk,h,hp=>by
  unfold lrn;rw[if_neg (by rw[hl k];decide)];by_cases e:it f k s∈been
  ·rw[if_pos e]
  ·rw[if_neg e,←it_succ (f:=f)];have ne:k≠i+d:=λz=>e (by rw[z,hr];exact hp i (by omega));refine KP hl hd hi hr m (k+1) (by omega) (by omega) λp h1=>?_;by_cases z:p=k
   ·subst z;simp
   ·exact AAd _ (hp p (by omega))
theorem both{c:σ->Nat}{V:σ->Prop}(inj:∀a b,V a->V b->c a=c b->a=b)(hc:∀a,V a->c a<900)(hv:∀n,(∀i,i<=n->stop (it f i s)=false)->V (it f n s)):
  (∃n,(∀i,i<n->stop (it f i s)=false)/\stop (it f n s)=true/\brt f stop 10000 s none 1 1=some (true,it f n s)/\lrn f stop 2000 [] s=some (some (it f n s)))∨(∃x,brt f stop 10000 s none 1 1=some (false,x))/\lrn f stop 2000 [] s=some none:=by
 by_cases h:∃n,stop (it f n s)=true
 ·obtain⟨n,hn,hl⟩:∃n,stop (it f n s)=true/\∀i,i<n->stop (it f i s)=false:=by
   obtain⟨n,hn⟩:=h
   induction n using Nat.strongRecOn with
   |ind n ih=>
    by_cases z:∃i,i<n/\stop (it f i s)=true
    ·obtain⟨i,h1,h2⟩:=z;exact ih i h1 h2
    ·exact⟨n,hn,λi hi=>Bool.eq_false_iff.mpr λy=>z ⟨i,hi,y⟩⟩
  have n9:n<=900:=by
   refine Classical.byContradiction λno=>?_;obtain⟨i,d,hd,hi,hr⟩:=WH (f:=f) (s:=s) inj (λi hi=>hv i λj hj=>hl j (by omega)) hc;exact Nj hn hl (show i<i+d by omega) (by omega) hr.symm
  exact .inl ⟨n,hl,hn,LY hn hl 10000 0 (by omega) (AAm _) (.inl rfl),O7 hn hl 2000 0 (by omega) (AAm _) (λx hx=>by cases hx)⟩
 ·have hl:∀i,stop (it f i s)=false:=λi=>Bool.eq_false_iff.mpr λy=>h ⟨i,y⟩;obtain⟨i,d,hd,hi,hr⟩:=WH (f:=f) (s:=s) inj (λi hi=>hv i λj hj=>hl j) hc;exact .inr ⟨Qq hl hd hi hr,KP hl hd hi hr 2000 0 (AAm _) (by omega) (λp hp=>absurd hp (Nat.not_lt_zero _))⟩
end
end Kst
namespace K21
open PySem L2 Mi Xt
section
variable{μ:Mh}{QD:D->Mh->Prop}
theorem IK(ok:∀r∈rs,r.Ok)(r4:rs.length<=12)(q:QD (.lst ((hv rs).map D.str)) μ):WP (Ap [.tup (rs.map Rw.toD)]) μ QD:=by
 unfold Ap;refine CC rfl ?_;unfold BX;wtm_at "b";refine Gu (I:=λrest τ μ'=>∃a b o2,a++b=rs/\rest=b.map Rw.toD/\μ'=μ++[.lst ((a.flatMap Rw.vars).map D.str)]/\τ=[some (.tup (rs.map Rw.toD)),some (.ref μ.length),o2]) ?_ ?_ ⟨[],rs,none,rfl,rfl,rfl,rfl⟩
 ·rintro y ys τ μ' ⟨a,b,o2,hab,hr,rfl,rfl⟩;cases b with
  |nil=>cases hr
  |cons r b=>
   rw[AAX] at hr;obtain⟨e3,e4⟩:=List.cons.inj hr;subst e3;have hm:r∈rs:=by rw[←hab];simp
   have la:=LB (rs:=a) λx hx=>ok x (by rw[←hab];simp[hx]);have al:a.length<=12:=by
    have:=congrArg List.length hab;simp at this;omega
   have lr:=SF (ok r hm);wtm_at "b";refine Ku rfl ?_;wtm_at "b";refine Wp (ok r hm) ?_;wtm_at "b";refine⟨_,rfl,rfl,by rw[AAG,AAG];omega,Aq ⟨a++[r],b,_,by rw[←hab];simp,e4,?_,rfl⟩⟩;rw[List.flatMap_append,AAY,List.flatMap_cons,List.flatMap_nil,AAb]
 ·rintro τ μ' ⟨a,b,o2,hab,hr,rfl,rfl⟩;cases b with
  |cons r b=>cases hr
  |nil=>
   rw[AAb] at hab;subst hab;have la:=LB ok;have nl:=Ow (a.flatMap Rw.vars);have si:∀x∈CF (a.flatMap Rw.vars),x∈BG:=λx hx=>by
    obtain⟨r,hr,hx2⟩:=List.mem_flatMap.mp ((GN _ x).mp hx);exact Y8 (ok r hr) x hx2
   have sl':(CF (a.flatMap Rw.vars)).length<=100:=by
    have:=L1 (a.flatMap Rw.vars);omega
   wtm_at "b";refine AV (a:=.lst ((CF (a.flatMap Rw.vars)).map D.str)) (μ':=μ++[.lst ((a.flatMap Rw.vars).map D.str)]) ?_ ?_
   ·unfold FG;rw[A8 (show By (.ref μ.length) (μ++[.lst ((a.flatMap Rw.vars).map D.str)])=some ((a.flatMap Rw.vars).map D.str,μ++[.lst ((a.flatMap Rw.vars).map D.str)]) from by unfold By;dsimp only;rw[AAS (AAF _),AA1];rfl),Lz];exact if_pos ⟨by omega,by omega⟩
   wtm_at "b";refine⟨by rw[AAG,sizeLine_eq];omega,?_⟩;refine Ed _ (λx=>!(x==("v" : Str))) D.str (λx hx=>?_) ?_
   ·wtm_at "b";refine⟨rfl,?_⟩;wtm_at "b";refine NP (by unfold Pz;exact ZV x (si x hx)) (by unfold Pz;exact aX) (by show 0<=64;omega) (by show 0<=64;omega) λe he=>?_;wtm_at "b";refine⟨?_,rfl,λ_=>?_⟩
    ·have:e=(x==("v" : Str)):=by
      rw[Bool.eq_iff_iff,he,beq_iff_eq];exact⟨λz=>by cases z;rfl,λz=>by rw[z]⟩
     rw[this]
    ·wtm_at "b";exact⟨rfl,rfl⟩
   ·have fl:=List.length_filter_le (λx=>!(x==("v" : Str))) (CF (a.flatMap Rw.vars));refine CB (by rw[AAG,sizeLine_eq];omega) ?_;wtm_at "b";exact⟨_,_,_,rfl,rfl,by unfold Cl;exact Hy _ _,q⟩
end
end K21
namespace K23
open PySem L2 Mi Xt
open K21 (Ex Rw BH BG hv Ec)
open Kst (A7 BQ isU Rows Has Ek Rk look CZ Am fol)
theorem PQ:∀n,f_number_of n=Kst.f_number_of n
 |0=>rfl
 |n+1=>by
  show Ax .all 4 2 (m_number_of (f_number_of n) f_one_where f_number_of_pair)=Ax .all 4 2 (Kst.m_number_of (Kst.f_number_of n) Kst.f_one_where Kst.f_number_of_pair);rw[PQ n];rfl
theorem Zk:f_row_behind=Kst.f_row_behind:=by
 unfold f_row_behind Kst.f_row_behind;rw[PQ];rfl
theorem Zl:f_followed=Kst.f_followed:=by
 unfold f_followed Kst.f_followed;rw[Zk];rfl
theorem Wh:Ap=K21.Ap:=rfl
noncomputable def Eo:Nat->Ex->Prop
 |_,.num n=>0<=n/\n<=9
 |_,.var x=>x∈(["x", "y"]:List Str)
 |0,.neg _=>False
 |d+1,.neg e=>Eo d e
 |0,.bin _ _ _=>False
 |d+1,.bin w a b=>w∈BH/\Eo d a/\Eo d b
theorem Eo.ok:∀(d:Nat) (e:Ex),Eo d e->e.Ok d
 |_,.num _,_=>by unfold Ex.Ok;trivial
 |_,.var x,h=>by
  unfold Eo at h;unfold Ex.Ok;simp only[AAJ,List.mem_nil_iff,or_false] at h;rcases h with rfl|rfl<;>decide +kernel
 |0,.neg _,h=>by unfold Eo at h;exact h.elim
 |d+1,.neg e,h=>by unfold Eo at h;unfold Ex.Ok;exact Eo.ok d e h
 |0,.bin _ _ _,h=>by unfold Eo at h;exact h.elim
 |d+1,.bin w a b,h=>by unfold Eo at h;unfold Ex.Ok;exact⟨h.1,Eo.ok d a h.2.1,Eo.ok d b h.2.2⟩
theorem Eo.ek:∀(d k:Nat) (e:Ex),d<=k->Eo d e->Ek ["x", "y"] k e
 |_,_,.num _,_,_=>by unfold Ek;trivial
 |_,_,.var x,_,h=>by unfold Eo at h;unfold Ek;exact h
 |0,_,.neg _,_,h=>by unfold Eo at h;exact h.elim
 |d+1,0,.neg _,hk,_=>absurd hk (by omega)
 |d+1,k+1,.neg e,hk,h=>by unfold Eo at h;unfold Ek;exact Eo.ek d k e (by omega) h
 |0,_,.bin _ _ _,_,h=>by unfold Eo at h;exact h.elim
 |d+1,0,.bin _ _ _,hk,_=>absurd hk (by omega)
 |d+1,k+1,.bin w a b,hk,h=>by unfold Eo at h;unfold Ek;exact⟨h.1,Eo.ek d k a (by omega) h.2.1,Eo.ek d k b (by omega) h.2.2⟩
theorem Eo.up:∀(d:Nat) (e:Ex),Eo d e->Eo (d+1) e
 |_,.num _,h=>by unfold Eo at h ⊢;exact h
 |_,.var x,h=>by unfold Eo at h ⊢;exact h
 |0,.neg _,h=>by unfold Eo at h;exact h.elim
 |d+1,.neg e,h=>by unfold Eo at h ⊢;exact Eo.up d e h
 |0,.bin _ _ _,h=>by unfold Eo at h;exact h.elim
 |d+1,.bin w a b,h=>by unfold Eo at h ⊢;exact⟨h.1,Eo.up d a h.2.1,Eo.up d b h.2.2⟩
abbrev en(x y:Int):List (Str×Int):=[("x",x),("y",y)]
abbrev R9(x:Int):Prop:=0<=x/\x<=9
theorem G5:look (en x y) "x" = some x:=rfl
theorem G4:look (en x y) "y" = some y:=by
 have h:decide ((("x" : Str),x).1=("y" : Str))=false:=AAO (show ¬("x" : Str) = "y" by decide +kernel);unfold look;rw[List.find?_cons,h];rfl
theorem IB(b:Bool):R9 (Kst.one b):=by cases b<;>(show 0<=_/\_<=9;decide)
theorem GU(hx:R9 x)(hy:R9 y):∀(d:Nat) (e:Ex),Eo d e->R9 (A7 (en x y) e)
 |_,.num n,h=>by unfold Eo at h;unfold A7;exact h
 |_,.var z,h=>by
  unfold Eo at h;unfold A7;simp only[AAJ,List.mem_nil_iff,or_false] at h;rcases h with rfl|rfl
  ·rw[G5];exact hx
  ·rw[G4];exact hy
 |0,.neg _,h=>by unfold Eo at h;exact h.elim
 |d+1,.neg e,h=>by unfold A7;exact IB _
 |0,.bin _ _ _,h=>by unfold Eo at h;exact h.elim
 |d+1,.bin w a b,h=>by
  unfold Eo at h;have ha:=GU hx hy d a h.2.1;have hb:=GU hx hy d b h.2.2;unfold A7 Kst.pairN;split
  ·show 0<=min _ _/\min _ _<=9;omega
  ·split
   ·show 0<=max _ _/\max _ _<=9;omega
   ·split
    ·exact IB _
    ·split
     ·exact IB _
     ·split<;>exact IB _
noncomputable def Ro(n:Nat):Rw->Prop
 | .lett v e=>v∈(["x", "y"]:List Str)/\Eo 2 e
 | .unl e t=>Eo 2 e/\0<=t/\t<=n
 | .jump t=>0<=t/\t<=n
 | .get v b=>v∈(["x", "y"]:List Str)/\b = "a"
 | .tell e=>Eo 2 e
 |_=>False
theorem Yh:∀v∈(["x", "y"]:List Str),v∈BG:=by decide +kernel
theorem Ro.ok(h:Ro n r):r.Ok:=by
 cases r with
 |lett v e=>exact⟨Yh v h.1,Eo.ok 2 e h.2⟩
 |unl e t=>exact Eo.ok 2 e h.1
 |jump t=>trivial
 |get v b=>exact⟨Yh v h.1,by rw[h.2];decide +kernel⟩
 |tell e=>exact Eo.ok 2 e h
 |_=>exact h.elim
theorem Ro.rk(h:Ro n r):Rk ["x", "y"] r:=by
 cases r with
 |lett v e=>exact⟨h.1,Eo.ek 2 5 e (by omega) h.2⟩
 |unl e t=>exact Eo.ek 2 5 e (by omega) h.1
 |jump t=>trivial
 |get v b=>exact h.1
 |tell e=>exact Eo.ek 2 5 e (by omega) h
 |_=>exact h.elim
structure Rok(rs:List Rw):Prop where
 ro:∀r∈rs,Ro rs.length r
 few:rs.length<=9
 xy:∃t,rs=.lett "x" (.var "x")::.lett "y" (.var "y")::t
variable{rs:List Rw}
theorem Rok.rows(h:Rok rs):Rows ["x", "y"] rs:=⟨λr hr=>(h.ro r hr).rk,λe t hr=>(h.ro _ hr).2,λt hr=>h.ro _ hr,by have:=h.few;omega⟩
theorem Ry:∀l:List Str,(∀x∈l,x∈(["x", "y"]:List Str))->CF l=[]∨CF l=(["x"]:List Str)∨CF l=(["y"]:List Str)∨CF l=(["x", "y"]:List Str)
 |[],_=>.inl rfl
 |z::l,h=>by
  have hz:=h z AAQ;have ih:=Ry l λx hx=>h x (AAR _ hx);have e:CF (z::l)=HC z (CF l):=rfl;rw[e];simp only[AAJ,List.mem_nil_iff,or_false] at hz;rcases hz with rfl|rfl<;>rcases ih with e1|e1|e1|e1<;>rw[e1]<;>decide +kernel
theorem Rok.hv(h:Rok rs):K21.hv rs=(["x", "y"]:List Str):=by
 have hin:∀x∈rs.flatMap Rw.vars,x∈(["x", "y"]:List Str):=λx hx=>by
  obtain⟨r,hr,hx⟩:=List.mem_flatMap.mp hx;have ro:=h.ro r hr;have ev:∀(d:Nat) (e:Ex),Eo d e->∀x∈e.vars,x∈(["x", "y"]:List Str):=by
   intro d e
   induction e generalizing d with
   |num n=>intro _ x hx;cases hx
   |var y=>intro h x hx;unfold Eo at h;unfold Ex.vars at hx;rw[AAL.mp hx];exact h
   |neg e ih=>
    intro h x hx;cases d with
    |zero=>unfold Eo at h;exact h.elim
    |succ d=>unfold Eo at h;exact ih d h x hx
   |bin w a b iha ihb=>
    intro h x hx;cases d with
    |zero=>unfold Eo at h;exact h.elim
    |succ d=>
     unfold Eo at h;unfold Ex.vars at hx;rcases AAK.mp hx with z|z
     ·exact iha d h.2.1 x z
     ·exact ihb d h.2.2 x z
  cases r with
  |lett v e=>
   rcases AAJ.mp (show x∈v::e.vars from hx) with z|z
   ·rw[z];exact ro.1
   ·exact ev 2 e ro.2 x z
  |unl e t=>exact ev 2 e ro.1 x hx
  |jump t=>cases hx
  |get v b=>rw[AAL.mp (show x∈[v] from hx)];exact ro.1
  |tell e=>exact ev 2 e ro x hx
  |_=>exact ro.elim
 have ix:("x" : Str)∈CF (rs.flatMap Rw.vars):=(GN _ _).mpr (by obtain⟨t,e⟩:=h.xy;rw[e];simp[Rw.vars]);have iy:("y" : Str)∈CF (rs.flatMap Rw.vars):=(GN _ _).mpr (by obtain⟨t,e⟩:=h.xy;rw[e];simp[Rw.vars]);have e:CF (rs.flatMap Rw.vars)=(["x", "y"]:List Str):=by
  rcases Ry _ hin with z|z|z|z
  ·rw[z] at ix;cases ix
  ·rw[z] at iy;exact absurd iy (by decide +kernel)
  ·rw[z] at ix;exact absurd ix (by decide +kernel)
  ·exact z
 unfold K21.hv;rw[e]
 decide +kernel
section
variable{μ:Mh}{QD:D->Mh->Prop}
theorem Yi(h:Rok rs)(q:QD (.lst [.str "x",.str "y"]) μ):WP (Ap [.tup (rs.map Rw.toD)]) μ QD:=by
 rw[Wh];refine K21.IK (λr hr=>(h.ro r hr).ok) (by have:=h.few;omega) ?_;rw[h.hv];exact q
theorem Wo(q:QD (.lst []) μ):WP (Ap [.tup []]) μ QD:=by
 rw[Wh];exact K21.IK (rs:=[]) (λr hr=>nomatch hr) (by decide) q
end
end K23
namespace K23
open PySem L2 Mi Xt
open K21 (Ex Rw BH BG)
open Kst (A7 BQ isU Rows Has Ek Rk look CZ Am fol B0 it brt lrn)
abbrev Sg:=Int×List (Str×Int)
noncomputable def F3(rs:List Rw)(s:Sg):Sg:=match rs[s.1.toNat]? with
 |some r=>BQ r s.1 s.2
 |none=>s
noncomputable def stp(rs:List Rw)(s:Sg):Bool:=match rs[s.1.toNat]? with
 |some r=>!isU r
 |none=>true
theorem IE:∀(n:Nat) (a:Int) (E:List (Str×Int)) (kp:Option Sg) (sp lf:Int),B0 rs n a E kp sp lf=(brt (F3 rs) (stp rs) n (a,E) kp sp lf).map λp=>(if p.1=true then some p.2.1 else none,p.2.2)
 |0,_,_,_,_,_=>rfl
 |n+1,a,E,kp,sp,lf=>by
  unfold B0 brt;cases e:rs[a.toNat]? with
  |none=>
   have h:stp rs (a,E)=true:=by unfold stp;dsimp only;rw[e]
   rw[if_pos h];rfl
  |some r=>
   have h:stp rs (a,E)=!isU r:=by unfold stp;dsimp only;rw[e]
   have g:F3 rs (a,E)=BQ r a E:=by unfold F3;dsimp only;rw[e]
   rw[h,g];dsimp only;cases isU r with
   |false=>rfl
   |true=>
    show (if kp=some (a,E) then _ else _)=Option.map _ (if (!true)=true then _ else if kp=some (a,E) then _ else _);rw[if_neg (show ¬(!true)=true by decide)];by_cases k:kp=some (a,E)
    ·rw[if_pos k,if_pos k];rfl
    ·rw[if_neg k,if_neg k];by_cases z:lf-1=0
     ·rw[if_pos z,if_pos z];exact IE n _ _ _ _ _
     ·rw[if_neg z,if_neg z];exact IE n _ _ _ _ _
def In(rs:List Rw)(s:Sg):Prop:=(0<=s.1/\s.1<=rs.length)/\∃x y,s.2=en x y/\R9 x/\R9 y
def V(s:Sg):Prop:=(0<=s.1/\s.1<9)/\∃x y,s.2=en x y/\R9 x/\R9 y
noncomputable def cod(s:Sg):Nat:=s.1.toNat * 100+((look s.2 "x").getD 0).toNat * 10+((look s.2 "y").getD 0).toNat
theorem Sa:CZ (en x y) "x" v=en v y:=by
 unfold CZ;show [if ("x" : Str) = "x" then (("x" : Str),v) else ("x",x),if ("y" : Str) = "x" then (("y" : Str),v) else ("y",y)]=_;rw[if_pos rfl,if_neg (by decide +kernel)]
theorem SZ:CZ (en x y) "y" v=en x v:=by
 unfold CZ;show [if ("x" : Str) = "y" then (("x" : Str),v) else ("x",x),if ("y" : Str) = "y" then (("y" : Str),v) else ("y",y)]=_;rw[if_neg (by decide +kernel),if_pos rfl]
variable{rs:List Rw}
theorem ID(h:Rok rs)(hs:In rs s)(hn:stp rs s=false):In rs (F3 rs s):=by
 obtain⟨a,E⟩:=s;obtain⟨ha,x,y,hE,hx,hy⟩:=hs;have hE:E=en x y:=hE;subst hE;have ha:0<=a/\a<=rs.length:=ha;unfold stp at hn;dsimp only at hn;cases e:rs[a.toNat]? with
 |none=>rw[e] at hn;cases hn
 |some r=>
  rw[e] at hn;have g:F3 rs (a,en x y)=BQ r a (en x y):=by unfold F3;dsimp only;rw[e]
  rw[g];have hr:r∈rs:=AAV e;have ro:=h.ro r hr;have hlt:=(AAU.mp e).1;have row:=Kst.row_in (E:=en x y) h.rows hr ⟨ha.1,by omega⟩;refine⟨row,?_⟩;cases r with
  |jump t=>exact⟨x,y,rfl,hx,hy⟩
  |unl e t=>
   unfold BQ;dsimp only;split<;>exact⟨x,y,rfl,hx,hy⟩
  |lett v e=>
   have hv:=ro.1;have hnn:=GU hx hy 2 _ ro.2;simp only[AAJ,List.mem_nil_iff,or_false] at hv;rcases hv with rfl|rfl
   ·exact⟨_,y,Sa,hnn,hy⟩
   ·exact⟨x,_,SZ,hx,hnn⟩
  |_=>cases hn
theorem Tc(h:Rok rs)(hs:In rs s):∀(n:Nat),(∀i,i<n->stp rs (it (F3 rs) i s)=false)->In rs (it (F3 rs) n s)
 |0,_=>hs
 |n+1,hn=>by
  rw[Kst.it_succ];exact ID h (Tc h hs n λi hi=>hn i (by omega)) (hn n (by omega))
theorem af(h:Rok rs)(hs:In rs s)(hn:stp rs s=false):V s:=by
 refine⟨⟨hs.1.1,?_⟩,hs.2⟩;unfold stp at hn;cases e:rs[s.1.toNat]? with
 |none=>rw[e] at hn;cases hn
 |some r=>
  have:=(AAU.mp e).1;have:=h.few;have:=hs.1.1;omega
theorem N6:cod (a,en x y)=a.toNat * 100+x.toNat * 10+y.toNat:=by
 unfold cod;dsimp only;rw[G5,G4];rfl
theorem V4(a b:Sg)(ha:V a)(hb:V b)(e:cod a=cod b):a=b:=by
 obtain⟨a1,a2⟩:=a;obtain⟨b1,b2⟩:=b;obtain⟨h1,x,y,h2,hx,hy⟩:=ha;obtain⟨g1,u,v,g2,hu,hv⟩:=hb;have h2:a2=en x y:=h2;have g2:b2=en u v:=g2;subst h2 g2;have h1:0<=a1/\a1<9:=h1;have g1:0<=b1/\b1<9:=g1;rw[N6,N6] at e;have e1:a1=b1:=by omega
 have e2:x=u:=by omega
 have e3:y=v:=by omega
 rw[e1,e2,e3]
theorem YX(a:Sg)(ha:V a):cod a<900:=by
 obtain⟨a1,a2⟩:=a;obtain⟨h1,x,y,h2,hx,hy⟩:=ha;have h2:a2=en x y:=h2;subst h2;have h1:0<=a1/\a1<9:=h1;rw[N6];omega
theorem agree(h:Rok rs){a x y:Int}(ha:0<=a/\a<=rs.length)(hx:R9 x)(hy:R9 y):
  (∃a' x' y':Int,(0<=a'/\a'<=rs.length)/\R9 x'/\R9 y'/\stp rs (a',en x' y')=true/\fol rs a (en x y)=some (some a',en x' y')/\lrn (F3 rs) (stp rs) 2000 [] (a,en x y)=some (some (a',en x' y')))∨(∃E',fol rs a (en x y)=some (none,E'))/\lrn (F3 rs) (stp rs) 2000 [] (a,en x y)=some none:=by
 have hs:In rs (a,en x y):=⟨ha,x,y,rfl,hx,hy⟩;rcases Kst.both (f:=F3 rs) (stop:=stp rs) (s:=(a,en x y)) V4 YX (λn hn=>af h (Tc h hs n λi hi=>hn i (by omega)) (hn n (AAF _))) with ⟨n,hl,hn,b1,b2⟩|⟨⟨E,b1⟩,b2⟩
 ·left;have hi:=Tc h hs n hl
  revert hi hn b1 b2
  generalize it (F3 rs) n (a,en x y)=z;obtain⟨a',E⟩:=z;rintro hn b1 b2 ⟨h1,x',y',h2,hx',hy'⟩;have h2:E=en x' y':=h2;subst h2;refine⟨a',x',y',h1,hx',hy',hn,?_,b2⟩;unfold fol;rw[IE,show Kst.fuel=10000 from rfl,b1];rfl
 ·right;refine⟨⟨E.2,?_⟩,b2⟩;unfold fol;rw[IE,show Kst.fuel=10000 from rfl,b1];rfl
end K23
namespace Mi
open PySem L2
theorem Pp(hl:Nat.beq ds.length ps=true)(h:WP (mb (BV N ds)) μ λr μ2=>∃τ2,r=(.next,τ2)/\QD .non μ2):WP (Ax .all N ps mb ds) μ QD:=by
 obtain⟨r,μ2,e,τ2,rfl,q⟩:=h;refine AV (a:=.non) (μ':=μ2) ?_ q;unfold Ax;rw[hl,e];rfl
end Mi
namespace K23
open PySem L2 Mi Xt
open K21 (Ex Rw BH BG Ec)
open Kst (A7 BQ isU Rows Has Ek Rk look CZ Am fol B0 it brt lrn)
noncomputable abbrev rsD(rs:List Rw):D:=.tup (rs.map Rw.toD)
noncomputable abbrev mkD(sz wo:Int)(rs:List Rw):D:=.tup [.str "safe",.int sz,.int 0,.tup [.tup [.str "a",.str "whole",.int 5,.int wo,.str "w"]],.tup [.tup [.str "w",.int 0,.tup []],.tup [.str "r",.int 3,rsD rs]]]
noncomputable abbrev QM:D:=.lst [.str "w",.str "r"]
noncomputable abbrev xyD:D:=.lst [.str "x",.str "y"]
noncomputable abbrev Um:D:=.lst [.lst [],xyD]
noncomputable abbrev Jk:List (Key×D):=[(.inr "a",.int 0)]
noncomputable abbrev pf(sz wo:Int)(rs:List Rw)(n:Nat):List (Str×D):=[("making",mkD sz wo rs),("names",QM),("variables",Um),("places",.ref (n+1)),("ways",.ref (n+2)),("claims",.ref (n+3))]
noncomputable abbrev HH(μ:Mh)(sz wo:Int)(rs:List Rw)(l1 l2:List (D×D)):Mh:=μ++[.ins "Plan" (pf sz wo rs μ.length),.dK Jk,.dP l1,.dP l2]
section
variable{μ gs:Mh}{QD:D->Mh->Prop}{sz wo:Int}{rs:List Rw}{l1 l2 l:List (D×D)}
theorem Tz(h:bs[k]?=some o):(μ++bs)[μ.length+k]?=some o:=by
 rw[AAS (by omega),show μ.length+k-μ.length=k by omega];exact h
theorem YR:HH μ sz wo rs l1 l2++gs=μ++(.ins "Plan" (pf sz wo rs μ.length)::.dK Jk::.dP l1::.dP l2::gs):=by simp[HH]
theorem JJ:(HH μ sz wo rs l1 l2++gs)[μ.length]?=some (.ins "Plan" (pf sz wo rs μ.length)):=by rw[YR];exact Tz (k:=0) rfl
theorem BN:(HH μ sz wo rs l1 l2)[μ.length]?=some (.ins "Plan" (pf sz wo rs μ.length)):=Tz (k:=0) rfl
theorem ab:(HH μ sz wo rs l1 l2)[μ.length+1]?=some (.dK Jk):=Tz (k:=1) rfl
theorem YH:(HH μ sz wo rs l1 l2)[μ.length+2]?=some (.dP l1):=Tz (k:=2) rfl
theorem YI:(HH μ sz wo rs l1 l2)[μ.length+3]?=some (.dP l2):=Tz (k:=3) rfl
theorem aL:(HH μ sz wo rs l1 l2).set (μ.length+2) (.dP l)=HH μ sz wo rs l l2:=by
 rw[AAh _ _ (by omega),show μ.length+2-μ.length=2 by omega];rfl
theorem aM:(HH μ sz wo rs l1 l2).set (μ.length+3) (.dP l)=HH μ sz wo rs l1 l:=by
 rw[AAh _ _ (by omega),show μ.length+3-μ.length=3 by omega];rfl
theorem Lo(q:QD (.ref μ.length) (μ++[.dP []])):WP (Oy τ) μ QD:=⟨_,_,rfl,q⟩
theorem OV(h:Rok rs)(q:QD (.ref μ.length) (HH μ sz wo rs [] [])):WP (Iz "Plan" Bi [mkD sz wo rs]) μ QD:=by
 refine RQ ?_;unfold Bi;refine Pp rfl ?_;unfold EM;(with_reducible apply NO);refine DS (i:=0) (gs:=[]) rfl (AAE rfl) ?_;wtm_at "a";refine⟨[],rfl,?_⟩;wtm_at "a";refine DS (i:=0) (gs:=[]) rfl (AAE rfl) ?_;wtm_at "a";refine⟨by rw[sizeLine_eq];exact AAE rfl,?_⟩;refine Ed (λ(h:Str×Int×D)=>D.tup [.str h.1,.int h.2.1,h.2.2]) (λ_=>true) (λh=>D.str h.1) (xs:=[("w",0,.tup []),("r",3,rsD rs)]) (λh hh=>?_) ?_
 ·wtm_at "a";refine⟨rfl,?_⟩;wtm_at "a";refine⟨rfl,rfl,λ_=>?_⟩;wtm_at "a";exact⟨rfl,rfl⟩
 show WP (Ba [.str "w",.str "r"]) _ _;refine CB (by rw[sizeLine_eq];exact AAE rfl) ⟨[],rfl,?_⟩;wtm_at "a";refine DS (i:=0) (gs:=[]) rfl (AAE rfl) ?_;wtm_at "a";refine⟨by rw[sizeLine_eq];exact AAE rfl,?_⟩;refine Ed (λ(h:(Str×Int×D)×D)=>D.tup [.str h.1.1,.int h.1.2.1,h.1.2.2]) (λ_=>true) (λh=>h.2) (xs:=[(("w",0,.tup []),.lst []),(("r",3,rsD rs),xyD)]) (λz hz=>?_) ?_
 ·wtm_at "a";refine⟨rfl,?_⟩;wtm_at "a";refine⟨rfl,rfl,λ_=>?_⟩;wtm_at "a";rcases AAJ.mp hz with rfl|hz
  ·exact Wo ⟨rfl,rfl⟩
  cases AAL.mp hz;exact Yi h ⟨rfl,rfl⟩
 show WP (Ba [.lst [],xyD]) _ _;refine CB (by rw[sizeLine_eq];exact AAE rfl) ⟨[],rfl,?_⟩;wtm_at "a";refine DS (i:=0) (gs:=[]) rfl (AAE rfl) ?_;refine UX ⟨[.dK []],by simp,?_⟩;have e1:(μ++MO.ins "Plan" (B8 "variables" Um (B8 "names" QM (B8 "making" (mkD sz wo rs) [])))::[]).length=μ.length+1:=by rw[AAH];rfl
 wtm_at "a";(with_reducible apply Ec);wtm_at "a";refine⟨_,rfl,?_⟩;refine Bk ?_;(with_reducible apply DT);refine Rc (i:=0) (v:=.int 0) (x := "a") rfl (by rw[e1];rfl) (by decide) ?_ ?_ (λky hky=>?_) rfl
 ·wtm_at "a";exact⟨rfl,rfl⟩
 ·wtm_at "a";exact⟨rfl,rfl⟩
 cases hky;refine Aq (Ky ?_);rw[e1];have ep:C3 ([]:List (Key×D)) (.inr "a") (.int 0)=Jk:=rfl;rw[ep];wtm_at "a";refine DS (i:=0) (gs:=[.dK Jk]) rfl (AAE rfl) ?_;refine Lo ⟨[.dK Jk,.dP []],by simp,?_⟩;rw[show (μ++[MO.ins "Plan" (B8 "places" (.ref (μ.length+1)) (B8 "variables" Um (B8 "names" QM (B8 "making" (mkD sz wo rs) [])))),.dK Jk]).length=μ.length+2 by simp];wtm_at "a";refine DS (i:=0) (gs:=[.dK Jk,.dP []]) rfl (AAE rfl) ?_;refine Lo ⟨[.dK Jk,.dP [],.dP []],by simp,?_⟩;rw[show (μ++[MO.ins "Plan" (B8 "ways" (.ref (μ.length+2)) (B8 "places" (.ref (μ.length+1)) (B8 "variables" Um (B8 "names" QM (B8 "making" (mkD sz wo rs) []))))),.dK Jk,.dP []]).length=μ.length+3 by simp];exact⟨_,rfl,rfl,q⟩
theorem W1(q:QD (.ref (HH μ sz wo rs l1 l2).length) (HH μ sz wo rs l1 l2++[.dK (Am (en a b))])):WP (BU [.ref μ.length,.int 1,z,.tup [.int a,.int b]]) (HH μ sz wo rs l1 l2) QD:=by
 unfold BU;refine An rfl ?_;unfold Cd;wtm_at "a";refine Au BN rfl ?_;wtm_at "a";refine AV (a:=.ref (HH μ sz wo rs l1 l2).length) (μ':=HH μ sz wo rs l1 l2++[.dK (Am (en a b))]) ?_ ?_
 ·have e:Ix [] ((([.inr "x",.inr "y"]:List Key)).zip [D.int a,D.int b])=Am (en a b):=by
   show C3 (C3 [] (.inr "x") (.int a)) (.inr "y") (.int b)=_;have e1:C3 ([]:List (Key×D)) (.inr "x") (.int a)=[(.inr "x",.int a)]:=rfl;rw[e1];unfold C3;rw[if_neg (by simp;decide +kernel)];rfl
  show (if ([D.int a,D.int b]:List D).length=([.inr "x",.inr "y"]:List Key).length/\([.inr "x",.inr "y"]:List Key).length<=1000 then some (D.ref (HH μ sz wo rs l1 l2).length,HH μ sz wo rs l1 l2++[MO.dK (Ix [] ((([.inr "x",.inr "y"]:List Key)).zip [D.int a,D.int b]))]) else none)=_;rw[if_pos ⟨rfl,by decide⟩,e]
 wtm_at "a";exact⟨_,_,rfl,q⟩
end
end K23
namespace K23
open PySem L2 Mi Xt
open K21 (Ex Rw BH BG)
open Kst (A7 BQ isU Rows Has Ek Rk look CZ Am fol B0 it brt lrn)
noncomputable abbrev cl0:D:=.tup [.int 0,.int (-1),.tup [.non]]
noncomputable abbrev cl1:D:=.tup [.int 0,.int (-1),.tup [.tup [.int 0]]]
noncomputable abbrev nD(x y:Int):D:=.tup [.int x,.int y]
inductive Wy (rs:List Rw) (sz a x y:Int):D->Prop where
 |stuck {E'}:fol rs a (en x y)=some (none,E')->Wy rs sz a x y (.tup [.str "stuck",.non,.non,.non])
 |silent {a' x' y'}:fol rs a (en x y)=some (some a',en x' y')->a'=rs.length->Wy rs sz a x y (.tup [.str "silent",.non,nD x' y',.non])
 |stands {a' x' y' v b}:0<=a'->fol rs a (en x y)=some (some a',en x' y')->rs[a'.toNat]?=some (.get v b)->Wy rs sz a x y (.tup [.str "stands",.int a',nD x' y',.non])
 |ends {a' x' y' e}:0<=a'->fol rs a (en x y)=some (some a',en x' y')->rs[a'.toNat]?=some (.tell e)->A7 (en x' y') e<sz->Wy rs sz a x y (.tup [.str "ends",.non,nD x' y',.int (A7 (en x' y') e)])
 |great {a' x' y' e}:0<=a'->fol rs a (en x y)=some (some a',en x' y')->rs[a'.toNat]?=some (.tell e)->sz<=A7 (en x' y') e->Wy rs sz a x y (.tup [.str "great",.non,nD x' y',.int (A7 (en x' y') e)])
theorem Eu:Has ["x", "y"] (en x y):=λz hz=>by
 simp only[AAJ,List.mem_nil_iff,or_false] at hz;rcases hz with rfl|rfl
 ·rw[G5];rfl
 ·rw[G4];rfl
theorem MU:((en x y).map (·.1)).Nodup:=show List.Nodup (["x", "y"]:List Str) by decide +kernel
section
variable{μ gs:Mh}{QD:D->Mh->Prop}{sz wo:Int}{rs:List Rw}{l1 l2:List (D×D)}{x y a:Int}{d:D}
theorem GL:GM (Am (en x y)) (.inr "x")=some (.int x):=by rw[Kst.val_env,G5];rfl
theorem GJ:GM (Am (en x y)) (.inr "y")=some (.int y):=by rw[Kst.val_env,G4];rfl
theorem Ct(ν:Mh):(ν++o::gs)[ν.length]?=some o:=by simp
theorem ar(h:Wy rs sz a x y d):Cl k d:=by cases h<;>simp[Cl,ClL]
theorem Kv(h:ν[k]?=some (.dK (Am (en x y))))(q:QL [.int x,.int y] ν):WP (Ck (AM 0) Dd (mOp Bt (AC 1) (AC 0)) [none,some (.ref k)] [.str "x",.str "y"] []) ν QL:=by
 refine Ed (λ(z:Str×Int)=>D.str z.1) (λ_=>true) (λz=>.int z.2) (xs:=[("x",x),("y",y)]) (λz hz=>?_) q;wtm_at "a";refine⟨rfl,?_⟩;wtm_at "a";refine⟨rfl,rfl,λ_=>?_⟩;wtm_at "a";rcases AAJ.mp hz with rfl|hz
 ·exact Az h rfl GL ⟨rfl,rfl⟩
 cases AAL.mp hz;exact Az h rfl GJ ⟨rfl,rfl⟩
theorem UJ(h:Rok rs)(ha:0<=a/\a<=rs.length)(hw:Wy rs sz a x y d)(q:QD d (HH μ sz wo rs l1 l2)):WP (DJ [.ref μ.length,.int 1,.int a,wd,nD x y]) (HH μ sz wo rs l1 l2) QD:=by
 have hc:Cl (HH μ sz wo rs l1 l2).length d:=ar hw;unfold DJ;refine CC rfl ?_;unfold Hb;wtm_at "a";refine Au BN rfl ?_;wtm_at "a";refine Cz rfl BN rfl ?_;wtm_at "a";refine W1 ?_;wtm_at "a";rw[Zl];cases hw with
 |stuck hf=>
  refine Kst.wq_followed h.rows Eu (by show 2<1000;omega) MU ha hf (λgs' _=>?_) (λa' gs' z=>nomatch z);wtm_at "a";exact⟨_,_,_,rfl,rfl,hc,q⟩
 |silent hf he=>
  refine Kst.wq_followed h.rows Eu (by show 2<1000;omega) MU ha hf (λgs' z=>nomatch z) (λa' gs' z _ hb=>?_);cases z;wtm_at "a";refine Au JJ rfl ?_;wtm_at "a";refine⟨by rw[sizeLine_eq];exact AAE rfl,?_⟩;refine Kv (Ct _) ?_;refine CB (by rw[sizeLine_eq];exact AAE rfl) ?_;wtm_at "a";rw[AAG,beq_iff_eq.mpr he];wtm_at "a";exact⟨_,_,_,rfl,rfl,hc,q⟩
 |stands h0 hf hg=>
  have hlt:=(AAU.mp hg).1;refine Kst.wq_followed h.rows Eu (by show 2<1000;omega) MU ha hf (λgs' z=>nomatch z) (λa' gs' z _ hb=>?_);cases z;wtm_at "a";refine Au JJ rfl ?_;wtm_at "a";refine⟨by rw[sizeLine_eq];exact AAE rfl,?_⟩;refine Kv (Ct _) ?_;refine CB (by rw[sizeLine_eq];exact AAE rfl) ?_;wtm_at "a";rw[AAG,AAg.mpr (by omega)];wtm_at "a";refine Eb (Kst.ix_row h0 hg) ?_;unfold Rw.toD;wtm_at "a";refine AV (a:=.bl true) (μ':=_) rfl ?_;wtm_at "a";exact⟨_,_,_,rfl,rfl,hc,q⟩
 |ends h0 hf hg hs=>
  have hlt:=(AAU.mp hg).1;have hr:=h.ro _ (AAV hg);refine Kst.wq_followed h.rows Eu (by show 2<1000;omega) MU ha hf (λgs' z=>nomatch z) (λa' gs' z _ hb=>?_);cases z;wtm_at "a";refine Au JJ rfl ?_;wtm_at "a";refine⟨by rw[sizeLine_eq];exact AAE rfl,?_⟩;refine Kv (Ct _) ?_;refine CB (by rw[sizeLine_eq];exact AAE rfl) ?_;wtm_at "a";rw[AAG,AAg.mpr (by omega)];wtm_at "a";refine Eb (Kst.ix_row h0 hg) ?_;unfold Rw.toD;wtm_at "a";refine AV (a:=.bl false) (μ':=_) rfl ?_;wtm_at "a";rw[PQ];refine Kst.wq_num Eu 6 (by omega) (Eo.ek 2 5 _ (by omega) hr) (Ct _) ?_;wtm_at "a";refine Au JJ rfl ?_;wtm_at "a";exact⟨_,_,_,rfl,rfl,hc,q⟩
 |great h0 hf hg hs=>
  have hlt:=(AAU.mp hg).1;have hr:=h.ro _ (AAV hg);refine Kst.wq_followed h.rows Eu (by show 2<1000;omega) MU ha hf (λgs' z=>nomatch z) (λa' gs' z _ hb=>?_);cases z;wtm_at "a";refine Au JJ rfl ?_;wtm_at "a";refine⟨by rw[sizeLine_eq];exact AAE rfl,?_⟩;refine Kv (Ct _) ?_;refine CB (by rw[sizeLine_eq];exact AAE rfl) ?_;wtm_at "a";rw[AAG,AAg.mpr (by omega)];wtm_at "a";refine Eb (Kst.ix_row h0 hg) ?_;unfold Rw.toD;wtm_at "a";refine AV (a:=.bl false) (μ':=_) rfl ?_;wtm_at "a";rw[PQ];refine Kst.wq_num Eu 6 (by omega) (Eo.ek 2 5 _ (by omega) hr) (Ct _) ?_;wtm_at "a";refine Au JJ rfl ?_;wtm_at "a";exact⟨_,_,_,rfl,rfl,hc,q⟩
end
noncomputable abbrev rI(x y:Int):D:=.tup [.int (-1),.non,.int 0,.int 0,nD x y]
noncomputable abbrev rG(a c x y:Int):D:=.tup [.int a,.non,.int 0,.int c,nD x y]
noncomputable abbrev wI:D:=.tup [.int (-1),.non,.int 0,.int 0,.tup []]
noncomputable abbrev bxs(wo:Int):D:=.tup [.tup [.int wo,.int (-1)]]
noncomputable abbrev stD(wo:Int)(r cl:D):D:=.tup [.tup [wI,r],bxs wo,cl]
noncomputable abbrev eB:D:=.tup [.str "begin",.str "r"]
noncomputable abbrev eE(v:Int):D:=.tup [.str "end",.str "r",.int v]
section
variable{μ ν:Mh}{QD:D->Mh->Prop}{sz wo:Int}{rs:List Rw}{l1 l2 l:List (D×D)}{x y a c:Int}{d:D}{evs:List D}
theorem Tv:BD [mkD sz wo rs,cl0,.tup [.str "begin",.int 1,.int 0]] ν=some (cl1,ν):=by kernel_rfl
theorem Ya:BD [mkD sz wo rs,cl1,.tup [.str "end",.int 1,.int 0]] ν=some (cl0,ν):=by kernel_rfl
theorem YN(h:v≠0):Hl true (.int v) (.tup [.int 0]) ν=some (.bl true,ν):=by
 have e:inV (.int v) [.int 0]=false:=by
  unfold inV;show ((eqV (.int 0) (.int v))||false)=false;rw[Bool.or_false];show decide ((0:Int)=v)=false;exact AAO λz=>h z.symm
 show some (D.bl (if true=true then !inV (.int v) [.int 0] else inV (.int v) [.int 0]),ν)=_;rw[e];rfl
theorem Tu(h:v≠0):BD [mkD sz wo rs,cl1,.tup [.str "end",.int 1,.int v]] ν=some (.non,ν):=by
 have w:WP (BD [mkD sz wo rs,cl1,.tup [.str "end",.int 1,.int v]]) ν λd μ'=>d=.non/\μ'=ν:=by
  unfold BD;refine An rfl ?_;unfold En;wtm_at "a";unfold D9;refine An rfl ?_;unfold GV;wtm_at "a";refine AV (YN h) ?_;wtm_at "a";exact⟨_,_,rfl,_,_,rfl,rfl,rfl⟩
 obtain⟨d,μ',e,rfl,rfl⟩:=w;exact e
theorem OW(h:(l.any λz=>decide (z.1=k))=false):IU (l++[(k,d)]) k=some d:=by
 unfold IU;rw[List.find?_append,List.find?_eq_none.mpr (λz hz=>by have:=List.any_eq_false.mp h z hz;simpa using this)];simp
theorem Fo{c a2 a3 a4 d:D}(hk:F1 (.tup [c,a2,a3,a4])=some (.tup [c,a2,a3,a4]))(hn:(l2.any λz=>decide (z.1=.tup [c,a2,a3,a4]))=false)(hl:l2.length<1000)
  (hf:BD [mkD sz wo rs,c,.tup [a2,a3,a4]] (HH μ sz wo rs l1 l2)=some (d,HH μ sz wo rs l1 l2)) (q:∀l,l=l2++[(.tup [c,a2,a3,a4],d)]->QD d (HH μ sz wo rs l1 l)):WP (Bh [.ref μ.length,c,a2,a3,a4]) (HH μ sz wo rs l1 l2) QD:=by
 unfold Bh;refine An rfl ?_;unfold EL;wtm_at "a";refine Au BN rfl ?_;refine IJ YI hk hn ?_;wtm_at "a";refine Lk ?_;wtm_at "a";refine Au BN rfl ?_;wtm_at "a";refine AV hf ?_;wtm_at "a";refine Au BN rfl ?_;wtm_at "a";refine⟨μ.length+3,l2,rfl,YI,hk,hl,hn,?_⟩;rw[aM];wtm_at "a";refine Au BN rfl ?_;wtm_at "a";refine Ll YI hk (OW hn) ?_;exact⟨_,_,rfl,q _ rfl⟩
theorem TU:F1 (.tup [.int 1,.int a,.int 0,nD x y])=some (.tup [.int 1,.int a,.int 0,nD x y]):=by rfl
theorem DR(h:Rok rs)(ha:0<=a/\a<=rs.length)(hw:Wy rs sz a x y d)(q:∀l,QD d (HH μ sz wo rs l l2)):WP (CU [.ref μ.length,.int 1,.int a,.int 0,nD x y]) (HH μ sz wo rs [] l2) QD:=by
 unfold CU;refine An rfl ?_;unfold Fb;wtm_at "a";refine Au BN rfl ?_;refine IJ YH TU rfl ?_;wtm_at "a";refine Lk ?_;wtm_at "a";refine UJ h ha hw ?_;wtm_at "a";refine Au BN rfl ?_;wtm_at "a";refine⟨μ.length+2,[],rfl,YH,TU,by decide,rfl,?_⟩;rw[aL];wtm_at "a";refine Au BN rfl ?_;wtm_at "a";refine Ll YH TU (OW rfl) ?_;exact⟨_,_,rfl,q _⟩
inductive Go (rs:List Rw) (sz wo a x y c:Int) (evs:List D):D->Prop where
 |stuck {E'}:fol rs a (en x y)=some (none,E')->Go rs sz wo a x y c evs (.tup [.non,.tup [.str "stuck",.str "r"],.lst evs])
 |silent {a' x' y'}:fol rs a (en x y)=some (some a',en x' y')->a'=rs.length->Go rs sz wo a x y c evs (.tup [.non,.tup [.str "silent",.str "r"],.lst evs])
 |stands {a' x' y' v b}:0<=a'->fol rs a (en x y)=some (some a',en x' y')->rs[a'.toNat]?=some (.get v b)->Go rs sz wo a x y c evs (.tup [stD wo (rG a' c x' y') cl1,.non,.lst evs])
 |great {a' x' y' e}:0<=a'->fol rs a (en x y)=some (some a',en x' y')->rs[a'.toNat]?=some (.tell e)->sz<=A7 (en x' y') e->Go rs sz wo a x y c evs (.tup [.non,.tup [.str "great",.str "r"],.lst evs])
 |ends {a' x' y' e}:0<=a'->fol rs a (en x y)=some (some a',en x' y')->rs[a'.toNat]?=some (.tell e)->A7 (en x' y') e<sz->A7 (en x' y') e=0->Go rs sz wo a x y c evs (.tup [stD wo (rI x' y') cl0,.non,.lst (evs++[eE (A7 (en x' y') e)])])
 |tells {a' x' y' e}:0<=a'->fol rs a (en x y)=some (some a',en x' y')->rs[a'.toNat]?=some (.tell e)->A7 (en x' y') e<sz->A7 (en x' y') e≠0->Go rs sz wo a x y c evs (.tup [.non,.tup [.str "tells",.str "r"],.lst (evs++[eE (A7 (en x' y') e)])])
def Fr(l:List (D×D)):Prop:=l.length<10/\∀v:Int,(l.any λz=>decide (z.1=.tup [cl1,.str "end",.int 1,.int v]))=false
theorem wh1:DI [stD wo r cl,.int 1,r'] ν=some (stD wo r' cl,ν):=by kernel_rfl
theorem IN(q:QD (.tup [.non,.tup [.str w,.str "r"],.lst evs]) (HH μ sz wo rs l1 l2)):WP (Ez [.str w,.ref μ.length,.int 1,.lst evs]) (HH μ sz wo rs l1 l2) QD:=by
 unfold Ez;refine An rfl ?_;unfold Ma;wtm_at "a";refine Au BN rfl ?_;wtm_at "a";exact⟨_,_,rfl,q⟩
theorem RY{r:D}(h:Rok rs)(ha:0<=a/\a<=rs.length)(hl:Fr l2)(el:evs.length<=1000)(hg:Go rs sz wo a x y c evs d)(q:∀l1 l2,QD d (HH μ sz wo rs l1 l2)):WP (Dh [.ref μ.length,stD wo r cl1,.int 1,.tup [.int a,.int 0,.int c,nD x y],.lst evs]) (HH μ sz wo rs [] l2) QD:=by
 unfold Dh;refine An rfl ?_;unfold KN;wtm_at "a";refine Cz rfl BN rfl ?_;wtm_at "a";cases hg with
 |stuck hf=>
  refine DR h ha (.stuck hf) λl=>?_;wtm_at "a";refine IN ?_;exact⟨_,_,rfl,q _ _⟩
 |silent hf he=>
  refine DR h ha (.silent hf he) λl=>?_;wtm_at "a";refine IN ?_;exact⟨_,_,rfl,q _ _⟩
 |great h0 hf hr hs=>
  refine DR h ha (.great h0 hf hr hs) λl=>?_;wtm_at "a";refine IN ?_;exact⟨_,_,rfl,q _ _⟩
 |stands h0 hf hr=>
  refine DR h ha (.stands h0 hf hr) λl=>?_;wtm_at "a";refine AV wh1 ?_;wtm_at "a";exact⟨_,_,rfl,q _ _⟩
 |ends h0 hf hr hs hz=>
  refine DR h ha (.ends h0 hf hr hs) λl=>?_;rw[hz];rw[hz] at q;wtm_at "a";refine Au BN rfl ?_;wtm_at "a";refine K21.Kw (by show _+1<=1000000;omega) ?_;wtm_at "a";refine Cz rfl BN rfl ?_;wtm_at "a";refine Fo (by rfl) (hl.2 0) (by have:=hl.1;omega) Ya λl' _=>?_;wtm_at "a";refine AV wh1 ?_;wtm_at "a";exact⟨_,_,rfl,q _ _⟩
 |tells h0 hf hr hs hz=>
  refine DR h ha (.ends h0 hf hr hs) λl=>?_;wtm_at "a";refine Au BN rfl ?_;wtm_at "a";refine K21.Kw (by show _+1<=1000000;omega) ?_;wtm_at "a";refine Cz rfl BN rfl ?_;wtm_at "a";refine Fo (by rfl) (hl.2 _) (by have:=hl.1;omega) (Tu hz) λl' _=>?_;wtm_at "a";refine IN ?_;exact⟨_,_,rfl,q _ _⟩
end
section
variable{μ:Mh}{QD:D->Mh->Prop}{sz wo:Int}{rs:List Rw}{l1 l2:List (D×D)}{x y a c:Int}{d:D}{evs:List D}
theorem Zv(he:ClL k evs)(h:Go rs sz wo a x y c evs d):Cl k d:=by
 have ha:∀v:Int,ClL k (evs++[eE v]):=λv=>by
  clear h
  induction evs with
  |nil=>simp[ClL,Cl]
  |cons z zs ih=>unfold ClL at he;rw[List.cons_append];unfold ClL;exact⟨he.1,ih he.2⟩
 cases h<;>simp[Cl,ClL,he,ha]
theorem Rf(h:Rok rs)(hg:Go rs sz wo 0 x y 0 [eB] d)(q:∀l1 l2,QD d (HH μ sz wo rs l1 l2)):WP (IG [.ref μ.length,stD wo (rI x y) cl0,.tup [.int 1,.int 0]]) (HH μ sz wo rs [] []) QD:=by
 unfold IG;refine An rfl ?_;unfold O4;wtm_at "a";refine Au BN rfl ?_;wtm_at "a";refine Cz rfl BN rfl ?_;wtm_at "a";refine Fo (by rfl) rfl (by decide) Tv λl' hl=>?_;wtm_at "a";refine RY h ⟨by omega,by omega⟩ ?_ (by show 1<=1000;omega) hg λl1 l2=>?_
 ·subst hl;exact⟨by decide,λv=>by rfl⟩
 ·exact⟨_,_,rfl,q _ _⟩
theorem RK(q:QD (.int 0) (HH μ sz wo rs l1 l2)):WP (Bg [.ref μ.length,.tup [.str "get",.str v,.str "a"]]) (HH μ sz wo rs l1 l2) QD:=by
 unfold Bg;refine An rfl ?_;unfold EK;wtm_at "a";refine Au BN rfl ?_;wtm_at "a";refine Az ab rfl (d:=.int 0) (by rfl) ?_;exact⟨_,_,rfl,q⟩
theorem RJ(h0:0<=a)(hr:rs[a.toNat]?=some r)(q:QD r.toD (HH μ sz wo rs l1 l2)):WP (B1 [.ref μ.length,.int 1,.int a]) (HH μ sz wo rs l1 l2) QD:=by
 unfold B1;refine An rfl ?_;unfold Fc;wtm_at "a";refine Au BN rfl ?_;wtm_at "a";refine Eb (Kst.ix_row h0 hr) ?_;exact⟨_,_,rfl,q⟩
noncomputable def pX(v:Str)(w x y:Int):Int×Int:=if v = "x" then (w,y) else (x,w)
end
section
variable{μ ν:Mh}{QD:D->Mh->Prop}{sz wo:Int}{rs:List Rw}{l1 l2:List (D×D)}{x y a c:Int}{d:D}
theorem Jz(h:WP (mo τ) μ λx μ1=>WP (Cj x) μ1 λ_ μ2=>WP (ra τ) μ2 λds μ3=>WP (g x ds) μ3 QD):WP (A3 g mo ra τ) μ QD:=by
 unfold A3;exact Aa (Ac h λx μ1 h=>Aa (Ac h λ_ μ2 h=>Aa h))
theorem wt0:Bd [nD x y,.int 0,w] ν=some (.tup [w,.int y],ν):=by kernel_rfl
theorem wt1:Bd [nD x y,.int 1,w] ν=some (.tup [.int x,w],ν):=by kernel_rfl
theorem ae:KY xyD [.str "x"] ν=some (.int 0,ν):=by kernel_rfl
theorem ac:KY xyD [.str "y"] ν=some (.int 1,ν):=by kernel_rfl
theorem W5(h:Rok rs)(ha:0<=a)(hr:rs[a.toNat]?=some (.get v "a"))(hg:Go rs sz wo (a+1) (pX v wo x y).1 (pX v wo x y).2 (c+1) [] d)(q:∀l1 l2,QD d (HH μ sz wo rs l1 l2)):WP (PN [.ref μ.length,stD wo (rG a c x y) cl1,.tup [.int 1,.int 0],.tup [.str "get",.str v,.str "a"]]) (HH μ sz wo rs [] []) QD:=by
 have hlt:=(AAU.mp hr).1;have ro:=(h.ro _ (AAV hr)).1;have fr:Fr []:=⟨by decide,λv=>rfl⟩;have hb:0<=a+1/\a+1<=(rs.length:Int):=by omega
 unfold PN;refine An rfl ?_;unfold WQ;wtm_at "a";refine Cz rfl BN rfl ?_;wtm_at "a";refine RK ?_;wtm_at "a";refine Au BN rfl ?_;wtm_at "a";refine Jz ?_;wtm_at "a";refine Au BN rfl ?_;wtm_at "a";refine AV (a:=()) (μ':=_) rfl ?_;wtm_at "a";simp only[AAJ,List.mem_nil_iff,or_false] at ro;rcases ro with rfl|rfl
 ·refine AV ae ?_;wtm_at "a";refine AV wt0 ?_;wtm_at "a";exact RY h hb fr (by show 0<=1000;omega) hg λl1 l2=>⟨_,_,rfl,q _ _⟩
 ·refine AV ac ?_;wtm_at "a";refine AV wt1 ?_;wtm_at "a";exact RY h hb fr (by show 0<=1000;omega) hg λl1 l2=>⟨_,_,rfl,q _ _⟩
inductive Stp (rs:List Rw) (sz wo:Int):D->D->Prop where
 |beg {x1 y1:Int} {e:D}:Go rs sz wo 0 x1 y1 0 [eB] e->Stp rs sz wo (stD wo (rI x1 y1) cl0) e
 |get {a1 c1 x1 y1:Int} {v:Str} {e:D}:0<=a1->c1<3->rs[a1.toNat]?=some (.get v "a")->Go rs sz wo (a1+1) (pX v wo x1 y1).1 (pX v wo x1 y1).2 (c1+1) [] e->Stp rs sz wo (stD wo (rG a1 c1 x1 y1) cl1) e
 |long {a1 c1 x1 y1:Int} {v:Str}:0<=a1->3<=c1->rs[a1.toNat]?=some (.get v "a")->Stp rs sz wo (stD wo (rG a1 c1 x1 y1) cl1) (.tup [.non,.tup [.str "long",.str "r"],.lst []])
theorem RM(h:Rok rs)(hs:Stp rs sz wo s d)(q:∀l1 l2,QD d (HH μ sz wo rs l1 l2)):WP (IF [.ref μ.length,s,.tup [.int 1,.int 0]]) (HH μ sz wo rs [] []) QD:=by
 unfold IF;refine An rfl ?_;unfold O3;cases hs with
 |beg hg=>
  wtm_at "a";refine GF rfl ?_;wtm_at "a";exact Rf h hg λl1 l2=>⟨_,_,rfl,q _ _⟩
 |get h0 hc hr hg=>
  wtm_at "a";refine GG (by show _≠(-1:Int);omega) ?_;wtm_at "a";refine Au BN rfl ?_;wtm_at "a";refine Cz rfl BN rfl ?_;wtm_at "a";refine RJ h0 hr ?_;unfold Rw.toD;wtm_at "a";exact W5 h h0 hr hg λl1 l2=>⟨_,_,rfl,q _ _⟩
 |long h0 hc hr=>
  wtm_at "a";refine GG (by show _≠(-1:Int);omega) ?_;wtm_at "a";refine Au BN rfl ?_;wtm_at "a";exact IN ⟨_,_,rfl,q _ _⟩
noncomputable abbrev mv(k p:Int):D:=.tup [.int k,.int p]
end
end K23
namespace K23
open PySem L2 Mi Xt
open K21 (Ex Rw BH BG Ec)
open Kst (A7 BQ isU Rows Has Ek Rk look CZ Am fol B0 it brt lrn)
section
variable{μ ν:Mh}{QD:D->Mh->Prop}{sz wo:Int}{rs:List Rw}{l1 l2 l:List (D×D)}{x y a c:Int}{d:D}
theorem Wx(h:2<=sz/\sz<=10)(q:QD (.tup (O2 sz.toNat)) (HH μ sz wo rs l1 l2++gs)):WP (CO [.ref μ.length,.int 0,wI]) (HH μ sz wo rs l1 l2++gs) QD:=by
 unfold CO;refine An rfl ?_;unfold Fy;wtm_at "a";refine GF rfl ?_;wtm_at "a";refine Au JJ rfl ?_;wtm_at "a";refine AV (a:=.tup (O2 sz.toNat)) (μ':=_) (if_pos ⟨by omega,by omega⟩) ?_;exact⟨_,_,rfl,q⟩
theorem Wz(hr:r=rI x y∨r=rG a c x y/\0<=a)(q:QD (.tup [.int 0]) (HH μ sz wo rs l1 l2++gs)):WP (CO [.ref μ.length,.int 1,r]) (HH μ sz wo rs l1 l2++gs) QD:=by
 unfold CO;refine An rfl ?_;unfold Fy;rcases hr with rfl|⟨rfl,h0⟩
 ·wtm_at "a";refine GF rfl ?_;wtm_at "a";exact⟨_,_,rfl,q⟩
 ·wtm_at "a";refine GG (by show _≠(-1:Int);omega) ?_;wtm_at "a";exact⟨_,_,rfl,q⟩
theorem Lp{k:Int}{ps:List Int}(hl:ds.length+ps.length<=1000)(q:∀o5,QS (.next,[s0,s1,some (.ref ν.length),some (.int k),s4,o5]) (ν++[.lst (ds++ps.map λp=>mv k p)])):
  WP (Cu (AM 5) (Bs (A3 GC (AC 2) (AD (AH Ah (AD (AC 3) (AD (AC 5) AJ))) AJ))) (ps.map D.int) [s0,s1,some (.ref ν.length),some (.int k),s4,o5]) (ν++[.lst ds]) QS:=by
 refine Gu (I:=λrest τ μ'=>∃(u v:List Int) (o5:Option D),u++v=ps/\rest=v.map D.int/\μ'=ν++[.lst (ds++u.map λp=>mv k p)]/\τ=[s0,s1,some (.ref ν.length),some (.int k),s4,o5]) ?_ ?_ ⟨[],ps,o5,rfl,rfl,by simp,rfl⟩
 ·rintro x xs τ μ' ⟨u,v,o5,huv,hr,rfl,rfl⟩;cases v with
  |nil=>cases hr
  |cons p v=>
   rw[AAX] at hr;obtain⟨e3,e4⟩:=List.cons.inj hr;subst e3;have ul:u.length<=ps.length:=by rw[←huv,AAH];omega
   wtm_at "b";refine CT rfl (by rw[AAH,AAG,sizeLine_eq];omega) ?_;wtm_at "b";refine⟨ν,_,rfl,rfl,rfl,Aq ⟨u++[p],v,_,by rw[←huv];simp,e4,?_,rfl⟩⟩;simp
 ·rintro τ μ' ⟨u,v,o5,huv,hr,rfl,rfl⟩;cases v with
  |cons p v=>cases hr
  |nil=>
   rw[AAb] at huv;subst huv;exact q _
theorem Ts:∀l:List (Int×Int),ClL k (l.map λp=>mv p.1 p.2)
 |[]=>by unfold List.map ClL;trivial
 |p::l=>by
  have:=Ts (k:=k) l;rw[AAX];simp[ClL,Cl,this]
noncomputable def mvI(n:Nat):List (Int×Int):=((List.range n).map Int.ofNat).map (λp=>(0,p))++[(1,0)]
theorem RL(h:2<=sz/\sz<=10)(hr:r=rI x y∨r=rG a c x y/\0<=a)(q:QD (.lst ((mvI sz.toNat).map λp=>mv p.1 p.2)) (HH μ sz wo rs l1 l2)):WP (D8 [.ref μ.length,stD wo r cl]) (HH μ sz wo rs l1 l2) QD:=by
 unfold D8;refine DU rfl ?_;unfold JA;wtm_at "a";(with_reducible apply Ec);wtm_at "a";refine⟨_,rfl,?_⟩;refine Bk ?_;(with_reducible apply DT);wtm_at "a";refine Wx h ?_;wtm_at "a";refine Lp (k:=0) (ds:=[]) (by rw[AAG,List.length_range];show 0+_<=1000;omega) λo5=>?_;refine Aq (Bk ?_);(with_reducible apply DT);wtm_at "a";refine Wz hr ?_;wtm_at "a";refine Lp (k:=1) (ps:=[0]) (by simp;omega) λo6=>?_;refine Aq (Ky ?_);wtm_at "a";have e:([]++((List.range sz.toNat).map Int.ofNat).map λp=>mv 0 p)++[0].map (λp=>mv 1 p)=(mvI sz.toNat).map λp=>mv p.1 p.2:=by
  unfold mvI;rw[AAY,List.map_map (f:=λp:Int=>((0:Int),p))];rfl
 rw[e];exact⟨_,_,_,rfl,Ts _,q,.inr ⟨_,rfl,AAF _,Ct _⟩⟩
theorem TM:∀l:List (Int×Int),KzL (l.map λp=>mv p.1 p.2)=true/\Bu (l.map λp=>mv p.1 p.2)<=1
 |[]=>⟨rfl,AAm _⟩
 |m::l=>by
  obtain⟨a,b⟩:=TM l;rw[AAX];unfold KzL Bu;rw[a];refine⟨rfl,?_⟩;show max 1 _<=1;omega
theorem W4{ds:List D}{y:D}(h1:Kz y=true)(h2:KzL ds=true)(h3:Bu ds<=8)(hm:y∈ds)(q:QD (.bl true) ν):WP (Jr false y (.lst ds)) ν QD:=by
 refine AV (a:=.bl true) (μ':=ν) ?_ q;unfold Jr;rw[A8 (show B7 (.lst ds) ν=some (ds,ν) from rfl)];rw[if_pos ⟨h1,h2,h3⟩];have:(ds.any λz=>decide (z=y))=true:=List.any_eq_true.mpr ⟨y,hm,AAP rfl⟩;rw[this];rfl
theorem isT:F6 [.tup [.str "r",.int 0],.int 2,.int 2] ν=some (.bl true,ν):=by kernel_rfl
theorem isW:F5 [.int 0,.int 0,.int 9] ν=some (.bl true,ν):=by kernel_rfl
theorem nin:Hl true (.str "r") QM ν=some (.bl false,ν):=by kernel_rfl
theorem idr:KY QM [.str "r"] ν=some (.int 1,ν):=by kernel_rfl
theorem Pn{r cl:D}(h:2<=sz/\sz<=10)(hr:r=rI x y∨r=rG a c x y/\0<=a)(q:QD (mv 1 0) (HH μ sz wo rs l1 l2)):WP (FK [.ref μ.length,stD wo r cl,.tup [.str "r",.int 0]]) (HH μ sz wo rs l1 l2) QD:=by
 obtain⟨z1,z2⟩:=TM (mvI sz.toNat);unfold FK;refine An rfl ?_;unfold KM;wtm_at "a";refine AV isT ?_;wtm_at "a";refine OR ?_;wtm_at "a";refine Au BN rfl ?_;refine AV nin ?_;wtm_at "a";refine AV isW ?_;wtm_at "a";refine BP ?_;wtm_at "a";refine Jz ?_;wtm_at "a";refine Au BN rfl ?_;refine AV (a:=()) (μ':=_) rfl ?_;wtm_at "a";refine AV idr ?_;wtm_at "a";refine RL h hr ?_;refine W4 (y:=mv 1 0) rfl z1 (by omega) (AAM.mpr ⟨(1,0),by unfold mvI;simp,rfl⟩) ?_;wtm_at "a";exact⟨_,_,rfl,q⟩
theorem Fk(h:Rok rs)(hz:2<=sz/\sz<=10)(hs:Stp rs sz wo s d)(q:QD d μ):WP (B9 [mkD sz wo rs,s,.tup [.str "r",.int 0]]) μ QD:=by
 have hc:∀k,Cl k d:=λk=>by
  cases hs with
  |beg hg=>exact Zv (by simp[ClL,Cl]) hg
  |get _ _ _ hg=>exact Zv (by unfold ClL;trivial) hg
  |long=>simp[Cl,ClL]
 have hr:∃r cl x y a c,s=stD wo r cl/\(r=rI x y∨r=rG a c x y/\0<=a):=by
  cases hs with
  |beg hg=>exact⟨_,_,_,_,0,0,rfl,.inl rfl⟩
  |get h0 _ _ hg=>exact⟨_,_,_,_,_,_,rfl,.inr ⟨rfl,h0⟩⟩
  |long h0=>exact⟨_,_,_,_,_,_,rfl,.inr ⟨rfl,h0⟩⟩
 obtain⟨r,cl,x,y,a,c,rfl,hr⟩:=hr;unfold B9;refine CC rfl ?_;unfold KL;wtm_at "a";refine OV h ?_;wtm_at "a";refine Pn hz hr ?_;wtm_at "a";refine RM h hs λl1 l2=>?_;exact⟨_,_,_,rfl,rfl,hc _,q⟩
theorem clb:DN [mkD sz wo rs] ν=some (cl0,ν):=by kernel_rfl
theorem IP{bf:D->Sl->M Sl}{tc:Sl->M Bool}{ma:Sl->M D}{τ0:Sl}{x:D}{μ:Mh}{QL:List D->Mh->Prop}(h:WP (bf x τ0) μ λτ1 μ1=>WP (tc τ1) μ1 λc μ2=>c=true/\WP (ma τ1) μ2 λy μ3=>WP (Ck bf tc ma τ0 xs (ys++[y])) μ3 QL):WP (Ck bf tc ma τ0 (x::xs) ys) μ QL:=
 Aa (Ac h λτ1 μ1 z=>Aa (Ac z λc μ2 ⟨e,z⟩=>by subst e;exact Aa z))
theorem Lu(h:QL ys μ):WP (Ck bf tc ma τ0 [] ys) μ QL:=A2 h
theorem Ra(h:Rok rs)(q:QD (stD wo (rI 0 0) cl0) μ):WP (Bj [mkD sz wo rs]) μ QD:=by
 unfold Bj;refine CC rfl ?_;unfold Fa;wtm_at "a";refine OV h ?_;wtm_at "a";unfold DM;refine An rfl ?_;unfold FZ;wtm_at "a";refine Au BN rfl ?_;wtm_at "a";refine⟨by rw[sizeLine_eq];exact AAE rfl,?_⟩;refine IP ?_;wtm_at "a";refine⟨rfl,?_⟩;wtm_at "a";refine K21.FE ?_;refine AV (a:=.tup []) (μ':=_) rfl ?_;wtm_at "a";refine IP ?_;wtm_at "a";refine⟨rfl,?_⟩;wtm_at "a";refine K21.FE ?_;refine AV (a:=.tup [.int 0,.int 0]) (μ':=_) rfl ?_;wtm_at "a";refine Lu ?_;refine CB (by rw[sizeLine_eq];exact AAE rfl) ?_;wtm_at "a";refine Au BN rfl ?_;wtm_at "a";refine⟨by rw[sizeLine_eq];exact AAE rfl,?_⟩;refine IP ?_;wtm_at "a";refine⟨rfl,?_⟩;wtm_at "a";refine Lu ?_;refine CB (by rw[sizeLine_eq];exact AAE rfl) ?_;wtm_at "a";refine Au BN rfl ?_;wtm_at "a";refine AV clb ?_;wtm_at "a";refine⟨_,_,rfl,?_⟩;exact⟨_,_,_,rfl,rfl,by simp[Cl,ClL,HK,C9],q⟩
end
end K23
namespace Mi
open PySem L2
theorem Lr(h:WP (m τ) (μ++[.dK []]) λds μ1=>μ1=μ++[.dK []]/\ds.length=ks.length/\QD (.ref μ.length) (μ++[.dK (ks.zip ds)])):WP (Fz ks m τ) μ QD:=by
 obtain⟨ds,μ1,e,rfl,hl,q⟩:=h;refine AV (a:=.ref μ.length) (μ':=μ++[.dK (ks.zip ds)]) ?_ q;unfold Fz;rw[e];dsimp only;rw[show (μ++[MO.dK []])[μ.length]?=some (.dK []) by simp];dsimp only;rw[if_pos hl,AAh _ _ (AAF _),AA1];rfl
end Mi
namespace K23
open PySem L2 Mi Xt
open K21 (Ex Rw BH BG)
open Kst (A7 BQ isU Rows Has Ek Rk look CZ Am fol B0 it brt lrn one pairN)
section
variable{ν:Mh}{QD:D->Mh->Prop}{x y:Int}{k:Nat}
noncomputable def Y5(a b:Int):List (Key×D):=[(.inr "+",.int (min (a+b) 9)),(.inr "-",.int (max (a-b) 0)),(.inr "=",.int (one (a==b))),(.inr "<",.int (one (decide (a<b)))),(.inr "and",.int (one (a != 0&&b != 0))),(.inr "or",.int (one (a != 0||b != 0)))]
theorem Uw(hw:w∈BH):GM (Y5 a b) (.inr w)=some (.int (pairN w a b)):=by
 have hw:w∈(["+", "-", "=", "<", "and", "or", "="]:List Str):=hw;simp only[AAJ,List.mem_nil_iff,or_false] at hw;rcases hw with rfl|rfl|rfl|rfl|rfl|rfl|rfl<;>rfl
theorem FD(hx:R9 x)(hy:R9 y):∀(n:Nat) {e:Ex} {d:Nat} {ν:Mh} {QD:D->Mh->Prop},d<n->Eo d e->ν[k]?=some (.dK (Am (en x y)))->QD (.int (A7 (en x y) e)) ν->WP (BS n [e.toD,.ref k]) ν QD
 |0,_,_,_,_,h,_,_,_=>absurd h (by omega)
 |n+1,.num i,d,ν,QD,_,_,_,q=>by
  unfold BS;refine CC rfl ?_;unfold Db Ex.toD;wtm_at "a";exact⟨_,_,[],rfl,by simp,by unfold Cl;trivial,q⟩
 |n+1,.var z,d,ν,QD,_,hz,hm,q=>by
  unfold Eo at hz;obtain⟨i,hi⟩:=Option.isSome_iff_exists.mp (Eu (x:=x) (y:=y) z hz);unfold BS;refine CC rfl ?_;unfold Db Ex.toD;wtm_at "a";refine Az hm rfl (by rw[Kst.val_env,hi];rfl) ?_;wtm_at "a";unfold A7 at q;rw[hi] at q;exact⟨_,_,[],rfl,by simp,by unfold Cl;trivial,q⟩
 |n+1,.neg e,0,ν,QD,_,hz,_,q=>by unfold Eo at hz;exact hz.elim
 |n+1,.neg e,d+1,ν,QD,hd,hz,hm,q=>by
  unfold Eo at hz;unfold BS;refine CC rfl ?_;unfold Db Ex.toD;wtm_at "a";refine FD hx hy n (Nat.lt_of_succ_lt_succ hd) hz hm ?_;wtm_at "a";exact⟨_,_,[],rfl,by simp,by unfold Cl;trivial,q⟩
 |n+1,.bin w a b,0,ν,QD,_,hz,_,q=>by unfold Eo at hz;exact hz.elim
 |n+1,.bin w a b,d+1,ν,QD,hd,hz,hm,q=>by
  unfold Eo at hz;obtain⟨hw,ha,hb⟩:=hz;obtain⟨w1,w2,w3,w4⟩:=Kst.str_w hw;have ra:=GU hx hy d a ha;have rb:=GU hx hy d b hb;unfold BS;refine CC rfl ?_;unfold Db Ex.toD;wtm_at "a";refine Dp w1 (by decide +kernel) w2 ?_;wtm_at "a";refine Dp w1 (by decide +kernel) w3 ?_;wtm_at "a";refine FD hx hy n (Nat.lt_of_succ_lt_succ hd) ha hm ?_;wtm_at "a";refine Dp w1 (by decide +kernel) w4 ?_;wtm_at "a";refine FD hx hy n (Nat.lt_of_succ_lt_succ hd) hb hm ?_;wtm_at "a";unfold A7 at q
  revert ra rb q
  generalize A7 (en x y) a=p;generalize A7 (en x y) b=r;intro ra rb q;refine Lr ?_;wtm_at "a";refine AV (a:=.int (min (p+r) 9)) (μ':=_) (show some (D.int (if p+r<9 then p+r else 9),_)=_ by rw[show (if p+r<9 then p+r else 9)=min (p+r) 9 by omega]) ?_;wtm_at "a";refine AV (a:=.int (max (p-r) 0)) (μ':=_) (show some (D.int (if p-r > 0 then p-r else 0),_)=_ by rw[show (if p-r > 0 then p-r else 0)=max (p-r) 0 by omega]) ?_;wtm_at "a";refine⟨rfl,rfl,?_⟩;have fin:∀{va vo:Int},va=one (p != 0&&r != 0)->vo=one (p != 0||r != 0)->C3 (C3 ([(.inr "+",.int (min (p+r) 9)),(.inr "-",.int (max (p-r) 0)),(.inr "=",.int (one (p==r))),(.inr "<",.int (one (decide (p<r))))]:List (Key×D)) (.inr "and") (.int va)) (.inr "or") (.int vo)=Y5 p r:=λe1 e2=>by
   rw[e1,e2]
   kernel_rfl
  have s1:∀{o o':MO},(ν++[o]).set ν.length o'=ν++[o']:=λ{o o'}=>by
   rw[AAh _ _ (AAF _),AA1];rfl
  obtain⟨bp,hp,cp⟩:∃b:Bool,(p != 0)=b/\(b=true/\0<p∨b=false/\p=0):=by
   rcases Int.lt_or_eq_of_le ra.1 with z|z
   ·exact⟨true,by simp;omega,.inl ⟨rfl,z⟩⟩
   ·exact⟨false,by subst z;rfl,.inr ⟨rfl,z.symm⟩⟩
  obtain⟨br,hr,cr⟩:∃b:Bool,(r != 0)=b/\(b=true/\0<r∨b=false/\r=0):=by
   rcases Int.lt_or_eq_of_le rb.1 with z|z
   ·exact⟨true,by simp;omega,.inl ⟨rfl,z⟩⟩
   ·exact⟨false,by subst z;rfl,.inr ⟨rfl,z.symm⟩⟩
  rcases cp with ⟨rfl,p0⟩|⟨rfl,p0⟩<;>rcases cr with ⟨rfl,r0⟩|⟨rfl,r0⟩
  all_goals
   wtm_at "a";refine EZ ?_;wtm_at "a";refine⟨ν.length,_,.inr "and",rfl,Ct _,rfl,AAE rfl,?_⟩;rw[s1];wtm_at "a";refine EZ ?_;wtm_at "a";refine⟨ν.length,_,.inr "or",rfl,Ct _,rfl,AAt (K21.Sb _ _ _) (AAE rfl),?_⟩;rw[s1];wtm_at "a";refine Az (d:=.int (pairN w p r)) (Ct _) rfl ?_ ?_
   ·rw[←Uw hw (a:=p) (b:=r)];congr 1;exact fin (by rw[hp,hr];rfl) (by rw[hp,hr];rfl)
   exact⟨_,_,_,rfl,rfl,by unfold Cl;trivial,q⟩
end
noncomputable def rBd:Sl->M (Fl×Sl):=(AQ (sIf (AS (mOp Ai (AC 1) (AH FO (AD (AC 0) AJ)))) (Ae (AH Ah (AD (mC (.str "broken")) (AD (mC (.str "silent")) AJ)))) Ak) (AQ (Ab (mOp AN (AC 0) (AC 1)) (AM 6)) (AQ (sIf (AS (mOp Ai (mOp AN (AC 6) (mC (.int 0))) (mC (.str "get")))) (Ae (AH Ah (AD (mC (.str "stands")) (AD (AC 1) AJ)))) Ak) (AQ (sIf (AS (mOp Ai (mOp AN (AC 6) (mC (.int 0))) (mC (.str "tell")))) (AQ (Ab (AH (BS 5) (AD (mOp AN (AC 6) (mC (.int 1))) (AD (AC 2) AJ))) (AM 7)) (Ae (mOp AN (AH Ba (AD (AH Ah (AD (mC (.str "told")) (AD (AC 7) AJ))) (AD (AH Ah (AD (mC (.str "broken")) (AD (mC (.str "great")) AJ))) AJ))) (AH Jq (AD (mOp MK (AC 7) (AC 3)) AJ))))) Ak) (AQ (sIf (AS (mOp (Jr false) (AH Ah (AD (AC 1) (AD (mOp Bt (AC 2) (mC (.str "x"))) (AD (mOp Bt (AC 2) (mC (.str "y"))) AJ)))) (AC 4))) (Ae (AH Ah (AD (mC (.str "broken")) (AD (mC (.str "stuck")) AJ)))) Ak) (AQ (Bs (A3 GC (AC 4) (AD (AH Ah (AD (AC 1) (AD (mOp Bt (AC 2) (mC (.str "x"))) (AD (mOp Bt (AC 2) (mC (.str "y"))) AJ)))) AJ))) (AQ (Ab (mOp Av (AC 1) (mC (.int 1))) (AM 1)) (sIf (AS (mOp Ai (mOp AN (AC 6) (mC (.int 0))) (mC (.str "let")))) (C0 (AC 2) (mOp AN (AC 6) (mC (.int 1))) (AH (BS 5) (AD (mOp AN (AC 6) (mC (.int 2))) (AD (AC 2) AJ)))) (sIf (AS (mOp Ai (mOp AN (AC 6) (mC (.int 0))) (mC (.str "jump")))) (Ab (mOp AN (AC 6) (mC (.int 1))) (AM 1)) (sIf (AS (mOp Ai (AH (BS 5) (AD (mOp AN (AC 6) (mC (.int 1))) (AD (AC 2) AJ))) (mC (.int 0)))) (Ab (mOp AN (AC 6) (mC (.int 2))) (AM 1)) Ak))))))))))
theorem P6:TJ (BS 5)=(AQ (Ab (AH EX AJ) (AM 4)) (AQ (EV (GW (AD (mC (.int 2000)) AJ)) (AM 5) rBd) (Ae (AH Ah (AD (mC (.str "long")) (AD (mC .non) AJ)))))):=rfl
noncomputable abbrev lsD(rs:List Rw):D:=.lst (rs.map Rw.toD)
inductive Du (rs:List Rw) (sz a x y:Int):D->Int->Int->Prop where
 |stuck {E' x1 y1}:fol rs a (en x y)=some (none,E')->Du rs sz a x y (.tup [.str "broken",.str "stuck"]) x1 y1
 |silent {a' x1 y1}:fol rs a (en x y)=some (some a',en x1 y1)->a'=rs.length->Du rs sz a x y (.tup [.str "broken",.str "silent"]) x1 y1
 |stands {a' x1 y1 v}:0<=a'->fol rs a (en x y)=some (some a',en x1 y1)->rs[a'.toNat]?=some (.get v "a")->Du rs sz a x y (.tup [.str "stands",.int a']) x1 y1
 |great {a' x1 y1 e}:0<=a'->fol rs a (en x y)=some (some a',en x1 y1)->rs[a'.toNat]?=some (.tell e)->sz<=A7 (en x1 y1) e->Du rs sz a x y (.tup [.str "broken",.str "great"]) x1 y1
 |told {a' x1 y1 e}:0<=a'->fol rs a (en x y)=some (some a',en x1 y1)->rs[a'.toNat]?=some (.tell e)->A7 (en x1 y1) e<sz->Du rs sz a x y (.tup [.str "told",.int (A7 (en x1 y1) e)]) x1 y1
noncomputable def bD(s:Sg):D:=.tup [.int s.1,.int ((look s.2 "x").getD 0),.int ((look s.2 "y").getD 0)]
theorem JX:bD (a,en x y)=.tup [.int a,.int x,.int y]:=by
 unfold bD;dsimp only;rw[G5,G4];rfl
def IsE(s:Sg):Prop:=∃a x y:Int,s=(a,en x y)
theorem Yc(hs:IsE s)(ht:IsE t)(e:bD s=bD t):s=t:=by
 obtain⟨a,x,y,rfl⟩:=hs;obtain⟨b,u,v,rfl⟩:=ht;rw[JX,JX] at e;simp only[D.tup.injEq,List.cons.injEq,D.int.injEq,and_true] at e;obtain⟨rfl,rfl,rfl⟩:=e;rfl
theorem WZ:∀l:List Sg,KzL (l.map bD)=true/\Bu (l.map bD)<=1
 |[]=>⟨rfl,AAm _⟩
 |m::l=>by
  obtain⟨a,b⟩:=WZ l;rw[AAX];unfold KzL Bu;rw[a];refine⟨rfl,?_⟩;show max 1 _<=1;omega
inductive Fin (rs:List Rw) (sz a x y:Int):D->Prop where
 |silent:a=rs.length->Fin rs sz a x y (.tup [.str "broken",.str "silent"])
 |stands {v}:0<=a->rs[a.toNat]?=some (.get v "a")->Fin rs sz a x y (.tup [.str "stands",.int a])
 |great {e}:0<=a->rs[a.toNat]?=some (.tell e)->sz<=A7 (en x y) e->Fin rs sz a x y (.tup [.str "broken",.str "great"])
 |told {e}:0<=a->rs[a.toNat]?=some (.tell e)->A7 (en x y) e<sz->Fin rs sz a x y (.tup [.str "told",.int (A7 (en x y) e)])
section
variable{ν:Mh}{QD:D->Mh->Prop}{QS:Fl×Sl->Mh->Prop}{x y a sz:Int}{k:Nat}{rs:List Rw}
abbrev H(ν:Mh)(k:Nat)(x y:Int):Mh:=ν.set k (.dK (Am (en x y)))
theorem He:(H ν k x y).length=ν.length:=by simp[H]
theorem Ev(hk:k<ν.length):(H ν k x y++g)[k]?=some (.dK (Am (en x y))):=by
 rw[AAT (by rw[He];exact hk)];unfold H;rw[List.getElem?_set_self hk]
theorem We(hk:k<ν.length):(H ν k x y++g).set k (.dK (Am (en x1 y1)))=H ν k x1 y1++g:=by
 rw[List.set_append_left _ _ (by rw[He];exact hk)];unfold H;rw[List.set_set]
theorem ah:(H ν k x y++[.lst bs])[ν.length]?=some (.lst bs):=by
 rw[AAS (by rw[He];exact AAF _),He,AA1];rfl
theorem NR{been:List Sg}(hb:∀s∈been,IsE s)(q:QD (.bl (decide ((a,en x y)∈been))) (H ν k x y++[.lst (been.map bD)])):WP (Jr false (.tup [.int a,.int x,.int y]) (.ref ν.length)) (H ν k x y++[.lst (been.map bD)]) QD:=by
 refine AV (a:=.bl (decide ((a,en x y)∈been))) (μ':=H ν k x y++[.lst (been.map bD)]) ?_ q;obtain⟨z1,z2⟩:=WZ been;unfold Jr;rw[A8 (show B7 (.ref ν.length) (H ν k x y++[.lst (been.map bD)])=some (been.map bD,H ν k x y++[.lst (been.map bD)]) from by
  show (match (H ν k x y++[MO.lst (been.map bD)])[ν.length]? with|some (.lst ds)=>some (ds,H ν k x y++[MO.lst (been.map bD)])|_=>none)=_;rw[ah])]
 rw[if_pos ⟨rfl,z1,by omega⟩];have e:((been.map bD).any λz=>decide (z=.tup [.int a,.int x,.int y]))=decide ((a,en x y)∈been):=by
  rw[Bool.eq_iff_iff,List.any_eq_true,decide_eq_true_iff];constructor
  ·rintro⟨z,hz,e⟩;obtain⟨s,hs,rfl⟩:=AAM.mp hz;have e:=of_decide_eq_true e;rw[←JX] at e;rw[←Yc (hb s hs) ⟨a,x,y,rfl⟩ e];exact hs
  ·intro h;exact⟨bD (a,en x y),AAM.mpr ⟨_,h,rfl⟩,AAP JX⟩
 rw[e];rfl
noncomputable abbrev τr(rs:List Rw)(k n:Nat)(a sz:Int)(o5 o6 o7:Option D):Sl:=[some (lsD rs),some (.int a),some (.ref k),some (.int sz),some (.ref n),o5,o6,o7]
theorem ixl(ha:0<=a)(h:rs[a.toNat]?=some r):atI (rs.map Rw.toD) a=some r.toD:=Kst.ix_row ha h
theorem ZP:C3 (Am (en x y)) (.inr "x") (.int n)=Am (en n y):=by rw[Kst.put_env (by rw[G5];rfl),Sa]
theorem ZO:C3 (Am (en x y)) (.inr "y") (.int n)=Am (en x n):=by rw[Kst.put_env (by rw[G4];rfl),SZ]
theorem Uj{bf:D->Sl->M Sl}{m1 m2:Sl->M (Fl×Sl)}{x:D}(e:m1=m2)(h:WP (bf x τ) μ λτ1 μ1=>WP (m2 τ1) μ1 (Me (λτ2 μ2=>WP (Cu bf m1 xs τ2) μ2 QS) QS)):WP (Cu bf m1 (x::xs) τ) μ QS:=by
 refine Bk ?_;rw[←e] at h;exact h
theorem Dq(h:Rok rs)(hk:k<ν.length){res:Option Sg}:∀(m:Nat) (ls:List D) {been:List Sg} {a x y:Int} {o5 o6 o7:Option D},ls.length=m->(∀s∈been,IsE s)->been.length+m<=2000->In rs (a,en x y)->lrn (F3 rs) (stp rs) m been (a,en x y)=some res->
  (∀x1 y1 τ g,res=none->R9 x1->R9 y1->QS (.rt (.tup [.str "broken",.str "stuck"]),τ) (H ν k x1 y1++[g]))->
  (∀a1 x1 y1 d τ g,res=some (a1,en x1 y1)->R9 x1->R9 y1->Fin rs sz a1 x1 y1 d->QS (.rt d,τ) (H ν k x1 y1++[g]))->
  WP (Cu (AM 5) rBd ls (τr rs k ν.length a sz o5 o6 o7)) (H ν k x y++[.lst (been.map bD)]) QS
 |0,_,_,_,_,_,_,_,_,_,_,_,_,hr,_,_=>by cases hr
 |m+1,[],_,_,_,_,_,_,_,hl,_,_,_,_,_,_=>by cases hl
 |m+1,l::ls,been,a,x,y,o5,o6,o7,hl,hb,h2,hi,hr,q1,q2=>by
  have hi0:=hi;obtain⟨⟨a0,a1⟩,x',y',he,hx,hy⟩:=hi;have a0:0<=a:=a0;have a1:a<=rs.length:=a1;have hxy:x'=x/\y'=y:=by
   have he:en x y=en x' y':=he;simp only[en,List.cons.injEq,Prod.mk.injEq,and_true,true_and] at he;exact⟨he.1.symm,he.2.symm⟩
  obtain⟨rfl,rfl⟩:=hxy;unfold lrn at hr;refine Uj (by delta rBd;rfl) ?_;wtm_at "a";refine K21.FE ?_;rw[AAG];wtm_at "a";cases e:rs[a.toNat]? with
  |none=>
   have:=List.getElem?_eq_none_iff.mp e;have ea:a=rs.length:=by omega
   have hs:stp rs (a,en x' y')=true:=by unfold stp;dsimp only;rw[e]
   rw[if_pos hs] at hr;cases hr;rw[beq_iff_eq.mpr ea];wtm_at "a";exact q2 _ _ _ _ _ _ rfl hx hy (.silent ea)
  |some r=>
   have hlt:=(AAU.mp e).1;have hm:r∈rs:=AAV e;have ro:=h.ro r hm;rw[AAg.mpr (by omega)];wtm_at "a";refine IM (ixl a0 e) ?_;have stop:isU r=false->stp rs (a,en x' y')=true:=λhu=>by unfold stp;dsimp only;rw[e];show (!isU r)=true;rw[hu];rfl
   have nost:isU r=true->stp rs (a,en x' y')=false/\F3 rs (a,en x' y')=BQ r a (en x' y'):=λhu=>⟨by unfold stp;dsimp only;rw[e];show (!isU r)=false;rw[hu];rfl,by unfold F3;dsimp only;rw[e]⟩;cases r with
   |put b e=>exact ro.elim
   |fin=>exact ro.elim
   |get v b=>
    obtain⟨rv,rfl⟩:=(show v∈(["x", "y"]:List Str)/\b = "a" from ro);rw[if_pos (stop rfl)] at hr;cases hr;unfold Rw.toD;wtm_at "a";exact q2 _ _ _ _ _ _ rfl hx hy (.stands a0 e)
   |tell e'=>
    rw[if_pos (stop rfl)] at hr;cases hr;unfold Rw.toD;wtm_at "a";refine FD hx hy 5 (d:=2) (by omega) ro (Ev hk) ?_;wtm_at "a";by_cases hs:A7 (en x' y') e'<sz
    ·rw[AAO (show ¬sz<=A7 (en x' y') e' by omega)];wtm_at "a";exact q2 _ _ _ _ _ _ rfl hx hy (.told a0 e hs)
    ·rw[AAP (show sz<=A7 (en x' y') e' by omega)];wtm_at "a";exact q2 _ _ _ _ _ _ rfl hx hy (.great a0 e (by omega))
   |lett v e'=>
    obtain⟨n1,n2⟩:=nost rfl;rw[if_neg (by rw[n1];decide)] at hr;have nx:=ID h hi0 n1;rw[n2] at nx hr;unfold Rw.toD;wtm_at "a";refine Az (Ev hk) rfl GL ?_;wtm_at "a";refine Az (Ev hk) rfl GJ ?_;wtm_at "a";refine NR hb ?_;by_cases mem:(a,en x' y')∈been
    ·rw[if_pos mem] at hr;cases hr;rw[AAP mem];wtm_at "a";exact q1 _ _ _ _ rfl hx hy
    ·rw[if_neg mem] at hr;rw[AAO mem];wtm_at "a";refine CT (gs:=H ν k x' y') (show _=some (some (D.ref (H ν k x' y').length)) from by rw[He];rfl) (by rw[AAG,sizeLine_eq];omega) ?_;wtm_at "a";refine Az (Ev hk) rfl GL ?_;wtm_at "a";refine Az (Ev hk) rfl GJ ?_;wtm_at "a";refine⟨H ν k x' y',_,rfl,rfl,rfl,?_⟩;rw[show been.map bD++[D.tup [.int a,.int x',.int y']]=(been++[(a,en x' y')]).map bD by rw[AAY,List.map_singleton,JX]];have hb':∀s∈been++[(a,en x' y')],IsE s:=λs hs=>(AAK.mp hs).elim (hb s) λz=>⟨a,x',y',AAL.mp z⟩;have l':(been++[(a,en x' y')]).length+m<=2000:=by rw[AAH,List.length_singleton];omega
     have hl':ls.length=m:=by simpa using hl
     wtm_at "a";refine EZ ?_;wtm_at "a";refine FD hx hy 5 (d:=2) (by omega) ro.2 (Ev hk) ?_;wtm_at "a";have rv:=ro.1;simp only[AAJ,List.mem_nil_iff,or_false] at rv;rcases rv with rfl|rfl
     ·refine⟨k,_,.inr "x",rfl,Ev hk,rfl,by show 2<1000;omega,?_⟩;rw[ZP,We hk];have er:BQ (.lett "x" e') a (en x' y')=(a+1,en (A7 (en x' y') e') y'):=by show (a+1,CZ _ _ _)=_;rw[Sa]
      rw[er] at hr nx;exact Aq (Dq h hk m ls hl' hb' l' nx hr q1 q2)
     ·refine⟨k,_,.inr "y",rfl,Ev hk,rfl,by show 2<1000;omega,?_⟩;rw[ZO,We hk];have er:BQ (.lett "y" e') a (en x' y')=(a+1,en x' (A7 (en x' y') e')):=by show (a+1,CZ _ _ _)=_;rw[SZ]
      rw[er] at hr nx;exact Aq (Dq h hk m ls hl' hb' l' nx hr q1 q2)
   |unl e' t=>
    obtain⟨n1,n2⟩:=nost rfl;rw[if_neg (by rw[n1];decide)] at hr;have nx:=ID h hi0 n1;rw[n2] at nx hr;unfold Rw.toD;wtm_at "a";refine Az (Ev hk) rfl GL ?_;wtm_at "a";refine Az (Ev hk) rfl GJ ?_;wtm_at "a";refine NR hb ?_;by_cases mem:(a,en x' y')∈been
    ·rw[if_pos mem] at hr;cases hr;rw[AAP mem];wtm_at "a";exact q1 _ _ _ _ rfl hx hy
    ·rw[if_neg mem] at hr;rw[AAO mem];wtm_at "a";refine CT (gs:=H ν k x' y') (show _=some (some (D.ref (H ν k x' y').length)) from by rw[He];rfl) (by rw[AAG,sizeLine_eq];omega) ?_;wtm_at "a";refine Az (Ev hk) rfl GL ?_;wtm_at "a";refine Az (Ev hk) rfl GJ ?_;wtm_at "a";refine⟨H ν k x' y',_,rfl,rfl,rfl,?_⟩;rw[show been.map bD++[D.tup [.int a,.int x',.int y']]=(been++[(a,en x' y')]).map bD by rw[AAY,List.map_singleton,JX]];have hb':∀s∈been++[(a,en x' y')],IsE s:=λs hs=>(AAK.mp hs).elim (hb s) λz=>⟨a,x',y',AAL.mp z⟩;have l':(been++[(a,en x' y')]).length+m<=2000:=by rw[AAH,List.length_singleton];omega
     have hl':ls.length=m:=by simpa using hl
     wtm_at "a";refine FD hx hy 5 (d:=2) (by omega) ro.1 (Ev hk) ?_;wtm_at "a";by_cases hz:A7 (en x' y') e'=0
     ·rw[beq_iff_eq.mpr hz];wtm_at "a";have er:BQ (.unl e' t) a (en x' y')=(t,en x' y'):=if_pos hz;rw[er] at hr nx;exact Aq (Dq h hk m ls hl' hb' l' nx hr q1 q2)
     ·rw[AAg.mpr hz];wtm_at "a";have er:BQ (.unl e' t) a (en x' y')=(a+1,en x' y'):=if_neg hz;rw[er] at hr nx;exact Aq (Dq h hk m ls hl' hb' l' nx hr q1 q2)
   |jump t=>
    obtain⟨n1,n2⟩:=nost rfl;rw[if_neg (by rw[n1];decide)] at hr;have nx:=ID h hi0 n1;rw[n2] at nx hr;unfold Rw.toD;wtm_at "a";refine Az (Ev hk) rfl GL ?_;wtm_at "a";refine Az (Ev hk) rfl GJ ?_;wtm_at "a";refine NR hb ?_;by_cases mem:(a,en x' y')∈been
    ·rw[if_pos mem] at hr;cases hr;rw[AAP mem];wtm_at "a";exact q1 _ _ _ _ rfl hx hy
    ·rw[if_neg mem] at hr;rw[AAO mem];wtm_at "a";refine CT (gs:=H ν k x' y') (show _=some (some (D.ref (H ν k x' y').length)) from by rw[He];rfl) (by rw[AAG,sizeLine_eq];omega) ?_;wtm_at "a";refine Az (Ev hk) rfl GL ?_;wtm_at "a";refine Az (Ev hk) rfl GJ ?_;wtm_at "a";refine⟨H ν k x' y',_,rfl,rfl,rfl,?_⟩;rw[show been.map bD++[D.tup [.int a,.int x',.int y']]=(been++[(a,en x' y')]).map bD by rw[AAY,List.map_singleton,JX]];have hb':∀s∈been++[(a,en x' y')],IsE s:=λs hs=>(AAK.mp hs).elim (hb s) λz=>⟨a,x',y',AAL.mp z⟩;have l':(been++[(a,en x' y')]).length+m<=2000:=by rw[AAH,List.length_singleton];omega
     have hl':ls.length=m:=by simpa using hl
     wtm_at "a";exact Aq (Dq h hk m ls hl' hb' l' nx hr q1 q2)
end
end K23
namespace Mi
open PySem L2
theorem Po(hl:ds.length=ps)(h:WP (mb (BV N ds)) μ λr μ2=>∃es τ2 μ1 gs j,r=(.rt (.ref j),τ2)/\μ2=μ1++gs/\XU n μ μ1/\μ.length<=j/\μ2[j]?=some (.lst es)/\ClL μ.length es/\QD (.lst es) μ1):WP (BJ .frz N ps mb ds) μ QD:=by
 obtain⟨r,μ2,e,es,τ2,μ1,gs,j,rfl,rfl,u,hj,hg,c,q⟩:=h;have t:Jl μ (μ1++gs) .frz=μ1:=by show (μ1++gs).take μ.length=μ1;rw[←u.len,List.take_left]
 have o:QG (μ1++gs) .frz (Ej (.rt (.ref j)))=.lst es:=by
  show (match (μ1++gs)[j]? with|some (.lst ds)=>D.lst ds|_=>.ref j)=_;rw[hg]
 refine AV (a:=.lst es) (μ':=μ1) ?_ q;have hh:=Dl (hw:=.frz) e hl (.inr ⟨_,rfl⟩) (by
  rw[t,o];refine⟨⟨gs,rfl⟩,by rw[u.len];exact AAF _,λi o e=>?_,.inr ⟨j,es,rfl,hg,by rw[u.len];exact hj,rfl,by rw[u.len];exact c⟩⟩;by_cases hi:i=n
  ·subst hi;obtain⟨xs,rfl⟩:=u;right;rw[List.getElem?_set] at e;simp at e;obtain⟨_,rfl⟩:=e;exact YZ xs
  ·left;rw[←u.other hi];exact e)
 rw[t,o] at hh;exact hh
end Mi
namespace K23
open PySem L2 Mi Xt
open K21 (Ex Rw BH BG)
open Kst (A7 BQ isU Rows Has Ek Rk look CZ Am fol B0 it brt lrn one pairN)
section
variable{ν:Mh}{QD:D->Mh->Prop}{x y a sz:Int}{k:Nat}{rs:List Rw}{d:D}
theorem Zw(h:Du rs sz a x y d x1 y1):Cl k d:=by cases h<;>simp[Cl,ClL]
theorem YY:ClO n (.dK (Am (en x y))):=by simp[ClO,ClL,Cl]
theorem Wu(h:Rok rs)(ha:0<=a/\a<=rs.length)(hx:R9 x)(hy:R9 y)(hk:k<ν.length)(q:∀d x1 y1,R9 x1->R9 y1->Du rs sz a x y d x1 y1->QD d (H ν k x1 y1)):WP (E6 [lsD rs,.int a,.ref k,.int sz]) (H ν k x y) QD:=by
 have ch:∀{x1 y1:Int},Chg k (H ν k x y) (H ν k x1 y1):=λ{x1 y1}=>by
  have:H ν k x1 y1=(H ν k x y).set k (.dK (Am (en x1 y1))):=by unfold H;rw[List.set_set]
  rw[this];exact Chg.set (AAF _) λ_=>YY
 have fin:∀{d:D} {x1 y1:Int} {τ:Sl} {g:MO},R9 x1->R9 y1->Du rs sz a x y d x1 y1->∃d' τ2 μ1 gs,(Fl.rt d,τ)=(Fl.rt d',τ2)/\H ν k x1 y1++[g]=μ1++gs/\Chg k (H ν k x y) μ1/\Cl (List.length ν) d'/\QD d' μ1:=λ{d x1 y1 τ g} h1 h2 du=>⟨d,τ,H ν k x1 y1,[g],rfl,rfl,ch,Zw du,q _ _ _ h1 h2 du⟩;unfold E6;refine Rj (n:=k) rfl ?_;rw[P6];wtm_at "a";rw[He];refine GI (n:=2000) rfl (by omega) ?_;rcases agree h ha hx hy with ⟨a',x',y',hb,hx',hy',hs,hf,hr⟩|⟨⟨E',hf⟩,hr⟩
 ·refine Dq (been:=[]) (sz:=sz) h hk 2000 _ (by rw[AAG,List.length_range]) (λs hs=>nomatch hs) (by show 0+2000<=2000;omega) ⟨ha,x,y,rfl,hx,hy⟩ hr (λx1 y1 τ g z=>nomatch z) (λa1 x1 y1 d τ g z h1 h2 fi=>?_);have z:=Option.some.inj z;simp only[Prod.mk.injEq,en,List.cons.injEq,and_true,true_and] at z;obtain⟨rfl,rfl,rfl⟩:=z;wtm_at "a";refine fin h1 h2 ?_;cases fi with
  |silent e=>exact .silent hf e
  |stands h0 e=>exact .stands h0 hf e
  |great h0 e s=>exact .great h0 hf e s
  |told h0 e s=>exact .told h0 hf e s
 ·refine Dq (been:=[]) (sz:=sz) h hk 2000 _ (by rw[AAG,List.length_range]) (λs hs=>nomatch hs) (by show 0+2000<=2000;omega) ⟨ha,x,y,rfl,hx,hy⟩ hr (λx1 y1 τ g z h1 h2=>?_) (λa1 x1 y1 d τ g z=>nomatch z);wtm_at "a";exact fin h1 h2 (.stuck hf)
end
end K23
namespace K23
open PySem L2 Mi Xt
open K21 (Ex Rw BH BG F8 JQ Ga ED FE K1 K2)
section
variable{μ:Mh}{QD:D->Mh->Prop}{m k:Nat}
theorem FF:∀(d n:Nat) {ns:List Str} {μ:Mh} {QD:D->Mh->Prop} {k:Nat},d<n->ns≠[]->(∀x∈ns,x∈(["x", "y"]:List Str))->Xs μ m k->F8 d<=k->(∀e μ1,Eo d e->XU m μ μ1->Xs μ1 m (k-F8 d)->QD e.toD μ1)->WP (FM n [.ref m,.lst (ns.map D.str),.int (d:Int)]) μ QD
 |d,0,_,_,_,_,h,_,_,_,_,_=>absurd h (Nat.not_lt_zero d)
 |d,n+1,ns,μ,QD,k,h,h1,h2,x,hk,q=>by
  have cp:=JQ d;unfold FM;refine Rh (n:=m) rfl ?_;unfold O6;wtm_at "b";refine Fm (k:=k) rfl x (by omega) λv μ1 u1 x1=>?_;wtm_at "b";have leaf:WP ((AQ (sIf (AS (mOp Ai (mOp BE (AC 3) (mC (.int 2))) (mC (.int 0)))) (Ae (AH Ah (AD (mC (.str "num")) (AD (mOp BE (mOp A6 (Ay Ca (AC 0)) (mC (.int 3))) (mC (.int 4))) AJ)))) Ak)
   (Ae (AH Ah (AD (mC (.str "var")) (AD (mOp AN (AC 1) (mOp BE (mOp A6 (Ay Ca (AC 0)) (mC (.int 3))) (AH FO (AD (AC 1) AJ)))) AJ))))) [some (.ref m),some (.lst (ns.map D.str)),some (.int (d:Int)),some (.int (v / 3 % 9)),none,none]) μ1 (λr μ2=>∃e τ2 μ3,r=(Fl.rt (Ex.toD e),τ2)/\μ2=μ3/\Eo d e/\XU m μ μ3/\Xs μ3 m (k-2)):=by
   wtm_at "b";cases e:(v / 3 % 9 % 2==(0:Int)) with
   |true=>
    refine CD ?_;wtm_at "b";refine Fm (k:=k-1) rfl x1 (by omega) λv2 μ2 u2 x2=>?_;wtm_at "b";exact⟨.num (v2 / 3 % 4),_,_,rfl,rfl,by unfold Eo;omega,u1.trans u2,x2.mono (by omega)⟩
   |false=>
    refine BP ?_;wtm_at "b";refine Fm (k:=k-1) rfl x1 (by omega) λv2 μ2 u2 x2=>?_;wtm_at "b";refine FE ?_;rw[AAG];have lp:0<ns.length:=List.length_pos_iff.mpr h1;refine RN (by omega) ?_;obtain⟨w,hw,ew⟩:=ED h1 (v2 / 3);refine IM ew ?_;wtm_at "b";exact⟨.var w,_,_,rfl,rfl,by unfold Eo;exact h2 w hw,u1.trans u2,x2.mono (by omega)⟩
  have toEnd:∀{m2:Sl->M (Fl×Sl)} {r:Fl×Sl} {μ2:Mh},(∃e τ2 μ3,r=(Fl.rt (Ex.toD e),τ2)/\μ2=μ3/\Eo d e/\XU m μ μ3/\Xs μ3 m (k-2))->J3 m2 (λr μ2=>∃d τ2 μ1 gs,r=(.rt d,τ2)/\μ2=μ1++gs/\XU m μ μ1/\Cl μ.length d/\QD d μ1) r μ2:=λ⟨e,τ2,μ3,z1,z2,ok,u,x⟩=>by
   rw[z1,z2];have x':Xs μ3 m (k-F8 d):=x.mono (by omega);exact Rm ⟨_,_,μ3,[],rfl,by simp,u,Ga _ e,q e μ3 ok u x'⟩
  cases d with
  |zero=>
   refine K1 (CD ?_);exact Ac leaf λr μ2 z=>toEnd z
  |succ d=>
   have ne:(((d+1:Nat):Int)==0)=false:=AAg.mpr (by omega);rw[ne];refine K2 ?_;wtm_at "b";by_cases lt:v / 3 % 9<4
   ·rw[AAP lt];refine CD ?_;exact Ac leaf λr μ2 z=>toEnd z
   ·rw[AAO lt];refine BP ?_;have cd:F8 (d+1)=2+2 * F8 d:=rfl;have ed:((d+1:Nat):Int)-1=(d:Int):=by omega
    wtm_at "b";cases e4:(v / 3 % 9==(4:Int)) with
    |true=>
     refine CD ?_;wtm_at "b";rw[ed];refine FF d n (by omega) h1 h2 x1 (by omega) λe μ2 ok u2 x2=>?_;wtm_at "b";exact⟨_,_,μ2,[],rfl,by simp,u1.trans u2,Ga _ (.neg e),q (.neg e) μ2 ok (u1.trans u2) (x2.mono (by omega))⟩
    |false=>
     refine BP ?_;wtm_at "b";refine Fm (k:=k-1) rfl x1 (by omega) λv2 μ2 u2 x2=>?_;wtm_at "b";obtain⟨w,hw,ew⟩:=ED (xs:=BH) (by decide) (v2 / 3);refine IM ew ?_;wtm_at "b";rw[ed];refine FF d n (by omega) h1 h2 x2 (by omega) λea μ3 oa u3 x3=>?_;wtm_at "b";rw[ed];refine FF d n (by omega) h1 h2 x3 (by omega) λeb μ4 ob u4 x4=>?_;wtm_at "b";have u:=((u1.trans u2).trans u3).trans u4;exact⟨_,_,μ4,[],rfl,by simp,u,Ga _ (.bin w ea eb),q (.bin w ea eb) μ4 ⟨hw,oa,ob⟩ u (x4.mono (by omega))⟩
end
end K23
namespace K23
open PySem L2 Mi Xt
open K21 (Ex Rw BH BG F8 JQ Ga ED FE K1 K2 Il Fs)
theorem Q3(i:Int):∃c∈(["x", "y"]:List Str),∀μ:Mh,AN (.str "xy") (.int (i % 2)) μ=some (.str c,μ):=by
 rcases(show i % 2=0∨i % 2=1 by omega) with z|z<;>rw[z]
 ·exact⟨"x",by decide +kernel,λμ=>by rfl⟩
 ·exact⟨"y",by decide +kernel,λμ=>by rfl⟩
section
variable{μ:Mh}{QD:D->Mh->Prop}{m k:Nat}
theorem Lq(h:d<n)(h1:ns≠[])(h2:∀x∈ns,x∈(["x", "y"]:List Str))(x:Xs μ m k)(hk:F8 d<=k)(q:∀e μ1,Eo d e->XU m μ μ1->Xs μ1 m (k-F8 d)->QD e.toD (μ1++gs)):WP (FM n [.ref m,.lst (ns.map D.str),.int (d:Int)]) (μ++gs) QD:=
 FF d n h h1 h2 (x.app gs) hk λe μ1 ok u x1=>by
  obtain⟨μ3,rfl,u3⟩:=u.cut x.lt;exact q e μ3 ok u3 (x1.cut (by rw[u3.len];exact x.lt))
theorem Nr(u:XU m μ μ1):(some (D.ref μ.length))=some (D.ref μ1.length):=by rw[u.len]
theorem UR(x:Xs μ m k)(hk:118<=k)(q:∀(rs:List Rw) (μ1:Mh),2<=rs.length->rs.length<=7->(∀r∈rs,Ro rs.length r)->XU m μ μ1->Xs μ1 m (k-118)->QD (.lst (rs.map Rw.toD)) μ1):WP (FL [.ref m]) μ QD:=by
 unfold FL;refine Po (n:=m) rfl ?_;unfold O5;wtm_at "b";refine Fm (k:=k) rfl x (by omega) λv μ1 u1 x1=>?_;wtm_at "b";obtain⟨N,hN⟩:=Int.eq_ofNat_of_zero_le (show 0<=2+v / 3 % 6 by omega);rw[hN];have N2:2<=N:=by omega
 have N7:N<=7:=by omega
 have le:=u1.len;rw[u1.len];refine GI (n:=N) rfl (by omega) ?_;refine Kx (I:=λj τ μ'=>∃(rs:List Rw) (μ2:Mh) (o3 o4:Option D),rs.length=j/\(∀r∈rs,Ro N r)/\XU m μ μ2/\Xs μ2 m (k-1-16 * j)/\μ'=μ2++[MO.lst (rs.map Rw.toD)]/\τ=[some (.ref m),some (.int (N:Int)),some (.ref μ.length),o3,o4]) ?_ ?_ ⟨[],μ1,none,none,rfl,(λr hr=>nomatch hr),u1,x1,rfl,rfl⟩
 ·rintro j τ μ' hj ⟨rs,μ2,o3,o4,hl,hro,u,x,rfl,rfl⟩;have c2:F8 2=14:=rfl;have c1:F8 1=6:=rfl;wtm_at "b";refine CS (k:=k-1-16 * j) rfl x (by omega) λw μ3 u3 x3=>?_;wtm_at "b";by_cases h3:w / 3 % 6<3
  ·rw[AAP h3];wtm_at "b";refine CT (gs:=μ3) (Nr (u.trans u3) ▸ rfl) (by rw[AAG,sizeLine_eq];omega) ?_;wtm_at "b";refine CS (k:=k-1-16 * j-1) rfl x3 (by omega) λw4 μ4 u4 x4=>?_;wtm_at "b";obtain⟨c,hc,ec⟩:=Q3 (w4 / 3);refine AV (ec _) ?_;wtm_at "b";refine Lq (d:=2) (ns:=["x", "y"]) (by omega) (by decide) (λ_ h=>h) x4 (by omega) λe μ5 ok u5 x5=>?_;wtm_at "b";have u45:=u4.trans u5;refine⟨μ5,_,rfl,rfl,u45.len,Aq ⟨rs++[.lett c e],μ5,_,_,by rw[AAH,hl];rfl,λr hr=>?_,(u.trans u3).trans u45,x5.mono (by omega),by rw[AAY];rfl,rfl⟩⟩;rcases AAK.mp hr with z|z
   ·exact hro r z
   ·rw[AAL.mp z];exact⟨hc,ok⟩
  ·rw[AAO h3];wtm_at "b";by_cases h5:w / 3 % 6<5
   ·rw[AAP h5];wtm_at "b";refine CT (gs:=μ3) (Nr (u.trans u3) ▸ rfl) (by rw[AAG,sizeLine_eq];omega) ?_;wtm_at "b";refine Lq (d:=1) (ns:=["x", "y"]) (by omega) (by decide) (λ_ h=>h) x3 (by omega) λe μ5 ok u5 x5=>?_;wtm_at "b";refine CS (k:=k-1-16 * j-1-F8 1) rfl x5 (by omega) λw4 μ4 u4 x4=>?_;wtm_at "b";have t1:=AAZ (w4 / 3) (show ((N:Int)+1)≠0 by omega);have t2:=AAa (w4 / 3) (show (0:Int)<(N:Int)+1 by omega);have u45:=u5.trans u4;refine⟨μ4,_,rfl,rfl,u45.len,Aq ⟨rs++[.unl e (w4 / 3 % (N+1))],μ4,_,_,by rw[AAH,hl];rfl,λr hr=>?_,(u.trans u3).trans u45,x4.mono (by omega),by rw[AAY];rfl,rfl⟩⟩;rcases AAK.mp hr with z|z
    ·exact hro r z
    ·rw[AAL.mp z];exact⟨Eo.up 1 e ok,by omega,by omega⟩
   ·rw[AAO h5];wtm_at "b";refine CT (gs:=μ3) (Nr (u.trans u3) ▸ rfl) (by rw[AAG,sizeLine_eq];omega) ?_;wtm_at "b";refine CS (k:=k-1-16 * j-1) rfl x3 (by omega) λw4 μ4 u4 x4=>?_;wtm_at "b";have t1:=AAZ (w4 / 3) (show ((N:Int)+1)≠0 by omega);have t2:=AAa (w4 / 3) (show (0:Int)<(N:Int)+1 by omega);refine⟨μ4,_,rfl,rfl,u4.len,Aq ⟨rs++[.jump (w4 / 3 % (N+1))],μ4,_,_,by rw[AAH,hl];rfl,λr hr=>?_,(u.trans u3).trans u4,x4.mono (by omega),by rw[AAY];rfl,rfl⟩⟩;rcases AAK.mp hr with z|z
    ·exact hro r z
    ·rw[AAL.mp z];exact⟨by omega,by omega⟩
 ·rintro τ μ' ⟨rs,μ2,o3,o4,hl,hro,u,x,rfl,rfl⟩;have tail:∀(rs:List Rw) (μ2:Mh) (o3 o4:Option D),rs.length=N->(∀r∈rs,Ro N r)->XU m μ μ2->Xs μ2 m (k-116)->WP ((AQ (sIf (AS (mOp Jj (mOp BE (mOp A6 (Ay Ca (AC 0)) (mC (.int 3))) (mC (.int 6))) (mC (.int 0)))) (Ab (AH Ah (AD (mC (.str "tell")) (AD (AH Ah (AD (mC (.str "var")) (AD (mOp AN (mC (.str "xy")) (mOp BE (mOp A6 (Ay Ca (AC 0)) (mC (.int 3))) (mC (.int 2)))) AJ))) AJ))) (Qt (AC 2) (mUn Ha (mC (.int 1))))) Ak) (Ae (AC 2))) [some (.ref m),some (.int (N:Int)),some (.ref μ.length),o3,o4]) (μ2++[.lst (rs.map Rw.toD)]) (λr μ2=>∃es τ2 μ1 gs j,r=(.rt (.ref j),τ2)/\μ2=μ1++gs/\XU m μ μ1/\μ.length<=j/\μ2[j]?=some (.lst es)/\ClL μ.length es/\QD (.lst es) μ1):=by
   intro rs μ2 o3 o4 hl hro u x;have fin:∀(rs:List Rw) (μ2:Mh) (τ:Sl),rs.length=N->(∀r∈rs,Ro N r)->XU m μ μ2->Xs μ2 m (k-118)->∃es τ2 μ1 gs j,(Fl.rt (D.ref μ.length),τ)=(.rt (.ref j),τ2)/\μ2++[MO.lst (rs.map Rw.toD)]=μ1++gs/\XU m μ μ1/\μ.length<=j/\(μ2++[MO.lst (rs.map Rw.toD)])[j]?=some (.lst es)/\ClL μ.length es/\QD (.lst es) μ1:=λrs μ2 τ hl hro u x=>⟨_,_,μ2,_,_,rfl,rfl,u,AAF _,by rw[←u.len];exact Ct _,Fs _ rs,q rs μ2 (by omega) (by omega) (by rw[hl];exact hro) u x⟩;wtm_at "b";refine CS (k:=k-116) rfl x (by omega) λw μ3 u3 x3=>?_;wtm_at "b";by_cases h0:w / 3 % 6 > 0
   ·rw[AAP h0];wtm_at "b";refine NT ?_;wtm_at "b";refine CS (k:=k-116-1) rfl x3 (by omega) λw4 μ4 u4 x4=>?_;wtm_at "b";obtain⟨c,hc,ec⟩:=Q3 (w4 / 3);refine AV (ec _) ?_;wtm_at "b";refine Ls ?_;wtm_at "b";refine AV (a:=.int (-1)) (μ':=_) rfl ?_;have ut:=(u.trans u3).trans u4;refine⟨μ.length,-1,rs.map Rw.toD,N-1,rfl,rfl,by rw[←ut.len];exact Ct _,?_,?_⟩
    ·rw[AAG,hl];unfold ixN;rw[if_neg (by decide),if_pos (by omega)];congr 1;omega
    rw[←ut.len,AAh _ _ (AAF _),AA1,List.set_cons_zero,ut.len];wtm_at "b";rw[show (rs.map Rw.toD).set (N-1) (.tup [.str "tell",.tup [.str "var",.str c]])=(rs.set (N-1) (.tell (.var c))).map Rw.toD by rw[List.map_set];rfl];refine fin _ _ _ (by rw[List.length_set];exact hl) (λr hr=>?_) ut (x4.mono (by omega));rcases List.mem_or_eq_of_mem_set hr with z|z
    ·exact hro r z
    ·rw[z];unfold Ro Eo;exact hc
   ·rw[AAO h0];wtm_at "b";exact fin _ _ _ hl hro (u.trans u3) (x3.mono (by omega))
  wtm_at "b";refine CS (k:=k-1-16 * N) rfl x (by omega) λw μ3 u3 x3=>?_;wtm_at "b";have u13:=u.trans u3;cases e2:(w / 3 % 2==(0:Int)) with
  |false=>
   refine BP ?_;(with_reducible apply Gs);(with_reducible apply DV);exact tail rs μ3 _ _ hl hro u13 (x3.mono (by omega))
  |true=>
   refine CD ?_;refine NT ?_;wtm_at "b";refine CS (k:=k-1-16 * N-1) rfl x3 (by omega) λw4 μ4 u4 x4=>?_;wtm_at "b";obtain⟨c,hc,ec⟩:=Q3 (w4 / 3);refine AV (ec _) ?_;wtm_at "b";refine Ls ?_;wtm_at "b";refine CS (k:=k-1-16 * N-1-1) rfl x4 (by omega) λw5 μ5 u5 x5=>?_;wtm_at "b";have ut:=(u13.trans u4).trans u5;have t1:=AAZ (w5 / 3) (show (N:Int)≠0 by omega);have t2:=AAa (w5 / 3) (show (0:Int)<(N:Int) by omega);refine⟨μ.length,w5 / 3 % N,rs.map Rw.toD,(w5 / 3 % N).toNat,rfl,rfl,by rw[←ut.len];exact Ct _,?_,?_⟩
   ·rw[AAG,hl];unfold ixN;rw[if_pos t1,if_pos t2]
   rw[←ut.len,AAh _ _ (AAF _),AA1,List.set_cons_zero,ut.len];(with_reducible apply DV);rw[show (rs.map Rw.toD).set (w5 / 3 % N).toNat (.tup [.str "get",.str c,.str "a"])=(rs.set (w5 / 3 % N).toNat (.get c "a")).map Rw.toD by rw[List.map_set];rfl];refine tail _ _ _ _ (by rw[List.length_set];exact hl) (λr hr=>?_) ut (x5.mono (by omega));rcases List.mem_or_eq_of_mem_set hr with z|z
   ·exact hro r z
   ·rw[z];exact⟨hc,rfl⟩
end
end K23
namespace K23
open PySem L2 Mi Xt
open K21 (Ex Rw BH BG Il Fs)
open Kst (A7 BQ isU Rows Has Ek Rk look CZ Am fol B0 it brt lrn one pairN)
section
variable{μ:Mh}{QD:D->Mh->Prop}
theorem Pl(q:∀n μ1,Xs μ1 n 200->QD (.ref n) μ1):WP (Cy [.int c,.int 200]) [] QD:=by
 unfold Cy;refine An rfl ?_;unfold KO;wtm_at "b";refine Ww (by decide) ?_;wtm_at "b";cases e0:decide (((10:Int) ^ (40:Int).toNat)<=c) with
 |true=>
  wtm_at "b";refine GI (n:=200) rfl (by omega) ?_;refine Kx (I:=λj τ μ'=>∃(l:List Int) (r:Int) (o4:Option D),l.length=j/\μ'=[.lst (l.map D.int)]/\τ=[some (.int c),some (.int 200),some (.ref 0),some (.int r),o4,none,none]) ?_ ?_ ⟨[],c / 7,none,rfl,rfl,rfl⟩
  ·rintro j τ μ' hj ⟨l,r,o4,hl,rfl,rfl⟩;wtm_at "b";refine CT (gs:=[]) rfl (by rw[AAG,sizeLine_eq];omega) ?_;wtm_at "b";refine⟨[],_,rfl,rfl,rfl,?_⟩;wtm_at "b";refine Aq ⟨l++[r % 10000019],r / 10000019,_,by simp[hl],by rw[AAY];rfl,rfl⟩
  ·rintro τ μ' ⟨l,r,o4,hl,rfl,rfl⟩;wtm_at "b";refine AV (a:=.int (-1)) (μ':=[.lst (l.map D.int)]) rfl ?_;refine AV (a:=.ref 1) (μ':=[.lst (l.map D.int),.lst (l.reverse.map D.int)]) ?_ ?_
   ·show bnd (By (.ref 0)) (λds=>EX ds.reverse) [.lst (l.map D.int)]=_;rw[A8 (show By (.ref 0) [.lst (l.map D.int)]=some (l.map D.int,[.lst (l.map D.int)]) from rfl)];unfold EX;rw[A8 (G7 (by rw[List.length_reverse,AAG,sizeLine_eq];omega) _),List.map_reverse];rfl
   ·wtm_at "b";exact⟨_,_,rfl,q 1 _ ⟨l.reverse,rfl,by rw[List.length_reverse,hl];exact AAF _⟩⟩
 |false=>
  wtm_at "b";refine IL (.inr (by decide)) ?_;wtm_at "b";refine IL (.inr (by decide)) ?_;wtm_at "b";refine GI (n:=200) rfl (by omega) ?_;refine Kx (I:=λj τ μ'=>∃(l:List Int) (a b:Int) (o4:Option D),l.length=j/\μ'=[.lst (l.map D.int)]/\0<=a/\a<4000000000/\0<=b/\b<4000000000/\τ=[some (.int c),some (.int 200),some (.ref 0),none,o4,some (.int a),some (.int b)]) ?_ ?_ ⟨[],_,_,none,rfl,rfl,AAZ _ (by decide),by have:=AAa ((c % 2147483647+1) * 48271) (show (0:Int)<2147483647 by decide);omega,AAZ _ (by decide),by have:=AAa ((c % 1000003+1) * 69621) (show (0:Int)<2147483629 by decide);omega,rfl⟩
  ·rintro j τ μ' hj ⟨l,a,b,o4,hl,rfl,ha,ha2,hb,hb2,rfl⟩;wtm_at "b";refine IL (.inl (by omega)) ?_;wtm_at "b";refine IL (.inr (by decide)) ?_;wtm_at "b";refine CT (gs:=[]) rfl (by rw[AAG,sizeLine_eq];omega) ?_;wtm_at "b";refine⟨[],_,rfl,rfl,rfl,?_⟩;have m1:=AAZ (a * (a / 1009+69621)) (show (2147483647:Int)≠0 by decide);have m2:=AAa (a * (a / 1009+69621)) (show (0:Int)<2147483647 by decide);have m3:=AAZ (b * 48271) (show (2147483629:Int)≠0 by decide);have m4:=AAa (b * 48271) (show (0:Int)<2147483629 by decide);refine Aq ⟨l++[_],_,_,_,by simp[hl],by rw[AAY];rfl,?_,?_,m3,by omega,rfl⟩
   ·omega
   ·omega
  ·rintro τ μ' ⟨l,a,b,o4,hl,rfl,ha,ha2,hb,hb2,rfl⟩;wtm_at "b";exact⟨_,_,rfl,q 0 _ ⟨l,rfl,by rw[hl];exact AAF _⟩⟩
theorem Uf(q:∀x:Int,QD (.int x) μ):WP (CP [.scr sc,.int 0]) μ QD:=by
 unfold CP;refine CC rfl ?_;unfold JD;wtm_at "b";refine AV (a:=.int (sc.length:Int)) (μ':=μ) ?_ ?_
 ·show some (D.int (((sc.map D.int).length:Nat):Int),μ)=_;rw[AAG]
 wtm_at "b";cases sc with
 |nil=>
  rw[show decide ((0:Int)<((([]:List Int).length:Nat):Int))=false from rfl];refine BP ?_;wtm_at "b";exact⟨_,_,[],rfl,by simp,by unfold Cl;trivial,q 0⟩
 |cons c sc=>
  rw[AAP (show (0:Int)<(((c::sc).length:Nat):Int) by rw[AAI];omega)];refine CD ?_;wtm_at "b";refine AV (a:=.int c) (μ':=μ) ?_ ?_
  ·show bnd (B7 (.scr (c::sc))) (λds=>ixD ds 0) μ=_;rw[A8 (show B7 (.scr (c::sc)) μ=some ((c::sc).map D.int,μ) from rfl)];unfold ixD;rw[show atI ((c::sc).map D.int) 0=some (.int c) from Pb (j:=0) rfl];rfl
  exact⟨_,_,[],rfl,by simp,by unfold Cl;trivial,q c⟩
noncomputable def ltr:Rw->Rw
 | .unl e t=>.unl e (t+2)
 | .jump t=>.jump (t+2)
 |r=>r
theorem RV(h:Ro n r)(q:QD (ltr r).toD μ):WP (Dj [r.toD]) μ QD:=by
 have c:Cl μ.length (ltr r).toD:=Il _ _;unfold Dj;refine CC rfl ?_;unfold Mc;cases r with
 |put b e=>exact h.elim
 |fin=>exact h.elim
 |unl e t=>
  unfold Rw.toD;wtm_at "a";refine AV (a:=.int (-1)) (μ':=μ) rfl ⟨-1,rfl,?_⟩;refine AV (a:=.tup [.str "unless",e.toD]) (μ':=μ) (by kernel_rfl) ?_;wtm_at "a";refine AV (a:=.int (-1)) (μ':=μ) rfl ?_;refine AV (a:=.int t) (μ':=μ) (by kernel_rfl) ?_;wtm_at "a";refine AV (a:=.tup [.str "unless",e.toD,.int (t+2)]) (μ':=μ) (by kernel_rfl) ?_;wtm_at "a";exact⟨_,_,[],rfl,by simp,c,q⟩
 |jump t=>
  unfold Rw.toD;wtm_at "a";refine AV (a:=.int (-1)) (μ':=μ) rfl ⟨-1,rfl,?_⟩;refine AV (a:=.tup [.str "jump"]) (μ':=μ) (by kernel_rfl) ?_;wtm_at "a";refine AV (a:=.int (-1)) (μ':=μ) rfl ?_;refine AV (a:=.int t) (μ':=μ) (by kernel_rfl) ?_;wtm_at "a";refine AV (a:=.tup [.str "jump",.int (t+2)]) (μ':=μ) (by kernel_rfl) ?_;wtm_at "a";exact⟨_,_,[],rfl,by simp,c,q⟩
 |get v b=>
  unfold Rw.toD;wtm_at "a";exact⟨_,_,[],rfl,by simp,c,q⟩
 |lett v e=>
  unfold Rw.toD;wtm_at "a";exact⟨_,_,[],rfl,by simp,c,q⟩
 |tell e=>
  unfold Rw.toD;wtm_at "a";exact⟨_,_,[],rfl,by simp,c,q⟩
end
inductive Pr (rs:List Rw) (wo c:Int) (evs:List D):D->Int->Int->D->Prop where
 |brk {w x1 y1}:w = "stuck" ∨ w = "silent" ∨ w = "great" -> Pr rs wo c evs (.tup [.str "broken",.str w]) x1 y1 (.tup [.non,.tup [.str w,.str "r"],.lst evs])
 |stands {a1 v x1 y1}:0<=a1->rs[a1.toNat]?=some (.get v "a")->Pr rs wo c evs (.tup [.str "stands",.int a1]) x1 y1 (.tup [stD wo (rG a1 c x1 y1) cl1,.non,.lst evs])
 |ok {n x1 y1}:Pr rs wo c evs (.tup [.str "told",.int n]) x1 y1 (.tup [stD wo (rI x1 y1) cl0,.non,.lst (evs++[eE n])])
 |tells {n x1 y1}:Pr rs wo c evs (.tup [.str "told",.int n]) x1 y1 (.tup [.non,.tup [.str "tells",.str "r"],.lst (evs++[eE n])])
section
variable{ν:Mh}{QD:D->Mh->Prop}{rs:List Rw}{sz wo a x y c x1 y1:Int}{evs:List D}{due d:D}{k:Nat}
theorem Wi(h:Du rs sz a x y due x1 y1):∃d,Go rs sz wo a x y c evs d/\Pr rs wo c evs due x1 y1 d:=by
 cases h with
 |stuck hf=>exact⟨_,.stuck hf,.brk (.inl rfl)⟩
 |silent hf e=>exact⟨_,.silent hf e,.brk (.inr (.inl rfl))⟩
 |great h0 hf e s=>exact⟨_,.great h0 hf e s,.brk (.inr (.inr rfl))⟩
 |stands h0 hf e=>exact⟨_,.stands h0 hf e,.stands h0 e⟩
 |told h0 hf e s=>
  rename_i e';by_cases z:A7 (en x1 y1) e'=0
  ·exact⟨_,.ends h0 hf e s z,.ok⟩
  ·exact⟨_,.tells h0 hf e s z,.tells⟩
theorem PP(h:Pz t)(hd:dpt t<=64)(q:QD (.bl true) ν):WP (Ai t t) ν QD:=Rb h h hd hd λe he=>by rw[he.mpr rfl];exact q
theorem O0(h:Pz t)(hd:dpt t<=64)(q:QD (.bl false) ν):WP (CY t t) ν QD:=NP h h hd hd λe he=>by rw[he.mpr rfl];exact q
theorem aV:Pz (rG a c x y):=by simp[Pz,PzL]
theorem ao:dpt (rG a c x y)<=64:=by simp[dpt,LV]
theorem aW:Pz (rI x y):=by simp[Pz,PzL]
theorem aq:dpt (rI x y)<=64:=by simp[dpt,LV]
theorem ZE:Pz (eE n):=by
 have h1:PyData.strOk ("end" : Str)=true:=by decide +kernel
 have h2:PyData.strOk ("r" : Str)=true:=by decide +kernel
 simp[Pz,PzL,h1,h2]
theorem Zn:dpt (eE n)<=64:=by simp[dpt,LV]
theorem Ln(he:evs=[]∨evs=[eB])(hk:ν[k]?=some (.dK (Am (en x1 y1))))(pr:Pr rs wo c evs due x1 y1 d)(q:QD (.bl true) ν):WP (C8 [s,d,due,.ref k,.int c]) ν QD:=by
 unfold C8;refine CC rfl ?_;unfold Mb;(with_reducible apply NO);refine NT ?_;wtm_at "a";cases pr with
 |brk hw=>
  (with_reducible apply GH);wtm_at "a";rcases hw with rfl|rfl|rfl
  all_goals
   refine AV (a:=.bl true) (μ':=ν) (by kernel_rfl) ?_;wtm_at "a";exact⟨_,_,[],rfl,by simp,by unfold Cl;trivial,q⟩
 |stands h0 hg=>
  (with_reducible apply GH);wtm_at "a";refine Az hk rfl GL ?_;wtm_at "a";refine Az hk rfl GJ ?_;wtm_at "a";refine PP aV ao ?_;exact⟨_,_,[],rfl,by simp,by unfold Cl;trivial,q⟩
 |ok=>
  (with_reducible apply GH);wtm_at "a";rcases he with rfl|rfl
  all_goals
   refine AV (a:=.int (-1)) (μ':=ν) rfl ?_;refine AV (a:=eE _) (μ':=ν) rfl ?_;refine O0 ZE Zn ?_;wtm_at "a";refine AV (a:=.bl false) (μ':=ν) (by kernel_rfl) ?_;wtm_at "a";refine AV (a:=.int (-1)) (μ':=ν) rfl ?_;wtm_at "a";refine Az hk rfl GL ?_;wtm_at "a";refine Az hk rfl GJ ?_;wtm_at "a";refine PP aW aq ?_;wtm_at "a";exact⟨_,_,[],rfl,by simp,by unfold Cl;trivial,q⟩
 |tells=>
  (with_reducible apply GH);wtm_at "a";rcases he with rfl|rfl
  all_goals
   refine AV (a:=.int (-1)) (μ':=ν) rfl ?_;refine AV (a:=eE _) (μ':=ν) rfl ?_;refine O0 ZE Zn ?_;wtm_at "a";refine AV (a:=.bl false) (μ':=ν) (by kernel_rfl) ?_;wtm_at "a";exact⟨_,_,[],rfl,by simp,by unfold Cl;trivial,q⟩
end
noncomputable def lC:Sl->M Bool:=(GX (AS (mOp Ai (mOp AN (AC 9) (mC (.int 0))) (mC (.str "stands")))) (AS (mOp El (AC 11) (mC (.int 3)))))
noncomputable def lB:Sl->M (Fl×Sl):=(AQ (Ab (mOp Av (AC 11) (mC (.int 1))) (AM 11)) (AQ (C0 (AC 7) (mOp AN (mOp AN (AC 2) (mOp AN (AC 9) (mC (.int 1)))) (mC (.int 1))) (AC 3)) (AQ (Ab (AH E6 (AD (AC 2) (AD (mOp Av (mOp AN (AC 9) (mC (.int 1))) (mC (.int 1))) (AD (AC 7) (AD (AC 4) AJ))))) (AM 9)) (AQ (Ab (AH B9 (AD (AC 5) (AD (mOp AN (AC 10) (mC (.int 0))) (AD (AH Ah (AD (mC (.str "r")) (AD (mC (.int 0)) AJ))) AJ)))) (AM 10)) (sIf (Md (AS (AH C8 (AD (AC 6) (AD (AC 10) (AD (AC 9) (AD (AC 7) (AD (AC 11) AJ)))))))) (Ae (mC (.bl false))) Ak)))))
noncomputable def tB:Sl->M (Fl×Sl):=(AQ (Ab (AH E6 (AD (AC 2) (AD (mC (.int 0)) (AD (AC 7) (AD (AC 4) AJ))))) (AM 9)) (AQ (Ab (AH B9 (AD (AC 5) (AD (AC 6) (AD (AH Ah (AD (mC (.str "r")) (AD (mC (.int 0)) AJ))) AJ)))) (AM 10)) (AQ (sIf (mOr (AS (mOp CY (Hn (mOp AN (AC 10) (mC (.int 2))) Ci (EN (mC (.int 1)))) (AH Ba (AD (AH Ah (AD (mC (.str "begin")) (AD (mC (.str "r")) AJ))) AJ)))) (Md (AS (AH C8 (AD (AC 6) (AD (AC 10) (AD (AC 9) (AD (AC 7) (AD (mC (.int 0)) AJ))))))))) (Ae (mC (.bl false))) Ak) (AQ (Ab (mC (.int 0)) (AM 11)) (AQ (Ei fuel lC lB) (AQ (sIf (AS (mOp Ai (mOp AN (AC 9) (mC (.int 0))) (mC (.str "stands")))) (Ae (mOp Ai (mOp AN (AH B9 (AD (AC 5) (AD (mOp AN (AC 10) (mC (.int 0))) (AD (AH Ah (AD (mC (.str "r")) (AD (mC (.int 0)) AJ))) AJ)))) (mC (.int 1))) (AH Ah (AD (mC (.str "long")) (AD (mC (.str "r")) AJ))))) Ak) (AQ (sIf (AS (mOp (EW true) (mOp AN (AC 10) (mC (.int 1))) (mC .non))) (Ae (mC (.bl true))) Ak) (Ab (mOp AN (AC 10) (mC (.int 0))) (AM 6)))))))))
theorem QV:WO CP Cy FL Dj Bj E6 B9 C8=(AQ (Ab (AH Cy (AD (AH CP (AD (AC 0) (AD (mC (.int 0)) AJ))) (AD (mC (.int 200)) AJ))) (AM 1)) (AQ (Ab (AH FL (AD (AC 1) AJ)) (AM 2)) (AQ (Ab (mOp Av (AH Ba (AD (AH Ah (AD (mC (.str "let")) (AD (mC (.str "x")) (AD (AH Ah (AD (mC (.str "var")) (AD (mC (.str "x")) AJ))) AJ)))) (AD (AH Ah (AD (mC (.str "let")) (AD (mC (.str "y")) (AD (AH Ah (AD (mC (.str "var")) (AD (mC (.str "y")) AJ))) AJ)))) AJ))) (Cr 1 [] (De (AC 2)) (AM 0) Dd (AH Dj (AD (AC 0) AJ)) Ba)) (AM 2)) (AQ (Ab (mOp BE (mOp A6 (Ay Ca (AC 1)) (mC (.int 3))) (mC (.int 5))) (AM 3)) (AQ (Ab (mOp Av (mC (.int 2)) (mOp BE (mOp A6 (Ay Ca (AC 1)) (mC (.int 3))) (mC (.int 9)))) (AM 4)) (AQ (Ab (AH Ah (AD (mC (.str "safe")) (AD (AC 4) (AD (mC (.int 0)) (AD (AH Ah (AD (AH Ah (AD (mC (.str "a")) (AD (mC (.str "whole")) (AD (mC (.int 5)) (AD (AC 3) (AD (mC (.str "w")) AJ)))))) AJ)) (AD (AH Ah (AD (AH Ah (AD (mC (.str "w")) (AD (mC (.int 0)) (AD (AH Ah AJ) AJ)))) (AD (AH Ah (AD (mC (.str "r")) (AD (mC (.int 3)) (AD (AH Ds (AD (AC 2) AJ)) AJ)))) AJ))) AJ)))))) (AM 5)) (AQ (Ab (AH Bj (AD (AC 5) AJ)) (AM 6)) (AQ (Ab (Fz [.inr "x",.inr "y"] (AD (mC (.int 0)) (AD (mC (.int 0)) AJ))) (AM 7)) (AQ (EV (GW (AD (mC (.int 3)) AJ)) (AM 8) tB) (Ae (mC (.bl true)))))))))))):=rfl
noncomputable abbrev tW(s0 s1:Option D)(rs:List Rw)(wo sz:Int)(st:D)(k:Nat)(s8:Option D)(due found:D)(c:Int):Sl:=[s0,s1,some (lsD rs),some (.int wo),some (.int sz),some (mkD sz wo rs),some st,some (.ref k),s8,some due,some found,some (.int c)]
section
variable{μ ν:Mh}{QD:D->Mh->Prop}{QS:Fl×Sl->Mh->Prop}{rs:List Rw}{sz wo a x y x1 y1:Int}{evs:List D}{due d st:D}{s0 s1 s8:Option D}
theorem hE:H (μ++[o]) μ.length x y=μ++[.dK (Am (en x y))]:=by
 unfold H;rw[AAh _ _ (AAF _),AA1];rfl
theorem OT(h:Rok rs)(ha:0<=a/\a<=rs.length)(hx:R9 x)(hy:R9 y)(q:∀d x1 y1,R9 x1->R9 y1->Du rs sz a x y d x1 y1->QD d (μ++[.dK (Am (en x1 y1))])):WP (E6 [lsD rs,.int a,.ref μ.length,.int sz]) (μ++[.dK (Am (en x y))]) QD:=by
 have:=Wu (ν:=μ++[.dK []]) (k:=μ.length) (QD:=QD) (sz:=sz) h ha hx hy (by simp) λd x1 y1 h1 h2 du=>by rw[hE];exact q d x1 y1 h1 h2 du
 rw[hE] at this;exact this
theorem Xu(hw:R9 wo)(hx:R9 x)(hy:R9 y):R9 (pX v wo x y).1/\R9 (pX v wo x y).2:=by
 unfold pX;split
 ·exact⟨hw,hy⟩
 ·exact⟨hx,hw⟩
theorem Xv(hv:v∈(["x", "y"]:List Str)):C3 (Am (en x y)) (.inr v) (.int wo)=Am (en (pX v wo x y).1 (pX v wo x y).2):=by
 simp only[AAJ,List.mem_nil_iff,or_false] at hv;rcases hv with rfl|rfl
 ·exact ZP
 ·exact ZO
theorem Lm(h:Rok rs)(hz:2<=sz/\sz<=10)(hw:R9 wo):∀(j:Nat) {m:Nat} {c:Int} {due found:D} {x1 y1:Int} {evs:List D},c+j=3->0<=c->j<m->R9 x1->R9 y1->(evs=[]∨evs=[eB])->Pr rs wo c evs due x1 y1 found->
  (∀c due found x1 y1 evs,R9 x1->R9 y1->(evs=[]∨evs=[eB])->Pr rs wo c evs due x1 y1 found->((∃a,due=.tup [.str "stands",a])->c=3)->QS (.next,tW s0 s1 rs wo sz st μ.length s8 due found c) (μ++[.dK (Am (en x1 y1))]))->
  WP (IQ lC lB m (tW s0 s1 rs wo sz st μ.length s8 due found c)) (μ++[.dK (Am (en x1 y1))]) QS
 |j,0,_,_,_,_,_,_,_,_,hm,_,_,_,_,_=>absurd hm (Nat.not_lt_zero _)
 |j,m+1,c,due,found,x1,y1,evs,hc,c0,hm,hx,hy,he,pr,q=>by
  have q0:=q c due found x1 y1 evs hx hy he pr;unfold IQ;refine Aa ?_;have out:WP (lC (tW s0 s1 rs wo sz st μ.length s8 due found c)) (μ++[.dK (Am (en x1 y1))]) (λb μ'=>b=false/\μ'=μ++[.dK (Am (en x1 y1))])->((∃a,due=.tup [.str "stands",a])->c=3)->WP (lC (tW s0 s1 rs wo sz st μ.length s8 due found c)) (μ++[.dK (Am (en x1 y1))]) (λx μ'=>WP (if x=true then bnd (lB (tW s0 s1 rs wo sz st μ.length s8 due found c)) (λr=>match r.1 with | .next=>IQ lC lB m r.2 | .cont=>IQ lC lB m r.2 | .brk=>ret (.next,r.2) | .rt d=>ret (.rt d,r.2)) else ret (.next,tW s0 s1 rs wo sz st μ.length s8 due found c)) μ' QS):=λhl hs=>by
   refine Ac hl ?_;rintro b μ' ⟨rfl,rfl⟩;rw[if_neg (by decide)];exact A2 (q0 hs)
  cases pr with
  |brk hb=>
   refine out ?_ (λ⟨a,e⟩=>nomatch e);unfold lC;wtm_at "a";exact⟨rfl,rfl⟩
  |ok=>
   refine out ?_ (λ⟨a,e⟩=>nomatch e);unfold lC;wtm_at "a";exact⟨rfl,rfl⟩
  |tells=>
   refine out ?_ (λ⟨a,e⟩=>nomatch e);unfold lC;wtm_at "a";exact⟨rfl,rfl⟩
  |stands h0 hg=>
   cases j with
   |zero=>
    have c3:c=3:=by omega
    refine out ?_ (λ_=>c3);unfold lC;wtm_at "a";exact⟨rfl,rfl⟩
   |succ j=>
    have hlt:=(AAU.mp hg).1;have rv:=(h.ro _ (AAV hg)).1;obtain⟨px,py⟩:=Xu hw hx hy;refine Ac (show WP (lC _) _ (λb μ'=>b=true/\μ'=μ++[.dK (Am (en x1 y1))]) from ?_) ?_
    ·unfold lC;wtm_at "a";exact⟨rfl,rfl⟩
    rintro b μ' ⟨rfl,rfl⟩;rw[if_pos rfl];refine Aa ?_;unfold lB;wtm_at "a";refine EZ ?_;wtm_at "a";refine IM (ixl h0 hg) ?_;unfold Rw.toD;wtm_at "a";refine⟨μ.length,_,.inr _,rfl,Ct _,rfl,by show 2<1000;omega,?_⟩;rw[Xv rv,show ∀o o':MO,(μ++[o]).set μ.length o'=μ++[o'] from λo o'=>by rw[AAh _ _ (AAF _),AA1];rfl];wtm_at "a";refine OT h ⟨by omega,by omega⟩ px py λdue' x2 y2 hx2 hy2 du=>?_;obtain⟨d',go,pr'⟩:=Wi (wo:=wo) (c:=c+1) (evs:=[]) du;wtm_at "a";refine Fk h hz (.get h0 (by omega) hg go) ?_;wtm_at "a";refine Ln (.inl rfl) (Ct _) pr' ?_;wtm_at "a";refine BP ?_;wtm_at "a";exact Lm (m:=m) (c:=c+1) h hz hw j (by omega) (by omega) (by omega) hx2 hy2 (.inl rfl) pr' q
end
section
variable{μ ν:Mh}{QS:Fl×Sl->Mh->Prop}{rs:List Rw}{sz wo a x y x1 y1 c:Int}{evs:List D}{due d:D}{s0 s1 s8 o9 o10 o11:Option D}
theorem XN(hl:l.length<=5):Os none (some 1) (.lst (eB::l)) ν=some (.lst [eB],ν):=by
 match l,hl with
 |[],_=>kernel_rfl
 |[_],_=>kernel_rfl
 |[_,_],_=>kernel_rfl
 |[_,_,_],_=>kernel_rfl
 |[_,_,_,_],_=>kernel_rfl
 |[_,_,_,_,_],_=>kernel_rfl
theorem Xe(pr:Pr rs wo 0 [eB] due x1 y1 d):∃u v l,d=.tup [u,v,.lst (eB::l)]/\l.length<=5:=by cases pr<;>exact⟨_,_,_,rfl,AAE rfl⟩
theorem aZ:CY (.lst [eB]) (.lst [eB]) ν=some (.bl false,ν):=by kernel_rfl
theorem ak:Ai (.tup [.str "long",.str "r"]) (.tup [.str "long",.str "r"]) ν=some (.bl true,ν):=by kernel_rfl
theorem UK(h:Rok rs)(hz:2<=sz/\sz<=10)(hw:R9 wo)(hx:R9 x)(hy:R9 y)(q1:∀τ ν,QS (.rt (.bl true),τ) ν)(q2:∀x1 y1 o9 o10 o11,R9 x1->R9 y1->QS (.next,[s0,s1,some (lsD rs),some (.int wo),some (.int sz),some (mkD sz wo rs),some (stD wo (rI x1 y1) cl0),some (.ref μ.length),s8,o9,o10,o11]) (μ++[.dK (Am (en x1 y1))])):
  WP (tB [s0,s1,some (lsD rs),some (.int wo),some (.int sz),some (mkD sz wo rs),some (stD wo (rI x y) cl0),some (.ref μ.length),s8,o9,o10,o11]) (μ++[.dK (Am (en x y))]) QS:=by
 unfold tB;wtm_at "a";refine OT h ⟨by omega,by omega⟩ hx hy λdue x1 y1 hx1 hy1 du=>?_;obtain⟨d,go,pr⟩:=Wi (wo:=wo) (c:=0) (evs:=[eB]) du;wtm_at "a";refine Fk h hz (.beg go) ?_;obtain⟨u,v,l,ed,hl⟩:=Xe pr;wtm_at "a";refine AV (a:=.lst (eB::l)) (μ':=_) (by rw[ed];rfl) ?_;wtm_at "a";refine AV (XN hl) ?_;wtm_at "a";refine AV aZ ?_;wtm_at "a";refine Ln (.inr rfl) (Ct _) pr ?_;wtm_at "a";refine BP ?_;wtm_at "a";unfold Ei;refine Lm (m:=fuel) (c:=0) h hz hw 3 (by omega) (by omega) (by show 3<10000;omega) hx1 hy1 (.inr rfl) pr λc due found x2 y2 evs hx2 hy2 he pr' hs=>?_;wtm_at "a";cases pr' with
 |brk hb=>
  wtm_at "a";exact q1 _ _
 |tells=>
  wtm_at "a";exact q1 _ _
 |ok=>
  wtm_at "a";exact q2 _ _ _ _ _ hx2 hy2
 |stands h0 hg=>
  have c3:=hs ⟨_,rfl⟩;subst c3;wtm_at "a";refine Fk h hz (.long h0 (by omega) hg) ?_;wtm_at "a";refine AV ak ?_;wtm_at "a";exact q1 _ _
noncomputable def mk(rs:List Rw):List Rw:=.lett "x" (.var "x")::.lett "y" (.var "y")::rs.map ltr
theorem Zc(h2:2<=rs.length)(h7:rs.length<=7)(ro:∀r∈rs,Ro rs.length r):Rok (mk rs):=by
 have hl:(mk rs).length=rs.length+2:=by simp[mk]
 refine⟨λr hr=>?_,by omega,rs.map ltr,rfl⟩;rw[hl];have hr:r∈(Rw.lett "x" (.var "x")::.lett "y" (.var "y")::rs.map ltr):=hr;rcases AAJ.mp hr with rfl|hr
 ·exact⟨by decide +kernel,by unfold Eo;decide +kernel⟩
 rcases AAJ.mp hr with rfl|hr
 ·exact⟨by decide +kernel,by unfold Eo;decide +kernel⟩
 obtain⟨r',hr',rfl⟩:=AAM.mp hr;have o:=ro r' hr';cases r' with
 |put b e=>exact o.elim
 |fin=>exact o.elim
 |lett v e=>exact o
 |get v b=>exact o
 |tell e=>exact o
 |unl e t=>exact⟨o.1,by have:=o.2.1;omega,by have:=o.2.2;omega⟩
 |jump t=>exact⟨by have:=o.1;omega,by have:=o.2;omega⟩
theorem Ri(hl:ds.length=ps)(h:WP (mb (BV N ds)) [] λr _=>r.1=.rt (.bl true)):WP (BJ .drop N ps mb ds) [] λd _=>d=.bl true:=by
 obtain⟨⟨fl,τ2⟩,μ2,e,rfl⟩:=h;refine AV (JU (μ:=[]) (g:=μ2) e hl (by unfold Cl;trivial)) rfl
theorem W3:WP (Mt [.scr sc]) [] λd _=>d=.bl true:=by
 unfold Mt;refine Ri rfl ?_;rw[QV];wtm_at "a";refine Uf λc=>?_;wtm_at "a";refine Pl λn μ0 x0=>?_;wtm_at "a";refine UR x0 (by omega) λrs0 μ1 h2 h7 ro u1 x1=>?_;wtm_at "a";refine⟨by rw[AAG,sizeLine_eq];omega,?_⟩;refine Ed Rw.toD (λ_=>true) (λr=>(ltr r).toD) (λr hr=>?_) ?_
 ·wtm_at "a";refine⟨rfl,?_⟩;wtm_at "a";refine⟨rfl,rfl,λ_=>?_⟩;wtm_at "a";exact RV (ro r hr) ⟨rfl,rfl⟩
 rw[List.filter_eq_self.mpr λ_ _=>rfl];refine CB (by rw[AAG,sizeLine_eq];omega) ?_;refine K21.Kw (by rw[AAG];show 2+_<=1000000;omega) ?_;have em:[D.tup [.str "let",.str "x",.tup [.str "var",.str "x"]],.tup [.str "let",.str "y",.tup [.str "var",.str "y"]]]++rs0.map (λr=>(ltr r).toD)=(mk rs0).map Rw.toD:=by
  unfold mk;rw[AAX,AAX,List.map_map];rfl
 rw[em];have hok:=Zc h2 h7 ro;generalize mk rs0=rs at hok;wtm_at "a";refine Fm (k:=200-118) rfl x1 (by omega) λv μ2 u2 x2=>?_;wtm_at "a";refine Fm (k:=200-118-1) rfl x2 (by omega) λv3 μ3 u3 x3=>?_;wtm_at "a";have hw:R9 (v / 3 % 5):=by show 0<=v / 3 % 5/\v / 3 % 5<=9;omega
 have hz:2<=2+v3 / 3 % 9/\2+v3 / 3 % 9<=10:=by omega
 generalize v / 3 % 5=wo at hw;generalize 2+v3 / 3 % 9=sz at hz;refine Ra hok ?_;wtm_at "a";refine Lr ?_;wtm_at "a";refine⟨rfl,rfl,?_⟩;wtm_at "a";refine GI (n:=3) rfl (by omega) ?_;refine Kx (I:=λj τ μ'=>∃(x y:Int) (o8 o9 o10 o11:Option D),R9 x/\R9 y/\μ'=μ3++[MO.dK (Am (en x y))]/\τ=[some (.scr sc),some (.ref n),some (lsD rs),some (.int wo),some (.int sz),some (mkD sz wo rs),some (stD wo (rI x y) cl0),some (.ref μ3.length),o8,o9,o10,o11]) ?_ ?_ ⟨0,0,none,none,none,none,⟨Int.le_refl _,by omega⟩,⟨Int.le_refl _,by omega⟩,rfl,rfl⟩
 ·rintro j τ μ' hj ⟨x,y,o8,o9,o10,o11,hx,hy,rfl,rfl⟩;wtm_at "a";refine UK hok hz hw hx hy (λτ ν=>?_) (λx1 y1 o9 o10 o11 h1 h2=>Aq ⟨x1,y1,_,o9,o10,o11,h1,h2,rfl,rfl⟩);rfl
 ·rintro τ μ' ⟨x,y,o8,o9,o10,o11,hx,hy,rfl,rfl⟩;wtm_at "a";rfl
end
end K23
namespace K23
open PySem L2 Mi
theorem math(sc:List Int)(h:sc.length<=63):∃μ',Mt [.scr sc] []=some (.bl true,μ'):=by
 obtain⟨a,μ',e,rfl⟩:=W3 (sc:=sc);exact⟨μ',e⟩
end K23
open PySem PySem.W PyProof.Rows
local macro_rules | `(tactic| wtm_at "d")=>`(tactic| (refine' Mi.Zr ?qa ?ql ?qc ?qk;(case qa=>k_is);(case ql=>k_is);(case qc=>k_is);(case qk=>k_is)))
local macro_rules | `(tactic| wtm_at "p")=>`(tactic| (refine' Mi.Zs ?qa ?qb ?qc ?qd ?qe ?qf;(case qa=>k_is);(case qb=>k_is);(case qc=>k_is);(case qd=>k_is);(case qe=>k_is)))
local macro_rules | `(tactic| wtm_at "n")=>`(tactic| (refine' Mi.Zq ?qa ?qb ?qc ?qd ?qe ?qf ?qg ?qh;(case qa=>k_is);(case qb=>k_is);(case qc=>k_is);(case qd=>k_is);(case qe=>k_is);(case qf=>k_is);(case qg=>k_is);(case qh=>k_is)))
local macro_rules | `(tactic| wtm_at "j")=>`(tactic| (refine' Mi.Zo ?qa ?qb ?qc ?qd ?qe ?qf ?qg ?qh ?qi ?qj;(case qa=>k_is);(case qb=>k_is);(case qc=>k_is);(case qd=>k_is);(case qe=>k_is);(case qf=>k_is);(case qg=>k_is);(case qh=>k_is);(case qi=>k_is);(case qj=>k_is)))
local macro_rules | `(tactic| wtm_at "h")=>`(tactic| (refine' Mi.Yn ?pl ?pe;(case pl=>k_is);(case pe=>rfl)))
set_option maxRecDepth 100000 in
set_option maxHeartbeats 0 in
theorem PySem.Challenge.cw_strongboxes_k23_rows_without_a_step_holds : PySem.Challenge.rw_strongboxes_k23_rows_without_a_step.Holds := by
 w_on;o_law;k_head;(case hw=>w_witness2)
 k_fill
 refine Mi.Ym (k:=18) (l:=PySem.Challenge.rw_strongboxes_k23_rows_without_a_step) rfl rfl (by decide) (λw h Y=>PySem.W.kIn_of Y) ?F
 case F=>
  intro w mg fa h KX G hmg;refine' K23.all_mk K23.math ⟨KX,G,?e0,?e1,?e2,?e3,?e4,?e5,?e6,?e7,?e8,?e9,?e10,?e11,?e12,?e13,?e14,?e15,?e16,?e17,?e18,?e19,?e20,?e21,?e22,?e23,?e24,?e25,?e26,?e27,?e28,?e29,?e30,?e31,?e32,?e33,?e34,?e35,?e36,?e37,?e38,?e39,?e40,?e41,?e42,?e43,?e44,?e45,?e46,?e47,?e48,?e49,?e50,?e51,?e52,(PySem.W.mg_none_of KX G ?z0),(PySem.W.mg_none_of KX G ?z1),(PySem.W.mg_none_of KX G ?z2),(PySem.W.mg_none_of KX G ?z3),(PySem.W.mg_none_of KX G ?z4),(PySem.W.mg_none_of KX G ?z5),(PySem.W.mg_none_of KX G ?z6),(PySem.W.mg_none_of KX G ?z7),(PySem.W.mg_none_of KX G ?z8),(PySem.W.mg_none_of KX G ?z9),(PySem.W.mg_none_of KX G ?z10),(PySem.W.mg_none_of KX G ?z11),(PySem.W.mg_none_of KX G ?z12),?gk0,?gk1,?gk2,?gk3,?gk4⟩ hmg
  (case e0=>wtm_at "d")
  (case e1=>wtm_at "d")
  (case e2=>wtm_at "d")
  (case e3=>wtm_at "d")
  (case e4=>wtm_at "d")
  (case e5=>wtm_at "d")
  (case e6=>wtm_at "d")
  (case e7=>wtm_at "d")
  (case e8=>wtm_at "n")
  (case e9=>wtm_at "d")
  (case e10=>wtm_at "d")
  (case e11=>wtm_at "d")
  (case e12=>wtm_at "d")
  (case e13=>wtm_at "d")
  (case e14=>wtm_at "d")
  (case e15=>wtm_at "d")
  (case e16=>wtm_at "j")
  (case e17=>wtm_at "d")
  (case e18=>wtm_at "d")
  (case e19=>wtm_at "d")
  (case e20=>wtm_at "d")
  (case e21=>wtm_at "d")
  (case e22=>wtm_at "d")
  (case e23=>wtm_at "d")
  (case e24=>wtm_at "d")
  (case e25=>wtm_at "d")
  (case e26=>wtm_at "d")
  (case e27=>wtm_at "d")
  (case e28=>wtm_at "d")
  (case e29=>wtm_at "d")
  (case e30=>wtm_at "j")
  (case e31=>wtm_at "j")
  (case e32=>wtm_at "d")
  (case e33=>wtm_at "d")
  (case e34=>wtm_at "d")
  (case e35=>wtm_at "d")
  (case e36=>wtm_at "d")
  (case e37=>wtm_at "d")
  (case e38=>wtm_at "j")
  (case e39=>wtm_at "d")
  (case e40=>wtm_at "d")
  (case e41=>wtm_at "d")
  (case e42=>wtm_at "d")
  (case e43=>wtm_at "j")
  (case e44=>wtm_at "d")
  (case e45=>wtm_at "d")
  (case e46=>wtm_at "d")
  (case e47=>wtm_at "d")
  (case e48=>wtm_at "d")
  (case e49=>wtm_at "d")
  (case e50=>wtm_at "d")
  (case e51=>wtm_at "d")
  (case e52=>wtm_at "p";exact⟨by k_is,by k_is,by k_is,by k_is,by k_is,by k_is,trivial⟩)
  (case z0=>k_is)
  (case z1=>k_is)
  (case z2=>k_is)
  (case z3=>k_is)
  (case z4=>k_is)
  (case z5=>k_is)
  (case z6=>k_is)
  (case z7=>k_is)
  (case z8=>k_is)
  (case z9=>k_is)
  (case z10=>k_is)
  (case z11=>k_is)
  (case z12=>k_is)
  (case gk0=>refine' Mi.LS KX G ?qa;(case qa=>k_is))
  (case gk1=>refine' Mi.LS KX G ?qa;(case qa=>k_is))
  (case gk2=>refine' Mi.LS KX G ?qa;(case qa=>k_is))
  (case gk3=>refine' Mi.Vy (xs:=["let", "jump", "unless"]) KX G ?qa ?ql ?qh;(case qa=>k_is);(case ql=>wtm_at "h");(case qh=>decide))
  (case gk4=>refine' Mi.Vp KX G ?qa ?ql ?qk ?qs ?qT;(case qa=>k_is);(case ql=>k_is);(case qk=>exact⟨⟨_,_,rfl,rfl⟩,⟨⟨_,_,rfl,rfl⟩,⟨⟨_,_,rfl,rfl⟩,⟨⟨_,_,rfl,rfl⟩,⟨⟨_,_,rfl,rfl⟩,⟨⟨_,_,rfl,rfl⟩,⟨⟨_,_,rfl,rfl⟩,trivial⟩⟩⟩⟩⟩⟩⟩);(case qs=>rfl);(case qT=>refine' ⟨_,_,_,_,_,rfl,rfl,rfl,?qt,?qu,?_⟩;(case qt=>wtm_at "h");(case qu=>decide);refine' ⟨_,_,_,_,_,rfl,rfl,rfl,?qt,?qu,?_⟩;(case qt=>wtm_at "h");(case qu=>decide);refine' ⟨_,_,_,_,_,rfl,rfl,rfl,?qt,?qu,?_⟩;(case qt=>wtm_at "h");(case qu=>decide);refine' ⟨_,_,_,_,_,rfl,rfl,rfl,?qt,?qu,?_⟩;(case qt=>wtm_at "h");(case qu=>decide);refine' ⟨_,_,_,_,_,rfl,rfl,rfl,?qt,?qu,?_⟩;(case qt=>wtm_at "h");(case qu=>decide);refine' ⟨_,_,_,_,_,rfl,rfl,rfl,?qt,?qu,?_⟩;(case qt=>wtm_at "h");(case qu=>decide);refine' ⟨_,_,_,_,_,rfl,rfl,rfl,?qt,?qu,?_⟩;(case qt=>wtm_at "h");(case qu=>decide);rfl))
