import PyProof.Rows.All
import KE.KNest
import Wide.All
import OpenK.AllK
import Wide.FinOn
import Lean
import PyProof.EqAt
import PyProof.EqKinds
import PyProof.TupleCall
import PySem.Challenge.RW_dimhouse_k43_whole_the_first_fault
open Array renaming length_toList→M6,getElem?_eq_getElem→RA,getElem?_toList→Vp,getElem?_eq_none→YR,toList_append→qx3,toList_push→zb0
open Bool renaming and_eq_true→IH,false_ne_true→Kp,false_eq_true→Oi,not_eq_true'→PD,eq_iff_iff→O8,or_eq_true→O9,true_and→RB,and_true→T8,and_false→Vq,and_eq_false_imp→qv2,and_eq_true_iff→qw2,or_eq_false_iff→qw3,or_false→YS,and_self→YT,not_false→zh1
open Classical renaming byContradiction→YU,propDecidable→zd1
open False renaming elim→KP
open ForInStep renaming yield→T9
open Int renaming toNat_natCast→Ms,emod_lt_of_pos→YV,emod_nonneg→YW,ofNat_inj→zj0
open Lean renaming maxHeartbeats→qq3,maxRecDepth→qs1
open List renaming length_map→Hl,mem_singleton→HK,length_append→HZ,getD_eq_getElem?_getD→JN,mem_cons→HU,mem_append→IC,map_cons→Ia,getElem?_map→Je,map_append→IL,range→HQ,mem_append_left→Kj,mem_range→IS,size_toArray→JE,getElem?_append_left→LF,length_filter_le→K6,mem_append_right→Lr,length_singleton→Lc,mem_of_getElem?→Ls,map_map→IV,mem_filter→JP,mem_map→Jg,getElem?_append_right→Pa,nodup_append→Mt,mem_cons_of_mem→N4,length_cons→L9,append_assoc→M7,mem_cons_self→N5,getElem?_set_self→PF,length→Ld,lookup_cons→N6,pairwise_cons→PH,nodup_cons→Oj,replicate→Ol,append_nil→Pb,foldl_cons→PJ,nodup_iff_pairwise_ne→Vr,getElem?_eq_none_iff→Vs,all_eq_true→QD,not_mem_nil→QE,getElem_mem→QF,getElem?_replicate→Vt,length_range→RC,mem_map_of_mem→Ua,length_replicate→Vu,all_cons→PK,any_cons→PL,getElem?_of_mem→Vv,getElem?_eq_getElem→qn7,reverse_cons→Ub,getElem?_cons_succ→YX,ext_getElem→Uc,map_nil→QG,find?_cons→Ud,dropLast_eq_take→YY,take_sublist→Vw,pairwise_map→Vx,sum_cons→RD,getElem?_zip_eq_some→qr6,mapIdx_eq_zipIdx_map→qr8,any_eq_true→Vy,filterMap_cons→YZ,filter_sublist→Y0,range_succ_eq_map→qt9,filter_eq_nil_iff→qu0,range'→RE,mk_mem_zipIdx_iff_getElem?→qu7,nodup_nil→Vz,eq_nil_or_concat→qv4,concat_eq_append→qv5,cons_append→Y1,eq_nil_of_length_eq_zero→qw0,of_mem_zip→Y2,nil_append→Y3,range_succ→Y4,getElem_of_mem→qx9,length_eraseIdx_of_lt→qy4,mem_filterMap→qy7,getElem?_drop→qz1,set_cons_zero→qz3,set_cons_succ→qz4,length_mapIdx→qz5,mem_of_find?_eq_some→qz7,pairwise_iff_getElem→qz8,getLast?_eq_getElem?→za0,exists_mem_of_ne_nil→za1,getElem?_take_of_lt→za3,ext_getElem?→zb2,idxOf_lt_length_iff→zb3,mem_range'_1→zb4,length_eq_zero_iff→zc7,filter_cons_of_pos→zc9,getElem?_cons_zero→zd0,length_take→zd2,length_drop→zd3,nodup_range→zd5,take_of_length_le→ze0,pairwise_lt_range→ze1,find?_cons_of_neg→ze3,drop_of_length_le→ze4,length_nil→zf5,getElem?_toArray→zf6,getElem?_eq_none→zg3,Perm→zk6
open List.Pairwise renaming nil→VA,imp→Y5
open List.Perm renaming refl→Y6
open Nat renaming le_refl→HG,le_trans→Iw,lt_of_lt_of_le→Le,ne_of_lt→Js,lt_succ_of_lt→PM,le_of_lt→ND,zero_le→M8,lt_irrefl→PN,ne_of_gt→Pc,lt_succ_self→Ue,not_lt_zero→Uf,le_succ→QH,lt_trans→VB,lt_of_le_of_lt→qz0,not_lt→Ug,mod_lt→Uh,sub_self→zj9
open Ne renaming symm→L1
open Option renaming bind_some→Im,map_some→RF,isSome_map→Ui,bind_eq_some_iff→Y7,isSome_iff_exists→qs8,map_eq_some_iff→qt8,join_some→Y8,bind_eq_bind→qx7,getD_some→zd4
open Option.some renaming inj→L3,injEq→VC
open PyProof.Rows renaming callWith_type1→RG,slot_tuple_getitem→Uj,envOfC→M9,subscriptTail_builtinR→zd8,AllBare→PP,subscriptTail→zi4,IntsAre→Uk
open PyProof.Rows.F renaming plain_set_update_loop→qt5,entry_set_update_loop→zc6
open PySem renaming wpAny_pure→Hf,Shared→t2,starEach→G7,sizeLine→Hz,mainGlobals→ID,Program→HL,bootBuiltins→Kk,wpAny_newObj_type→Ma,Around→HM,wpAny_callSpecial?_slot→Pd,wpAny_call_entry→Na,wpAny_setState_of→NE,compareOp→JQ,rawInt→Ij,SetTable→Jw,foldedSetIterable→Om,cellsFrom→Ky,wpAny_bind→LG,behindInMarks→Nb,backTo→IK,wpAny_holding→NF,sysModules→L4,wpAny_truthy_bool→PQ,assignEach→Mb,Builtin→JR,Arguments→LH,attributeBase→On,wpAny_setField→Pe,wpAny_mono→MD,wpAny_typeNameOfWhole_keyiter→Y9,swapsWith→Mu,wpAny_ite_split→QI,binaryOp→L5,builtinLookup_eq_fast→VD,firstArgMember→QJ,wpAny_passesOwn→RH,wpAny_typeNameOf_keyiter→Za,scanBound→Nc,wpAny_askSetting→Ul,wpAny_Call_Name_kw→VE,NameKind→ME,codeAny_builtin→Um,FuncData→Nd,Keyword→Mc,codeAmong→Oo,wpAny_fieldsOf→Uo,wpAny_isInstance→VF,keywordEach→QK,codeAny_mono→RI,codeAny→MF,tupleKind_room_in1→Zb,wpAny_attempt→Up,typeLookup_type→VG,wpAny_pyIter_list→Zc,wpAny_field→RJ,sliceBounds→RK,fits_of_scanBound→Zd,wpAny_seqItems→VH,wpAny_typeOf→Uq,noFill_tuple_add→Ze,plainId_quiet→VI,builtinsNs→RL,wpAny_rule→RM,wpAny_execs_nil→Zf,letOwnedTupleGo→Zg,wpAny_specialOf→Zh,pyNext→MG,wpAny_pyIter_tuple→qy6,concat_meets→VJ,wpAny_pyIter_slot→za7,wpAny_dictEntries→za8,wpAny_standAt→Zi,BindsTo→Pf,seq_tuple_add→Zj,getItem→Pg,backToKw→QL,wpAny_of_eq→VL,wpAny_handled→Zk,setField→QM,relayAll→QN,setNext→Ph,wpAny_pyNext_range_end→zd6,wpAny_pyIter_rangeiter→zd7,TriplesOk→Ur,storeName→Us,wpAny_storeName_local→ze8,wpAny_isTrue_Compare1→ze9,assign→N7,holding→PR,InCallC→PU,codeAny_call_function→zf3,wpAny_dictEpoch→zf9,wpAny_isOneOf_keyiter→zg0,pickOrder→Ut,wpAny_updateSeq→zg2,typeLookup→VM,closureFor→VN,setEntries→VO,IsPart→Op,isSubtype_stop→zg9,isSubtype_type→zh0,IsRangeIter→Zl,sizeLine_eq→Zm,subscripted→Zn,valueAt→QO,wpAny_throw→Zo,tupleKind→VP,swapsWithSole→zi0,swappedStores→zi1,PassesOwn→VQ,bindArgs→Uu,compPost→Uv,comprehension→zi6,newExc→Pi,raiseNew→Uw,wpAny_call→Zp,call_meets→Zq,callerA→RN,setsByText→Zr,pyIter→PV,name_of_addr→zj7,newTuple→VR,treeTable→Zs,DictEntry→Zt
open PySem.Around renaming under_plainId→VS
open PySem.AutoSeq1 renaming wpAny_loadPart'→qt0
open PySem.Builtin.Dict renaming showsAll→zf8
open PySem.Builtin.Dict_items renaming ownsTuple→qw5
open PySem.Builtin.List renaming listExtendWith→Ux,listLengthHint→Zu,listSameRef→Zv,listTooLong→qs9,listItems→ze2
open PySem.Builtin.Range renaming rangeSize→Nf,rangeFitsLong→qx6
open PySem.Builtin.Slice renaming slicePlaces→Zw,sliceAdjust→qr5,sliceApplied→qy2
open PySem.Builtin.SmallTypes renaming nextOf→Zx
open PySem.Builtin.Str renaming occurrences→RO
open PySem.Builtin.Tuple renaming tupleExact→Zy,tupleItemsOf→qy3
open PySem.Calls renaming Name_function_global→qy1,callWith_builtin→zd9
open PySem.F renaming slot_dict_keyiterator_next→VT,slot_tuple_iterator_next→Zz,called_set→QP,args_dict_keyiterator_next_1→qv3,entry_dict_keyiterator_next→qw1,args_tuple_iterator_next_1→qw4,entry_tuple_iterator_next→qx4
open PySem.Heap renaming get?_push_size→Ji,lt_size→Ih,get?_update_self→Oq,size_push→MH,get?_push_of_some→ZA,get?_update_other→VU,SameBut→Pj,ExtBut→ZB
open PySem.Heap.SameBut renaming update→N8
open PySem.NameKind renaming free→Lf
open PySem.Obj renaming data_mapFields→Ng,isFreed_of_fields→RP,mapSeq→Os,cls_mapFields→VW,mapFields→RQ
open PySem.PassesOwn renaming never→IX
open PySem.PyData renaming keyHash→PX
open PySem.SeqAt renaming EqAt→KQ,RcAt→Uy,RcNeAt→ZC
open PySem.SeqAt.EqAt renaming of_refs→qz2,same→zf4
open PySem.SeqAt.RcAt renaming lists_lengths→za6
open PySem.SetTable renaming below→MI,grown→QR,insertAt→za9
open PySem.Shared renaming TypeIs→zi9
open PySem.Str renaming ofString→xv
open PySem.Value renaming ref→JS,none→LI,type→Nh,bool→PY,isStrOf→zh8,int→ZD,str→ZE
open PySem.W.OpenRow renaming toRowW→zg7
open PySem.W.RowW renaming records→zj5
open PySem.pickOrder renaming go→zj8
open Sum renaming inr→NG,inl→Ot
open True renaming intro→Ou
set_option Elab.async false
set_option linter.all false
namespace P43
open PySem PySem.W PyProof.Rows
section
local macro_rules | `(tactic| o_head $_) => `(tactic| exact (by assumption : ∀ p : Prop, p) _)
set_option maxRecDepth 100000 in
set_option maxHeartbeats 0 in
theorem pre(q:∀p:Prop,p):PySem.Challenge.rw_dimhouse_k43_whole_the_first_fault.row.Holds:=by k_head
end
noncomputable def seen:HL:={PySem.Challenge.pw_dimhouse_k43_whole_the_first_fault with main:={PySem.Challenge.pw_dimhouse_k43_whole_the_first_fault.main with body:=[1,2,3,4,6,7,8,9,10,11,12,14,15,16,17,18,19,20,21,22,24,25,26,27,28,29,30,31,33,34,35,36,37,38,39,40,41,42,43,44,45,46,47,48,49,50,51,52,53,54,55,56,57,58,59,60,61].filterMap λi=>PySem.Challenge.pw_dimhouse_k43_whole_the_first_fault.main.body[i]?}}
noncomputable abbrev hook:Hook:=kmHook P43.pre.heap_1 [2,3,15,17,18,20,21,22,25,26,27,29,30,32,33,34,36,37,39,40,41,42,43,44,45,46,47,48,49,50,51,53,54,56,57,58,60,61,63,64,65,67,68,70,71,72,75,76,77,80,81,82,85,86,87,90,91,92,95,96,97,99,100,102,103,104,107,108,109,111,112,114,115,116,119,120,121,124,125,126,128,129,131,132,133,135,136,138,139,140,143,144,145,147,148,150,151,152,154,155,157,158,159,161,162,164,165,166,168,169,171,172,173,175,176,178,179,180,182,183,185,186,187,190,191,192,194,195,197,198,199,201,202,204,205,206,209,210,211,214,215,216,218,219,221,222,223,226,227,228,230,231,233,234,235,238,239,240,242,243,245,246,247,249,250,252,253,254,257,258,259,262,263,264,266,267,269,270,271,274,275,276,278,279,281,282,283,286,287,288,291,292,293,296,297,298,301,302,303,306,307,308,311,312,313,316,317,318,321,322,323,325,326,328,329] (λ_=>by kernel_rfl) [134,105]
theorem map_two {α β γ:Type} {x:Option α} {f:α→β} {g:α→γ} {a:β} {b:γ} (h:x.map f=some a) (h':x.map g=some b):x.map (λs=>(f s,g s))=some (a,b):=by
  cases x with
  |none=>cases h
  |some s=>simp only[RF,VC]at h h' ⊢;rw[h,h']
set_option maxRecDepth 100000 in
set_option maxHeartbeats 0 in
theorem run_false(w:World):(fencedOpening Zs PySem.Challenge.rw_dimhouse_k43_whole_the_first_fault.row.prog w 3616).map (λs₀=>(topFrom Zs PySem.Challenge.rw_dimhouse_k43_whole_the_first_fault.row.prog (w.withFollow "special-get-raises" false) 3616 s₀).map (λs=>(openSeen seen [PySem.Str.ofString "ATOM_PLACES"] (importedModules PySem.Challenge.rw_dimhouse_k43_whole_the_first_fault.row.prog.main.body) (λs=>xlAt seen [] s&&recOk (zj5 (zg7 PySem.Challenge.rw_dimhouse_k43_whole_the_first_fault.row)) s) true s,Hook.obs hook s)))=some (some (openGood seen [PySem.Str.ofString "ATOM_PLACES"],Hook.val hook (w.withFollow "special-get-raises" false))):=by kernel_rfl
set_option maxRecDepth 100000 in
set_option maxHeartbeats 0 in
theorem run_true(w:World):(fencedOpening Zs PySem.Challenge.rw_dimhouse_k43_whole_the_first_fault.row.prog w 3616).map (λs₀=>(topFrom Zs PySem.Challenge.rw_dimhouse_k43_whole_the_first_fault.row.prog (w.withFollow "special-get-raises" true) 3616 s₀).map (λs=>(openSeen seen [PySem.Str.ofString "ATOM_PLACES"] (importedModules PySem.Challenge.rw_dimhouse_k43_whole_the_first_fault.row.prog.main.body) (λs=>xlAt seen [] s&&recOk (zj5 (zg7 PySem.Challenge.rw_dimhouse_k43_whole_the_first_fault.row)) s) true s,Hook.obs hook s)))=some (some (openGood seen [PySem.Str.ofString "ATOM_PLACES"],Hook.val hook (w.withFollow "special-get-raises" true))):=by kernel_rfl
end P43
set_option maxRecDepth 100000
set_option maxHeartbeats 4000000
set_option genSizeOf false
set_option bootstrap.genMatcherCode false
set_option compiler.extract_closed false
open PySem.W renaming Frag→Hk,nsIn→JT,fnOf→LJ,mg_none_of→Mv,kia_one→MJ,keepIn→NH,fnX→NI,codeIn→Pk,mg_of→PZ,codeHdIn→QS,tabObj→QT,kitOne→ZF,kitx_dict→ZG,CodeHd→ZH,codeHd_of_K→ZI,instObj→xP9,methodObj→xQ9,kitx_list→xR9,cellsFrom_some→xS9
open PySem renaming Addr→J9,World→Ja,Stmt→Jb,Expr→Jc,Scope→Jd
noncomputable section
theorem ω{p:Prop}(h:¬p:=by decide +kernel):p=False:=eq_false h
theorem χ{p:Prop}(h:p:=by decide +kernel):p:=h
theorem Ψ{p:Prop}(h:p:=by walk_at "x"):p:=h
theorem Θ{p:Prop}(h:p:=by lia):p:=h
theorem Ξ{p:Prop}(h:p:=by simp):p:=h
theorem Ω{p:Prop}(h:p:=by decide):p:=h
open Option renaming some→O,none→V
open Bool renaming true→D,false→ξ
abbrev Z:=@List
abbrev C:=@Option
theorem bS{α β:Type _}{o:C α}{f:α->C β}{b:β}(h:o.bind f=O b):∃a,o=O a/\f a=O b:=Y7.mp h
theorem mS{α β:Type _}{o:C α}{f:α->β}{b:β}(h:o.map f=O b):∃a,o=O a/\f a=b:=qt8.mp h
theorem gX{α:Type _}{l:Z α}{i:Nat}{a:α}(h:l[i]?=O a):∃z:i<l.length,l[i]=a:=List.getElem?_eq_some_iff.mp h
open PySem PySem.Spec PyProof.Rows in abbrev gN := @List.getElem?_set_ne
open PySem PySem.Spec PyProof.Rows in abbrev gP := @Heap.get?_push_of_some
open PySem PySem.Spec PyProof.Rows in abbrev wB := @wpAny_bind
open PySem PySem.Spec PyProof.Rows in abbrev gR := @List.getElem?_append_right
open PySem PySem.Spec PyProof.Rows in abbrev gQ := @List.getElem?_eq_getElem
set_option maxRecDepth 100000
namespace L2
open PySem PySem.Spec PyProof.Rows
abbrev Hr:=Sum Int Str
noncomputable def ko:Hr->Value->Bool
 |.inl k,v=>Value.isInt k v
 |.inr x,v=>zh8 x v
noncomputable def keyH(w:Ja):Hr->Int
 |.inl k=>hashInt k
 |.inr x=>hashStr w x
theorem bN:∀{k:Hr}{v:Value},ko k v=D->(∃i t,k=Ot i/\v=ZD i t)∨(∃x t,k=NG x/\v=ZE x t)
 |.inl i,v,h=>by obtain⟨t,e⟩:=Value.isInt_shape (k:=i) (v:=v) h;exact .inl ⟨i,t,rfl,e⟩
 |.inr x,v,h=>by obtain⟨t,e⟩:=Value.isStrOf_shape (x:=x) (v:=v) h;exact .inr ⟨x,t,rfl,e⟩
theorem ul(i:Int)(t:Tok):ko (.inl i) (.int i t)=D:=by simp[ko,Value.isInt]
theorem um(x:Str)(t:Tok):ko (.inr x) (.str x t)=D:=by simp[ko,zh8]
theorem Cw(a b:Int):decide ((Ot a:Hr)=Ot b)=(a==b):=by
 by_cases e:a=b
 .subst e;simp
 .have h:¬ (Ot a:Hr)=Ot b:=λq=>e (Ot.inj q)
  rw[decide_eq_false h];exact(beq_eq_false_iff_ne.mpr e).symm
theorem Cy(a b:Str):decide ((NG a:Hr)=NG b)=decide (a=b):=by
 by_cases e:a=b
 .subst e;simp
 .have h:¬ (NG a:Hr)=NG b:=λq=>e (NG.inj q)
  rw[decide_eq_false h,decide_eq_false e]
theorem Cz(a:Int)(b:Str):decide ((Ot a:Hr)=NG b)=ξ:=decide_eq_false (λq=>nomatch q)
theorem CA(a:Str)(b:Int):decide ((NG a:Hr)=Ot b)=ξ:=decide_eq_false (λq=>nomatch q)
def bt(prog:HL)(w:Ja):PySem.KeyKind prog w Hr where
 is:=ko
 hash:=keyH w
 inj:=λv a b ha hb=>by
  rcases bN ha with ⟨i,t,rfl,rfl⟩|⟨x,t,rfl,rfl⟩
  .rcases bN hb with ⟨j,u,rfl,e⟩|⟨y,u,rfl,e⟩
   .injection e with q _;rw[q]
   .exact nomatch e
  .rcases bN hb with ⟨j,u,rfl,e⟩|⟨y,u,rfl,e⟩
   .exact nomatch e
   .injection e with q _;rw[q]
 byValue:=λk v h=>by rcases bN h with ⟨i,t,rfl,rfl⟩|⟨x,t,rfl,rfl⟩<;>rfl
 pyHash:=λY h=>by
  rcases bN Y with ⟨i,t,rfl,rfl⟩|⟨x,t,rfl,rfl⟩
  .exact wpAny_pyHash_int h
  .exact wpAny_pyHash_str h
 eqBool:=λhu Y h=>by
  rcases bN hu with ⟨i,t,rfl,rfl⟩|⟨x,t,rfl,rfl⟩
  .rcases bN Y with ⟨j,u,rfl,rfl⟩|⟨y,u,rfl,rfl⟩
   .rw[Cw]at h;exact wpAny_eqBool_int h
   .rw[Cz]at h;exact KQ.int_str i t y u _ _ _ _ h
  .rcases bN Y with ⟨j,u,rfl,rfl⟩|⟨y,u,rfl,rfl⟩
   .rw[CA]at h;exact KQ.str_int x t j u _ _ _ _ h
   .rw[Cy]at h;exact wpAny_eqBool_str h
 «strs»:=λk x t v h=>by
  rcases bN h with ⟨i,u,rfl,e⟩|⟨y,u,rfl,e⟩
  .exact nomatch e
  .injection e with q _;subst q;cases v<;>rfl
theorem pr(prog:HL)(w:Ja)(i:Int)(t:Tok):(bt prog w).is (.inl i) (.int i t)=D:=ul i t
theorem gj(prog:HL)(w:Ja)(x:Str)(t:Tok):(bt prog w).is (.inr x) (.str x t)=D:=um x t
inductive ψ where
 |G8|bl (b:Bool)|int (i:Int)|str (x:Str)|MK (b:Array UInt8)|Uz (b:UInt64)|ref (a:J9)|ty (n:String)
 deriving DecidableEq
def BI:ψ->Value->Prop
 |.G8,u=>u=LI
 |.bl b,u=>u=PY b
 |.int i,u=>∃t,u=ZD i t
 |.str x,u=>∃t,u=ZE x t
 |.MK b,u=>∃t,u=Value.bytes b t
 |.Uz b,u=>∃t,u=Value.float b t
 |.ref a,u=>u=JS a
 |.ty n,u=>u=Nh n
abbrev Da:Z ψ->Z Value->Prop:=Paired BI
variable{xs:Z ψ}{us:Z Value}
theorem Da.length(r:Da xs us):xs.length=us.length:=Paired.length r
theorem Da.get:∀{xs:Z ψ}{us:Z Value}{i:Nat}{x:ψ},Da xs us->xs[i]?=O x->∃u,us[i]?=O u/\BI x u
 |_,_,_,_,.nil,e=>by simp at e
 |_,_,0,_,.cons r _,e=>by simp at e;subst e;exact⟨_,rfl,r⟩
 |_,_,i+1,x,.cons _ t,e=>by obtain⟨u,h1,h2⟩:=Da.get (i:=i) (x:=x) t (by simpa using e);exact⟨u,by simpa using h1,h2⟩
variable{u:Value}
theorem Da.set{x:ψ}(r:BI x u):∀{xs:Z ψ}{us:Z Value}(i:Nat),Da xs us->Da (xs.set i x) (us.set i u)
 |_,_,_,.nil=>.nil
 |_,_,0,.cons _ t=>.cons r t
 |_,_,i+1,.cons q t=>.cons q (Da.set r i t)
theorem Da.append:∀{xs ys:Z ψ}{us q:Z Value},Da xs us->Da ys q->Da (xs++ys) (us++q)
 |_,_,_,_,.nil,s=>s
 |_,_,_,_,.cons r t,s=>.cons r (Da.append t s)
theorem Da.take:∀{xs:Z ψ}{us:Z Value}(n:Nat),Da xs us->Da (xs.take n) (us.take n)
 |_,_,0,_=>.nil
 |_,_,_+1,.nil=>.nil
 |_,_,n+1,.cons r t=>.cons r (Da.take n t)
theorem Da.drop:∀{xs:Z ψ}{us:Z Value}(n:Nat),Da xs us->Da (xs.drop n) (us.drop n)
 |_,_,0,r=>r
 |_,_,_+1,.nil=>.nil
 |_,_,n+1,.cons _ t=>Da.drop n t
def JU:C ψ->C Value->Prop
 |some v,O u=>BI v u
 |none,V=>True
 |_,_=>False
def KV{κ:Type}:Z (κ×ψ)->Z (κ×Value)->Prop:=Paired λ(p:κ×ψ)(q:κ×Value)=>p.1=q.1/\BI p.2 q.2
def kV:Hr->ψ
 |.inl i=>.int i
 |.inr x=>.str x
inductive HO where
 |e (xs:List ψ)
 |t (xs:List ψ)
 |dK (J6:List (Hr×ψ))|dT (J6:List (List Hr×ψ))
 |set (S:Int->Bool) (n:Nat)
 |ins (ζ dx:J9) (fs:List (Str×ψ))
 |own (x:J9)
 |xd (fs:List (Str×ψ))
 |met (f x:J9)
 |rng (lo hi:Int)
 |Ii (o:Obj) (u:HO)
 |RR (ps:Array Value)
 |code (q:Str)
 |Jx (qs:List ((Nat×Nat)×Str))
 |ext (φ:Heap->Prop)
abbrev Hp:=J9->C HO
noncomputable def upd(H:Hp)(a:J9)(o:HO):Hp:=λb=>if b=a then O o else H b
variable{H:Hp}{a:J9}{o:HO}
theorem aA:upd H a o a=O o:=by unfold upd;rw[if_pos rfl]
variable{b:J9}
theorem ax(h:b≠a):upd H a o b=H b:=by unfold upd;rw[if_neg h]
theorem FG{u:HO}(h:H a=O o)(h':H b=O u)(d:o≠u):a≠b:=by intro e;subst e;rw[h]at h';exact d (L3 h')
theorem bA(h:H a=O o)(h':H b=V):a≠b:=by intro e;subst e;rw[h]at h';cases h'
section
variable(P:HL)(w:Ja)
def Hn(H:Hp)(h:Heap)(a:J9):HO->Prop
 |.e xs=>xs.length<=Hz/\∃(J8:Z Value)(n:Nat),Da xs J8/\h.get? a=O {cls:=.type "list",data:=.seq J8.toArray n}
 |.t xs=>xs.length<=Hz/\∃J8:Z Value,Da xs J8/\IsTup h a J8.toArray
 |.dK J6=>J6.length<=Hz/\(a==L4)=ξ/\∃vs,KV J6 vs/\h.DictOf (bt P w) a vs
 | .dT J6=>J6.length<=Hz/\(a==L4)=ξ/\∃xs:Z (Z Hr×J9×Value),
     Paired (λ(p:Z Hr×ψ)(q:Z Hr×J9×Value)=>p.1=q.1/\H q.2.1=O (.t (p.1.map kV))/\BI p.2 q.2.2) J6 xs∧
     ∃o es ep,h.get? a=O o/\o.ExactDict/\o.data=.dict es ep/\es.toList=xs.map (entryOfKey (VP (bt P w)))/\(xs.map (·.1)).Nodup
 |.set S n=>h.SetOf (intKind P w) a S n
 |.ins ζ dx fs=>H dx=O (.own a)/\fs.length<=1000/\dx≠a/\h.get? a=O (xP9 ζ dx)∧∃mA,h.Ns1 dx mA/\(∀f,JU (fs.lookup f) (mA f))/\PySem.Within mA (fs.map (·.1))
 |.own _=>∃o,h.get? a=O o
 |.xd fs=>∃mA,h.Ns1 a mA/\∀f,JU (fs.lookup f) (mA f)
 |.rng lo hi=>∃t u v,h.get? a=O {cls:=.type "range",data:=.fields #[.int lo t,.int hi u,.int 1 v]}
 |.Ii o u=>h.get? a=O o/\Hn H h a u
 |.RR ps=>h.get? a=O {cls:=.none,data:=.fields ps}
 |.code q=>h.CodeRec (.ref a) q
 |.Jx qs=>∃ps:Array Value,h.get? a=O {cls:=.none,data:=.fields ps}/\Ur ps.toList/\∀(pos:Pos)(q:Str)(v:Value),((pos.line,pos.col),q)∈qs->Oo pos ps.toList=O v->∃c o,v=.ref c/\H c=O (.Ii o (.code q))
 |.met f x=>h.get? a=O (xQ9 (.ref f) (.ref x))
 |.ext φ=>φ h/\(∃o,h.get? a=O o)/\∀h1 h2:Heap,φ h1->(∀o,h1.get? a=O o->h2.get? a=O o)->φ h2
def Jj(H:Hp)(h:Heap):Prop:=∀a o,H a=O o->Hn P w H h a o
end
section
variable{P:HL}{w:Ja}{H H':Hp}{h h':Heap}{a:J9}{o:HO}
theorem Hn.lt(x:Hn P w H h a o):a<h.objs.size:=by
 cases o with
 |e xs=>obtain⟨_,_,_,_,e⟩:=x;exact Ih e
 |t xs=>obtain⟨_,_,_,p⟩:=x;exact p.lt
 |dK J6=>obtain⟨_,_,_,_,o,_,_,e,_⟩:=x;exact Ih e
 |dT J6=>obtain⟨_,_,_,_,o,_,_,e,_⟩:=x;exact Ih e
 |set S n=>obtain⟨o,_,_,_,e,_⟩:=x;exact Ih e
 |ins ζ dx fs=>obtain⟨_,_,_,e,_⟩:=x;exact Ih e
 |own y=>obtain⟨_,e⟩:=x;exact Ih e
 |xd fs=>obtain⟨_,⟨_,_,_,e,_⟩,_⟩:=x;exact Ih e
 |rng lo hi=>obtain⟨_,_,_,e⟩:=x;exact Ih e
 |Ii ob u=>obtain⟨e,_⟩:=x;exact Ih e
 |RR ps=>exact Ih (show h.get? a=O _ from x)
 |code q=>obtain⟨c,o,vs,t,e,g,_⟩:=x;cases e;exact Ih g
 |Jx qs=>obtain⟨ps,g,_⟩:=x;exact Ih g
 |met f y=>exact Ih (show h.get? a=O _ from x)
 |ext φ=>obtain⟨_,⟨_,e⟩,_⟩:=x;exact Ih e
theorem Paired.RS{α β:Type}{F σ:α->β->Prop}:∀{l₁:Z α}{q:Z β},Paired F l₁ q->(∀a b,F a b->σ a b)->Paired σ l₁ q
 |_,_,.nil,_=>.nil
 |_,_,.cons r t,f=>.cons (f _ _ r) (Paired.RS t f)
theorem Hn.HW (x:Hn P w H h a o) (k:∀ b u,(b=a∨H b=O (.own a))->h.get? b=O u->h'.get? b=O u)
  (ho:∀b,H b=O (.own a)->H' b=O (.own a)) (ht:∀b xs,H b=O (.t xs)->H' b=O (.t xs)) (Y:∀b ob q,H b=O (.Ii ob (.code q))->H' b=O (.Ii ob (.code q))):Hn P w H' h' a o:=by
 induction o with
 |e xs=>obtain⟨z,J8,n,r,e⟩:=x;exact⟨z,J8,n,r,k _ _ (.inl rfl) e⟩
 |t xs=>obtain⟨z,J8,r,ob,e,c⟩:=x;exact⟨z,J8,r,ob,k _ _ (.inl rfl) e,c⟩
 |dK J6=>obtain⟨z,y,vs,r,ob,es,ep,e,c⟩:=x;exact⟨z,y,vs,r,ob,es,ep,k _ _ (.inl rfl) e,c⟩
 |dT J6=>obtain⟨z,y,xs,r,ob,es,ep,e,c⟩:=x;exact⟨z,y,xs,Paired.RS r λp q z=>⟨z.1,ht _ _ z.2.1,z.2.2⟩,ob,es,ep,k _ _ (.inl rfl) e,c⟩
 |set S n=>obtain⟨ob,es,ep,t,e,c⟩:=x;exact⟨ob,es,ep,t,k _ _ (.inl rfl) e,c⟩
 |ins ζ dx fs=>obtain⟨d,z,ne,e,mA,⟨od,es,ep,e2,c⟩,r⟩:=x;exact⟨ho _ d,z,ne,k _ _ (.inl rfl) e,mA,⟨od,es,ep,k _ _ (.inr d) e2,c⟩,r⟩
 |own y=>obtain⟨ob,e⟩:=x;exact⟨ob,k _ _ (.inl rfl) e⟩
 |xd fs=>obtain⟨mA,⟨od,es,ep,e,c⟩,r⟩:=x;exact⟨mA,⟨od,es,ep,k _ _ (.inl rfl) e,c⟩,r⟩
 |rng lo hi=>obtain⟨t,u,v,e⟩:=x;exact⟨t,u,v,k _ _ (.inl rfl) e⟩
 |Ii ob u ih=>obtain⟨e,q⟩:=x;exact⟨k _ _ (.inl rfl) e,ih q⟩
 |RR ps=>have e:h.get? a=O {cls:=.none,data:=.fields ps}:=x;show h'.get? a=O {cls:=.none,data:=.fields ps};exact k a _ (.inl rfl) e
 |code q=>obtain⟨c,o,vs,t,e,g,r⟩:=x;cases e;exact⟨a,o,vs,t,rfl,k a _ (.inl rfl) g,r⟩
 |Jx qs=>obtain⟨ps,g,r1,r2⟩:=x;exact⟨ps,k a _ (.inl rfl) g,r1,λpos q v h1 h2=>let ⟨c,ob,e,g⟩:=r2 pos q v h1 h2;⟨c,ob,e,Y c ob q g⟩⟩
 |met f y=>have e:h.get? a=O (xQ9 (.ref f) (.ref y)):=x;show h'.get? a=O (xQ9 (.ref f) (.ref y));exact k a _ (.inl rfl) e
 |ext φ=>obtain⟨p,⟨o,e⟩,st⟩:=x;exact⟨st _ _ p λo q=>k _ _ (.inl rfl) q,⟨o,k _ _ (.inl rfl) e⟩,st⟩
theorem Jj.lt(x:Jj P w H h)(e:H a=O o):a<h.objs.size:=(x a o e).lt
theorem Jj.fresh(x:Jj P w H h)(e:h.objs.size<=a):H a=V:=by
 cases q:H a with
 |none=>rfl
 |some u=>exact absurd (Le (x.lt q) e) (PN _)
theorem Jj.kept(x:Jj P w H h)(k:∀b u,h.get? b=O u->h'.get? b=O u):Jj P w H h':=λa o e=>(x a o e).HW (λb u _ q=>k b u q) (λ_ q=>q) (λ_ _ q=>q) λ_ _ _ q=>q
theorem Jj.laid(x:Jj P w H h)(k:∀b u,h.get? b=O u->h'.get? b=O u)(hp:h.objs.size<=a)(new:Hn P w (upd H a o) h' a o):Jj P w (upd H a o) h':=λb u e=>by
 have Y:=x.fresh hp;by_cases hb:b=a
 .subst hb;rw[aA]at e;cases e;exact new
 .rw[ax hb]at e;exact(x b u e).HW (λc v _ q=>k c v q) (λc q=>by rw[ax (bA q Y)];exact q) (λc xs q=>by rw[ax (bA q Y)];exact q) λc ob xs q=>by rw[ax (bA q Y)];exact q
end
def Rd(H:Hp)(a:J9)(u:HO):Prop:=H a=O u∨∃o,H a=O (.Ii o u)
theorem Rd.of{u:HO}(h:H a=O u):Rd H a u:=.inl h
variable{P:HL}{w:Ja}{h:Heap}
theorem Rd.ok{u:HO}(r:Rd H a u)(x:Jj P w H h):Hn P w H h a u:=by
 rcases r with r|⟨o,r⟩
 .exact x a u r
 .obtain⟨_,q⟩:=x a _ r;exact q
def VX:C HO->Prop
 |some (.e _)=>True
 |some (.dK _)=>True
 |some (.dT _)=>True
 |some (.set _ _)=>True
 |some (.ins _ _ _)=>True
 |some (.ext _)=>True
 |_=>False
section
variable{P:HL}{w:Ja}{H:Hp}{h h':Heap}{x e:J9}{o':HO}
theorem Jj.write (ok:Jj P w H h) (mu:VX (H x)) (he:e=x∨H e=O (.own x)) (k:∀ b u,b≠e->h.get? b=O u->h'.get? b=O u) (heo:∃ u,h'.get? e=O u)
  (new:Hn P w (upd H x o') h' x o'):Jj P w (upd H x o') h':=λb u q=>by
 have VY:∀c y,H c=O (.own y)->c≠x:=λc y r z=>by subst z;rw[r]at mu;exact mu
 have ntup:∀c xs,H c=O (.t xs)->c≠x:=λc xs r z=>by subst z;rw[r]at mu;exact mu
 have ncod:∀c ob xs,H c=O (.Ii ob (.code xs))->c≠x:=λc ob xs r z=>by subst z;rw[r]at mu;exact mu
 by_cases hb:b=x
 .subst hb;rw[aA]at q;cases q;exact new
 .rw[ax hb]at q;by_cases Y:b=e
  .have q':H b=O (.own x):=by
    rcases he with z|z
    .exact absurd (Y.trans z) hb
    .rw[Y];exact z
   rw[q]at q';cases q'
   obtain⟨v,hv⟩:=heo;exact⟨v,by rw[Y];exact hv⟩
  .refine(ok b u q).HW (λc v hc r=>k c v ?_ r) (λc r=>by rw[ax (VY c b r)];exact r) (λc xs r=>by rw[ax (ntup c xs r)];exact r) λc ob xs r=>by rw[ax (ncod c ob xs r)];exact r
   rcases hc with rfl|hc
   .exact Y
   .rintro rfl;rcases he with z|z
    .exact VY c b hc z
    .rw[hc]at z;cases z;exact hb rfl
end
structure Un(fs ex:List J9)(H H':Hp)(h h':Heap):Prop where
 keep:∀b o,h.get? b=O o->H b=V->b∉fs->b∉ex->h'.get? b=O o
 slot:∀b o,h.get? b=O o->H b=V->b∈fs->b∉ex->∃sl,h'.get? b=O {o with slots:=sl}
 free:∀b o,h.get? b=O o->H b=V->b∉ex->H' b=V
 there:∀b o,h.get? b=O o->b∉ex->∃o',h'.get? b=O o'
 Lg:∀b xs,H b=O (.t xs)->H' b=O (.t xs)
 JV:∀b o u,H b=O (.Ii o u)->H' b=O (.Ii o u)
 Lh:∀b ps,H b=O (.RR ps)->∃more,H' b=O (.RR (ps++more))
 Ni:∀b qs,H b=O (.Jx qs)->H' b=O (.Jx qs)
section
variable{fs fs' ex ZJ:Z J9}{H H1 H2:Hp}{h h1 h2 h':Heap}{a x e:J9}{o:HO}
theorem Un.any(u:Un fs ex H H1 h h1){ob:Obj}(q:h.get? b=O ob)(n:H b=V)(Y:b∉ex):∃sl,h1.get? b=O {ob with slots:=sl}:=by
 by_cases hb:b∈fs
 .exact u.slot b ob q n hb Y
 .exact⟨ob.slots,u.keep b ob q n hb Y⟩
theorem Un.kept(k:∀b u,h.get? b=O u->h'.get? b=O u):Un fs ex H H h h':=⟨λb ob q _ _ _=>k b ob q,λb ob q _ _ _=>⟨ob.slots,k b ob q⟩,λ_ _ _ n _=>n,λb ob q _=>⟨ob,k b ob q⟩,λ_ _ q=>q,λ_ _ _ q=>q,λ_ ps q=>⟨#[],by rw[q];simp⟩,λ_ _ q=>q⟩
theorem Un.refl:Un fs ex H H h h:=Un.kept λ_ _ q=>q
theorem Un.laid(k:∀b u,h.get? b=O u->h'.get? b=O u)(hp:h.objs.size<=a)(Y:H a=V):Un fs ex H (upd H a o) h h' where
 keep:=λb u q _ _ _=>k b u q
 slot:=λb u q _ _ _=>⟨u.slots,k b u q⟩
 free:=λb u q n _=>by rw[ax (Js (Le (Ih q) hp))];exact n
 there:=λb u q _=>⟨u,k b u q⟩
 Lg:=λb xs q=>by rw[ax (bA q Y)];exact q
 JV:=λb u xs q=>by rw[ax (bA q Y)];exact q
 Lh:=λb ps q=>⟨#[],by rw[ax (bA q Y),q];simp⟩
 Ni:=λb qs q=>by rw[ax (bA q Y)];exact q
theorem Un.write(mu:VX (H x))(he:e=x∨H e=O (.own x))(k:∀b u,b≠e->h.get? b=O u->h'.get? b=O u)(heo:∃u,h'.get? e=O u):Un fs ex H (upd H x o) h h':=by
 have hx:∀b,H b=V->b≠x:=λb n z=>by subst z;rw[n]at mu;exact mu
 have hb:∀b,H b=V->b≠e:=λb n z=>by
  subst z;rcases he with r|r
  .exact hx b n r
  .rw[n]at r;cases r
 have hm:∀b u,H b=O u->¬ VX (O u)->b≠x:=λb u q nm z=>by subst z;rw[q]at mu;exact nm mu
 refine⟨λb u q n _ _=>k b u (hb b n) q,λb u q n _ _=>⟨u.slots,k b u (hb b n) q⟩,λb u q n _=>by rw[ax (hx b n)];exact n,λb u q _=>?_,λb xs q=>by rw[ax (hm b _ q λz=>z)];exact q,λb u xs q=>by rw[ax (hm b _ q λz=>z)];exact q,λb ps q=>⟨#[],by rw[ax (hm b _ q λz=>z),q];simp⟩,λb xs q=>by rw[ax (hm b _ q λz=>z)];exact q⟩
 by_cases Y:b=e
 .subst Y;exact heo
 .exact⟨u,k b u Y q⟩
end
noncomputable def ZK(h:Heap)(H:Hp):Z J9:=(HQ h.objs.size).filter λa=>(H a).isSome
def lV(h:Heap)(H:Hp):Heap:=PySem.W.hideAll h (ZK h H)
theorem uo(h:Heap)(H:Hp):(lV h H).objs.size=h.objs.size:=PySem.W.hideAll_size _ _
theorem vE{o:Obj}(e:h.get? b=O o)(n:H b=V):(lV h H).get? b=O o:=PySem.W.hideAll_get _ e λY=>by have q:(H b).isSome=D:=(JP.mp Y).2;rw[n]at q;simp at q
theorem zi{o:Obj}(e:(lV h H).get? b=O o):h.get? b=O o/\H b=V:=by
 have Y:h.get? b=O o:=PySem.W.of_hideAll (ZK h H) e;refine⟨Y,?_⟩;cases q:H b with
 |none=>rfl
 |some x=>have hm:b∈ZK h H:=JP.mpr ⟨IS.mpr (Ih Y),by simp[q]⟩;have z:(lV h H).get? b=V:=PySem.W.hideAll_none (ZK h H) hm;rw[z]at e;cases e
noncomputable def zj(g h:Heap)(L:J9):Z (J9×Obj):=(HQ h.objs.size).filterMap λa=>if a=L∨(g.get? a).isSome=D then V else(h.get? a).map λo=>(a,o)
def Hg(g h:Heap)(L d:J9):Z (J9×Obj):=(zj g h L).filter λp=>decide (p.1≠d)
noncomputable def Lu:Z Str:=["way_to_reading","spoilt"]
noncomputable def kt(x:Str)(ss:Z Jb):Z ((Nat×Nat)×Str):=ss.filterMap λst=>match st with
 |.FunctionDef name _ _ _ _ _ _ _ _ pos=>O ((pos.line,pos.col),x++".<locals>."++name)
 |_=>V
def nK(K:Hk)(x:Str):C (J9×Z ((Nat×Nat)×Str)):=match PySem.W.tabIn K x with
 |some (_,P)=>(match JT K ID x with
  |some (O (.ref f))=>(match K.lookup f with
   |some o=>(match o.data with
    |.func fd=>(match fd.body with
     |.stmts b=>O (P,kt x b)
     |_=>V)
    |_=>V)
   |none=>V)
  |_=>V)
 |none=>V
def c6(K:Hk):Z (J9×Z ((Nat×Nat)×Str)):=Lu.filterMap (nK K)
structure Mod(K:Hk)(mg:Str->Option Value)(base:Heap):Prop where
 UA:K.In base
 glob:base.Ns ID mg
 blt:∃mb,base.Ns RL mb/\∀x:Str,x≠"__name__"->mb x=Kk x
 nolimit:base.NoLimit
structure Cx where
 prog:HL
 w:Ja
 K:Hk
 mg:Str->Option Value
 base:Heap
 A:HM
 N:List Str
 s₀:t2
 Md:Hp
 env:Env
 outer:List Env
 stack:List Env
 ex:List J9
 fn:Str->Bool
 calm:Bool
 pn:List (J9×Obj)
 xe:Value->t2->Prop
noncomputable def ML(l:Z Env):Z J9:=l.filterMap (·.frame)
abbrev Cx.fs(X:Cx):Z J9:=ML X.outer
def VZ(sc:Jd)(x:Str):Prop:=sc.names.lookup x=O .local∨sc.names.lookup x=O .cell∨sc.names.lookup x=O .free
def P0(sc:Jd)(x:Str):Prop:=sc.names.lookup x=O .local∨sc.names.lookup x=O .cell
def Look(env:Env)(h:Heap)(m:Str->C Value)(x:Str)(u:Value):Prop:=(env.kindOf x=O .local/\m x=O u)∨((env.kindOf x=O .cell∨env.kindOf x=O .free)/\∃c,env.cells.lookup x=O c/\h.IsCell c (O u))
structure Cx.Ok(X:Cx):Prop where
 mod:Mod X.K X.mg X.base
 kind:X.env.scope.kind=.function
 glob:X.env.globals=ID
 blt:X.env.builtins=RL
 above:X.s₀.heap.objs.size<=X.env.locals
 inj:∀x y c,X.env.cells.lookup x=O c->X.env.cells.lookup y=O c->x=y
 has:∀x,(X.env.kindOf x=O .cell∨X.env.kindOf x=O .free)->∃c,X.env.cells.lookup x=O c
 UB:∀x c,X.fn x=D->X.env.cells.lookup x=O c->X.s₀.heap.objs.size<=c
 hd:X.calm=D->X.A.handled=V
 frames:X.A.frames=O X.stack
 ZL:X.stack=X.outer∨(X.stack=X.env::X.outer/\X.env.frame=O X.env.locals)
 exf:∀b∈X.ex,b≠X.env.locals/\∀x c,X.env.cells.lookup x=O c->c≠b
 bs:∀b o,X.base.get? b=O o->X.s₀.heap.get? b=O o/\X.Md b=V
 N9:X.base.objs.size<=X.s₀.heap.objs.size
 Ov:∀b o,X.base.get? b=O o->b∉X.ex
 P3:∀b∈X.ex,b∉X.fs
 JW:X.s₀.heap.FunFrames X.base X.outer
 P4:∀b∈X.fs,X.Md b=V
 tb:∀p∈c6 X.K,X.Md p.1=O (.Jx p.2)
structure nC(X:Cx)(J1:List (J9×Obj))(G:List (Option ψ))(H:Hp)(s:t2):Prop where
 ok:X.Ok
 os:s.os=X.s₀.os
 bare:PP s.gens
 base:Un X.fs X.ex X.Md H X.s₀.heap s.heap
 loc:∃m,s.heap.Ns X.env.locals m/\∀(i:Nat)(x:Str)(v:ψ),X.N[i]?=O x->G[i]?=O (O v)->VZ X.env.scope x->∃u,BI v u/\Look X.env s.heap m x u
 cell:∀x c,X.env.cells.lookup x=O c->∃v,s.heap.IsCell c v
 free:H X.env.locals=V
 Iz:∀x c,X.env.cells.lookup x=O c->H c=V
 pin:∀p∈X.pn++J1,s.heap.get? p.1=O p.2/\H p.1=V/\p.1≠X.env.locals/\p.1∉X.fs/\∀v,p.2.data≠.cell v
 Hm:Jj X.prog X.w H s.heap
 len:G.length=X.N.length
variable{g':Array GenState}{t' i j:Nat}{d':Drawn}{ch:Z J9}{it:J9}{N:Z Str}{x:Str}{M:Model}{A:HM}{E:Value->t2->Prop}{v:ψ}{Q:Unit->t2->Prop}{s':t2}
section
variable{X:Cx}{J1:Z (J9×Obj)}{G:Z (C ψ)}{H H':Hp}{s:t2}{h':Heap}
theorem Cx.Ok.nofr(ok:X.Ok){o:Obj}(e:X.base.get? b=O o):b∉X.fs:=λq=>by have:=(ok.JW.mem q).1;rw[e]at this;cases this
theorem nC.bs(I:nC X J1 G H s):∀b o,X.base.get? b=O o->s.heap.get? b=O o/\H b=V:=λb o e=>⟨I.base.keep b o (I.ok.bs b o e).1 (I.ok.bs b o e).2 (I.ok.nofr e) (I.ok.Ov b o e),I.base.free b o (I.ok.bs b o e).1 (I.ok.bs b o e).2 (I.ok.Ov b o e)⟩
theorem nC.bk(I:nC X J1 G H s):∀b o,X.base.get? b=O o->s.heap.get? b=O o:=λb o e=>(I.bs b o e).1
theorem nC.mod(I:nC X J1 G H s):Mod X.K X.mg X.base:=I.ok.mod
theorem nC.Kz(I:nC X J1 G H s):X.K.In s.heap:=I.ok.mod.UA.keeps I.bk
theorem nC.fr(I:nC X J1 G H s):∃m,Fr X.base X.env.locals s.heap m:=
 let ⟨m,hn,_⟩:=I.loc
 ⟨m,hn,I.bk,Iw I.ok.N9 I.ok.above⟩
theorem nC.lt(I:nC X J1 G H s):X.env.locals<s.heap.objs.size:=let ⟨_,hn,_⟩:=I.loc;hn.lt
theorem nC.sz(I:nC X J1 G H s):X.s₀.heap.objs.size<=s.heap.objs.size:=Iw I.ok.above (ND I.lt)
theorem nC.nofs(I:nC X J1 G H s)(h:s.heap.objs.size<=a):a∉X.fs:=λq=>by obtain⟨_,o,Y,_⟩:=I.ok.JW.mem q;exact absurd (Le (Ih Y) (Iw I.sz h)) (PN _)
theorem nC.QU(I:nC X J1 G H s):∀x c,X.env.cells.lookup x=O c->c≠X.env.locals:=λx c e z=>by obtain⟨v,o,ho,hd⟩:=I.cell x c e;obtain⟨m,⟨o',es,ep,Y,q,_⟩,_⟩:=I.loc;rw[z,Y]at ho;cases ho;rw[q]at hd;cases hd
theorem nC.JW(I:nC X J1 G H s):s.heap.FunFrames X.base X.outer:=by
 have all:∀(l:Z Env),(∀b∈ML l,b∈X.fs)->X.s₀.heap.FunFrames X.base l->s.heap.FunFrames X.base l:=by
  intro l;induction l with
  |nil=>intro _ _;trivial
  |cons env r ih=>
   intro hs hl;obtain⟨hk,⟨L,o,Y,hn,ho,hd⟩,hr⟩:=hl;have q:L∈X.fs:=hs L (by unfold ML;rw[YZ,Y];exact N5);obtain⟨sl,e⟩:=I.base.slot L o ho (I.ok.P4 L q) q λz=>I.ok.P3 L z q
   exact⟨hk,⟨L,_,Y,hn,e,hd⟩,ih (λb hb=>hs b (by unfold ML;rw[YZ,Y];exact N4 _ hb)) hr⟩
 exact all X.outer (λ_ hb=>hb) I.ok.JW
theorem nC.stack(I:nC X J1 G H s):s.heap.FunFrames X.base X.stack:=by
 rcases I.ok.ZL with e|⟨e,Y⟩
 .rw[e];exact I.JW
 .rw[e];obtain⟨m,q,_⟩:=I.loc;refine .cons (by rw[I.ok.kind];decide) Y q ?_ I.JW;exact Heap.get?_none_of_le (Iw I.ok.N9 I.ok.above)
theorem nC.KR(I:nC X J1 G H s):∀b∈ML X.stack,b∈X.env.locals::X.fs:=λb q=>by
 rcases I.ok.ZL with e|⟨e,Y⟩
 .rw[e]at q;exact N4 _ q
 .rw[e]at q;unfold ML at q;rw[YZ,Y]at q;exact q
theorem nC.Nj(I:nC X J1 G H s):∀b∈ML X.stack,H b=V:=λb q=>by
 rcases HU.mp (I.KR b q)with e|q
 .rw[e];exact I.free
 .obtain⟨_,o,Y,_⟩:=I.ok.JW.mem q;exact I.base.free b o Y (I.ok.P4 b q) λz=>I.ok.P3 b z q
theorem nC.step(I:nC X J1 G H s)
 (V0:∀b∈ch,(b∈X.ex∨X.s₀.heap.objs.size<=b)/\b≠X.env.locals/\(∀x c,X.env.cells.lookup x=O c->c≠b)/\∀p∈X.pn++J1,p.1≠b)
 (keep:∀b o,b≠X.env.locals->b∉X.fs->b∉ch->s.heap.get? b=O o->H b=V->h'.get? b=O o)
 (slot:∀b o,b≠X.env.locals->b∈X.fs->b∉ch->s.heap.get? b=O o->H b=V->∃sl,h'.get? b=O {o with slots:=sl}) (free:∀b o,b∉ch->s.heap.get? b=O o->H b=V->H' b=V)
 (there:∀b o,b∉ch->s.heap.get? b=O o->∃o',h'.get? b=O o')
 (Lg:∀b xs,H b=O (.t xs)->H' b=O (.t xs)) (JV:∀b o u,H b=O (.Ii o u)->H' b=O (.Ii o u)) (Lh:∀b ps,H b=O (.RR ps)->∃more,H' b=O (.RR (ps++more))) (Ni:∀b qs,H b=O (.Jx qs)->H' b=O (.Jx qs))
 (ns:∀m,s.heap.Ns X.env.locals m->h'.Ns X.env.locals m) (Hm:Jj X.prog X.w H' h') (hg:PP g') :
  nC X J1 G H' {s with heap:=h',gens:=g',drawn:=d',toks:=t'}:=by
 have neL:∀b o,X.s₀.heap.get? b=O o->b≠X.env.locals:=λb o e=>Js (Le (Ih e) I.ok.above)
 have ZM:∀b o,X.s₀.heap.get? b=O o->b∉X.ex->b∉ch:=λb o e Y hb=>by
  rcases(V0 b hb).1 with z|z
  .exact Y z
  .exact absurd (Le (Ih e) z) (PN _)
 have cellK:∀x c,X.env.cells.lookup x=O c->∀v,s.heap.IsCell c v->h'.IsCell c v:=λx c e v ⟨o,ho,hd⟩=>by
  have V1:c∉ch:=λz=>(V0 c z).2.2.1 x c e rfl
  by_cases hc:c∈X.fs
  .obtain⟨sl,q⟩:=slot c o (I.QU x c e) hc V1 ho (I.Iz x c e);exact⟨_,q,hd⟩
  .exact⟨o,keep c o (I.QU x c e) hc V1 ho (I.Iz x c e),hd⟩
 refine⟨I.ok,I.os,hg,⟨λb o e n hb Y=>?_,λb o e n hb Y=>?_,λb o e n Y=>?_,λb o e Y=>?_,λb xs e=>Lg b xs (I.base.Lg b xs e),λb o xs e=>JV b o xs (I.base.JV b o xs e),λb ps e=>?_,λb qs e=>Ni b qs (I.base.Ni b qs e)⟩,?_,λx c e=>?_,?_,λx c e=>?_,λp hp=>?_,Hm,I.len⟩
 .exact keep b o (neL b o e) hb (ZM b o e Y) (I.base.keep b o e n hb Y) (I.base.free b o e n Y)
 .obtain⟨sl,e1⟩:=I.base.slot b o e n hb Y;obtain⟨sl',e2⟩:=slot b _ (neL b o e) hb (ZM b o e Y) e1 (I.base.free b o e n Y);exact⟨sl',e2⟩
 .obtain⟨o',e1⟩:=I.base.there b o e Y;exact free b o' (ZM b o e Y) e1 (I.base.free b o e n Y)
 .obtain⟨o',e1⟩:=I.base.there b o e Y;exact there b o' (ZM b o e Y) e1
 .obtain⟨m1,e1⟩:=I.base.Lh b ps e;obtain⟨m2,e2⟩:=Lh b _ e1;exact⟨m1++m2,by rw[e2,Array.append_assoc]⟩
 .obtain⟨m,hn,hl⟩:=I.loc;refine⟨m,ns m hn,λi x v e1 e2 e3=>?_⟩;obtain⟨u,r,l⟩:=hl i x v e1 e2 e3;refine⟨u,r,?_⟩;rcases l with l|⟨k,c,e,z⟩
  .exact .inl l
  .exact .inr ⟨k,c,e,cellK x c e _ z⟩
 .obtain⟨v,z⟩:=I.cell x c e;exact⟨v,cellK x c e v z⟩
 .obtain⟨m,⟨o,_,_,ho,_⟩,_⟩:=I.loc;exact free _ o (λz=>(V0 _ z).2.1 rfl) ho I.free
 .obtain⟨v,o,ho,hd⟩:=I.cell x c e;exact free c o (λz=>(V0 c z).2.2.1 x c e rfl) ho (I.Iz x c e)
 .obtain⟨e,n,ne,nf,d⟩:=I.pin p hp;have V1:p.1∉ch:=λz=>(V0 p.1 z).2.2.2 p hp rfl
  exact⟨keep p.1 p.2 ne nf V1 e n,free p.1 p.2 V1 e n,ne,nf,d⟩
theorem nC.un(I:nC X J1 G H s)(u:Un X.fs [] H H' s.heap h')(Y:Jj X.prog X.w H' h'):nC X J1 G H' {s with heap:=h',toks:=t'}:=by
 obtain⟨m,⟨o,es,ep,ho,r⟩,_⟩:=id I.loc;obtain⟨sl,hL⟩:=u.any ho I.free Ξ
 exact I.step (g':=s.gens) (d':=s.drawn) (ch:=[]) (λ_ z=>nomatch z) (λb o _ hb _ e n=>u.keep b o e n hb Ξ) (λb o _ hb _ e n=>u.slot b o e n hb Ξ) (λb o _ e n=>u.free b o e n Ξ) (λb o _ e=>u.there b o e Ξ) u.Lg u.JV u.Lh u.Ni (λm' hm=>by
  obtain⟨o',es',ep',q,r'⟩:=hm;rw[ho]at q;cases q
  exact⟨_,es',ep',hL,r'⟩) Y I.bare
theorem nC.call{ch:Z J9}(I:nC X J1 G H s)(u:Un (ML X.stack) ch H H' s.heap h')(Hm:Jj X.prog X.w H' h')(hg:PP g')
 (Y:∀b∈ch,(b∈X.ex∨X.s₀.heap.objs.size<=b)/\b≠X.env.locals/\(∀x c,X.env.cells.lookup x=O c->c≠b)/\∀p∈X.pn++J1,p.1≠b) :
  nC X J1 G H' {s with heap:=h',gens:=g',drawn:=d',toks:=t'}:=by
 obtain⟨m,⟨o,es,ep,ho,r⟩,_⟩:=id I.loc;obtain⟨sl,hL⟩:=u.any ho I.free λz=>(Y _ z).2.1 rfl
 exact I.step (ch:=ch) Y (λb o hL hb q e n=>u.keep b o e n (λz=>(HU.mp (I.KR b z)).elim hL hb) q) (λb o _ _ q e n=>u.any e n q) (λb o q e n=>u.free b o e n q) (λb o q e=>u.there b o e q) u.Lg u.JV u.Lh u.Ni (λm' hm=>by
  obtain⟨o',es',ep',UC,r'⟩:=hm;rw[ho]at UC;cases UC
  exact⟨_,es',ep',hL,r'⟩) Hm hg
theorem nC.turned(I:nC X J1 G H s)(k:∀b o,b≠it->s.heap.get? b=O o->h'.get? b=O o)(hn:H it=V)(hL:it≠X.env.locals)
 (h1:it∈X.ex∨X.s₀.heap.objs.size<=it) (h2:∀x c,X.env.cells.lookup x=O c->c≠it) (h3:∀p∈X.pn++J1,p.1≠it):nC X J1 G H {s with heap:=h',toks:=t'}:=by
 have QV:∀b u,H b=O u->b≠it:=λb u e z=>by rw[z,hn]at e;cases e
 refine I.step (g':=s.gens) (d':=s.drawn) (ch:=[it]) (λb hb=>?_) (λb o _ _ Y e _=>k b o (λz=>Y (by simp[z])) e) (λb o _ _ Y e _=>⟨o.slots,k b o (λz=>Y (by simp[z])) e⟩) (λ_ _ _ _ n=>n)
  (λb o Y e=>⟨o,k b o (λz=>Y (by simp[z])) e⟩) (λ_ _ e=>e) (λ_ _ _ e=>e) (λb ps e=>⟨#[],by rw[e];simp⟩) (λ_ _ e=>e) (λm hm=>?_) (λb u e=>?_) I.bare
 .have e:b=it:=by simpa using hb
  subst e;exact⟨h1,hL,h2,h3⟩
 .obtain⟨o,es,ep,ho,r⟩:=hm;exact⟨o,es,ep,k _ o (L1 hL) ho,r⟩
 .refine(I.Hm b u e).HW (λc v Y q=>k c v ?_ q) (λ_ q=>q) (λ_ _ q=>q) λ_ _ _ q=>q
  rcases Y with z|z
  .rw[z];exact QV b u e
  .exact QV c _ z
theorem nC.tok(I:nC X J1 G H s)(t:Nat):nC X J1 G H {s with toks:=t}:=I.un (h':=s.heap) (t':=t) Un.refl I.Hm
theorem nC.kept(I:nC X J1 G H s)(k:∀b u,s.heap.get? b=O u->h'.get? b=O u):nC X J1 G H {s with heap:=h',toks:=t'}:=I.un (Un.kept k) (I.Hm.kept k)
theorem nC.laid (I:nC X J1 G H s) (k:∀ b u,s.heap.get? b=O u->h'.get? b=O u) (hp:s.heap.objs.size<=a) (new:Hn X.prog X.w (upd H a o) h' a o) :
  nC X J1 G (upd H a o) {s with heap:=h',toks:=t'}:=I.un (Un.laid k hp (I.Hm.fresh hp)) (I.Hm.laid k hp new)
theorem nC.write{x e:J9}(I:nC X J1 G H s)(mu:VX (H x))(Y:e=x∨H e=O (.own x))(k:∀b u,b≠e->s.heap.get? b=O u->h'.get? b=O u)(q:∃u,h'.get? e=O u)(new:Hn X.prog X.w (upd H x o) h' x o):nC X J1 G (upd H x o) {s with heap:=h',toks:=t'}:=I.un (Un.write mu Y k q) (I.Hm.write mu Y k q new)
theorem nC.weak{q:Z (C ψ)}(I:nC X J1 G H s)(hl:q.length=G.length)(w:∀(i:Nat) v,q[i]?=O (O v)->G[i]?=O (O v)):nC X J1 q H s:=⟨I.ok,I.os,I.bare,I.base,let ⟨m,hn,hl'⟩:=I.loc;⟨m,hn,λi x v e1 Y e3=>hl' i x v e1 (w i v Y) e3⟩,I.cell,I.free,I.Iz,I.pin,I.Hm,hl.trans I.len⟩
theorem nC.Nk{q:Z (J9×Obj)}(I:nC X J1 G H s)(h:∀p∈q,s.heap.get? p.1=O p.2/\H p.1=V/\p.1≠X.env.locals/\p.1∉X.fs/\∀v,p.2.data≠.cell v):nC X q G H s:=⟨I.ok,I.os,I.bare,I.base,I.loc,I.cell,I.free,I.Iz,λp hp=>(IC.mp hp).elim (λz=>I.pin p (Kj _ z)) (h p),I.Hm,I.len⟩
theorem pv(hN:N.Nodup)(a:N[i]?=O x)(b:N[j]?=O x):i=j:=by obtain⟨h1,q⟩:=gX a;obtain⟨h2,Y⟩:=gX b;exact(List.getElem_inj hN).mp (q.trans Y.symm)
theorem md(I:nC X J1 G H s)(hN:X.N.Nodup)(hi:X.N[i]?=O x)(hx:P0 X.env.scope x)(r:BI v u)
 (h:∀s',nC X J1 (G.set i (O v)) H s'->(∃a,Pj a s.heap s'.heap/\(a=X.env.locals∨X.env.cells.lookup x=O a))->Q () s') (hf:X.fn x=D∨X.env.scope.names.lookup x=O .local:=by first|exact .inl rfl|exact .inr rfl|assumption):wpAny M A (Us X.env x u) Q E s:=by
 obtain⟨m,hn,hl⟩:=id I.loc;have hcls:(X.env.scope.kind==.class||(X.env.scope.kind==.module&&X.env.locals != X.env.globals))=ξ:=by rw[I.ok.kind];rfl
 have V2:i<G.length:=by rw[I.len];exact(gX hi).1
 have QU:=I.QU
 have tracked:∀{a:J9}{h':Heap},(∃o,s.heap.get? a=O o/\H a=V)->Pj a s.heap h'->Jj X.prog X.w H h':=λ{a h'} ha Y b ob e=>by
  obtain⟨_,_,Nl⟩:=ha;refine(I.Hm b ob e).HW (λc w' hc q=>(Y.2 c ?_).trans q) (λ_ q=>q) (λ_ _ q=>q) λ_ _ _ q=>q
  rintro rfl;rcases hc with rfl|hc
  .rw[Nl]at e;cases e
  .rw[Nl]at hc;cases hc
 rcases hx with hk|hk
 .refine ze8 hk hn (λh' hn' Y=>?_) hcls;obtain⟨oL,_,_,hoL,_⟩:=id hn;refine h _ ⟨I.ok,I.os,I.bare,⟨λb o e n hb hx=>?_,λb o e n hb hx=>?_,I.base.free,λb o e hx=>?_,I.base.Lg,I.base.JV,I.base.Lh,I.base.Ni⟩,⟨_,hn',λj y v' e1 e2 e3=>?_⟩,λy c e=>?_,I.free,I.Iz,λp hp=>?_,tracked ⟨oL,hoL,I.free⟩ Y,by simpa using I.len⟩ ⟨_,Y,.inl rfl⟩
  .exact(Y.2 b (Js (Le (Ih e) I.ok.above))).trans (I.base.keep b o e n hb hx)
  .obtain⟨sl,e1⟩:=I.base.slot b o e n hb hx;exact⟨sl,(Y.2 b (Js (Le (Ih e) I.ok.above))).trans e1⟩
  .obtain⟨o',e1⟩:=I.base.there b o e hx;exact⟨o',(Y.2 b (Js (Le (Ih e) I.ok.above))).trans e1⟩
  .by_cases hj:j=i
   .subst hj;rw[hi]at e1;cases e1
    rw[PF V2]at e2;cases e2;exact⟨u,r,.inl ⟨hk,Ξ⟩⟩
   .rw[gN (L1 hj)]at e2;obtain⟨u',r',q⟩:=hl j y v' e1 e2 e3;refine⟨u',r',?_⟩;rcases q with ⟨k,e⟩|⟨k,c,e,z⟩
    .refine .inl ⟨k,?_⟩;have:y≠x:=λe=>hj (pv hN e1 (e▸hi))
     simp[this,e]
    .exact .inr ⟨k,c,e,z.sameBut Y (QU y c e)⟩
  .obtain⟨w',z⟩:=I.cell y c e;exact⟨w',z.sameBut Y (QU y c e)⟩
  .obtain⟨e,n,ne,nf,d⟩:=I.pin p hp;exact⟨(Y.2 p.1 ne).trans e,n,ne,nf,d⟩
 .have NJ:X.fn x=D:=by
   rcases hf with z|z
   .exact z
   .rw[z]at hk;cases hk
  obtain⟨c,hc⟩:=I.ok.has x (.inl hk);obtain⟨w',z⟩:=I.cell x c hc;refine wpAny_storeName_cell I.ok.kind hk hc z (λh' Ow Y=>?_);obtain⟨oc,V3,hocd⟩:=id z;refine h {s with heap:=h'} ⟨I.ok,I.os,I.bare,⟨λb o e n hb hx=>?_,λb o e n hb hx=>?_,I.base.free,λb o e hx=>?_,I.base.Lg,I.base.JV,I.base.Lh,I.base.Ni⟩,⟨m,hn.sameBut Y (L1 (QU x c hc)),λj y v' e1 e2 e3=>?_⟩,λy c' e=>?_,I.free,I.Iz,λp hp=>?_,tracked ⟨oc,V3,I.Iz x c hc⟩ Y,by simpa using I.len⟩ ⟨c,Y,.inr hc⟩
  .exact(Y.2 b (Js (Le (Ih e) (I.ok.UB x c NJ hc)))).trans (I.base.keep b o e n hb hx)
  .obtain⟨sl,e1⟩:=I.base.slot b o e n hb hx;exact⟨sl,(Y.2 b (Js (Le (Ih e) (I.ok.UB x c NJ hc)))).trans e1⟩
  .obtain⟨o',e1⟩:=I.base.there b o e hx;exact⟨o',(Y.2 b (Js (Le (Ih e) (I.ok.UB x c NJ hc)))).trans e1⟩
  .by_cases hj:j=i
   .subst hj;rw[hi]at e1;cases e1
    rw[PF V2]at e2;cases e2;exact⟨u,r,.inr ⟨.inl hk,c,hc,Ow⟩⟩
   .rw[gN (L1 hj)]at e2;obtain⟨u',r',q⟩:=hl j y v' e1 e2 e3;refine⟨u',r',?_⟩;rcases q with q|⟨k,c',e,z'⟩
    .exact .inl q
    .refine .inr ⟨k,c',e,z'.sameBut Y ?_⟩;rintro rfl;exact hj (pv hN e1 (I.ok.inj _ _ _ e hc▸hi))
  .by_cases QW:c'=c
   .subst QW;exact⟨_,Ow⟩
   .obtain⟨w2,z2⟩:=I.cell y c' e;exact⟨w2,z2.sameBut Y QW⟩
  .obtain⟨e,n,ne,nf,d⟩:=I.pin p hp;refine⟨(Y.2 p.1 ?_).trans e,n,ne,nf,d⟩;intro q;rw[q,V3]at e;have q':oc=p.2:=L3 e;exact d w' (by rw[<- q'];exact hocd)
theorem iC(I:nC X J1 G H s)(Y:X.N.Nodup)(hi:X.N[i]?=O x)(q:P0 X.env.scope x)(r:BI v u)
 (h:∀s',nC X J1 (G.set i (O v)) H s'->Q () s') (hf:X.fn x=D∨X.env.scope.names.lookup x=O .local:=by first|exact .inl rfl|exact .inr rfl|assumption):wpAny M A (Us X.env x u) Q E s:=
 md I Y hi q r (λs' I' _=>h s' I') hf
theorem nC.QX(I:nC X J1 G H s)(ho:s'.os=s.os)(u:Un (ML X.stack) ch H H' s.heap s'.heap)(q:Jj X.prog X.w H' s'.heap)(hg:PP s'.gens)
 (Y:∀b∈ch,(b∈X.ex∨X.s₀.heap.objs.size<=b)/\b≠X.env.locals/\(∀x c,X.env.cells.lookup x=O c->c≠b)/\∀p∈X.pn++J1,p.1≠b):nC X J1 G H' s':=by
 obtain⟨h',g',d',t',o'⟩:=s';have e:o'=s.os:=ho;subst e;exact I.call (g':=g') (t':=t') (d':=d') u q hg Y
end
abbrev XK:=Value->C J9->Hp->Prop
abbrev St:=Z (C ψ)
abbrev VK:=ψ->Hp->Prop
abbrev TE:=St->Hp->VK->Prop
abbrev TT:=St->Hp->(Bool->Hp->Prop)->Prop
abbrev TA:=St->Hp->(Z ψ->Hp->Prop)->Prop
structure Li where
 nx:St->Hp->Prop
 rt:VK
 bk:St->Hp->Prop:=λ_ _=>False
 ct:St->Hp->Prop:=λ_ _=>False
abbrev TS:=Li->St->Hp->Prop
def EP(X:Cx)(J1:Z (J9×Obj))(G:St)(Q:VK)(u:Value)(s':t2):Prop:=∃v H',nC X J1 G H' s'/\BI v u/\Q v H'
def TP(X:Cx)(J1:Z (J9×Obj))(G:St)(Q:Bool->Hp->Prop)(b:Bool)(s':t2):Prop:=∃H',nC X J1 G H' s'/\Q b H'
def AP(X:Cx)(J1:Z (J9×Obj))(G:St)(Q:Z ψ->Hp->Prop)(us:Z Value)(s':t2):Prop:=∃vs H',nC X J1 G H' s'/\Da vs us/\Q vs H'
def SP(X:Cx)(J1:Z (J9×Obj))(θ:Li)(f:Flow)(s':t2):Prop:=
 match f with
 |.next=>∃q H',nC X J1 q H' s'/\θ.nx q H'
 |.brk=>∃q H',nC X J1 q H' s'/\θ.bk q H'
 |.cont=>∃q H',nC X J1 q H' s'/\θ.ct q H'
 |.ret u=>∃v q H',nC X J1 q H' s'/\BI v u/\θ.rt v H'
def PE(X:Cx)(e:Jc)(t:TE):Prop:=∀(J1:Z (J9×Obj))(s:t2)(G:St)(H:Hp)(Q:VK),nC X J1 G H s->t G H Q->wpAny (model X.prog X.w) X.A (eval e X.env) (EP X J1 G Q) X.xe s
def PT(X:Cx)(e:Jc)(t:TT):Prop:=∀(J1:Z (J9×Obj))(s:t2)(G:St)(H:Hp)(Q:Bool->Hp->Prop),nC X J1 G H s->t G H Q->wpAny (model X.prog X.w) X.A (isTrue e X.env (eval e X.env)) (TP X J1 G Q) X.xe s
def PW(X:Cx)(e:Jc)(t:TT):Prop:=∀(q:Sem Value)(J1:Z (J9×Obj))(s:t2)(G:St)(H:Hp)(Q:Bool->Hp->Prop),nC X J1 G H s->t G H Q->wpAny (model X.prog X.w) X.A (isTrue e X.env q) (TP X J1 G Q) X.xe s
variable{X:Cx}{e:Jc}
theorem PW.pt{t:TT}(h:PW X e t):PT X e t:=h _
def PA(X:Cx)(es:Z Jc)(t:TA):Prop:=∀(pos:Pos)(J1:Z (J9×Obj))(s:t2)(G:St)(H:Hp)(Q:Z ψ->Hp->Prop),nC X J1 G H s->t G H Q->wpAny (model X.prog X.w) X.A (spliced (IK pos (G7 es X.env))) (AP X J1 G Q) X.xe s
def PS(X:Cx)(st:Jb)(t:TS):Prop:=∀(J1:Z (J9×Obj))(s:t2)(G:St)(H:Hp)(θ:Li),nC X J1 G H s->t θ G H->wpAny (model X.prog X.w) X.A (exec st X.env) (SP X J1 θ) X.xe s
def Kq(X:Cx)(st:Z Jb)(t:TS):Prop:=∀(J1:Z (J9×Obj))(s:t2)(G:St)(H:Hp)(θ:Li),nC X J1 G H s->t θ G H->wpAny (model X.prog X.w) X.A (execs st X.env) (SP X J1 θ) X.xe s
variable{s:t2}
theorem Hx{α:Type}{t:Sem α}{Q q:α->t2->Prop}(h:wpAny M A t Q E s)(Y:∀a s,Q a s->q a s):wpAny M A t q E s:=MD h Y λ_ _ x=>x
variable{J1:Z (J9×Obj)}{G:St}{R:ψ->ψ->Hp->Prop}{pos:Pos}{c:Jc}
section
variable{X:Cx}
theorem bin{a b:Jc}{ta tb:TE}(ha:PE X a ta)(hb:PE X b tb)(I:nC X J1 G H s)(h:ta G H λx H1=>tb G H1 λy H2=>R x y H2)
 {α:Type} {Q:α->t2->Prop} {f:Value->Value->Sem α}
 (hf:∀v u s2 x y H2,nC X J1 G H2 s2->BI x v->BI y u->R x y H2->wpAny (model X.prog X.w) X.A (f v u) Q X.xe s2) :
  wpAny (model X.prog X.w) X.A (eval a X.env) (λv q=>wpAny (model X.prog X.w) X.A (eval b X.env) (λu Y=>wpAny (model X.prog X.w) X.A (f v u) Q X.xe Y) X.xe q) X.xe s:=by
 refine Hx (ha J1 s G H _ I h) λv s1 ⟨x,H1,I1,r1,q1⟩=>?_
 refine Hx (hb J1 s1 G H1 _ I1 q1) λu s2 ⟨y,H2,I2,r2,q2⟩=>?_
 exact hf v u s2 x y H2 I2 r1 r2 q2
def gd(i:Nat):TE:=λG H Q=>∃v,G[i]?=O (O v)/\Q v H
def tC(v:ψ):TE:=λ_ H Q=>Q v H
theorem CB(hN:X.N[i]?=O x)(hv:VZ X.env.scope x)(hd:(x==("__debug__":Str))=ξ:=by decide)(Pl:(x==("__classdict__":Str))=ξ:=by decide):PE X (.Name x pos) (gd i):=by
 intro J1 s G H Q I h;obtain⟨v,e,h⟩:=h;obtain⟨m,hn,hl⟩:=I.loc;obtain⟨u,r,l⟩:=hl i x v hN e hv;have Y:EP X J1 G Q u s:=⟨v,H,I,r,h⟩;rcases l with ⟨hk,hm⟩|⟨hk,c,hc,q⟩
 .exact wpAny_Name (wpAny_loadName_local I.ok.kind hk hn hm Y) hd
 .rcases hk with hk|hk
  .exact wpAny_Name (wpAny_loadName_cell I.ok.kind hk hc q Y) hd
  .exact wpAny_Name (wpAny_loadName_free I.ok.kind hk hc q Y Pl) hd
theorem CC{i j pos}:PE X (.Constant (.int i) j pos) (tC (.int i)):=λ_ _ _ H _ I h=>wpAny_Constant_int ⟨.int i,H,I.tok _,⟨_,rfl⟩,h⟩
theorem FH{b j pos}:PE X (.Constant (.bool b) j pos) (tC (.bl b)):=λ_ _ _ H _ I h=>Constant_bool ⟨.bl b,H,I,rfl,h⟩
theorem CD{j pos}:PE X (.Constant .none j pos) (tC .G8):=λ_ _ _ H _ I h=>Constant_none ⟨.G8,H,I,rfl,h⟩
theorem CG{x j pos}:PE X (.Constant (.str x) j pos) (tC (.str x)):=λ_ _ _ H _ I h=>Calls.Constant_str ⟨.str x,H,I.tok _,⟨_,rfl⟩,h⟩
def Gl(X:Cx)(x:Str):Prop:=X.env.kindOf x=O .globalImplicit
theorem nM{Q:Value->t2->Prop}(I:nC X J1 G H s)(hg:Gl X x)(Y:X.mg x=O u)(h:Q u s)
 (q:(x==("__debug__":Str))=ξ:=by decide):wpAny (model X.prog X.w) X.A (eval (.Name x pos) X.env) Q E s:=
 qy1 I.ok.kind hg (Calls.loadGlobal_global (by rw[I.ok.glob];exact I.mod.glob.keeps I.bk) Y h) q
theorem fK{Q:Value->t2->Prop}(I:nC X J1 G H s)(hg:Gl X x)(q:X.mg x=V)(Y:Kk x=O u)(h:Q u s)
 (hn:x≠"__name__":=by decide) (hd:(x==("__debug__":Str))=ξ:=by decide):wpAny (model X.prog X.w) X.A (eval (.Name x pos) X.env) Q E s:=by
 obtain⟨mb,h1,h2⟩:=I.mod.blt;exact qy1 I.ok.kind hg (Calls.loadGlobal_builtin (by rw[I.ok.glob];exact I.mod.glob.keeps I.bk) q (by rw[I.ok.blt];exact h1.keeps I.bk) ((h2 x hn).trans Y) h) hd
theorem zm(hg:Gl X x)(q:X.mg x=O u)(r:BI v u)(Y:(x==("__debug__":Str))=ξ:=by decide):PE X (.Name x pos) (tC v):=λ_ _ _ H _ I h=>nM I hg q ⟨v,H,I,r,h⟩ Y
theorem zn(hg:Gl X x)(q:X.mg x=V)(Y:Kk x=O u)(r:BI v u)(hn:x≠"__name__":=by decide)(hd:(x==("__debug__":Str))=ξ:=by decide):PE X (.Name x pos) (tC v):=λ_ _ _ H _ I h=>fK I hg q Y ⟨v,H,I,r,h⟩ hn hd
variable{a b:Jc}{ta tb:TE}{pos:Pos}
def PC(X:Cx)(op:CmpOp)(a b:Jc)(t:TE):Prop:=
 ∀(J1:Z (J9×Obj))(s:t2)(G:St)(H:Hp)(Q:VK),nC X J1 G H s->t G H Q→
  wpAny (model X.prog X.w) X.A (eval a X.env) (λv Y=>wpAny (model X.prog X.w) X.A (eval b X.env) (λu q=>wpAny (model X.prog X.w) X.A (JQ op v u) (EP X J1 G Q) X.xe q) X.xe Y) X.xe s
def tB(t:TE):TT:=λG H Q=>t G H λx H1=>∃c,x=.bl c/\Q c H1
theorem vF{q:CmpOp}{t:TE}(h:PC X q a b t)(h1:Nb q b=ξ:=by first|exact Ox _ Ω Ω|rfl):PE X (.Compare a [q] [b] pos) t:=λJ1 s G H Q I Y=>wpAny_Compare1 (h J1 s G H Q I Y) h1
theorem nN{Y:CmpOp}{t:TE}(h:PC X Y a b t)(h1:Nb Y b=ξ:=by first|exact Ox _ Ω Ω|rfl):PT X (.Compare a [Y] [b] pos) (tB t):=by intro J1 s G H Q I hw;refine ze9 (Hx (h J1 s G H _ I hw) λv s1 h1=>Hx h1 λu s2 h2=>Hx h2 λc s3 ⟨x,H1,I1,r1,q1⟩=>?_) h1;obtain⟨d,rfl,q⟩:=q1;cases r1;exact PQ ⟨H1,I1,q⟩
variable{tA ZN:TT}{Hg:Z Jc}
def tAnd(t u:TT):TT:=λG H Q=>t G H λc H1=>if c=D then u G H1 Q else Q ξ H1
def tOr(t u:TT):TT:=λG H Q=>t G H λc H1=>if c=D then Q D H1 else u G H1 Q
def tNot(t:TT):TT:=λG H Q=>t G H λc H1=>Q (!c) H1
theorem zo(q:PT X a tA):PW X (.BoolOp .And [a] pos) tA:=by
 intro Y J1 s G H Q I h;refine isTrue_and (Hx (q J1 s G H Q I h) λc s1 e=>?_);cases c with
 |true=>exact isTrue_and_nil e
 |false=>exact e
theorem CH(q:PT X a tA):PW X (.BoolOp .Or [a] pos) tA:=by
 intro Y J1 s G H Q I h;refine isTrue_or (Hx (q J1 s G H Q I h) λc s1 e=>?_);cases c with
 |false=>exact isTrue_or_nil e
 |true=>exact e
theorem CI(ha:PT X a tA)(Y:PW X (.BoolOp .And (b::Hg) pos) ZN):PW X (.BoolOp .And (a::b::Hg) pos) (tAnd tA ZN):=by
 intro wh J1 s G H Q I h;refine isTrue_and (Hx (ha J1 s G H _ I h) λc s1 ⟨H1,q,q1⟩=>?_);cases c with
 |true=>exact Y wh J1 s1 G H1 Q q q1
 |false=>exact⟨H1,q,q1⟩
theorem FI(ha:PT X a tA)(Y:PW X (.BoolOp .Or (b::Hg) pos) ZN):PW X (.BoolOp .Or (a::b::Hg) pos) (tOr tA ZN):=by
 intro wh J1 s G H Q I h;refine isTrue_or (Hx (ha J1 s G H _ I h) λc s1 ⟨H1,q,q1⟩=>?_);cases c with
 |true=>exact⟨H1,q,q1⟩
 |false=>exact Y wh J1 s1 G H1 Q q q1
theorem CJ(q:PT X a tA):PT X (.UnaryOp .Not a pos) (tNot tA):=by intro J1 s G H Q I h;exact isTrue_not (q J1 s G H (λc H1=>Q (!c) H1) I h)
def FJ(ta tb:TE):TE:=λG H Q=>ta G H λx H1=>∃c,x=.bl c/\if c=D then tb G H1 Q else Q (.bl ξ) H1
def tOrV(ta tb:TE):TE:=λG H Q=>ta G H λx H1=>∃c,x=.bl c/\if c=D then Q (.bl D) H1 else tb G H1 Q
def FK(ta:TE):TE:=λG H Q=>ta G H λx H1=>∃c,x=.bl c/\Q (.bl (!c)) H1
theorem CK{op}{t:TE}(h:PE X a t):PE X (.BoolOp op [a] pos) t:=λJ1 s G H Q I q=>BoolOp_one (h J1 s G H Q I q)
theorem CL(ha:PE X a ta)(Y:PE X (.BoolOp .And (b::Hg) pos) tb):PE X (.BoolOp .And (a::b::Hg) pos) (FJ ta tb):=by
 intro J1 s G H Q I h;refine BoolOp_and (Hx (ha J1 s G H _ I h) λv s1 ⟨x,H1,q,r1,q1⟩=>?_);obtain⟨c,rfl,q1⟩:=q1;cases r1;refine PQ ?_;cases c with
 |true=>exact Y J1 s1 G H1 Q q q1
 |false=>exact⟨.bl ξ,H1,q,rfl,q1⟩
theorem FL(ha:PE X a ta)(Y:PE X (.BoolOp .Or (b::Hg) pos) tb):PE X (.BoolOp .Or (a::b::Hg) pos) (tOrV ta tb):=by
 intro J1 s G H Q I h;refine BoolOp_or (Hx (ha J1 s G H _ I h) λv s1 ⟨x,H1,q,r1,q1⟩=>?_);obtain⟨c,rfl,q1⟩:=q1;cases r1;refine PQ ?_;cases c with
 |false=>exact Y J1 s1 G H1 Q q q1
 |true=>exact⟨.bl D,H1,q,rfl,q1⟩
theorem CM(Y:PE X a ta):PE X (.UnaryOp .Not a pos) (FK ta):=by intro J1 s G H Q I h;refine UnaryOp_ (Hx (Y J1 s G H _ I h) λv s1 ⟨x,H1,q,r1,q1⟩=>?_);obtain⟨c,rfl,q1⟩:=q1;cases r1;exact not_of (PQ ⟨.bl (!c),H1,q,rfl,q1⟩)
def tIf(t:TT)(ta tb:TE):TE:=λG H Q=>t G H λc H1=>if c=D then ta G H1 Q else tb G H1 Q
theorem vG(Y:PT X c tA)(ha:PE X a ta)(hb:PE X b tb):PE X (.IfExp c a b pos) (tIf tA ta tb):=by
 intro J1 s G H Q I h;refine wpAny_IfExp (Hx (Y J1 s G H _ I h) λd s1 ⟨H1,q,q1⟩=>?_);cases d with
 |true=>exact ha J1 s1 G H1 Q q q1
 |false=>exact hb J1 s1 G H1 Q q q1
end
def Io(K:Hk)(H:Hp)(a:J9)(xs:Z ψ):Prop:=Rd H a (.e xs)∨∃(o:Obj)(J8:Array Value)(n:Nat),K.lookup a=O o/\o.cls=.type "list"/\o.dict=V/\o.data=.seq J8 n/\J8.size<=Hz/\Da xs J8.toList
def II(K:Hk)(H:Hp)(a:J9)(xs:Z ψ):Prop:=H a=O (.t xs)∨∃(o:Obj)(J8:Array Value)(n:Nat),K.lookup a=O o/\o.cls=.type "tuple"/\o.data=.seq J8 n/\J8.size<=Hz/\Da xs J8.toList
noncomputable def absV:Value->C ψ
 |.none=>O .G8
 |.bool b=>O (.bl b)
 |.int i _=>O (.int i)
 |.str x _=>O (.str x)
 |.bytes b _=>O (.MK b)
 |.float b _=>O (.Uz b)
 |.ref a=>O (.ref a)
 |.type n=>O (.ty n)
 |_=>V
theorem BI.abs{x:ψ}(r:BI x u):absV u=O x:=by
 cases x with
 |G8=>cases r;rfl
 |bl _=>cases r;rfl
 |int _=>obtain⟨t,rfl⟩:=r;rfl
 |str _=>obtain⟨t,rfl⟩:=r;rfl
 |MK _=>obtain⟨t,rfl⟩:=r;rfl
 |Uz _=>obtain⟨t,rfl⟩:=r;rfl
 |ref _=>cases r;rfl
 |ty _=>cases r;rfl
variable{y:ψ}
theorem BI.inj{x:ψ}(r:BI x u)(q:BI y u):x=y:=L3 (r.abs.symm.trans q.abs)
theorem Da.inj:∀{xs ys:Z ψ}{us:Z Value},Da xs us->Da ys us->xs=ys
 |_,_,_,.nil,.nil=>rfl
 |_,_,_,.cons r t,.cons r' t'=>by rw[r.inj r',Da.inj t t']
variable{K:Hk}
section
variable{X:Cx}{J1:Z (J9×Obj)}{G:St}{H:Hp}{s:t2}{a:J9}{xs ys:Z ψ}
theorem Io.of(h:H a=O (.e xs)):Io K H a xs:=.inl (.inl h)
theorem II.of(h:H a=O (.t xs)):II K H a xs:=.inl h
theorem nC.list(I:nC X J1 G H s)(h:Io X.K H a xs):∃J8:Z Value,Da xs J8/\PlainL s.heap a J8.toArray/\xs.length<=Hz:=by
 rcases h with h|⟨o,J8,n,hk,q,Y,hs,hz,r⟩
 .obtain⟨z,J8,n,r,e⟩:=h.ok I.Hm;exact⟨J8,r,⟨_,n,e,rfl,rfl,rfl⟩,z⟩
 .refine⟨J8.toList,r,⟨o,n,I.Kz a o hk,q,Y,by simpa using hs⟩,?_⟩;have e:=r.length;simp only[M6]at e;lia
theorem nC.tuple(I:nC X J1 G H s)(h:II X.K H a xs):∃J8:Z Value,Da xs J8/\IsTup s.heap a J8.toArray/\xs.length<=Hz:=by
 rcases h with h|⟨o,J8,n,hk,q,Y,hz,r⟩
 .obtain⟨z,J8,r,p⟩:=(Rd.of h).ok I.Hm;exact⟨J8,r,p,z⟩
 .refine⟨J8.toList,r,⟨o,I.Kz a o hk,q,n,by simpa using Y⟩,?_⟩;have e:=r.length;simp only[M6]at e;lia
theorem nC.KS(I:nC X J1 G H s)(h:Io X.K H a xs)(h':Io X.K H a ys):xs=ys:=by
 obtain⟨J8,r,⟨o,n,e,_,_,d⟩,_⟩:=I.list h;obtain⟨HF,r',⟨o',n',q,_,_,d'⟩,_⟩:=I.list h';rw[e]at q;cases q
 rw[d]at d';injection d' with Y _;have:J8=HF:=by simpa using congrArg Array.toList Y
 subst this;exact r.inj r'
theorem nC.Km(I:nC X J1 G H s)(h:II X.K H a xs)(h':II X.K H a ys):xs=ys:=by
 obtain⟨J8,r,⟨o,e,_,n,d⟩,_⟩:=I.tuple h;obtain⟨HF,r',⟨o',q,_,n',d'⟩,_⟩:=I.tuple h';rw[e]at q;cases q
 rw[d]at d';injection d' with Y _;have:J8=HF:=by simpa using congrArg Array.toList Y
 subst this;exact r.inj r'
end
noncomputable abbrev Cx.Lj(X:Cx)(E:Value->t2->Prop):Cx:={X with xe:=E}
abbrev Cx.Pm(X:Cx):Cx:=X.Lj λ_ _=>False
theorem Cx.Ok.Lj(ok:X.Ok)(E:Value->t2->Prop):(X.Lj E).Ok:=⟨ok.mod,ok.kind,ok.glob,ok.blt,ok.above,ok.inj,ok.has,ok.UB,ok.hd,ok.frames,ok.ZL,ok.exf,ok.bs,ok.N9,ok.Ov,ok.P3,ok.JW,ok.P4,ok.tb⟩
theorem Cx.Ok.Jk(ok:(X.Lj E).Ok):X.Ok:=⟨ok.mod,ok.kind,ok.glob,ok.blt,ok.above,ok.inj,ok.has,ok.UB,ok.hd,ok.frames,ok.ZL,ok.exf,ok.bs,ok.N9,ok.Ov,ok.P3,ok.JW,ok.P4,ok.tb⟩
section
variable{X:Cx}{J1:Z (J9×Obj)}{G:St}{H:Hp}{s:t2}{E:Value->t2->Prop}
theorem nC.Lj(I:nC X J1 G H s)(E:Value->t2->Prop):nC (X.Lj E) J1 G H s:=⟨I.ok.Lj E,I.os,I.bare,I.base,I.loc,I.cell,I.free,I.Iz,I.pin,I.Hm,I.len⟩
theorem nC.Jk(I:nC (X.Lj E) J1 G H s):nC X J1 G H s:=⟨I.ok.Jk,I.os,I.bare,I.base,I.loc,I.cell,I.free,I.Iz,I.pin,I.Hm,I.len⟩
theorem SP.Jk{θ:Li}{f:Flow}(h:SP (X.Lj E) J1 θ f s'):SP X J1 θ f s':=by
 cases f with
 |next=>obtain⟨Y,H',I,q⟩:=h;exact⟨Y,H',I.Jk,q⟩
 |brk=>obtain⟨Y,H',I,q⟩:=h;exact⟨Y,H',I.Jk,q⟩
 |cont=>obtain⟨Y,H',I,q⟩:=h;exact⟨Y,H',I.Jk,q⟩
 |ret u=>obtain⟨v,Y,H',I,r,q⟩:=h;exact⟨v,Y,H',I.Jk,r,q⟩
theorem Kq.Pm{st:Z Jb}{t:TS}(h:Kq X.Pm st t):Kq X st t:=λJ1 s G H θ I Y=>MD (h J1 s G H θ (I.Lj _) Y) (λ_ _ q=>q.Jk) λ_ _ z=>KP z
end
variable{tc:TT}
section
variable{X:Cx}{st:Jb}{Hg:Z Jb}{t u:TS}{e:Jc}{te:TE}{pos:Pos}
def FM:TS:=λθ G H=>θ.nx G H
def tSeq(t u:TS):TS:=λθ G H=>t {θ with nx:=u θ} G H
theorem zq:Kq X [] FM:=λ_ _ G H _ I h=>Zf ⟨G,H,I,h⟩
theorem iD(h1:PS X st t)(h2:Kq X Hg u):Kq X (st::Hg) (tSeq t u):=by
 intro J1 s G H θ I h;refine wpAny_execs_cons (Hx (h1 J1 s G H {θ with nx:=u θ} I h) λf s1 q=>?_);cases f with
 |next=>obtain⟨Y,H',I',q⟩:=q;exact h2 J1 s1 Y H' θ I' q
 |ret v=>exact q
 |brk=>exact q
 |cont=>exact q
theorem sN(h1:PS X st t):Kq X [st] t:=by
 intro J1 s G H θ I h;refine wpAny_execs_cons (Hx (h1 J1 s G H θ I h) λf s1 q=>?_);cases f with
 |next=>exact Zf q
 |ret v=>exact q
 |brk=>exact q
 |cont=>exact q
theorem nC.quiet(I:nC X J1 G H s):interactive X.env=ξ:=by simp[interactive,I.ok.kind]
def FN(te:TE):TS:=λθ G H=>te G H λ_ H1=>θ.nx G H1
theorem nO(Y:PE X e te)(hs:Mu e V pos.line X.env=pure ξ:=by rfl):PS X (.Expr e pos) (FN te):=by intro J1 s G H θ I h;exact wpAny_Expr_any (Hx (Y J1 s G H _ I h) λv s1 ⟨x,H1,q,r1,q1⟩=>⟨G,H1,q,q1⟩) I.quiet hs
def tRet(te:TE):TS:=λθ G H=>te G H θ.rt
theorem nQ(he:PE X e te):PS X (.Return (O e) pos) (tRet te):=by intro J1 s G H θ I h;exact wpAny_Return_some (Hx (he J1 s G H _ I h) λv s1 ⟨x,H1,q,Y,q1⟩=>⟨x,G,H1,q,Y,q1⟩)
def tIfS(c:TT)(t u:TS):TS:=λθ G H=>c G H λb H1=>if b=D then t θ G H1 else u θ G H1
theorem FO{a b:Z Jb}(Y:PT X c tc)(ha:Kq X a t)(hb:Kq X b u):PS X (.If c a b pos) (tIfS tc t u):=by
 intro J1 s G H θ I h;refine wpAny_If (Hx (Y J1 s G H _ I h) λd s1 ⟨H1,q,q1⟩=>?_);cases d with
 |true=>exact ha J1 s1 G H1 θ q q1
 |false=>exact hb J1 s1 G H1 θ q q1
end
abbrev TG:=ψ->St->Hp->(St->Hp->Prop)->Prop
abbrev Pn:=Z ψ->St->Hp->(St->Hp->Prop)->Prop
def PG(X:Cx)(q:Jc)(t:TG):Prop:=
 ∀(J1:Z (J9×Obj))(s:t2)(G:St)(H:Hp)(v:ψ)(u:Value)(Q:St->Hp->Prop),nC X J1 G H s->BI v u->t v G H Q→
  wpAny (model X.prog X.w) X.A (N7 q X.env u) (λ_ s'=>∃Y H',nC X J1 Y H' s'/\Q Y H') X.xe s
def RT(X:Cx)(ts:Z Jc)(t:Pn):Prop:=
 ∀(J1:Z (J9×Obj))(s:t2)(G:St)(H:Hp)(vs:Z ψ)(us:Z Value)(Q:St->Hp->Prop),nC X J1 G H s->Da vs us->t vs G H Q→
  wpAny (model X.prog X.w) X.A (assignInOrder ((Mb ts X.env).map (·.2)) us) (λ_ s'=>∃q H',nC X J1 q H' s'/\Q q H') X.xe s
abbrev CN:=ψ->ψ->ψ->Hp->(Hp->Prop)->Prop
def V4(X:Cx)(t:CN):Prop:=
 ∀(J1:Z (J9×Obj))(s:t2)(G:St)(H:Hp)(o i v:ψ)(Y q u:Value)(Q:Hp->Prop),nC X J1 G H s->BI o Y->BI i q->BI v u->t o i v H Q→
  wpAny (model X.prog X.w) X.A (setItem Y q u) (λ_ s'=>∃H',nC X J1 G H' s'/\Q H') X.xe s
abbrev ZO:=ψ->ψ->Hp->VK->Prop
def PIp(X:Cx)(q:Operator)(t:ZO):Prop:=
 ∀(J1:Z (J9×Obj))(s:t2)(G:St)(H:Hp)(x y:ψ)(v u:Value)(Q:VK),nC X J1 G H s->BI x v->BI y u->t x y H Q→
  wpAny (model X.prog X.w) X.A (inplaceOp q v u) (EP X J1 G Q) X.xe s
variable{es:Z Jc}{k n:Nat}{tg:Jc}{te:TE}{g:TG}{pos':Pos}
section
variable{X:Cx}{pos:Pos}
def ku(i:Nat):TG:=λv G H Q=>Q (G.set i (O v)) H
theorem sO(Y:X.N.Nodup)(hi:X.N[i]?=O x)(q:P0 X.env.scope x)(hf:X.fn x=D∨X.env.scope.names.lookup x=O .local:=by first|exact .inl rfl|exact .inr rfl|assumption):PG X (.Name x pos) (ku i):=by intro J1 s G H v u Q I r h;exact wpAny_assign_Name (iC I Y hi q r (λs' I'=>⟨_,H,I',h⟩) hf)
def gNil:Pn:=λvs G H Q=>vs=[]/\Q G H
def FP(t:TG)(u:Pn):Pn:=λvs G H Q=>∃v r,vs=v::r/\t v G H λq H'=>u r q H' Q
theorem zr:RT X [] gNil:=by intro J1 s G H vs us Q I r h;obtain⟨e,h⟩:=h;subst e;cases r;exact assignInOrder_nil ⟨G,H,I,h⟩
theorem vH{t:TG}{u:Pn}(h1:PG X e t)(h2:RT X es u)
 (hs:(Mb (e::es) X.env).map (·.2)=N7 e X.env::(Mb es X.env).map (·.2):=by rfl):RT X (e::es) (FP t u):=by
 intro J1 s G H vs us Q I r h;obtain⟨v,vr,e1,h⟩:=h;subst e1;cases r with
 |cons r Y=>rw[hs];refine assignInOrder_cons (Hx (h1 J1 s G H _ _ _ I r h) λ_ s1 ⟨q,H1,I1,q1⟩=>?_);exact h2 J1 s1 q H1 _ _ Q I1 Y q1
def gTup(K:Hk)(n:Nat)(t:Pn):TG:=λv G H Q=>∃a xs,v=.ref a/\II K H a xs/\xs.length=n/\t xs G H Q
theorem CO{t:Pn}(hc:X.calm=D)(h:RT X es t)
 (hn:(Mb es X.env).length=n:=by rfl) (Y:(Mb es X.env).findIdx? (·.1)=V:=by rfl):PG X (.Tuple es k pos) (gTup X.K n t):=by
 intro J1 s G H v u Q I r q;obtain⟨a,xs,e1,hq,hl,q⟩:=q;subst e1;cases r;obtain⟨J8,rv,ht,hz⟩:=I.tuple hq;refine assign_Tuple_tuple (I.ok.hd hc) ht (by simp[hn,<- hl,rv.length]) Y λh' hx=>?_
 have I1:nC X J1 G H {s with heap:=h'}:=I.kept (t':=s.toks) λb o e=>hx b o (Js (Ih e)) e
 exact h J1 _ G H xs _ Q I1 (by simpa using rv) q
def gSub(to ti:TE)(t:CN):TG:=λv G H Q=>to G H λo H1=>ti G H1 λi H2=>t o i v H2 λq=>Q G q
theorem CP {o i:Jc} {to ti:TE} {t:CN} (ho:PE X o to) (hi:PE X i ti) (hs:V4 X t)
  (ha:∀v,N7 (.Subscript o i pos) X.env v=(do
   let q <- PR [v] (eval o X.env);let Y <- PR [v,q] (eval i X.env)
   standAt pos
   PR [v,q,Y] (setItem q Y v)
   release [v,q,Y] []):=by intro _;rfl):PG X (.Subscript o i pos) (gSub to ti t):=by
 intro J1 s G H v u Q I r h;rw[ha];refine wB (NF (Hx (ho J1 s G H _ I h) λq s1 ⟨x,H1,I1,r1,q1⟩=>?_));refine wB (NF (Hx (hi J1 s1 G H1 _ I1 q1) λY s2 ⟨y,H2,I2,r2,q2⟩=>?_));refine wB (Zi (wB (NF (Hx (hs J1 s2 G H2 x y v q Y u _ I2 r1 r2 r q2) λ_ s3 ⟨H3,I3,q3⟩=>?_))));exact wpAny_release ⟨G,H3,I3,q3⟩
def zt(te:TE)(g:TG):TS:=λθ G H=>te G H λx H1=>g x G H1 θ.nx
theorem vI(he:PE X e te)(hg:PG X tg g)(hs:zi0 [tg] e pos.line X.env=pure ξ:=by rfl)(hw:zi1 [tg] e X.env=pure V:=by rfl)
 (h1:(Mb [tg] X.env).map (·.2)=[N7 tg X.env]:=by rfl):PS X (.Assign [tg] e pos) (zt te g):=by
 intro J1 s G H θ I h;refine wpAny_Assign_stores (Hx (he J1 s G H _ I h) λv s1 ⟨x,H1,Y,r1,q1⟩=>?_) hs hw;rw[h1];exact Hx (hg J1 s1 G H1 x v _ Y r1 q1) λ_ s2 q=>q
theorem CQ (Y:X.N.Nodup) (hi:X.N[i]?=O x) (q:P0 X.env.scope x) (he:PE X e te) (hs:Mu e (O (.Name x pos')) pos.line X.env=pure ξ:=by rfl) (hf:X.fn x=D∨X.env.scope.names.lookup x=O .local:=by first | exact .inl rfl | exact .inr rfl | assumption) :
  PS X (.Assign [.Name x pos'] e pos) (zt te (ku i)):=by
 intro J1 s G H θ I h;refine wpAny_Assign_Name (Hx (he J1 s G H _ I h) λv s1 ⟨y,H1,I1,r1,q1⟩=>?_) hs;exact iC I1 Y hi q r1 (λs2 I2=>⟨_,H1,I2,q1⟩) hf
def V5(i:Nat)(te:TE)(ti:ZO):TS:=λθ G H=>∃x,G[i]?=O (O x)/\te G H λy H1=>ti x y H1 λz H2=>θ.nx (G.set i (O z)) H2
theorem CS {op:Operator} {ti:ZO} (hN:X.N.Nodup) (hi:X.N[i]?=O x) (hx:P0 X.env.scope x) (he:PE X e te) (ho:PIp X op ti) (hf:X.fn x=D∨X.env.scope.names.lookup x=O .local:=by first | exact .inl rfl | exact .inr rfl | assumption) :
  PS X (.AugAssign (.Name x pos') op e pos) (V5 i te ti):=by
 intro J1 s G H θ I h;obtain⟨v,e1,h⟩:=h;obtain⟨m,hn,hl⟩:=I.loc;have vis:VZ X.env.scope x:=by rcases hx with k|k;exact .inl k;exact .inr (.inl k)
 obtain⟨u,r,l⟩:=hl i x v hi e1 vis;refine wpAny_AugAssign_Name ?_
 have go:wpAny (model X.prog X.w) X.A (eval e X.env) (λw Y=>wpAny (model X.prog X.w) X.A (inplaceOp op u w) (λr Me=>wpAny (model X.prog X.w) X.A (Us X.env x r) (λ_=>SP X J1 θ .next) X.xe Me) X.xe Y) X.xe s:=by
  refine Hx (he J1 s G H _ I h) λw s1 ⟨y,H1,I1,r1,q1⟩=>?_
  refine Hx (ho J1 s1 G H1 v y u w _ I1 r r1 q1) λz s2 ⟨zv,H2,I2,r2,q2⟩=>?_
  exact iC I2 hN hi hx r2 (λs3 I3=>⟨_,H2,I3,q2⟩) hf
 rcases l with ⟨hk,hm⟩|⟨hk,c,hc,q⟩
 .exact wpAny_loadName_local I.ok.kind hk hn hm go
 .rcases hk with hk|hk
  .exact wpAny_loadName_cell I.ok.kind hk hc q go
  .rcases hx with k|k
   .have:X.env.scope.names.lookup x=O .free:=hk;rw[k]at this;cases this
   .have:X.env.scope.names.lookup x=O .free:=hk;rw[k]at this;cases this
def ipI(f:Int->Int->Int):ZO:=λx y H Q=>∃i j,x=.int i/\y=.int j/\Q (.int (f i j)) H
theorem CT:PIp X .Add (ipI λi j=>i+j):=by intro J1 s G H x y v u Q I r1 r2 h;obtain⟨i,j,Y,e2,q⟩:=h;subst Y;subst e2;obtain⟨t,rfl⟩:=r1;obtain⟨t',rfl⟩:=r2;exact iadd_int ⟨.int _,H,I.tok _,⟨_,rfl⟩,q⟩
end
variable{body:Z Jb}{tb:TS}
section
variable{X:Cx}{pos:Pos}
def CU(c:TT)(tb:TS):TS:=λθ G H=>∃W:Nat->St->Hp->Prop,(∃m,W m G H)/\∀m G H,W m G H→
 c G H λb H1=>if b=D then ∃N:St->Hp->Prop,(∀q H',N q H'->∃Y,Y<m/\W Y q H')/\tb {θ with nx:=N,ct:=N,bk:=θ.nx} G H1 else θ.nx G H1
theorem vJ(hp:VQ (model X.prog X.w) X.A X.env X.xe)(hc:PT X c tc)(hb:Kq X body tb):PS X (.While c body [] pos) (CU tc tb):=by
 intro J1 s G H θ I h;obtain⟨W,⟨m0,w0⟩,turn⟩:=h;refine wpAny_While (codeAny_whileLoop (λn s'=>∃ JF H',nC X J1 JF H' s'/\W n JF H') ?_ m0 ⟨G,H,I,w0⟩);rintro n s1 ⟨Y,H1,I1,w1⟩;refine RH hp (Hx (hc J1 s1 Y H1 _ I1 (turn n Y H1 w1)) λb s2 ⟨H2,I2,q2⟩=>?_);cases b with
 |true=>
  obtain⟨N,hN,q2⟩:=q2;rw[if_pos rfl];refine RH hp (Hx (hb J1 s2 Y H2 _ I2 q2) λf s3 q3=>?_);cases f with
  |next=>obtain⟨q,H3,I3,n3⟩:=q3;obtain⟨m',hm,w3⟩:=hN q H3 n3;exact⟨m',hm,q,H3,I3,w3⟩
  |cont=>obtain⟨q,H3,I3,n3⟩:=q3;obtain⟨m',hm,w3⟩:=hN q H3 n3;exact⟨m',hm,q,H3,I3,w3⟩
  |brk=>exact q3
  |ret v=>exact q3
 |false=>rw[if_neg Kp];exact Zf ⟨Y,H2,I2,q2⟩
end
structure It where
 go:Nat->Hp->Prop
 P5:Nat->Hp->ψ->Hp->Prop
 stop:Nat->Hp->Prop
def gk(X:Cx)(J1:Z (J9×Obj))(H:Hp)(b:J9):Prop:=H b=V/\b≠X.env.locals/\b∉X.fs/\(b∈X.ex∨X.s₀.heap.objs.size<=b)/\(∀x c,X.env.cells.lookup x=O c->c≠b)/\∀p∈X.pn++J1,p.1≠b
theorem nC.Mf{H':Hp}(I:nC X J1 G H s)(Y:s.heap.objs.size<=b)(hn:H' b=V):gk X J1 H' b:=by
 refine⟨hn,Pc (Le I.lt Y),I.nofs Y,.inr (Iw I.sz Y),λx c e z=>?_,λp hp z=>?_⟩
 .obtain⟨v,q⟩:=I.cell x c e;exact absurd (Le q.lt (by rw[z];exact Y)) (PN _)
 .exact absurd (Le (Ih (I.pin p hp).1) (by rw[z];exact Y)) (PN _)
structure Mg(P:HL)(w:Ja)(K:Hk)(tg:Jc)(δ:It)(fp:List J9)(it:J9)(tn:Nat->Heap->Prop):Prop where
 mem:it∈fp
 obj:∀i h,tn i h->∀b∈fp,∃o,h.get? b=O o/\∀v,o.data≠.cell v
 keep:∀i h h',tn i h->(∀b∈fp,∀o,h.get? b=O o->h'.get? b=O o)->tn i h'
 item:∀(X:Cx),X.prog=P->X.w=w->X.K=K->X.calm=D->∀(i:Nat)(J1:List (J9×Obj))(s:t2)(G:St)(H:Hp)(E:Value->t2->Prop),nC X J1 G H s->(∀b∈fp,gk X J1 H b)->tn i s.heap->δ.go i H→
  wpAny (model P w) X.A (MG (.ref it)) (λr s1=>∃u,r=O u∧wpAny (model P w) X.A (Zg tg (.ref it) u) (λ_ s2=>∃x H',nC X J1 G H' s2/\BI x u/\δ.P5 i H x H'/\tn (i+1) s2.heap/\∀b∈fp,H' b=V) E s1) E s
 done:∀(X:Cx),X.prog=P->X.w=w->X.K=K->X.calm=D->∀(i:Nat)(J1:List (J9×Obj))(s:t2)(G:St)(H:Hp)(E:Value->t2->Prop),nC X J1 G H s->(∀b∈fp,gk X J1 H b)->tn i s.heap->δ.stop i H→
  wpAny (model P w) X.A (MG (.ref it)) (λr s1=>r=V/\nC X J1 G H s1) E s
 self:∀(A:HM)(i:Nat)(s:t2)(Q E:Value->t2->Prop),tn i s.heap->Q (.ref it) s->wpAny (model P w) A (PV (.ref it)) Q E s
abbrev TI:=St->Hp->(It->Hp->Prop)->Prop
def PIE(X:Cx)(J1:Z (J9×Obj))(G:St)(tg:Jc)(R:It->Hp->Prop)(q:Value)(Y:t2):Prop:=∃(it:J9)(fp:Z J9)(tn:Nat->Heap->Prop)(δ:It)(H':Hp),q=.ref it/\nC X J1 G H' Y/\Mg X.prog X.w X.K tg δ fp it tn/\tn 0 Y.heap/\(∀b∈fp,gk X J1 H' b)/\R δ H'
def PI(X:Cx)(tg iter:Jc)(wi:TI):Prop:=
 ∀(J1:Z (J9×Obj))(s:t2)(G:St)(H:Hp)(R:It->Hp->Prop),nC X J1 G H s->wi G H R→
  wpAny (model X.prog X.w) X.A (eval iter X.env) (λv s1=>wpAny (model X.prog X.w) X.A (PV v) (PIE X J1 G tg R) X.xe s1) X.xe s
theorem me{o:Obj}{n:String}{vs:Array Value}(ho:s.heap.get? it=O o)(Y:o.cls=.type n)(hd:o.data=.fields vs)
 (hn:["enumerate","zip","dict_itemiterator","dict_reverseitemiterator","odict_iterator","itertools.zip_longest","itertools.pairwise"].contains n=ξ) (q:Q () s):wpAny M A (Zg tg (.ref it) u) Q E s:=by
 unfold Zg
 cases tg<;>first
  |exact Hf q
  | (cases u<;>first
      |exact Hf q
      | (refine wB (wpAny_load ho ?_)
         rw[Y,hd];show wpAny M A (if(["enumerate","zip","dict_itemiterator","dict_reverseitemiterator","odict_iterator","itertools.zip_longest","itertools.pairwise"].contains n&&vs[0]?==O (Ij _))=D then _ else _) Q E s;rw[if_neg (by intro h;rw[hn,Bool.false_and]at h;cases h)];exact Hf q))
noncomputable def Itl(K:Hk)(a:J9):It:=⟨λi H=>∃xs x,Io K H a xs/\xs[i]?=O x,λi H x H'=>H'=H/\∀xs,Io K H a xs->xs[i]?=O x,λi H=>∃xs,Io K H a xs/\xs.length<=i⟩
noncomputable def Itt(K:Hk)(a:J9):It:=⟨λi H=>∃xs x,II K H a xs/\xs[i]?=O x,λi H x H'=>H'=H/\∀xs,II K H a xs->xs[i]?=O x,λi H=>∃xs,II K H a xs/\xs.length<=i⟩
def V6(lo:Int)(n:Nat):It:=⟨λi _=>i<n,λi H x H'=>H'=H/\x=.int (lo+i),λi _=>n<=i⟩
theorem uq(a it:J9):Mg P w K tg (Itl K a) [it] it (λi h=>h.IsListIter it a i) where
 mem:=by simp
 obj:=λi h st b q=>by
  have e:b=it:=by simpa using q
  subst e;obtain⟨o,e,c,d⟩:=st;exact⟨o,e,λv z=>by rw[d]at z;cases z⟩
 keep:=λi h h' st k=>st.at λo e=>k it Ξ o e
 item:=by
  intro X hP hw hK hc i J1 s G H E I hf st hg;subst hP hw hK;obtain⟨xs,x,hq,hx⟩:=hg;obtain⟨J8,rv,p,hz⟩:=I.list hq;obtain⟨u,hu,ru⟩:=rv.get hx;obtain⟨f0,f1,f2,f3,f4,f5⟩:=hf it Ξ;refine wpAny_pyNext_list_item st p.isList (x:=u) (by simpa using hu) λh' Y sb=>?_
  have I1:nC X J1 G H {s with heap:=h'}:=I.turned (t':=s.toks) (λb o q e=>(sb.2 b q).trans e) f0 f1 f3 f4 f5;obtain⟨o,e,c,d⟩:=id Y;exact⟨u,rfl,me (s:={s with heap:=h'}) e c d Ω ⟨x,H,I1,ru,⟨rfl,λys hy=>by rw[I.KS hy hq];exact hx⟩,Y,λb q=>(hf b q).1⟩⟩
 done:=by intro X hP hw hK hc i J1 s G H E I hf st hg;subst hP hw hK;obtain⟨xs,hq,hx⟩:=hg;obtain⟨J8,rv,p,hz⟩:=I.list hq;obtain⟨f0,f1,f2,f3,f4,f5⟩:=hf it Ξ;have hl:=rv.length;exact wpAny_pyNext_list_end (I.ok.hd hc) st p.isList (by simp;lia) λh' eb=>⟨rfl,I.turned (t':=s.toks) (λb o q e=>eb b o q e) f0 f1 f3 f4 f5⟩
 self:=λ_ _ _ _ _ st h=>wpAny_pyIter_listiter st h
theorem qN(a it:J9):Mg P w K tg (Itt K a) [it] it (λi h=>h.IsTupleIter it a i) where
 mem:=by simp
 obj:=λi h st b q=>by
  have e:b=it:=by simpa using q
  subst e;obtain⟨o,e,c,d⟩:=st;exact⟨o,e,λv z=>by rw[d]at z;cases z⟩
 keep:=λi h h' st k=>st.at λo e=>k it Ξ o e
 item:=by
  intro X hP hw hK hc i J1 s G H E I hf st hg;subst hP hw hK;obtain⟨xs,x,hq,hx⟩:=hg;obtain⟨J8,rv,p,hz⟩:=I.tuple hq;obtain⟨u,hu,ru⟩:=rv.get hx;obtain⟨f0,f1,f2,f3,f4,f5⟩:=hf it Ξ;refine wpAny_pyNext_tuple_item st (show s.heap.IsTuple a J8.toArray from p) (x:=u) (by simpa using hu) λh' Y sb=>?_
  have I1:nC X J1 G H {s with heap:=h'}:=I.turned (t':=s.toks) (λb o q e=>(sb.2 b q).trans e) f0 f1 f3 f4 f5;obtain⟨o,e,c,d⟩:=id Y;exact⟨u,rfl,me (s:={s with heap:=h'}) e c d Ω ⟨x,H,I1,ru,⟨rfl,λys hy=>by rw[I.Km hy hq];exact hx⟩,Y,λb q=>(hf b q).1⟩⟩
 done:=by intro X hP hw hK hc i J1 s G H E I hf st hg;subst hP hw hK;obtain⟨xs,hq,hx⟩:=hg;obtain⟨J8,rv,p,hz⟩:=I.tuple hq;obtain⟨f0,f1,f2,f3,f4,f5⟩:=hf it Ξ;have hl:=rv.length;exact wpAny_pyNext_tuple_end (I.ok.hd hc) st (show s.heap.IsTuple a J8.toArray from p) (by simp;lia) λh' eb=>⟨rfl,I.turned (t':=s.toks) (λb o q e=>eb b o q e) f0 f1 f3 f4 f5⟩
 self:=λ_ _ _ _ _ st h=>wpAny_pyIter_tupleiter st h
theorem qO{w:Ja}(it:J9)(lo:Int)(n:Nat):Mg P w K tg (V6 lo n) [it] it (λi h=>Zl h it (lo+(i:Nat)*1) ((n:Int)-(i:Nat)) 1) where
 mem:=by simp
 obj:=λi h st b q=>by
  have e:b=it:=by simpa using q
  subst e
  exact⟨_,st,λv z=>by have z':Data.fields _=Data.cell v:=z;cases z'⟩
 keep:=λi h h' st k=>k it Ξ _ st
 item:=by
  intro X hP hw hK hc i J1 s G H E I hf st hg;subst hP hw hK;obtain⟨f0,f1,f2,f3,f4,f5⟩:=hf it Ξ;have W:=Walks.range (prog:=X.prog) (w:=X.w) (I.ok.hd hc) it lo 1 n;refine W.item i s _ _ hg st λv h' tk hv Y kk=>?_
  obtain⟨t,rfl⟩:=hv;have I1:nC X J1 G H {s with heap:=h',toks:=tk}:=I.turned (λb o q e=>kk b o (by simpa using q) e) f0 f1 f3 f4 f5;refine⟨_,rfl,me (s:={s with heap:=h',toks:=tk}) (n:="range_iterator") Y rfl rfl Ω ⟨.int (lo+i),H,I1,⟨t,?_⟩,⟨rfl,rfl⟩,Y,λb q=>(hf b q).1⟩⟩;rw[Int.mul_one]
 done:=by intro X hP hw hK hc i J1 s G H E I hf st hg;subst hP hw hK;obtain⟨f0,f1,f2,f3,f4,f5⟩:=hf it Ξ;exact zd6 (I.ok.hd hc) st (by have:n<=i:=hg;lia) λh' eb=>⟨rfl,I.turned (t':=s.toks) (λb o q e=>eb b o q e) f0 f1 f3 f4 f5⟩
 self:=λ_ _ _ _ _ st h=>zd7 st h
variable{l:Jc}{ta:TA}{p:Pos}{fp:Z J9}
section
variable{X:Cx}{tg:Jc}
def FQ(K:Hk)(tl:TE):TI:=λG H R=>tl G H λx H1=>∃a,x=.ref a/\(∃xs,Io K H1 a xs)/\R (Itl K a) H1
def iTup(K:Hk)(tl:TE):TI:=λG H R=>tl G H λx H1=>∃a,x=.ref a/\(∃xs,II K H1 a xs)/\R (Itt K a) H1
theorem nR{tl:TE}(hl:PE X l tl):PI X tg l (FQ X.K tl):=by
 intro J1 s G H R I h;refine Hx (hl J1 s G H _ I h) λv s1 ⟨x,H1,Y,r1,q1⟩=>?_
 obtain⟨a,e,⟨xs,hq⟩,q⟩:=q1;subst e;cases r1;obtain⟨J8,rv,p,hz⟩:=Y.list hq;refine Zc p.isList ?_;refine⟨s1.heap.objs.size,[s1.heap.objs.size],_,_,H1,rfl,Y.kept (t':=s1.toks) λb o e=>gP _ e,uq a _,⟨_,Ji _ rfl,rfl,rfl⟩,λb hb=>?_,q⟩;have e:b=s1.heap.objs.size:=by simpa using hb
 subst e;exact Y.Mf (HG _) (Y.Hm.fresh (HG _))
theorem vK{tl:TE}(hl:PE X l tl):PI X tg l (iTup X.K tl):=by
 intro J1 s G H R I h;refine Hx (hl J1 s G H _ I h) λv s1 ⟨x,H1,Y,r1,q1⟩=>?_
 obtain⟨a,e,⟨xs,hq⟩,q⟩:=q1;subst e;cases r1;obtain⟨J8,rv,p,hz⟩:=Y.tuple hq;refine qy6 (show s1.heap.IsTuple a J8.toArray from p) ?_;refine⟨s1.heap.objs.size,[s1.heap.objs.size],_,_,H1,rfl,Y.kept (t':=s1.toks) λb o e=>gP _ e,qN a _,⟨_,Ji _ rfl,rfl,rfl⟩,λb hb=>?_,q⟩;have e:b=s1.heap.objs.size:=by simpa using hb
 subst e;exact Y.Mf (HG _) (Y.Hm.fresh (HG _))
theorem pw{R:It->Hp->Prop}{lo hi:Int}{t u v:Tok}{tk:Nat}(I:nC X J1 G H s)(h1:-(2^62)<=lo)(h2:lo<2^62)(h3:-(2^62)<=hi)(h4:hi<2^62)
 (q:R (V6 lo (hi-lo).toNat) H):wpAny (model X.prog X.w) X.A (PV (.ref s.heap.objs.size)) (PIE X J1 G tg R) E {s with heap:=s.heap.push {cls:=.type "range",data:=.fields #[.int lo t,.int hi u,.int 1 v]},toks:=tk}:=by
 refine wpAny_pyIter_range (IsRange.new ..) (small_one h1 h2 h3 h4) ?_;have Y:nC X J1 G H {s with heap:=s.heap.push {cls:=.type "range",data:=.fields #[.int lo t,.int hi u,.int 1 v]},toks:=tk}:=I.kept λb o e=>gP _ e
 refine⟨(s.heap.push {cls:=.type "range",data:=.fields #[.int lo t,.int hi u,.int 1 v]}).objs.size,[(s.heap.push {cls:=.type "range",data:=.fields #[.int lo t,.int hi u,.int 1 v]}).objs.size],_,_,H,rfl,Y.kept (t':=tk) λb o e=>gP _ e,qO _ lo (hi-lo).toNat,?_,λb hb=>?_,q⟩
 .have e1:lo+((0:Nat):Int)*1=lo:=by simp
  have e2:(((hi-lo).toNat:Nat):Int)-((0:Nat):Int)=Nf lo hi 1:=by rw[rangeSize_one];split<;>lia
  show Zl _ _ (lo+((0:Nat):Int)*1) ((((hi-lo).toNat:Nat):Int)-((0:Nat):Int)) 1;rw[e1,e2];exact Ji _ rfl
 .have e:b=(s.heap.push {cls:=.type "range",data:=.fields #[.int lo t,.int hi u,.int 1 v]}).objs.size:=by simpa using hb
  subst e;exact Y.Mf (HG _) (Y.Hm.fresh (HG _))
def Br(ta:TA):TI:=λG H R=>ta G H λvs H1=>∃j:Int,vs=[.int j]/\-(2^62)<=j/\j<2^62/\R (V6 0 j.toNat) H1
def Bs(ta:TA):TI:=λG H R=>ta G H λvs H1=>∃i j:Int,vs=[.int i,.int j]/\(-(2^62)<=i/\i<2^62/\-(2^62)<=j/\j<2^62)/\R (V6 i (j-i).toNat) H1
theorem ur{a:Jc}(hg:Gl X "range")(hm:X.mg "range"=V)(ha:PA X [a] ta)(hs:G7 [a] X.env=[(ξ,eval a X.env)]:=by rfl):PI X tg (.Call (.Name "range" p) [a] [] pos) (Br ta):=by
 intro J1 s G H R I h;refine Call_ (fK I hg hm boot_range (RG (Hx (ha pos J1 s G H _ I h) λus s1 ⟨vs,H1,I1,r1,q1⟩=>?_) hs rfl));obtain⟨j,e,q1,q2,q⟩:=q1;subst e;cases r1 with
 |cons r Y=>cases Y;obtain⟨t,rfl⟩:=r;exact call_range_1 (pw I1 Θ Θ q1 q2 (by simpa using q))
theorem ut {a b:Jc} (hg:Gl X "range") (hm:X.mg "range"=V) (ha:PA X [a,b] ta) (hs:G7 [a,b] X.env=[(ξ,eval a X.env),(ξ,eval b X.env)]:=by rfl) (Y:G7 [b] X.env=[(ξ,eval b X.env)]:=by rfl) :
  PI X tg (.Call (.Name "range" p) [a,b] [] pos) (Bs ta):=by
 intro J1 s G H R I h;refine Call_ (fK I hg hm boot_range (RG (Hx (ha pos J1 s G H _ I h) λus s1 ⟨vs,H1,I1,r1,q1⟩=>?_) (by rw[hs,Y]) (by rw[Y];rfl)));obtain⟨i,j,e,⟨q1,q2,q3,q4⟩,q⟩:=q1;subst e;cases r1 with
 |cons r rr=>
  cases rr with
  |cons r' rr=>cases rr;obtain⟨t,rfl⟩:=r;obtain⟨t',rfl⟩:=r';exact call_range_2 (pw I1 q1 q2 q3 q4 q)
def V7(wi:TI)(g:TG)(tb:TS):TS:=λθ G H=>wi G H λδ H1=>∃W:Nat->Nat->St->Hp->Prop,(∃m,W 0 m G H1)/\∀i m G H,W i m G H→ (δ.stop i H/\θ.nx G H)∨(δ.go i H/\∃N:St->Hp->Prop,(∀q H',N q H'->∃m',m'<m/\W (i+1) m' q H')/\∀x H',δ.P5 i H x H'->g x G H' λY H2=>tb {θ with nx:=N,ct:=N,bk:=θ.nx} Y H2)
noncomputable def jd(fp:Z J9)(h:Heap):Z (J9×Obj):=fp.filterMap λb=>(h.get? b).map λo=>(b,o)
theorem fL{o:Obj}(q:b∈fp)(e:h.get? b=O o):(b,o)∈jd fp h:=qy7.mpr ⟨b,q,by rw[e];rfl⟩
theorem uu{p:J9×Obj}(hp:p∈jd fp h):p.1∈fp/\h.get? p.1=O p.2:=by
 obtain⟨b,hb,e⟩:=qy7.mp hp;cases q:h.get? b with
 |none=>rw[q]at e;cases e
 |some o=>rw[q]at e;have Y:(b,o)=p:=L3 e;subst Y;exact⟨hb,q⟩
theorem nC.pinned(I:nC X J1 G H s)(hf:∀b∈fp,gk X J1 H b)(ho:∀b∈fp,∃o,s.heap.get? b=O o/\∀v,o.data≠.cell v):nC X (J1++jd fp s.heap) G H s:=
 I.Nk λp hp=>(IC.mp hp).elim (λz=>I.pin p (Lr _ z)) λz=>by
  obtain⟨Y,e⟩:=uu z;obtain⟨f0,f1,f2,_⟩:=hf p.1 Y;obtain⟨o,q,d⟩:=ho p.1 Y;rw[e]at q;cases q
  exact⟨e,f0,f1,f2,d⟩
theorem nC.JX{q:Z (J9×Obj)}(I:nC X (J1++q) G H s):nC X J1 G H s:=I.Nk λp hp=>I.pin p (Lr _ (Kj _ hp))
theorem vM{iter:Jc}{wi:TI}(hp:VQ (model X.prog X.w) X.A X.env X.xe)(hc:X.calm=D)(hi:PI X tg iter wi)(hg:PG X tg g)(Y:Kq X body tb)
 (hs:∀x,Om iter X.env x=pure x:=by intro _;rfl):PS X (.For tg iter body [] pos) (V7 wi g tb):=by
 intro J1 s G H θ I h;refine wpAny_For (Hx (hi J1 s G H _ I h) λv s1 h1=>Hx h1 λitv s2 h2=>?_) hs;obtain⟨it,fp,tn,δ,H2,e,I2,T,JA,f2,W,⟨m0,w0⟩,turn⟩:=h2;subst e
 -- what stays D of Oa iterator's objects through Oa loop
 have MM:∀{H':Hp},(∀b∈fp,H' b=V)->∀b∈fp,gk X J1 H' b:=λhn b Y=>⟨hn b Y,(f2 b Y).2⟩
 refine codeAny_forLoop_any (λn s'=>∃i JF H',nC X J1 JF H' s'/\tn i s'.heap/\(∀b∈fp,H' b=V)/\W i n JF H') ?_ m0 ⟨0,G,H2,I2,JA,λb Y=>(f2 b Y).1,w0⟩;rintro n s3 ⟨i,V8,H3,I3,KA,fr3,w3⟩;rcases turn i n V8 H3 w3 with ⟨stop,qn⟩|⟨go,N,hN,step⟩
 .refine RH hp (Hx (T.done X rfl rfl rfl hc i J1 s3 V8 H3 X.xe I3 (MM fr3) KA stop) λr s4 ⟨hr,I4⟩=>?_);subst hr;exact Zf ⟨V8,H3,I4,qn⟩
 .refine RH hp (Hx (T.item X rfl rfl rfl hc i J1 s3 V8 H3 X.xe I3 (MM fr3) KA go) λr s4 ⟨u,hr,h4⟩=>?_);subst hr;refine RH hp (Hx h4 λ_ s5 ⟨x,H5,I5,r5,y5,UD,ZP⟩=>?_);have I5':=I5.pinned (MM ZP) (T.obj _ _ UD);refine RH hp (Hx (hg _ s5 V8 H5 x u _ I5' r5 (step x H5 y5)) λ_ s6 ⟨σ6,H6,I6,q6⟩=>?_);refine RH hp (Hx (Y _ s6 σ6 H6 _ I6 q6) λf s7 q7=>?_)
  have again:∀{q:St}{H7:Hp},nC X (J1++jd fp s5.heap) q H7 s7->N q H7->∃m,m<n/\∃i JF H',nC X J1 JF H' s7/\tn i s7.heap/\(∀b∈fp,H' b=V)/\W i m JF H':=λ{q H7} I7 n7=>by obtain⟨m',hm,w7⟩:=hN q H7 n7;refine⟨m',hm,i+1,q,H7,I7.JX,T.keep _ _ _ UD λb Y o e=>(I7.pin (b,o) (Lr _ (Lr _ (fL Y e)))).1,λb Y=>?_,w7⟩;obtain⟨o,e,d⟩:=T.obj _ _ UD b Y;exact(I7.pin (b,o) (Lr _ (Lr _ (fL Y e)))).2.1
  cases f with
  |next=>obtain⟨q,H7,I7,n7⟩:=q7;exact again I7 n7
  |cont=>obtain⟨q,H7,I7,n7⟩:=q7;exact again I7 n7
  |brk=>obtain⟨q,H7,I7,q7⟩:=q7;exact⟨q,H7,I7.JX,q7⟩
  |ret v=>obtain⟨x7,q,H7,I7,r7,q7⟩:=q7;exact⟨x7,q,H7,I7.JX,r7,q7⟩
end
abbrev R2:=ψ->ψ->Hp->VK->Prop
def HY(X:Cx)(f:Value->Value->Sem Value)(r:R2):Prop:=
 ∀(J1:Z (J9×Obj))(s:t2)(G:St)(H:Hp)(x y:ψ)(v u:Value)(Q:VK),nC X J1 G H s->BI x v->BI y u->r x y H Q→
  wpAny (model X.prog X.w) X.A (f v u) (EP X J1 G Q) X.xe s
def ZQ(X:Cx)(f:Value->Sem Value)(r:ψ->Hp->VK->Prop):Prop:=
 ∀(J1:Z (J9×Obj))(s:t2)(G:St)(H:Hp)(x:ψ)(v:Value)(Q:VK),nC X J1 G H s->BI x v->r x H Q→
  wpAny (model X.prog X.w) X.A (f v) (EP X J1 G Q) X.xe s
def Hw(X:Cx)(f:Value)(r:Z ψ->Hp->VK->Prop):Prop:=
 ∀(J1:Z (J9×Obj))(s:t2)(G:St)(H:Hp)(xs:Z ψ)(us:Z Value)(Q:VK),nC X J1 G H s->Da xs us->r xs H Q→
  wpAny (model X.prog X.w) X.A (call f us) (EP X J1 G Q) X.xe s
def TruR(X:Cx)(r:ψ->Hp->(Bool->Hp->Prop)->Prop):Prop:=
 ∀(J1:Z (J9×Obj))(s:t2)(G:St)(H:Hp)(x:ψ)(v:Value)(Q:Bool->Hp->Prop),nC X J1 G H s->BI x v->r x H Q→
  wpAny (model X.prog X.w) X.A (truthy v) (TP X J1 G Q) X.xe s
def RU(r:R2)(ta tb:TE):TE:=λG H Q=>ta G H λx H1=>tb G H1 λy H2=>r x y H2 Q
def tUn(r:ψ->Hp->VK->Prop)(ta:TE):TE:=λG H Q=>ta G H λx H1=>r x H1 Q
def rI(ζ:Int->Int->Prop)(g:Int->Int->ψ):R2:=λx y H Q=>∃i j,x=.int i/\y=.int j/\ζ i j/\Q (g i j) H
def Po(g:Int->Int->ψ):R2:=λx y H Q=>∃i j,x=.int i/\y=.int j/\Q (g i j) H
def rU(g:Int->ψ):ψ->Hp->VK->Prop:=λx H Q=>∃i,x=.int i/\Q (g i) H
variable{f:Value->Value->Sem Value}{r:R2}
section
variable{X:Cx}{a b c:Jc}{ta tb tc:TE}{pos:Pos}
theorem CV(ha:PE X a ta)(hb:PE X b tb)(I:nC X J1 G H s)
 (h:ta G H λx H1=>tb G H1 λy H2=>R x y H2) {Q:Value->t2->Prop} 
 (hf:∀v u s2 x y H2,nC X J1 G H2 s2->BI x v->BI y u->R x y H2->wpAny (model X.prog X.w) X.A (f v u) Q X.xe s2) :
  wpAny (model X.prog X.w) X.A (eval a X.env) (λv q=>wpAny (model X.prog X.w) X.A (eval b X.env) (λu Y=>wpAny (model X.prog X.w) X.A (f v u) Q X.xe Y) X.xe q) X.xe s:=by
 refine Hx (ha J1 s G H _ I h) λv s1 ⟨x,H1,I1,r1,q1⟩=>?_
 refine Hx (hb J1 s1 G H1 _ I1 q1) λu s2 ⟨y,H2,I2,r2,q2⟩=>?_
 exact hf v u s2 x y H2 I2 r1 r2 q2
theorem FS{Y:Operator}(ho:HY X (L5 Y) r)(ha:PE X a ta)(hb:PE X b tb):PE X (.BinOp a Y b pos) (RU r ta tb):=by intro J1 s G H Q I h;exact wpAny_BinOp (CV ha hb I h λv u s2 x y H2 I2 rx ry q=>ho J1 s2 G H2 x y v u Q I2 rx ry q)
theorem FT{q:UnaryOp}{r:ψ->Hp->VK->Prop}(ho:ZQ X (unaryOp q) r)(ha:PE X a ta):PE X (.UnaryOp q a pos) (tUn r ta):=by intro J1 s G H Q I h;exact UnaryOp_ (Hx (ha J1 s G H _ I h) λv s1 ⟨x,H1,Y,r1,q1⟩=>ho J1 s1 G H1 x v Q Y r1 q1)
theorem V9{ζ:Int->Int->Prop}{g:Int->Int->Int}
 (Y:∀(i j:Int)(t u:Tok)(s:t2)(Q E:Value->t2->Prop),ζ i j->Q (.int (g i j) s.toks) {s with toks:=s.toks+1}->wpAny (model X.prog X.w) X.A (f (.int i t) (.int j u)) Q E s) :
  HY X f (rI ζ λi j=>.int (g i j)):=by
 intro J1 s G H x y v u Q I rx ry h;obtain⟨i,j,rfl,rfl,hc,q⟩:=h;obtain⟨t,rfl⟩:=rx;obtain⟨t',rfl⟩:=ry;exact Y i j t t' s _ _ hc ⟨.int (g i j),H,I.tok _,⟨_,rfl⟩,q⟩
theorem Wa{g:Int->Int->Int}
 (Y:∀(i j:Int)(t u:Tok)(s:t2)(Q E:Value->t2->Prop),Q (.int (g i j) s.toks) {s with toks:=s.toks+1}->wpAny (model X.prog X.w) X.A (f (.int i t) (.int j u)) Q E s) :
  HY X f (Po λi j=>.int (g i j)):=by
 intro J1 s G H x y v u Q I rx ry h;obtain⟨i,j,rfl,rfl,q⟩:=h;obtain⟨t,rfl⟩:=rx;obtain⟨t',rfl⟩:=ry;exact Y i j t t' s _ _ ⟨.int (g i j),H,I.tok _,⟨_,rfl⟩,q⟩
theorem CW{g:Int->Int->Bool}
 (Y:∀(i j:Int)(t u:Tok)(s:t2)(Q E:Value->t2->Prop),Q (.bool (g i j)) s->wpAny (model X.prog X.w) X.A (f (.int i t) (.int j u)) Q E s) :
  HY X f (Po λi j=>.bl (g i j)):=by
 intro J1 s G H x y v u Q I rx ry h;obtain⟨i,j,rfl,rfl,q⟩:=h;obtain⟨t,rfl⟩:=rx;obtain⟨t',rfl⟩:=ry;exact Y i j t t' s _ _ ⟨.bl (g i j),H,I,rfl,q⟩
def CY(i j:Int):Prop:=0<=j/\j<=1000000/\i.natAbs<2^64
def Oy(i j:Int):Prop:=(-(2^64)<i/\i<2^64)∨(-(2^64)<j/\j<2^64)
theorem Oy.ok{i j:Int}(h:Oy i j):IntMulOk i j:=by
 rcases h with ⟨h1,h2⟩|⟨h1,h2⟩
 .exact .of_left (intBits_le_64 h1 h2)
 .exact .of_right (intBits_le_64 h1 h2)
theorem CZ:HY X (L5 .Add) (Po λi j=>.int (i+j)):=Wa λ_ _ _ _ _ _ _ q=>add_int q
theorem C0:HY X (L5 .Sub) (Po λi j=>.int (i-j)):=Wa λ_ _ _ _ _ _ _ q=>sub_int q
theorem vN:HY X (L5 .Mult) (rI Oy λi j=>.int (i*j)):=V9 λ_ _ _ _ _ _ _ Y q=>mul_int q Y.ok
theorem kw:HY X (L5 .Mod) (rI (λ_ j=>0<j) λi j=>.int (i%j)):=V9 λi j _ _ _ _ _ Y q=>by have h1:(0:Int)<j:=Y;exact mod_int' Θ (by rw[Int.fmod_eq_emod_of_nonneg i Θ];exact q)
theorem im:HY X (L5 .Pow) (rI CY λi j=>.int (i^j.toNat)):=V9 λ_ _ _ _ _ _ _ Y q=>pow_int_small Y.1 Y.2.1 Y.2.2 q
theorem unI {f:Value->Sem Value} {g:Int->Int}
  (Y:∀(i:Int)(t:Tok)(s:t2)(Q E:Value->t2->Prop),Q (.int (g i) s.toks) {s with toks:=s.toks+1}->wpAny (model X.prog X.w) X.A (f (.int i t)) Q E s) :
  ZQ X f (rU λi=>.int (g i)):=by
 intro J1 s G H x v Q I rx h;obtain⟨i,rfl,q⟩:=h;obtain⟨t,rfl⟩:=rx;exact Y i t s _ _ ⟨.int (g i),H,I.tok _,⟨_,rfl⟩,q⟩
theorem C3:ZQ X (unaryOp .USub) (rU λi=>.int (-i)):=unI λ_ _ _ _ _ q=>neg_int q
end
noncomputable def C4:ψ->ψ->Bool
 |.G8,.G8=>D|.G8,.int _=>D|.int _,.G8=>D|.G8,.bl _=>D|.bl _,.G8=>D|.G8,.str _=>D|.str _,.G8=>D
 |.int _,.int _=>D|.bl _,.bl _=>D|.str _,.str _=>D|.MK _,.MK _=>D
 |.int _,.str _=>D|.str _,.int _=>D|.bl _,.str _=>D|.str _,.bl _=>D
 |_,_=>ξ
def rEq:R2:=λx y H Q=>C4 x y=D/\Q (.bl (decide (x=y))) H
def rNe:R2:=λx y H Q=>C4 x y=D/\Q (.bl (!decide (x=y))) H
theorem sP{i j:Int}:decide (ψ.int i=ψ.int j)=(i==j):=by rw[O8];simp
theorem vO{i j:Bool}:decide (ψ.bl i=ψ.bl j)=(i==j):=by rw[O8];simp
theorem sQ{i j:Str}:decide (ψ.str i=ψ.str j)=(i==j):=by rw[O8];simp
theorem sR{i j:Array UInt8}:decide (ψ.MK i=ψ.MK j)=(i.toList==j.toList):=by rw[O8];cases i;cases j;simp
variable{r':R2}
section
variable{X:Cx}{a b c:Jc}{ta tb tc:TE}{pos:Pos}
theorem aY{Q:VK}{k k':Bool}(I:nC X J1 G H s)(q:Q (.bl k) H)(e:k=k'):EP X J1 G Q (.bool k') s:=by subst e;exact⟨.bl k,H,I,rfl,q⟩
theorem FU:HY X (JQ .Eq) rEq:=by
 intro J1 s G H x y v u Q I rx Y h;obtain⟨hs,q⟩:=h;cases x with
 |G8=>
  cases rx;cases y with
  |G8=>cases Y;exact PySem.EqNone.eq_none_none (aY I q Ξ)
  |bl j=>cases Y;exact PySem.EqNone.eq_none_bool (aY I q Ξ)
  |int j=>obtain⟨t',rfl⟩:=Y;exact PySem.EqNone.eq_none_int (aY I q Ξ)
  |str j=>obtain⟨t',rfl⟩:=Y;exact PySem.EqNone.eq_none_str (aY I q Ξ)
  |_=>exact absurd (show ξ=D from hs) Kp
 |bl i=>
  cases rx;cases y with
  |G8=>cases Y;exact PySem.EqNone.eq_bool_none (aY I q Ξ)
  |bl j=>cases Y;exact eq_bool (aY I q vO)
  |str j=>obtain⟨t',rfl⟩:=Y;exact PySem.EqMixed.eq_bool_str (aY I q Ξ)
  |_=>exact absurd (show ξ=D from hs) Kp
 |int i=>
  obtain⟨t,rfl⟩:=rx;cases y with
  |G8=>cases Y;exact PySem.EqNone.eq_int_none (aY I q Ξ)
  |int j=>obtain⟨t',rfl⟩:=Y;exact eq_int (aY I q sP)
  |str j=>obtain⟨t',rfl⟩:=Y;exact PySem.EqMixed.eq_int_str (aY I q Ξ)
  |_=>exact absurd (show ξ=D from hs) Kp
 |str i=>
  obtain⟨t,rfl⟩:=rx;cases y with
  |G8=>cases Y;exact PySem.EqNone.eq_str_none (aY I q Ξ)
  |bl j=>cases Y;exact PySem.EqMixed.eq_str_bool (aY I q Ξ)
  |int j=>obtain⟨t',rfl⟩:=Y;exact PySem.EqMixed.eq_str_int (aY I q Ξ)
  |str j=>obtain⟨t',rfl⟩:=Y;exact eq_str (aY I q sQ)
  |_=>exact absurd (show ξ=D from hs) Kp
 |MK i=>
  obtain⟨t,rfl⟩:=rx;cases y with
  |MK j=>obtain⟨t',rfl⟩:=Y;exact PySem.W.eq_bytes (aY I q sR)
  |_=>exact absurd (show ξ=D from hs) Kp
 |_=>cases y<;>exact absurd (show ξ=D from hs) Kp
theorem FV:HY X (JQ .NotEq) rNe:=by
 intro J1 s G H x y v u Q I rx Y h;obtain⟨hs,q⟩:=h;cases x with
 |G8=>
  cases rx;cases y with
  |G8=>cases Y;exact PySem.EqNone.ne_none_none (aY I q Ξ)
  |bl j=>cases Y;exact PySem.EqNone.ne_none_bool (aY I q Ξ)
  |int j=>obtain⟨t',rfl⟩:=Y;exact PySem.EqNone.ne_none_int (aY I q Ξ)
  |str j=>obtain⟨t',rfl⟩:=Y;exact PySem.EqNone.ne_none_str (aY I q Ξ)
  |_=>exact absurd (show ξ=D from hs) Kp
 |bl i=>
  cases rx;cases y with
  |G8=>cases Y;exact PySem.EqNone.ne_bool_none (aY I q Ξ)
  |bl j=>cases Y;exact ne_bool (aY I q (congrArg not vO))
  |str j=>obtain⟨t',rfl⟩:=Y;exact PySem.EqMixed.ne_bool_str (aY I q Ξ)
  |_=>exact absurd (show ξ=D from hs) Kp
 |int i=>
  obtain⟨t,rfl⟩:=rx;cases y with
  |G8=>cases Y;exact PySem.EqNone.ne_int_none (aY I q Ξ)
  |int j=>obtain⟨t',rfl⟩:=Y;exact ne_int (aY I q (congrArg not sP))
  |str j=>obtain⟨t',rfl⟩:=Y;exact PySem.EqMixed.ne_int_str (aY I q Ξ)
  |_=>exact absurd (show ξ=D from hs) Kp
 |str i=>
  obtain⟨t,rfl⟩:=rx;cases y with
  |G8=>cases Y;exact PySem.EqNone.ne_str_none (aY I q Ξ)
  |bl j=>cases Y;exact PySem.EqMixed.ne_str_bool (aY I q Ξ)
  |int j=>obtain⟨t',rfl⟩:=Y;exact PySem.EqMixed.ne_str_int (aY I q Ξ)
  |str j=>obtain⟨t',rfl⟩:=Y;exact ne_str (aY I q (congrArg not sQ))
  |_=>exact absurd (show ξ=D from hs) Kp
 |MK i=>
  obtain⟨t,rfl⟩:=rx;cases y with
  |MK j=>obtain⟨t',rfl⟩:=Y;exact PySem.W.ne_bytes (aY I q (congrArg not sR))
  |_=>exact absurd (show ξ=D from hs) Kp
 |_=>cases y<;>exact absurd (show ξ=D from hs) Kp
theorem vP:HY X (JQ .Lt) (Po λi j=>.bl (decide (i<j))):=CW λ_ _ _ _ _ _ _ q=>lt_int q
theorem vQ:HY X (JQ .LtE) (Po λi j=>.bl (decide (i<=j))):=CW λ_ _ _ _ _ _ _ q=>le_int q
theorem Bt:HY X (JQ .Gt) (Po λi j=>.bl (decide (j<i))):=CW λ_ _ _ _ _ _ _ q=>gt_int q
theorem uv:HY X (JQ .In) (λx y H Q=>∃i j,x=.str i/\y=.str j/\Q (.bl (!(RO j i 0 j.length 1).isEmpty)) H):=by intro J1 s G H x y v u Q I Y ry h;obtain⟨i,j,rfl,rfl,q⟩:=h;obtain⟨t,rfl⟩:=Y;obtain⟨t',rfl⟩:=ry;exact in_str (aY I q rfl)
theorem qP:HY X (JQ .Is) (λx y H Q=>y=.G8/\Q (.bl (decide (x=.G8))) H):=by
 intro J1 s G H x y v u Q I Y ry h;obtain⟨rfl,q⟩:=h;cases ry;refine is_none_gen (aY I q ?_)
 cases x<;>first
  |(cases Y;rfl)
  |(obtain⟨t,rfl⟩:=Y;rfl)
theorem sS:HY X (JQ .IsNot) (λx y H Q=>y=.G8/\Q (.bl (!decide (x=.G8))) H):=by
 intro J1 s G H x y v u Q I Y ry h;obtain⟨rfl,q⟩:=h;cases ry;refine isnot_none_gen (aY I q ?_)
 cases x<;>first
  |(cases Y;rfl)
  |(obtain⟨t,rfl⟩:=Y;rfl)
theorem HY.or(h:HY X f r)(h':HY X f r'):HY X f (λx y H Q=>r x y H Q∨r' x y H Q):=by
 intro J1 s G H x y v u Q I Y ry q;rcases q with q|q
 .exact h J1 s G H x y v u Q I Y ry q
 .exact h' J1 s G H x y v u Q I Y ry q
theorem bL(b:Jc){q:CmpOp}(h:q≠.In:=by decide)(h2:q≠.NotIn:=by decide):Nb q b=ξ:=by
 have Y:(q==CmpOp.In)=ξ:=by cases q<;>first|rfl|exact absurd rfl h
 have e2:(q==CmpOp.NotIn)=ξ:=by cases q<;>first|rfl|exact absurd rfl h2
 cases b<;>simp[Nb,Y,e2]
theorem nT{Y:CmpOp}(ho:HY X (JQ Y) r)(ha:PE X a ta)(hb:PE X b tb)(hm:Nb Y b=ξ):PE X (.Compare a [Y] [b] pos) (RU r ta tb):=by intro J1 s G H Q I h;exact wpAny_Compare1 (CV ha hb I h λv u s2 x y H2 I2 rx ry q=>ho J1 s2 G H2 x y v u Q I2 rx ry q) hm
def FW(t:TE):TT:=λG H Q=>t G H λx H'=>∃k,x=.bl k/\Q k H'
theorem nU{q:CmpOp}(ho:HY X (JQ q) r)(ha:PE X a ta)(hb:PE X b tb)(hm:Nb q b=ξ):PT X (.Compare a [q] [b] pos) (FW (RU r ta tb)):=by
 intro J1 s G H Q I h
 refine ze9 (Hx (ha J1 s G H _ I h) λv s1 ⟨x,H1,I1,r1,q1⟩=>Hx (hb J1 s1 G H1 _ I1 q1) λu s2 ⟨y,H2,I2,r2,q2⟩=>Hx (ho J1 s2 G H2 x y v u _ I2 r1 r2 q2) λc s3 ⟨z,H3,Y,r3,k,e,q3⟩=>?_) hm
 subst e;cases r3;exact PQ ⟨H3,Y,q3⟩
def vR(r r':R2)(ta tb tc:TE):TE:=λG H Q=>ta G H λx H1=>tb G H1 λy H2=>r x y H2 λz q=>∃k,z=.bl k∧(if k=D then tc G q λw' Y=>r' y w' Y Q else Q (.bl ξ) q)
theorem vS{Y q:CmpOp}(ho:HY X (JQ Y) r)(UC:HY X (JQ q) r')(ha:PE X a ta)(hb:PE X b tb)(hc:PE X c tc)
 (hm:lastMarks [Y,q] [b,c]=ξ:=by with_unfolding_all rfl):PE X (.Compare a [Y,q] [b,c] pos) (vR r r' ta tb tc):=by
 intro J1 s G H Q I h
 refine Compare_chain (Hx (ha J1 s G H _ I h) λv s1 ⟨x,H1,I1,r1,q1⟩=>chain_link (Hx (hb J1 s1 G H1 _ I1 q1) λu s2 ⟨y,H2,I2,r2,q2⟩=>Hx (ho J1 s2 G H2 x y v u _ I2 r1 r2 q2) λd s3 ⟨z,H3,I3,r3,k,e,q3⟩=>?_)) hm
 subst e;cases r3;refine PQ ?_;cases k with
 |false=>exact ite_ff ⟨.bl ξ,H3,I3,rfl,q3⟩
 |true=>exact ite_tt (chain_last (Hx (hc J1 s3 G H3 _ I3 q3) λw' s4 ⟨z',H4,I4,r4,q4⟩=>UC J1 s4 G H4 y z' u w' Q I4 r2 r4 q4))
def C5(K:Hk)(x:ψ)(H:Hp)(k:Bool):Prop:=
 match x with
 |.G8=>k=ξ
 |.bl b=>k=b
 |.int i=>k=(i != 0)
 |.str y=>y.length<=Hz/\k=((y.length:Int) != 0)
 |.MK y=>y.size<=Hz/\k=((y.size:Int) != 0)
 |.ref p=>(∃xs,Io K H p xs/\k=!xs.isEmpty)∨(∃xs,II K H p xs/\k=!xs.isEmpty)∨∃J6,H p=O (.dK J6)/\k=!J6.isEmpty
 |_=>False
theorem qQ{κ:Type}{J6:Z (κ×ψ)}{vs:Z (κ×Value)}(r:KV J6 vs):(!vs.isEmpty)=!J6.isEmpty:=by cases r<;>rfl
theorem kx{J8:Z Value}(r:Da xs J8):(!J8.toArray.isEmpty)=!xs.isEmpty:=by cases r<;>simp
theorem je:(Hz:Nat)<2^63:=by rw[Zm];decide
theorem C6:TruR X (λx H Q=>∃k,C5 X.K x H k/\Q k H):=by
 intro J1 s G H x v Q I rx h;obtain⟨k,e,q⟩:=h;have hl:=je;have hs:Hz=16777216:=Zm;cases x with
 |G8=>cases rx;have e':k=ξ:=e;subst e';exact truthy_none ⟨H,I,q⟩
 |bl b=>cases rx;have e':k=b:=e;subst e';exact PQ ⟨H,I,q⟩
 |int i=>obtain⟨t,rfl⟩:=rx;have e':k=(i != 0):=e;subst e';exact PySem.P.truthy_int ⟨H,I,q⟩
 |str y=>obtain⟨t,rfl⟩:=rx;obtain⟨hy,e'⟩:y.length<=Hz/\k=((y.length:Int) != 0):=e;subst e';exact PySem.P.truthy_str Θ ⟨H,I.tok _,q⟩
 |MK y=>obtain⟨t,rfl⟩:=rx;obtain⟨hy,e'⟩:y.size<=Hz/\k=((y.size:Int) != 0):=e;subst e';exact PySem.W.truthy_bytes Θ ⟨H,I.tok _,q⟩
 |ref p=>
  cases rx;have e':(∃xs,Io X.K H p xs/\k=!xs.isEmpty)∨(∃xs,II X.K H p xs/\k=!xs.isEmpty)∨∃J6,H p=O (.dK J6)/\k=!J6.isEmpty:=e;rcases e' with ⟨xs,hx,e'⟩|⟨xs,hx,e'⟩|⟨J6,hx,e'⟩
  .subst e';obtain⟨J8,r,pl,hz⟩:=I.list hx;have hlen:=r.length;exact wpAny_truthy_list pl.isList (by simp only[JE];lia) ⟨H,I.tok _,by rw[kx r];exact q⟩
  .subst e';obtain⟨J8,r,pl,hz⟩:=I.tuple hx;have hlen:=r.length;exact truthy_tuple pl (by simp only[JE];lia) ⟨H,I.tok _,by rw[kx r];exact q⟩
  .subst e';obtain⟨hz,hS,vs,r,m⟩:J6.length<=Hz/\(p==L4)=ξ/\∃vs,KV J6 vs/\s.heap.DictOf (bt X.prog X.w) p vs:=I.Hm p _ hx;have hlen:J6.length=vs.length:=Paired.length r;exact wpAny_truthy_dict hS m Θ ⟨H,I.tok _,by rw[qQ r];exact q⟩
 |_=>exact(show False from e).elim
theorem vT (ha:PE X a ta) (he:∀ q,isTrue a X.env q=(do let v <- q;standAt a.pos;PR [v] (truthy v))) :
  PT X a (λG H Q=>ta G H λx H'=>∃k,C5 X.K x H' k/\Q k H'):=by
 intro J1 s G H Q I h;exact isTrue_plain (Hx (ha J1 s G H _ I h) λv s1 ⟨x,H1,Y,r1,q1⟩=>C6 J1 s1 G H1 x v Q Y r1 q1) (he _)
theorem qR:HY X (L5 .Add) (λx y H Q=>∃i j,x=.str i/\y=.str j/\i.length+j.length<=Hz/\Q (.str (i++j)) H):=by intro J1 s G H x y v u Q I rx ry h;obtain⟨i,j,rfl,rfl,Y,q⟩:=h;obtain⟨t,rfl⟩:=rx;obtain⟨t',rfl⟩:=ry;exact add_str (λt' tk=>⟨.str (i++j),H,I.tok _,⟨_,rfl⟩,q⟩) Y
theorem d4{x:ψ}(r:Da [x] us):∃u,us=[u]/\BI x u:=by
 cases r with
 |cons Y q=>cases q;exact⟨_,rfl,Y⟩
theorem vU{x:ψ}(r:Da [x,y] us):∃u w',us=[u,w']/\BI x u/\BI y w':=by
 cases r with
 |cons r1 r2=>
  cases r2 with
  |cons Y q=>cases q;exact⟨_,_,rfl,r1,Y⟩
theorem uw(hc:X.calm=D):Hw X (.builtin "max") (λxs H Q=>∃i j,xs=[.int i,.int j]/\Q (.int (if j > i then j else i)) H):=by
 intro J1 s G H xs us Q I r h;obtain⟨i,j,rfl,q⟩:=h;obtain⟨u,w',rfl,⟨t,rfl⟩,⟨t',rfl⟩⟩:=vU r;refine max_two_ints (I.ok.hd hc) λh' tk k=>⟨_,H,I.kept k,?_,q⟩
 by_cases Y:j > i
 .rw[if_pos Y,if_pos Y];exact⟨_,rfl⟩
 .rw[if_neg Y,if_neg Y];exact⟨_,rfl⟩
theorem ux(hc:X.calm=D):Hw X (.builtin "min") (λxs H Q=>∃i j,xs=[.int i,.int j]/\Q (.int (if j<i then j else i)) H):=by
 intro J1 s G H xs us Q I r h;obtain⟨i,j,rfl,q⟩:=h;obtain⟨u,w',rfl,⟨t,rfl⟩,⟨t',rfl⟩⟩:=vU r;refine min_two_ints (I.ok.hd hc) λh' tk k=>⟨_,H,I.kept k,?_,q⟩
 by_cases Y:j<i
 .rw[if_pos Y,if_pos Y];exact⟨_,rfl⟩
 .rw[if_neg Y,if_neg Y];exact⟨_,rfl⟩
theorem uy:Hw X (.type "int") (λxs H Q=>(∃i,xs=[.int i]/\Q (.int i) H)∨∃k,xs=[.bl k]/\Q (.int (if k then 1 else 0)) H):=by
 intro J1 s G H xs us Q I r h;rcases h with ⟨i,rfl,q⟩|⟨k,rfl,q⟩
 .obtain⟨u,rfl,t,rfl⟩:=d4 r;exact call_int_int ⟨.int i,H,I,⟨_,rfl⟩,q⟩
 .obtain⟨u,rfl,Y⟩:=d4 r;cases Y;exact call_int_bool ⟨.int (if k then 1 else 0),H,I.tok _,⟨_,rfl⟩,q⟩
def Wb(K:Hk)(x:ψ)(H:Hp)(n:Nat):Prop:=
 match x with
 |.str y=>y.length<=Hz/\n=y.length
 |.MK y=>y.size<=Hz/\n=y.size
 |.ref p=>(∃xs,Io K H p xs/\n=xs.length)∨∃xs,II K H p xs/\n=xs.length
 |_=>False
theorem vV:Hw X (.builtin "len") (λxs H Q=>∃x n,xs=[x]/\Wb X.K x H n/\Q (.int n) H):=by
 intro J1 s G H xs us Q I r h;obtain⟨x,n,rfl,e,q⟩:=h;obtain⟨u,rfl,rx⟩:=d4 r;have hl:=je;have hs:Hz=16777216:=Zm;cases x with
 |str y=>obtain⟨t,rfl⟩:=rx;obtain⟨hy,e'⟩:y.length<=Hz/\n=y.length:=e;subst e';exact len_str Θ ⟨.int _,H,I.tok _,⟨_,rfl⟩,q⟩
 |MK y=>obtain⟨t,rfl⟩:=rx;obtain⟨hy,e'⟩:y.size<=Hz/\n=y.size:=e;subst e';exact PySem.W.len_bytes Θ ⟨.int _,H,I.tok _,⟨_,rfl⟩,q⟩
 |ref p=>
  cases rx;have e':(∃xs,Io X.K H p xs/\n=xs.length)∨∃xs,II X.K H p xs/\n=xs.length:=e;rcases e' with ⟨xs,hx,e'⟩|⟨xs,hx,e'⟩
  .subst e';obtain⟨J8,r',pl,hz⟩:=I.list hx;have hlen:=r'.length;exact Calls.call_len_list pl.isList (by simp only[JE];lia) ⟨.int xs.length,H,I.tok _,⟨_,by simp only[JE];rw[hlen]⟩,q⟩
  .subst e';obtain⟨J8,r',pl,hz⟩:=I.tuple hx;have hlen:=r'.length;exact len_tuple pl (by simp only[JE];lia) ⟨.int xs.length,H,I.tok _,⟨_,by simp only[JE];rw[hlen]⟩,q⟩
 |_=>exact(show False from e).elim
end
structure RV(h:Heap)(x dx ζ:J9)(mA:Str->Option Value):Prop where
 obj:h.get? x=O (xP9 ζ dx)
 ns:h.Ns1 dx mA
 ne:dx≠x
variable{dx:J9}{mA:Str->C Value}
theorem uz(n:h.Ns1 dx mA):∃od,h.get? dx=O od/\∀name,PySem.W.lookIn name od=O (mA name):=by
 obtain⟨o,es,ep,ho,hd,hk,_,hm⟩:=n;refine⟨o,ho,λname=>?_⟩;have e:=hm name;unfold nsFind findBy at e;rw[<- Array.find?_toList]at e;unfold PySem.W.lookIn;rw[hd];dsimp only;split
 .rename_i y q;rw[q]at e;exact congrArg O e
 .rename_i q;rw[q]at e
  have a:es.toList.any (·.refKey)=ξ:=by rw[List.any_eq_false];intro y hy;obtain⟨z,t,Y⟩:=hk y (Array.mem_toList_iff.mp hy);simp[Zt.refKey,Y]
  have a':¬ es.toList.any (·.refKey)=D:=by rw[a];exact Kp
  rw[if_neg a'];exact congrArg O e
variable{ζ:J9}
theorem RV.look{x:J9}(I:RV h x dx ζ mA):∃od,PySem.W.InstAt h x (xP9 ζ dx) ζ (O od)/\∀name,PySem.W.lookIn name od=O (mA name):=
 let ⟨od,ho,hl⟩:=uz I.ns
 ⟨od,⟨I.obj,rfl,rfl,ho⟩,hl⟩
section
variable{prog:HL}{w:Ja}{A:HM}{E:Value->t2->Prop}{s:t2}{K:Hk}{x dx ζ f:J9}{mA:Str->C Value}{name:Str}{v:Value}
end
theorem JU.some_of{o:C Value}(r:JU (O v) o):∃u,o=O u/\BI v u:=by
 cases o with
 |none=>exact(show False from r).elim
 |some u=>exact⟨u,rfl,r⟩
section
variable{P:HL}{w:Ja}{H H':Hp}{h h':Heap}{a ζ dx:J9}{fs fs':Z (Str×ψ)}
theorem zu(Y:Jj P w H h)(e:H a=O (.ins ζ dx fs)):∃mA,RV h a dx ζ mA/\(∀f,JU (fs.lookup f) (mA f))/\PySem.Within mA (fs.map (·.1))/\fs.length<=1000/\H dx=O (.own a):=by obtain⟨d,z,ne,ob,mA,n,r,q⟩:=(show Hn P w H h a (.ins ζ dx fs)from Y a _ e);exact⟨mA,⟨ob,n,ne⟩,r,q,z,d⟩
end
structure Cls(K:Hk)(ζ:J9):Prop where
 pg:PySem.W.plainGet K ζ Str.empty=D
 hd:PySem.W.hasDictIn K ζ=D
 po:PySem.W.plainOver K ζ=D
 sa:PySem.W.findIn K (.ref ζ) "__setattr__"=O (O (.builtin "object.__setattr__"))
theorem Cls.get(c:Cls K ζ)(f:Str):PySem.W.plainGet K ζ f=D:=c.pg
section
variable{X:Cx}{J1:Z (J9×Obj)}{G:St}{H:Hp}{s:t2}{a ζ dx:J9}{fs:Z (Str×ψ)}{f:Str}{v:ψ}{A:HM}{E:Value->t2->Prop}
end
section
variable{X:Cx}{o e value:Jc}{f:Str}{pos pos' KC:Pos}{ta tv:TE}
end
section
variable{X:Cx}{J1:Z (J9×Obj)}{G:St}{H:Hp}{s:t2}{A:HM}{E Q:Value->t2->Prop}{c:Value}{b:Bool}
inductive KD(K:Hk)(H:Hp):ψ->Value->Prop where
 |G8:KD K H .G8 (.type "NoneType")
 |bl (x:Bool):KD K H (.bl x) (.type "bool")
 |int (i:Int):KD K H (.int i) (.type "int")
 |str (x:Str):KD K H (.str x) (.type "str")
 |Uz (x:UInt64):KD K H (.Uz x) (.type "float")
 |e {a:J9} {xs:List ψ} (e:H a=O (.e xs)):KD K H (.ref a) (.type "list")
 |Ii {a:J9} {o:Obj} {xs:List ψ} (e:H a=O (.Ii o (.e xs))):KD K H (.ref a) (.type "list")
 |t {a:J9} {xs:List ψ} (e:H a=O (.t xs)):KD K H (.ref a) (.type "tuple")
 |dK {a:J9} {J6:List (Hr×ψ)} (e:H a=O (.dK J6)):KD K H (.ref a) (.type "dict")
 |dT {a:J9} {J6:List (List Hr×ψ)} (e:H a=O (.dT J6)):KD K H (.ref a) (.type "dict")
 | ins {a ζ dx:J9} {fs:List (Str×ψ)} (e:H a=O (.ins ζ dx fs)) (cl:Cls K ζ) (ha:PySem.W.findIn K (.ref ζ) "__class__"=O (O (.builtin "object.__class__")))
     (hn:PySem.W.specialIn K (.builtin "object.__class__") "__get__"=O (O (.builtin "getset_descriptor.__get__"))) (htk:PySem.W.takesIn K (.builtin "object.__class__")=O D)
     (hm:PySem.W.mroIn K ζ (.type "object")=O D):KD K H (.ref a) (.ref ζ)
theorem gZ {x:ψ} {t:Value} (I:nC X J1 G H s) (Y:BI x u) (ty:KD X.K H x t) (e:ZF X.K t c=O b) (h:∀ tk,Q (.bool b) {s with toks:=tk}) :
  wpAny (model X.prog X.w) A (call (.builtin "isinstance") [u,c]) Q E s:=by
 cases ty with
 |G8=>cases (show u=LI from Y);exact MJ PySem.W.kitx_none I.Kz Ou e (λz=>nomatch z) h
 |bl y=>cases (show u=PY y from Y);exact MJ PySem.W.kitx_bool I.Kz Ou e (λz=>nomatch z) h
 |int i=>obtain⟨t,q⟩:=(show ∃t,u=ZD i t from Y);cases q;exact MJ PySem.W.kitx_int I.Kz Ou e (λz=>nomatch z) h
 |str y=>obtain⟨t,q⟩:=(show ∃t,u=ZE y t from Y);cases q;exact MJ PySem.W.kitx_str I.Kz Ou e (λz=>nomatch z) h
 |Uz y=>obtain⟨t,q⟩:=(show ∃t,u=Value.float y t from Y);cases q;exact MJ PySem.W.kitx_float I.Kz Ou e (λz=>nomatch z) h
 |@e a xs ea=>cases (show u=JS a from Y);obtain⟨_,_,n,_,h1⟩:=(show Hn X.prog X.w H s.heap a (.e xs)from I.Hm a _ ea);exact MJ xR9 I.Kz ⟨_,h1,rfl⟩ e (λz=>nomatch z) h
 |@Ii a ob xs ea=>cases (show u=JS a from Y);obtain⟨_,_,_,n,_,h1⟩:=(show Hn X.prog X.w H s.heap a (.Ii ob (.e xs))from I.Hm a _ ea);exact MJ xR9 I.Kz ⟨_,h1,rfl⟩ e (λz=>nomatch z) h
 |@t a xs ea=>cases (show u=JS a from Y);obtain⟨_,_,_,p⟩:=(show Hn X.prog X.w H s.heap a (.t xs)from I.Hm a _ ea);obtain⟨o,h1,h2,_⟩:=p;exact MJ PySem.W.kitx_tuple I.Kz ⟨o,h1,h2⟩ e (λz=>nomatch z) h
 |@dK a J6 ea=>cases (show u=JS a from Y);obtain⟨_,_,vs,_,p⟩:=(show Hn X.prog X.w H s.heap a (.dK J6)from I.Hm a _ ea);obtain⟨o,es,ep,h1,h2,_⟩:=p;exact MJ ZG I.Kz ⟨o,h1,h2.1⟩ e (λz=>nomatch z) h
 |@dT a J6 ea=>cases (show u=JS a from Y);obtain⟨_,_,xs,_,o,es,ep,h1,h2,_⟩:=(show Hn X.prog X.w H s.heap a (.dT J6)from I.Hm a _ ea);exact MJ ZG I.Kz ⟨o,h1,h2.1⟩ e (λz=>nomatch z) h
 |@ins a ζ dx fs ea cl ha hn htk hm=>cases (show u=JS a from Y);obtain⟨mA,ς,_⟩:=zu I.Hm ea;obtain⟨od,δ,_⟩:=ς.look;exact MJ (PySem.W.kitx_own (cl.get _) cl.hd ha hn htk hm) I.Kz δ e (λz=>nomatch z) h
end
structure Hh(k:Nat)(A:HM):Prop where
 hd:A.handled=V
 dp:A.depth+3*k+5<recursionLimit
 un:A.units+16*k+200<cLine
theorem Hh.mono(r:Hh k A)(h:j<=k):Hh j A:=⟨r.hd,by have:=r.dp;lia,by have:=r.un;lia⟩
theorem Hh.deeper(r:Hh (k+1) A)(env:Env):Hh k (A.deeper env):=⟨r.hd,by have:=r.dp;show A.depth+1+3*k+5<_;lia,by have:=r.un;show A.units+3+16*k+200<_;lia⟩
theorem Hh.depth(r:Hh k A):A.depth<recursionLimit:=by have:=r.dp;lia
theorem Hh.units(r:Hh k A):A.units+64<cLine:=by have:=r.un;lia
def tNil:TA:=λ_ H Q=>Q [] H
def FX(ta:TE)(q:TA):TA:=λG H Q=>ta G H λx H1=>q G H1 λxs H2=>Q (x::xs) H2
section
variable{X:Cx}{e:Jc}{es:Z Jc}{te:TE}{t:TA}{pos:Pos}
theorem dN:PA X [] tNil:=λ_ _ _ _ H Q I h=>Calls.spliced_nil ⟨[],H,I,.nil,h⟩
theorem bM(ha:PE X e te)(q:PA X es t)(hs:G7 (e::es) X.env=(ξ,eval e X.env)::G7 es X.env:=by rfl):PA X (e::es) (FX te t):=by intro pos J1 s G H Q I h;rw[hs];show wpAny _ _ (spliced ((ξ,eval e X.env)::IK pos (G7 es X.env))) _ _ s;refine Calls.spliced_cons (Hx (ha J1 s G H _ I h) λu s1 ⟨x,H1,Y,r1,q1⟩=>?_);exact Hx (q pos J1 s1 G H1 _ Y q1) λus s2 ⟨xs,H2,I2,r2,q2⟩=>⟨x::xs,H2,I2,.cons r1 r2,q2⟩
def tTup(t:TA):TE:=λG H Q=>t G H λxs H1=>xs.length<=Hz/\∀p,H1 p=V->Q (.ref p) (upd H1 p (.t xs))
def tLst(t:TA):TE:=λG H Q=>t G H λxs H1=>xs.length<=Hz/\∀p,H1 p=V->Q (.ref p) (upd H1 p (.e xs))
theorem qS{x1}(h:PA X es t):PE X (.Tuple es x1 pos) (tTup t):=by intro J1 s G H Q I hq;refine wpAny_Tuple_spliced (Hx (h pos J1 s G H _ I hq) λus s1 ⟨xs,H1,Y,r,z,q⟩=>⟨by rw[<- r.length];exact z,?_⟩);have hf:H1 s1.heap.objs.size=V:=Y.Hm.fresh (HG _);refine⟨.ref s1.heap.objs.size,upd H1 s1.heap.objs.size (.t xs),Y.laid (t':=s1.toks) (λb u e=>gP _ e) (HG _) ?_,rfl,q _ hf⟩;exact⟨z,us,r,⟨_,Ji _ rfl,rfl,_,rfl⟩⟩
theorem C7(h:PA X es t):PE X (.List es pos) (tLst t):=by intro J1 s G H Q I hq;refine wpAny_List_spliced (Hx (h pos J1 s G H _ I hq) λus s1 ⟨xs,H1,Y,r,z,q⟩=>⟨by rw[<- r.length];exact z,?_⟩);have hf:H1 s1.heap.objs.size=V:=Y.Hm.fresh (HG _);refine⟨.ref s1.heap.objs.size,upd H1 s1.heap.objs.size (.e xs),Y.laid (t':=s1.toks) (λb u e=>gP _ e) (HG _) ?_,rfl,q _ hf⟩;exact⟨z,us,0,r,Ji _ rfl⟩
end
abbrev Sp:=Z ψ->Hp->VK->XK->Prop
abbrev Ob:=Z Env->Hp->t2->XK->Value->t2->Prop
structure LK(P:HL)(w:Ja)(K:Hk)(mg:Str->Option Value)(base:Heap)(A:HM)(outer:List Env)(s:t2)(H:Hp):Prop where
 frames:A.frames=O outer
 mod:Mod K mg base
 bs:∀b o,base.get? b=O o->s.heap.get? b=O o/\H b=V
 N9:base.objs.size<=s.heap.objs.size
 JW:s.heap.FunFrames base outer
 P4:∀b∈ML outer,H b=V
 Hm:Jj P w H s.heap
 bare:PP s.gens
 tb:∀p∈c6 K,H p.1=O (.Jx p.2)
def CE(outer:Z Env)(P:HL)(w:Ja)(H:Hp)(s:t2)(Q:VK)(u:Value)(s':t2):Prop:=∃v H',s'.os=s.os/\PP s'.gens/\Un (ML outer) [] H H' s.heap s'.heap/\Jj P w H' s'.heap/\BI v u/\Q v H'
def CR(CX:Ob)(outer:Z Env)(P:HL)(w:Ja)(H:Hp)(s:t2)(Q:VK)(E:XK)(r:Result)(s':t2):Prop:=
 match r with
 |.ok (.ret u)=>CE outer P w H s Q u s'
 |.ok _=>False
 |.error e=>CX outer H s E e s'
structure JG(P:HL)(w:Ja)(K:Hk)(mg:Str->Option Value)(base:Heap)(CX:Ob)(k:Nat)(f:J9)(fd:Nd)(ps:List Str)(sp:Sp):Prop where
 len:∀vs H Q E,sp vs H Q E->vs.length=ps.length
 run:∀(A:HM)(outer:List Env)(s:t2)(H:Hp)(args:Args)(us:List Value)(vs:List ψ)(Q:VK)(E:XK),Hh k A->LK P w K mg base A outer s H->Pf s fd args (ps.zip us)->Da vs us->sp vs H Q E→
  MF (model P w) A (.call (.ref f) args) (CR CX outer P w H s Q E) s
variable{mg:Str->C Value}{base:Heap}{CX:Ob}{fd:Nd}{ps:Z Str}{sp:Sp}
theorem JG.imp{f:J9}{sp':Sp}(F:JG P w K mg base CX k f fd ps sp)
 (h:∀vs H Q E,sp' vs H Q E->sp vs H Q E):JG P w K mg base CX k f fd ps sp':=
 ⟨λvs H Q E q=>F.len vs H Q E (h _ _ _ _ q),λA outer s H Y us vs Q E hr he hb hv hs=>F.run A outer s H Y us vs Q E hr he hb hv (h _ _ _ _ hs)⟩
section
variable{X:Cx}{J1:Z (J9×Obj)}{G:St}{H:Hp}{s s':t2}
theorem nC.RW(I:nC X J1 G H s):LK X.prog X.w X.K X.mg X.base X.A X.stack s H:=⟨I.ok.frames,I.ok.mod,I.bs,Iw I.ok.N9 I.sz,I.stack,I.Nj,I.Hm,I.bare,λp hp=>I.base.Ni _ _ (I.ok.tb p hp)⟩
theorem nC.after{Q:VK}(I:nC X J1 G H s)(h:CE X.stack X.prog X.w H s Q u s'):EP X J1 G Q u s':=by obtain⟨v,H',os,Y,un,Hm,r,q⟩:=h;obtain⟨hh,g,d,t,os'⟩:=s';obtain rfl:os'=s.os:=os;exact⟨v,H',I.call (h':=hh) (g':=g) (d':=d) (t':=t) (ch:=[]) un Hm Y (λb z=>absurd z Ξ),r,q⟩
end
def vW(sp:Sp)(QY:Z ψ)(E:XK)(t:TA):TE:=λG H Q=>t G H λvs H1=>sp (vs++QY) H1 Q E
def JY(K:Hk)(fd:Nd)(ps:Z Str)(ds:Z Value):Prop:=∀(s:t2)(us:Z Value),K.In s.heap->(us++ds).length=ps.length->Pf s fd ⟨us,[]⟩ (ps.zip (us++ds))
theorem JY.all(h:∀us:Z Value,us.length=ps.length->Uu fd ⟨us,[]⟩=pure (ps.zip us)):JY K fd ps []:=λs us _ q=>by rw[Pb]at q ⊢;exact .of_eq (h us q)
def qT(CX:Ob)(X:Cx)(E:XK):Prop:=∀(J1:Z (J9×Obj))(G:St)(H:Hp)(s:t2)(e:Value)(s':t2),nC X J1 G H s->CX X.stack H s E e s'->X.xe e s'
variable{vs:Z ψ}
section
variable{X:Cx}{CX:Ob}{k:Nat}{f ζ:J9}{fd:Nd}{ps:Z Str}{sp:Sp}{QY:Z ψ}{ds:Z Value}{E:XK}{x m:Str}{p pos apos:Pos}{e o:Jc}{es:Z Jc}{ta:TE}{t:TA}
theorem C8{Q:VK}(F:JG X.prog X.w X.K X.mg X.base CX k f fd ps sp)(hr:Hh k X.A)(hb:JY X.K fd ps ds)(hd:Da QY ds)(hx:qT CX X E)
 (I:nC X J1 G H s) (r:Da vs us) (h:sp (vs++QY) H Q E):wpAny (model X.prog X.w) X.A (call (.ref f) us) (EP X J1 G Q) X.xe s:=by
 have Y:Da (vs++QY) (us++ds):=r.append hd;have hl:(us++ds).length=ps.length:=by rw[<- Y.length];exact F.len _ _ _ _ h
 refine Zp (RI (F.run X.A X.stack s H ⟨us,[]⟩ (us++ds) (vs++QY) Q E hr I.RW (hb s us I.Kz hl) Y h) λr s' q=>?_);cases r with
 |error e=>exact hx J1 G H s e s' I q
 |ok fl=>
  cases fl with
  |ret u=>exact I.after q
  |next=>exact KP q
  |brk=>exact KP q
  |cont=>exact KP q
theorem zw (F:JG X.prog X.w X.K X.mg X.base CX k f fd ps sp) (hr:Hh k X.A) (hg:Gl X x) (hm:X.mg x=O (.ref f)) (hk:NH X.K (.ref f)=D) (hb:JY X.K fd ps ds) (hd:Da QY ds) (hx:qT CX X E)
  (ha:PA X (e::es) t) (Y:(x==("__debug__":Str))=ξ:=by decide) (he:G7 (e::es) X.env=(ξ,eval e X.env)::G7 es X.env:=by rfl) (MN:(IK pos (G7 es X.env)).any (·.1)=ξ:=by rfl) :
  PE X (.Call (.Name x p) (e::es) [] pos) (vW sp QY E t):=by
 intro J1 s G H Q I h;refine VE (nM I hg hm ?_ Y);refine PySem.W.callWith_K (h₀:=X.base) I.ok.mod.UA hk (Hx (ha pos J1 s G H _ I h) λus s1 ⟨vs,H1,I1,r,q⟩=>⟨I1.Kz,?_⟩) he MN;exact C8 F hr hb hd hx I1 r q
end
section
variable{X:Cx}{CX:Ob}{k:Nat}{f ζ:J9}{fd:Nd}{ps ks:Z Str}{sp:Sp}{E:XK}{x m:Str}{p pos apos kpos:Pos}{e o:Jc}{es:Z Jc}{kws:Z Mc}{te ta:TE}{t tk:TA}{nm:C Str}
variable{g:Z Value->Z Value->Z Value}{gV:Z ψ->Z ψ->Z ψ}
end
structure ma(N P:List Str)(sc:Jd):Prop where
 kind:sc.kind=.function
 co:sc.isCoroutine=ξ
 gen:sc.isGenerator=ξ
 nd:N.Nodup
 pre:N.take P.length=P
 par:∀x∈P,sc.names.lookup x=O .local∨sc.names.lookup x=O .cell
 RX:∀y∈sc.names,y.2≠.free
variable{kindOf:Str->C ME}
theorem mf:∀{binds:Z (Str×Value)}{m:Str->C Value},(∀v,(x,v)∉binds)->bindL kindOf binds m x=m x
 |[],_,_=>rfl
 |(n,v)::r,m,h=>by
  unfold bindL;rw[mf λw hw=>h w (N4 _ hw)];split
  .have:x≠n:=by rintro rfl;exact h v N5
   simp[this]
  .rfl
theorem mh:∀{binds:Z (Str×Value)}{m:Str->C Value},(∀v,(x,v)∉binds)->bindC kindOf binds m x=m x
 |[],_,_=>rfl
 |(n,v)::r,m,h=>by
  unfold bindC;rw[mh λw hw=>h w (N4 _ hw)];split
  .rfl
  .have:x≠n:=by rintro rfl;exact h v N5
   simp[this]
theorem jf {v:Value}:∀ {P:Z Str} {vs:Z Value} {i:Nat} {m:Str->C Value},P.Nodup->P[i]?=O x->vs[i]?=O v->kindOf x=O .local→
  bindL kindOf (P.zip vs) m x=O v
 |[],_,_,_,_,h,_,_=>by simp at h
 |_::_,[],_,_,_,_,h,_=>by simp at h
 |p::P,w::vs,0,m,nd,h1,h2,hk=>by
  simp at h1 h2;subst h1;subst h2
  show bindL kindOf ((p,w)::P.zip vs) m p=_;unfold bindL;rw[mf λv hv=>(Oj.mp nd).1 (Y2 hv).1,if_pos hk];simp
 |p::P,w::vs,i+1,m,nd,h1,h2,hk=>by show bindL kindOf ((p,w)::P.zip vs) m x=_;unfold bindL;exact jf (i:=i) (Oj.mp nd).2 (by simpa using h1) (by simpa using h2) hk
theorem jg {v:Value}:∀ {P:Z Str} {vs:Z Value} {i:Nat} {m:Str->C Value},P.Nodup->P[i]?=O x->vs[i]?=O v->kindOf x≠O .local→
  bindC kindOf (P.zip vs) m x=O v
 |[],_,_,_,_,h,_,_=>by simp at h
 |_::_,[],_,_,_,_,h,_=>by simp at h
 |p::P,w::vs,0,m,nd,h1,h2,hk=>by
  simp at h1 h2;subst h1;subst h2
  show bindC kindOf ((p,w)::P.zip vs) m p=_;unfold bindC;rw[mh λv hv=>(Oj.mp nd).1 (Y2 hv).1,if_neg hk];simp
 |p::P,w::vs,i+1,m,nd,h1,h2,hk=>by show bindC kindOf ((p,w)::P.zip vs) m x=_;unfold bindC;exact jg (i:=i) (Oj.mp nd).2 (by simpa using h1) (by simpa using h2) hk
noncomputable def start(N:Z Str)(vs:Z ψ):St:=vs.map O++Ol (N.length-vs.length) V
noncomputable def kz(CX:Ob)(P:HL)(w:Ja)(K:Hk)(mg:Str->C Value)(base:Heap)(N:Z Str)(qual:Str)(scope:Jd)(f:J9)(Y:Value)(A:HM)(outer:Z Env)(s:t2)(H:Hp)(E:XK):Cx where
 prog:=P
 w:=w
 K:=K
 mg:=mg
 base:=base
 A:=A.deeper (M9 qual scope s.heap.objs.size f Y)
 N:=N
 s₀:=s
 Md:=H
 env:=M9 qual scope s.heap.objs.size f Y
 outer:=outer
 stack:=M9 qual scope s.heap.objs.size f Y::outer
 ex:=[]
 calm:=true
 fn:=λ_=>D
 pn:=[]
 xe:=λe s'=>wpAny (model P w) (A.deeper (M9 qual scope s.heap.objs.size f Y)) (leaving (M9 qual scope s.heap.objs.size f Y) e) (λ_ q=>CX outer H s E e q) (λe' q=>CX outer H s E e' q) s'
theorem iE{sc:Jd}(h:sc.names.lookup x=O .cell):∃c,(Ky n sc.names []).lookup x=O c:=by have q:=xS9 sc.names n [] (.inl h);exact qs8.mp q
variable{qual:Str}{scope:Jd}
theorem uA{f:J9}{cd:Value}{outer:Z Env}{s1:t2}{E:XK} 
 (S:ma N ps scope) (hd:A.handled=V) (e0:LK P w K mg base A outer s H) (hl:vs.length=ps.length) (r:Da vs us)
 (x:PU s s.heap.objs.size (bindL (M9 qual scope s.heap.objs.size f cd).kindOf (ps.zip us) λ_=>V) (Ky (s.heap.objs.size+1) scope.names []) (bindC (M9 qual scope s.heap.objs.size f cd).kindOf (ps.zip us) λ_=>V) s1) :
  nC (kz CX P w K mg base N qual scope f cd A outer s H E) [] (start N vs) H s1:=by
 have MN:ps.length<=N.length:=by have:=congrArg Ld S.pre;rw[zd2]at this;lia
 obtain⟨h1,tk,rfl,hk⟩:=x.done;have Y:∀b:J9,b∉(kz CX P w K mg base N qual scope f cd A outer s H E).ex:=λb z=>absurd (show b∈([]:Z J9)from z) Ξ
 refine⟨⟨e0.mod,S.kind,rfl,rfl,HG _,λy z c h1 h2=>?_,λy hy=>?_,λy c _ h=>?_,λ_=>hd,HM.frames_deeper e0.frames,.inr ⟨rfl,rfl⟩,λb z=>absurd z (Y b),e0.bs,e0.N9,λb _ _=>Y b,λb z=>absurd z (Y b),e0.JW,e0.P4,e0.tb⟩,rfl,e0.bare,Un.kept hk,⟨_,x.toInCall.ns,λi y v h1 h2 h3=>?_⟩,λy c h=>⟨_,x.cell y c h⟩,e0.Hm.fresh (HG _),λy c h=>?_,λp hp=>absurd (show p∈([]:Z (J9×Obj))from hp) Ξ,e0.Hm.kept hk,?_⟩
 .exact zj7 x.apart (PySem.mem_of_lookup h1) (PySem.mem_of_lookup h2)
 .have hy:scope.names.lookup y=O .cell∨scope.names.lookup y=O .free:=hy;rcases hy with hy|hy
  .exact iE hy
  .exact absurd rfl (S.RX _ (PySem.mem_of_lookup hy))
 .exact ND (x.above y c (PySem.mem_of_lookup h))
 .have hi:i<vs.length:=by
   unfold start at h2;by_cases hi:i<vs.length
   .exact hi
   .rw[Pa (by simpa using hi)]at h2;rw[Vt]at h2;split at h2<;>cases h2
  have ha:vs[i]?=O v:=by
   unfold start at h2;rw[LF (by simpa using hi),Je]at h2;cases e:vs[i]? with
   |none=>rw[e]at h2;cases h2
   |some a=>rw[e]at h2;cases h2;rfl
  obtain⟨u,hu,rv⟩:=r.get ha
  have hp:ps[i]?=O y:=by rw[<- S.pre,za3 Θ];exact h1
  have Wc:ps.Nodup:=by rw[<- S.pre];exact S.nd.sublist (Vw _ _)
  refine⟨u,rv,?_⟩;rcases S.par y (Ls hp)with k|k
  .exact .inl ⟨k,jf Wc hp hu k⟩
  .obtain⟨c,e⟩:=iE (n:=s.heap.objs.size+1) k;refine .inr ⟨.inl k,c,e,?_⟩;have q:=x.cell y c e;rw[jg Wc hp hu (by show scope.names.lookup y≠_;rw[k];decide)]at q;exact q
 .exact e0.Hm.fresh (ND (x.above y c (PySem.mem_of_lookup h)))
 .unfold start;show _=N.length;rw[HZ,Hl,Vu];lia
theorem Bu{f:J9}{name:Str}{params:LH}{dV kV doc pm Hv ct oc:Value}{an od:C J9}
 {Mh:Array (C Value)} (lk:K.lookup f=O ⟨oc,od,.func (LJ name qual params body scope dV kV doc pm an Hv ct),Mh⟩) (Pl:Pk K Hv qual=D) (S:ma N ps scope)
 (len:∀vs H Q E,sp vs H Q E->vs.length=ps.length)
 (Mi:∀(A:HM)(outer:Z Env)(s:t2)(H:Hp)(vs:Z ψ)(Q:VK)(E:XK),Hh k (A.deeper (M9 qual scope s.heap.objs.size f Hv))->sp vs H Q E→
 ∃t,Kq (kz CX P w K mg base N qual scope f Hv A outer s H E) body t/\t {nx:=λ_ H'=>Q .G8 H',rt:=Q} (start N vs) H) :
  JG P w K mg base CX (k+1) f (LJ name qual params body scope dV kV doc pm an Hv ct) ps sp:=by
 refine⟨len,λA outer s H args us vs Q E hr e0 hb r QZ=>?_⟩;have hl:=len _ _ _ _ QZ;have KX:K.In s.heap:=e0.mod.UA.keeps λb o e=>(e0.bs b o e).1
 have lim:s.heap.NoLimit:=e0.mod.nolimit.keeps λb o e=>(e0.bs b o e).1
 have Kr:∀y∈ps.zip us,scope.names.lookup y.1=O .local∨(scope.names.lookup y.1=O .cell/\((Ky (s.heap.objs.size+1) scope.names []).lookup y.1).isSome=D):=λ⟨n,v⟩ hy=>by
  rcases S.par n (Y2 hy).1 with q|q
  .exact .inl q
  .exact .inr ⟨q,xS9 _ _ _ (.inl q)⟩
 refine zf3 hr.depth (KX _ _ lk) rfl S.co S.gen rfl (PySem.W.codeRec_of KX Pl) (hb _ _ _ _ ?_);refine wpAny_newFunctionEnv_cells S.kind Kr λenv he s1 x=>?_
 subst he;refine⟨lim.keeps x.toInCall.keep,codeAny_func ?_⟩;obtain⟨t,ht,hq⟩:=Mi A outer s H vs Q E (hr.deeper _) QZ;have I:nC (kz CX P w K mg base N qual scope f Hv A outer s H E) [] (start N vs) H s1:=uA S hr.hd e0 hl r x;refine MD (ht [] s1 (start N vs) H _ I hq) (λfl s' hs=>?_) λe s' hs=>hs
 have fin:∀{Y:St}{H':Hp}{v:ψ}{u:Value},nC (kz CX P w K mg base N qual scope f Hv A outer s H E) [] Y H' s'->BI v u->Q v H'->CE outer P w H s Q u s':=λ{Y H' v u} δ rv q=>⟨v,H',δ.os,δ.bare,δ.base,δ.Hm,rv,q⟩
 cases fl with
 |ret u=>obtain⟨v,Y,H',δ,rv,q⟩:=hs;exact fin δ rv q
 |next=>obtain⟨Y,H',δ,q⟩:=hs;exact fin (v:=ψ.G8) (u:=LI) δ rfl q
 |brk=>obtain⟨_,_,_,q⟩:=hs;exact KP q
 |cont=>obtain⟨_,_,_,q⟩:=hs;exact KP q
section
variable{X:Cx}{x:Str}{p pos:Pos}{e:Jc}{es:Z Jc}{t:TA}{id T:String}{r:Z ψ->Hp->VK->Prop}
def We(r:Z ψ->Hp->VK->Prop)(t:TA):TE:=λG H Q=>t G H λvs H1=>r vs H1 Q
theorem vX (hc:Hw X (.builtin id) r) (hg:Gl X x) (hm:X.mg x=V) (hv:Kk x=O (.builtin id)) (ha:PA X (e::es) t) (hn:x≠"__name__":=by decide) (q:(x==("__debug__":Str))=ξ:=by decide)
  (he:G7 (e::es) X.env=(ξ,eval e X.env)::G7 es X.env:=by rfl) (Y:(IK pos (G7 es X.env)).any (·.1)=ξ:=by rfl):PE X (.Call (.Name x p) (e::es) [] pos) (We r t):=by
 intro J1 s G H Q I h;refine VE (fK I hg hm hv ?_ hn q);exact PyProof.Rows.callWith_builtin1 (Hx (ha pos J1 s G H _ I h) λus s1 ⟨vs,H1,I1,r1,q1⟩=>hc J1 s1 G H1 vs us Q I1 r1 q1) he Y
theorem uB (hc:Hw X (.type T) r) (hg:Gl X x) (hm:X.mg x=V) (hv:Kk x=O (.type T)) (ha:PA X (e::es) t) (hn:x≠"__name__":=by decide) (q:(x==("__debug__":Str))=ξ:=by decide)
  (he:G7 (e::es) X.env=(ξ,eval e X.env)::G7 es X.env:=by rfl) (Y:(IK pos (G7 es X.env)).any (·.1)=ξ:=by rfl):PE X (.Call (.Name x p) (e::es) [] pos) (We r t):=by
 intro J1 s G H Q I h;refine VE (fK I hg hm hv ?_ hn q);exact RG (Hx (ha pos J1 s G H _ I h) λus s1 ⟨vs,H1,I1,r1,q1⟩=>hc J1 s1 G H1 vs us Q I1 r1 q1) he Y
end
end L2
namespace HT
open PySem PyProof.Rows
section
open PySem.SeqAt
open PySem.AutoSeq1 (wpAny_loadPart')
open PySem.MeetsSeq PySem.MeetsSeq2 PySem.MeetsSeq3
end
variable{Q:Value->t2->Prop}{vu:Value}{lo hi:C Int}
section
variable{prog:HL}{w:Ja}{A:HM}{E:Value->t2->Prop}{s:t2}
theorem GU{t b:J9}{vs q:Z Value}(ht:IsTup s.heap t vs.toArray)(hb:IsTup s.heap b q.toArray)(hv:vs≠[])
 (h1:q=[]->Q (.ref t) s) (h2:q≠[]->Q (.ref s.heap.objs.size) {s with heap:=s.heap.push {cls:=.type "tuple",data:=.seq (vs++q).toArray}})
 (hsz:vs.length+q.length<=Hz):wpAny (model prog w) A (L5 .Add (.ref t) (.ref b)) Q E s:=by
 obtain⟨⟨cls,dd,data,sl⟩,ho,hc,n,hd⟩:=id ht;obtain⟨⟨RY,Q0,data2,Q3⟩,Y,NK,n2,hd2⟩:=id hb;simp only at hc hd NK hd2;subst hc hd NK hd2;have e:vs.toArray++q.toArray=(vs++q).toArray:=by simp
 by_cases hw:q=[]
 .exact VJ ⟨_,ho,rfl⟩ ⟨_,Y,rfl⟩ Ze Zj PySem.F.slot_tuple_add PySem.F.entry_tuple_add (PySem.F.args_tuple_add_2 _ _)
   (tuple_addW1 t b vs.toArray q.toArray n n2 dd Q0 sl Q3 (by simpa using hv) (by simp[hw])) ⟨ho,Y,h1 hw⟩
 .refine VJ ⟨_,ho,rfl⟩ ⟨_,Y,rfl⟩ Ze Zj PySem.F.slot_tuple_add PySem.F.entry_tuple_add (PySem.F.args_tuple_add_2 _ _)
   (tuple_addW2 t b vs.toArray q.toArray n n2 dd Q0 sl Q3 (by simpa using hv) (by simpa using hw) (by rw[JE,JE];exact hsz)) ⟨ho,Y,?_⟩
  rw[e];exact h2 hw
def HN(n d:Nat):C Int->Nat
 |none=>d
 |some v=>if v<0 then(v+(n:Int)).toNat else min v.toNat n
theorem FY(n d:Nat):HN n d V=d:=rfl
theorem GV(n d k:Nat):HN n d (O (k:Int))=min k n:=by show(if(k:Int)<0 then((k:Int)+(n:Int)).toNat else min (k:Int).toNat n)=min k n;rw[if_neg Θ,Ms]
theorem C9(n d:Nat)(Y:d<=n)(o:C Int):HN n d o<=n:=by
 cases o with
 |none=>exact Y
 |some v=>
  show(if v<0 then(v+(n:Int)).toNat else min v.toNat n)<=n;by_cases q:v<0
  .rw[if_pos q];lia
  .rw[if_neg q];exact Nat.min_le_right _ _
theorem sT(v:Int)(n d:Nat):(if v<0 then max (v+(n:Int)) 0 else min v (n:Int))=((HN n d (O v):Nat):Int):=by
 show(if v<0 then max (v+(n:Int)) 0 else min v (n:Int))=(((if v<0 then(v+(n:Int)).toNat else min v.toNat n):Nat):Int);by_cases q:v<0
 .simp only[if_pos q];lia
 .simp only[if_neg q];lia
theorem qU(lo hi:C Int)(n:Nat):qr5 lo hi 1 (n:Int)=(((HN n 0 lo:Nat):Int),((HN n n hi:Nat):Int)):=by
 have h1:¬ ((1:Int)<0):=by lia
 unfold qr5;simp only[h1,if_false];refine Prod.ext ?_ ?_
 .cases lo with
  |none=>rfl
  |some v=>exact sT v n 0
 .cases hi with
  |none=>rfl
  |some v=>exact sT v n n
theorem qV(i j:Nat):Zw (i:Int) (j:Int) 1=j-i:=by
 unfold Zw;have h1:(1:Int) > 0:=by lia
 simp only[h1,if_true,Int.ediv_one];split<;>lia
theorem kA{v:Value}{o:C Int}{Q:C Int->t2->Prop}(p:Op v o)(h:Q o s):wpAny (model prog w) A (JR.Slice.slicePartIndex v) Q E s:=by
 cases p with
 |none=>exact slicePart_none h
 |int i t=>exact slicePart_int h
theorem fA{sl:J9}{vl:Value}{n:Nat}{Q:Int×Int×Nat->t2->Prop}(hs:s.heap.IsSliceOf sl vl vu .none)(pl:Op vl lo)(pu:Op vu hi)
 (h:Q (((HN n 0 lo:Nat):Int),1,HN n n hi-HN n 0 lo) s):wpAny (model prog w) A (qy2 (.ref sl) (pure (n:Int))) Q E s:=by
 obtain⟨os,q,Pp,Y⟩:=id hs;unfold qy2 JR.Slice.sliceFields;refine wB (wB (RJ q Y (x:=vl) rfl (wB (RJ q Y (x:=vu) rfl (wB (RJ q Y (x:=.none) rfl (Hf ?_)))))));refine wB (slicePart_none ?_);show wpAny _ _ (if((1:Int)==0)=D then _ else _) _ _ s;rw[if_neg Ω];refine wB (kA pl (wB (kA pu (wB (Hf ?_)))));show wpAny _ _ (match qr5 lo hi 1 (n:Int)with|(lo,hi)=>pure (lo,(1:Int),Zw lo hi 1)) _ _ s;rw[qU lo hi n];show wpAny _ _ (pure (((HN n 0 lo:Nat):Int),(1:Int),Zw ((HN n 0 lo:Nat):Int) ((HN n n hi:Nat):Int) 1)) _ _ s;rw[qV];exact Hf h
theorem vY(xs:Array Value)(i k:Nat):((HQ k).filterMap λ(m:Nat)=>xs[((i:Int)+(m:Int)*1).toNat]?).toArray=((xs.toList.drop i).take k).toArray:=by
 have e:(λ(m:Nat)=>xs[((i:Int)+(m:Int)*1).toNat]?)=λm=>xs[i+m]?:=by
  funext m;have:((i:Int)+(m:Int)*1).toNat=i+m:=by lia
  rw[this]
 rw[e];have:=pick_run xs i k;rw[List.filterMap_map]at this;have q:((λx=>xs[x]?) ∘ λx=>i+x)=λm=>xs[i+m]?:=rfl
 rw[q]at this;rw[this]
theorem sU{t sl:J9}{Y:Array Value}{vl:Value}(ht:IsTup s.heap t Y)(hs:s.heap.IsSliceOf sl vl vu .none)(pl:Op vl lo)(pu:Op vu hi)
 (hw:¬ (HN Y.size 0 lo=0/\HN Y.size Y.size hi=Y.size))
 (h:Q (.ref s.heap.objs.size) {s with heap:=s.heap.push {cls:=.type "tuple",data:=.seq ((Y.toList.drop (HN Y.size 0 lo)).take (HN Y.size Y.size hi-HN Y.size 0 lo)).toArray}})
 (hsz:Y.size<=Hz):wpAny (model prog w) A (Pg (.ref t) (.ref sl)) Q E s:=by
 have Nm:sizeOk (.seq ((Y.toList.drop (HN Y.size 0 lo)).take (HN Y.size Y.size hi-HN Y.size 0 lo)).toArray):=by show((Y.toList.drop (HN Y.size 0 lo)).take (HN Y.size Y.size hi-HN Y.size 0 lo)).toArray.size<=Hz;rw[JE,zd2,zd3,M6];lia
 have hj:HN Y.size Y.size hi<=Y.size:=C9 _ _ (HG _) hi;obtain⟨os,Wg,Pp,RZ⟩:=id hs;have hTs:s.TypeIs (.ref sl) "slice":=⟨os,Wg,Pp⟩;unfold Pg
 try with_reducible refine NF ?_
 first|refine wB (Hf ?_)|skip
 refine wB (wpAny_sequenceKey ht.typeIs Ω ?_)
 refine wB (Pd (name:=xv "__getitem__") ht.typeIs Uj
  (Na Uj ht.typeIs entry_tuple_getitem ?_ (args_tuple_getitem _ _)))
 show wpAny _ _ (qy3 (.ref t) >>= _) _ _ s;refine wB (tupleItemsOf_ ht ?_);refine wB (Uq hTs ?_);rw[if_pos Ω];refine wB (fA hs pl pu ?_)
 have hno:¬ ((((HN Y.size 0 lo:Nat):Int)==0&&(1:Int)==1&&(HN Y.size Y.size hi-HN Y.size 0 lo)==Y.size)=D):=by intro q;rw[IH,IH]at q;have q1:((HN Y.size 0 lo:Nat):Int)=0:=eq_of_beq q.1.1;have q2:HN Y.size Y.size hi-HN Y.size 0 lo=Y.size:=eq_of_beq q.2;exact hw ⟨Θ,Θ⟩
 show wpAny _ _ (if(((HN Y.size 0 lo:Nat):Int)==0&&(1:Int)==1&&(HN Y.size Y.size hi-HN Y.size 0 lo)==Y.size)=D then _ else _) _ _ s;rw[if_neg hno,vY]
 first
  |exact wB (m:=Zy _) (Ma (Hf ⟨_,rfl,Hf h⟩) Nm)
  |exact wB (m:=Zy _) (Ma (wB (Hf (Hf ⟨_,rfl,Hf h⟩))) Nm)
  |exact wB (wB (m:=Zy _) (Ma (Hf (Hf ⟨_,rfl,Hf h⟩)) Nm))
  |exact wB (wB (m:=Zy _) (Ma (Hf ⟨_,rfl,Hf h⟩) Nm))
end
end HT
namespace L2
open PySem PySem.Spec PyProof.Rows
abbrev TO:=St->Hp->(C Int->Hp->Prop)->Prop
def PO(X:Cx)(e:C Jc)(t:TO):Prop:=
 ∀(J1:Z (J9×Obj))(s:t2)(G:St)(H:Hp)(Q:C Int->Hp->Prop),nC X J1 G H s->t G H Q→
  wpAny (model X.prog X.w) X.A (evalPart e X.env) (λu s'=>∃o H',nC X J1 G H' s'/\Op u o/\Q o H') X.xe s
def zy:TO:=λ_ H Q=>Q V H
def FZ(t:TE):TO:=λG H Q=>t G H λx H1=>∃i,x=.int i/\Q (O i) H1
theorem qW{ns:Z Int}:∀{us:Z Value},Da (ns.map ψ.int) us->Uk us ns:=by
 induction ns with
 |nil=>intro us r;rw[QG]at r;cases r;exact .nil
 |cons n ns q=>
  intro us r;rw[Ia]at r;cases r with
  |cons r1 Y=>obtain⟨t,e⟩:=r1;subst e;exact .cons n t (q Y)
variable{r:ψ->C Int->C Int->Hp->VK->Prop}{xs:Z ψ}{us:Z Value}
section
variable{X:Cx}{e:Jc}{te:TE}{lo hi:C Jc}{tl th:TO}{pos p2:Pos}
theorem zA:PO X V zy:=by intro J1 s G H Q I h;rw[evalPart_none];exact Hf ⟨V,H,I,.none,h⟩
theorem zB(h:PE X e te):PO X (O e) (FZ te):=by
 intro J1 s G H Q I hw;rw[evalPart_some];refine Hx (h J1 s G H _ I hw) λu s1 ⟨x,H1,Y,r1,q1⟩=>?_
 obtain⟨i,rfl,q⟩:=q1;obtain⟨t,rfl⟩:=r1;exact⟨O i,H1,Y,.int i t,q⟩
def Nn(X:Cx)(r:ψ->C Int->C Int->Hp->VK->Prop):Prop:=
 ∀(J1:Z (J9×Obj))(s:t2)(G:St)(H:Hp)(x:ψ)(v vl vu:Value)(lo hi:C Int)(sl:J9)(Q:VK),nC X J1 G H s->BI x v->s.heap.IsSliceOf sl vl vu .none->Op vl lo->Op vu hi->r x lo hi H Q→
  ∃T id,VM (.type T) "__getitem__"=pure (O (.builtin id))/\s.TypeIs v T/\wpAny (model X.prog X.w) X.A (Pg v (.ref sl)) (EP X J1 G Q) X.xe s
theorem Nn.or{r':ψ->C Int->C Int->Hp->VK->Prop}(h:Nn X r)(h':Nn X r'):Nn X (λx lo hi H Q=>r x lo hi H Q∨r' x lo hi H Q):=by
 intro J1 s G H x v vl vu lo hi sl Q I rx hs Y pu q;rcases q with q|q
 .exact h J1 s G H x v vl vu lo hi sl Q I rx hs Y pu q
 .exact h' J1 s G H x v vl vu lo hi sl Q I rx hs Y pu q
def tSl(r:ψ->C Int->C Int->Hp->VK->Prop)(te:TE)(tl th:TO):TE:=λG H Q=>te G H λx H1=>tl G H1 λl H2=>th G H2 λu q=>r x l u q Q
theorem pz(hr:Nn X r)(he:PE X e te)(hl:PO X lo tl)(hu:PO X hi th):PE X (.Subscript e (.Slice lo hi V p2) pos) (tSl r te tl th):=by
 intro J1 s G H Q I h;refine Subscript_ (Hx (he J1 s G H _ I h) λv s1 ⟨x,H1,I1,r1,q1⟩=>?_);refine wpAny_Slice (Hx (hl J1 s1 G H1 _ I1 q1) λvl s2 ⟨l,H2,I2,pl,q2⟩=>Hx (hu J1 s2 G H2 _ I2 q2) λvu Y ⟨u,H3,I3,pu,q3⟩=>?_);rw[evalPart_none];refine Hf ?_;have I4:nC X J1 G H3 {Y with heap:=Y.heap.push {cls:=.type "slice",data:=.fields #[vl,vu,.none]}}:=I3.kept (t':=Y.toks) λb ob q=>gP _ q
 obtain⟨T,id,hT,ht,hg⟩:=hr J1 {Y with heap:=Y.heap.push {cls:=.type "slice",data:=.fields #[vl,vu,.none]}} G H3 x v vl vu l u Y.heap.objs.size Q I4 r1 (Heap.IsSliceOf.new ..) pl pu q3;show wpAny (model X.prog X.w) X.A (zi4 e (.Slice lo hi V p2) v (.ref Y.heap.objs.size)) (EP X J1 G Q) X.xe {Y with heap:=Y.heap.push {cls:=.type "slice",data:=.fields #[vl,vu,.none]}};exact tail_any (ops:=[.ref Y.heap.objs.size,v]) ht hT hg (by with_unfolding_all rfl)
noncomputable def pB(xs:Z ψ)(lo hi:C Int):Z ψ:=(xs.drop (HT.HN xs.length 0 lo)).take (HT.HN xs.length xs.length hi-HT.HN xs.length 0 lo)
theorem jI(xs:Z ψ)(lo hi:C Int):(pB xs lo hi).length<=xs.length:=by unfold pB;rw[zd2,zd3];lia
def Wh(K:Hk):ψ->C Int->C Int->Hp->VK->Prop:=λx lo hi H Q=>∃a xs,x=.ref a/\II K H a xs∧¬ (HT.HN xs.length 0 lo=0/\HT.HN xs.length xs.length hi=xs.length)/\∀p,H p=V->Q (.ref p) (upd H p (.t (pB xs lo hi)))
theorem Db:Nn X (Wh X.K):=by
 intro J1 s G H x v vl vu lo hi sl Q I rx hs pl pu h;obtain⟨a,xs,rfl,hx,hw,q⟩:=h;cases rx;obtain⟨J8,r,ht,hz⟩:=I.tuple hx;have Y:J8.toArray.size=xs.length:=by rw[JE];exact r.length.symm
 refine⟨"tuple",_,Uj.lookup,ht.typeIs,?_⟩;refine HT.sU ht hs pl pu (by rw[Y];exact hw) ?_ (by rw[Y];exact hz);rw[Y];refine⟨.ref s.heap.objs.size,_,I.laid (t':=s.toks) (o:=.t (pB xs lo hi)) (λb ob q=>gP _ q) (HG _) ?_,rfl,q _ (I.Hm.fresh (HG _))⟩;exact⟨Iw (jI xs lo hi) hz,_,(r.drop (HT.HN xs.length 0 lo)).take (HT.HN xs.length xs.length hi-HT.HN xs.length 0 lo),IsTup.new _ _⟩
def Bv(K:Hk):R2:=λx y H Q=>∃a b xs ys,x=.ref a/\y=.ref b/\II K H a xs/\II K H b ys/\xs≠[]/\xs.length+ys.length<=Hz∧(ys=[]->Q (.ref a) H)/\(ys≠[]->∀p,H p=V->Q (.ref p) (upd H p (.t (xs++ys))))
theorem Da.LL(r:Da xs us):us=[]↔xs=[]:=by
 cases r with
 |nil=>simp
 |cons _ _=>simp
theorem zC:HY X (L5 .Add) (Bv X.K):=by intro J1 s G H x y v u Q I rx ry h;obtain⟨a,b,xs,ys,rfl,rfl,ha,hb,hx,hz,q1,q2⟩:=h;cases rx;cases ry;obtain⟨J8,r1,p1,_⟩:=I.tuple ha;obtain⟨its2,Y,p2,_⟩:=I.tuple hb;refine HT.GU p1 p2 (λz=>hx (r1.LL.mp z)) (λz=>⟨.ref a,H,I,rfl,q1 (Y.LL.mp z)⟩) (λz=>?_) (by rw[<- r1.length,<- Y.length];exact hz);refine⟨.ref s.heap.objs.size,_,I.laid (t':=s.toks) (o:=.t (xs++ys)) (λb ob q=>gP _ q) (HG _) ?_,rfl,q2 (λw=>z (Y.LL.mpr w)) _ (I.Hm.fresh (HG _))⟩;exact⟨by rw[HZ];exact hz,_,r1.append Y,IsTup.new _ _⟩
end
noncomputable def No(n:Nat)(i:Int):C Nat:=if 0<=i then(if i<n then O i.toNat else V)else if -(n:Int)<=i then O (i+n).toNat else V
def Ks{α:Type}(xs:Z α)(i:Int):C α:=(No xs.length i).bind λj=>xs[j]?
variable{n j:Nat}{i:Int}
theorem sV(h:No n i=O j):seqIndex? i n=O j/\j<n/\-(n:Int)<=i/\i<n:=by
 unfold No at h;by_cases q:0<=i
 .rw[if_pos q]at h;by_cases h1:i<n
  .rw[if_pos h1]at h;have e:i.toNat=j:=L3 h;exact⟨by rw[seqIndex_of q h1,e],Θ,Θ,h1⟩
  .rw[if_neg h1]at h;cases h
 .rw[if_neg q]at h;by_cases h1:-(n:Int)<=i
  .rw[if_pos h1]at h;have e:(i+n).toNat=j:=L3 h;exact⟨by rw[seqIndex_neg Θ h1,e],Θ,h1,Θ⟩
  .rw[if_neg h1]at h;cases h
theorem nV{α:Type}{xs:Z α}{v:α}(h:Ks xs i=O v):∃j,seqIndex? i xs.length=O j/\xs[j]?=O v/\j<xs.length/\-(xs.length:Int)<=i/\i<xs.length:=by
 unfold Ks at h;cases e:No xs.length i with
 |none=>rw[e]at h;cases h
 |some j=>rw[e]at h;obtain⟨h1,h2,h3,q⟩:=sV e;exact⟨j,h1,h,h2,h3,q⟩
theorem zD{α:Type}{xs:Z α}{v:α}(h:xs[j]?=O v):Ks xs (j:Int)=O v:=by
 have q:j<xs.length:=(gX h).1
 have e:No xs.length (j:Int)=O j:=by unfold No;rw[if_pos Θ,if_pos Θ];simp
 unfold Ks;rw[e];exact h
def nW(b:Jc):Prop:=∀o i,Zn b ξ o i=operate [o,i] (Pg o i)
def Pq(X:Cx)(r:R2):Prop:=
 ∀(value q:Jc)(J1:Z (J9×Obj))(s:t2)(G:St)(H:Hp)(x y:ψ)(v u:Value)(Q:VK),nC X J1 G H s->BI x v->BI y u->r x y H Q→
  Zn q ξ v u=operate [v,u] (Pg v u)->wpAny (model X.prog X.w) X.A (zi4 value q v u) (EP X J1 G Q) X.xe s
def Q4(X:Cx)(id:String)(r:ψ->Z ψ->Hp->VK->Prop):Prop:=
 ∀(J1:Z (J9×Obj))(s:t2)(G:St)(H:Hp)(x:ψ)(xs:Z ψ)(v:Value)(us:Z Value)(Q:VK),nC X J1 G H s->BI x v->Da xs us->r x xs H Q→
  wpAny (model X.prog X.w) X.A (call (.builtin id) (v::us)) (EP X J1 G Q) X.xe s
variable{J1:Z (J9×Obj)}{G:St}{H:Hp}{s:t2}{p:J9}{J8 HF:Z Value}{A:HM}{y x:ψ}{u v:Value}
section
variable{X:Cx}{a b:Jc}{ta tb:TE}{pos:Pos}
theorem Pq.or{r r':R2}(h:Pq X r)(h':Pq X r'):Pq X (λx y H Q=>r x y H Q∨r' x y H Q):=by
 intro value Y J1 s G H x y v u Q I rx ry q hs;rcases q with q|q
 .exact h value Y J1 s G H x y v u Q I rx ry q hs
 .exact h' value Y J1 s G H x y v u Q I rx ry q hs
theorem Bw{r:R2}(Y:Pq X r)(ha:PE X a ta)(hb:PE X b tb)(hs:nW b):PE X (.Subscript a b pos) (RU r ta tb):=by intro J1 s G H Q I h;exact Subscript_ (CV ha hb I h λv u s2 x y H2 I2 rx ry q=>Y a b J1 s2 G H2 x y v u Q I2 rx ry q (hs _ _))
def Wi(K:Hk):R2:=λx y H Q=>∃p xs i v,x=.ref p/\y=.int i/\Io K H p xs/\Ks xs i=O v/\Q v H
def Wj(K:Hk):R2:=λx y H Q=>∃p xs i v,x=.ref p/\y=.int i/\II K H p xs/\Ks xs i=O v/\Q v H
def Wl:R2:=λx y H Q=>∃z i c,x=.str z/\y=.int i/\z.length<=Hz/\Ks z.cps.toList i=O c/\Q (.str ⟨#[c]⟩) H
theorem P6:Pq X (Wi X.K):=by
 intro value slice J1 s G H x y v u Q I rx ry h hs;obtain⟨p,xs,i,z,rfl,rfl,hq,he,q⟩:=h;cases rx;obtain⟨t,rfl⟩:=ry;obtain⟨J8,r,pl,hz⟩:=I.list hq;obtain⟨j,h1,h2,h3,h4,h5⟩:=nV he;obtain⟨w,ew,Mj⟩:=r.get h2;have hl:=r.length;have hn:=je;have fin:EP X J1 G Q w s:=⟨z,H,I,Mj,q⟩;by_cases h0:0<=i
 .have hj:i.toNat=j:=by rw[seqIndex_of h0 h5]at h1;exact L3 h1
  exact item_listR pl.isList h0 Θ (by rw[hj];simpa using ew) fin hs
 .have hj:(i+(J8.toArray.size:Int)).toNat=j:=by rw[seqIndex_neg Θ h4]at h1;rw[JE,<- hl];exact L3 h1
  exact zd8 (x:=w) pl.isList.typeIs slot_list_getitem.lookup
   (wpAny_getItem_list_neg (Q:=λr s'=>r=w/\EP X J1 G Q r s') pl.isList Θ (by rw[JE]<;>lia) Θ (by rw[hj];simpa using ew) ⟨rfl,fin⟩) hs
theorem Oz:Pq X (Wj X.K):=by
 intro value slice J1 s G H x y v u Q I rx ry h hs;obtain⟨p,xs,i,z,rfl,rfl,hq,he,q⟩:=h;cases rx;obtain⟨t,rfl⟩:=ry;obtain⟨J8,r,pl,hz⟩:=I.tuple hq;obtain⟨j,h1,h2,h3,h4,h5⟩:=nV he;obtain⟨w,ew,Mj⟩:=r.get h2;have hl:=r.length;have hn:=je;have fin:EP X J1 G Q w s:=⟨z,H,I,Mj,q⟩
 exact zd8 (x:=w) pl.typeIs slot_tuple_getitem.lookup
  (getItem_tuple (j:=j) (Q:=λr s'=>r=w/\EP X J1 G Q r s') pl Θ Θ (by rw[JE,<- hl];exact h1) (by simpa using ew) ⟨rfl,fin⟩) hs
theorem Dc:Pq X Wl:=by
 intro value slice J1 s G H x y v u Q I rx ry h hs;obtain⟨z,i,c,rfl,rfl,hz,he,q⟩:=h;obtain⟨t,rfl⟩:=rx;obtain⟨t',rfl⟩:=ry;obtain⟨j,h1,h2,h3,h4,h5⟩:=nV he;have hl:z.cps.toList.length=z.length:=by simp[Str.length]
 rw[hl]at h1 h4 h5;have hn:=je
 exact tail_any (typeIs_str s z t) slot_str_getitem.lookup (getItem_str (c:=c) (by have e1:decide (i < -(2^63:Int))=ξ:=decide_eq_false Θ;have e2:decide (i ≥ 2^63)=ξ:=decide_eq_false Θ;rw[e1,e2,YS]) (by rw[h1];simpa using h2) ⟨.str ⟨#[c]⟩,H,I.tok _,⟨_,rfl⟩,q⟩) hs
def rIx(K:Hk):R2:=λx y H Q=>Wi K x y H Q∨Wj K x y H Q∨Wl x y H Q
theorem Df:Pq X (rIx X.K):=P6.or (Oz.or Dc)
theorem qX(J8:Z Value)(n j:Nat)(u:Value):Os (·.setIfInBounds j u) {cls:=.type "list",data:=.seq J8.toArray n}={cls:=.type "list",data:=.seq (J8.set j u).toArray n}:=by simp[Os]
theorem nC.lst (I:nC X J1 G H s) (h:H p=O (.e xs)) :
  ∃(J8:Z Value)(n:Nat),Da xs J8/\s.heap.get? p=O {cls:=.type "list",data:=.seq J8.toArray n}/\xs.length<=Hz:=by
 obtain⟨z,J8,n,r,e⟩:=I.Hm p _ h;exact⟨J8,n,r,e,z⟩
theorem nC.R0{ys:Z ψ}{Y:Nat}{f:Obj->Obj}(I:nC X J1 G H s)(h:H p=O (.e xs))
 (ho:s.heap.get? p=O {cls:=.type "list",data:=.seq J8.toArray n}) (hf:f {cls:=.type "list",data:=.seq J8.toArray n}={cls:=.type "list",data:=.seq HF.toArray Y}) (r:Da ys HF) (hz:ys.length<=Hz) (t:Nat) :
  nC X J1 G (upd H p (.e ys)) {s with heap:=s.heap.update p f,toks:=t}:=by
 have e:(s.heap.update p f).get? p=O {cls:=.type "list",data:=.seq HF.toArray Y}:=by rw[Oq f ho (by rw[hf]<;>rfl),hf]
 refine I.write (x:=p) (e:=p) (by rw[h];trivial) (.inl rfl) (λb u hb q=>(VU _ _ (L1 hb)).trans q) ⟨_,e⟩ ?_;exact⟨hz,HF,Y,r,e⟩
def F5:ψ->ψ->ψ->Hp->(Hp->Prop)->Prop:=λo i v H Q=>∃p xs k j,o=.ref p/\i=.int k/\H p=O (.e xs)/\No xs.length k=O j/\Q (upd H p (.e (xs.set j v)))
theorem vZ:V4 X F5:=by
 intro J1 s G H o i v ov iv u Q I ro ri rv h;obtain⟨p,xs,k,j,rfl,rfl,hp,hj,q⟩:=h;cases ro;obtain⟨t,rfl⟩:=ri;obtain⟨J8,n,r,ho,hz⟩:=I.lst hp;obtain⟨h1,h2,h3,h4⟩:=sV hj;have hl:=r.length;have hn:=je
 have I':nC X J1 G (upd H p (.e (xs.set j v))) {s with heap:=s.heap.update p (Os (·.setIfInBounds j u))}:=I.R0 hp ho (qX J8 n j u) (r.set rv j) (by rw[List.length_set];exact hz) s.toks
 by_cases h0:0<=k
 .have hk:k.toNat=j:=by rw[seqIndex_of h0 h4]at h1;exact L3 h1
  exact PySem.W.ki_setAt ho h0 Θ (by rw[JE,<- hl];exact h4) (by rw[hk];exact⟨_,I',q⟩)
 .have hk:(k+(J8.toArray.size:Int)).toNat=j:=by rw[seqIndex_neg Θ h3]at h1;rw[JE,<- hl];exact L3 h1
  exact PySem.W.ki_setBack ho Θ (by rw[JE,<- hl];exact h3) Θ (by rw[hk];exact⟨_,I',q⟩)
theorem nX(lo hi:C Int)(n:Nat):(RK lo hi V n).1=((HT.HN n 0 lo:Nat):Int)/\(RK lo hi V n).2.1=((HT.HN n n hi:Nat):Int)/\(RK lo hi V n).2.2=1:=by
 refine⟨?_,?_,rfl⟩
 .cases lo with
  |none=>simp[RK,HT.HN]
  |some i=>
   simp only[RK,HT.HN,Option.getD_none,show(1:Int) > 0 by decide,if_true];by_cases h:i<0
   .simp only[h,if_true]<;>lia
   .simp only[h,if_false]<;>lia
 .cases hi with
  |none=>simp[RK,HT.HN]
  |some i=>
   simp only[RK,HT.HN,Option.getD_none,show(1:Int) > 0 by decide,if_true];by_cases h:i<0
   .simp only[h,if_true]<;>lia
   .simp only[h,if_false]<;>lia
theorem lW(J8:Z Value)(lo hi:C Int):slicePick J8.toArray lo hi V=((J8.drop (HT.HN J8.length 0 lo)).take (HT.HN J8.length J8.length hi-HT.HN J8.length 0 lo)).toArray:=by obtain⟨h1,h2,h3⟩:=nX lo hi J8.toArray.size;unfold slicePick;rw[h1,h2,h3];simp only[sliceRange_one,pick_run,JE]<;>rfl
def Wm(K:Hk):ψ->C Int->C Int->Hp->VK->Prop:=λx lo hi H Q=>∃a xs,x=.ref a/\Io K H a xs/\∀p,H p=V->Q (.ref p) (upd H p (.e (pB xs lo hi)))
theorem zE:Nn X (Wm X.K):=by intro J1 s G H x v vl vu lo hi sl Q I rx hs pl pu h;obtain⟨a,xs,rfl,hx,q⟩:=h;cases rx;obtain⟨J8,r,ht,hz⟩:=I.list hx;have Y:=r.length;refine⟨"list",_,slot_list_getitem.lookup,ht.isList.typeIs,?_⟩;refine wpAny_getItem_list_slice ht.isList hs pl pu .none Ξ ?_ (by rw[JE]<;>lia);rw[lW,<- Y];refine⟨.ref s.heap.objs.size,_,I.laid (t':=s.toks) (o:=.e (pB xs lo hi)) (λb ob q=>gP _ q) (HG _) ?_,rfl,q _ (I.Hm.fresh (HG _))⟩;exact⟨Iw (jI xs lo hi) hz,_,0,(r.drop (HT.HN xs.length 0 lo)).take (HT.HN xs.length xs.length hi-HT.HN xs.length 0 lo),Ji _ rfl⟩
noncomputable def hV:ψ->Bool
 |.G8=>D
 |.bl _=>D
 |.int _=>D
 |.str _=>D
 |_=>ξ
noncomputable def P7:ψ->ψ->Bool
 |.G8,.G8=>D
 |.bl a,.bl b=>a==b
 |.bl a,.int b=>(if a then 1 else 0)==b
 |.int a,.bl b=>a==(if b then 1 else 0)
 |.int a,.int b=>a==b
 |.str a,.str b=>a==b
 |_,_=>ξ
theorem jh(ry:BI y u)(q:BI x v)(fy:hV y=D)(Y:hV x=D):KQ A s u v (P7 y x):=by
 cases y with
 |G8=>
  cases ry;cases x with
  |G8=>cases q;exact zf4 _
  |bl b=>cases q;exact KQ.none_bool b
  |int b=>obtain⟨t,rfl⟩:=q;exact KQ.none_int b t
  |str b=>obtain⟨t,rfl⟩:=q;exact KQ.none_str b t
  |_=>exact absurd (show ξ=D from Y) Kp
 |bl a=>
  cases ry;cases x with
  |G8=>cases q;exact KQ.bool_none a
  |bl b=>cases q;exact KQ.bool_bool a b
  |int b=>obtain⟨t,rfl⟩:=q;exact KQ.bool_int a b t
  |str b=>obtain⟨t,rfl⟩:=q;exact KQ.bool_str a b t
  |_=>exact absurd (show ξ=D from Y) Kp
 |int a=>
  obtain⟨t',rfl⟩:=ry;cases x with
  |G8=>cases q;exact KQ.int_none a t'
  |bl b=>cases q;exact KQ.int_bool a t' b
  |int b=>obtain⟨t,rfl⟩:=q;exact KQ.int_int a t' b t
  |str b=>obtain⟨t,rfl⟩:=q;exact KQ.int_str a t' b t
  |_=>exact absurd (show ξ=D from Y) Kp
 |str a=>
  obtain⟨t',rfl⟩:=ry;cases x with
  |G8=>cases q;exact KQ.str_none a t'
  |bl b=>cases q;exact KQ.str_bool a t' b
  |int b=>obtain⟨t,rfl⟩:=q;exact KQ.str_int a t' b t
  |str b=>obtain⟨t,rfl⟩:=q;exact KQ.str_str a t' b t
  |_=>exact absurd (show ξ=D from Y) Kp
 |_=>exact absurd (show ξ=D from fy) Kp
def MO(x:ψ)(u:Value):Bool:=match u with
 |.none=>P7 .G8 x
 |.bool b=>P7 (.bl b) x
 |.int i _=>P7 (.int i) x
 |.str z _=>P7 (.str z) x
 |_=>ξ
theorem v0(r:BI y u)(f:hV y=D):MO x u=P7 y x:=by
 cases y with
 |G8=>cases r;rfl
 |bl b=>cases r;rfl
 |int i=>obtain⟨t,rfl⟩:=r;rfl
 |str z=>obtain⟨t,rfl⟩:=r;rfl
 |_=>exact absurd (show ξ=D from f) Kp
theorem iF:∀{xs:Z ψ}{us:Z Value},Da xs us->xs.all hV=D->us.any (MO x)=xs.any λy=>P7 y x
 |_,_,.nil,_=>rfl
 |y::xs,u::us,.cons r t,f=>by rw[PK,IH]at f;rw[PL,PL,v0 r f.1,iF t f.2]
theorem gp(Y:BI x v)(fx:hV x=D):∀{xs:Z ψ}{us:Z Value},Da xs us->xs.all hV=D->∀u∈us,KQ A s u v (MO x u)
 |_,_,.nil,_=>λu q=>by cases q
 |y::xs,u::us,.cons r t,f=>λu' q=>by
  rw[PK,IH]at f;rcases HU.mp q with rfl|q
  .rw[v0 r f.1];exact jh r Y f.1 fx
  .exact gp Y fx t f.2 u' q
def ZR(x:ψ)(xs:Z ψ):Bool:=xs.any λy=>P7 y x
def rIn(K:Hk)(neg:Bool):R2:=λx y H Q=>∃p xs,y=.ref p/\(Io K H p xs∨II K H p xs)/\hV x=D/\xs.all hV=D/\Q (.bl (if neg then !ZR x xs else ZR x xs)) H
theorem uC:HY X (JQ .In) (rIn X.K ξ):=by
 intro J1 s G H x y v u Q I rx ry h;obtain⟨p,xs,rfl,Y,fx,fs,q⟩:=h;cases ry;rcases Y with Y|Y
 .obtain⟨J8,r,pl,hz⟩:=I.list Y;refine SeqAt.in_listAt (MO x) pl.isList (λw hw=>gp rx fx r fs w (by simpa using hw)) ⟨.bl _,H,I,rfl,?_⟩;rw[show J8.toArray.any (MO x)=J8.any (MO x)by simp,iF r fs];exact q
 .obtain⟨J8,r,pl,hz⟩:=I.tuple Y;refine SeqAt.in_tupleAt (MO x) pl (λw hw=>gp rx fx r fs w (by simpa using hw)) ⟨.bl _,H,I,rfl,?_⟩;rw[show J8.toArray.any (MO x)=J8.any (MO x)by simp,iF r fs];exact q
theorem nY:HY X (JQ .NotIn) (rIn X.K D):=by
 intro J1 s G H x y v u Q I rx ry h;obtain⟨p,xs,rfl,Y,fx,fs,q⟩:=h;cases ry;rcases Y with Y|Y
 .obtain⟨J8,r,pl,hz⟩:=I.list Y;refine SeqAt.notIn_listAt (MO x) pl.isList (λw hw=>gp rx fx r fs w (by simpa using hw)) ⟨.bl _,H,I,rfl,?_⟩;rw[show J8.toArray.any (MO x)=J8.any (MO x)by simp,iF r fs];exact q
 .obtain⟨J8,r,pl,hz⟩:=I.tuple Y;refine SeqAt.notIn_tupleAt (MO x) pl (λw hw=>gp rx fx r fs w (by simpa using hw)) ⟨.bl _,H,I,rfl,?_⟩;rw[show J8.toArray.any (MO x)=J8.any (MO x)by simp,iF r fs];exact q
theorem nZ:HY X (JQ .NotIn) (λx y H Q=>∃i j,x=.str i/\y=.str j/\Q (.bl (!(!(RO j i 0 j.length 1).isEmpty))) H):=by intro J1 s G H x y v u Q I Y ry h;obtain⟨i,j,rfl,rfl,q⟩:=h;obtain⟨t,rfl⟩:=Y;obtain⟨t',rfl⟩:=ry;exact notIn_str ⟨.bl _,H,I,rfl,q⟩
theorem Hw.or{f:Value}{r r':Z ψ->Hp->VK->Prop}(h:Hw X f r)(h':Hw X f r'):Hw X f (λxs H Q=>r xs H Q∨r' xs H Q):=by
 intro J1 s G H xs us Q I Y q;rcases q with q|q
 .exact h J1 s G H xs us Q I Y q
 .exact h' J1 s G H xs us Q I Y q
theorem iG:Hw X (.type "list") (λxs H Q=>∃p ys,xs=[.ref p]/\(Io X.K H p ys∨II X.K H p ys)/\∀l,H l=V->Q (.ref l) (upd H l (.e ys))):=by
 intro J1 s G H xs us Q I r h;obtain⟨p,ys,rfl,hq,q⟩:=h;obtain⟨u,rfl,rx⟩:=d4 r;cases rx
 have fin:∀ (J8:Z Value),Da ys J8->ys.length<=Hz->∀ (h':Heap) (c':Nat),(∀ b o',s.heap.get? b=O o'->h'.get? b=O o')→
     h'.get? s.heap.objs.size=O {cls:=.type "list",dict:=V,data:=.seq J8.toArray c',slots:=#[]}->EP X J1 G Q (.ref s.heap.objs.size) {s with heap:=h'}:=λJ8 r' hz h' c' kp e=>
  ⟨.ref s.heap.objs.size,_,I.laid (t':=s.toks) kp (HG _) (show Hn X.prog X.w _ h' _ (.e ys)from⟨hz,J8,c',r',e⟩),rfl,q _ (I.Hm.fresh (HG _))⟩
 rcases hq with hq|hq
 .obtain⟨J8,r',pl,hz⟩:=I.list hq;have Y:=r'.length;obtain⟨o,ho,hc,n,hd⟩:=pl.isList;exact call_list_seq p (.inl rfl) ho hc hd (λh' c' kp e=>fin J8 r' hz h' c' kp e) (by simp only[JE]<;>lia)
 .obtain⟨J8,r',pl,hz⟩:=I.tuple hq;have Y:=r'.length;obtain⟨o,ho,hc,n,hd⟩:=pl;exact call_list_seq p (.inr rfl) ho hc hd (λh' c' kp e=>fin J8 r' hz h' c' kp e) (by simp only[JE]<;>lia)
theorem fj:Hw X (.type "tuple") (λxs H Q=>∃p ys,xs=[.ref p]/\((Io X.K H p ys/\∀l,H l=V->Q (.ref l) (upd H l (.t ys)))∨(II X.K H p ys/\Q (.ref p) H))):=by
 intro J1 s G H xs us Q I r h;obtain⟨p,ys,rfl,h⟩:=h;obtain⟨u,rfl,rx⟩:=d4 r;cases rx;rcases h with ⟨hq,q⟩|⟨hq,q⟩
 .obtain⟨J8,r',Y,hz⟩:=I.list hq;have hlen:=r'.length;refine call_tuple_list Y.isList (λh' kp=>?_) (by simp only[JE]<;>lia);have I1:nC X J1 G H {s with heap:=h'}:=I.kept (t':=s.toks) kp
  have I2:nC X J1 G (upd H h'.objs.size (.t ys)) {s with heap:=h'.push {cls:=.type "tuple",data:=.seq J8.toArray}}:=I1.laid (t':=s.toks) (λb o e=>gP _ e) (HG _) (show Hn X.prog X.w _ _ _ (.t ys)from⟨hz,J8,r',IsTup.new _ _⟩)
  exact⟨.ref h'.objs.size,_,I2,rfl,q _ (I1.Hm.fresh (HG _))⟩
 .obtain⟨J8,r',Y,hz⟩:=I.tuple hq;exact call_tuple_same Y ⟨.ref p,H,I,rfl,q⟩
def tyV(K:Hk)(T:String)(x:ψ)(H:Hp):Prop:=match x with
 |.str _=>T="str"
 |.int _=>T="int"
 |.ref p=>(T="list"/\∃xs,Io K H p xs)∨(T="tuple"/\∃o,K.lookup p=O o/\o.cls=.type "tuple"/\o.dict=V)∨(T="dict"/\((∃J6,H p=O (.dK J6))∨∃J6,H p=O (.dT J6)))∨(T="set"/\∃S n,H p=O (.set S n))
 |_=>False
theorem v5 {T:String} (I:nC X J1 G H s) (r:BI x v) (ty:tyV X.K T x H) :
  s.TypeIs v T/\∀a,v=.ref a->∃ob,s.heap.get? a=O ob/\ob.dict=V:=by
 cases x with
 |str z=>obtain⟨t,rfl⟩:=r;cases (show T="str" from ty);exact⟨typeIs_str s z t,λ_ e=>nomatch e⟩
 |int i=>obtain⟨t,rfl⟩:=r;cases (show T="int" from ty);exact⟨typeIs_int s i t,λ_ e=>nomatch e⟩
 |ref p=>
  cases r;rcases ty with ⟨rfl,xs,hq⟩|⟨rfl,o,hk,hc,Y⟩|⟨rfl,hk⟩|⟨rfl,S,n,hk⟩
  .obtain⟨J8,_,pl,_⟩:=I.list hq;refine⟨pl.isList.typeIs,λa e=>?_⟩;cases e;obtain⟨o,n,e,c,Y,_⟩:=pl;exact⟨o,e,Y⟩
  .refine⟨⟨o,I.Kz p o hk,hc⟩,λa e=>?_⟩;cases e;exact⟨o,I.Kz _ o hk,Y⟩
  .have z:∃o,s.heap.get? p=O o/\o.ExactDict:=by
    rcases hk with ⟨J6,hk⟩|⟨J6,hk⟩
    .obtain⟨_,_,_,_,o,_,_,e,ex,_⟩:=I.Hm p _ hk;exact⟨o,e,ex⟩
    .obtain⟨_,_,_,_,o,_,_,e,ex,_⟩:=I.Hm p _ hk;exact⟨o,e,ex⟩
   obtain⟨o,e,ex⟩:=z;refine⟨⟨o,e,ex.1⟩,λa q=>?_⟩;cases q;exact⟨o,e,ex.2.1⟩
  .obtain⟨o,_,_,_,e,ex,_⟩:=I.Hm p _ hk;refine⟨⟨o,e,ex.1⟩,λa q=>?_⟩;cases q;exact⟨o,e,ex.2.1⟩
 |_=>exact KP ty
def tBM0(K:Hk)(T:String)(r:ψ->Z ψ->Hp->VK->Prop)(to:TE):TE:=λG H Q=>to G H λx H1=>tyV K T x H1/\r x [] H1 Q
def tBM(K:Hk)(T:String)(r:ψ->Z ψ->Hp->VK->Prop)(to:TE)(t:TA):TE:=λG H Q=>to G H λx H1=>tyV K T x H1/\t G H1 λxs H2=>r x xs H2 Q
variable{o e:Jc}{es:Z Jc}{to:TE}{t:TA}{name:Str}{apos Hb:Pos}{T id:String}{r:ψ->Z ψ->Hp->VK->Prop}
theorem v6 (pa:PlainAttrs T) (slot:Slot T name id) (Wn:typeOf (.builtin id)=pure (.type "method_descriptor")) (hm:Q4 X id r) (ho:PE X o to)
  (q:On o name X.env (eval o X.env)=eval o X.env:=by rfl) (Y:(apos.endLine==Hb.line)=D:=by rfl):PE X (.Call (.Attribute o name apos) [] [] Hb) (tBM0 X.K T r to):=by
 intro J1 s G H Q I h;refine wpAny_Call_method0_late q Y (Hx (ho J1 s G H _ I h) λv s1 ⟨x,H1,I1,r1,ty,q1⟩=>?_);obtain⟨h1,h2⟩:=v5 I1 r1 ty;exact⟨T,id,pa,slot,Wn,h1,h2,zd9 rfl (PySem.evalArgs_none (hm J1 s1 G H1 x [] v [] Q I1 r1 .nil q1))⟩
theorem pC (pa:PlainAttrs T) (slot:Slot T name id) (Wn:typeOf (.builtin id)=pure (.type "method_descriptor")) (hm:Q4 X id r) (ho:PE X o to) (ha:PA X (e::es) t)
  (Y:On o name X.env (eval o X.env)=eval o X.env:=by rfl)
  (JH:((IK Hb (G7 (e::es) X.env)).all (λx=>!x.1)&&(QL Hb (QK [] X.env)).all (λx=>x.1.isSome)
   && decide ((e::es).length+([]:Z Mc).length+(if([]:Z Mc).isEmpty then 0 else 1)<30))=D:=by rfl)
  (Ip:(apos.endLine==Hb.line)=D:=by rfl) (hs:G7 (e::es) X.env=(ξ,eval e X.env)::G7 es X.env:=by rfl) (q:(IK Hb (G7 es X.env)).any (·.1)=ξ:=by rfl) :
  PE X (.Call (.Attribute o name apos) (e::es) [] Hb) (tBM X.K T r to t):=by
 intro J1 s G H Q I h;refine wpAny_Call_method_late Y JH Ip rfl (Hx (ho J1 s G H _ I h) λv s1 ⟨x,H1,I1,r1,ty,q1⟩=>?_);obtain⟨h1,h2⟩:=v5 I1 r1 ty;refine⟨T,id,pa,slot,Wn,h1,h2,?_⟩;have hA:=ha Hb J1 s1 G H1 _ I1 q1;rw[hs]at hA ⊢;refine zd9 (by show(ξ||(IK Hb (G7 es X.env)).any (·.1))=ξ;rw[q]<;>rfl) (Calls.evalArgs_plain ?_);exact Hx hA λus s2 ⟨vs,H2,I2,r2,q2⟩=>hm J1 s2 G H2 x vs v us Q I2 r1 r2 q2
/- xs.append(e),list.index on a OA tuple .. are Q4 facts of 06m -/
end
def MtM(X:Cx)(id:String)(r:ψ->Z ψ->Hp->VK->Prop):Prop:=
 ∀(J1:Z (J9×Obj))(s:t2)(G:St)(H:Hp)(x:ψ)(xs:Z ψ)(v:Value)(us:Z Value)(Q:VK),nC X J1 G H s->BI x v->Da xs us->r x xs H Q→
  wpAny (model X.prog X.w) X.A (call (.builtin id) (v::us)) (EP X J1 G Q) X.xe s
theorem Da.one:∀{x:ψ}{us:Z Value},Da [x] us->∃u,us=[u]/\BI x u
 |_,_,.cons r .nil=>⟨_,rfl,r⟩
theorem Da.zero:∀{us:Z Value},Da [] us->us=[]
 |_,.nil=>rfl
theorem Da.dropLast(h:Da xs us):Da xs.dropLast us.dropLast:=by
 induction h with
 |nil=>exact .nil
 |cons r t Y=>
  cases t with
  |nil=>exact .nil
  |cons q t'=>exact .cons r Y
theorem qY{α:Type}(l:Z α):l.eraseIdx (l.length-1)=l.dropLast:=by
 induction l with
 |nil=>rfl
 |cons a r q=>
  cases r with
  |nil=>rfl
  |cons b r=>
   have e:(a::b::r).length-1=((b::r).length-1)+1:=by have h1:(a::b::r).length=r.length+2:=rfl;have h2:(b::r).length=r.length+1:=rfl;lia
   rw[e,List.eraseIdx_cons_succ,q]
   all_goals rfl
variable{t':Nat}
section
variable{X:Cx}{J1:Z (J9×Obj)}{G:St}{H:Hp}{s:t2}{l b:J9}{xs ys zs:Z ψ}
theorem nC.R1{f:Array Value->Array Value}(I:nC X J1 G H s)(hH:H l=O (.e xs))
 (e:s.heap.get? l=O {cls:=.type "list",data:=.seq J8.toArray n}) (hf:f J8.toArray=HF.toArray) (hv:Da ys HF) (Y:ys.length<=Hz) :
  nC X J1 G (upd H l (.e ys)) {s with heap:=s.heap.update l (Os f),toks:=t'}:=by
 have q:=PySem.IsL.update e f;rw[hf]at q;refine I.write (x:=l) (e:=l) (by rw[hH];exact trivial) (.inl rfl) (λb' u hb hu=>(VU s.heap (Os f) (L1 hb)).trans hu) ⟨_,q⟩ ?_;exact⟨Y,HF,_,hv,q⟩
theorem nC.Wo (I:nC X J1 G H s) (hv:Da ys J8) (Y:ys.length<=Hz) :
  nC X J1 G (upd H s.heap.objs.size (.e ys)) {s with heap:=s.heap.push {cls:=.type "list",data:=.seq J8.toArray},toks:=t'}:=
 I.laid (λ_ _ q=>gP _ q) (HG _) ⟨Y,J8,0,hv,Ji _ rfl⟩
theorem nC.fresh(I:nC X J1 G H s):H s.heap.objs.size=V:=I.Hm.fresh (HG _)
theorem nC.P8(I:nC X J1 G H s)(q:H l=O (.e xs)):xs.length<=Hz/\∃(J8:Z Value)(n:Nat),Da xs J8/\xs.length=J8.length/\s.heap.get? l=O {cls:=.type "list",data:=.seq J8.toArray n}:=by obtain⟨z,J8,n,r,e⟩:=I.Hm l _ q;exact⟨z,J8,n,r,r.length,e⟩
theorem v7(h:n<=Hz):qs9 n=ξ:=by unfold qs9;exact decide_eq_false Θ
end
section
variable{X:Cx}
def zF:ψ->Z ψ->Hp->VK->Prop:=λx vs H Q=>∃l xs y,x=.ref l/\vs=[y]/\H l=O (.e xs)/\xs.length<Hz/\Q .G8 (upd H l (.e (xs++[y])))
theorem ji:MtM X "list.append" zF:=by intro J1 s G H x vs v us Q I rx rv h;obtain⟨l,xs,y,rfl,rfl,Y,hz,q⟩:=h;cases rx;obtain⟨u,rfl,ru⟩:=rv.one;obtain⟨z,J8,n,r,hl,e⟩:=I.P8 Y;refine Zq F.slot_list_append ⟨_,e,rfl⟩ F.entry_list_append (F.args_list_append_2 _ _) (PySem.list_append l J8.toArray n u (by rw[JE];lia)) ⟨e,?_⟩;refine⟨.G8,_,I.R1 (HF:=J8++[u]) Y e Ξ (r.append (.cons ru .nil)) ?_,rfl,q⟩;rw[HZ,Lc];lia
def zG:ψ->Z ψ->Hp->VK->Prop:=λx vs H Q=>∃l b xs zs,x=.ref l/\vs=[.ref b]/\H l=O (.e xs)/\H b=O (.e zs)/\xs.length+zs.length<=Hz/\Q .G8 (upd H l (.e (xs++zs)))
theorem uD:MtM X "list.extend" zG:=by
 intro J1 s G H x vs v us Q I rx rv h;obtain⟨l,b,xs,zs,rfl,rfl,hH,hB,hz,q⟩:=h;cases rx;obtain⟨u,rfl,ru⟩:=rv.one;cases ru;obtain⟨z,J8,n,r,hl,e⟩:=I.P8 hH;obtain⟨z2,Y,n2,r2,P9,e2⟩:=I.P8 hB;have hsz:J8.toArray.size+Y.toArray.size<=Hz:=by rw[JE,JE];lia
 have Wp:¬ (!J8.toArray.isEmpty&&qs9 (J8.toArray.size+Y.toArray.size))=D:=by rw[v7 hsz,Vq];exact Kp
 refine Zq F.slot_list_extend ⟨_,e,rfl⟩ F.entry_list_extend (F.args_list_extend_2 _ _)
  (AutoSeq1.list_extend_list_list_0 l J8.toArray n b Y.toArray n2 Wp (by rw[JE];lia) Θ) ⟨e,e2,?_⟩
 refine⟨.G8,_,I.R1 (HF:=J8++Y) hH e Ξ (r.append r2) ?_,rfl,q⟩;rw[HZ];lia
def rPop:ψ->Z ψ->Hp->VK->Prop:=λx vs H Q=>∃l xs y,x=.ref l/\vs=[]/\H l=O (.e xs)/\xs[xs.length-1]?=O y/\Q y (upd H l (.e xs.dropLast))
theorem v8:MtM X "list.pop" rPop:=by
 intro J1 s G H x vs v us Q I rx rv h;obtain⟨l,xs,y,rfl,rfl,hH,hy,q⟩:=h;cases rx;have hus:=rv.zero;subst hus;obtain⟨z,J8,n,r,hl,e⟩:=I.P8 hH;obtain⟨u,hu,ru⟩:=r.get hy
 have Y:J8.toArray[J8.toArray.size-1]?=O u:=by show J8.toArray[J8.length-1]?=O u;rw[<- Vp,<- hl];exact hu
 refine Zq F.slot_list_pop ⟨_,e,rfl⟩ F.entry_list_pop (F.args_list_pop_1 _) (MeetsSeq.list_pop_last l J8.toArray n u Y (by rw[JE];lia)) ⟨e,?_⟩;refine⟨y,_,I.R1 (HF:=J8.dropLast) hH e ?_ r.dropLast ?_,ru,q⟩
 .show J8.toArray.eraseIdxIfInBounds (J8.toArray.size-1)=J8.dropLast.toArray;rw[JE,List.eraseIdxIfInBounds_toArray,qY]
 .rw[List.length_dropLast];lia
end
section
variable{prog:HL}{w:Ja}{A:HM}{E:Value->t2->Prop}{s:t2}
end
section
variable{X:Cx}
end
variable{o:C ψ}
section
variable{κ:Type}[DecidableEq κ]
noncomputable def fM(J6:Z (κ×ψ))(k:κ):C ψ:=(J6.find? λkv=>decide (kv.1=k)).map (·.2)
noncomputable def dO(J6:Z (κ×ψ))(k:κ)(v:ψ):Z (κ×ψ):=if(J6.any λkv=>decide (kv.1=k))=D then J6.map (λkv=>if kv.1=k then(kv.1,v)else kv)else J6++[(k,v)]
theorem iH{p:κ×ψ}{r:Z (κ×ψ)}{k:κ}(e:p.1=k):fM (p::r) k=O p.2:=by simp[fM,Ud,e]
theorem gq{p:κ×ψ}{r:Z (κ×ψ)}{k:κ}(e:¬ p.1=k):fM (p::r) k=fM r k:=by simp[fM,Ud,e]
theorem pD(k:κ):∀J6:Z (κ×ψ),(J6.any λkv=>decide (kv.1=k))=(fM J6 k).isSome
 |[]=>rfl
 |p::r=>by
  rw[PL];by_cases e:p.1=k
  .simp only[iH e,decide_eq_true e,Bool.true_or,Option.isSome_some]
  .rw[gq e,decide_eq_false e,Bool.false_or];exact pD k r
theorem gr(J6:Z (κ×ψ))(k:κ)(v:ψ):(dO J6 k v).length<=J6.length+1:=by
 unfold dO;split
 .rw[Hl];lia
 .rw[HZ,L9,zf5];lia
theorem JU.IE{u:C Value}(r:JU o u):o.isSome=u.isSome:=by
 cases o with
 |none=>cases u with
  |none=>rfl
  |some _=>exact(show False from r).elim
 |some _=>cases u with
  |none=>exact(show False from r).elim
  |some _=>rfl
theorem JU.getD{u:C Value}{d:ψ}{d':Value}(r:JU o u)(rd:BI d d'):BI (o.getD d) (u.getD d'):=by
 cases o with
 |none=>cases u with
  |none=>exact rd
  |some _=>exact(show False from r).elim
 |some _=>cases u with
  |none=>exact(show False from r).elim
  |some _=>exact r
theorem KV.val{J6:Z (κ×ψ)}{vs:Z (κ×Value)}(r:KV J6 vs)(k:κ):JU (fM J6 k) (QO vs k):=by
 unfold KV at r;induction r with
 |nil=>exact Ou
 |@cons p q ps qs h t ih=>
  obtain⟨h1,h2⟩:=h;by_cases e:p.1=k
  .have Y:q.1=k:=h1.symm.trans e;have b:QO (q::qs) k=O q.2:=by simp[QO,Ud,Y]
   rw[iH e,b];exact h2
  .have Y:¬ q.1=k:=λz=>e (h1.trans z)
   have b:QO (q::qs) k=QO qs k:=by simp[QO,Ud,Y]
   rw[gq e,b];exact ih
theorem KV.any{J6:Z (κ×ψ)}{vs:Z (κ×Value)}(r:KV J6 vs)(k:κ):(J6.any λkv=>decide (kv.1=k))=vs.any λkv=>decide (kv.1=k):=by
 unfold KV at r;induction r with
 |nil=>rfl
 |cons h t q=>rw[PL,PL,q,h.1]
theorem KV.R4 {J6:Z (κ×ψ)} {vs:Z (κ×Value)} (r:KV J6 vs) (k:κ) (Y:BI y u) :
  KV (J6.map λkv=>if kv.1=k then(kv.1,y)else kv) (vs.map λkv=>if kv.1=k then(kv.1,u)else kv):=by
 unfold KV at r ⊢;induction r with
 |nil=>exact .nil
 |@cons p q ps qs h t ih=>
  rw[Ia,Ia];refine .cons ?_ ih;obtain⟨h1,h2⟩:=h;by_cases e:p.1=k
  .rw[if_pos e,if_pos (h1.symm.trans e)];exact⟨h1,Y⟩
  .rw[if_neg e,if_neg (λz=>e (h1.trans z))];exact⟨h1,h2⟩
theorem KV.put{J6:Z (κ×ψ)}{vs:Z (κ×Value)}(r:KV J6 vs)(k:κ)(q:BI y u):KV (dO J6 k y) (stored vs k u):=by
 unfold dO stored;rw[r.any k];by_cases e:(vs.any λkv=>decide (kv.1=k))=D
 .rw[if_pos e,if_pos e];exact r.R4 k q
 .rw[if_neg e,if_neg e];exact Paired.snoc r ⟨rfl,q⟩
theorem KV.length{J6:Z (κ×ψ)}{vs:Z (κ×Value)}(r:KV J6 vs):J6.length=vs.length:=Paired.length r
end
variable{P:HL}{w:Ja}
theorem jJ{k:Hr}(r:BI (kV k) u):(bt P w).is k u=D:=by
 cases k with
 |inl i=>obtain⟨t,e⟩:=(show ∃t,u=ZD i t from r);subst e;exact pr P w i t
 |inr x=>obtain⟨t,e⟩:=(show ∃t,u=ZE x t from r);subst e;exact gj P w x t
theorem mi:∀{ks:Z Hr}{us:Z Value},Da (ks.map kV) us->ItemsAre (bt P w) ks us
 |[],_,r=>by rw[QG]at r;cases r;exact .nil
 |k::ks,_,r=>by
  rw[Ia]at r;cases r with
  |cons h t=>exact .cons (jJ h) (mi t)
abbrev KT(H:Hp):Z (Z Hr×ψ)->Z (Z Hr×J9×Value)->Prop:=Paired λp q=>p.1=q.1/\H q.2.1=O (.t (p.1.map kV))/\BI p.2 q.2.2
variable{J6:Z (Z Hr×ψ)}
theorem KT.val{xs:Z (Z Hr×J9×Value)}(r:KT H J6 xs)(k:Z Hr):JU (fM J6 k) ((atKey xs k).map (·.2)):=by
 induction r with
 |nil=>exact Ou
 |@cons p q ps qs h t ih=>
  obtain⟨h1,_,h2⟩:=h;by_cases e:p.1=k
  .have Y:q.1=k:=h1.symm.trans e;have b:atKey (q::qs) k=O q.2:=by simp[atKey,Ud,Y]
   rw[iH e,b];exact h2
  .have Y:¬ q.1=k:=λz=>e (h1.trans z)
   have b:atKey (q::qs) k=atKey qs k:=by simp[atKey,Ud,Y]
   rw[gq e,b];exact ih
theorem KT.R4 {xs:Z (Z Hr×J9×Value)} (r:KT H J6 xs) (k:Z Hr) (Y:BI y u) :
  KT H (J6.map λkv=>if kv.1=k then(kv.1,y)else kv) (xs.map (putAt k u)):=by
 induction r with
 |nil=>exact .nil
 |@cons p q ps qs h t ih=>
  rw[Ia,Ia];refine .cons ?_ ih;obtain⟨h1,h2,h3⟩:=h;unfold putAt;by_cases e:p.1=k
  .rw[if_pos e,if_pos (h1.symm.trans e)];exact⟨h1,h2,Y⟩
  .rw[if_neg e,if_neg (λz=>e (h1.trans z))];exact⟨h1,h2,h3⟩
variable{b:J9}
theorem KT.put {xs:Z (Z Hr×J9×Value)} (r:KT H J6 xs) (k:Z Hr) (hb:H b=O (.t (k.map kV))) (Y:BI y u) :
  KT H (dO J6 k y) (storedH xs k b u):=by
 have e:(J6.any λkv=>decide (kv.1=k))=(atKey xs k).isSome:=by rw[pD,(r.val k).IE,Ui]
 unfold dO storedH;rw[e];by_cases q:(atKey xs k).isSome=D
 .rw[if_pos q,if_pos q];exact r.R4 k Y
 .rw[if_neg q,if_neg q];exact Paired.snoc r ⟨rfl,hb,Y⟩
variable{H':Hp}
theorem KT.keeps{xs:Z (Z Hr×J9×Value)}(r:KT H J6 xs)(q:∀b ys,H b=O (.t ys)->H' b=O (.t ys)):KT H' J6 xs:=Paired.RS r λ_ _ z=>⟨z.1,q _ _ z.2.1,z.2.2⟩
section
variable{P:HL}{w:Ja}{H:Hp}{h:Heap}{a:J9}
theorem Bx{u:HO}(ok:Jj P w H h)(e:Rd H a u):Hn P w H h a u:=e.ok ok
theorem mj{J6:Z (Hr×ψ)}(ok:Jj P w H h)(e:Rd H a (.dK J6)):J6.length<=Hz/\(a==L4)=ξ/\∃vs,KV J6 vs/\h.DictOf (bt P w) a vs:=show Hn P w H h a (.dK J6)from Bx ok e
theorem By{J6:Z (Hr×ψ)}(ok:Jj P w H h)(e:H a=O (.dK J6)):J6.length<=Hz/\(a==L4)=ξ/\∃vs,KV J6 vs/\h.DictOf (bt P w) a vs:=mj ok (.inl e)
theorem kE{ks:Z Hr}(ok:Jj P w H h)(e:H a=O (.t (ks.map kV))):(VP (bt P w)).is h ks a:=by obtain⟨_,J8,r,o,h1,h2,n,h3⟩:=(show Hn P w H h a (.t (ks.map kV))from ok a _ e);exact⟨o,J8.toArray,n,h1,h2,h3,by simpa using mi r⟩
theorem pE (ok:Jj P w H h) (e:Rd H a (.dT J6)):J6.length<=Hz/\(a==L4)=ξ∧
  ∃xs,KT H J6 xs/\h.DictOfH (VP (bt P w)) a xs:=by
 obtain⟨z,y,xs,r,o,es,ep,h1,h2,h3,h4,h5⟩:=(show Hn P w H h a (.dT J6)from Bx ok e);refine⟨z,y,xs,r,o,es,ep,h1,h2,h3,h4,λx Y=>?_,h5⟩
 have all:∀{l:Z (Z Hr×ψ)}{m:Z (Z Hr×J9×Value)},KT H l m->∀x∈m,(VP (bt P w)).is h x.1 x.2.1:=by
  intro l m q;induction q with
  |nil=>intro x Y;exact nomatch Y
  |@cons p q ps qs hq t ih=>
   intro x Y;rcases HU.mp Y with e|Y
   .subst e;exact kE ok (by rw[<- hq.1];exact hq.2.1)
   .exact ih x Y
 exact all r x Y
theorem F6(ok:Jj P w H h)(e:H a=O (.dT J6)):J6.length<=Hz/\(a==L4)=ξ∧∃xs,KT H J6 xs/\h.DictOfH (VP (bt P w)) a xs:=pE ok (.inl e)
end
def LM(H:Hp)(a:J9)(y:ψ)(r:C ψ):Prop:=(∃J6 k,Rd H a (.dK J6)/\y=kV k/\r=fM J6 k)∨∃J6 k b,Rd H a (.dT J6)/\y=.ref b/\H b=O (.t (k.map kV))/\r=fM J6 k
def Qa(H:Hp)(a:J9)(y v:ψ)(H':Hp):Prop:=
 (∃J6 k,H a=O (.dK J6)/\y=kV k/\J6.length<Hz/\H'=upd H a (.dK (dO J6 k v)))∨
 ∃J6 k b,H a=O (.dT J6)/\y=.ref b/\H b=O (.t (k.map kV))/\J6.length<Hz/\H'=upd H a (.dT (dO J6 k v))
variable{a:J9}{k:Z Hr}
theorem LM.t(e:H a=O (.dT J6))(q:H b=O (.t (k.map kV))):LM H a (.ref b) (fM J6 k):=.inr ⟨J6,k,b,.inl e,rfl,q,rfl⟩
theorem Qa.t {v:ψ} (e:H a=O (.dT J6)) (Y:H b=O (.t (k.map kV))) (q:J6.length<Hz) :
  Qa H a (.ref b) v (upd H a (.dT (dO J6 k v))):=.inr ⟨J6,k,b,e,rfl,Y,q,rfl⟩
variable{Q:Value->t2->Prop}{h':Heap}
section
variable{X:Cx}{J1:Z (J9×Obj)}{G:St}{H:Hp}{s:t2}{a:J9}{y v:ψ}{u r:Value}{o:C ψ}{A:HM}{E:Value->t2->Prop}
theorem nC.big(I:nC X J1 G H s):L4<s.heap.objs.size:=by have h:ID<s.heap.objs.size:=(I.mod.glob.keeps I.bk).lt;exact VB Ω h
theorem uE (hu:A.units+1<cLine) (I:nC X J1 G H s) (g:LM H a y (O v)) (ry:BI y u) (h:∀ w' s',nC X J1 G H s'->BI v w'->Q w' s') :
  wpAny (model X.prog X.w) A (Pg (.ref a) u) Q E s:=by
 rcases g with ⟨J6,k,e,ey,l⟩|⟨J6,k,b,e,ey,eb,l⟩
 .subst ey;obtain⟨z,hd,vs,q,dd⟩:=mj I.Hm e;obtain⟨w',hw,Y⟩:=JU.some_of (v:=v) (o:=QO vs k) (by rw[l];exact q.val k);exact wpAny_getItem_of (jJ ry) dd.mapOf hw (h w' _ (I.tok _) Y)
 .subst ey;cases (show u=JS b from ry);obtain⟨z,hd,xs,q,dd⟩:=pE I.Hm e;obtain⟨w',hw,Y⟩:=JU.some_of (v:=v) (o:=(atKey xs k).map (·.2)) (by rw[l];exact q.val k);obtain⟨p,hp,hp2⟩:=mS hw;refine wpAny_getItem_heap (Zb hu) (kE I.Hm eb) dd hp ?_;rw[hp2];exact h w' _ (I.tok _) Y
theorem d_in (hu:A.units+1<cLine) (I:nC X J1 G H s) (g:LM H a y o) (ry:BI y u) (h:∀ s',nC X J1 G H s'->Q (.bool o.isSome) s') :
  wpAny (model X.prog X.w) A (JQ .In u (.ref a)) Q E s:=by
 rcases g with ⟨J6,k,e,ey,l⟩|⟨J6,k,b,e,ey,eb,l⟩
 .subst ey;obtain⟨z,hd,vs,Y,dd⟩:=mj I.Hm e;refine wpAny_in_of (jJ ry) hd dd.mapOf ?_;rw[<- (Y.val k).IE,<- l];exact h _ (I.tok _)
 .subst ey;cases (show u=JS b from ry);obtain⟨z,hd,xs,Y,dd⟩:=pE I.Hm e;refine wpAny_in_heap (Zb hu) (kE I.Hm eb) hd dd ?_;have q:=(Y.val k).IE;rw[Ui]at q;rw[<- q,<- l];exact h _ (I.tok _)
theorem zH (hu:A.units+1<cLine) (I:nC X J1 G H s) (g:LM H a y o) (ry:BI y u) (h:∀ s',nC X J1 G H s'->Q (.bool (!o.isSome)) s') :
  wpAny (model X.prog X.w) A (JQ .NotIn u (.ref a)) Q E s:=by
 rcases g with ⟨J6,k,e,ey,l⟩|⟨J6,k,b,e,ey,eb,l⟩
 .subst ey;obtain⟨z,hd,vs,Y,dd⟩:=mj I.Hm e;refine wpAny_notIn_of (jJ ry) hd dd.mapOf ?_;rw[<- (Y.val k).IE,<- l];exact h _ (I.tok _)
 .subst ey;cases (show u=JS b from ry);obtain⟨z,hd,xs,Y,dd⟩:=pE I.Hm e;refine wpAny_notIn_heap (Zb hu) (kE I.Hm eb) hd dd ?_;have q:=(Y.val k).IE;rw[Ui]at q;rw[<- q,<- l];exact h _ (I.tok _)
theorem n4 {ob:HO} (I:nC X J1 G H s) (mu:VX (H a)) (Y:Pj a s.heap h') (he:∃ q,h'.get? a=O q) (new:Hn X.prog X.w (upd H a ob) h' a ob) :
  nC X J1 G (upd H a ob) {s with heap:=h',toks:=t'}:=
 I.write (x:=a) (e:=a) mu (.inl rfl) (λb q hb z=>(Y.2 b hb).trans z) he new
theorem v9 {J6:Z (Hr×ψ)} {vs:Z (Hr×Value)} (z:J6.length<=Hz) (Y:(a==L4)=ξ) (q:KV J6 vs) (dd:h'.DictOf (bt P w) a vs) :
  Hn P w H' h' a (.dK J6):=⟨z,Y,vs,q,dd⟩
theorem uF {Q:Unit->t2->Prop} (hu:A.units+1<cLine) (I:nC X J1 G H s) (g:Qa H a y v H') (ry:BI y u) (rv:BI v r) (h:∀ s',nC X J1 G H' s'->Q () s') :
  wpAny (model X.prog X.w) A (setItem (.ref a) u r) Q E s:=by
 rcases g with ⟨J6,k,e,ey,l,eH⟩|⟨J6,k,b,e,ey,eb,l,eH⟩
 .subst ey eH;obtain⟨z,hd,vs,Y,dd⟩:=By I.Hm e;have hz:vs.length<=Hz:=by rw[<- Y.length];exact z
  have hl:(dO J6 k v).length<=Hz:=by have:=gr J6 k v;lia
  refine wpAny_setItem_pairs (hsz:=hz) (jJ ry) dd λh' R5 hs=>h _ ?_
  have he:∃q,h'.get? a=O q:=let ⟨q,_,_,hq,_⟩:=R5;⟨q,hq⟩;exact n4 I (by rw[e];exact Ou) hs he (v9 hl hd (Y.put k rv) R5)
 .subst ey eH;cases (show u=JS b from ry);obtain⟨z,hd,xs,Y,dd⟩:=F6 I.Hm e;have hz:xs.length<=Hz:=by rw[<- Paired.length Y];exact z
  have hl:(dO J6 k v).length<=Hz:=by have:=gr J6 k v;lia
  refine wpAny_setItem_heap (hsz:=hz) (Zb hu) (kE I.Hm eb) dd λh' R5 hs=>h _ ?_
  obtain⟨q,es,ep,hq,h2,h3,h4,_,h5⟩:=R5;refine n4 I (by rw[e];exact Ou) hs ⟨q,hq⟩ ⟨hl,hd,_,(Y.put k eb rv).keeps λc ys ec=>?_,q,es,ep,hq,h2,h3,h4,h5⟩;rw[ax (FG ec e (λz=>nomatch z))];exact ec
end
section
variable{X:Cx}{J1:Z (J9×Obj)}{G:St}{H:Hp}{s:t2}{a:J9}{J6:Z (Hr×ψ)}{k:Hr}{u:Value}{A:HM}{E:Value->t2->Prop}
end
def uG(i:Jc):Prop:=∀Y q,Zn i ξ Y q=operate [Y,q] (Pg Y q)
variable{pos:Pos}
theorem sW{prog:HL}{E:Value->t2->Prop}{env:Env}{value q:Jc}{T id:String} 
 (hl:VM (.type T) "__getitem__"=pure (O (.builtin id))) (hs:uG q)
 (h:wpAny (model prog w) A (eval value env) (λo Ht=>wpAny (model prog w) A (eval q env) (λi MP=>MP.TypeIs o T/\wpAny (model prog w) A (Pg o i) Q E MP) E Ht) E s) :
  wpAny (model prog w) A (eval (.Subscript value q pos) env) Q E s:=by
 refine Subscript_ (MD h (λo Ht KU=>MD KU (λi MP Y=>?_) λ_ _ x=>x) λ_ _ x=>x);obtain⟨hT,Y⟩:=Y;unfold zi4;refine wB ?_;rw[getitemInPython_of_ne hT.not_modules];refine wB (Zh hT hl ?_)
 have fin:wpAny (model prog w) A (Zn q ξ o i) (λr Me=>wpAny (model prog w) A (letTemporaryGo value o r >>= λ_=>pure r) Q E Me) E MP:=by rw[hs o i];exact wpAny_operating (MD Y (λr Me Qb=>wB (wpAny_letTemporaryGo (Hf Qb))) λ_ _ x=>x)
 first
  |exact Hf (wB fin)
  |exact wB (Hf (wB fin))
  |exact wB fin
variable{X:Cx}
theorem pF(I:nC X J1 G H s)(g:LM H a y o):s.TypeIs (.ref a) "dict":=by
 rcases g with ⟨J6,k,e,_,_⟩|⟨J6,k,b,e,_,_,_⟩
 .obtain⟨_,_,vs,_,q⟩:=mj I.Hm e;exact q.typeIs
 .obtain⟨_,_,xs,_,q⟩:=pE I.Hm e;exact q.typeIs
def F7(td ty:TE):TE:=λG H Q=>td G H λx H1=>ty G H1 λy H2=>∃a v,x=.ref a/\LM H2 a y (O v)/\Q v H2
def Wq(ty td:TE):TE:=λG H Q=>ty G H λy H1=>td G H1 λx H2=>∃a o,x=.ref a/\LM H2 a y o/\Q (.bl o.isSome) H2
def sX(ty td:TE):TE:=λG H Q=>ty G H λy H1=>td G H1 λx H2=>∃a o,x=.ref a/\LM H2 a y o/\Q (.bl (!o.isSome)) H2
def F8(td ty tv:TE):TS:=λθ G H=>tv G H λv H1=>td G H1 λx H2=>ty G H2 λy Y=>∃a q,x=.ref a/\Qa Y a y v q/\θ.nx G q
section
variable{X:Cx}{o i e value:Jc}{pos pos' KC:Pos}{td ty tv:TE}
theorem sY(hu:X.A.units+1<cLine)(ho:PE X o td)(hi:PE X i ty)(hs:uG i):PE X (.Subscript o i pos) (F7 td ty):=by intro J1 s G H Q I h;refine sW PySem.F.slot_dict_getitem.lookup hs (Hx (ho J1 s G H _ I h) λu s1 ⟨x,H1,I1,rx,q1⟩=>Hx (hi J1 s1 G H1 _ I1 q1) λiv s2 ⟨y,H2,Y,ry,a,v,ex,g,q2⟩=>?_);subst ex;obtain rfl:u=JS a:=rx;exact⟨pF Y g,uE hu Y g ry λw' s3 I3 q=>⟨v,H2,I3,q,q2⟩⟩
theorem wa(hu:X.A.units+1<cLine)(hi:PE X i ty)(ho:PE X o td):PC X .In i o (Wq ty td):=by
 intro J1 s G H Q I h;refine Hx (hi J1 s G H _ I h) λiv s1 ⟨y,H1,Y,ry,q1⟩=>Hx (ho J1 s1 G H1 _ Y q1) λu s2 ⟨x,H2,I2,rx,a,ov,ex,g,q2⟩=>?_
 subst ex;obtain rfl:u=JS a:=rx;exact d_in hu I2 g ry λs3 q=>⟨.bl ov.isSome,H2,q,rfl,q2⟩
theorem jj(hu:X.A.units+1<cLine)(hi:PE X i ty)(ho:PE X o td):PC X .NotIn i o (sX ty td):=by
 intro J1 s G H Q I h;refine Hx (hi J1 s G H _ I h) λiv s1 ⟨y,H1,Y,ry,q1⟩=>Hx (ho J1 s1 G H1 _ Y q1) λu s2 ⟨x,H2,I2,rx,a,ov,ex,g,q2⟩=>?_
 subst ex;obtain rfl:u=JS a:=rx;exact zH hu I2 g ry λs3 q=>⟨.bl (!ov.isSome),H2,q,rfl,q2⟩
theorem sZ (hu:X.A.units+1<cLine) (ho:PE X o td) (hi:PE X i ty) (Y:PE X value tv) (hs:Mu value (O (.Subscript o i pos')) pos.line X.env=pure ξ) :
  PS X (.Assign [.Subscript o i pos'] value pos) (F8 td ty tv):=by
 intro J1 s G H θ I h;refine wpAny_Assign_Subscript (Hx (Y J1 s G H _ I h) λr s1 ⟨v,H1,I1,rv,q1⟩=>Hx (ho J1 s1 G H1 _ I1 q1) λu s2 ⟨x,H2,I2,rx,q2⟩=>Hx (hi J1 s2 G H2 _ I2 q2) λiv s3 ⟨y,H3,q,ry,a,H4,ex,g,q3⟩=>?_) hs;subst ex;obtain rfl:u=JS a:=rx;exact uF hu q g ry rv λs4 I4=>⟨G,H4,I4,q3⟩
end
theorem pG(h:Heap)(q:L4<h.objs.size):Hn P w H (h.push {cls:=.type "dict",data:=.dict #[]}) h.objs.size (.dK []):=⟨M8 _,beq_eq_false_iff_ne.mpr (L1 (Js q)),[],.nil,Heap.DictOf.new h⟩
theorem wb(h:Heap)(q:L4<h.objs.size):Hn P w H (h.push {cls:=.type "dict",data:=.dict #[]}) h.objs.size (.dT []):=⟨M8 _,beq_eq_false_iff_ne.mpr (L1 (Js q)),[],.nil,_,#[],0,Ji _ rfl,⟨rfl,rfl,rfl⟩,rfl,rfl,Vz⟩
def Dg:TE:=λ_ H Q=>∀p,H p=V->Q (.ref p) (upd H p (.dK []))
def Dh:TE:=λ_ H Q=>∀p,H p=V->Q (.ref p) (upd H p (.dT []))
section
variable{X:Cx}{pos:Pos}
theorem wc:PE X (.Dict [] [] pos) Dg:=λJ1 s G H Q I h=>wpAny_Dict_empty ⟨.ref s.heap.objs.size,_,I.laid (a:=s.heap.objs.size) (o:=.dK []) (t':=s.toks) (λ_ _ q=>gP _ q) (HG _) (pG s.heap I.big),rfl,h _ (I.Hm.fresh (HG _))⟩
theorem we:PE X (.Dict [] [] pos) Dh:=λJ1 s G H Q I h=>wpAny_Dict_empty ⟨.ref s.heap.objs.size,_,I.laid (a:=s.heap.objs.size) (o:=.dT []) (t':=s.toks) (λ_ _ q=>gP _ q) (HG _) (wb s.heap I.big),rfl,h _ (I.Hm.fresh (HG _))⟩
end
def n5:Z (TE×TE)->St->Hp->(Z (ψ×ψ)->Hp->Prop)->Prop
 |[],_,H,Q=>Q [] H
 |(tk,tv)::r,G,H,Q=>tk G H λx H1=>tv G H1 λy H2=>n5 r G H2 λps q=>Q ((x,y)::ps) q
abbrev VV:Z (ψ×ψ)->Z (Value×Value)->Prop:=Paired λp q=>BI p.1 q.1/\BI p.2 q.2
def Wr(X:Cx)(pos:Pos)(Y:Z (C Jc))(q:Z Jc)(NL:Z (TE×TE)):Prop:=
 ∀(J1:Z (J9×Obj))(s:t2)(G:St)(H:Hp)(Q:Z (ψ×ψ)->Hp->Prop),nC X J1 G H s->n5 NL G H Q→
  wpAny (model X.prog X.w) X.A (evalPairs (pairTrees Y q X.env pos)) (λvs s'=>∃ps H',nC X J1 G H' s'/\VV ps vs/\Q ps H') X.xe s
theorem zI:Wr X pos [] [] []:=λJ1 s G H Q I h=>pairTrees_nil_walk ⟨[],H,I,.nil,h⟩
variable{NL:Z (TE×TE)}
theorem wf {k v:Jc} {ks:Z (C Jc)} {vs:Z Jc} {tk tv:TE} (hk:PE X k tk) (hv:PE X v tv) (hr:Wr X pos ks vs NL) :
  Wr X pos (O k::ks) (v::vs) ((tk,tv)::NL):=λJ1 s G H Q I h=>
 pairTrees_cons_walk (Hx (hk J1 s G H _ I h) λu s1 ⟨x,H1,I1,rx,q1⟩=>Hx (hv J1 s1 G H1 _ I1 q1) λw2 s2 ⟨y,H2,I2,ry,q2⟩=>Hx (hr J1 s2 G H2 _ I2 q2) λws s3 ⟨ps,H3,Y,q,q3⟩=>⟨(x,y)::ps,H3,Y,.cons ⟨rx,ry⟩ q,q3⟩)
def gt(J6 more:Z (Hr×ψ)):Z (Hr×ψ):=more.foldl (λJ5 kv=>dO J5 kv.1 kv.2) J6
theorem KV.merge:∀{more:Z (Hr×ψ)}{Y:Z (Hr×Value)}{J6:Z (Hr×ψ)}{vs:Z (Hr×Value)},KV more Y->KV J6 vs->KV (gt J6 more) (merged vs Y):=by
 intro more Y J6 vs r;unfold KV at r;induction r generalizing J6 vs with
 |nil=>intro q;exact q
 |@cons p q ps qs h t ih=>
  intro r0
  have e:KV (dO J6 p.1 p.2) (stored vs q.1 q.2):=by have:=r0.put p.1 h.2;rw[<- h.1];exact this
  exact ih e
theorem ia:∀(more J6:Z (Hr×ψ)),(gt J6 more).length<=J6.length+more.length
 |[],J6=>by show J6.length<=J6.length+0;lia
 |p::r,J6=>by have h1:=ia r (dO J6 p.1 p.2);have h2:=gr J6 p.1 p.2;show(gt (dO J6 p.1 p.2) r).length<=_;rw[L9];lia
theorem kF{P:HL}{w:Ja}:∀{J6:Z (Hr×ψ)}{ws:Z (Value×Value)},VV (J6.map λkv=>(kV kv.1,kv.2)) ws->∃Y,Carries (bt P w) ws Y/\KV J6 Y
 |[],_,r=>by rw[QG]at r;cases r;exact⟨[],Ou,.nil⟩
 |p::J6,_,r=>by
  rw[Ia]at r;cases r with
  |@cons a b as bs h t=>obtain⟨Y,c,q⟩:=kF (P:=P) (w:=w) t;obtain⟨b1,b2⟩:=b;exact⟨(p.1,b2)::Y,⟨jJ h.1,rfl,c⟩,.cons ⟨rfl,h.2⟩ q⟩
def F9(NL:Z (TE×TE)):TE:=λG H Q=>∀p,H p=V->n5 NL G (upd H p (.dK [])) λps H2=>H2 p=O (.dK [])/\∃J6:Z (Hr×ψ),ps=J6.map (λkv=>(kV kv.1,kv.2))/\J6.length<=15/\Q (.ref p) (upd H2 p (.dK (gt [] J6)))
theorem zJ{Y:Z (C Jc)}{values:Z Jc}(h:Wr X pos Y values NL)(JZ:Y.all (·.isSome)=D)(hl:Y.length=values.length)(h0:Y≠[])
 (Ws:Y.length<=15):PE X (.Dict Y values pos) (F9 NL):=by
 intro J1 s G H Q I q;have hn:=I.Hm.fresh (HG s.heap.objs.size);have I1:=I.laid (a:=s.heap.objs.size) (o:=.dK []) (h':=s.heap.push {cls:=.type "dict",data:=.dict #[]}) (t':=s.toks) (λ_ _ q=>gP _ q) (HG _) (pG s.heap I.big);refine wpAny_Dict_walk (knd:=bt X.prog X.w) JZ hl h0 Ws (Hx (h J1 _ G _ _ I1 (q _ hn)) λws s2 ⟨ps,H2,I2,rel,e,J6,ep,lk,q2⟩=>?_);subst ep;obtain⟨rs,c,rk⟩:=kF (P:=X.prog) (w:=X.w) rel;obtain⟨z,hd,vs0,r0,dd⟩:=By I2.Hm e;cases r0;refine⟨rs,c,dd,λh' R5 hs=>⟨.ref s.heap.objs.size,_,?_,rfl,q2⟩⟩
 have hz:(gt [] J6).length<=Hz:=by have h1:=ia J6 [];rw[zf5]at h1;rw[Zm];lia
 have he:∃q,h'.get? s.heap.objs.size=O q:=let ⟨q,_,_,hq,_⟩:=R5;⟨q,hq⟩;exact n4 I2 (by rw[e];exact Ou) hs he (v9 hz hd (rk.merge .nil) R5)
section
variable{X:Cx}{J1:Z (J9×Obj)}{G:St}{H:Hp}{s:t2}{a:J9}{y d:ψ}{u r:Value}{o:C ψ}{A:HM}{E:Value->t2->Prop}
end
section
variable{X:Cx}{o e f:Jc}{apos Hb:Pos}{td ty tx:TE}
end
section
variable{X:Cx}{J1:Z (J9×Obj)}{G:St}{H:Hp}{s:t2}{a:J9}{J6:Z (Hr×ψ)}{A:HM}{E:Value->t2->Prop}
end
section
variable{X:Cx}{J1:Z (J9×Obj)}{G:St}{H:Hp}{s:t2}{a:J9}{y:ψ}{u:Value}{A:HM}{E:Value->t2->Prop}
end
end L2
namespace Att
open PySem PySem.W PySem.Calls PyProof.Rows
variable{P:Params}{h:Heap}
theorem jS:∀(ns:Z Int)(vs:Z Value),WellAll P h vs (ns.map WData.int)->Uk vs ns:=by
 intro ns;induction ns with
 |nil=>intro vs w;rw[QG]at w;cases w;exact .nil
 |cons n ns q=>
  intro vs w;rw[Ia]at w;cases w with
  |cons a b=>cases a;exact .cons _ _ (q _ b)
variable{l:OpenLaw}{n:Nat}
theorem uH(hn:l.most=O n){args:Z WData}{Y:Z Value}
 (Qc:l.row.toRowW.claim.pre args=D) (hwl:WellAll P h Y args) :
  ∃a vs ns,Y=[JS a]/\args=[WData.list (ns.map WData.int)]/\h.get? a=O {cls:=.type "list",data:=.seq vs.toArray}/\Uk vs ns/\ns.length<=n:=by
 have hsh:WShape.hasAll [] args [.list .int]=D:=(pre_splitW Qc).1;have hc:l.pre.holds [] {args:=args}=D:=(pre_splitW Qc).2;obtain⟨d,r,rfl,h1,h2⟩:=hasAllW_cons hsh;obtain rfl:=hasAllW_nil h2;obtain⟨xs,rfl,h3⟩:=hasW_list h1;obtain⟨ns,rfl⟩:=items_int h3
 have hlen:ns.length<=n:=by
  unfold OpenLaw.pre at hc
  have h4:(WTm.not (.lt (.lit (.int (n:Int))) (.len (.arg 0)))).holds [] {args:=[.list (ns.map .int)]}=D:=by have h4:=(holds_andW hc).1;rw[hn]at h4;exact h4
  have h5:=condW_of h4 (w_not (w_lt w_lit (w_len_list (w_arg rfl))));rw[Hl]at h5;refine Nat.le_of_not_lt λq=>?_
  have q':(n:Int)<((ns.length:Nat):Int):=by lia
  first
   |(rw[decide_eq_true q']at h5;exact absurd h5 Ω)
   |(simp at h5;lia)
 cases hwl with
 |cons w1 w2=>
  cases w2;cases w1 with
  |list ho JZ=>exact⟨_,_,ns,rfl,rfl,ho,jS ns _ JZ,hlen⟩
theorem uI(l:OpenLaw)(args:Z WData):l.row.toRowW.claim.post args (.bool D) args=D:=
 postW_of (r:=l.row.toRowW) (X:=(D==D))
  (show WShape.has [] (.bool D) .bool=D by first|rfl|decide|simp[WShape.has,WShape.arms,WShape.armsAll])
  (show(WTm.eq .res (.lit (.bool D))).value [] {args:=args,res:=O (.bool D),after:=args}=O (.bool (D==D))from w_eq_bool (w_res rfl) w_lit) rfl
theorem Bz{q:HL}{loose:Z Str}{XP:(Str->C Value)->Heap->Prop}{YP:Ja->Heap->Prop}{d:DefRec}
 (hn:l.most=O n) (hdf:d.params.defaults=[])
 (call:∀(w:Ja)(s₀ Ht:t2)(mg mb:Str->C Value)(fa:J9)(o:Obj)(pm cd doc:Value)(a:J9)(vs:Z Value)(ns:Z Int),
 Ground q loose [] XP w s₀ mg mb Ht.heap->YP w Ht.heap→
 Ht.heap.get? fa=O o->o.data=.func (docDef d.name d.params d.body d.scope pm cd doc)->Ht.heap.CodeRec cd d.name->mg d.name=O (.ref fa)→
 Ht.heap.get? a=O {cls:=.type "list",data:=.seq vs.toArray}->Uk vs ns->ns.length<=n->Ht.gens=#[]→
 MF (model l.prog w) RN (.call (.ref fa) ⟨[.ref a],[]⟩) (λr s'=>r=.ok (.ret (.bool D))/\OldK Ht.heap s'.heap/\s'.os=Ht.os/\PP s'.gens) Ht) :
  WalkO q loose XP YP l.row.toRowW d [] (λf vs=>PySem.call f vs):=by
 intro w s₀ Ht mg mb σ Y fa o pm cd doc dV kV ho hd Pl hD Wt hg args vals as Qc hlay hrd hwl hlo;obtain rfl:dV=.none:=Dflts.none hD hdf;obtain rfl:kV=.none:=Dflts.noKw hD;obtain⟨a,vs,ns,rfl,rfl,R6,hints,hlen⟩:=uH hn Qc hwl;refine enter_call (RI (call w s₀ Ht mg mb fa o pm cd doc a vs ns σ Y ho (fd_plain hd) Pl Wt R6 hints hlen hg) λr s' hq=>?_);obtain⟨rfl,h2,h3,h4⟩:=hq;exact⟨.inl ⟨.bool D,.bool D,[],rfl,λ_=>rfl,.bool D,uI l _,λ_=>⟨VA,λ_ hm=>(nomatch hm)⟩⟩,h2,h3,h4⟩
section
variable{prog:HL}{w:Ja}{A:HM}{E:Value->t2->Prop}{s:t2}{K:Frag}
end
end Att
namespace L2
open PySem PySem.Spec PyProof.Rows
theorem ml:∀{vs:Z Value}{ns:Z Int},Uk vs ns->Da (ns.map ψ.int) vs
 |_,_,.nil=>.nil
 |_,_,.cons n t h=>.cons ⟨t,rfl⟩ (ml h)
end L2
/- THE LAST THEOREM (shape;LID,My.* are yours):
   My.Adr: a structure of Oa addresses that your layer names (classes,functions);My.Txt K t: a structure (Prop) of Oa equations over K;
   My.txt_mk:{K} {implicit addresses ..} (e1:nsIn K ID "law"=O (O (.ref f))) (e2:K.lookup f=O ⟨oc,od,.func (fnOf "law" "law" params body scope dV kV doc pm an Hv ct),sl⟩) (e3:codeIn K Hv "law"=D) ..:∃t,My.Txt K t
(Oa tactic k_is has no namespace: write k_is) -/
namespace L2
open PySem PySem.Spec PyProof.Rows
def bY(s:Jb):LH:=match s with
 |.FunctionDef _ a _ _ _ _ _ _ _ _=>a
 |_=>{posonlyargs:=[],args:=[],vararg:=V,kwonlyargs:=[],kw_defaults:=[],kwarg:=V,defaults:=[]}
def aH(s:Jb):Z Jb:=match s with
 |.FunctionDef _ _ b _ _ _ _ _ _ _=>b
 |_=>[]
def ab(s:Jb):Jd:=match s with
 |.FunctionDef _ _ _ _ _ _ sc _ _ _=>sc
 |_=>{kind:=.function,names:=[],isGenerator:=false,isCoroutine:=false}
abbrev Lk:Ob:=λ_ _ _ _ _ _=>False
abbrev E0:XK:=λ_ _ _=>False
variable{X:Cx}
theorem Ga:qT Lk X E0:=λ_ _ _ _ _ _ _ h=>h.elim
structure Q5(K:Hk)(x qual:Str)(st:Jb)(f:J9)(fd:Nd):Prop where
 ex:∃(oc:Value)(od:Option J9)(kV doc pm:Value)(an:Option J9)(Hv ct:Value)(Mh:Array (Option Value)),fd=LJ x qual (bY st) (aH st) (ab st) .none kV doc pm an Hv ct/\K.lookup f=O ⟨oc,od,.func fd,Mh⟩/\Pk K Hv qual=D
 kp:NH K (.ref f)=D
variable{x qual:Str}{f:J9}{fd:Nd}{N ps:Z Str}{k:Nat}{sp:Sp}{oc doc pm Hv:Value}{od an:C J9}{Mh:Array (C Value)}
section
variable{P:HL}{w:Ja}{K:Hk}{mg:Str->C Value}{base:Heap}
theorem Q5.ok{st:Jb}(F:Q5 K x qual st f fd)(S:ma N ps (ab st))(len:∀vs H Q E,sp vs H Q E->vs.length=ps.length)
 (Y:∀(Hv:Value)(A:HM)(outer:Z Env)(s:t2)(H:Hp)(vs:Z ψ)(Q:VK)(E:XK),Hh k (A.deeper (M9 qual (ab st) s.heap.objs.size f Hv))->sp vs H Q E→
 ∃t,Kq (kz Lk P w K mg base N qual (ab st) f Hv A outer s H E).Pm (aH st) t/\t {nx:=λ_ H'=>Q .G8 H',rt:=Q} (start N vs) H):JG P w K mg base Lk (k+1) f fd ps sp:=by
 obtain⟨oc,od,kV,doc,pm,an,Hv,ct,Mh,rfl,lk,Pl⟩:=F.ex;refine Bu lk Pl S len λA outer s H vs Q E hr QZ=>?_
 obtain⟨t,h,q⟩:=Y Hv A outer s H vs Q E hr QZ;exact⟨t,h.Pm,q⟩
theorem Q5.binds{st:Jb}(F:Q5 K x qual st f fd)
 (h:∀(kV doc pm:Value)(an:C J9)(Hv ct:Value)(us:Z Value),us.length=ps.length->Uu (LJ x qual (bY st) (aH st) (ab st) .none kV doc pm an Hv ct) ⟨us,[]⟩=pure (ps.zip us)):JY K fd ps []:=by
 obtain⟨oc,od,kV,doc,pm,an,Hv,ct,Mh,rfl,Y,q⟩:=F.ex;exact .all (h kV doc pm an Hv ct)
theorem n6{st:Jb}{kV ct:Value}(l:K.lookup f=O ⟨oc,od,.func (LJ x qual (bY st) (aH st) (ab st) .none kV doc pm an Hv ct),Mh⟩)(c:Pk K Hv qual=D)(k:NH K (.ref f)=D):Q5 K x qual st f (LJ x qual (bY st) (aH st) (ab st) .none kV doc pm an Hv ct):=⟨⟨oc,od,kV,doc,pm,an,Hv,ct,Mh,rfl,l,c⟩,k⟩
end
variable{A:HM}
theorem iI(q:Hh k A):A.units+1<cLine:=qz0 (Nat.add_le_add_left (by decide:1<=64) _) q.units
section
variable{X:Cx}
end
def zz(H H':Hp):Prop:=∀b o,H b=O o->H' b=O o
theorem zz.refl(H:Hp):zz H H:=λ_ _ h=>h
variable{H:Hp}
theorem zz.trans{H1 H2:Hp}(a:zz H H1)(b:zz H1 H2):zz H H2:=λc o h=>b c o (a c o h)
variable{H':Hp}
theorem zz.free(e:zz H H'){l:J9}(h:H' l=Option.none):H l=Option.none:=by
 cases q:H l with
 |none=>rfl
 |some o=>rw[e l o q]at h;cases h
variable{K:Hk}{a:J9}{xs:Z ψ}
theorem zz.seq(e:zz H H')(h:Io K H a xs):Io K H' a xs:=by
 rcases h with (h|⟨o,h⟩)|h
 .exact .inl (.inl (e _ _ h))
 .exact .inl (.inr ⟨o,e _ _ h⟩)
 .exact .inr h
section
variable{κ:Type}[DecidableEq κ]
end
set_option maxRecDepth 100000
set_option maxHeartbeats 4000000
theorem dv:∀(names:Z (Str×ME))(n:Nat)(J5:Z (Str×J9)),Ky n names J5=Ky n names []++J5
 |[],_,_=>rfl
 |(x,k)::r,n,J5=>by
  unfold Ky;split
  .rw[dv r (n+1) ((x,n)::J5),dv r (n+1) [(x,n)],M7];rfl
  .exact dv r n J5
theorem dk{α:Type}:∀{l m:Z (Str×α)},(l++m).lookup x=(l.lookup x).or (m.lookup x)
 |[],m=>by simp
 |(k,v)::l,m=>by
  rw[Y1,N6,N6];cases x==k with
  |true=>rfl
  |false=>exact dk
variable{n:Str}{c:J9}
section
variable{M:Model}{A:HM}{E:Value->t2->Prop}{s₀ s:t2}{m cm:Str->C Value}{env:Env}{cs:Z (Str×J9)}
theorem stLX{v:Value}{Q:Unit->t2->Prop}(x:PU s₀ env.locals m cs cm s)(hk:env.scope.kind=.function)(hl:env.kindOf n=O .local)
 (h:∀s',PU s₀ env.locals (λy=>if y=n then O v else m y) cs cm s'->Q () s'):wpAny M A (Us env n v) Q E s:=by
 refine ze8 hl x.toInCall.ns (λh' Y q=>h _ ⟨⟨?_,Y,λb o e=>?_,x.toInCall.fresh⟩,λk c hc=>?_,x.apart,x.above⟩) (by rw[hk];rfl)
 .obtain⟨KU,tk,rfl⟩:=x.toInCall.same;exact⟨h',_,rfl⟩
 .exact q.extBut b o (Js (Le (Ih e) x.toInCall.fresh)) (x.toInCall.keep b o e)
 .exact(x.cell k c hc).sameBut q (Pc (x.above k c (PySem.mem_of_lookup hc)))
theorem stCX{v:Value}{Q:Unit->t2->Prop}(x:PU s₀ env.locals m cs cm s)(hk:env.scope.kind=.function)(hl:env.kindOf n=O .cell)
 (hc:cs.lookup n=O c) (hce:env.cells.lookup n=O c)
 (h:∀s',PU s₀ env.locals m cs (λy=>if y=n then O v else cm y) s'->Q () s'):wpAny M A (Us env n v) Q E s:=by
 have hLc:=x.above n c (PySem.mem_of_lookup hc);refine wpAny_storeName_cell hk hl hce (x.cell n c hc) λh' Ow hs'=>h _ ⟨⟨?_,x.toInCall.ns.sameBut hs' (Js hLc),λb o e=>?_,x.toInCall.fresh⟩,λk c' q=>?_,x.apart,x.above⟩
 .obtain⟨KU,tk,rfl⟩:=x.toInCall.same;exact⟨h',_,rfl⟩
 .exact hs'.extBut b o (Js (VB (Le (Ih e) x.toInCall.fresh) hLc)) (x.toInCall.keep b o e)
 .by_cases Y:k=n
  .subst Y;rw[hc]at q;cases q
   simpa using Ow
  .rw[if_neg Y];exact(x.cell k c' q).sameBut hs' λe=>Y (zj7 x.apart (PySem.mem_of_lookup q) (e▸PySem.mem_of_lookup hc))
theorem gu (f:Str×Value->PUnit->Sem (ForInStep PUnit)) (hf:∀ n v u,f (n,v) u=(do Us env n v;pure (.yield ⟨⟩))) (hk:env.scope.kind=.function) (Y:∀ n c,cs.lookup n=O c->env.cells.lookup n=O c) :
  ∀(binds:Z (Str×Value))(m cm:Str->C Value)(s:t2)(Q:PUnit->t2->Prop),PU s₀ env.locals m cs cm s→
   (∀x∈binds,env.kindOf x.1=O .local∨(env.kindOf x.1=O .cell/\(cs.lookup x.1).isSome=D))→
   (∀s',PU s₀ env.locals (bindL env.kindOf binds m) cs (bindC env.kindOf binds cm) s'->Q ⟨⟩ s')->wpAny M A (forIn binds ⟨⟩ f) Q E s
 |[],m,cm,s,Q,x,_,h=>by rw[List.forIn_nil];exact Hf (h s x)
 |(n,v)::r,m,cm,s,Q,x,q,h=>by
  rw[List.forIn_cons,hf];have hr:∀y∈r,env.kindOf y.1=O .local∨(env.kindOf y.1=O .cell/\(cs.lookup y.1).isSome=D):=λy hy=>q y (N4 _ hy)
  rcases q (n,v) N5 with hl|⟨hl,hc⟩
  .refine wB (wB (stLX x hk hl λs' x'=>Hf (gu f hf hk Y r _ _ s' Q x' hr λs'' x''=>h s'' ?_)));unfold bindL bindC;rw[if_pos hl,if_pos hl];exact x''
  .obtain⟨c,hc⟩:=qs8.mp hc;have hnl:¬ env.kindOf n=O .local:=by rw[hl];decide
   refine wB (wB (stCX x hk hl hc (Y n c hc) λs' x'=>Hf (gu f hf hk Y r _ _ s' Q x' hr λs'' x''=>h s'' ?_)));unfold bindL bindC;rw[if_neg hnl,if_neg hnl];exact x''
end
variable{E:Value->t2->Prop}{s:t2}{scope:Jd}
theorem zK{M:Model}{Y:J9}{cl:Z (Str×J9)}{binds:Z (Str×Value)}{func:C J9}{code:Value}{q:J9}{Q:Env->t2->Prop}
 (hk:scope.kind=.function)
 (Kr:∀x∈binds,scope.names.lookup x.1=O .local∨(scope.names.lookup x.1=O .cell/\((Ky (s.heap.objs.size+1) scope.names []).lookup x.1).isSome=D))
 (hQ:∀env,env=newEnv scope s.heap.objs.size Y (Ky (s.heap.objs.size+1) scope.names []++cl) qual func code V q→
 ∀s',PU s env.locals (bindL env.kindOf binds λ_=>V) (Ky (s.heap.objs.size+1) scope.names []) (bindC env.kindOf binds λ_=>V) s'->Q env s') :
  wpAny M A (newFunctionEnv scope Y cl binds qual func code V q) Q E s:=by
 simp only[newFunctionEnv,Option.isSome_none,Oi,if_false];refine wB (wpAny_alloc ?_);refine LG (wpAny_layCells _ (λname kind cells=>by cases hkc:kind==ME.cell<;>simp[hkc]) _ _ _ _ ?_);have ok:=cellsFrom_ok scope.names (s.heap.push {cls:=.type "frame",data:=.dict #[]}) (s.heap.objs.size+1) [] ⟨λ_ _ hm=>(nomatch hm),VA⟩ (by rw[MH];exact HG _);rw[MH]at ok;rw[show({s with heap:=s.heap.push {cls:=.type "frame",data:=.dict #[]}}:t2).heap.objs.size=s.heap.objs.size+1 from MH ..,dv]
 refine wB (gu (s₀:=s) (cs:=Ky (s.heap.objs.size+1) scope.names []) (env:=newEnv scope s.heap.objs.size Y (Ky (s.heap.objs.size+1) scope.names []++cl) qual func code V q)
  _ (λ_ _ _=>rfl) hk (λn c h=>by show(Ky (s.heap.objs.size+1) scope.names []++cl).lookup n=O c;rw[dk,h];rfl) binds (λ_=>V) (λ_=>V) _ _
  ⟨⟨⟨_,_,rfl⟩,(Heap.Ns.new s.heap (.type "frame")).keeps (pushCells_keeps _ _),λb o e=>pushCells_keeps _ _ b o (gP _ e),HG _⟩,λn c hc=>(ok.empty n c (PySem.mem_of_lookup hc)).1,ok.apart,λn c hm=>(ok.empty n c hm).2⟩
  Kr λs' x=>Hf (hQ _ rfl s' x))
noncomputable def gh(names:Z (Str×ME))(cells:Z (Str×J9)):Z (Str×J9):=names.foldl (λcs q=>if q.2==Lf then(q.1,(cells.lookup q.1).getD 0)::cs else cs) []
variable{cells:Z (Str×J9)}{env:Env}
theorem tf (hc:env.cells=cells):∀ (names:Z (Str×ME)) (J5:Z (Str×J9)),(∀ x∈names,x.2=.free->∃ c,cells.lookup x.1=O c)→
  (forIn names J5 (λ(x:Str×ME)(r:Z (Str×J9))=>if(x.2==Lf)=D then(do let c <- cellOf env x.1;pure (T9 ((x.1,c)::r)))else(pure (T9 r):Sem _)))
   = (pure (names.foldl (λcs nk=>if nk.2==Lf then(nk.1,(cells.lookup nk.1).getD 0)::cs else cs) J5):Sem (Z (Str×J9)))
 |[],J5,_=>rfl
 |x::r,J5,h=>by
  have ih:=λJ5=>tf hc r J5 λy hy=>h y (N4 _ hy)
  simp only[List.forIn_cons,PJ];cases e:(x.2==Lf)with
  |false=>simp only[Oi,if_false];exact ih J5
  |true=>
   obtain⟨c,Y⟩:=h x N5 (by simpa using e);have q:cellOf env x.1=pure c:=by unfold cellOf;rw[hc,Y]
   simp only[if_true,q,Y,zd4];exact ih _
theorem kG{env:Env}(h:∀x∈scope.names,x.2=.free->∃c,env.cells.lookup x.1=O c):VN scope env=pure (gh scope.names env.cells):=by have:=tf (env:=env) rfl scope.names [] h;unfold VN gh;rw[<- this];simp only[bind_pure]
theorem mm:∀ {names:Z (Str×ME)} {J5:Z (Str×J9)} {x:Str} {c:J9},(∀ y∈names,y.2=.free->∃ c,cells.lookup y.1=O c)→
  (names.foldl (λcs Y=>if Y.2==Lf then(Y.1,(cells.lookup Y.1).getD 0)::cs else cs) J5).lookup x=O c->(∀c,J5.lookup x=O c->cells.lookup x=O c)->cells.lookup x=O c
 |[],J5,x,c,_,h,q=>q c h
 |y::r,J5,x,c,hy,h,q=>by
  simp only[PJ]at h;refine mm (λz hz=>hy z (N4 _ hz)) h ?_;intro c' h';split at h'
  .rename_i hf;obtain⟨c0,e0⟩:=hy y N5 (by simpa using hf);rw[N6]at h';split at h'
   .rename_i hx;have ZS:x=y.1:=by simpa using hx
    rw[e0]at h';subst ZS;rw[e0];simpa using h'
   .exact q c' h'
  .exact q c' h'
variable{names:Z (Str×ME)}
theorem jK(q:∀y∈names,y.2=.free->∃c,cells.lookup y.1=O c)(h:(gh names cells).lookup x=O c):cells.lookup x=O c:=mm q h λc h=>by simp at h
theorem mn:∀ {names:Z (Str×ME)} {J5:Z (Str×J9)} {x:Str},((x,Lf)∈names∨(J5.lookup x).isSome)→
  ((names.foldl (λcs q=>if q.2==Lf then(q.1,(cells.lookup q.1).getD 0)::cs else cs) J5).lookup x).isSome
 |[],J5,x,h=>by simpa using h
 |y::r,J5,x,h=>by
  simp only[PJ];refine mn ?_;rcases h with h|h
  .rcases HU.mp h with e|h
   .subst e;right;simp[N6]
   .exact .inl h
  .right;split
   .rw[N6];split
    .rfl
    .exact h
   .exact h
theorem pH(h:(x,Lf)∈names):∃c,(gh names cells).lookup x=O c:=qs8.mp (mn (.inl h))
structure G4(N:List Str)(outer scope:Jd)(M:List Str)(src:List (Option Nat)):Prop where
 kind:scope.kind=.function
 OB:∀y∈scope.names,y.2≠.cell
 free:∀y∈scope.names,y.2=.free->outer.names.lookup y.1=O .cell∨outer.names.lookup y.1=O .free
 names:∀y∈scope.names,y.2=.local->scope.names.lookup y.1=O .local
 lf:∀y∈scope.names,y.2=.free->scope.names.lookup y.1=O .free
 len:M.length=src.length
 nd:M.Nodup
 src:∀p∈M.zip src,∀j∈p.2,N[j]?=O p.1/\(p.1,Lf)∈scope.names
noncomputable def Kt(src:Z (C Nat))(G:St):St:=src.map λo=>o.bind λj=>(G[j]?).join
def Jy(X:Cx)(M:Z Str)(scope:Jd)(ζ:J9)(s:t2)(H:Hp)(ex:Z J9):Cx:={X with N:=M,s₀:=s,Md:=H,env:=compEnvC scope (gh scope.names X.env.cells) ζ X.env,outer:=X.stack,ex:=ex,fn:=λ_=>ξ,pn:=[],xe:=λ_ _=>False}
def Qd(X:Cx)(ifs:Z Jc)(t:TT):Prop:=
 ∀(J1:Z (J9×Obj))(s:t2)(G:St)(H:Hp)(Q:Bool->Hp->Prop),nC X J1 G H s->t G H Q→
  wpAny (model X.prog X.w) X.A (forIn ifs D λc r=>if r=D then do let ok <- isTrue c X.env (eval c X.env);pure (T9 ok)else pure (T9 r)) (TP X J1 G Q) X.xe s
def tYes:TT:=λ_ H Q=>Q D H
theorem zL:Qd X [] tYes:=λJ1 s G H Q I h=>wpAny_tests_nil ⟨H,I,h⟩
theorem zM{c:Jc}{t:TT}(h:PT X c t):Qd X [c] t:=λJ1 s G H Q I q=>wpAny_tests_one (h J1 s G H Q I q)
def Wk(a b:St):Prop:=a.length=b.length/\∀(i:Nat) v,a[i]?=O (O v)->b[i]?=O (O v)
def mo(src:Z (C Nat))(wi:TI)(g:TG)(tt:TT)(te:TE):TE:=λG H Q=>wi G H λδ H1=>∀θ,H1 θ=V->∃W:Nat->Nat->Hp->Prop,(∃m,W 0 m (upd H1 θ (.e [])))/\∀i m H,W i m H→
 (δ.stop i H/\Q (.ref θ) H)∨(δ.go i H/\∃N:Hp->Prop,(∀H',N H'->∃m',m'<m/\W (i+1) m' H')/\∀x H',δ.P5 i H x H'→
  g x (Kt src G) H' λq H2=>Wk (Kt src G) q/\tt q H2 λb H3=>if b=D then te q H3 λv Y=>∃ys,Y θ=O (.e ys)/\ys.length<Hz/\N (upd Y θ (.e (ys++[v])))else N H3)
variable{w:Ja}{pos:Pos}
theorem qZ{prog:HL}{R:Result->t2->Prop}{elt q iter:Jc}{ifs:Z Jc}{it J5:Value}(I:Nat->t2->Prop)
 (turn:∀n s,I n s->wpAny (model prog w) A (MG it) (λr Ht=>match r with
 |none=>R (.ok .next) Ht
 |some v=>wpAny (model prog w) A (Zg q it v) (λ_ Y=>wpAny (model prog w) A (N7 q env v) (λ_ MP =>
 wpAny (model prog w) A (forIn ifs D λc r=>if r=D then do let ok <- isTrue c env (eval c env);pure (T9 ok)else pure (T9 r)) (λok Me =>
 if ok=D then wpAny (model prog w) A (eval elt env) (λx Wu =>
 wpAny (model prog w) A (call (.builtin "list.append") [J5,x]) (λ_ Wv=>∃m,m<n/\I m Wv) (λ_ _=>False) Wu) (notedBy (model prog w) A env λe s'=>R (.error e) s') Me
 else ∃m,m<n/\I m Me) (λ_ _=>False) MP) (λ_ _=>False) Y) (λ_ _=>False) Ht) (λ_ _=>False) s)
 (n:Nat) (h:I n s) :
  MF (model prog w) A (.compLoop (.ListComp elt [⟨q,iter,ifs,0⟩] scope pos) 0 it J5 env) R s:=by
 refine codeAny_loop rfl I (λn s hI=>?_) n h;show wpAny _ A ((compTurn (.ListComp elt [⟨q,iter,ifs,0⟩] scope pos) 0 it J5 env).onRaise (λx=>do noteFrame x env;theTreesLotGoes x)) _ _ s;refine wpAny_noted ?_;rw[compTurn_list];refine wB (Zi (wB (MD (turn n s hI) (λr Ht KU=>?_) λ_ _ h'=>h'.elim)));cases r with
 |none=>exact Hf KU
 |some v=>
  refine wB (MD KU (λ_ Y Ww=>?_) λ_ _ h'=>h'.elim);refine wB (MD Ww (λ_ MP h₂=>wB (MD h₂ (λok Me Qb=>?_) λ_ _ h'=>h'.elim)) λ_ _ h'=>h'.elim);cases ok with
  |false=>exact Hf ⟨rfl,Qb⟩
  |true=>exact wB (wB (MD Qb (λx Wu h₄=>wB (MD h₄ (λ_ Wv h₅=>Hf (Hf ⟨rfl,h₅⟩)) λ_ _ h'=>h'.elim)) λ_ _ h'=>h'))
variable{J1:Z (J9×Obj)}{G:St}{Q:VK}{Hb:Pos}{QQ:Value->t2->Prop}{use:C (Value->Sem Unit)}
section
variable{X:Cx}{elt tg iter:Jc}{ifs:Z Jc}{scope:Jd}{pos:Pos}{M:Z Str}{src:Z (C Nat)}{wi:TI}{g:TG}{tt:TT}{te:TE}
theorem n8(hn:∀y∈scope.names,y.2≠.cell)(h:(relabel scope env).names.lookup x=O .cell∨(relabel scope env).names.lookup x=O .free):(x,Lf)∈scope.names:=by
 have q:∀k,(relabel scope env).names.lookup x=O k->(k=.cell∨k=.free)->(x,Lf)∈scope.names:=by
  intro k hk Y;have hm:=PySem.mem_of_lookup hk;unfold relabel at hm;obtain⟨⟨n,k0⟩,hy,e⟩:=Jg.mp hm;dsimp only at e;split at e
  .rename_i hc;simp only[IH]at hc;have:k0=.free:=by simpa using hc.1.1
   subst this;cases e;exact hy
  .cases e;rcases Y with z|z
   .subst z;exact absurd rfl (hn _ hy)
   .subst z;exact hy
 rcases h with h|h
 .exact q _ h (.inl rfl)
 .exact q _ h (.inr rfl)
theorem wg{s1:t2}{fp:Z J9}{m1:Str->C Value}(S:G4 X.N X.env.scope scope M src)(I:nC X J1 G H s)(hf:∀b∈fp,gk X J1 H b)
 (UE:∀b∈fp,b<s.heap.objs.size) (hn:s1.heap.Ns s.heap.objs.size m1) (hk:∀b o,s.heap.get? b=O o->s1.heap.get? b=O o) (Wg:s1.os=s.os) (hg:s1.gens=s.gens) :
  nC (Jy X M scope s.heap.objs.size s H fp) [] (Kt src G) H s1:=by
 have LN:∀x∈scope.names,x.2=.free->∃c,X.env.cells.lookup x.1=O c:=λx hx Np=>I.ok.has x.1 (S.free x hx Np)
 have Y:∀x c,(gh scope.names X.env.cells).lookup x=O c->X.env.cells.lookup x=O c:=λx c h=>jK LN h
 have cellK:∀c v,s.heap.IsCell c v->s1.heap.IsCell c v:=λc v ⟨o,ho,hd⟩=>⟨o,hk c o ho,hd⟩
 refine⟨⟨I.ok.mod,S.kind,I.ok.glob,I.ok.blt,HG _,λy z c h1 h2=>I.ok.inj y z c (Y _ _ h1) (Y _ _ h2),λx hx=>pH (n8 S.OB hx),λx c h=>(nomatch h),I.ok.hd,I.ok.frames,.inl rfl,
  λb hb=>⟨Js (UE b hb),λx c h=>(hf b hb).2.2.2.2.1 x c (Y _ _ h)⟩,I.bs,Iw I.ok.N9 I.sz,λb o e hb=>?_,λb hb z=>?_,I.stack,I.Nj,λp hp=>I.base.Ni _ _ (I.ok.tb p hp)⟩,
  Wg,(by rw[hg];exact I.bare),Un.kept hk,⟨m1,hn,λi x v h1 h2 h3=>?_⟩,λx c h=>?_,I.Hm.fresh (HG _),λx c h=>I.Iz x c (Y _ _ h),λp hp=>absurd hp (by simp[Jy]),I.Hm.kept hk,?_⟩
 .rcases(hf b hb).2.2.2.1 with z|z
  .exact I.ok.Ov b o e z
  .exact absurd (Le (Ih e) (Iw I.ok.N9 z)) (PN _)
 .rcases HU.mp (I.KR b z)with q|q
  .exact(hf b hb).2.1 q
  .exact(hf b hb).2.2.1 q
 . -- a name taken over
   have h1:M[i]?=O x:=h1;unfold Kt at h2;rw[Je]at h2;cases hs:src[i]? with
   |none=>rw[hs]at h2;cases h2
   |some o=>
    rw[hs]at h2;simp only[RF,VC]at h2;cases o with
    |none=>cases h2
    |some j=>
     simp only[Im]at h2
     have hmem:(x,O j)∈M.zip src:=by
      have:(M.zip src)[i]?=O (x,O j):=by rw[qr6];exact⟨h1,hs⟩
      exact Ls this
     obtain⟨hN,Np⟩:=S.src _ hmem j rfl
     have hσ:G[j]?=O (O v):=by
      cases e:G[j]? with
      |none=>rw[e]at h2;cases h2
      |some o=>rw[e]at h2;simp only[Y8]at h2;rw[h2]
     have Kr:=S.free _ Np rfl;obtain⟨m,hm,hl⟩:=I.loc;obtain⟨u,r,l⟩:=hl j x v hN hσ (.inr Kr);refine⟨u,r,?_⟩
     have hloc:X.env.kindOf x≠O .local:=by show X.env.scope.names.lookup x≠_;rcases Kr with q|q<;>rw[q]<;>decide
     rcases l with l|⟨_,c,e,z⟩
     .exact absurd l.1 hloc
     .obtain⟨c',e'⟩:=pH (cells:=X.env.cells) Np;have:=Y _ _ e';rw[e]at this;cases this;refine .inr ⟨?_,c,e',cellK _ _ z⟩;rcases h3 with q|q
      .exact absurd q (by
        -- a name that is free in Oa block is not local there
        exact(by
         intro q
         have:scope.names.lookup x=O .local:=by
          have hb:∀(names:Z (Str×ME)),(names.map λ(n,k)=>if(k==Lf&&X.env.scope.kind==.function&&X.env.kindOf n==O .cell)then(n,ME.cell)else(n,k)).lookup x=O .local->names.lookup x=O .local:=by
           intro names;induction names with
           |nil=>intro h;simp at h
           |cons y r ih=>
            obtain⟨n,k⟩:=y;intro h;simp only[Ia]at h;by_cases hx:x=n
            .subst hx;split at h
             .simp[N6]at h
             .simpa[N6] using h
            .have ZS:(x==n)=ξ:=by simpa using hx
             split at h
             .simp only[N6,ZS]at h ⊢;exact ih h
             .simp only[N6,ZS]at h ⊢;exact ih h
          exact hb _ q
         rw[S.lf _ Np rfl]at this;cases this))
      .exact q
 .obtain⟨v,z⟩:=I.cell x c (Y _ _ h);exact⟨v,cellK _ _ z⟩
 .show(Kt src G).length=M.length;unfold Kt;rw[Hl,S.len]
theorem uJ{use:C (Value->Sem Unit)}(S:G4 X.N X.env.scope scope M src)(hc:X.calm=D)(hi:PI X tg iter wi)(hg:M.Nodup->∀ζ s H ex,PG (Jy X M scope ζ s H ex) tg g)(ht:∀ζ s H ex,Qd (Jy X M scope ζ s H ex) ifs tt)
 (he:∀(Y:t2)(H3:Hp)(fp:Z J9)(J5:Value)(pl:Z (J9×Obj))(OC:St)(H9:Hp)(s9:t2)(Q':VK),nC X J1 G H3 Y->(∀b∈fp,gk X J1 H3 b)->nC (Jy X M scope Y.heap.objs.size Y H3 fp) pl OC H9 s9->te OC H9 Q'→
 wpAny (model X.prog X.w) X.A (eval elt (Jy X M scope Y.heap.objs.size Y H3 fp).env) (EP (Jy X M scope Y.heap.objs.size Y H3 fp) pl OC Q') (notedBy (model X.prog X.w) X.A (Jy X M scope Y.heap.objs.size Y H3 fp).env (λe s'=>Uv (model X.prog X.w) X.A X.xe use QQ J5 Y.heap.objs.size (.error e) s')) s9) (hs:∀x,Om iter X.env x=pure x) (I:nC X J1 G H s) (h:mo src wi g tt te G H Q)
 (hfin:∀(θ ζ:J9)(H':Hp)(s':t2)(m:Str->C Value),nC X J1 G H' s'->gk X J1 H' ζ->s'.heap.Ns ζ m->Q (.ref θ) H'->Uv (model X.prog X.w) X.A X.xe use QQ (.ref θ) ζ (.ok .next) s') :
  wpAny (model X.prog X.w) X.A (zi6 (.ListComp elt [⟨tg,iter,ifs,0⟩] scope pos) scope X.env Hb (newList []) ξ (eval iter X.env) use) QQ X.xe s:=by
 have LN:∀x∈scope.names,x.2=.free->∃c,X.env.cells.lookup x.1=O c:=λx hx Np=>I.ok.has x.1 (S.free x hx Np)
 refine wpAny_comprehension_free (use:=use) rfl hs (kG LN) S.kind S.names (Hx (hi J1 s G H _ I h) λv s1 h1=>Hx h1 λitv s2 h2=>?_);obtain⟨it,fp,tn,δ,H2,rfl,I2,T,JA,f2,hq⟩:=h2;refine Ma ?_;have I3:nC X J1 G (upd H2 s2.heap.objs.size (.e [])) {s2 with heap:=s2.heap.push {cls:=.type "list",dict:=V,data:=.seq ([]:Z Value).toArray},toks:=s2.toks}:=I2.Wo (J8:=[]) (ys:=[]) (t':=s2.toks) .nil Ξ;have hD:H2 s2.heap.objs.size=V:=I2.fresh;obtain⟨W,⟨m0,w0⟩,turn⟩:=hq _ hD;generalize hDn:s2.heap.objs.size=θ at*
 generalize hs3:({s2 with heap:=s2.heap.push {cls:=.type "list",dict:=V,data:=.seq ([]:Z Value).toArray},toks:=s2.toks}:t2)=Y at*
 have f3:∀b∈fp,gk X J1 (upd H2 θ (.e [])) b:=λb hb=>⟨by obtain⟨o,e,_⟩:=T.obj _ _ JA b hb;rw[ax (by rw[<- hDn];exact Js (Ih e))];exact(f2 b hb).1,(f2 b hb).2⟩
 have k23:∀b o,s2.heap.get? b=O o->Y.heap.get? b=O o:=λb o e=>by rw[<- hs3];exact gP _ e
 have KA:tn 0 Y.heap:=T.keep _ _ _ JA λb _ o e=>k23 b o e
 have fl3:∀b∈fp,b<Y.heap.objs.size:=λb hb=>by obtain⟨o,e,_⟩:=T.obj _ _ KA b hb;exact Ih e
 refine wpAny_newFunctionEnv S.OB (by intro y hy;simp at hy) (λKU R7 R8=>?_) S.kind;have k34:∀b o,Y.heap.get? b=O o->KU.get? b=O o:=λb o e=>R8.extBut b o (Js (Ih e)) (gP _ e)
 generalize hs4:({Y with heap:=KU,toks:=Y.toks+([]:Z (Str×Value)).length}:t2)=s4
 have I4:nC (Jy X M scope Y.heap.objs.size Y (upd H2 θ (.e [])) fp) [] (Kt src G) (upd H2 θ (.e [])) s4:=by rw[<- hs4];exact wg S I3 f3 fl3 R7 k34 rfl rfl
 have Oc:tn 0 s4.heap:=T.keep _ _ _ KA λb _ o e=>by rw[<- hs4];exact k34 b o e
 generalize NM:Jy X M scope Y.heap.objs.size Y (upd H2 θ (.e [])) fp=X' at*
 have hg':PG X' tg g:=by rw[<- NM];exact hg S.nd _ _ _ _
 have R9:Qd X' ifs tt:=by rw[<- NM];exact ht _ _ _ _
 have eP:X'.prog=X.prog:=by rw[<- NM];rfl
 have eW:X'.w=X.w:=by rw[<- NM];rfl
 have eK:X'.K=X.K:=by rw[<- NM];rfl
 have eA:X'.A=X.A:=by rw[<- NM];rfl
 have ZJ:X'.xe=λ_ _=>False:=by rw[<- NM];rfl
 have ec:X'.calm=D:=by rw[<- NM];exact hc
 have eE:X'.env=compEnvC scope (gh scope.names X.env.cells) Y.heap.objs.size X.env:=by rw[<- NM];rfl
 have MM:∀{H':Hp},(∀b∈fp,H' b=V)->∀b∈fp,gk X' [] H' b:=λhn b hb=>by
  rw[<- NM];refine⟨hn b hb,Js (fl3 b hb),λz=>?_,.inl hb,λx c h=>(f3 b hb).2.2.2.2.1 x c (jK LN h),λp hp=>absurd hp (by simp[Jy])⟩;rcases HU.mp (I3.KR b z)with q|q
  .exact(f3 b hb).2.1 q
  .exact(f3 b hb).2.2.1 q
 -- behind Oa block
 have fin:∀(H':Hp)(s':t2),nC X' [] (Kt src G) H' s'->Q (.ref θ) H'->Uv (model X.prog X.w) X.A X.xe use QQ (.ref θ) Y.heap.objs.size (.ok .next) s':=by
  intro H' s' J' q;rw[<- NM]at J';obtain⟨m,hn,_⟩:=id J'.loc;have hC:H' Y.heap.objs.size=V:=J'.free;have un:Un (ML X.stack) fp (upd H2 θ (.e [])) H' Y.heap s'.heap:=J'.base;have IA:nC X J1 G H' s':=I3.QX (s':=s') (show s'.os=Y.os from J'.os) un J'.Hm J'.bare λb hb=>⟨(f3 b hb).2.2.2.1,(f3 b hb).2.1,(f3 b hb).2.2.2.2.1,(f3 b hb).2.2.2.2.2⟩
  exact hfin θ _ H' s' m IA (I3.Mf (HG _) hC) hn q
 have loop:∀s4':t2,s4'=s4->MF (model X.prog X.w) X.A (.compLoop (.ListComp elt [⟨tg,iter,ifs,0⟩] scope pos) 0 (.ref it) (.ref θ) X'.env) (Uv (model X.prog X.w) X.A X.xe use QQ (.ref θ) Y.heap.objs.size) s4':=by
  rintro _ rfl;refine qZ (λn s'=>∃i H',nC X' [] (Kt src G) H' s'/\tn i s'.heap/\(∀b∈fp,H' b=V)/\W i n H') ?_ m0 ⟨0,_,I4,Oc,λb hb=>(f3 b hb).1,w0⟩;rintro n s5 ⟨i,H5,I5,UD,ZP,w5⟩;rcases turn i n H5 w5 with ⟨stop,qn⟩|⟨go,N,hN,step⟩
  .have:=T.done X' eP eW eK ec i [] s5 (Kt src G) H5 (λ_ _=>False) I5 (MM ZP) UD stop;rw[eA]at this;refine Hx this λr s6 ⟨hr,I6⟩=>?_
   subst hr;exact fin H5 s6 I6 qn
  .have:=T.item X' eP eW eK ec i [] s5 (Kt src G) H5 (λ_ _=>False) I5 (MM ZP) UD go;rw[eA]at this;refine Hx this λr s6 ⟨u,hr,h6⟩=>?_
   subst hr;refine Hx h6 λ_ s7 ⟨x,H7,I7,r7,y7,st7,fr7⟩=>?_
   have I7':=I7.pinned (MM fr7) (T.obj _ _ st7);have a1:=hg' _ s7 (Kt src G) H7 x u _ I7' r7 (step x H7 y7);rw[ZJ,eP,eW,eA]at a1;refine Hx a1 λ_ s8 ⟨OC,H8,I8,wk8,q8⟩=>?_
   have a2:=R9 _ s8 OC H8 _ I8 q8;rw[ZJ,eP,eW,eA]at a2;refine Hx a2 λok s9 ⟨H9,I9,q9⟩=>?_
   have again:∀{Wx:Hp}{s':t2},nC X' ([]++jd fp s7.heap) OC Wx s'->N Wx->∃m,m<n/\∃i H',nC X' [] (Kt src G) H' s'/\tn i s'.heap/\(∀b∈fp,H' b=V)/\W i m H':=λ{Wx s'} J7 n7=>by obtain⟨m',hm,w7⟩:=hN Wx n7;refine⟨m',hm,i+1,Wx,J7.JX.weak wk8.1 wk8.2,T.keep _ _ _ st7 λb hb o e=>(J7.pin (b,o) (Lr _ (Lr _ (fL hb e)))).1,λb hb=>?_,w7⟩;obtain⟨o,e,d⟩:=T.obj _ _ st7 b hb;exact(J7.pin (b,o) (Lr _ (Lr _ (fL hb e)))).2.1
   cases ok with
   |false=>exact again I9 q9
   |true=>
    have I9':nC (Jy X M scope Y.heap.objs.size Y (upd H2 θ (.e [])) fp) ([]++jd fp s7.heap) OC H9 s9:=by rw[NM];exact I9
    have a3:=he Y (upd H2 θ (.e [])) fp (.ref θ) _ OC H9 s9 _ I3 f3 I9' q9;rw[NM]at a3;refine Hx a3 λv s10 ⟨y,H10,I10,r10,ys,hl,hz,q10⟩=>?_
    have a4:=ji (X:=X') _ s10 OC H10 (.ref θ) [y] (.ref θ) [v] (λ_ H'=>N H') I10 rfl (.cons r10 .nil) ⟨θ,ys,y,rfl,rfl,hl,hz,q10⟩;rw[ZJ,eP,eW,eA]at a4;refine Hx a4 λ_ s11 ⟨_,H11,I11,_,ZT⟩=>?_
    exact again I11 ZT
 have e4:∀c:Env,c=X'.env->MF (model X.prog X.w) X.A (.compStart (.ListComp elt [⟨tg,iter,ifs,0⟩] scope pos) 0 (.ref it) (.ref θ) c) (Uv (model X.prog X.w) X.A X.xe use QQ (.ref θ) Y.heap.objs.size) s4:=by rintro _ rfl;exact codeAny_compStart_list (loop _ rfl) (T.self _ _ _ _ _ Oc (loop _ rfl))
 exact e4 _ (by rw[eE];rfl)
theorem mq(S:G4 X.N X.env.scope scope M src)(hc:X.calm=D)(hi:PI X tg iter wi)(hg:M.Nodup->∀ζ s H ex,PG (Jy X M scope ζ s H ex) tg g)(ht:∀ζ s H ex,Qd (Jy X M scope ζ s H ex) ifs tt)
 (he:∀ζ s H ex,PE (Jy X M scope ζ s H ex) elt te) (hs:∀x,Om iter X.env x=pure x) (I:nC X J1 G H s) (h:mo src wi g tt te G H Q)
 (Y:∀(θ ζ:J9)(H':Hp)(s':t2)(m:Str->C Value),nC X J1 G H' s'->gk X J1 H' ζ->s'.heap.Ns ζ m->Q (.ref θ) H'->Uv (model X.prog X.w) X.A X.xe use QQ (.ref θ) ζ (.ok .next) s') :
  wpAny (model X.prog X.w) X.A (zi6 (.ListComp elt [⟨tg,iter,ifs,0⟩] scope pos) scope X.env Hb (newList []) ξ (eval iter X.env) use) QQ X.xe s:=
 uJ S hc hi hg ht (λs3 H3 fp J5 pl OC H9 s9 Q' _ _ δ q=>MD (he _ _ _ _ pl s9 OC H9 Q' δ q) (λ_ _ x=>x) λ_ _ x=>KP x) hs I h Y
theorem nC.but{ζ:J9}{h3:Heap}(I2:nC X J1 G H s)(hC:gk X J1 H ζ)(sb3:Pj ζ s.heap h3):nC X J1 G H {s with heap:=h3}:=by
 have kC:∀b o,b≠ζ->s.heap.get? b=O o->h3.get? b=O o:=λb o Y e=>sb3.extBut b o Y e
 have nm:∀{b:J9},b∉[ζ]->b≠ζ:=λY z=>Y (by rw[z];exact N5)
 refine I2.QX (s':={s with heap:=h3}) (ch:=[ζ]) rfl ⟨λb o e n Y hx=>kC b o (nm hx) e,λb o e n Y hx=>⟨o.slots,kC b o (nm hx) e⟩,λb o e n hx=>n,λb o e hx=>⟨o,kC b o (nm hx) e⟩,λb xs e=>e,λb o u e=>e,λb ps e=>⟨#[],by rw[Array.append_empty];exact e⟩,λb qs e=>e⟩ ?_ I2.bare λb Y=>?_
 .intro b u e;have nb:b≠ζ:=λz=>by rw[z,hC.1]at e;cases e
  refine(I2.Hm b u e).HW (λc v Ow q=>kC c v ?_ q) (λ_ q=>q) (λ_ _ q=>q) λ_ _ _ q=>q
  rcases Ow with z|z
  .rw[z];exact nb
  .intro w;rw[w,hC.1]at z;cases z
 .cases HK.mp Y;exact⟨hC.2.2.2.1,hC.2.1,hC.2.2.2.2.1,hC.2.2.2.2.2⟩
theorem wj (S:G4 X.N X.env.scope scope M src) (hc:X.calm=D) (hi:PI X tg iter wi) (hg:M.Nodup->∀ ζ s H ex,PG (Jy X M scope ζ s H ex) tg g) (ht:∀ ζ s H ex,Qd (Jy X M scope ζ s H ex) ifs tt)
  (he:∀ζ s H ex,PE (Jy X M scope ζ s H ex) elt te) (hs:∀x,Om iter X.env x=pure x:=by intro _;rfl) :
  PE X (.ListComp elt [⟨tg,iter,ifs,0⟩] scope pos) (mo src wi g tt te):=by
 intro J1 s G H Q I h;rw[eval_ListComp];exact mq (use:=V) S hc hi hg ht he hs I h λθ ζ H' s' m IA hC hn q=>⟨m,hn,λh' Y=>⟨.ref θ,H',IA.but hC Y,rfl,q⟩⟩
end
def ZU(x:Str):It:=⟨λi _=>i<x.cps.size,λi H v H'=>H'=H/\∃c,x.cps[i]?=O c/\v=.str ⟨#[c]⟩,λi _=>i=x.cps.size⟩
variable{P:HL}{tg:Jc}
theorem uK(x:Str)(t:Tok)(it:J9):Mg P w K tg (ZU x) [it] it (λi h=>h.IsStrIter it "str_ascii_iterator" x t i) where
 mem:=by simp
 obj:=λi h st b Y=>by
  have e:b=it:=by simpa using Y
  subst e;obtain⟨o,e,c,d⟩:=st;exact⟨o,e,λv z=>by rw[d]at z;cases z⟩
 keep:=λi h h' st k=>let ⟨o,ho,r⟩:=st;⟨o,k it Ξ o ho,r⟩
 item:=by
  intro X hP hw hK hc i J1 s G H E I hf st q;subst hP hw hK;obtain⟨f0,f1,f2,f3,f4,f5⟩:=hf it Ξ;have q:i<x.cps.size:=q;refine wpAny_pyNext_ascii_item st (c:=x.cps[i]) (by simp[q]) λh' Ps sb=>?_
  have I1:nC X J1 G H {s with heap:=h',toks:=s.toks+1}:=I.turned (t':=s.toks+1) (λb o Y e=>(sb.2 b Y).trans e) f0 f1 f3 f4 f5;obtain⟨o,e,c,d⟩:=id Ps;exact⟨_,rfl,me (s:={s with heap:=h',toks:=s.toks+1}) e c d Ω ⟨.str ⟨#[x.cps[i]]⟩,H,I1,⟨_,rfl⟩,⟨rfl,x.cps[i],by simp[q],rfl⟩,Ps,λb Y=>(hf b Y).1⟩⟩
 done:=by intro X hP hw hK hc i J1 s G H E I hf st q;subst hP hw hK;have q:i=x.cps.size:=q;obtain⟨f0,f1,f2,f3,f4,f5⟩:=hf it Ξ;exact wpAny_pyNext_ascii_end (I.ok.hd hc) st (by simp[q]) λh' eb=>⟨rfl,I.turned (t':=s.toks) (λb o Y e=>eb b o Y e) f0 f1 f3 f4 f5⟩
 self:=λ_ _ _ _ _ st h=>wpAny_pyIter_striter_ascii st h
theorem uL(x:Str)(t:Tok)(it:J9):Mg P w K tg (ZU x) [it] it (λi h=>h.IsStrIter it "str_iterator" x t i) where
 mem:=by simp
 obj:=λi h st b Y=>by
  have e:b=it:=by simpa using Y
  subst e;obtain⟨o,e,c,d⟩:=st;exact⟨o,e,λv z=>by rw[d]at z;cases z⟩
 keep:=λi h h' st k=>let ⟨o,ho,r⟩:=st;⟨o,k it Ξ o ho,r⟩
 item:=by
  intro X hP hw hK hc i J1 s G H E I hf st q;subst hP hw hK;obtain⟨f0,f1,f2,f3,f4,f5⟩:=hf it Ξ;have q:i<x.cps.size:=q;refine wpAny_pyNext_wide_item st (c:=x.cps[i]) (by simp[q]) λh' Ps sb=>?_
  have I1:nC X J1 G H {s with heap:=h',toks:=s.toks+1}:=I.turned (t':=s.toks+1) (λb o Y e=>(sb.2 b Y).trans e) f0 f1 f3 f4 f5;obtain⟨o,e,c,d⟩:=id Ps;exact⟨_,rfl,me (s:={s with heap:=h',toks:=s.toks+1}) e c d Ω ⟨.str ⟨#[x.cps[i]]⟩,H,I1,⟨_,rfl⟩,⟨rfl,x.cps[i],by simp[q],rfl⟩,Ps,λb Y=>(hf b Y).1⟩⟩
 done:=by intro X hP hw hK hc i J1 s G H E I hf st q;subst hP hw hK;have q:i=x.cps.size:=q;obtain⟨f0,f1,f2,f3,f4,f5⟩:=hf it Ξ;exact wpAny_pyNext_wide_end (I.ok.hd hc) st (by simp[q]) λh' eb=>⟨rfl,I.turned (t':=s.toks) (λb o Y e=>eb b o Y e) f0 f1 f3 f4 f5⟩
 self:=λ_ _ _ _ _ st h=>wpAny_pyIter_striter_wide st h
section
variable{X:Cx}{tg:Jc}
def iStr(tl:TE):TI:=λG H R=>tl G H λv H1=>∃x,v=.str x/\R (ZU x) H1
theorem wm{l:Jc}{tl:TE}(hl:PE X l tl):PI X tg l (iStr tl):=by
 intro J1 s G H R I h;refine Hx (hl J1 s G H _ I h) λv s1 ⟨y,H1,I1,r1,q1⟩=>?_
 obtain⟨x,e,q⟩:=q1;subst e;obtain⟨t,rfl⟩:=r1
 have Y:∀b∈[s1.heap.objs.size],gk X J1 H1 b:=λb hb=>by
  have e:b=s1.heap.objs.size:=by simpa using hb
  subst e;exact I1.Mf (HG _) (I1.Hm.fresh (HG _))
 cases ha:x.cps.all (· < 128)
 .refine wpAny_pyIter_wide ha ?_;exact⟨s1.heap.objs.size,[s1.heap.objs.size],_,_,H1,rfl,I1.kept (t':=s1.toks) λb o e=>gP _ e,uL x t _,⟨_,Ji _ rfl,rfl,rfl⟩,Y,q⟩
 .refine wpAny_pyIter_ascii ha ?_;exact⟨s1.heap.objs.size,[s1.heap.objs.size],_,_,H1,rfl,I1.kept (t':=s1.toks) λb o e=>gP _ e,uK x t _,⟨_,Ji _ rfl,rfl,rfl⟩,Y,q⟩
theorem io:∀{bs:Z Bool}{us:Z Value},Da (bs.map ψ.bl) us->us=bs.map PY
 |[],_,.nil=>rfl
 |b::r,_,.cons h t=>by have h:_=PY b:=h;rw[h,io t];rfl
theorem mr{bs:Z Bool}:(HQ bs.length).map (λi=>bs.getD i ξ)=bs:=by
 apply Uc
 .simp
 .intro i h1 h2;simp at h1;simp[h1]
theorem gv(hc:X.calm=D):Hw X (.builtin "all") (λxs H Q=>∃(a:J9)(bs:Z Bool),xs=[.ref a]/\Io X.K H a (bs.map ψ.bl)/\Q (.bl (bs.all id)) H):=by
 intro J1 s G H xs us Q I r h;obtain⟨a,bs,rfl,hq,q⟩:=h;obtain⟨u,rfl,ru⟩:=d4 r;cases ru;obtain⟨J8,rv,p,hz⟩:=I.list hq;have eu:=io rv;subst eu
 have JB:a≠s.heap.objs.size:=by obtain⟨o,n,e,_⟩:=p;exact Js (Ih e)
 refine call_all_walk (Zc p.isList ⟨s.heap.objs.size,_,_,_,_,_,λi=>bs.getD i ξ,rfl,Walks.list (A:=X.A.in1) (I.ok.hd hc) _ a JB (bs.map PY).toArray,⟨⟨_,Ji _ rfl,rfl,rfl⟩,?_⟩,?_,?_⟩)
 .obtain⟨o,ho,hr⟩:=p.isList;exact⟨o,gP _ ho,hr⟩
 .intro i v s' Q' E' Y hQ;rw[zf6,Je]at Y;cases e:bs[i]? with
  |none=>rw[e]at Y;cases Y
  |some b=>rw[e]at Y;cases Y;refine PQ ?_;dsimp only at hQ;rw[JN,e]at hQ;exact hQ
 .intro h' tk hk;refine⟨.bl _,H,I.kept (h':=h') (t':=tk) λb o e=>hk b o (λz=>?_) (gP _ e),rfl,?_⟩
  .have z:b=s.heap.objs.size:=by simpa using z
   subst z;exact absurd (Ih e) (PN _)
  .have e:(HQ (bs.map PY).toArray.size).all (λi=>bs.getD i ξ)=bs.all id:=by
    conv=>rhs;rw[<- mr (bs:=bs)]
    rw[List.all_map];simp
   rw[e];exact q
theorem pI(hc:X.calm=D):Hw X (.builtin "any") (λxs H Q=>∃(a:J9)(bs:Z Bool),xs=[.ref a]/\Io X.K H a (bs.map ψ.bl)/\Q (.bl (bs.any id)) H):=by
 intro J1 s G H xs us Q I r h;obtain⟨a,bs,rfl,hq,q⟩:=h;obtain⟨u,rfl,ru⟩:=d4 r;cases ru;obtain⟨J8,rv,p,hz⟩:=I.list hq;have eu:=io rv;subst eu
 have JB:a≠s.heap.objs.size:=by obtain⟨o,n,e,_⟩:=p;exact Js (Ih e)
 refine call_any_walk (Zc p.isList ⟨s.heap.objs.size,_,_,_,_,_,λi=>bs.getD i ξ,rfl,Walks.list (A:=X.A.in1) (I.ok.hd hc) _ a JB (bs.map PY).toArray,⟨⟨_,Ji _ rfl,rfl,rfl⟩,?_⟩,?_,?_⟩)
 .obtain⟨o,ho,hr⟩:=p.isList;exact⟨o,gP _ ho,hr⟩
 .intro i v s' Q' E' Y hQ;rw[zf6,Je]at Y;cases e:bs[i]? with
  |none=>rw[e]at Y;cases Y
  |some b=>rw[e]at Y;cases Y;refine PQ ?_;dsimp only at hQ;rw[JN,e]at hQ;exact hQ
 .intro h' tk hk;refine⟨.bl _,H,I.kept (h':=h') (t':=tk) λb o e=>hk b o (λz=>?_) (gP _ e),rfl,?_⟩
  .have z:b=s.heap.objs.size:=by simpa using z
   subst z;exact absurd (Ih e) (PN _)
  .have e:(HQ (bs.map PY).toArray.size).any (λi=>bs.getD i ξ)=bs.any id:=by
    conv=>rhs;rw[<- mr (bs:=bs)]
    rw[List.any_map];simp
   rw[e];exact q
theorem mt:∀{ts:Z Str}{us:Z Value},Da (ts.map ψ.str) us->∃l,us=strValues l/\l.map (·.1)=ts
 |[],_,.nil=>⟨[],rfl,rfl⟩
 |x::r,_,.cons h t=>by obtain⟨tk,rfl⟩:=h;obtain⟨l,Y,q⟩:=mt t;exact⟨(x,tk)::l,by rw[Y];rfl,by rw[<- q];rfl⟩
theorem zN:Q4 X "str.join" (λx vs H Q=>∃(a:Str)(l:J9)(ts:Z Str),x=.str a/\vs=[.ref l]/\Io X.K H l (ts.map ψ.str)/\JoinOk a ts=D/\Q (.str (Txt.join a ts)) H):=by intro J1 s G H x vs v us Q I rx rv h;obtain⟨a,l,ts,rfl,rfl,hq,hj,q⟩:=h;obtain⟨t,rfl⟩:=rx;obtain⟨u,rfl,Y⟩:=rv.one;cases Y;obtain⟨J8,r,p,hz⟩:=I.list hq;obtain⟨ls,rfl,e2⟩:=mt r;exact SC.join p.isList e2 hj λt' k=>⟨.str _,H,I.tok _,⟨_,rfl⟩,q⟩
theorem n9:Hw X (.type "int") (λxs H Q=>∃x n,xs=[.str x]/\PySem.intText? x=O n/\x.length<=640/\Q (.int n) H):=by intro J1 s G H xs us Q I r h;obtain⟨x,n,rfl,Y,hl,q⟩:=h;obtain⟨u,rfl,ru⟩:=d4 r;obtain⟨t,rfl⟩:=ru;exact PySem.W.KIN.call_text Y hl ⟨.int n,H,I.tok _,⟨_,rfl⟩,q⟩
theorem tj{v:Value}{o:C Int}(h:Op v o):∃p:C (Int×Tok),v=partValue p/\o=p.map (·.1):=by
 cases o with
 |none=>exact⟨V,by cases h<;>rfl,rfl⟩
 |some i=>cases h;exact⟨O (i,_),rfl,rfl⟩
def Wz:ψ->C Int->C Int->Hp->VK->Prop:=λx lo hi H Q=>∃z,x=.str z/\z.length<=Hz/\Q (.str (Txt.slice z lo hi)) H
theorem Di:Nn X Wz:=by intro J1 s G H x v vl vu lo hi sl Q I rx hs pl pu h;obtain⟨z,rfl,Y,q⟩:=h;obtain⟨t,rfl⟩:=rx;obtain⟨l,rfl,rfl⟩:=tj pl;obtain⟨u,rfl,rfl⟩:=tj pu;refine⟨"str",_,F.slot_str_getitem.lookup,typeIs_str _ _ _,?_⟩;exact wpAny_getItem_str_slice (l:=l) (u:=u) (st:=V) hs rfl (post_val_or_str ⟨Iw (Txt.slice_le z _ _) Y,λt' k=>⟨.str _,H,I.tok _,⟨_,rfl⟩,q⟩⟩)
end
theorem Dj:Kk "len"=O (.builtin "len"):=by first|exact PySem.boot_len|exact PyProof.Rows.boot_len|decide +kernel
theorem kH:Kk "all"=O (.builtin "all"):=by first|exact PySem.boot_all|exact PyProof.Rows.boot_all|decide +kernel
theorem wn:Kk "any"=O (.builtin "any"):=by first|exact PySem.boot_any|exact PyProof.Rows.boot_any|decide +kernel
theorem lX:Kk "isinstance"=O (.builtin "isinstance"):=by first|exact PySem.boot_isinstance|exact PyProof.Rows.boot_isinstance|decide +kernel
theorem rb:Kk "max"=O (.builtin "max"):=by first|exact PySem.boot_max|exact PyProof.Rows.boot_max|decide +kernel
theorem Dk:Kk "min"=O (.builtin "min"):=by first|exact PySem.boot_min|exact PyProof.Rows.boot_min|decide +kernel
theorem uM:Kk "sorted"=O (.builtin "sorted"):=by first|exact PySem.boot_sorted|exact PyProof.Rows.boot_sorted|decide +kernel
theorem wo:Kk "int"=O (.type "int"):=by first|exact PySem.boot_int|exact PyProof.Rows.boot_int|decide +kernel
theorem oe:Kk "str"=O (.type "str"):=by first|exact PySem.boot_str|exact PyProof.Rows.boot_str|decide +kernel
theorem og:Kk "bool"=O (.type "bool"):=by first|exact PySem.boot_bool|exact PyProof.Rows.boot_bool|decide +kernel
theorem iJ:Kk "tuple"=O (.type "tuple"):=by first|exact PySem.boot_tuple|exact PyProof.Rows.boot_tuple|decide +kernel
theorem dw:Kk "list"=O (.type "list"):=by first|exact PySem.boot_list|exact PyProof.Rows.boot_list|decide +kernel
theorem oh:Kk "enumerate"=O (.type "enumerate"):=by first|exact PySem.boot_enumerate|exact PyProof.Rows.boot_enumerate|decide +kernel
structure G9(P:HL)(w:Ja)(K:Hk)(mg:Str->Option Value)(base:Heap)(x:Str)(k:Nat)(ps:List Str)(sp:Sp):Prop where
 ex:∃f fd,mg x=O (.ref f)/\NH K (.ref f)=D/\JY K fd ps []/\JG P w K mg base Lk k f fd ps sp
structure Ho(K:Hk)(mg:Str->Option Value)(x:Str)(st:Jb)(ps:List Str):Prop where
 ex:∃f fd,mg x=O (.ref f)/\NH K (.ref f)=D/\JY K fd ps []/\Q5 K x x st f fd
section
variable{P:HL}{w:Ja}{K:Hk}{mg:Str->C Value}{base:Heap}
theorem Ho.ok{st:Jb}(F:Ho K mg x st ps)(S:ma N ps (ab st))(len:∀vs H Q E,sp vs H Q E->vs.length=ps.length)
 (q:∀(f:J9)(Hv:Value)(A:HM)(outer:Z Env)(s:t2)(H:Hp)(vs:Z ψ)(Q:VK)(E:XK),Hh k (A.deeper (M9 x (ab st) s.heap.objs.size f Hv))->sp vs H Q E→
 ∃t,Kq (kz Lk P w K mg base N x (ab st) f Hv A outer s H E).Pm (aH st) t/\t {nx:=λ_ H'=>Q .G8 H',rt:=Q} (start N vs) H):G9 P w K mg base x (k+1) ps sp:=by
 obtain⟨f,fd,h1,h2,h3,Y⟩:=F.ex;exact⟨f,fd,h1,h2,h3,Y.ok S len (q f)⟩
theorem Ho.mk'{st:Jb}{kV ct:Value}{h:Heap}(X:K.In h)(σ:h.Ns ID mg)
 (a:JT K ID x=O (O (.ref f)))
 (l:K.lookup f=O ⟨oc,od,.func (LJ x x (bY st) (aH st) (ab st) .none kV doc pm an Hv ct),Mh⟩) (c:Pk K Hv x=D) (k:NH K (.ref f)=D)
 (q:∀(kV doc pm:Value)(an:C J9)(Hv ct:Value)(us:Z Value),us.length=ps.length->Uu (LJ x x (bY st) (aH st) (ab st) .none kV doc pm an Hv ct) ⟨us,[]⟩=pure (ps.zip us)):Ho K mg x st ps:=
 ⟨f,_,PZ X σ a,k,(n6 l c k).binds q,n6 l c k⟩
end
section
variable{X:Cx}{k:Nat}{ps:Z Str}{sp:Sp}{x:Str}{p pos:Pos}{e:Jc}{es:Z Jc}{t:TA}
theorem wq (F:G9 X.prog X.w X.K X.mg X.base x k ps sp) (hr:Hh k X.A) (hg:Gl X x) (ha:PA X (e::es) t) (q:(x==("__debug__":Str))=ξ:=by decide)
  (he:G7 (e::es) X.env=(ξ,eval e X.env)::G7 es X.env:=by rfl) (Y:(IK pos (G7 es X.env)).any (·.1)=ξ:=by rfl):PE X (.Call (.Name x p) (e::es) [] pos) (vW sp [] E0 t):=by
 obtain⟨f,fd,h1,h2,h3,h4⟩:=F.ex;exact zw h4 hr hg h1 h2 h3 .nil Ga ha q he Y
end
noncomputable def wt(N:Z Str)(outer scope:Jd)(M:Z Str)(src:Z (C Nat)):Bool:=
 (match scope.kind with|.function=>D|_=>ξ)&&
 scope.names.all (λy=>decide (y.2≠.cell))&&
 scope.names.all (λy=>!decide (y.2=.free)||(decide (outer.names.lookup y.1=O .cell)||decide (outer.names.lookup y.1=O .free)))&&
 scope.names.all (λy=>!decide (y.2=.local)||decide (scope.names.lookup y.1=O .local))&&
 scope.names.all (λy=>!decide (y.2=.free)||decide (scope.names.lookup y.1=O .free))&&
 decide (M.length=src.length)&&decide M.Nodup&&
 (M.zip src).all (λp=>match p.2 with|none=>D|some j=>decide (N[j]?=O p.1)&&decide ((p.1,Lf)∈scope.names))
variable{src:Z (C Nat)}
theorem G4.of{outer:Jd}{M:Z Str}(h:wt N outer scope M src=D):G4 N outer scope M src:=by
 unfold wt at h;simp only[IH,QD,O9,PD,decide_eq_true_eq,decide_eq_false_iff_not]at h;obtain⟨⟨⟨⟨⟨⟨⟨h1,h2⟩,h3⟩,h4⟩,h5⟩,h6⟩,h7⟩,h8⟩:=h;refine⟨?_,h2,λy q e=>(h3 y q).resolve_left λz=>z e,λy q e=>(h4 y q).resolve_left λz=>z e,λy q e=>(h5 y q).resolve_left λz=>z e,h6,h7,λp hp j Y=>?_⟩
 .revert h1;cases scope.kind<;>simp
 .have:=h8 p hp;cases e:p.2 with
  |none=>rw[e]at Y;cases Y
  |some j'=>rw[e]at Y this;cases Y;simpa using this
def KW(δ:It)(xs:Z ψ)(ok:Hp->Prop):Prop:=∀i H,ok H->(i<xs.length->δ.go i H)/\(i=xs.length->δ.stop i H)/\∀x H',i<xs.length->δ.P5 i H x H'->H'=H/\xs[i]?=O x
theorem JI:KW (Itl K a) xs (λH=>Io K H a xs):=λi H h=>⟨λhi=>⟨xs,xs[i],h,by simp[hi]⟩,λe=>⟨xs,h,Θ⟩,λx H' _ y=>⟨y.1,y.2 xs h⟩⟩
theorem Lv:KW (Itt K a) xs (λH=>II K H a xs):=λi H h=>⟨λhi=>⟨xs,xs[i],h,by simp[hi]⟩,λe=>⟨xs,h,Θ⟩,λx H' _ y=>⟨y.1,y.2 xs h⟩⟩
noncomputable def kJ(lo:Int)(n:Nat):Z ψ:=(HQ n).map λ(i:Nat)=>ψ.int (lo+i)
theorem Ku{lo:Int}{n:Nat}:KW (V6 lo n) (kJ lo n) (λ_=>True):=λi H h=>by
 refine⟨λhi=>?_,λe=>?_,λx H' hi y=>?_⟩
 .show i<n;simpa[kJ] using hi
 .show n<=i;simp[kJ]at e;lia
 .obtain⟨e,rfl⟩:=y;refine⟨e,?_⟩;unfold kJ at hi ⊢;rw[Hl,RC]at hi;rw[Je,List.getElem?_range hi];rfl
noncomputable def tm(x:Str):Z ψ:=x.cps.toList.map λc=>ψ.str ⟨#[c]⟩
theorem Lw:KW (ZU x) (tm x) (λ_=>True):=λi H h=>by
 refine⟨λhi=>?_,λe=>?_,λv H' hi y=>?_⟩
 .show i<x.cps.size;simpa[tm] using hi
 .show i=x.cps.size;simpa[tm] using e
 .obtain⟨e,c,q,rfl⟩:=y;refine⟨e,?_⟩;unfold tm;rw[Je,Vp,q];rfl
def BA(src:Z (C Nat))(g:TG)(tt:TT)(te:TE)(G:St)(δ:It)(H1:Hp)(Q:VK)(θ:J9):Prop:=∃W:Nat->Nat->Hp->Prop,(∃m,W 0 m (upd H1 θ (.e [])))/\∀i m H,W i m H→
 (δ.stop i H/\Q (.ref θ) H)∨(δ.go i H/\∃N:Hp->Prop,(∀H',N H'->∃m',m'<m/\W (i+1) m' H')/\∀x H',δ.P5 i H x H'→
  g x (Kt src G) H' λq H2=>Wk (Kt src G) q/\tt q H2 λb H3=>if b=D then te q H3 λv Y=>∃ys,Y θ=O (.e ys)/\ys.length<Hz/\N (upd Y θ (.e (ys++[v])))else N H3)
variable{wi:TI}{g:TG}{te:TE}
theorem wu{tt:TT}:mo src wi g tt te G H Q=wi G H λδ H1=>∀θ,H1 θ=V->BA src g tt te G δ H1 Q θ:=rfl
def Dl(g:TG)(tb:TS)(θ:Li)(δ:It)(G:St)(H1:Hp):Prop:=∃W:Nat->Nat->St->Hp->Prop,(∃m,W 0 m G H1)/\∀i m G H,W i m G H→ (δ.stop i H/\θ.nx G H)∨(δ.go i H/\∃N:St->Hp->Prop,(∀q H',N q H'->∃m',m'<m/\W (i+1) m' q H')/\∀x H',δ.P5 i H x H'->g x G H' λY H2=>tb {θ with nx:=N,ct:=N,bk:=θ.nx} Y H2)
theorem tp{tb:TS}{θ:Li}:V7 wi g tb θ G H=wi G H λδ H1=>Dl g tb θ δ G H1:=rfl
variable{v:ψ}
theorem wv(hg:Gl X x)(Y:∃u,X.mg x=O u/\BI v u)(q:(x==("__debug__":Str))=ξ:=by decide):PE X (.Name x pos) (tC v):=by obtain⟨u,h1,h2⟩:=Y;exact zm hg h1 h2 q
noncomputable abbrev iK(qual:Str)(scope:Jd)(L f:J9)(cd:Value)(cl:Z (Str×J9)):Env:=PySem.W.envX qual scope L f cd (Ky (L+1) scope.names []++cl)
def pJ(CX:Ob)(P:HL)(w:Ja)(K:Hk)(mg:Str->C Value)(base:Heap)(N:Z Str)(qual:Str)(scope:Jd)(f:J9)(q:Value)(cl:Z (Str×J9))(A:HM)(outer:Z Env)(s:t2)(H:Hp)(E:XK)(xe:Value->t2->Prop):Cx where
 prog:=P
 w:=w
 K:=K
 mg:=mg
 base:=base
 A:=A.deeper (iK qual scope s.heap.objs.size f q cl)
 N:=N
 s₀:=s
 Md:=H
 env:=iK qual scope s.heap.objs.size f q cl
 outer:=outer
 stack:=iK qual scope s.heap.objs.size f q cl::outer
 ex:=[]
 calm:=true
 fn:=λx=>(scope.names.lookup x != O .free)
 pn:=[]
 xe:=xe
structure Ka(N ps fr:List Str)(sc:Jd):Prop where
 kind:sc.kind=.function
 co:sc.isCoroutine=ξ
 gen:sc.isGenerator=ξ
 nd:N.Nodup
 pre:N.take ps.length=ps
 post:N.drop (N.length-fr.length)=fr
 room:ps.length+fr.length<=N.length
 par:∀x∈ps,sc.names.lookup x=O .local∨sc.names.lookup x=O .cell
 frk:∀x∈fr,sc.names.lookup x=O .free
 all:∀x,sc.names.lookup x=O .free->x∈fr
noncomputable def eF(N:Z Str)(vs fs:Z ψ):St:=vs.map O++(Ol (N.length-vs.length-fs.length) V++fs.map O)
noncomputable def fY(c:J9)(o:Obj):HO:=.Ii o (.ext λh=>h.get? c=O o)
noncomputable def cR(H:Hp)(cl:Z (Str×J9)):Hp:=λb=>if b∈cl.map (·.2)then V else H b
noncomputable def fB(H:Hp)(cl:Z (Str×J9))(H':Hp):Hp:=λb=>if b∈cl.map (·.2)then H b else H' b
theorem jk{n:Nat}{sc:Jd}(h:sc.names.lookup x≠O .cell)(nd:∀y∈sc.names,y.1=x->sc.names.lookup x=O y.2):(Ky n sc.names []).lookup x=V:=by
 have key:∀(names:Z (Str×ME))(n:Nat)(J5:Z (Str×J9)),(∀y∈names,y.1=x->y.2≠.cell)->J5.lookup x=V->(Ky n names J5).lookup x=V:=λnames=>by
  induction names with
  |nil=>intro n J5 _ h;exact h
  |cons y r ih=>
   intro n J5 q ha;obtain⟨a,k⟩:=y;unfold Ky;split
   .rename_i hk;refine ih _ _ (λz Y=>q z (.tail _ Y)) ?_;rw[N6];cases hb:x==a with
    |false=>exact ha
    |true=>exact absurd (by simpa using hk) (q (a,k) (.head _) (beq_iff_eq.mp hb).symm)
   .exact ih _ _ (λz Y=>q z (.tail _ Y)) ha
 exact key sc.names n [] (λy q e hk=>h (by rw[nd y q e,hk])) rfl
structure MQ(H:Hp)(f:J9)(name qual:Str)(params:LH)(body:List Jb)(scope:Jd)(cl:List (Str×J9))(fr:List Str)(fs:List ψ)(c':J9)(doc pm IM:Value)(fo:Obj)(uf:HO):Prop where
 fn:H f=O (.Ii fo uf)
 dat:fo.data=.func (NI name qual params body scope cl .none .none doc pm V (.ref c') IM)
 Sa:∃oc,H c'=O (.Ii oc (.code qual))
 Mk:∀x c,(x,c)∈cl->∃o u,H c=O (fY c o)/\o.data=.cell (O u)
 inj:∀x y c,cl.lookup x=O c->cl.lookup y=O c->x=y
 len:fs.length=fr.length
 val:∀(i:Nat)(x:Str)(v:ψ),fr[i]?=O x->fs[i]?=O v->∃c o u,cl.lookup x=O c/\H c=O (fY c o)/\o.data=.cell (O u)/\BI v u
 Kn:∀x c,cl.lookup x=O c->scope.names.lookup x=O .free
variable{b:J9}
section
variable{P:HL}{w:Ja}{H:Hp}{h:Heap}{cl:Z (Str×J9)}
theorem iL(q:b∈cl.map (·.2)):cR H cl b=V:=if_pos q
theorem bn(q:b∉cl.map (·.2)):cR H cl b=H b:=if_neg q
theorem mw{o:HO}(h:cR H cl b=O o):b∉cl.map (·.2)/\H b=O o:=by
 by_cases q:b∈cl.map (·.2)
 .rw[iL q]at h;cases h
 .rw[bn q]at h;exact⟨q,h⟩
theorem iM(q:b∈cl.map (·.2)):∃x,(x,b)∈cl:=by obtain⟨⟨x,c⟩,Y,rfl⟩:=Jg.mp q;exact⟨x,Y⟩
theorem Jj.hide(ok:Jj P w H h)(Y:∀x c,(x,c)∈cl->∃o u,H c=O (fY c o)/\o.data=.cell (O u)):Jj P w (cR H cl) h:=λb u e=>by
 obtain⟨hb,e⟩:=mw e
 have out:∀c o,H c=O o->(∀ob φ,o≠.Ii ob (.ext φ))->cR H cl c=O o:=λc o q hn=>by
  rw[bn λz=>?_]
  .exact q
  .obtain⟨x,hx⟩:=iM z;obtain⟨ob,u,g,_⟩:=Y x c hx;rw[q]at g;exact hn _ _ (L3 g)
 exact(ok b u e).HW (λ_ _ _ q=>q) (λc q=>out c _ q λ_ _ z=>nomatch z) (λc xs q=>out c _ q λ_ _ z=>nomatch z) λc ob xs q=>out c _ q λ_ _ z=>nomatch z
end
section
variable{CX:Ob}{P:HL}{w:Ja}{K:Hk}{mg:Str->C Value}{base:Heap}{N ps fr:Z Str}{name qual:Str}{params:LH}{body:Z Jb}{scope:Jd}{f c':J9}{cl:Z (Str×J9)}{A:HM}{outer:Z Env}{s s1:t2}{H:Hp}{E:XK}{us:Z Value}{vs fs:Z ψ}{doc pm IM:Value}{fo:Obj}{uf:HO}{xe:Value->t2->Prop}
theorem re (S:Ka N ps fr scope) (ζ:MQ H f name qual params body scope cl fr fs c' doc pm IM fo uf) (NN:∀ x,∀ y∈scope.names,y.1=x->scope.names.lookup x=O y.2) (hd:A.handled=V) (e0:LK P w K mg base A outer s H) (hl:vs.length=ps.length) (r:Da vs us)
  (x:PU s s.heap.objs.size (bindL (iK qual scope s.heap.objs.size f (.ref c') cl).kindOf (ps.zip us) λ_=>V) (Ky (s.heap.objs.size+1) scope.names []) (bindC (iK qual scope s.heap.objs.size f (.ref c') cl).kindOf (ps.zip us) λ_=>V) s1) :
  nC (pJ CX P w K mg base N qual scope f (.ref c') cl A outer s (cR H cl) E xe) [] (eF N vs fs) (cR H cl) s1:=by
 obtain⟨h1,tk,rfl,hk⟩:=x.done;have hplen:ps.length<=N.length:=Iw (Nat.le_add_right _ _) S.room
 have own:∀y c,(Ky (s.heap.objs.size+1) scope.names []).lookup y=O c->scope.names.lookup y=O .cell:=λy c h=>by apply YU;intro hn;rw[jk hn (NN y)]at h;cases h
 have WA:∀y c,cl.lookup y=O c->∃o u,s.heap.get? c=O o/\o.data=.cell (O u)/\c<s.heap.objs.size:=λy c h=>by obtain⟨o,u,g,d⟩:=ζ.Mk y c (PySem.mem_of_lookup h);have q:=(e0.Hm c _ g).1;exact⟨o,u,q,d,Ih q⟩
 have split:∀y c,(Ky (s.heap.objs.size+1) scope.names []++cl).lookup y=O c->((Ky (s.heap.objs.size+1) scope.names []).lookup y=O c/\s.heap.objs.size<c)∨(cl.lookup y=O c/\c<s.heap.objs.size):=λy c h=>by
  rw[dk]at h;cases q:(Ky (s.heap.objs.size+1) scope.names []).lookup y with
  |some d=>rw[q]at h;cases h;exact .inl ⟨rfl,x.above y _ (PySem.mem_of_lookup q)⟩
  |none=>rw[q]at h;have h:cl.lookup y=O c:=h;exact .inr ⟨h,let ⟨_,_,_,_,z⟩:=WA y c h;z⟩
 have noA:∀b:J9,b∉(pJ CX P w K mg base N qual scope f (.ref c') cl A outer s (cR H cl) E xe).ex:=λb z=>absurd (show b∈([]:Z J9)from z) Ξ
 have hn:∀b,H b=V->cR H cl b=V:=λb h=>by
  by_cases hb:b∈cl.map (·.2)
  .exact iL hb
  .rw[bn hb];exact h
 have ZV:∀p∈c6 K,cR H cl p.1=O (.Jx p.2):=λp hp=>by
  rw[bn λz=>?_]
  .exact e0.tb p hp
  .obtain⟨x,hx⟩:=iM z;obtain⟨o,u,g,_⟩:=ζ.Mk x _ hx;rw[e0.tb p hp]at g;cases g
 refine⟨⟨e0.mod,S.kind,rfl,rfl,HG _,λy z c h1 h2=>?_,λy Y=>?_,λy c hf h=>?_,λ_=>hd,HM.frames_deeper e0.frames,.inr ⟨rfl,rfl⟩,λb z=>absurd z (noA b),λb o e=>⟨(e0.bs b o e).1,hn b (e0.bs b o e).2⟩,e0.N9,λb _ _=>noA b,λb z=>absurd z (noA b),e0.JW,λb hb=>hn b (e0.P4 b hb),ZV⟩,rfl,e0.bare,Un.kept hk,⟨_,x.toInCall.ns,λi y v h1 h2 h3=>?_⟩,λy c h=>?_,hn _ (e0.Hm.fresh (HG _)),λy c h=>?_,λp hp=>absurd (show p∈([]:Z (J9×Obj))from hp) Ξ,(e0.Hm.hide ζ.Mk).kept hk,?_⟩
 .rcases split y c h1 with ⟨g1,l1⟩|⟨g1,l1⟩<;>rcases split z c h2 with ⟨g2,l2⟩|⟨g2,l2⟩
  .exact zj7 x.apart (PySem.mem_of_lookup g1) (PySem.mem_of_lookup g2)
  .exact absurd l2 (Nat.lt_asymm l1)
  .exact absurd l1 (Nat.lt_asymm l2)
  .exact ζ.inj y z c g1 g2
 .have Y:scope.names.lookup y=O .cell∨scope.names.lookup y=O .free:=Y;show ∃c,(Ky (s.heap.objs.size+1) scope.names []++cl).lookup y=O c;rw[dk];rcases Y with Y|Y
  .obtain⟨c,e⟩:=iE (n:=s.heap.objs.size+1) Y;exact⟨c,by rw[e];rfl⟩
  .rw[jk (by rw[Y];decide) (NN y)];obtain⟨i,hi⟩:=Vv (S.all y Y);have Mw:i<fs.length:=by rw[ζ.len];exact(gX hi).1
   obtain⟨c,_,_,e,_⟩:=ζ.val i y fs[i] hi (by simp[Mw]);exact⟨c,e⟩
 .have hf:(scope.names.lookup y != O .free)=D:=hf;rcases split y c h with ⟨_,l1⟩|⟨g1,_⟩
  .exact ND l1
  .rw[ζ.Kn y c g1]at hf;simp at hf
 .by_cases hi:i<vs.length
  .have ha:vs[i]?=O v:=by
    unfold eF at h2;rw[LF (by simpa using hi),Je]at h2;cases e:vs[i]? with
    |none=>rw[e]at h2;cases h2
    |some a=>rw[e]at h2;cases h2;rfl
   obtain⟨u,hu,rv⟩:=r.get ha
   have hp:ps[i]?=O y:=by rw[<- S.pre,za3 Θ];exact h1
   have Wc:ps.Nodup:=by rw[<- S.pre];exact S.nd.sublist (Vw _ _)
   refine⟨u,rv,?_⟩;rcases S.par y (Ls hp)with k|k
   .exact .inl ⟨k,jf Wc hp hu k⟩
   .obtain⟨c,e⟩:=iE (n:=s.heap.objs.size+1) k;refine .inr ⟨.inl k,c,?_,?_⟩
    .show(Ky (s.heap.objs.size+1) scope.names []++cl).lookup y=O c;rw[dk,e];rfl
    .have q:=x.cell y c e;rw[jg Wc hp hu (by show scope.names.lookup y≠_;rw[k];decide)]at q;exact q
  .unfold eF at h2;rw[Pa (by simpa using hi)]at h2;rw[Hl]at h2;by_cases hj:i-vs.length<N.length-vs.length-fs.length
   .rw[LF (by simpa using hj),Vt]at h2;split at h2<;>cases h2
   .rw[Pa (by simpa using hj),Vu,Je]at h2;obtain⟨v',hv,e⟩:=mS h2;cases e;have hroom:=S.room;have UE:=ζ.len
    have Np:fr[i-vs.length-(N.length-vs.length-fs.length)]?=O y:=by rw[<- S.post,qz1];rw[show N.length-fr.length+(i-vs.length-(N.length-vs.length-fs.length))=i by lia];exact h1
    obtain⟨c,o,u,e1,e2,e3,e4⟩:=ζ.val _ y v Np hv;refine⟨u,e4,.inr ⟨.inr (ζ.Kn y c e1),c,?_,?_⟩⟩
    .show(Ky (s.heap.objs.size+1) scope.names []++cl).lookup y=O c;rw[dk,jk (by rw[ζ.Kn y c e1];decide) (NN y),e1];rfl
    .exact⟨o,hk c o (e0.Hm c _ e2).1,e3⟩
 .rcases split y c h with ⟨g1,_⟩|⟨g1,_⟩
  .exact⟨_,x.cell y c g1⟩
  .obtain⟨o,u,q,d,_⟩:=WA y c g1;exact⟨_,o,hk c o q,d⟩
 .rcases split y c h with ⟨_,l1⟩|⟨g1,_⟩
  .exact hn _ (e0.Hm.fresh (ND l1))
  .exact iL (Jg.mpr ⟨(y,c),PySem.mem_of_lookup g1,rfl⟩)
 .unfold eF;show _=N.length;rw[HZ,HZ,Hl,Vu,Hl];have:=S.room;have:=ζ.len;lia
theorem ww{args:Args}(S:Ka N ps fr scope)(ζ:MQ H f name qual params body scope cl fr fs c' doc pm IM fo uf)(NN:∀x,∀y∈scope.names,y.1=x->scope.names.lookup x=O y.2)(hr:Hh (k+1) A)(e0:LK P w K mg base A outer s H)
 (hb:Pf s (NI name qual params body scope cl .none .none doc pm V (.ref c') IM) args (ps.zip us)) (hl:vs.length=ps.length) (r:Da vs us)
 (Mi:Hh k (A.deeper (iK qual scope s.heap.objs.size f (.ref c') cl))->∃t,Kq (pJ CX P w K mg base N qual scope f (.ref c') cl A outer s (cR H cl) E λ_ _=>False) body t/\t {nx:=λ_ H'=>(∀b∈cl.map (·.2),H' b=V)->Q .G8 (fB H cl H'),rt:=λv H'=>(∀b∈cl.map (·.2),H' b=V)->Q v (fB H cl H')} (eF N vs fs) (cR H cl)) :
  MF (model P w) A (.call (.ref f) args) (CR CX outer P w H s Q E) s:=by
 have KX:K.In s.heap:=e0.mod.UA.keeps λb o e=>(e0.bs b o e).1
 have lim:s.heap.NoLimit:=e0.mod.nolimit.keeps λb o e=>(e0.bs b o e).1
 have Kr:∀y∈ps.zip us,scope.names.lookup y.1=O .local∨(scope.names.lookup y.1=O .cell/\((Ky (s.heap.objs.size+1) scope.names []).lookup y.1).isSome=D):=λ⟨n,v⟩ hy=>by
  rcases S.par n (Y2 hy).1 with q|q
  .exact .inl q
  .exact .inr ⟨q,xS9 _ _ _ (.inl q)⟩
 refine zf3 hr.depth (e0.Hm f _ ζ.fn).1 ζ.dat S.co S.gen rfl (let ⟨_,z⟩:=ζ.Sa;(e0.Hm c' _ z).2) (hb _ _ _ _ ?_);refine zK S.kind Kr λenv he s1 x=>?_
 subst he;refine⟨lim.keeps x.toInCall.keep,codeAny_func ?_⟩;obtain⟨t,ht,hq⟩:=Mi (hr.deeper _);have I:nC (pJ CX P w K mg base N qual scope f (.ref c') cl A outer s (cR H cl) E λ_ _=>False) [] (eF N vs fs) (cR H cl) s1:=re S ζ NN hr.hd e0 hl r x;refine MD (ht [] s1 (eF N vs fs) (cR H cl) _ I hq) (λfl s' hs=>?_) λe s' hs=>hs.elim
 have fin:∀{JF:St}{H':Hp}{v:ψ}{u:Value},nC (pJ CX P w K mg base N qual scope f (.ref c') cl A outer s (cR H cl) E λ_ _=>False) [] JF H' s'->BI v u->((∀b∈cl.map (·.2),H' b=V)->Q v (fB H cl H'))->CE outer P w H s Q u s':=λ{JF H' v u} δ rv q=>by
  have cn:∀b,b∈cl.map (·.2)->∃o u,H b=O (fY b o)/\o.data=.cell (O u):=λb hb=>by obtain⟨x,hx⟩:=iM hb;exact ζ.Mk x b hx
  have kc:∀b o,b∈cl.map (·.2)->s.heap.get? b=O o->s'.heap.get? b=O o/\H' b=V:=λb o hb q=>by
   obtain⟨o',u,g,d⟩:=cn b hb;have hfs:b∉ML outer:=λz=>by have:=e0.P4 b z;rw[g]at this;cases this
   exact⟨δ.base.keep b o q (iL hb) hfs (λz=>absurd (show b∈([]:Z J9)from z) Ξ),δ.base.free b o q (iL hb) (λz=>absurd (show b∈([]:Z J9)from z) Ξ)⟩
  have sin:∀{b:J9},b∈cl.map (·.2)->fB H cl H' b=H b:=λhb=>if_pos hb
  have KF:∀{b:J9},b∉cl.map (·.2)->fB H cl H' b=H' b:=λhb=>if_neg hb
  have Sb:∀(b:J9)(o:HO),H b=O o->(∀ob φ,o≠.Ii ob (.ext φ))->b∉cl.map (·.2):=λb o q hno z=>by obtain⟨ob,u,g,_⟩:=cn b z;rw[q]at g;exact hno _ _ (L3 g)
  have q:=q λb hb=>by obtain⟨o',u',g,d⟩:=cn b hb;exact(kc b o' hb (e0.Hm b _ g).1).2
  refine⟨v,fB H cl H',δ.os,δ.bare,⟨λb o q n hb hx=>?_,λb o q n hb hx=>?_,λb o q n hx=>?_,λb o q hx=>?_,λb xs q=>?_,λb o u q=>?_,λb ps q=>?_,λb qs q=>?_⟩,λb o q=>?_,rv,q⟩
  .have Y:b∉cl.map (·.2):=λz=>by obtain⟨_,_,g,_⟩:=cn b z;rw[n]at g;cases g
   exact δ.base.keep b o q ((bn Y).trans n) hb (λz=>absurd (show b∈([]:Z J9)from z) Ξ)
  .have Y:b∉cl.map (·.2):=λz=>by obtain⟨_,_,g,_⟩:=cn b z;rw[n]at g;cases g
   exact δ.base.slot b o q ((bn Y).trans n) hb (λz=>absurd (show b∈([]:Z J9)from z) Ξ)
  .have Y:b∉cl.map (·.2):=λz=>by obtain⟨_,_,g,_⟩:=cn b z;rw[n]at g;cases g
   rw[KF Y];exact δ.base.free b o q ((bn Y).trans n) (λz=>absurd (show b∈([]:Z J9)from z) Ξ)
  .exact δ.base.there b o q (λz=>absurd (show b∈([]:Z J9)from z) Ξ)
  .have Y:=Sb b _ q λ_ _ z=>nomatch z
   rw[KF Y];exact δ.base.Lg b xs ((bn Y).trans q)
  .by_cases Y:b∈cl.map (·.2)
   .rw[sin Y];exact q
   .rw[KF Y];exact δ.base.JV b o u ((bn Y).trans q)
  .have Y:=Sb b _ q λ_ _ z=>nomatch z
   rw[KF Y];exact δ.base.Lh b ps ((bn Y).trans q)
  .have Y:=Sb b _ q λ_ _ z=>nomatch z
   rw[KF Y];exact δ.base.Ni b qs ((bn Y).trans q)
  .by_cases Y:b∈cl.map (·.2)
   .rw[sin Y]at q;obtain⟨ob,u,g,d⟩:=cn b Y;rw[q]at g;cases g;have e1:=(e0.Hm b _ q).1;have e2:=(kc b ob Y e1).1;exact⟨e2,e2,⟨ob,e2⟩,λh1 h2 z1 z2=>z2 ob z1⟩
   .rw[KF Y]at q
    have up:∀c o,H' c=O o->fB H cl H' c=O o:=λc o z=>by
     by_cases QW:c∈cl.map (·.2)
     .obtain⟨ob,u,g,d⟩:=cn c QW;have e1:=(e0.Hm c _ g).1;rw[(kc c ob QW e1).2]at z;cases z
     .rw[KF QW];exact z
    exact(δ.Hm b o q).HW (λ_ _ _ z=>z) (λc z=>up c _ z) (λc xs z=>up c _ z) λc ob xs z=>up c _ z
 cases fl with
 |ret u=>obtain⟨v,JF,H',δ,rv,q⟩:=hs;exact fin δ rv q
 |next=>obtain⟨JF,H',δ,q⟩:=hs;exact fin (v:=ψ.G8) (u:=LI) δ rfl q
 |brk=>obtain⟨_,_,_,q⟩:=hs;exact KP q
 |cont=>obtain⟨_,_,_,q⟩:=hs;exact KP q
end
structure Ll(mg:Str->Option Value)(base:Heap)(c P:J9):Prop where
 code:ZH base c P
 bm:∃bm ob,mg "__builtins__"=O (.ref bm)/\bm≠RL/\base.get? bm=O ob/\ob.cls=.type "module"/\ob.dict=O RL/\ob.data=.plain
theorem jL:∀{l m:Z Value},Ur l->Ur m->Ur (l++m)
 |[],m,_,h=>h
 |.int _ _::.int _ _::_::r,m,h,h'=>jL (l:=r) h h'
theorem my:∀{l m:Z Value},Ur l->Oo pos (l++m)=(Oo pos l).or (Oo pos m)
 |[],m,_=>by simp[Oo]
 |.int a t::.int b u::c::r,m,h=>by
  have h:Ur r:=h;show(if _ then _ else Oo pos (r++m))=Option.or (if _ then _ else Oo pos r) _;split
  .rfl
  .exact my h
structure Made(H H':Hp)(lo:Nat)(f c':J9)(qual:Str)(fo:Obj):Prop where
 fn:H' f=O (.Ii fo (.ext λh=>h.get? f=O fo))
 Sa:∃oc,H' c'=O (.Ii oc (.code qual))
 old:∀b o,H b=O o->H' b=O o
 new:∀b o,H' b=O o->H b=O o∨(lo<=b/\H b=V)
 lof:lo<=f
section
variable{X:Cx}{J1:Z (J9×Obj)}{G:St}{H:Hp}{s:t2}{c P:J9}{qs:Z ((Nat×Nat)×Str)}{name:Str}{params:LH}{body:Z Jb}{scope:Jd}{Jl:Z (Str×J9)}{pos:Pos}
theorem zO{Q:Value->t2->Prop}(I:nC X J1 G H s)(B:Ll X.mg X.base c P)(Q6:X.env.code=.ref c)(hP:H P=O (.Jx qs))(hq:((pos.line,pos.col),qual)∈qs)(WB:∀q,((pos.line,pos.col),q)∈qs->q=qual)(Qe:VN scope X.env=pure Jl)
 (q:∀(f c':J9)(doc pm IM:Value)(H':Hp)(s':t2),Made H H' s.heap.objs.size f c' qual {cls:=.type "function",data:=.func (NI name qual params body scope Jl .none .none doc pm V (.ref c') IM)}->nC X J1 G H' s'->Q (.ref f) s') :
  wpAny (model X.prog X.w) A (makeFunction name qual params (.stmts body) scope X.env [] [] [] pos pos.line) Q E s:=by
 obtain⟨ps,hp,ht,WC⟩:=I.Hm P _ hP
 have inB:∀{b:J9}{o:Obj},X.base.get? b=O o->b≠P:=λ{b o} e z=>by have:=(I.bs b o e).2;rw[z,hP]at this;cases this
 have hg:s.heap.Ns ID X.mg:=I.mod.glob.keeps I.bk;obtain⟨bm,ob,b1,b2,b3,b4,b5,b6⟩:=B.bm
 have hgP:ID≠P:=by obtain⟨o,es,ep,e,_⟩:=I.mod.glob;exact inB e
 have hbG:bm≠ID:=λz=>by obtain⟨o,es,ep,e,hd,_⟩:=I.mod.glob;rw[z,e]at b3;cases b3;rw[hd]at b6;cases b6
 have hB:s.heap.BuiltinsAt X.mg P:=⟨bm,ob,b1,b2,hbG,inB b3,I.bk _ _ b3,b4,b5,b6⟩;have ζ:ZH s.heap c P:=B.code.keeps I.bk;have lt:∀{b:J9}{o:HO},H b=O o->b<s.heap.objs.size:=λh=>I.Hm.lt h
 cases hf:Oo pos ps.toList with
 |some cv=>
  obtain⟨c',oc,rfl,Ow⟩:=WC pos qual cv hq hf;refine PySem.W.makeFunction_hit Qe I.ok.glob hg Q6 ζ hp ht hf hB λIM doc h' tk hk hsz=>?_
  have Np:H h'.objs.size=V:=I.Hm.fresh hsz
  have I2:=I.laid (a:=h'.objs.size) (o:=.Ii {cls:=.type "function",data:=.func (NI name qual params body scope Jl .none .none doc ((X.mg "__name__").getD .none) V (.ref c') IM)} (.ext λh=>h.get? h'.objs.size=O {cls:=.type "function",data:=.func (NI name qual params body scope Jl .none .none doc ((X.mg "__name__").getD .none) V (.ref c') IM)})) (t':=tk) (h':=h'.push {cls:=.type "function",data:=.func (NI name qual params body scope Jl .none .none doc ((X.mg "__name__").getD .none) V (.ref c') IM)}) (λb o e=>gP _ (hk b o e)) hsz
   ⟨Ji _ rfl,Ji _ rfl,⟨_,Ji _ rfl⟩,λh1 h2 z1 z2=>z2 _ z1⟩
  refine q _ c' doc _ IM _ _ ⟨aA,?_,λb o e=>?_,λb o e=>?_,hsz⟩ I2
  .refine⟨oc,?_⟩;rw[ax (Js (Le (lt Ow) hsz))];exact Ow
  .rw[ax (Js (Le (lt e) hsz))];exact e
  .by_cases hb:b=h'.objs.size
   .exact .inr ⟨by rw[hb];exact hsz,by rw[hb];exact Np⟩
   .rw[ax hb]at e;exact .inl e
 |none=>
  refine PySem.W.makeFunction_K Qe I.ok.glob hg Q6 ζ hp ht hf hgP hB λc' IM doc h' tk hx WD Mw hrec ZV=>?_
  obtain⟨c2,oc,vs,t,e2,V3,WE⟩:=hrec;cases e2;have Np:H h'.objs.size=V:=I.Hm.fresh (Iw WD (ND Mw));have hcr:H c'=V:=I.Hm.fresh WD;have JB:c'≠h'.objs.size:=Js Mw;generalize hfo:({cls:=.type "function",data:=.func (NI name qual params body scope Jl .none .none doc ((X.mg "__name__").getD .none) V (.ref c') IM)}:Obj)=fo;have hfo':(PySem.W.fnMade name qual params body scope Jl doc ((X.mg "__name__").getD .none) c' IM)=fo:=hfo;rw[hfo'];have Nl:fo.isFreed=ξ:=by rw[<- hfo];rfl
  have gf:(h'.push fo).get? h'.objs.size=O fo:=Ji _ Nl;let H':Hp:=upd (upd H c' (.Ii oc (.code qual))) h'.objs.size (.Ii fo (.ext λh=>h.get? h'.objs.size=O fo))
  have Y:∀b o,H b=O o->H' b=O o:=λb o e=>by show upd (upd H c' (.Ii oc (.code qual))) h'.objs.size _ b=O o;rw[ax (λz=>by rw[z,Np]at e;cases e),ax (λz=>by rw[z,hcr]at e;cases e)];exact e
  have WF:∀b o,H' b=O o->H b=O o∨(s.heap.objs.size<=b/\H b=V):=λb o e=>by
   by_cases h1:b=h'.objs.size
   .exact .inr ⟨by rw[h1];exact Iw WD (ND Mw),by rw[h1];exact Np⟩
   .by_cases h2:b=c'
    .exact .inr ⟨by rw[h2];exact WD,by rw[h2];exact hcr⟩
    .have e:upd (upd H c' (.Ii oc (.code qual))) h'.objs.size _ b=O o:=e;rw[ax h1,ax h2]at e;exact .inl e
  have kp:∀b o,b≠P->s.heap.get? b=O o->(h'.push fo).get? b=O o:=λb o hb e=>gP _ (hx b o hb e)
  have Sc:H' c'=O (.Ii oc (.code qual)):=by show upd (upd H c' (.Ii oc (.code qual))) h'.objs.size _ c'=_;rw[ax JB,aA]
  have un:Un X.fs [] H H' s.heap (h'.push fo):=by
   have nP:∀{b:J9},H b=V->b≠P:=λ{b} n z=>by rw[z,hP]at n;cases n
   refine⟨λb o e n _ _=>kp b o (nP n) e,λb o e n _ _=>⟨o.slots,by rw[kp b o (nP n) e]⟩,λb o e n _=>?_,λb o e _=>?_,λb xs e=>Y b _ e,λb o u e=>Y b _ e,λb ps e=>⟨#[],by rw[Y b _ e];simp⟩,λb qs e=>Y b _ e⟩
   .cases z:H' b with
    |none=>rfl
    |some w=>
     rcases WF b w z with y|⟨y,_⟩
     .rw[n]at y;cases y
     .exact absurd (Ih e) (Ug.mpr y)
   .by_cases hb:b=P
    .rw[hb];exact⟨_,gP _ ZV⟩
    .exact⟨o,kp b o hb e⟩
  have Hm:Jj X.prog X.w H' (h'.push fo):=λb o e=>by
   by_cases h1:b=h'.objs.size
   .subst h1;have e:upd (upd H c' (.Ii oc (.code qual))) h'.objs.size _ h'.objs.size=O o:=e;rw[aA]at e;cases e;exact⟨gf,gf,⟨_,gf⟩,λh1 h2 z1 z2=>z2 _ z1⟩
   .by_cases h2:b=c'
    .subst h2;rw[Sc]at e;cases e;exact⟨gP _ V3,b,oc,vs,t,rfl,gP _ V3,WE⟩
    .have eH:H b=O o:=by have e:upd (upd H c' (.Ii oc (.code qual))) h'.objs.size _ b=O o:=e;rw[ax h1,ax h2]at e;exact e
     by_cases h3:b=P
     .subst h3;rw[hP]at eH;cases eH;refine⟨_,gP _ ZV,?_,λpos' q' v h4 h5=>?_⟩
      .rw[qx3];exact jL ht trivial
      .rw[qx3,my ht]at h5;cases h6:Oo pos' ps.toList with
       |some v'=>rw[h6]at h5;cases h5;obtain⟨c2,o2,e1,e2⟩:=WC pos' q' _ h4 h6;exact⟨c2,o2,e1,Y _ _ e2⟩
       |none=>
        rw[h6]at h5;have h5:Oo pos' [Ij pos.line,Ij pos.col,.ref c']=O v:=h5;simp only[Ij,Oo]at h5;split at h5
        .rename_i hh;cases h5;refine⟨c',oc,rfl,?_⟩
         have e1:pos'.line=pos.line/\pos'.col=pos.col:=by simp only[IH,beq_iff_eq]at hh;lia
         rw[e1.1,e1.2]at h4;rw[WB q' h4];exact Sc
        .cases h5
     .refine(I.Hm b o eH).HW (λd u hd z=>kp d u ?_ z) (λd z=>Y d _ z) (λd xs z=>Y d _ z) λd ob xs z=>Y d _ z
      rcases hd with rfl|hd
      .exact h3
      .intro z;rw[z,hP]at hd;cases hd
  exact q _ c' doc _ IM H' _ ⟨by show upd _ _ _ _=_;rw[aA,<- hfo],⟨oc,Sc⟩,Y,WF,Iw WD (ND Mw)⟩ (I.un (t':=tk) un Hm)
end
section
variable{X:Cx}{K:Hk}{tg:Jc}
end
noncomputable def kK(scope outer:Jd):Jd:={scope with names:=scope.names.map λ(n,k)=>if(k==.free&&outer.kind==.function&&outer.names.lookup n==O .cell)then(n,.cell)else(n,k)}
noncomputable def dl(sc:Jd)(N:Z Str)(i:Nat)(x:Str):Bool:=decide (N[i]?=O x)&&(decide (sc.names.lookup x=O .local)||(decide (sc.names.lookup x=O .cell)||decide (sc.names.lookup x=O .free)))&&!(x==("__debug__":Str))&&!(x==("__classdict__":Str))
noncomputable def ip(sc:Jd)(x:Str):Bool:=decide (sc.names.lookup x=O .local)||decide (sc.names.lookup x=O .cell)
noncomputable def aw(sc:Jd)(x:Str):Bool:=decide (sc.names.lookup x=O .globalImplicit)&&!(x==("__debug__":Str))&&!decide (x=("__name__":Str))
section
variable{sc:Jd}{N:Z Str}{i:Nat}{x:Str}
theorem gx(h:dl sc N i x=D):N[i]?=O x:=by unfold dl at h;simp only[IH,decide_eq_true_eq]at h;exact h.1.1.1
theorem Dm(h:dl sc N i x=D):VZ sc x:=by unfold dl at h;simp only[IH,O9,decide_eq_true_eq]at h;exact h.1.1.2
theorem Dn(h:dl sc N i x=D):(x==("__debug__":Str))=ξ:=by unfold dl at h;simp only[IH,PD]at h;exact h.1.2
theorem Gb(h:dl sc N i x=D):(x==("__classdict__":Str))=ξ:=by unfold dl at h;simp only[IH,PD]at h;exact h.2
theorem jm(h:ip sc x=D):P0 sc x:=by unfold ip at h;simp only[O9,decide_eq_true_eq]at h;exact h
theorem q154(h:aw sc x=D):sc.names.lookup x=O .globalImplicit:=by unfold aw at h;simp only[IH,decide_eq_true_eq]at h;exact h.1.1
theorem kL(h:aw sc x=D):(x==("__debug__":Str))=ξ:=by unfold aw at h;simp only[IH,PD]at h;exact h.1.2
theorem Do(h:aw sc x=D):x≠("__name__":Str):=by unfold aw at h;simp only[IH,PD,decide_eq_false_iff_not]at h;exact h.2
end
def bT(X:Cx)(sc:Jd):Prop:=X.env.scope=sc
variable{i:Nat}
section
variable{X:Cx}{sc:Jd}{N:Z Str}{x:Str}{pos p:Pos}
theorem pvD(i:Nat)(h:dl sc N i x=D)(e1:bT X sc:=by rfl)(q:X.N=N:=by rfl):PE X (.Name x pos) (gd i):=by have e1:X.env.scope=sc:=e1;subst e1 q;exact CB (gx h) (Dm h) (Dn h) (Gb h)
theorem NO(h:aw sc x=D)(e1:bT X sc:=by rfl):Gl X x:=by have e1:X.env.scope=sc:=e1;subst e1;exact q154 h
theorem oj{e:Jc}{pos':Pos}(h:dl sc N i x=D)(hl:ip sc x=D)(nd:N.Nodup)(he:PE X e te)(e1:bT X sc:=by rfl)(Y:X.N=N:=by rfl)(q:X.fn x=D∨X.env.scope.names.lookup x=O .local:=by exact .inl rfl)
 (hs:Mu e (O (.Name x pos')) pos.line X.env=pure ξ:=by rfl):PS X (.Assign [.Name x pos'] e pos) (zt te (ku i)):=by
 have e1:X.env.scope=sc:=e1;subst e1 Y;exact CQ nd (gx h) (jm hl) he hs q
theorem ap(h:dl sc N i x=D)(q:ip sc x=D)(Y:N.Nodup)(e1:bT X sc:=by rfl)(e2:X.N=N:=by rfl)(hf:X.fn x=D∨X.env.scope.names.lookup x=O .local:=by exact .inl rfl):PG X (.Name x pos) (ku i):=by have e1:X.env.scope=sc:=e1;subst e1 e2;exact sO Y (gx h) (jm q) hf
noncomputable def WG(sc:Jd)(x:Str):Bool:=decide (sc.names.lookup x=O .local)
theorem bw(h:dl sc N i x=D)(q:WG sc x=D)(Y:X.N.Nodup)(e1:bT X sc)(e2:X.N=N:=by rfl):PG X (.Name x pos) (ku i):=by have e1:X.env.scope=sc:=e1;subst e1 e2;have q:X.env.scope.names.lookup x=O .local:=of_decide_eq_true q;exact sO Y (gx h) (.inl q) (.inr q)
theorem kM(h:aw sc x=D)(q:∃u,X.mg x=O u/\BI v u)(e1:bT X sc:=by rfl):PE X (.Name x pos) (tC v):=wv (NO h e1) q (kL h)
theorem wx{u:Value}(h:aw sc x=D)(q:X.mg x=V)(Y:Kk x=O u)(r:BI v u)(e1:bT X sc:=by rfl):PE X (.Name x pos) (tC v):=zn (NO h e1) q Y r (Do h) (kL h)
variable{e:Jc}{es:Z Jc}{t:TA}{id T:String}{r:Z ψ->Hp->VK->Prop}{k:Nat}{ps:Z Str}{sp:Sp}
theorem g0 (h:aw sc x=D) (hc:Hw X (.builtin id) r) (Y:X.mg x=V) (hv:Kk x=O (.builtin id)) (ha:PA X (e::es) t) (e1:bT X sc:=by rfl)
  (he:G7 (e::es) X.env=(ξ,eval e X.env)::G7 es X.env:=by rfl) (q:(IK pos (G7 es X.env)).any (·.1)=ξ:=by rfl):PE X (.Call (.Name x p) (e::es) [] pos) (We r t):=
 vX hc (NO h e1) Y hv ha (Do h) (kL h) he q
theorem iq (h:aw sc x=D) (hc:Hw X (.type T) r) (Y:X.mg x=V) (hv:Kk x=O (.type T)) (ha:PA X (e::es) t) (e1:bT X sc:=by rfl)
  (he:G7 (e::es) X.env=(ξ,eval e X.env)::G7 es X.env:=by rfl) (q:(IK pos (G7 es X.env)).any (·.1)=ξ:=by rfl):PE X (.Call (.Name x p) (e::es) [] pos) (We r t):=
 uB hc (NO h e1) Y hv ha (Do h) (kL h) he q
theorem jn (h:aw sc x=D) (F:G9 X.prog X.w X.K X.mg X.base x k ps sp) (hr:Hh k X.A) (Y:PA X (e::es) t) (e1:bT X sc:=by rfl)
  (he:G7 (e::es) X.env=(ξ,eval e X.env)::G7 es X.env:=by rfl) (q:(IK pos (G7 es X.env)).any (·.1)=ξ:=by rfl):PE X (.Call (.Name x p) (e::es) [] pos) (vW sp [] E0 t):=
 wq F hr (NO h e1) Y (kL h) he q
variable{tg a b:Jc}{ta:TA}
theorem rf(h:aw sc "range"=D)(Y:X.mg "range"=V)(q:PA X [a] ta)(e1:bT X sc:=by rfl)(hs:G7 [a] X.env=[(ξ,eval a X.env)]:=by rfl):PI X tg (.Call (.Name "range" p) [a] [] pos) (Br ta):=ur (NO h e1) Y q hs
theorem rg (h:aw sc "range"=D) (hm:X.mg "range"=V) (Y:PA X [a,b] ta) (e1:bT X sc:=by rfl) (hs:G7 [a,b] X.env=[(ξ,eval a X.env),(ξ,eval b X.env)]:=by rfl) (q:G7 [b] X.env=[(ξ,eval b X.env)]:=by rfl) :
  PI X tg (.Call (.Name "range" p) [a,b] [] pos) (Bs ta):=ut (NO h e1) hm Y hs q
end
section
variable{X:Cx}{M:Z Str}{scope outer:Jd}{ζ:J9}{s:t2}{H:Hp}{ex:Z J9}{x:Str}{pos p:Pos}
theorem K7(q:bT X outer):bT (Jy X M scope ζ s H ex) (kK scope outer):=by have q:X.env.scope=outer:=q;subst q;rfl
end
inductive Dt where
 |G8|bl (b:Bool)|int (i:Int)|str (x:Str)|t (l:List Dt)|e (l:List Dt)|IJ (ks:List Hr) (l:List Dt)|Jt (ks:List (List Hr)) (l:List Dt)
mutual
noncomputable def Jf:Dt->Dt->Bool
 |.G8,.G8=>D
 |.bl a,.bl b=>a==b
 |.bl a,.int j=>(if a then(1:Int)else 0)==j
 |.int i,.bl b=>i==(if b then(1:Int)else 0)
 |.int i,.int j=>i==j
 |.str x,.str y=>x==y
 |.t l,.t m=>Ib l m
 |.e l,.e m=>Ib l m
 |.IJ ks l,.IJ js m=>decide (ks=js)&&Ib l m
 |.Jt ks l,.Jt js m=>decide (ks=js)&&Ib l m
 |_,_=>ξ
noncomputable def Ib:Z Dt->Z Dt->Bool
 |[],[]=>D
 |d::l,e::m=>Jf d e&&Ib l m
 |_,_=>ξ
end
mutual
theorem iN:∀d:Dt,Jf d d=D
 |.G8=>by simp[Jf]
 |.bl b=>by simp[Jf]
 |.int i=>by simp[Jf]
 |.str x=>by simp[Jf]
 |.t l=>by simp only[Jf];exact IW l
 |.e l=>by simp only[Jf];exact IW l
 |.IJ ks l=>by simp only[Jf,decide_true,RB];exact IW l
 |.Jt ks l=>by simp only[Jf,decide_true,RB];exact IW l
theorem IW:∀l:Z Dt,Ib l l=D
 |[]=>by simp[Ib]
 |d::l=>by simp only[Ib,iN d,IW l,YT]
end
mutual
noncomputable def gy:Dt->Nat
 |.t l=>HA l+1
 |.e l=>HA l+1
 |_=>0
noncomputable def HA:Z Dt->Nat
 |[]=>0
 |d::l=>max (gy d) (HA l)
end
mutual
def G3(K:Hk)(H:Hp):Dt->ψ->Prop
 |.G8,v=>v=.G8
 |.bl b,v=>v=.bl b
 |.int i,v=>v=.int i
 |.str x,v=>v=.str x
 |.t l,v=>∃a vs,v=.ref a/\II K H a vs/\hX K H l vs
 |.e l,v=>∃a vs,v=.ref a/\Io K H a vs/\hX K H l vs
 |.IJ ks l,v=>∃a J6,v=.ref a/\Rd H a (.dK J6)/\J6.map (·.1)=ks/\hX K H l (J6.map (·.2))
 |.Jt ks l,v=>∃a J6,v=.ref a/\Rd H a (.dT J6)/\J6.map (·.1)=ks/\hX K H l (J6.map (·.2))
def hX(K:Hk)(H:Hp):Z Dt->Z ψ->Prop
 |[],vs=>vs=[]
 |d::l,vs=>∃v ws,vs=v::ws/\G3 K H d v/\hX K H l ws
end
theorem zz.tup(e:zz H H')(h:II K H a xs):II K H' a xs:=by
 rcases h with h|h
 .exact .inl (e _ _ h)
 .exact .inr h
theorem zz.rd{u:HO}(e:zz H H')(h:Rd H a u):Rd H' a u:=by
 rcases h with h|⟨o,h⟩
 .exact .inl (e _ _ h)
 .exact .inr ⟨o,e _ _ h⟩
mutual
theorem G3.same{K:Hk}{H H':Hp}(e:zz H H'):∀{d:Dt}{v:ψ},G3 K H d v->G3 K H' d v
 |.G8,v,h=>h
 |.bl _,v,h=>h
 |.int _,v,h=>h
 |.str _,v,h=>h
 |.t l,v,h=>by unfold G3 at h ⊢;obtain⟨a,vs,h1,h2,h3⟩:=h;exact⟨a,vs,h1,e.tup h2,hX.same e h3⟩
 |.e l,v,h=>by unfold G3 at h ⊢;obtain⟨a,vs,h1,h2,h3⟩:=h;exact⟨a,vs,h1,e.seq h2,hX.same e h3⟩
 |.IJ ks l,v,h=>by unfold G3 at h ⊢;obtain⟨a,vs,h1,h2,h3,h4⟩:=h;exact⟨a,vs,h1,e.rd h2,h3,hX.same e h4⟩
 |.Jt ks l,v,h=>by unfold G3 at h ⊢;obtain⟨a,vs,h1,h2,h3,h4⟩:=h;exact⟨a,vs,h1,e.rd h2,h3,hX.same e h4⟩
theorem hX.same{K:Hk}{H H':Hp}(e:zz H H'):∀{l:Z Dt}{vs:Z ψ},hX K H l vs->hX K H' l vs
 |[],vs,h=>h
 |d::l,vs,h=>by unfold hX at h ⊢;obtain⟨v,ws,h1,h2,h3⟩:=h;exact⟨v,ws,h1,G3.same e h2,hX.same e h3⟩
end
theorem hX.length:∀{l:Z Dt}{vs:Z ψ},hX K H l vs->vs.length=l.length
 |[],vs,h=>by unfold hX at h;rw[h];rfl
 |d::l,vs,h=>by unfold hX at h;obtain⟨v,q,rfl,_,h3⟩:=h;simp[hX.length h3]
theorem hX.get:∀{l:Z Dt}{vs:Z ψ}{i:Nat}{d:Dt},hX K H l vs->l[i]?=O d->∃v,vs[i]?=O v/\G3 K H d v
 |[],vs,i,d,h,e=>by simp at e
 |d0::l,vs,0,d,h,e=>by unfold hX at h;obtain⟨v,ws,rfl,h2,_⟩:=h;simp at e;subst e;exact⟨v,rfl,h2⟩
 |d0::l,vs,i+1,d,h,e=>by unfold hX at h;obtain⟨v,ws,rfl,_,h3⟩:=h;obtain⟨u,q,Y⟩:=hX.get (i:=i) h3 (by simpa using e);exact⟨u,by simpa using q,Y⟩
theorem hX.append:∀{l m:Z Dt}{vs q:Z ψ},hX K H l vs->hX K H m q->hX K H (l++m) (vs++q)
 |[],m,vs,q,h,h'=>by unfold hX at h;rw[h];exact h'
 |d::l,m,vs,q,h,h'=>by unfold hX at h;obtain⟨v,us,rfl,h2,h3⟩:=h;show hX K H (d::(l++m)) (v::(us++q));unfold hX;exact⟨v,_,rfl,h2,hX.append h3 h'⟩
theorem hX.one{d:Dt}(h:G3 K H d v):hX K H [d] [v]:=by unfold hX;exact⟨v,[],rfl,h,by unfold hX;rfl⟩
theorem hX.take:∀{l:Z Dt}{vs:Z ψ}(n:Nat),hX K H l vs->hX K H (l.take n) (vs.take n)
 |_,_,0,_=>by simp[hX]
 |[],vs,n+1,h=>by unfold hX at h;rw[h];simp[hX]
 |d::l,vs,n+1,h=>by unfold hX at h;obtain⟨v,us,rfl,h2,h3⟩:=h;show hX K H (d::l.take n) (v::us.take n);unfold hX;exact⟨v,_,rfl,h2,hX.take n h3⟩
theorem hX.drop:∀{l:Z Dt}{vs:Z ψ}(n:Nat),hX K H l vs->hX K H (l.drop n) (vs.drop n)
 |_,_,0,h=>h
 |[],vs,n+1,h=>by unfold hX at h;rw[h];simp[hX]
 |d::l,vs,n+1,h=>by unfold hX at h;obtain⟨v,us,rfl,h2,h3⟩:=h;exact hX.drop n h3
variable{u:Z (Hr×ψ)}
section
variable{X:Cx}{J1:Z (J9×Obj)}{G:St}{H:Hp}{s:t2}{K:Hk}
theorem nC.Nq{ys:Z ψ}(I:nC X J1 G H s)(h:Io X.K H a xs)(h':II X.K H a ys):False:=by obtain⟨J8,r,pl,_⟩:=I.list h;obtain⟨HF,r',pt,_⟩:=I.tuple h';obtain⟨o,n,e,hc,_⟩:=pl;obtain⟨o',Y,q,_⟩:=pt;rw[e]at Y;cases Y;rw[hc]at q;injection q with z;exact absurd z Ω
theorem Gc{w:Z (Hr×ψ)}(h:Rd H a (.dK u))(h':Rd H a (.dK w)):u=w:=by rcases h with h|⟨o,h⟩<;>rcases h' with h'|⟨o',h'⟩<;>rw[h]at h'<;>cases h'<;>rfl
theorem Gd{u w:Z (Z Hr×ψ)}(h:Rd H a (.dT u))(h':Rd H a (.dT w)):u=w:=by rcases h with h|⟨o,h⟩<;>rcases h' with h'|⟨o',h'⟩<;>rw[h]at h'<;>cases h'<;>rfl
theorem jY{u:HO}(h:Rd H a u):∃o,H a=O o:=by
 rcases h with h|⟨o,h⟩
 .exact⟨_,h⟩
 .exact⟨_,h⟩
theorem nC.Nr(I:nC X J1 G H s){o:Obj}(h:X.K.lookup a=O o):H a=V:=(I.bs a o (I.ok.mod.UA a o h)).2
theorem nC.OD(I:nC X J1 G H s)(h:II X.K H a xs)(h':Rd H a (.dK u)):False:=by
 rcases h with h|⟨o,_,_,h,_⟩
 .rcases h' with h'|⟨o',h'⟩<;>rw[h]at h'<;>cases h'
 .obtain⟨o',e⟩:=jY h';rw[I.Nr h]at e;cases e
theorem nC.OE(I:nC X J1 G H s){u:Z (Z Hr×ψ)}(h:II X.K H a xs)(h':Rd H a (.dT u)):False:=by
 rcases h with h|⟨o,_,_,h,_⟩
 .rcases h' with h'|⟨o',h'⟩<;>rw[h]at h'<;>cases h'
 .obtain⟨o',e⟩:=jY h';rw[I.Nr h]at e;cases e
theorem nC.OF(I:nC X J1 G H s)(h:Io X.K H a xs)(h':Rd H a (.dK u)):False:=by
 rcases h with h|⟨o,_,_,h,_⟩
 .rcases h with h|⟨o,h⟩<;>rcases h' with h'|⟨o',h'⟩<;>rw[h]at h'<;>cases h'
 .obtain⟨o',e⟩:=jY h';rw[I.Nr h]at e;cases e
theorem nC.OG(I:nC X J1 G H s){u:Z (Z Hr×ψ)}(h:Io X.K H a xs)(h':Rd H a (.dT u)):False:=by
 rcases h with h|⟨o,_,_,h,_⟩
 .rcases h with h|⟨o,h⟩<;>rcases h' with h'|⟨o',h'⟩<;>rw[h]at h'<;>cases h'
 .obtain⟨o',e⟩:=jY h';rw[I.Nr h]at e;cases e
theorem wz{w:Z (Z Hr×ψ)}(h:Rd H a (.dK u))(h':Rd H a (.dT w)):False:=by rcases h with h|⟨o,h⟩<;>rcases h' with h'|⟨o',h'⟩<;>rw[h]at h'<;>cases h'
noncomputable def cS:Dt->Nat
 |.G8=>0
 |.bl _=>1
 |.int _=>2
 |.str _=>3
 |.t _=>4
 |.e _=>5
 |.IJ _ _=>6
 |.Jt _ _=>7
theorem dH(I:nC X J1 G H s){d e:Dt}(h:G3 X.K H d v)(h':G3 X.K H e v):cS d=cS e:=by
 cases d<;>cases e<;>first
  |rfl
  |(simp only[G3]at h h';subst h;cases h';done)
  |(simp only[G3]at h h';obtain⟨_,_,e,_⟩:=h';rw[h]at e;cases e;done)
  |(simp only[G3]at h h';obtain⟨_,_,e,_⟩:=h;rw[h']at e;cases e;done)
  | (simp only[G3]at h h';obtain⟨_,_,rfl,h2,_⟩:=h;obtain⟨_,_,e,q,_⟩:=h';cases e
     first
      |exact(I.OD h2 q).elim
      |exact(I.OD q h2).elim
      |exact(I.OE h2 q).elim
      |exact(I.OE q h2).elim
      |exact(I.Nq h2 q).elim
      |exact(I.Nq q h2).elim
      |exact(I.OF h2 q).elim
      |exact(I.OF q h2).elim
      |exact(I.OG h2 q).elim
      |exact(I.OG q h2).elim
      |exact(wz h2 q).elim
      |exact(wz q h2).elim)
mutual
theorem jZ(I:nC X J1 G H s):∀(d e:Dt)(v:ψ),G3 X.K H d v->G3 X.K H e v->Jf d e=D:=λd=>by
 match d with
 |.t l=>
  intro e v h h';have hk:=dH I h h';cases e<;>first|(simp[cS]at hk;done)|skip
  simp only[G3]at h h';obtain⟨a,vs,rfl,h2,h3⟩:=h;obtain⟨b,ws,e,LO,Lm⟩:=h';cases e;have:=I.Km h2 LO;subst this;simp only[Jf];exact Jm I l _ _ h3 Lm
 |.e l=>
  intro e v h h';have hk:=dH I h h';cases e<;>first|(simp[cS]at hk;done)|skip
  simp only[G3]at h h';obtain⟨a,vs,rfl,h2,h3⟩:=h;obtain⟨b,ws,e,LO,Lm⟩:=h';cases e;have:=I.KS h2 LO;subst this;simp only[Jf];exact Jm I l _ _ h3 Lm
 |.IJ ks l=>
  intro e v h h';have hk:=dH I h h';cases e<;>first|(simp[cS]at hk;done)|skip
  simp only[G3]at h h';obtain⟨a,vs,rfl,h2,h3,h4⟩:=h;obtain⟨b,ws,e,LO,Lm,h4'⟩:=h';cases e;have:=Gc h2 LO;subst this;subst h3 Lm;simp only[Jf,decide_true,RB];exact Jm I l _ _ h4 h4'
 |.Jt ks l=>
  intro e v h h';have hk:=dH I h h';cases e<;>first|(simp[cS]at hk;done)|skip
  simp only[G3]at h h';obtain⟨a,vs,rfl,h2,h3,h4⟩:=h;obtain⟨b,ws,e,LO,Lm,h4'⟩:=h';cases e;have:=Gd h2 LO;subst this;subst h3 Lm;simp only[Jf,decide_true,RB];exact Jm I l _ _ h4 h4'
 |.G8=>intro e v h h';have hk:=dH I h h';cases e<;>first|(simp[cS]at hk;done)|simp only[Jf]
 |.bl b=>intro e v h h';have hk:=dH I h h';cases e<;>first|(simp[cS]at hk;done)|(simp only[G3]at h h';rw[h]at h';cases h';exact iN _)
 |.int b=>intro e v h h';have hk:=dH I h h';cases e<;>first|(simp[cS]at hk;done)|(simp only[G3]at h h';rw[h]at h';cases h';exact iN _)
 |.str b=>intro e v h h';have hk:=dH I h h';cases e<;>first|(simp[cS]at hk;done)|(simp only[G3]at h h';rw[h]at h';cases h';exact iN _)
theorem Jm(I:nC X J1 G H s):∀(l m:Z Dt)(vs:Z ψ),hX X.K H l vs->hX X.K H m vs->Ib l m=D:=λl=>by
 match l with
 |[]=>
  intro m vs h h';cases m with
  |nil=>simp only[Ib]
  |cons e m=>unfold hX at h h';obtain⟨v,ws,e,_⟩:=h';rw[h]at e;cases e
 |d::l=>
  intro m vs h h';cases m with
  |nil=>unfold hX at h h';obtain⟨v,ws,e,_⟩:=h;rw[h']at e;cases e
  |cons e m=>unfold hX at h h';obtain⟨v,ws,rfl,h2,h3⟩:=h;obtain⟨v',ws',e',LO,Lm⟩:=h';cases e';simp only[Ib,jZ I d _ _ h2 LO,Jm I l _ _ h3 Lm,YT]
end
end
end L2
namespace L2
open PySem PySem.Spec PyProof.Rows
mutual
def fm:Dt->Dt->Bool
 |.t l,.t m=>Iq l m
 |.e l,.e m=>Iq l m
 |d,e=>decide (cS d<4)&&decide (cS e<4)
def Iq:Z Dt->Z Dt->Bool
 |d::l,e::m=>fm d e&&Iq l m
 |_,_=>D
end
theorem fC:∀{l m:Z Dt}{j:Nat}{d e:Dt},Iq l m=D->l[j]?=O d->m[j]?=O e->fm d e=D
 |[],_,j,d,e,_,h,_=>by simp at h
 |_::_,[],j,d,e,_,_,h=>by simp at h
 |d0::l,e0::m,0,d,e,h,h1,h2=>by simp only[Iq,IH]at h;simp at h1 h2;subst h1 h2;exact h.1
 |d0::l,e0::m,j+1,d,e,h,h1,h2=>by simp only[Iq,IH]at h;exact fC (j:=j) h.2 (by simpa using h1) (by simpa using h2)
theorem gz:∀{l:Z Dt}{j:Nat}{d:Dt},l[j]?=O d->gy d<=HA l
 |[],j,d,h=>by simp at h
 |d0::l,0,d,h=>by simp at h;subst h;simp only[HA];exact Nat.le_max_left ..
 |d0::l,j+1,d,h=>by simp only[HA];exact Iw (gz (j:=j) (by simpa using h)) (Nat.le_max_right ..)
def cT(l m:Z Dt)(j:Nat):Bool:=Jf (l.getD j .G8) (m.getD j .G8)
theorem eI:∀(l m:Z Dt),Ib l m=((HQ (min l.length m.length)).all (cT l m)&&l.length==m.length)
 |[],[]=>by simp[Ib]
 |[],_::_=>by simp[Ib]
 |_::_,[]=>by simp[Ib]
 |d::l,e::m=>by
  have ih:=eI l m;simp only[Ib,ih,L9];rw[show min (l.length+1) (m.length+1)=min l.length m.length+1 by lia,qt9,PK,List.all_map];have e1:cT (d::l) (e::m) 0=Jf d e:=rfl
  have Y:(cT (d::l) (e::m) ∘ Nat.succ)=cT l m:=by funext j;rfl
  have q:(l.length+1==m.length+1)=(l.length==m.length):=by rw[O8];simp
  rw[e1,Y,q,Bool.and_assoc]
variable{K:Hk}{k:Nat}
section
variable{X:Cx}{J1:Z (J9×Obj)}{G:St}{H:Hp}{s:t2}
theorem cE{l:Z Dt}{vs:Z ψ}{J8:Z Value}(h:hX X.K H l vs)(r:Da vs J8){j:Nat}(q:j<J8.length):∃d v,l[j]?=O d/\G3 X.K H d v/\BI v J8[j]:=by
 have Y:j<l.length:=by rw[<- h.length,r.length];exact q
 obtain⟨v,e1,e2⟩:=h.get (i:=j) (d:=l[j]) (by simp[Y]);obtain⟨u,e3,e4⟩:=r.get e1
 have:J8[j]=u:=by have:=gQ q;rw[this]at e3;exact L3 e3
 exact⟨l[j],v,by simp[Y],e2,by rw[this];exact e4⟩
theorem wA(I:nC X J1 G H s):∀(n:Nat){A:HM}{d e:Dt}{v w:ψ}{u u':Value},gy d<=n->A.units+n<cLine->fm d e=D->G3 X.K H d v->G3 X.K H e w->BI v u->BI w u'->KQ A s u u' (Jf d e):=by
 intro n;induction n with
 |zero=>
  intro A d e v w u u' hd hu hc h h' r r'
  cases d<;>cases e<;>first
   |(simp only[G3]at h h';subst h h';exact jh r r' rfl rfl)
   |(simp only[gy]at hd;lia)
   |(simp[fm,cS]at hc)
 |succ n ih=>
  intro A d e v w u u' hd hu hc h h' r r';cases d with
  |t l=>
   cases e with
   |t m=>
    have h0:=h;have h0':=h';simp only[G3]at h h';obtain⟨a,vs,rfl,h2,h3⟩:=h;obtain⟨b,ws,rfl,q,Lm⟩:=h';cases r;cases r';by_cases UF:a=b
    .subst UF;have:=jZ I _ _ _ h0 h0';rw[this];exact zf4 _
    obtain⟨J8,rv,pt,_⟩:=I.tuple h2;obtain⟨HF,NP,ZW,_⟩:=I.tuple q;have n1:J8.length=l.length:=by rw[<- h3.length,rv.length]
    have n2:HF.length=m.length:=by rw[<- Lm.length,NP.length]
    simp only[Jf];rw[eI,<- n1,<- n2];simp only[gy]at hd;simp only[fm]at hc
    have key:=Uy.tuples (A:=A) (e:=cT l m) pt ZW Θ (λj h1 h2=>by
     have OH:j<J8.length:=by simpa using h1
     have q:j<HF.length:=by simpa using h2
     obtain⟨d,v,g1,g2,g3⟩:=cE h3 rv OH;obtain⟨e,w,OI,Qf,Se⟩:=cE Lm NP q;have:cT l m j=Jf d e:=by unfold cT;rw[JN,JN,g1,OI];rfl
     rw[this];have:=ih (A:=A.in1) (Iw (gz g1) Θ) (show A.units+1+n<cLine by lia) (fC hc g1 OI) g2 Qf g3 Se;simpa using this)
    have key':Uy A s (.ref a) (.ref b) ((HQ (min J8.length HF.length)).all (cT l m)&&J8.length==HF.length):=by simpa using key
    exact qz2 UF key'
   |_=>exact absurd hc (by simp[fm,cS])
  |e l=>
   cases e with
   |e m=>
    have h0:=h;have h0':=h';simp only[G3]at h h';obtain⟨a,vs,rfl,h2,h3⟩:=h;obtain⟨b,ws,rfl,q,Lm⟩:=h';cases r;cases r';by_cases UF:a=b
    .subst UF;have:=jZ I _ _ _ h0 h0';rw[this];exact zf4 _
    obtain⟨J8,rv,pt,_⟩:=I.list h2;obtain⟨HF,NP,ZW,_⟩:=I.list q;have n1:J8.length=l.length:=by rw[<- h3.length,rv.length]
    have n2:HF.length=m.length:=by rw[<- Lm.length,NP.length]
    simp only[Jf];rw[eI,<- n1,<- n2];simp only[gy]at hd;simp only[fm]at hc;by_cases Y:J8.length=HF.length
    .have key:=Uy.lists (A:=A) (e:=cT l m) pt.isList ZW.isList (by simpa using Y) Θ (λj h1 h2=>by
      have OH:j<J8.length:=by simpa using h1
      have q:j<HF.length:=by simpa using h2
      obtain⟨d,v,g1,g2,g3⟩:=cE h3 rv OH;obtain⟨e,w,OI,Qf,Se⟩:=cE Lm NP q;have:cT l m j=Jf d e:=by unfold cT;rw[JN,JN,g1,OI];rfl
      rw[this];have:=ih (A:=A.in1) (Iw (gz g1) Θ) (show A.units+1+n<cLine by lia) (fC hc g1 OI) g2 Qf g3 Se;simpa using this)
     have e1:(J8.length==HF.length)=D:=by simpa using Y
     rw[e1,T8,show min J8.length HF.length=J8.length by lia];exact qz2 UF (by simpa using key)
    .have e1:(J8.length==HF.length)=ξ:=by simpa using Y
     rw[e1,Vq];exact qz2 UF (za6 pt.isList ZW.isList (by simpa using Y) Θ)
   |_=>exact absurd hc (by simp[fm,cS])
  |G8=>cases e<;>first|(simp only[G3]at h h';subst h h';exact jh r r' rfl rfl)|(simp[fm,cS]at hc)
  |bl b=>cases e<;>first|(simp only[G3]at h h';subst h h';exact jh r r' rfl rfl)|(simp[fm,cS]at hc)
  |int b=>cases e<;>first|(simp only[G3]at h h';subst h h';exact jh r r' rfl rfl)|(simp[fm,cS]at hc)
  |str b=>cases e<;>first|(simp only[G3]at h h';subst h h';exact jh r r' rfl rfl)|(simp[fm,cS]at hc)
  |IJ ks l=>cases e<;>(simp[fm,cS]at hc)
  |Jt ks l=>cases e<;>(simp[fm,cS]at hc)
theorem BB (I:nC X J1 G H s) {A:HM} {d e:Dt} {v w:ψ} {u u':Value} (hq:(∃ l m,d=.t l/\e=.t m)∨∃ l m,d=.e l/\e=.e m) (hu:A.units+gy d<cLine) (hc:fm d e=D) (h:G3 X.K H d v) (h':G3 X.K H e w) (r:BI v u) (r':BI w u') :
  Uy A s u u' (Jf d e)/\ZC A s u u' (!Jf d e):=by
 rcases hq with ⟨l,m,rfl,rfl⟩|⟨l,m,rfl,rfl⟩
 .simp only[G3]at h h';obtain⟨a,vs,rfl,h2,h3⟩:=h;obtain⟨b,ws,rfl,LO,Lm⟩:=h';cases r;cases r';obtain⟨J8,rv,pt,_⟩:=I.tuple h2;obtain⟨HF,NP,Y,_⟩:=I.tuple LO;have n1:J8.length=l.length:=by rw[<- h3.length,rv.length]
  have n2:HF.length=m.length:=by rw[<- Lm.length,NP.length]
  simp only[Jf];rw[eI,<- n1,<- n2];simp only[gy]at hu;simp only[fm]at hc
  have he:∀j (h1:j<J8.toArray.size)(h2:j<HF.toArray.size),KQ A.in1 s J8.toArray[j] HF.toArray[j] (cT l m j):=λj h1 h2=>by
   have OH:j<J8.length:=by simpa using h1
   have LO:j<HF.length:=by simpa using h2
   obtain⟨d,v,g1,g2,g3⟩:=cE h3 rv OH;obtain⟨e,w,OI,Qf,Se⟩:=cE Lm NP LO;have:cT l m j=Jf d e:=by unfold cT;rw[JN,JN,g1,OI];rfl
   rw[this];have:=wA I (HA l) (A:=A.in1) (gz g1) (show A.units+1+HA l<cLine by lia) (fC hc g1 OI) g2 Qf g3 Se;simpa using this
  exact⟨by simpa using Uy.tuples (A:=A) (e:=cT l m) pt Y Θ he,by simpa using ZC.tuples (A:=A) (e:=cT l m) pt Y Θ he⟩
 .simp only[G3]at h h';obtain⟨a,vs,rfl,h2,h3⟩:=h;obtain⟨b,ws,rfl,LO,Lm⟩:=h';cases r;cases r';obtain⟨J8,rv,pt,_⟩:=I.list h2;obtain⟨HF,NP,Y,_⟩:=I.list LO;have n1:J8.length=l.length:=by rw[<- h3.length,rv.length]
  have n2:HF.length=m.length:=by rw[<- Lm.length,NP.length]
  simp only[Jf];rw[eI,<- n1,<- n2];simp only[gy]at hu;simp only[fm]at hc;by_cases q:J8.length=HF.length
  .have he:∀j (h1:j<J8.toArray.size)(h2:j<HF.toArray.size),KQ A.in1 s J8.toArray[j] HF.toArray[j] (cT l m j):=λj h1 h2=>by
    have OH:j<J8.length:=by simpa using h1
    have LO:j<HF.length:=by simpa using h2
    obtain⟨d,v,g1,g2,g3⟩:=cE h3 rv OH;obtain⟨e,w,OI,Qf,Se⟩:=cE Lm NP LO;have:cT l m j=Jf d e:=by unfold cT;rw[JN,JN,g1,OI];rfl
    rw[this];have:=wA I (HA l) (A:=A.in1) (gz g1) (show A.units+1+HA l<cLine by lia) (fC hc g1 OI) g2 Qf g3 Se;simpa using this
   have e1:(J8.length==HF.length)=D:=by simpa using q
   rw[e1,T8,show min J8.length HF.length=J8.length by lia];exact⟨by simpa using Uy.lists (A:=A) (e:=cT l m) pt.isList Y.isList (by simpa using q) Θ he,by simpa using ZC.lists (A:=A) (e:=cT l m) pt.isList Y.isList (by simpa using q) Θ he⟩
  .have e1:(J8.length==HF.length)=ξ:=by simpa using q
   rw[e1,Vq];exact⟨za6 pt.isList Y.isList (by simpa using q) Θ,ZC.lists_lengths pt.isList Y.isList (by simpa using q) Θ⟩
def zP(K:Hk)(neg:Bool):R2:=λx y H Q=>∃d e,((∃l m,d=.t l/\e=.t m)∨∃l m,d=.e l/\e=.e m)/\G3 K H d x/\G3 K H e y/\fm d e=D/\gy d<=60/\Q (.bl (if neg then !Jf d e else Jf d e)) H
theorem Dp(hr:Hh k X.A)(Y:X.K=K):HY X (JQ .Eq) (zP K ξ):=by subst Y;intro J1 s G H x y v u Q I rx ry h;obtain⟨d,e,hq,hd,he,hc,hdp,q⟩:=h;have hu:=hr.units;exact(BB I hq Θ hc hd he rx ry).1 _ _ _ _ ⟨.bl (Jf d e),H,I,rfl,q⟩
theorem Dq(hr:Hh k X.A)(Y:X.K=K):HY X (JQ .NotEq) (zP K D):=by subst Y;intro J1 s G H x y v u Q I rx ry h;obtain⟨d,e,hq,hd,he,hc,hdp,q⟩:=h;have hu:=hr.units;exact(BB I hq Θ hc hd he rx ry).2 _ _ _ _ ⟨.bl (!Jf d e),H,I,rfl,q⟩
end
end L2
namespace L2
open PySem PySem.Spec PyProof.Rows
abbrev NT(o:HO):Prop:=∀vs,o≠.t vs
structure Hc(F H F' H':Hp):Prop where
 hh:zz H H'
 ff:zz F F'
 fh:zz F' H'
 nw:∀b o,F' b=O o->F b=O o∨H b=V∨∃vs,H b=O (.t vs)
variable{u:HO}
section
variable{F H F' H' F1 H1:Hp}{p:J9}{o:HO}
theorem Hc.refl(h:zz F H):Hc F H F H:=⟨zz.refl _,zz.refl _,h,λ_ _ e=>.inl e⟩
theorem Hc.trans(a:Hc F H F1 H1)(b:Hc F1 H1 F' H'):Hc F H F' H':=
 ⟨a.hh.trans b.hh,a.ff.trans b.ff,b.fh,λc o e=>by
  rcases b.nw c o e with z|z|⟨vs,z⟩
  .exact a.nw c o z
  .exact .inr (.inl (a.hh.free z))
  .cases q:H c with
   |none=>exact .inr (.inl rfl)
   |some u=>have:=a.hh c u q;rw[z]at this;cases this;exact .inr (.inr ⟨vs,rfl⟩)⟩
theorem zz.upd(hp:H p=V):zz H (upd H p o):=λb u e=>by rw[ax (bA e hp)];exact e
theorem Hc.new(h:zz F H)(hp:H p=V):Hc F H (upd F p o) (upd H p o) where
 hh:=zz.upd hp
 ff:=zz.upd (h.free hp)
 fh:=λb u e=>by
  by_cases q:b=p
  .subst q;rw[aA]at e ⊢;exact e
  .rw[ax q]at e ⊢;exact h _ _ e
 nw:=λb u e=>by
  by_cases q:b=p
  .subst q;exact .inr (.inl hp)
  .rw[ax q]at e;exact .inl e
theorem Hc.KY{b:J9}(st:Hc F H F' H')(hF:F b=V)(Y:H b=O u)(nt:NT u:=by intro _ z;cases z):F' b=V:=by
 cases q:F' b with
 |none=>rfl
 |some o'=>
  rcases st.nw b o' q with z|z|⟨vs,z⟩
  .rw[hF]at z;cases z
  .rw[Y]at z;cases z
  .rw[Y]at z;cases z;exact absurd rfl (nt vs)
theorem Hc.made(h:zz F H)(hp:H p=V):Hc F H F (upd H p o) where
 hh:=zz.upd hp
 ff:=zz.refl _
 fh:=h.trans (zz.upd hp)
 nw:=λb u e=>.inl e
end
inductive T where
 |f (d:Dt)|e (l:List Dt)|IJ (l:List (Hr×Dt))|Jt (l:List (List Hr×Dt))|fn (a:J9) (F0:Hp)|tl (xs l ys:List Dt)
noncomputable def T.d:T->C Dt
 |.f d=>O d
 |.e l=>O (.e l)
 |.IJ l=>O (.IJ (l.map (·.1)) (l.map (·.2)))
 |.Jt l=>O (.Jt (l.map (·.1)) (l.map (·.2)))
 |.fn _ _|.tl _ _ _=>V
def T.z:T->C Dt
 |.tl xs l ys=>O (.t (xs++.e l::ys))
 |t=>t.d
theorem T.zd{t:T}{d:Dt}(h:t.d=O d):t.z=O d:=by cases t<;>first|exact h|cases h
noncomputable def T.own:T->Bool
 |.f _|.fn _ _|.tl _ _ _=>ξ
 |_=>D
def K8(K:Hk)(F H:Hp):T->ψ->(J9->Prop)->Prop
 |.f d,v,_=>G3 K F d v
 |.e l,v,S=>∃a vs,v=.ref a/\S a/\H a=O (.e vs)/\hX K F l vs
 |.IJ l,v,S=>∃a J6,v=.ref a/\S a/\H a=O (.dK J6)/\J6.map (·.1)=l.map (·.1)/\hX K F (l.map (·.2)) (J6.map (·.2))
 |.Jt l,v,S=>∃a J6,v=.ref a/\S a/\H a=O (.dT J6)/\J6.map (·.1)=l.map (·.1)/\hX K F (l.map (·.2)) (J6.map (·.2))
 |.fn a F0,v,_=>v=.ref a/\zz F0 F
 |.tl xs l ys,v,S=>∃t a us vs q,v=.ref t/\II K F t (us++.ref a::q)/\S a/\H a=O (.e vs)/\hX K F xs us/\hX K F l vs/\hX K F ys q
def HX(K:Hk)(F H:Hp):Dt->ψ->Prop
 |.e l,v=>∃a vs,v=.ref a/\Io K H a vs/\hX K F l vs
 |.IJ ks l,v=>∃a J6,v=.ref a/\Rd H a (.dK J6)/\J6.map (·.1)=ks/\hX K F l (J6.map (·.2))
 |.Jt ks l,v=>∃a J6,v=.ref a/\Rd H a (.dT J6)/\J6.map (·.1)=ks/\hX K F l (J6.map (·.2))
 |.G8,v=>v=.G8
 |.bl b,v=>v=.bl b
 |.int i,v=>v=.int i
 |.str x,v=>v=.str x
 |.t l,v=>∃a vs,v=.ref a/\II K F a vs/\hX K F l vs
variable{S':J9->Prop}
section
variable{K:Hk}{F H F' H':Hp}{t:T}{v:ψ}{d:Dt}{S:J9->Prop}
theorem K8.step(q:zz F F')(hh:∀b o,S b->H b=O o->H' b=O o)(h:K8 K F H t v S):K8 K F' H' t v S:=by
 induction t with
 |f d=>exact G3.same q h
 |e l=>obtain⟨a,vs,e,Y,h1,h2⟩:=h;exact⟨a,vs,e,Y,hh _ _ Y h1,h2.same q⟩
 |IJ l=>obtain⟨a,vs,e,Y,h1,h2,h3⟩:=h;exact⟨a,vs,e,Y,hh _ _ Y h1,h2,h3.same q⟩
 |Jt l=>obtain⟨a,vs,e,Y,h1,h2,h3⟩:=h;exact⟨a,vs,e,Y,hh _ _ Y h1,h2,h3.same q⟩
 |fn a F0=>exact⟨h.1,h.2.trans q⟩
 |tl xs l ys=>obtain⟨t,a,us,vs,ws,e,h1,sa,h2,h3,h4,h5⟩:=h;exact⟨t,a,us,vs,ws,e,q.tup h1,sa,hh _ _ sa h2,h3.same q,h4.same q,h5.same q⟩
theorem K8.grow(Y:∀b,S b->S' b)(h:K8 K F H t v S):K8 K F H t v S':=by
 induction t with
 |f d=>exact h
 |e l=>obtain⟨a,vs,e,q,h1⟩:=h;exact⟨a,vs,e,Y _ q,h1⟩
 |IJ l=>obtain⟨a,vs,e,q,h1⟩:=h;exact⟨a,vs,e,Y _ q,h1⟩
 |Jt l=>obtain⟨a,vs,e,q,h1⟩:=h;exact⟨a,vs,e,Y _ q,h1⟩
 |fn a F0=>exact h
 |tl xs l ys=>obtain⟨t,a,us,vs,ws,e,h1,sa,h2⟩:=h;exact⟨t,a,us,vs,ws,e,h1,Y _ sa,h2⟩
theorem HX.of(q:zz F H)(h:G3 K F d v):HX K F H d v:=by
 cases d with
 |e l=>simp only[G3]at h;obtain⟨a,vs,e,h1,h2⟩:=h;exact⟨a,vs,e,q.seq h1,h2⟩
 |IJ ks l=>simp only[G3]at h;obtain⟨a,vs,e,h1,h2⟩:=h;exact⟨a,vs,e,q.rd h1,h2⟩
 |Jt ks l=>simp only[G3]at h;obtain⟨a,vs,e,h1,h2⟩:=h;exact⟨a,vs,e,q.rd h1,h2⟩
 |t l=>simp only[G3]at h;exact h
 |_=>simp only[G3]at h;exact h
theorem HX.rep(q:zz F H)(h:HX K F H d v):G3 K H d v:=by
 cases d with
 |e l=>obtain⟨a,vs,e,h1,h2⟩:=h;simp only[G3];exact⟨a,vs,e,h1,h2.same q⟩
 |IJ ks l=>obtain⟨a,vs,e,h1,h2,h3⟩:=h;simp only[G3];exact⟨a,vs,e,h1,h2,h3.same q⟩
 |Jt ks l=>obtain⟨a,vs,e,h1,h2,h3⟩:=h;simp only[G3];exact⟨a,vs,e,h1,h2,h3.same q⟩
 |t l=>obtain⟨a,vs,e,h1,h2⟩:=h;simp only[G3];exact⟨a,vs,e,q.tup h1,h2.same q⟩
 |_=>simp only[G3];exact h
theorem HX.step(q:zz F F')(Y:zz H H')(h:HX K F H d v):HX K F' H' d v:=by
 cases d with
 |e l=>obtain⟨a,vs,e,h1,h2⟩:=h;exact⟨a,vs,e,Y.seq h1,h2.same q⟩
 |IJ ks l=>obtain⟨a,vs,e,h1,h2,h3⟩:=h;exact⟨a,vs,e,Y.rd h1,h2,h3.same q⟩
 |Jt ks l=>obtain⟨a,vs,e,h1,h2,h3⟩:=h;exact⟨a,vs,e,Y.rd h1,h2,h3.same q⟩
 |t l=>obtain⟨a,vs,e,h1,h2⟩:=h;exact⟨a,vs,e,q.tup h1,h2.same q⟩
 |_=>exact h
theorem K8.WH(Y:zz F H)(h:K8 K F H t v S)(q:t.d=O d):HX K F H d v:=by
 cases t with
 |f d=>cases q;exact HX.of Y h
 |e l=>cases q;obtain⟨a,vs,e,_,h1,h2⟩:=h;exact⟨a,vs,e,Io.of h1,h2⟩
 |IJ l=>cases q;obtain⟨a,vs,e,_,h1,h2⟩:=h;exact⟨a,vs,e,.inl h1,h2⟩
 |Jt l=>cases q;obtain⟨a,vs,e,_,h1,h2⟩:=h;exact⟨a,vs,e,.inl h1,h2⟩
 |fn a F0=>cases q
 |tl xs l ys=>cases q
open Classical in
def pK(F H:Hp)(S:J9->Prop):Hp:=λb=>if S b then H b else F b
theorem iO{b:J9}(h:S b):pK F H S b=H b:=if_pos h
theorem fD{b:J9}(h:¬ S b):pK F H S b=F b:=if_neg h
theorem j4(q:∀b,S b->F b=V):zz F (pK F H S):=λb o e=>by
 have:¬ S b:=λz=>by rw[q b z]at e;cases e
 rw[fD this];exact e
theorem om(q:zz F H):zz (pK F H S) H:=λb o e=>by
 by_cases h:S b
 .rw[iO h]at e;exact e
 .rw[fD h]at e;exact q _ _ e
theorem K8.freeze(hs:∀b,S b->F b=V)(h:K8 K F H t v S)(hd:t.z=O d):G3 K (pK F H S) d v:=by
 have Y:=j4 (H:=H) hs;cases t with
 |f d=>cases hd;exact G3.same Y h
 |e l=>cases hd;obtain⟨a,vs,e,q,h1,h2⟩:=h;simp only[G3];exact⟨a,vs,e,Io.of (by rw[iO q];exact h1),h2.same Y⟩
 |IJ l=>cases hd;obtain⟨a,vs,e,q,h1,h2,h3⟩:=h;simp only[G3];exact⟨a,vs,e,.inl (by rw[iO q];exact h1),h2,h3.same Y⟩
 |Jt l=>cases hd;obtain⟨a,vs,e,q,h1,h2,h3⟩:=h;simp only[G3];exact⟨a,vs,e,.inl (by rw[iO q];exact h1),h2,h3.same Y⟩
 |fn a F0=>cases hd
 |tl xs l ys=>cases hd;obtain⟨t,a,us,vs,ws,e,h1,sa,h2,h3,h4,h5⟩:=h;simp only[G3];refine⟨t,_,e,Y.tup h1,(h3.same Y).append ?_⟩;simp only[hX,G3];exact⟨_,_,rfl,⟨a,vs,rfl,Io.of (by rw[iO sa];exact h2),h4.same Y⟩,h5.same Y⟩
end
abbrev Ix:=Nat
abbrev De:=Z (C T)
structure WI(K:Hk)(F H:Hp)(B:J9->Prop)(L:Ix->Option (T×ψ))(S:Ix->J9->Prop):Prop where
 own:∀i t v,L i=O (t,v)->K8 K F H t v (S i)
 out:∀i b,S i b->F b=V/\(∃o,H b=O o/\NT o)/\B b
 OJ:∀i j b,S i b->S j b->i=j
noncomputable def mz(J:De)(G:St)(i:Nat):C (T×ψ):=match J[i]?,G[i]? with
 |some (O t),O (O v)=>O (t,v)
 |_,_=>V
structure Fm where
 K:Hk
 F0:Hp
 H0:Hp
 S0:J9->Prop
def Fm.B(Φ:Fm)(b:J9):Prop:=Φ.H0 b=V∨Φ.S0 b
structure En(Φ:Fm)(J:De)(G:St)(F H:Hp):Prop where
 fh:zz F H
 IY:∀b o,Φ.H0 b=O o->¬ Φ.S0 b->H b=O o
 old:zz Φ.F0 F
 nw:∀b o,F b=O o->Φ.F0 b=O o∨Φ.B b∨∃vs,Φ.H0 b=O (.t vs)
 len:J.length=G.length
 has:∀(i:Nat)(t:T),J[i]?=O (O t)->∃v,G[i]?=O (O v)
 sep:∃S,WI Φ.K F H Φ.B (mz J G) S
variable{i j:Nat}{v:ψ}{p a:J9}{K:Hk}
section
variable{Φ:Fm}{J:De}{G:St}{F H F' H':Hp}
theorem bF{t:T}(h1:J[i]?=O (O t))(h2:G[i]?=O (O v)):mz J G i=O (t,v):=by unfold mz;rw[h1,h2]
theorem c9{t:T}(h:mz J G i=O (t,v)):J[i]?=O (O t)/\G[i]?=O (O v):=by
 unfold mz at h;split at h
 .rename_i Y q;cases h;exact⟨Y,q⟩
 .cases h
theorem En.fresh(e:En Φ J G F H)(hp:H p=V):Φ.B p:=by
 by_cases h:Φ.S0 p
 .exact .inr h
 .left;cases q:Φ.H0 p with
  |none=>rfl
  |some o=>rw[e.IY p o q h]at hp;cases hp
theorem WI.step{B:J9->Prop}{L:Ix->C (T×ψ)}{S:Ix->J9->Prop}(s:WI K F H B L S)(st:Hc F H F' H'):WI K F' H' B L S where
 own:=λi t v h=>(s.own i t v h).step st.ff λb o _ e=>st.hh b o e
 out:=λi b h=>by obtain⟨h1,⟨o,h2,q⟩,h3⟩:=s.out i b h;exact⟨st.KY h1 h2 q,⟨o,st.hh _ _ h2,q⟩,h3⟩
 OJ:=s.OJ
theorem En.step(e:En Φ J G F H)(st:Hc F H F' H'):En Φ J G F' H' where
 fh:=st.fh
 IY:=λb o h1 h2=>st.hh _ _ (e.IY b o h1 h2)
 old:=e.old.trans st.ff
 nw:=λb o h=>by
  rcases st.nw b o h with z|z|⟨vs,z⟩
  .exact e.nw b o z
  .exact .inr (.inl (e.fresh z))
  .cases q:Φ.H0 b with
   |none=>exact .inr (.inl (.inl q))
   |some u=>
    by_cases Y:Φ.S0 b
    .exact .inr (.inl (.inr Y))
    .rw[e.IY b u q Y]at z;cases z;exact .inr (.inr ⟨vs,rfl⟩)
 len:=e.len
 has:=e.has
 sep:=let ⟨S,s⟩:=e.sep;⟨S,s.step st⟩
theorem En.slot(e:En Φ J G F H){t:T}{d:Dt}(h:J[i]?=O (O t))(Y:t.d=O d):∃v,G[i]?=O (O v)/\HX Φ.K F H d v:=by obtain⟨v,q⟩:=e.has i t h;obtain⟨S,s⟩:=e.sep;exact⟨v,q,(s.own i t v (bF h q)).WH e.fh Y⟩
theorem En.leaf(e:En Φ J G F H){d:Dt}(h:J[i]?=O (O (.f d))):∃v,G[i]?=O (O v)/\G3 Φ.K F d v:=by obtain⟨v,q⟩:=e.has i _ h;obtain⟨S,s⟩:=e.sep;exact⟨v,q,s.own i _ v (bF h q)⟩
theorem cZ{α:Type}{l:Z (C α)}{x y:C α}(h:(l.set i x)[j]?=O y):(i=j/\y=x)∨(i≠j/\l[j]?=O y):=by
 by_cases q:i=j
 .subst q;left;rw[List.getElem?_set]at h;simp only[if_true]at h;split at h
  .cases h;exact⟨rfl,rfl⟩
  .cases h
 .right;rw[gN q]at h;exact⟨q,h⟩
theorem En.put(e:En Φ J G F H){t:T}(st:Hc F H F' H')(ho:K8 Φ.K F' H' t v S')(hs:∀b,S' b->F' b=V/\H b=V/\∃o,H' b=O o/\NT o)(i:Nat):En Φ (J.set i (O t)) (G.set i (O v)) F' H':=by
 have e':=e.step st;obtain⟨S,s⟩:=e.sep;have s':=s.step st;refine⟨e'.fh,e'.IY,e'.old,e'.nw,by simp[e.len],λj u h=>?_,λj b=>if j=i then S' b else S j b,?_,?_,?_⟩
 .rcases cZ h with ⟨rfl,z⟩|⟨hn,z⟩
  .have hi:i<G.length:=by rw[<- e.len];have:=(gX h).1;simpa using this
   exact⟨v,by simp[hi]⟩
  .obtain⟨w,hw⟩:=e.has j u z;exact⟨w,by rw[gN hn];exact hw⟩
 .intro j u w h;obtain⟨h1,h2⟩:=c9 h;rcases cZ h1 with ⟨rfl,z⟩|⟨hn,z⟩
  .rcases cZ h2 with ⟨_,z2⟩|⟨hn2,_⟩
   .cases z;cases z2;show K8 _ _ _ _ _ (λb=>if i=i then S' b else S i b);simp only[if_true];exact ho
   .exact absurd rfl hn2
  .rcases cZ h2 with ⟨z2,_⟩|⟨_,z2⟩
   .exact absurd z2 hn
   .have:¬ j=i:=λq=>hn q.symm
    show K8 _ _ _ _ _ (λb=>if j=i then S' b else S j b);simp only[if_neg this];exact s'.own j u w (bF z z2)
 .intro j b h;split at h
  .obtain⟨h1,h2,h3⟩:=hs b h;exact⟨h1,h3,e.fresh h2⟩
  .exact s'.out _ b h
 .have Y:∀j b,S j b->¬ S' b:=λj b h z=>by obtain⟨_,⟨o,h2,_⟩,_⟩:=s.out j b h;rw[(hs b z).2.1]at h2;cases h2
  intro j k b hj hk;split at hj<;>split at hk
  .rename_i q1 q2;rw[q1,q2]
  .exact absurd hj (Y _ b hk)
  .exact absurd hk (Y _ b hj)
  .exact s.OJ _ _ b hj hk
theorem uN{t:T}{S:J9->Prop}(Y:t.own=D)(h:K8 K F H t (.ref a) S):S a:=by
 cases t with
 |f d=>cases Y
 |e l=>obtain⟨b,_,e,q,_⟩:=h;cases e;exact q
 |IJ l=>obtain⟨b,_,e,q,_⟩:=h;cases e;exact q
 |Jt l=>obtain⟨b,_,e,q,_⟩:=h;cases e;exact q
 |fn b F0=>cases Y
 |tl xs l ys=>cases Y
theorem En.MR (e:En Φ J G F H) {t t':T} {o:HO} (h:J[i]?=O (O t)) (hv:G[i]?=O (O (.ref a))) (ht:t.own=D) (ho:∀ S:J9->Prop,S a->K8 Φ.K F (upd H a o) t' (.ref a) S) (nt:NT o:=by intro _ z;cases z) :
  En Φ (J.set i (O t')) G F (upd H a o):=by
 obtain⟨S,s⟩:=e.sep;have sa:S i a:=uN ht (s.own i t _ (bF h hv));obtain⟨fa,⟨oa,ha,_⟩,ba⟩:=s.out _ a sa;have hi:i<J.length:=(gX h).1;refine⟨λb u z=>?_,λb u h1 h2=>?_,e.old,e.nw,by simp[e.len],λj u z=>?_,S,λj u w z=>?_,λj b z=>?_,s.OJ⟩
 .have:b≠a:=λq=>by rw[q,fa]at z;cases z
  rw[ax this];exact e.fh _ _ z
 .have:b≠a:=λq=>by
   subst q;rcases ba with z|z
   .rw[z]at h1;cases h1
   .exact h2 z
  rw[ax this];exact e.IY b u h1 h2
 .rcases cZ z with ⟨rfl,_⟩|⟨hn,z⟩
  .exact⟨_,hv⟩
  .exact e.has j u z
 .obtain⟨h1,h2⟩:=c9 z;rcases cZ h1 with ⟨rfl,Y⟩|⟨hn,Y⟩
  .cases Y;rw[hv]at h2;cases h2;exact ho _ sa
  .refine(s.own j u w (bF Y h2)).step (zz.refl _) λb q hb hq=>?_
   have:b≠a:=λy=>by subst y;exact hn (s.OJ _ _ _ hb sa).symm
   rw[ax this];exact hq
 .obtain⟨h1,⟨q,h2,n2⟩,h3⟩:=s.out j b z;refine⟨h1,?_,h3⟩;by_cases y:b=a
  .subst y;exact⟨o,aA,nt⟩
  .exact⟨q,by rw[ax y];exact h2,n2⟩
theorem En.freeze(e:En Φ J G F H){t:T}{d:Dt}(h:J[i]?=O (O t))(hd:t.z=O d):∃F',En Φ (J.set i (O (.f d))) G F' H:=by
 obtain⟨S,s⟩:=e.sep;obtain⟨v,hv⟩:=e.has i t h;have so:=s.own i t v (bF h hv);have sn:∀b,S i b->F b=V:=λb z=>(s.out _ b z).1
 have ff:=j4 (H:=H) sn;refine⟨pK F H (S i),om e.fh,e.IY,e.old.trans ff,λb o z=>?_,by simp[e.len],λj u z=>?_,λj b=>S j b/\j≠i,λj u w z=>?_,λj b z=>?_,λj k b h1 h2=>s.OJ _ _ b h1.1 h2.1⟩
 .by_cases hb:S i b
  .exact .inr (.inl (s.out _ b hb).2.2)
  .rw[fD hb]at z;exact e.nw b o z
 .rcases cZ z with ⟨rfl,_⟩|⟨hn,z⟩
  .exact⟨_,hv⟩
  .exact e.has j u z
 .obtain⟨h1,h2⟩:=c9 z;rcases cZ h1 with ⟨rfl,Y⟩|⟨hn,Y⟩
  .cases Y;rw[hv]at h2;cases h2;exact so.freeze sn hd
  .refine((s.own j u w (bF Y h2)).step ff λ_ _ _ q=>q).grow λb q=>⟨q,λy=>hn y.symm⟩
 .obtain⟨h1,h2,h3⟩:=s.out j b z.1;refine⟨?_,h2,h3⟩;rw[fD λy=>z.2 (s.OJ _ _ b z.1 y)];exact h1
end
def KO(K:Hk)(F H:Hp)(t:T)(Q:VK):Prop:=∀v H' F' S,Hc F H F' H'->K8 K F' H' t v S->(∀b,S b->F' b=V/\H b=V/\∃o,H' b=O o/\NT o)->Q v H'
def KL(K:Hk)(F H:Hp)(d:Dt)(Q:VK):Prop:=∀v H' F',Hc F H F' H'->G3 K F' d v->Q v H'
def KB(K:Hk)(F H:Hp)(d:Dt)(Q:VK):Prop:=∀v H' F',Hc F H F' H'->HX K F' H' d v->Q v H'
section
variable{K:Hk}{F H F1 H1:Hp}{t:T}{d:Dt}{Q:VK}
theorem KO.step(k:KO K F H t Q)(st:Hc F H F1 H1):KO K F1 H1 t Q:=λv H' F' S s o q=>k v H' F' S (st.trans s) o λb z=>⟨(q b z).1,st.hh.free (q b z).2.1,(q b z).2.2⟩
theorem KO.leaf(k:KO K F H (.f d) Q):KL K F H d Q:=λv H' F' st r=>k v H' F' (λ_=>False) st r λ_ z=>z.elim
theorem KL.here(k:KL K F H d Q)(q:zz F H)(r:G3 K F d v):Q v H:=k v H F (Hc.refl q) r
theorem KB.to(k:KB K F H d Q):KL K F H d Q:=λv H' F' st r=>k v H' F' st (HX.of st.fh r)
theorem KL.to(hd:t.d=O d)(k:KL K F H d Q):KO K F H t Q:=λv H' F' S st o q=>by
 refine k v H' (pK F' H' S) ⟨st.hh,st.ff.trans (j4 λb z=>(q b z).1),om st.fh,λb u z=>?_⟩ (o.freeze (λb z=>(q b z).1) (T.zd hd));by_cases Y:S b
 .exact .inr (.inl (q b Y).2.1)
 .rw[fD Y]at z;exact st.nw b u z
theorem KB.Hi(q:t.d=O d)(k:KB K F H d Q):KO K F H t Q:=λv H' F' S st o Y=>k v H' F' st (o.WH st.fh q)
end
def tO(K:Hk)(f:De->C T):TE:=λG H Q=>∃ Φ J F t,Fm.K Φ=K/\En Φ J G F H/\f J=O t/\KO K F H t Q
def tL(K:Hk)(f:De->C Dt):TE:=λG H Q=>∃ Φ J F d,Fm.K Φ=K/\En Φ J G F H/\f J=O d/\KL K F H d Q
def Mx(K:Hk)(f:De->C Dt):TE:=λG H Q=>∃ Φ J F d,Fm.K Φ=K/\En Φ J G F H/\f J=O d/\KB K F H d Q
def Qg(K:Hk)(f:De->C Bool):TT:=λG H Q=>∃ Φ J F b,Fm.K Φ=K/\En Φ J G F H/\f J=O b/\∀H' F',Hc F H F' H'->Q b H'
def DO(X:Cx)(e:Jc)(f:De->C T):Prop:=PE X e (tO X.K f)
def DL(X:Cx)(e:Jc)(f:De->C Dt):Prop:=PE X e (tL X.K f)
def DB(X:Cx)(e:Jc)(f:De->C Dt):Prop:=PE X e (Mx X.K f)
def DT(X:Cx)(e:Jc)(f:De->C Bool):Prop:=PT X e (Qg X.K f)
def DW(X:Cx)(e:Jc)(f:De->C Bool):Prop:=PW X e (Qg X.K f)
variable{X:Cx}{e:Jc}{t':TE}
theorem PE.mono{t:TE}(h:PE X e t)(m:∀ G H Q,t' G H Q->t G H Q):PE X e t':=λJ1 s G H Q I q=>h J1 s G H Q I (m _ _ _ q)
theorem PT.mono{t t':TT}(h:PT X e t)(m:∀ G H Q,t' G H Q->t G H Q):PT X e t':=λJ1 s G H Q I q=>h J1 s G H Q I (m _ _ _ q)
theorem PW.mono{t t':TT}(h:PW X e t)(m:∀ G H Q,t' G H Q->t G H Q):PW X e t':=λY J1 s G H Q I q=>h Y J1 s G H Q I (m _ _ _ q)
theorem PA.mono{e:Z Jc}{t t':TA}(h:PA X e t)(m:∀ G H Q,t' G H Q->t G H Q):PA X e t':=λpos J1 s G H Q I q=>h pos J1 s G H Q I (m _ _ _ q)
variable{tg:Jc}
theorem PI.mono{t t':TI}(h:PI X tg e t)(m:∀ G H Q,t' G H Q->t G H Q):PI X tg e t':=λJ1 s G H Q I q=>h J1 s G H Q I (m _ _ _ q)
theorem PG.mono{t t':TG}(h:PG X e t)(m:∀v G H Q,t' v G H Q->t v G H Q):PG X e t':=λJ1 s G H v u Q I r q=>h J1 s G H v u Q I r (m _ _ _ _ q)
theorem PS.mono{e:Jb}{t t':TS}(h:PS X e t)(m:∀θ G H,t' θ G H->t θ G H):PS X e t':=λJ1 s G H Q I q=>h J1 s G H Q I (m _ _ _ q)
theorem Kq.mono{e:Z Jb}{t t':TS}(h:Kq X e t)(m:∀θ G H,t' θ G H->t θ G H):Kq X e t':=λJ1 s G H Q I q=>h J1 s G H Q I (m _ _ _ q)
theorem PE.or{t:TE}(h:PE X e t)(h':PE X e t'):PE X e (λG H Q=>t G H Q∨t' G H Q):=λJ1 s G H Q I q=>q.elim (h J1 s G H Q I) (h' J1 s G H Q I)
theorem PI.or{t t':TI}(h:PI X tg e t)(h':PI X tg e t'):PI X tg e (λG H Q=>t G H Q∨t' G H Q):=λJ1 s G H Q I q=>q.elim (h J1 s G H Q I) (h' J1 s G H Q I)
variable{x:Str}{r:R2}{G:St}{H:Hp}{Q:VK}{vs:Z ψ}{n k:Nat}{ds:Z Dt}{ps:Z Str}
section
variable{X:Cx}{e a b c:Jc}{f:De->C T}{g fa fb fc:De->C Dt}{pos:Pos}
def bo(f:De->C T):De->C Dt:=λJ=>(f J).bind T.d
noncomputable def G6(f:De->C Dt):De->C T:=λJ=>(f J).map T.f
theorem DO.IT(h:DO X e f):DL X e (bo f):=PE.mono h λG H Q ⟨Φ,J,F,d,q,en,hf,k⟩=>by obtain⟨t,ht,Y⟩:=bS hf;exact⟨Φ,J,F,t,q,en,ht,KL.to Y k⟩
theorem DO.Hu(h:DO X e f):DB X e (bo f):=PE.mono h λG H Q ⟨Φ,J,F,d,q,en,hf,k⟩=>by obtain⟨t,ht,Y⟩:=bS hf;exact⟨Φ,J,F,t,q,en,ht,KB.Hi Y k⟩
theorem DL.Hu(h:DL X e g):DB X e g:=PE.mono h λG H Q ⟨Φ,J,F,d,q,en,Y,k⟩=>⟨Φ,J,F,d,q,en,Y,k.to⟩
theorem DL.Hi(h:DL X e g):DO X e (G6 g):=PE.mono h λG H Q ⟨Φ,J,F,t,hK,en,q,k⟩=>by
 unfold G6 at q;cases Y:g J with
 |none=>rw[Y]at q;cases q
 |some d=>rw[Y]at q;cases q;exact⟨Φ,J,F,d,hK,en,Y,k.leaf⟩
noncomputable def vL(i:Nat):De->C Dt:=λJ=>match J[i]? with
 |some (O (.f d))=>O d
 |_=>V
def vB(i:Nat):De->C Dt:=λJ=>match J[i]? with
 |some (O t)=>t.d
 |_=>V
theorem Dr(h:PE X e (gd i)):DL X e (vL i):=PE.mono h λG H Q ⟨Φ,J,F,d,hK,en,Y,k⟩=>by
 unfold vL at Y;split at Y
 .rename_i q;cases Y;obtain⟨v,h1,h2⟩:=en.leaf q;exact⟨v,h1,k.here en.fh (hK▸h2)⟩
 .cases Y
theorem Ds(h:PE X e (gd i)):DB X e (vB i):=PE.mono h λG H Q ⟨Φ,J,F,d,hK,en,Y,k⟩=>by
 unfold vB at Y;split at Y
 .rename_i q;obtain⟨v,h1,h2⟩:=en.slot q Y;exact⟨v,h1,k v H F (Hc.refl en.fh) (hK▸h2)⟩
 .cases Y
noncomputable def kD(d:Dt):De->C Dt:=λ_=>O d
theorem wC{d:Dt}(h:PE X e (tC v))(r:∀F,G3 X.K F d v):DL X e (kD d):=PE.mono h λG H Q ⟨Φ,J,F,d',Y,en,q,k⟩=>by cases q;exact k.here en.fh (r F)
theorem aO{i:Int}{j}:DL X (.Constant (.int i) j pos) (kD (.int i)):=wC CC λF=>by simp only[G3]
theorem bG{i:Bool}{j}:DL X (.Constant (.bool i) j pos) (kD (.bl i)):=wC FH λF=>by simp only[G3]
theorem dm{j}:DL X (.Constant .none j pos) (kD .G8):=wC CD λF=>by simp only[G3]
theorem eJ{j}:DL X (.Constant (.str x) j pos) (kD (.str x)):=wC CG λF=>by simp only[G3]
def Kv(K:Hk)(r:R2)(g:Dt->Dt->C T):Prop:=∀F H x y vx vy (Q:VK) t,zz F H->HX K F H x vx->HX K F H y vy->g x y=O t->KO K F H t Q->r vx vy H Q
noncomputable def d2(g:Dt->Dt->C T)(fa fb:De->C Dt):De->C T:=λJ=>(fa J).bind λx=>(fb J).bind λy=>g x y
theorem mB{g:Dt->Dt->C T}(hr:Kv K r g)(h:tO K (d2 g fa fb) G H Q):RU r (Mx K fa) (Mx K fb) G H Q:=by obtain⟨Φ,J,F,t,hK,en,Y,k⟩:=h;unfold d2 at Y;obtain⟨x,hx,Y⟩:=bS Y;obtain⟨y,hy,Y⟩:=bS Y;exact⟨Φ,J,F,x,hK,en,hx,λv H1 F1 st rv=>⟨Φ,J,F1,y,hK,en.step st,hy,λv2 H2 F2 q Nt=>hr F2 H2 x y v v2 Q t q.fh (rv.step q.ff q.hh) Nt Y (k.step (st.trans q))⟩⟩
theorem aV{q:Operator}{g:Dt->Dt->C T}(Y:HY X (L5 q) r)(hr:Kv X.K r g)(ha:DB X a fa)(hb:DB X b fb):DO X (.BinOp a q b pos) (d2 g fa fb):=PE.mono (FS Y ha hb) λG H Q h=>mB hr h
theorem dP{q:CmpOp}{g:Dt->Dt->C T}(ho:HY X (JQ q) r)(hr:Kv X.K r g)(ha:DB X a fa)(hb:DB X b fb)(Y:Nb q b=ξ):DO X (.Compare a [q] [b] pos) (d2 g fa fb):=PE.mono (nT ho ha hb Y) λG H Q h=>mB hr h
noncomputable def Sf:T->C Bool
 |.f (.bl b)=>O b
 |_=>V
def G5(g:Dt->Dt->C T)(fa fb:De->C Dt):De->C Bool:=λJ=>(d2 g fa fb J).bind Sf
theorem oo{F:Hp}{t:T}{S:J9->Prop}{b:Bool}(h:Sf t=O b)(o:K8 K F H t v S):v=.bl b:=by
 unfold Sf at h;split at h
 .cases h;have o:G3 K F (.bl b) v:=o;simp only[G3]at o;exact o
 .cases h
theorem dq{Y:CmpOp}{g:Dt->Dt->C T}(ho:HY X (JQ Y) r)(hr:Kv X.K r g)(ha:DB X a fa)(hb:DB X b fb)(hm:Nb Y b=ξ):DT X (.Compare a [Y] [b] pos) (G5 g fa fb):=PT.mono (nU ho ha hb hm) λG H Q ⟨Φ,J,F,t,hK,en,q,k⟩=>by unfold G5 at q;obtain⟨z,hz,q⟩:=bS q;refine mB hr ⟨Φ,J,F,z,hK,en,hz,λv H' F' S st o hs=>?_⟩;exact⟨t,oo q o,k H' F' st⟩
noncomputable def wE:Dt->C Bool
 |.G8=>O ξ
 |.bl b=>O b
 |.int i=>O (i != 0)
 |.str x=>if x.length<=Hz then O ((x.length:Int) != 0)else V
 |.t l=>O (!l.isEmpty)
 |.e l=>O (!l.isEmpty)
 |_=>V
def ca(f:De->C Dt):De->C Bool:=λJ=>(f J).bind wE
theorem iP{F:Hp}{l:Z Dt}(h:hX K F l vs):l.isEmpty=vs.isEmpty:=by
 cases l with
 |nil=>unfold hX at h;rw[h];rfl
 |cons d l=>unfold hX at h;obtain⟨v,q,rfl,_⟩:=h;rfl
theorem zQ{F:Hp}{d:Dt}{b:Bool}(Y:zz F H)(h:HX K F H d v)(q:wE d=O b):C5 K v H b:=by
 cases d with
 |G8=>cases h;cases q;rfl
 |bl x=>cases h;cases q;rfl
 |int x=>cases h;cases q;rfl
 |str x=>
  cases h;simp only[wE]at q;split at q
  .cases q;exact⟨by assumption,rfl⟩
  .cases q
 |t l=>obtain⟨a,vs,rfl,h1,h2⟩:=h;cases q;exact .inr (.inl ⟨vs,Y.tup h1,by rw[iP h2]⟩)
 |e l=>obtain⟨a,vs,rfl,h1,h2⟩:=h;cases q;exact .inl ⟨vs,h1,by rw[iP h2]⟩
 |IJ ks l=>cases q
 |Jt ks l=>cases q
theorem bp(ha:DB X a fa)(he:∀q,isTrue a X.env q=(do let v <- q;standAt a.pos;PR [v] (truthy v))):DT X a (ca fa):=PT.mono (vT ha he) λG H Q ⟨Φ,J,F,b,hK,en,Y,k⟩=>by unfold ca at Y;obtain⟨d,hd,Y⟩:=bS Y;exact⟨Φ,J,F,d,hK,en,hd,λv H' F' st r=>⟨b,zQ st.fh r Y,k H' F' st⟩⟩
noncomputable def eL(f:De->C Bool):De->C Bool:=λJ=>(f J).map (!·)
noncomputable def cU(f g:De->C Bool):De->C Bool:=λJ=>(f J).bind λb=>if b then g J else O ξ
noncomputable def JJ(f g:De->C Bool):De->C Bool:=λJ=>(f J).bind λb=>if b then O D else g J
variable{ta tb tc:De->C Bool}{Hg:Z Jc}
theorem dQ(h:DT X a ta):DT X (.UnaryOp .Not a pos) (eL ta):=PT.mono (CJ h) λG H Q ⟨Φ,J,F,b,hK,en,Y,k⟩=>by
 unfold eL at Y;cases q:ta J with
 |none=>rw[q]at Y;cases Y
 |some c=>rw[q]at Y;cases Y;exact⟨Φ,J,F,c,hK,en,q,λH' F' st=>k H' F' st⟩
theorem oq(h:DT X a ta):DW X (.BoolOp .And [a] pos) ta:=zo h
theorem gB(h:DT X a ta):DW X (.BoolOp .Or [a] pos) ta:=CH h
theorem ou(h:DT X a ta)(h':DW X (.BoolOp .And (b::Hg) pos) tb):DW X (.BoolOp .And (a::b::Hg) pos) (cU ta tb):=PW.mono (CI h h') λG H Q ⟨Φ,J,F,t,hK,en,Y,k⟩=>by
 unfold cU at Y;obtain⟨c,hc,Y⟩:=bS Y;refine⟨Φ,J,F,c,hK,en,hc,λH' F' st=>?_⟩;split at Y
 .rename_i q;rw[if_pos q];exact⟨Φ,J,F',t,hK,en.step st,Y,λH2 F2 s2=>k H2 F2 (st.trans s2)⟩
 .rename_i q;rw[if_neg q];cases Y;exact k H' F' st
theorem eY(h:DT X a ta)(h':DW X (.BoolOp .Or (b::Hg) pos) tb):DW X (.BoolOp .Or (a::b::Hg) pos) (JJ ta tb):=PW.mono (FI h h') λG H Q ⟨Φ,J,F,t,hK,en,Y,k⟩=>by
 unfold JJ at Y;obtain⟨c,hc,Y⟩:=bS Y;refine⟨Φ,J,F,c,hK,en,hc,λH' F' st=>?_⟩;split at Y
 .rename_i q;rw[if_pos q];cases Y;exact k H' F' st
 .rename_i q;rw[if_neg q];exact⟨Φ,J,F',t,hK,en.step st,Y,λH2 F2 s2=>k H2 F2 (st.trans s2)⟩
theorem DW.t(h:DW X a ta):DT X a ta:=h.pt
noncomputable def pL:Dt->C Bool
 |.bl b=>O b
 |_=>V
def zR(f:De->C Dt):De->C T:=λJ=>(f J).bind λx=>(pL x).map λb=>.f (.bl (!b))
def ir(f:De->C Dt)(g:De->C T):De->C T:=λJ=>(f J).bind λx=>(pL x).bind λb=>if b then g J else O (.f (.bl ξ))
def UG(f:De->C Dt)(g:De->C T):De->C T:=λJ=>(f J).bind λx=>(pL x).bind λb=>if b then O (.f (.bl D))else g J
noncomputable def Qh(c:De->C Bool)(f g:De->C T):De->C T:=λJ=>(c J).bind λb=>if b then f J else g J
theorem oy{F:Hp}{x:Dt}{b:Bool}(h:pL x=O b)(r:HX K F H x v):v=.bl b:=by
 unfold pL at h;split at h
 .cases h;exact r
 .cases h
theorem oz{F:Hp}{b:Bool}:G3 K F (.bl b) (.bl b):=by simp only[G3]
theorem fN{F:Hp}{b:Int}:G3 K F (.int b) (.int b):=by simp only[G3]
theorem iQ{F:Hp}{b:Str}:G3 K F (.str b) (.str b):=by simp only[G3]
theorem iR{F:Hp}:G3 K F .G8 .G8:=by simp only[G3]
variable{oa ob:De->C T}
theorem wF(h:DB X a fa):DO X (.UnaryOp .Not a pos) (zR fa):=PE.mono (CM h) λG H Q ⟨Φ,J,F,t,hK,en,Y,k⟩=>by
 unfold zR at Y;obtain⟨x,hx,Y⟩:=bS Y;cases q:pL x with
 |none=>rw[q]at Y;cases Y
 |some b=>rw[q]at Y;cases Y;exact⟨Φ,J,F,x,hK,en,hx,λv H' F' st r=>⟨b,oy q r,(k.step st).leaf.here st.fh oz⟩⟩
theorem oA{op}(h:DO X a oa):DO X (.BoolOp op [a] pos) oa:=CK h
theorem kO(h:DB X a fa)(h':DO X (.BoolOp .And (b::Hg) pos) ob):DO X (.BoolOp .And (a::b::Hg) pos) (ir fa ob):=PE.mono (CL h h') λG H Q ⟨Φ,J,F,t,hK,en,Y,k⟩=>by
 unfold ir at Y;obtain⟨x,hx,Y⟩:=bS Y;obtain⟨b,hb,Y⟩:=bS Y;refine⟨Φ,J,F,x,hK,en,hx,λv H' F' st r=>⟨b,oy hb r,?_⟩⟩;split at Y
 .rename_i q;rw[if_pos q];exact⟨Φ,J,F',t,hK,en.step st,Y,k.step st⟩
 .rename_i q;rw[if_neg q];cases Y;exact(k.step st).leaf.here st.fh oz
theorem Ge(h:DB X a fa)(h':DO X (.BoolOp .Or (b::Hg) pos) ob):DO X (.BoolOp .Or (a::b::Hg) pos) (UG fa ob):=PE.mono (FL h h') λG H Q ⟨Φ,J,F,t,hK,en,Y,k⟩=>by
 unfold UG at Y;obtain⟨x,hx,Y⟩:=bS Y;obtain⟨b,hb,Y⟩:=bS Y;refine⟨Φ,J,F,x,hK,en,hx,λv H' F' st r=>⟨b,oy hb r,?_⟩⟩;split at Y
 .rename_i q;rw[if_pos q];cases Y;exact(k.step st).leaf.here st.fh oz
 .rename_i q;rw[if_neg q];exact⟨Φ,J,F',t,hK,en.step st,Y,k.step st⟩
theorem wG(hc:DT X c tc)(h:DO X a oa)(h':DO X b ob):DO X (.IfExp c a b pos) (Qh tc oa ob):=PE.mono (vG hc h h') λG H Q ⟨Φ,J,F,t,hK,en,Y,k⟩=>by
 unfold Qh at Y;obtain⟨x,hx,Y⟩:=bS Y;refine⟨Φ,J,F,x,hK,en,hx,λH' F' st=>?_⟩;split at Y
 .rename_i q;rw[if_pos q];exact⟨Φ,J,F',t,hK,en.step st,Y,k.step st⟩
 .rename_i q;rw[if_neg q];exact⟨Φ,J,F',t,hK,en.step st,Y,k.step st⟩
def Kw(K:Hk)(F H:Hp):Z Dt->Z ψ->Prop
 |[],vs=>vs=[]
 |d::l,vs=>∃v q,vs=v::q/\HX K F H d v/\Kw K F H l q
def tAL(K:Hk)(f:De->C (Z Dt)):TA:=λG H Q=>∃ Φ J F ds,Fm.K Φ=K/\En Φ J G F H/\f J=O ds/\∀vs H' F',Hc F H F' H'->hX K F' ds vs->Q vs H'
def tAB(K:Hk)(f:De->C (Z Dt)):TA:=λG H Q=>∃ Φ J F ds,Fm.K Φ=K/\En Φ J G F H/\f J=O ds/\∀vs H' F',Hc F H F' H'->Kw K F' H' ds vs->Q vs H'
structure DA(X:Cx)(es:List Jc)(f:De->Option (List Dt)):Prop where
 len:∀ J ds,f J=O ds->ds.length=es.length
 pa:PA X es (tAL X.K f)
structure Mz(X:Cx)(es:List Jc)(f:De->Option (List Dt)):Prop where
 len:∀ J ds,f J=O ds->ds.length=es.length
 pa:PA X es (tAB X.K f)
noncomputable def ae:De->C (Z Dt):=λ_=>O []
noncomputable def aa(f:De->C Dt)(g:De->C (Z Dt)):De->C (Z Dt):=λJ=>(f J).bind λd=>(g J).bind λds=>O (d::ds)
variable{es:Z Jc}{fs:De->C (Z Dt)}
theorem mC{f:De->C Dt}(h:∀ J ds,fs J=O ds->ds.length=n):∀ J ds,aa f fs J=O ds->ds.length=n+1:=λJ ds q=>by unfold aa at q;obtain⟨x,hx,q⟩:=bS q;obtain⟨y,Y,q⟩:=bS q;cases q;simp[h J y Y]
theorem br:DA X [] ae:=⟨λ_ _ h=>by cases h;rfl,PA.mono dN λG H Q ⟨Φ,J,F,ds,Y,en,q,k⟩=>by cases q;exact k [] H F (Hc.refl en.fh) (by simp only[hX])⟩
theorem da:Mz X [] ae:=⟨λ_ _ h=>by cases h;rfl,PA.mono dN λG H Q ⟨Φ,J,F,ds,Y,en,q,k⟩=>by cases q;exact k [] H F (Hc.refl en.fh) rfl⟩
theorem aE(h:DL X e g)(h':DA X es fs)(hs:G7 (e::es) X.env=(ξ,eval e X.env)::G7 es X.env:=by rfl):DA X (e::es) (aa g fs):=⟨mC h'.len,PA.mono (bM h h'.pa hs) λG H Q ⟨Φ,J,F,ds,Y,en,q,k⟩=>by unfold aa at q;obtain⟨x,hx,q⟩:=bS q;obtain⟨y,hy,q⟩:=bS q;cases q;exact⟨Φ,J,F,x,Y,en,hx,λv H1 F1 st r=>⟨Φ,J,F1,y,Y,en.step st,hy,λvs H2 F2 s2 r2=>k (v::vs) H2 F2 (st.trans s2) (by simp only[hX];exact⟨v,vs,rfl,r.same s2.ff,r2⟩)⟩⟩⟩
theorem cA(h:DB X e g)(h':Mz X es fs)(hs:G7 (e::es) X.env=(ξ,eval e X.env)::G7 es X.env:=by rfl):Mz X (e::es) (aa g fs):=⟨mC h'.len,PA.mono (bM h h'.pa hs) λG H Q ⟨Φ,J,F,ds,hK,en,q,k⟩=>by unfold aa at q;obtain⟨x,hx,q⟩:=bS q;obtain⟨y,hy,q⟩:=bS q;cases q;exact⟨Φ,J,F,x,hK,en,hx,λv H1 F1 st r=>⟨Φ,J,F1,y,hK,en.step st,hy,λvs H2 F2 Y r2=>k (v::vs) H2 F2 (st.trans Y) ⟨v,vs,rfl,r.step Y.ff Y.hh,r2⟩⟩⟩⟩
noncomputable def bi(f:De->C (Z Dt)):De->C T:=λJ=>(f J).bind λds=>if ds.length<=Hz then O (.f (.t ds))else V
noncomputable def aX(f:De->C (Z Dt)):De->C T:=λJ=>(f J).bind λds=>if ds.length<=Hz then O (.e ds)else V
theorem kP{x1}(h:DA X es fs):DO X (.Tuple es x1 pos) (bi fs):=PE.mono (qS h.pa) λG H Q ⟨Φ,J,F,t,Y,en,q,k⟩=>by
 unfold bi at q;obtain⟨ds,hd,q⟩:=bS q;split at q
 .rename_i hl;cases q;refine⟨Φ,J,F,ds,Y,en,hd,λvs H1 F1 st r=>⟨by rw[r.length];exact hl,λp hp=>?_⟩⟩;refine(k.step st).leaf _ _ _ (Hc.new st.fh hp) ?_;simp only[G3];exact⟨p,vs,rfl,II.of aA,r.same (zz.upd (st.fh.free hp))⟩
 .cases q
theorem dy{F:Hp}(k:KO K F H (.e ds) Q)(q:zz F H)(r:hX K F ds vs)(hp:H p=V):Q (.ref p) (upd H p (.e vs)):=by
 refine k _ _ F (λb=>b=p) (Hc.made q hp) ⟨p,vs,rfl,rfl,aA,r⟩ λb z=>?_
 subst z;exact⟨q.free hp,hp,_,aA,nofun⟩
theorem cK(h:DA X es fs):DO X (.List es pos) (aX fs):=PE.mono (C7 h.pa) λG H Q ⟨Φ,J,F,t,Y,en,q,k⟩=>by
 unfold aX at q;obtain⟨ds,hd,q⟩:=bS q;split at q
 .rename_i hl;cases q;exact⟨Φ,J,F,ds,Y,en,hd,λvs H1 F1 st r=>⟨by rw[r.length];exact hl,λp hp=>dy (k.step st) st.fh r hp⟩⟩
 .cases q
def MS(K:Hk)(r:Z ψ->Hp->VK->Prop)(g:Z Dt->C T):Prop:=∀F H ds vs (Q:VK) t,zz F H->Kw K F H ds vs->g ds=O t->KO K F H t Q->r vs H Q
noncomputable def ag(g:Z Dt->C T)(f:De->C (Z Dt)):De->C T:=λJ=>(f J).bind g
theorem wH{r:Z ψ->Hp->VK->Prop}{g:Z Dt->C T}(hr:MS K r g)(h:tO K (ag g fs) G H Q):We r (tAB K fs) G H Q:=by obtain⟨Φ,J,F,t,Y,en,q,k⟩:=h;unfold ag at q;obtain⟨ds,hd,q⟩:=bS q;exact⟨Φ,J,F,ds,Y,en,hd,λvs H1 F1 st r=>hr F1 H1 ds vs Q t st.fh r q (k.step st)⟩
variable{x:Str}{p:Pos}{id Ty:String}{sc:Jd}{r:Z ψ->Hp->VK->Prop}{gg:Z Dt->C T}
theorem cV (h:aw sc x=D) (hc:Hw X (.builtin id) r) (hr:MS X.K r gg) (hm:X.mg x=V) (hv:Kk x=O (.builtin id)) (ha:Mz X (e::es) fs) (e1:bT X sc:=by rfl)
  (he:G7 (e::es) X.env=(ξ,eval e X.env)::G7 es X.env:=by rfl) (Y:(IK pos (G7 es X.env)).any (·.1)=ξ:=by rfl):DO X (.Call (.Name x p) (e::es) [] pos) (ag gg fs):=
 PE.mono (g0 h hc hm hv ha.pa e1 he Y) λG H Q q=>wH hr q
theorem db (h:aw sc x=D) (hc:Hw X (.type Ty) r) (hr:MS X.K r gg) (hm:X.mg x=V) (hv:Kk x=O (.type Ty)) (ha:Mz X (e::es) fs) (e1:bT X sc:=by rfl)
  (he:G7 (e::es) X.env=(ξ,eval e X.env)::G7 es X.env:=by rfl) (Y:(IK pos (G7 es X.env)).any (·.1)=ξ:=by rfl):DO X (.Call (.Name x p) (e::es) [] pos) (ag gg fs):=
 PE.mono (iq h hc hm hv ha.pa e1 he Y) λG H Q q=>wH hr q
def Ha(K:Hk)(n:Nat)(f:Z Dt->C T):Sp:=λvs H Q _=>∃F ds t,zz F H/\ds.length=n/\hX K F ds vs/\f ds=O t/\KO K F H t Q
theorem cL{ff:Z Dt->C T}(h:aw sc x=D)(F:G9 X.prog X.w X.K X.mg X.base x k ps (Ha X.K n ff))(hr:Hh k X.A)(ha:DA X (e::es) fs)(hn:(e::es).length=n:=by rfl)(e1:bT X sc:=by rfl)
 (he:G7 (e::es) X.env=(ξ,eval e X.env)::G7 es X.env:=by rfl) (Y:(IK pos (G7 es X.env)).any (·.1)=ξ:=by rfl):DO X (.Call (.Name x p) (e::es) [] pos) (ag ff fs):=
 PE.mono (jn h F hr ha.pa e1 he Y) λG H Q ⟨Φ,J,Fz,t,hK,en,q,k⟩=>by unfold ag at q;obtain⟨ds,hd,q⟩:=bS q;refine⟨Φ,J,Fz,ds,hK,en,hd,λvs H1 F1 st r=>?_⟩;show Ha X.K n ff (vs++[]) H1 Q E0;rw[Pb];exact⟨F1,ds,t,st.fh,(ha.len J ds hd).trans hn,r,q,k.step st⟩
end
inductive Hj where
 |nx (J:De)|rt (t:T)|bk (J:De)|ct (J:De)
structure Rt(Φ:Fm)(t:T)(v:ψ)(F H:Hp):Prop where
 fh:zz F H
 IY:∀b o,Φ.H0 b=O o->¬ Φ.S0 b->H b=O o
 old:zz Φ.F0 F
 nw:∀b o,F b=O o->Φ.F0 b=O o∨Φ.B b∨∃vs,Φ.H0 b=O (.t vs)
 own:∃S,K8 Φ.K F H t v S/\∀b,S b->F b=V/\(∃o,H b=O o/\NT o)/\Φ.B b
def MT(Φ:Fm)(θ:Li):Hj->Prop
 |.nx J=>∀ G F H,En Φ J G F H->θ.nx G H
 |.rt t=>∀v F H,Rt Φ t v F H->θ.rt v H
 |.bk J=>∀ G F H,En Φ J G F H->θ.bk G H
 |.ct J=>∀ G F H,En Φ J G F H->θ.ct G H
def tS(K:Hk)(g:De->C Hj):TS:=λθ G H=>∃ Φ J F o,Fm.K Φ=K/\En Φ J G F H/\g J=O o/\MT Φ θ o
def KI(X:Cx)(st:Jb)(g:De->C Hj):Prop:=PS X st (tS X.K g)
def DS(X:Cx)(ss:Z Jb)(g:De->C Hj):Prop:=Kq X ss (tS X.K g)
variable{Φ:Fm}{J:De}{F' H':Hp}{N:Z Str}{θ:Li}{es:Z Jc}{ts:Z Nat}{bb:Dt->De->C De}{δ:It}{xs:Z ψ}
section
variable{X:Cx}{st:Jb}{Hg a b body:Z Jb}{g g1 g2:De->C Hj}{e c tg iter:Jc}{pos:Pos}{f:De->C T}{fd:De->C Dt}{tc:De->C Bool}{i:Nat}
noncomputable def aM:De->C Hj:=λJ=>O (.nx J)
noncomputable def aj(g1 g2:De->C Hj):De->C Hj:=λJ=>(g1 J).bind λo=>match o with
 |.nx q=>g2 q
 |o=>O o
theorem aq:DS X [] aM:=Kq.mono zq λθ G H ⟨Φ,J,F,o,Y,en,q,k⟩=>by cases q;exact k G F H en
theorem af(h:KI X st g):DS X [st] g:=sN h
theorem ac(h1:KI X st g1)(h2:DS X Hg g2):DS X (st::Hg) (aj g1 g2):=Kq.mono (iD h1 h2) λθ G H ⟨Φ,J,F,o,hK,en,Y,k⟩=>by
 unfold aj at Y;obtain⟨o1,h1,Y⟩:=bS Y;refine⟨Φ,J,F,o1,hK,en,h1,?_⟩;cases o1 with
 |nx q=>exactλJF F' H' Kx=>⟨Φ,q,F',o,hK,Kx,Y,k⟩
 |rt t=>cases Y;exact k
 |bk q=>cases Y;exact k
 |ct q=>cases Y;exact k
noncomputable def az(f:De->C T):De->C Hj:=λJ=>(f J).map .rt
theorem En.rt{F:Hp}{t:T}{S:J9->Prop}(en:En Φ J G F H)(st:Hc F H F' H')(o:K8 Φ.K F' H' t v S)(Y:∀b,S b->F' b=V/\H b=V/\∃o,H' b=O o/\NT o):Rt Φ t v F' H':=by have q:=en.step st;exact⟨q.fh,q.IY,q.old,q.nw,S,o,λb z=>⟨(Y b z).1,(Y b z).2.2,en.fresh (Y b z).2.1⟩⟩
theorem ak(h:DO X e f):KI X (.Return (O e) pos) (az f):=PS.mono (nQ h) λθ G H ⟨Φ,J,F,o,Y,en,q,k⟩=>by unfold az at q;obtain⟨t,ht,q⟩:=mS q;cases q;exact⟨Φ,J,F,t,Y,en,ht,λv H' F' S st o hs=>k v F' H' (en.rt st (Y▸o) hs)⟩
def eZ(i:Nat):De->C Hj:=λJ=>match J[i]? with
 |some (O t)=>O (.rt t)
 |_=>V
theorem dz(h:PE X e (gd i)):KI X (.Return (O e) pos) (eZ i):=PS.mono (nQ h) λθ G H ⟨Φ,J,F,o,hK,en,Y,k⟩=>by
 unfold eZ at Y;split at Y
 .rename_i t q;cases Y;obtain⟨v,hv⟩:=en.has i t q;obtain⟨S,s⟩:=en.sep;exact⟨v,hv,k v F H ⟨en.fh,en.IY,en.old,en.nw,S i,s.own i t v (bF q hv),λb z=>s.out i b z⟩⟩
 .cases Y
noncomputable def HD(c:De->C Bool)(g1 g2:De->C Hj):De->C Hj:=λJ=>(c J).bind λb=>if b then g1 J else g2 J
theorem ay(hc:DT X c tc)(h1:DS X a g1)(h2:DS X b g2):KI X (.If c a b pos) (HD tc g1 g2):=PS.mono (FO hc h1 h2) λθ G H ⟨Φ,J,F,o,hK,en,Y,k⟩=>by
 unfold HD at Y;obtain⟨x,hx,Y⟩:=bS Y;refine⟨Φ,J,F,x,hK,en,hx,λH' F' st=>?_⟩;split at Y
 .rename_i q;rw[if_pos q];exact⟨Φ,J,F',o,hK,en.step st,Y,k⟩
 .rename_i q;rw[if_neg q];exact⟨Φ,J,F',o,hK,en.step st,Y,k⟩
noncomputable def ar(i:Nat)(f:De->C T):De->C Hj:=λJ=>(f J).map λt=>.nx (J.set i (O t))
theorem wI{sc:Jd}{pos':Pos}(h:dl sc N i x=D)(hl:ip sc x=D)(nd:N.Nodup)(he:DO X e f)(e1:bT X sc:=by rfl)(e2:X.N=N:=by rfl)(hf:X.fn x=D∨X.env.scope.names.lookup x=O .local:=by exact .inl rfl)
 (Y:Mu e (O (.Name x pos')) pos.line X.env=pure ξ:=by rfl):KI X (.Assign [.Name x pos'] e pos) (ar i f):=PS.mono (oj h hl nd he e1 e2 hf Y) λθ G H ⟨Φ,J,F,o,hK,en,q,k⟩=>by
 unfold ar at q;obtain⟨t,ht,q⟩:=mS q;cases q;exact⟨Φ,J,F,t,hK,en,ht,λv H' F' S st o Y=>k _ F' H' (en.put st (hK▸o) Y i)⟩
def lY(i:Nat)(g:De->C Hj):De->C Hj:=λJ=>match J[i]? with
 |some (O t)=>t.d.bind λd=>g (J.set i (O (.f d)))
 |_=>V
theorem Dv(h:tS K (lY i g) θ G H):tS K g θ G H:=by
 obtain⟨Φ,J,F,o,hK,en,Y,k⟩:=h;unfold lY at Y;split at Y
 .rename_i t q;obtain⟨d,hd,Y⟩:=bS Y;obtain⟨F',Kx⟩:=en.freeze q (T.zd hd);exact⟨Φ,_,F',o,hK,Kx,Y,k⟩
 .cases Y
theorem oB(h:KI X st g):KI X st (lY i g):=PS.mono h λθ G H q=>Dv q
def gD(K:Hk)(ts:Z Nat)(st:Dt->De->C De):TG:=λv G H Q=>∃ Φ J F d Y,Fm.K Φ=K/\En Φ J G F H/\G3 K F d v/\st d J=O Y/\∀q,q.length=G.length->(∀j,j∉ts->q[j]?=G[j]?)->En Φ Y q F H->Q q H
def gsD(K:Hk)(ts:Z Nat)(st:Z Dt->De->C De):Pn:=λvs G H Q=>∃ Φ J F ds Y,Fm.K Φ=K/\En Φ J G F H/\hX K F ds vs/\st ds J=O Y/\∀q,q.length=G.length->(∀j,j∉ts->q[j]?=G[j]?)->En Φ Y q F H->Q q H
def DG(X:Cx)(tg:Jc)(ts:Z Nat)(bb:Dt->De->C De):Prop:=PG X tg (gD X.K ts bb)
def UH(X:Cx)(tg:Z Jc)(ts:Z Nat)(bb:Z Dt->De->C De):Prop:=RT X tg (gsD X.K ts bb)
noncomputable def am(i:Nat):Dt->De->C De:=λd J=>O (J.set i (O (.f d)))
theorem En.name{F:Hp}(en:En Φ J G F H){d:Dt}(r:G3 Φ.K F d v)(i:Nat):En Φ (J.set i (O (.f d))) (G.set i (O v)) F H:=en.put (Hc.refl en.fh) (S':=λ_=>False) (t:=.f d) r (λ_ z=>z.elim) i
theorem al(h:PG X tg (ku i)):DG X tg [i] (am i):=PG.mono h λv G H Q ⟨Φ,J,F,d,JO,q,en,r,hd,k⟩=>by cases hd;refine k _ Ξ (λj Y=>?_) (en.name (q▸r) i);rw[List.getElem?_set_ne λz=>Y (by simp[z])]
noncomputable def iu:Z Dt->De->C De:=λds J=>if ds.isEmpty then O J else V
noncomputable def bh(b:Dt->De->C De)(bs:Z Dt->De->C De):Z Dt->De->C De:=λds J=>match ds with
 |d::r=>(b d J).bind λHP=>bs r HP
 |[]=>V
noncomputable def jT(n:Nat)(bs:Z Dt->De->C De):Dt->De->C De:=λd J=>match d with
 |.t ds=>if ds.length=n then bs ds J else V
 |_=>V
theorem cQ:UH X [] [] iu:=λJ1 s G H vs us Q I r q=>zr J1 s G H vs us Q I r (by
 obtain⟨Φ,J,F,ds,JO,hK,en,rs,Y,k⟩:=q;unfold iu at Y;cases ds with
 |nil=>cases Y;simp only[hX]at rs;exact⟨rs,k G rfl (λ_ _=>rfl) en⟩
 |cons d l=>cases Y)
theorem av{ts':Z Nat}{bs:Z Dt->De->C De}(h1:DG X e ts bb)(h2:UH X es ts' bs)
 (hs:(Mb (e::es) X.env).map (·.2)=N7 e X.env::(Mb es X.env).map (·.2):=by rfl):UH X (e::es) (ts++ts') (bh bb bs):=λJ1 s G H vs us Q I r q=>vH h1 h2 hs J1 s G H vs us Q I r (by
 obtain⟨Φ,J,F,ds,JO,hK,en,rs,Y,k⟩:=q;unfold bh at Y;cases ds with
 |nil=>cases Y
 |cons d l=>simp only[hX]at rs;obtain⟨v,ws,e,r1,r2⟩:=rs;dsimp only at Y;obtain⟨HP,hb,Y⟩:=bS Y;refine⟨v,ws,e,Φ,J,F,d,HP,hK,en,r1,hb,λσ1 l1 k1 JK=>⟨Φ,HP,F,l,JO,hK,JK,r2,Y,λL6 l2 k2 KG=>k L6 (l2.trans l1) (λj hj=>?_) KG⟩⟩;rw[k2 j λz=>hj (Lr _ z),k1 j λz=>hj (Kj _ z)])
theorem fq{bs:Z Dt->De->C De}(hc:X.calm=D)(h:UH X es ts bs)
 (hn:(Mb es X.env).length=n:=by rfl) (Pu:(Mb es X.env).findIdx? (·.1)=V:=by rfl):DG X (.Tuple es k pos) ts (jT n bs):=PG.mono (CO hc h hn Pu) λv G H Q ⟨Φ,J,F,d,JO,hK,en,r,Y,q⟩=>by
 unfold jT at Y;split at Y
 .rename_i ds;split at Y
  .rename_i hl;simp only[G3]at r;obtain⟨a,vs,e,h1,h2⟩:=r;exact⟨a,vs,e,en.fh.tup h1,by rw[h2.length];exact hl,Φ,J,F,ds,JO,hK,en,h2,Y,q⟩
  .cases Y
 .cases Y
noncomputable def lZ(fd:De->C Dt)(bb:Dt->De->C De):De->C Hj:=λJ=>(fd J).bind λd=>(bb d J).map .nx
theorem jo(he:DL X e fd)(q:DG X tg ts bb)(hs:zi0 [tg] e pos.line X.env=pure ξ:=by rfl)(hw:zi1 [tg] e X.env=pure V:=by rfl)
 (h1:(Mb [tg] X.env).map (·.2)=[N7 tg X.env]:=by rfl):KI X (.Assign [tg] e pos) (lZ fd bb):=PS.mono (vI he q hs hw h1) λθ G H ⟨Φ,J,F,o,hK,en,q,k⟩=>by
 unfold lZ at q;obtain⟨d,hd,q⟩:=bS q;obtain⟨JO,hb,q⟩:=mS q;cases q;exact⟨Φ,J,F,d,hK,en,hd,λv H' F' st r=>⟨Φ,J,F',d,JO,hK,en.step st,r,hb,λY _ _ Kx=>k Y F' H' Kx⟩⟩
def pM(K:Hk)(F':Hp)(δ:It)(ds:Z Dt)(ok:Hp->Prop):Prop:=∀(i:Nat)(H F:Hp),ok H->zz F H->zz F' F->(i<ds.length->δ.go i H)/\(i=ds.length->δ.stop i H)/\∀x H',i<ds.length->δ.P5 i H x H'->∃d q,ds[i]?=O d/\Hc F H q H'/\G3 K q d x
theorem KW.walk{ok:Hp->Prop}(pl:KW δ xs ok)(r:hX K F' ds xs):pM K F' δ ds ok:=λi H F q fh ff=>by
 obtain⟨p1,p2,p3⟩:=pl i H q;have hl:=r.length;refine⟨λh=>p1 Θ,λh=>p2 Θ,λx H' hi hy=>?_⟩;obtain⟨rfl,hx⟩:=p3 x H' Θ hy;have Y:ds[i]?=O ds[i]:=by simp[hi]
 obtain⟨v,e,rv⟩:=r.get Y;rw[hx]at e;cases e;exact⟨_,F,Y,Hc.refl fh,rv.same ff⟩
def tIF(K:Hk)(f:De->C (Z Dt)):TI:=λG H R=>∃ Φ J F ds,Fm.K Φ=K/\En Φ J G F H/\f J=O ds/\∀δ ok H' F',Hc F H F' H'->pM K F' δ ds ok->(∀H2,zz F' H2->ok H2)->R δ H'
def tIB(K:Hk)(f:De->C (Z Dt)):TI:=λG H R=>∃ Φ J F ds,Fm.K Φ=K/\En Φ J G F H/\f J=O ds/\∀δ ok H' F',Hc F H F' H'->pM K F' δ ds ok->(∀H2,zz H' H2->ok H2)->R δ H'
def LP(X:Cx)(tg iter:Jc)(f:De->C (Z Dt)):Prop:=PI X tg iter (tIF X.K f)
def Sg(X:Cx)(tg iter:Jc)(f:De->C (Z Dt)):Prop:=PI X tg iter (tIB X.K f)
theorem LP.Hu{fi:De->C (Z Dt)}(h:LP X tg iter fi):Sg X tg iter fi:=PI.mono h λG H R ⟨Φ,J,F,ds,q,en,Y,k⟩=>⟨Φ,J,F,ds,q,en,Y,λδ ok H' F' st wd ho=>k δ ok H' F' st wd λH2 s=>ho H2 (st.fh.trans s)⟩
end
variable{F1 H1:Hp}{o:Hj}
section
variable{X:Cx}{st:Jb}{Hg a b body:Z Jb}{g g1 g2:De->C Hj}{e c tg iter l:Jc}{pos:Pos}{f:De->C T}{fd:De->C Dt}{tc:De->C Bool}{i:Nat}{fi:De->C (Z Dt)}
noncomputable def fu(bb:Dt->De->C De)(g:De->C Hj):Z Dt->De->C Hj
 |[],J=>O (.nx J)
 |d::r,J=>(bb d J).bind λHP=>(g HP).bind λo=>match o with
  |.nx q=>fu bb g r q
  |.ct q=>fu bb g r q
  |.bk q=>O (.nx q)
  |.rt t=>O (.rt t)
def cM(fi:De->C (Z Dt))(bb:Dt->De->C De)(g:De->C Hj):De->C Hj:=λJ=>(fi J).bind λds=>fu bb g ds J
theorem hX.OL{F:Hp}(r:hX K F ds xs){x:ψ}(h:xs[i]?=O x):∃d,ds[i]?=O d/\G3 K F d x:=by
 have hl:=r.length;have hi:i<xs.length:=(gX h).1;have q:ds[i]?=O ds[i]:=by simp[show i<ds.length by lia]
 obtain⟨v,e,Y⟩:=r.get q;rw[h]at e;cases e;exact⟨_,q,Y⟩
theorem tq{α:Type}{l:Z α}{d:α}(h:l[i]?=O d):l.drop i=d::l.drop (i+1):=by have hi:i<l.length:=(gX h).1;rw[List.drop_eq_getElem_cons hi];congr 1;have:=(gX h).2;exact this
noncomputable def Fm.at(Φ:Fm)(F1:Hp):Fm:={Φ with F0:=F1}
theorem En.back{Y:De}{q:St}{F:Hp}(en:En Φ J G F1 H1)(e:En (Φ.at F1) Y q F H):En Φ Y q F H:=⟨e.fh,e.IY,en.old.trans e.old,λb o h=>(e.nw b o h).elim (λz=>en.nw b o z) .inr,e.len,e.has,e.sep⟩
theorem Rt.back{F:Hp}{t:T}(en:En Φ J G F1 H1)(e:Rt (Φ.at F1) t v F H):Rt Φ t v F H:=⟨e.fh,e.IY,en.old.trans e.old,λb o h=>(e.nw b o h).elim (λz=>en.nw b o z) .inr,e.own⟩
theorem En.at(en:En Φ J G F1 H1):En (Φ.at F1) J G F1 H1:=⟨en.fh,en.IY,zz.refl _,λb o h=>.inl h,en.len,en.has,en.sep⟩
theorem MT.at(en:En Φ J G F1 H1)(k:MT Φ θ o):MT (Φ.at F1) θ o:=by
 cases o with
 |nx Y=>exactλq F H e=>k q F H (en.back e)
 |bk Y=>exactλq F H e=>k q F H (en.back e)
 |ct Y=>exactλq F H e=>k q F H (en.back e)
 |rt t=>exactλv F H e=>k v F H (Rt.back en e)
theorem wJ{g:TG}{tb:TS}(Pv:Nat->St->Hp->Prop)(h0:Pv 0 G H1)(hgo:∀i G H,Pv i G H->(i<n->δ.go i H)/\(i=n->δ.stop i H))
 (hs:∀i x G H H',i<n->Pv i G H->δ.P5 i H x H'->g x G H' λY H2=>tb {θ with nx:=Pv (i+1),ct:=Pv (i+1),bk:=θ.nx} Y H2) (hd:∀ G H,Pv n G H->θ.nx G H):Dl g tb θ δ G H1:=by
 refine⟨λi m G H=>m=n-i/\i<=n/\Pv i G H,⟨n,Ξ,M8 _,h0⟩,?_⟩;rintro i m G H ⟨rfl,hi,p⟩;obtain⟨p1,p2⟩:=hgo i G H p;by_cases q:i<n
 .exact .inr ⟨p1 q,Pv (i+1),λJF H' p'=>⟨n-(i+1),Θ,rfl,q,p'⟩,λx H' y=>hs i x G H H' q p y⟩
 .have e:i=n:=by lia
  subst e;exact .inl ⟨p2 rfl,hd G H p⟩
theorem wK{F:Hp}(hK:Fm.K Φ=K)(en:En Φ J G F H)(hg:fu bb g ds J=O o)(k:MT Φ θ o){ok:Hp->Prop}(Lx:Hc F H F1 H1)(wd:pM K F1 δ ds ok)(ho:∀H2,zz F1 H2->ok H2):Dl (gD K ts bb) (tS K g) θ δ G H1:=by
 have JK:=en.step Lx;have k1:=MT.at JK k;refine wJ (n:=ds.length) (λi JF H'=>∃ JO F',En (Φ.at F1) JO JF F' H'/\fu bb g (ds.drop i) JO=O o) ⟨J,F1,JK.at,by simpa using hg⟩ (λi JF H' ⟨JO,F',Kx,_⟩=>?_) ?_ ?_
 .obtain⟨p1,p2,_⟩:=wd i H' F' (ho H' (Kx.old.trans Kx.fh)) Kx.fh Kx.old;exact⟨p1,p2⟩
 .rintro i x JF H' H'' hi ⟨JO,F',Kx,Y⟩ hy;obtain⟨_,_,p3⟩:=wd i H' F' (ho H' (Kx.old.trans Kx.fh)) Kx.fh Kx.old;obtain⟨d,F2,hd',JA,rd⟩:=p3 x H'' hi hy;rw[tq hd']at Y;unfold fu at Y;obtain⟨HP,h1,Y⟩:=bS Y;obtain⟨o1,h2,Y⟩:=bS Y;refine⟨Φ.at F1,JO,F2,d,HP,hK,Kx.step JA,rd,h1,λσ1 _ _ JK=>⟨Φ.at F1,HP,F2,o1,hK,JK,h2,?_⟩⟩;cases o1 with
  |nx Ln=>exactλL6 F2 H2 KG=>⟨Ln,F2,KG,Y⟩
  |ct Ln=>exactλL6 F2 H2 KG=>⟨Ln,F2,KG,Y⟩
  |bk Ln=>cases Y;exactλL6 F2 H2 KG=>k1 L6 F2 H2 KG
  |rt t=>cases Y;exactλv F2 H2 q=>k1 v F2 H2 q
 .rintro JF H' ⟨JO,F',Kx,Y⟩;rw[List.drop_length]at Y;cases Y;exact k1 JF F' H' Kx
theorem bB(hp:VQ (model X.prog X.w) X.A X.env X.xe)(hc:X.calm=D)(hi:LP X tg iter fi)(q:DG X tg ts bb)(hb:DS X body g)
 (hs:∀x,Om iter X.env x=pure x:=by intro _;rfl):KI X (.For tg iter body [] pos) (cM fi bb g):=PS.mono (vM hp hc hi q hb hs) λθ G H ⟨Φ,J,F,o,hK,en,q,k⟩=>by
 unfold cM at q;obtain⟨ds,hd,q⟩:=bS q;rw[tp];refine⟨Φ,J,F,ds,hK,en,hd,λδ ok H1 F1 Y wd ho=>?_⟩;exact wK hK en q k Y wd ho
def be(c:De->C Bool)(g:De->C Hj):Nat->De->C Hj
 |0,_=>V
 |n+1,J=>(c J).bind λb=>if b then(g J).bind λo=>match o with
  |.nx q=>be c g n q
  |.ct q=>be c g n q
  |.bk q=>O (.nx q)
  |.rt t=>O (.rt t)
 else O (.nx J)
theorem cB(n:Nat)(hp:VQ (model X.prog X.w) X.A X.env X.xe)(hc:DT X c tc)(hb:DS X body g):KI X (.While c body [] pos) (be tc g n):=PS.mono (vJ hp hc hb) λθ G H ⟨Φ,J,F,o,hK,en,hg,k⟩=>by
 refine⟨λm JF H'=>∃ JO F',En Φ JO JF F' H'/\be tc g m JO=O o,⟨n,J,F,en,hg⟩,?_⟩;rintro m JF H' ⟨JO,F',Kx,Y⟩;cases m with
 |zero=>cases Y
 |succ m=>
  unfold be at Y;obtain⟨x,hx,Y⟩:=bS Y;refine⟨Φ,JO,F',x,hK,Kx,hx,λH1 F1 st=>?_⟩;split at Y
  .rename_i q;rw[if_pos q];obtain⟨o1,h2,Y⟩:=bS Y;refine⟨λL6 H2=>∃ Ln F2,En Φ Ln L6 F2 H2/\be tc g m Ln=O o,λL6 H2 z=>⟨m,Ue m,z⟩,Φ,JO,F1,o1,hK,Kx.step st,h2,?_⟩;cases o1 with
   |nx Ln=>exactλL6 F2 H2 KG=>⟨Ln,F2,KG,Y⟩
   |ct Ln=>exactλL6 F2 H2 KG=>⟨Ln,F2,KG,Y⟩
   |bk Ln=>cases Y;exactλL6 F2 H2 KG=>k L6 F2 H2 KG
   |rt t=>cases Y;exactλv F2 H2 q=>k v F2 H2 q
  .rename_i q;rw[if_neg q];cases Y;exact k JF F1 H1 (Kx.step st)
noncomputable def Gf(x:Str):Z Dt:=x.cps.toList.map λc=>.str ⟨#[c]⟩
noncomputable def iw(lo:Int)(n:Nat):Z Dt:=(HQ n).map λ(i:Nat)=>.int (lo+i)
theorem hX.map{F:Hp}{α:Type}{f:α->Dt}{g:α->ψ}(h:∀x,G3 K F (f x) (g x)):∀l:Z α,hX K F (l.map f) (l.map g)
 |[]=>by simp[hX]
 |x::l=>by simp only[Ia,hX];exact⟨_,_,rfl,h x,hX.map h l⟩
def Qi:Dt->C (Z Dt)
 |.e l=>O l
 |.t l=>O l
 |.str x=>O (Gf x)
 |_=>V
def HS(f:De->C Dt):De->C (Z Dt):=λJ=>(f J).bind Qi
theorem cN(h:DL X l fd):LP X tg l (HS fd):=PI.mono (PI.or (nR h) (PI.or (vK h) (wm h))) λG H R ⟨Φ,J,F,ds,Y,en,q,k⟩=>by
 unfold HS at q;obtain⟨d,hd,q⟩:=bS q;cases d with
 |e l=>cases q;refine .inl ⟨Φ,J,F,_,Y,en,hd,λv H' F' st r=>?_⟩;simp only[G3]at r;obtain⟨a,vs,rfl,h1,h2⟩:=r;exact⟨a,rfl,⟨vs,st.fh.seq h1⟩,k _ _ H' F' st (JI.walk h2) λH2 s=>s.seq h1⟩
 |t l=>cases q;refine .inr (.inl ⟨Φ,J,F,_,Y,en,hd,λv H' F' st r=>?_⟩);simp only[G3]at r;obtain⟨a,vs,rfl,h1,h2⟩:=r;exact⟨a,rfl,⟨vs,st.fh.tup h1⟩,k _ _ H' F' st (Lv.walk h2) λH2 s=>s.tup h1⟩
 |str x=>cases q;refine .inr (.inr ⟨Φ,J,F,_,Y,en,hd,λv H' F' st r=>?_⟩);simp only[G3]at r;exact⟨x,r,k _ _ H' F' st (Lw.walk (hX.map (λc=>iQ) _)) λ_ _=>trivial⟩
 |_=>cases q
theorem aK(h:DB X l fd):Sg X tg l (HS fd):=PI.mono (PI.or (nR h) (PI.or (vK h) (wm h))) λG H R ⟨Φ,J,F,ds,Y,en,q,k⟩=>by
 unfold HS at q;obtain⟨d,hd,q⟩:=bS q;cases d with
 |e l=>cases q;refine .inl ⟨Φ,J,F,_,Y,en,hd,λv H' F' st r=>?_⟩;obtain⟨a,vs,rfl,h1,h2⟩:=r;exact⟨a,rfl,⟨vs,h1⟩,k _ _ H' F' st (JI.walk h2) λH2 s=>s.seq h1⟩
 |t l=>cases q;refine .inr (.inl ⟨Φ,J,F,_,Y,en,hd,λv H' F' st r=>?_⟩);obtain⟨a,vs,rfl,h1,h2⟩:=r;exact⟨a,rfl,⟨vs,st.fh.tup h1⟩,k _ _ H' F' st (Lv.walk h2) λH2 s=>s.tup (st.fh.tup h1)⟩
 |str x=>cases q;refine .inr (.inr ⟨Φ,J,F,_,Y,en,hd,λv H' F' st r=>?_⟩);exact⟨x,r,k _ _ H' F' st (Lw.walk (hX.map (λc=>iQ) _)) λ_ _=>trivial⟩
 |_=>cases q
noncomputable def fZ(j:Int):Bool:=decide (-(2^62)<=j)&&decide (j<2^62)
def d6:Z Dt->C (Z Dt)
 |[.int j]=>if fZ j then O (iw 0 j.toNat)else V
 |_=>V
def rh:Z Dt->C (Z Dt)
 |[.int i,.int j]=>if fZ i&&fZ j then O (iw i (j-i).toNat)else V
 |_=>V
noncomputable def cH(r:Z Dt->C (Z Dt))(f:De->C (Z Dt)):De->C (Z Dt):=λJ=>(f J).bind r
variable{p:Pos}{sc:Jd}{x y:Jc}{fs:De->C (Z Dt)}
theorem eD{j:Int}(h:fZ j=D):-(2^62)<=j/\j<2^62:=by unfold fZ at h;simpa using h
theorem kQ{F:Hp}(lo:Int)(n:Nat):hX K F (iw lo n) (kJ lo n):=hX.map (λ_=>fN) _
theorem bC(h:aw sc "range"=D)(hm:X.mg "range"=V)(ha:DA X [x] fs)(e1:bT X sc:=by rfl)(hs:G7 [x] X.env=[(ξ,eval x X.env)]:=by rfl):LP X tg (.Call (.Name "range" p) [x] [] pos) (cH d6 fs):=
 PI.mono (rf h hm ha.pa e1 hs) λG H R ⟨Φ,J,F,ds,hK,en,q,k⟩=>by
  unfold cH at q;obtain⟨as,hd,q⟩:=bS q;refine⟨Φ,J,F,as,hK,en,hd,λvs H' F' st r=>?_⟩;unfold d6 at q;split at q
  .rename_i j;split at q
   .rename_i Y;cases q;simp only[hX,G3]at r;obtain⟨v,ws,rfl,rfl,rfl⟩:=r;exact⟨j,rfl,(eD Y).1,(eD Y).2,k _ _ H' F' st (Ku.walk (kQ _ _)) λ_ _=>trivial⟩
   .cases q
  .cases q
theorem mD (h:aw sc "range"=D) (hm:X.mg "range"=V) (ha:DA X [x,y] fs) (e1:bT X sc:=by rfl) (hs:G7 [x,y] X.env=[(ξ,eval x X.env),(ξ,eval y X.env)]:=by rfl) (Nu:G7 [y] X.env=[(ξ,eval y X.env)]:=by rfl) :
  LP X tg (.Call (.Name "range" p) [x,y] [] pos) (cH rh fs):=
 PI.mono (rg h hm ha.pa e1 hs Nu) λG H R ⟨Φ,J,F,ds,hK,en,q,k⟩=>by
  unfold cH at q;obtain⟨as,hd,q⟩:=bS q;refine⟨Φ,J,F,as,hK,en,hd,λvs H' F' st r=>?_⟩;unfold rh at q;split at q
  .rename_i i j;split at q
   .rename_i Y;rw[IH]at Y;cases q;simp only[hX,G3]at r;obtain⟨v,ws,rfl,rfl,w,us,rfl,rfl,rfl⟩:=r;exact⟨i,j,rfl,⟨(eD Y.1).1,(eD Y.1).2,(eD Y.2).1,(eD Y.2).2⟩,k _ _ H' F' st (Ku.walk (kQ _ _)) λ_ _=>trivial⟩
   .cases q
  .cases q
end
noncomputable def dC(src:Z (C Nat))(J:De):De:=src.map λo=>o.bind λj=>(J[j]?).join
def cO(bb:Dt->De->C De)(ft:De->C Bool)(fe:De->C Dt)(J:De):Z Dt->C (Z Dt)
 |[]=>O []
 |d::r=>(bb d J).bind λHP=>(ft HP).bind λb=>if b then(fe HP).bind λy=>(cO bb ft fe J r).bind λys=>O (y::ys)else cO bb ft fe J r
def aL(src:Z (C Nat))(fi:De->C (Z Dt))(bb:Dt->De->C De)(ft:De->C Bool)(fe:De->C Dt):De->C T:=λJ =>(fi J).bind λds=>(cO bb ft fe (dC src J) ds).bind λys=>if ys.length<=Hz then O (.e ys)else V
noncomputable def cJ:De->C Bool:=λ_=>O D
def Sh(X:Cx)(ifs:Z Jc)(f:De->C Bool):Prop:=Qd X ifs (Qg X.K f)
theorem bH:Sh X [] cJ:=λJ1 s G H Q I h=>zL J1 s G H Q I (by obtain⟨Φ,J,F,b,Y,en,q,k⟩:=h;cases q;exact k H F (Hc.refl en.fh))
theorem bu{c:Jc}{f:De->C Bool}(h:DT X c f):Sh X [c] f:=zM h
section
variable{X:Cx}{elt tg iter:Jc}{ifs:Z Jc}{scope:Jd}{pos:Pos}{M:Z Str}{src:Z (C Nat)}{fi:De->C (Z Dt)}{ft:De->C Bool}{fe:De->C Dt}
theorem zS(S:G4 X.N X.env.scope scope M src){l:Nat}(hk:src[k]?=O (O j))(hl:src[l]?=O (O j)):k=l:=by
 have nm:∀k,src[k]?=O (O j)->∃x,M[k]?=O x/\X.N[j]?=O x:=λk h=>by
  have q:k<M.length:=by rw[S.len];exact(gX h).1
  have hm:M[k]?=O M[k]:=by simp[q]
  have hz:(M.zip src)[k]?=O (M[k],O j):=by rw[qr6];exact⟨hm,h⟩
  exact⟨_,hm,(S.src _ (Ls hz) j rfl).1⟩
 obtain⟨x,h1,h2⟩:=nm k hk;obtain⟨y,h3,Y⟩:=nm l hl;rw[h2]at Y;cases Y;exact(List.getElem?_inj (gX h1).1 S.nd).mp (h1.trans h3.symm)
theorem wL{t:T}(h:(dC src J)[k]?=O (O t)):∃j,src[k]?=O (O j)/\J[j]?=O (O t):=by
 unfold dC at h;rw[Je]at h;cases e:src[k]? with
 |none=>rw[e]at h;cases h
 |some o=>
  rw[e]at h;cases o with
  |none=>cases h
  |some j=>
   simp only[RF,Im,VC]at h;refine⟨j,rfl,?_⟩;cases q:J[j]? with
   |none=>rw[q]at h;cases h
   |some u=>rw[q]at h;simp only[Y8]at h;rw[h]
theorem zT(h1:src[k]?=O (O j))(h2:G[j]?=O (O v)):(Kt src G)[k]?=O (O v):=by unfold Kt;rw[Je,h1];simp[h2]
theorem wM(h:(Kt src G)[k]?=O (O v)):∃j,src[k]?=O (O j)/\G[j]?=O (O v):=by
 unfold Kt at h;rw[Je]at h;cases e:src[k]? with
 |none=>rw[e]at h;cases h
 |some o=>
  rw[e]at h;cases o with
  |none=>cases h
  |some j=>
   simp only[RF,Im,VC]at h;refine⟨j,rfl,?_⟩;cases q:G[j]? with
   |none=>rw[q]at h;cases h
   |some u=>rw[q]at h;simp only[Y8]at h;rw[h]
theorem En.comp{F:Hp}(S:G4 X.N X.env.scope scope M src)(en:En Φ J G F H):En Φ (dC src J) (Kt src G) F H:=by
 refine⟨en.fh,en.IY,en.old,en.nw,by simp[dC,Kt],λk t h=>?_,?_⟩
 .obtain⟨j,h1,h2⟩:=wL h;obtain⟨v,hv⟩:=en.has j t h2;exact⟨v,zT h1 hv⟩
 .obtain⟨η,s⟩:=en.sep;refine⟨λk b=>∃j,src[k]?=O (O j)/\η j b,λk t v h=>?_,λk b ⟨j,_,z⟩=>s.out j b z,λk l b ⟨j,h1,z⟩⟨j',h2,z'⟩=>?_⟩
  .obtain⟨h1,h2⟩:=c9 h;obtain⟨j,q,e2⟩:=wL h1;obtain⟨j',Y,e4⟩:=wM h2;rw[q]at Y;cases Y;exact(s.own j t v (bF e2 e4)).grow λb z=>⟨j,q,z⟩
  .have:=s.OJ _ _ b z z';subst this;exact zS S h1 h2
theorem uO{g:TG}{tt:TT}{te:TE}{θ:J9}(Pv:Nat->Hp->Prop)(h0:Pv 0 (upd H1 θ (.e [])))(hgo:∀i H,Pv i H->(i<n->δ.go i H)/\(i=n->δ.stop i H))
 (hs:∀i x H H',i<n->Pv i H->δ.P5 i H x H'->g x (Kt src G) H' λq H2=>Wk (Kt src G) q/\tt q H2 λb H3=>if b=D then te q H3 λv H4=>∃ys,H4 θ=O (.e ys)/\ys.length<Hz/\Pv (i+1) (upd H4 θ (.e (ys++[v])))else Pv (i+1) H3)
 (hd:∀H,Pv n H->Q (.ref θ) H):BA src g tt te G δ H1 Q θ:=by
 refine⟨λi m H=>m=n-i/\i<=n/\Pv i H,⟨n,Ξ,M8 _,h0⟩,?_⟩;rintro i m H ⟨rfl,hi,p⟩;obtain⟨p1,p2⟩:=hgo i H p;by_cases Y:i<n
 .exact .inr ⟨p1 Y,Pv (i+1),λH' p'=>⟨n-(i+1),Θ,rfl,Y,p'⟩,λx H' y=>hs i x H H' Y p y⟩
 .have e:i=n:=by lia
  subst e;exact .inl ⟨p2 rfl,hd H p⟩
theorem oC(S:G4 X.N X.env.scope scope M src)(hts:(ts.all λk=>decide (src[k]?=O V))=D):∀(G:St)(H:Hp)(Q:VK),tO X.K (aL src fi bb ft fe) G H Q->mo src (tIB X.K fi) (gD X.K ts bb) (Qg X.K ft) (tL X.K fe) G H Q:=λG H Q ⟨Φ,J,F,t,hK,en,hf,k⟩=>by
 unfold aL at hf;obtain⟨ds,hd,hf⟩:=bS hf;obtain⟨all,ha,hf⟩:=bS hf;split at hf
 case isFalse=>cases hf
 rename_i hz;cases hf;rw[wu];refine⟨Φ,J,F,ds,hK,en,hd,λδ ok H1 F1 Lx wd ho θ hD=>?_⟩;have JK:=en.step Lx;have k1:=k.step Lx
 have wk:∀{L6:St},L6.length=(Kt src G).length->(∀j,j∉ts->L6[j]?=(Kt src G)[j]?)->Wk (Kt src G) L6:=λ{L6} h1 h2=>by
  refine⟨h1.symm,λj v hj=>?_⟩;by_cases hm:j∈ts
  .have:=QD.mp hts j hm;have hn:src[j]?=O V:=of_decide_eq_true this;obtain⟨i,e,_⟩:=wM hj;rw[hn]at e;cases e
  .rw[h2 j hm];exact hj
 have ZX:∀{F H:Hp},Hc F1 H1 F H->ok H:=λst=>ho _ st.hh
 refine uO (n:=ds.length) (λi H=>∃F ys done Ly,Hc F1 H1 F H/\H θ=O (.e ys)/\F θ=V/\hX X.K F done ys/\cO bb ft fe (dC src J) (ds.drop i)=O Ly/\done++Ly=all) ?_ ?_ ?_ ?_
 .exact⟨F1,[],[],all,Hc.made Lx.fh hD,aA,Lx.fh.free hD,by simp[hX],by simpa using ha,rfl⟩
 .rintro i H' ⟨F',ys,done,Ly,st,_⟩;obtain⟨p1,p2,_⟩:=wd i H' F' (ZX st) st.fh st.ff;exact⟨p1,p2⟩
 .rintro i x H0' H' hi ⟨F0',ys,done,Ly,UI,hD0,hFD0,rys0,Y,JZ⟩ hy0;obtain⟨_,_,p3⟩:=wd i H0' F0' (ZX UI) UI.fh UI.ff;obtain⟨d,F',hd',ZY,rd⟩:=p3 x H' hi hy0;have st:=UI.trans ZY;have WJ:H' θ=O (.e ys):=ZY.hh _ _ hD0;have hFD:F' θ=V:=ZY.KY hFD0 hD0;have WK:=rys0.same ZY.ff;rw[tq hd']at Y;unfold cO at Y;obtain⟨HP,h1,Y⟩:=bS Y;obtain⟨b,h2,Y⟩:=bS Y;refine⟨Φ,dC src J,F',d,HP,hK,(JK.step st).comp S,rd,h1,λL6 l2 k2 KG=>⟨wk l2 k2,Φ,HP,F',b,hK,KG,h2,λH3 F3 KA=>?_⟩⟩;have hD3:H3 θ=O (.e ys):=KA.hh _ _ WJ;have hF3:F3 θ=V:=KA.KY hFD WJ;dsimp only;split at Y
  .rename_i q;rw[if_pos q];obtain⟨y,hy,Y⟩:=bS Y;obtain⟨zs,hzs,Y⟩:=bS Y;cases Y;refine⟨Φ,HP,F3,y,hK,KG.step KA,hy,λv H4 F4 Oc rv=>?_⟩;have hD4:H4 θ=O (.e ys):=Oc.hh _ _ hD3;have hF4:F4 θ=V:=Oc.KY hF3 hD3;have ZZ:=(st.trans KA).trans Oc;refine⟨ys,hD4,?_,F4,ys++[v],done++[y],zs,?_,aA,hF4,(WK.same (KA.ff.trans Oc.ff)).append (hX.one rv),hzs,by rw[<- JZ];simp⟩
   .have e1:=WK.length;have e2:all.length=done.length+(zs.length+1):=by rw[<- JZ];simp
    lia
   .refine⟨λc o e=>?_,ZZ.ff,λc o e=>?_,ZZ.nw⟩
    .rw[ax (bA e hD)];exact ZZ.hh _ _ e
    .rw[ax (bA e hF4)];exact ZZ.fh _ _ e
  .rename_i q;rw[if_neg q];exact⟨F3,ys,done,Ly,st.trans KA,hD3,hF3,WK.same KA.ff,Y,JZ⟩
 .rintro H' ⟨F',ys,done,Ly,st,WJ,hFD,WK,Y,JZ⟩;rw[List.drop_length]at Y;cases Y;rw[Pb]at JZ;subst JZ
  exact k1 (.ref θ) H' F' (λb=>b=θ) st ⟨θ,ys,rfl,rfl,WJ,WK⟩ λb z=>by subst z;exact⟨hFD,hD,_,WJ,nofun⟩
theorem j5(S:G4 X.N X.env.scope scope M src)(hc:X.calm=D)(hi:Sg X tg iter fi)(hg:M.Nodup->∀ζ s H ex,DG (Jy X M scope ζ s H ex) tg ts bb)
 (Y:∀ζ s H ex,Sh (Jy X M scope ζ s H ex) ifs ft) (he:∀ζ s H ex,DL (Jy X M scope ζ s H ex) elt fe) (q:(ts.all λk=>decide (src[k]?=O V))=D) (hs:∀x,Om iter X.env x=pure x:=by intro _;rfl) :
  DO X (.ListComp elt [⟨tg,iter,ifs,0⟩] scope pos) (aL src fi bb ft fe):=PE.mono (wj (g:=gD X.K ts bb) (tt:=Qg X.K ft) (te:=tL X.K fe) S hc hi (λnd ζ s H ex=>hg nd ζ s H ex) (λζ s H ex=>Y ζ s H ex) (λζ s H ex=>he ζ s H ex) hs) (oC S q)
end
noncomputable def bf(m:Nat)(g:De->C Hj):Z Dt->C T:=λds=>match g (ds.map (λd=>O (T.f d))++Ol (m-ds.length) V)with
 |some (.rt t)=>O t
 |some (.nx _)=>O (.f .G8)
 |_=>V
theorem fE {F:Hp} (fh:zz F H) (r:hX K F ds vs) :
  En ⟨K,F,H,λ_=>False⟩ (ds.map (λd=>O (T.f d))++Ol (N.length-ds.length) V) (start N vs) F H:=by
 have hl:=r.length
 have q:∀(i:Nat)(t:T),(ds.map (λd=>O (T.f d))++Ol (N.length-ds.length) V)[i]?=O (O t)->∃d v,t=T.f d/\vs[i]?=O v/\G3 K F d v/\(start N vs)[i]?=O (O v):=λi t h=>by
  by_cases hi:i<ds.length
  .rw[LF (by simpa using hi),Je]at h;have hd:ds[i]?=O ds[i]:=by simp[hi]
   rw[hd]at h;cases h;obtain⟨v,hv,Y⟩:=r.get hd;refine⟨_,v,rfl,hv,Y,?_⟩;unfold start;rw[LF (by simp;lia),Je,hv];rfl
  .rw[Pa (by simpa using hi)]at h;rw[Vt]at h;split at h<;>cases h
 refine⟨fh,λb o h _=>h,zz.refl _,λb o h=>.inl h,by simp[start,hl],λi t h=>?_,λ_ _=>False,λi t v h=>?_,λ_ _ z=>z.elim,λ_ _ _ z=>z.elim⟩
 .obtain⟨d,v,_,_,_,e⟩:=q i t h;exact⟨v,e⟩
 .obtain⟨h1,h2⟩:=c9 h;obtain⟨d,w,rfl,_,Y,e⟩:=q i t h1;rw[h2]at e;cases e;exact Y
section
variable{P:HL}{w:Ja}{K:Hk}{mg:Str->C Value}{base:Heap}
theorem Rt.step{F:Hp}{t:T}(h:Rt ⟨K,F,H,λ_=>False⟩ t v F' H')(k:KO K F H t Q):Q v H':=by
 obtain⟨fh,q,Y,nw,S,o,hs⟩:=h;refine k v H' F' S ⟨λb u e=>q b u e id,Y,fh,λb u e=>(nw b u e).elim .inl λz=>.inr (z.imp (λy=>y.elim id KP) id)⟩ o λb z=>?_
 obtain⟨h1,h2,h3⟩:=hs b z;exact⟨h1,h3.elim id KP,h2⟩
theorem aU{st:Jb}{g:De->C Hj}(θ:Ho K mg x st ps)(S:ma N ps (ab st))(hn:ps.length=n)
 (Y:∀(f:J9)(Hv:Value)(A:HM)(outer:Z Env)(s:t2)(H:Hp)(E:XK),Hh k (A.deeper (M9 x (ab st) s.heap.objs.size f Hv))->DS (kz Lk P w K mg base N x (ab st) f Hv A outer s H E).Pm (aH st) g) :
  G9 P w K mg base x (k+1) ps (Ha K n (bf N.length g)):=by
 refine θ.ok S (λvs H Q E h=>?_) (λf Hv A outer s H vs Q E hr h=>?_)
 .obtain⟨F,ds,t,_,hl,r,_⟩:=h;rw[r.length,hl,hn]
 .obtain⟨F,ds,t,fh,hl,r,hf,kq⟩:=h;refine⟨_,Y f Hv A outer s H E hr,?_⟩;unfold bf at hf;split at hf
  .rename_i t' q;cases hf;exact⟨⟨K,F,H,λ_=>False⟩,_,F,_,rfl,fE fh r,q,λv F' H' z=>z.step kq⟩
  .rename_i JO q;cases hf;exact⟨⟨K,F,H,λ_=>False⟩,_,F,_,rfl,fE fh r,q,λJF F' H' z=>(z.rt (Hc.refl z.fh) (t:=.f .G8) (S:=λ_=>False) (iR (K:=K) (F:=F')) λ_ y=>y.elim).step kq⟩
  .cases hf
theorem Gg{st:Jb}{g:De->C Hj}{f:J9}{fd:Nd}(θ:Q5 K x x st f fd)(S:ma N ps (ab st))(hn:ps.length=n)
 (Y:∀(Hv:Value)(A:HM)(outer:Z Env)(s:t2)(H:Hp)(E:XK),Hh k (A.deeper (M9 x (ab st) s.heap.objs.size f Hv))->DS (kz Lk P w K mg base N x (ab st) f Hv A outer s H E).Pm (aH st) g) :
  JG P w K mg base Lk (k+1) f fd ps (Ha K n (bf N.length g)):=by
 refine θ.ok S (λvs H Q E h=>?_) (λHv A outer s H vs Q E hr h=>?_)
 .obtain⟨F,ds,t,_,hl,r,_⟩:=h;rw[r.length,hl,hn]
 .obtain⟨F,ds,t,fh,hl,r,hf,kq⟩:=h;refine⟨_,Y Hv A outer s H E hr,?_⟩;unfold bf at hf;split at hf
  .rename_i t' q;cases hf;exact⟨⟨K,F,H,λ_=>False⟩,_,F,_,rfl,fE fh r,q,λv F' H' z=>z.step kq⟩
  .rename_i JO q;cases hf;exact⟨⟨K,F,H,λ_=>False⟩,_,F,_,rfl,fE fh r,q,λJF F' H' z=>(z.rt (Hc.refl z.fh) (t:=.f .G8) (S:=λ_=>False) (iR (K:=K) (F:=F')) λ_ y=>y.elim).step kq⟩
  .cases hf
end
def Ml(F F':Hp):Prop:=∀b o,F b=O o->(∀ob φ,o≠.Ii ob (.ext φ))->F' b=O o
section
variable{K:Hk}{F F':Hp}
theorem Ml.rd(e:Ml F F')(h:Rd F a u)(h1:∀ob φ,u≠.Ii ob (.ext φ))(h2:∀ φ,u≠.ext φ):Rd F' a u:=by
 rcases h with h|⟨o,h⟩
 .exact .inl (e _ _ h h1)
 .exact .inr ⟨o,e _ _ h λob φ z=>h2 φ (by cases z;rfl)⟩
mutual
theorem G3.Kb(e:Ml F F'):∀{d:Dt}{v:ψ},G3 K F d v->G3 K F' d v
 |.G8,v,h=>h
 |.bl _,v,h=>h
 |.int _,v,h=>h
 |.str _,v,h=>h
 |.t l,v,h=>by unfold G3 at h ⊢;obtain⟨a,vs,h1,h2,h3⟩:=h;exact⟨a,vs,h1,h2.imp (λz=>e _ _ z λ_ _ z=>nomatch z) id,hX.Kb e h3⟩
 |.e l,v,h=>by unfold G3 at h ⊢;obtain⟨a,vs,h1,h2,h3⟩:=h;exact⟨a,vs,h1,h2.imp (λz=>e.rd z (λ_ _ z=>nomatch z) λ_ z=>nomatch z) id,hX.Kb e h3⟩
 |.IJ ks l,v,h=>by unfold G3 at h ⊢;obtain⟨a,vs,h1,h2,h3,h4⟩:=h;exact⟨a,vs,h1,(e.rd h2 (λ_ _ z=>nomatch z) (λ_ z=>nomatch z)),h3,hX.Kb e h4⟩
 |.Jt ks l,v,h=>by unfold G3 at h ⊢;obtain⟨a,vs,h1,h2,h3,h4⟩:=h;exact⟨a,vs,h1,(e.rd h2 (λ_ _ z=>nomatch z) (λ_ z=>nomatch z)),h3,hX.Kb e h4⟩
theorem hX.Kb(e:Ml F F'):∀{l:Z Dt}{vs:Z ψ},hX K F l vs->hX K F' l vs
 |[],vs,h=>h
 |d::l,vs,h=>by unfold hX at h ⊢;obtain⟨v,ws,h1,h2,h3⟩:=h;exact⟨v,ws,h1,G3.Kb e h2,hX.Kb e h3⟩
end
end
noncomputable def UJ(m:Nat)(ds caps:Z Dt):De:=ds.map (λd=>O (T.f d))++(Ol (m-ds.length-caps.length) V++caps.map (λd=>O (T.f d)))
def gC(m:Nat)(g:De->C Hj)(caps:Z Dt):Z Dt->C T:=λds=>match g (UJ m ds caps)with
 |some (.rt t)=>O t
 |some (.nx _)=>O (.f .G8)
 |_=>V
theorem uP{F:Hp}{caps:Z Dt}{fs:Z ψ}(fh:zz F H)(r:hX K F ds vs)(rc:hX K F caps fs):En ⟨K,F,H,λ_=>False⟩ (UJ N.length ds caps) (eF N vs fs) F H:=by
 have hl:=r.length;have hc:=rc.length
 have q:∀(i:Nat)(t:T),(UJ N.length ds caps)[i]?=O (O t)->∃d v,t=T.f d/\G3 K F d v/\(eF N vs fs)[i]?=O (O v):=λi t h=>by
  unfold UJ at h;unfold eF;rw[hl,hc];by_cases hi:i<ds.length
  .rw[LF (by simpa using hi),Je]at h;have hd:ds[i]?=O ds[i]:=by simp[hi]
   rw[hd]at h;cases h;obtain⟨v,hv,Y⟩:=r.get hd;refine⟨_,v,rfl,Y,?_⟩;rw[LF (by simp;lia),Je,hv];rfl
  .rw[Pa (by simpa using hi),Hl]at h;rw[Pa (by simp;lia),Hl,hl];by_cases hj:i-ds.length<N.length-ds.length-caps.length
   .rw[LF (by simpa using hj),Vt]at h;split at h<;>cases h
   .rw[Pa (by simpa using hj),Vu,Je]at h;obtain⟨d,hd,e⟩:=mS h;cases e;obtain⟨v,hv,Y⟩:=rc.get hd;refine⟨d,v,rfl,Y,?_⟩;rw[Pa (by simpa using hj),Vu,Je,hv];rfl
 refine⟨fh,λb o h _=>h,zz.refl _,λb o h=>.inl h,?_,λi t h=>?_,λ_ _=>False,λi t v h=>?_,λi b z=>z.elim,λi j b z _=>z.elim⟩
 .unfold UJ eF;simp[hl,hc]
 .obtain⟨d,v,_,_,e⟩:=q i t h;exact⟨v,e⟩
 .obtain⟨h1,h2⟩:=c9 h;obtain⟨d,v',rfl,Y,e⟩:=q i t h1;rw[h2]at e;cases e;exact Y
section
variable{P:HL}{w:Ja}{K:Hk}{mg:Str->C Value}{base:Heap}{N ps fr:Z Str}{name qual:Str}{params:LH}{body:Z Jb}{scope:Jd}{f c':J9}{cl:Z (Str×J9)}{H:Hp}{fs:Z ψ}{doc pm IM:Value}{fo:Obj}{uf:HO}{k:Nat}{g:De->C Hj}{caps ds:Z Dt}{F0:Hp}{t:T}
theorem MQ.up(ζ:MQ H f name qual params body scope cl fr fs c' doc pm IM fo uf)(h:∀b o u,H b=O (.Ii o u)->H' b=O (.Ii o u)):MQ H' f name qual params body scope cl fr fs c' doc pm IM fo uf:=⟨h _ _ _ ζ.fn,ζ.dat,let ⟨oc,z⟩:=ζ.Sa;⟨oc,h _ _ _ z⟩,λx c q=>let ⟨o,u,g,d⟩:=ζ.Mk x c q;⟨o,u,h _ _ _ g,d⟩,ζ.inj,ζ.len,λi x v h1 h2=>let ⟨c,o,u,e1,e2,e3⟩:=ζ.val i x v h1 h2;⟨c,o,u,e1,h _ _ _ e2,e3⟩,ζ.Kn⟩
theorem tu (S:Ka N ps fr scope) (NN:∀ x,∀ y∈scope.names,y.1=x->scope.names.lookup x=O y.2) (ζ:MQ H f name qual params body scope cl fr fs c' doc pm IM fo uf) (rc:hX K F0 caps fs)
  (hbd:∀(s:t2)(us:Z Value),us.length=ps.length->Pf s (NI name qual params body scope cl .none .none doc pm V (.ref c') IM) ⟨us,[]⟩ (ps.zip us))
  (Mi:∀(A:HM)(outer:Z Env)(s:t2)(H:Hp),Hh k (A.deeper (iK qual scope s.heap.objs.size f (.ref c') cl))->DS (pJ Lk P w K mg base N qual scope f (.ref c') cl A outer s H E0 λ_ _=>False) body g)
  (hl:ds.length=ps.length) (ht:gC N.length g caps ds=O t) (A:HM) (outer:Z Env) (s:t2) (H' F:Hp) (us:Z Value) (vs:Z ψ) (Q:VK) (hr:Hh (k+1) A) (hp:∀b o u,H b=O (.Ii o u)->H' b=O (.Ii o u)) (e0:LK P w K mg base A outer s H') (h0:zz F0 F) (fh:zz F H') (r:Da vs us) (rd:hX K F ds vs) (kq:KO K F H' t Q) :
  MF (model P w) A (.call (.ref f) ⟨us,[]⟩) (CR Lk outer P w H' s Q E0) s:=by
 have C':=ζ.up hp;have Z0:vs.length=ps.length:=by rw[rd.length,hl]
 have cn:∀b,b∈cl.map (·.2)->∃o u,H' b=O (fY b o)/\o.data=.cell (O u):=λb Y=>by obtain⟨x,hx⟩:=iM Y;exact C'.Mk x b hx
 have hsx:Ml F (cR F cl):=λb o e hn=>by
  rw[bn λz=>?_]
  .exact e
  .obtain⟨ob,u,g,_⟩:=cn b z;have:=fh b o e;rw[g]at this;exact hn _ _ (L3 this).symm
 have Z1:zz (cR F cl) (cR H' cl):=λb o e=>by obtain⟨Y,e⟩:=mw e;rw[bn Y];exact fh b o e
 have fin:∀v F2 H2,Rt ⟨K,cR F cl,cR H' cl,λ_=>False⟩ t v F2 H2->(∀b∈cl.map (·.2),H2 b=V)->Q v (fB H' cl H2):=λv F2 H2 R hn=>by
  obtain⟨fh2,IY,old,nw,So,o,hs⟩:=R;have sin:∀{b:J9},b∈cl.map (·.2)->fB H' cl H2 b=H' b:=λY=>if_pos Y
  have KF:∀{b:J9},b∉cl.map (·.2)->fB H' cl H2 b=H2 b:=λY=>if_neg Y
  let F3:Hp:=fB F cl F2;have tin:∀{b:J9},b∈cl.map (·.2)->F3 b=F b:=λY=>if_pos Y
  have OM:∀{b:J9},b∉cl.map (·.2)->F3 b=F2 b:=λY=>if_neg Y
  have nF2:∀b,b∈cl.map (·.2)->F2 b=V:=λb Y=>by
   cases z:F2 b with
   |none=>rfl
   |some u=>have:=fh2 b u z;rw[hn b Y]at this;cases this
  have h23:zz F2 F3:=λb u e=>by
   by_cases Y:b∈cl.map (·.2)
   .rw[nF2 b Y]at e;cases e
   .rw[OM Y];exact e
  have hh23:zz H2 (fB H' cl H2):=λb u e=>by
   by_cases Y:b∈cl.map (·.2)
   .rw[hn b Y]at e;cases e
   .rw[KF Y];exact e
  refine kq v (fB H' cl H2) F3 So ⟨λb u e=>?_,λb u e=>?_,λb u e=>?_,λb u e=>?_⟩ (K8.step h23 (λb u _ e=>hh23 b u e) o) λb z=>?_
  .by_cases Y:b∈cl.map (·.2)
   .rw[sin Y];exact e
   .rw[KF Y];exact IY b u ((bn Y).trans e) id
  .by_cases Y:b∈cl.map (·.2)
   .rw[tin Y];exact e
   .rw[OM Y];exact old b u ((bn Y).trans e)
  .by_cases Y:b∈cl.map (·.2)
   .rw[tin Y]at e;rw[sin Y];exact fh b u e
   .rw[OM Y]at e;rw[KF Y];exact fh2 b u e
  .by_cases Y:b∈cl.map (·.2)
   .rw[tin Y]at e;exact .inl e
   .rw[OM Y]at e;rcases nw b u e with y|y|⟨ws,y⟩
    .exact .inl ((bn Y).symm.trans y)
    .exact .inr (.inl ((bn Y).symm.trans (y.elim id KP)))
    .exact .inr (.inr ⟨ws,(bn Y).symm.trans y⟩)
  .obtain⟨h1,⟨u,h2,nt⟩,h3⟩:=hs b z;have Y:b∉cl.map (·.2):=λy=>by rw[hn b y]at h2;cases h2
   exact⟨by rw[OM Y];exact h1,(bn Y).symm.trans (h3.elim id KP),u,by rw[KF Y];exact h2,nt⟩
 have hul:us.length=ps.length:=by rw[<- r.length];exact Z0
 refine ww (CX:=Lk) (E:=E0) S C' NN hr e0 (hbd s us hul) Z0 r λQj=>⟨_,Mi A outer s (cR H' cl) Qj,?_⟩
 have en:=uP (N:=N) Z1 (rd.Kb hsx) ((rc.same h0).Kb hsx);unfold gC at ht;split at ht
 .rename_i t' q;cases ht;exact⟨_,_,_,_,rfl,en,q,λv F2 H2 R=>fin v F2 H2 R⟩
 .rename_i JO q;cases ht;exact⟨_,_,_,_,rfl,en,q,λJF F2 H2 z=>fin .G8 F2 H2 (z.rt (Hc.refl z.fh) (t:=.f .G8) (S:=λ_=>False) (iR (K:=K) (F:=F2)) λ_ y=>y.elim)⟩
 .cases ht
end
end L2
namespace L2
open PySem PySem.Spec PyProof.Rows
structure Q7(H H':Hp)(f c':J9)(qual:Str)(fo:Obj):Prop where
 fn:H' f=O (.Ii fo (.ext λh=>h.get? f=O fo))
 Sa:∃oc,H' c'=O (.Ii oc (.code qual))
 old:zz H H'
 free:H f=V
def tDef(P:J9)(qs:Z ((Nat×Nat)×Str))(i:Nat)(name qual:Str)(params:LH)(body:Z Jb)(scope:Jd)(Jl:Z (Str×J9)):TS:=λθ G H=>H P=O (.Jx qs)/\∀(f c':J9)(doc pm IM:Value)(H':Hp),Q7 H H' f c' qual {cls:=.type "function",data:=.func (NI name qual params body scope Jl .none .none doc pm V (.ref c') IM)}->θ.nx (G.set i (O (.ref f))) H'
section
variable{X:Cx}{c P:J9}{qs:Z ((Nat×Nat)×Str)}{name qual:Str}{params:LH}{body:Z Jb}{scope:Jd}{Jl:Z (Str×J9)}{pos:Pos}{i:Nat}
theorem Dw (hN:X.N.Nodup) (hi:X.N[i]?=O name) (hx:P0 X.env.scope name) (NJ:X.fn name=D∨X.env.scope.names.lookup name=O .local) (B:Ll X.mg X.base c P) (Y:X.env.code=.ref c) (WL:qualnameIn X.env name name=qual) (hq:((pos.line,pos.col),qual)∈qs) (WB:∀ q,((pos.line,pos.col),q)∈qs->q=qual) (Qe:VN scope X.env=pure Jl)
  (NQ:params.defaults=[]) (WM:params.kw_defaults=[]) (ha:annTrees params V X.env=[]):PS X (.FunctionDef name params body [] V [] scope V name pos) (tDef P qs i name qual params body scope Jl):=by
 intro J1 s G H θ I h;obtain⟨hP,q⟩:=h;refine PySem.W.nestDef_K NQ WM ha ?_;rw[WL];refine zO I B Y hP hq WB Qe λf c' doc pm IM H' s' M I'=>?_
 exact iC I' hN hi hx (v:=.ref f) rfl (λs2 I2=>⟨_,H',I2,q f c' doc pm IM H' ⟨M.fn,M.Sa,λb o e=>M.old b o e,I.Hm.fresh M.lof⟩⟩) NJ
end
def bI(X:Cx)(b:J9):Prop:=∃x,X.env.cells.lookup x=O b
open Classical in
def jM(X:Cx)(H:Hp):Hp:=λb=>if bI X b then V else H b
structure Lz(X:Cx)(G:St)(H H':Hp):Prop where
 out:∀b,¬ bI X b->H' b=H b
 Q8:∀b,bI X b->H b=V
 Mk:∀x c,X.env.cells.lookup x=O c->∃o v,H' c=O (fY c o)/\o.data=.cell v/\∀(i:Nat)(val:ψ),X.N[i]?=O x->G[i]?=O (O val)->(X.env.kindOf x=O .cell∨X.env.kindOf x=O .free)->∃u,v=O u/\BI val u
variable{H':Hp}{u:Value}
section
variable{X:Cx}{J1:Z (J9×Obj)}{G:St}{H:Hp}{s:t2}
theorem pO{b:J9}(h:bI X b):jM X H b=V:=if_pos h
theorem cj{b:J9}(h:¬ bI X b):jM X H b=H b:=if_neg h
open Classical in
theorem zU(I:nC X J1 G H s)(Y:∀b,bI X b->b∉ML X.stack/\∀o,X.base.get? b≠O o):∃H',Lz X G H H'/\LK X.prog X.w X.K X.mg X.base X.A X.stack s H':=by
 let H':Hp:=λb=>if bI X b then(s.heap.get? b).map (fY b)else H b
 have Z2:∀{b:J9},bI X b->H' b=(s.heap.get? b).map (fY b):=λh=>if_pos h
 have q:∀{b:J9},¬ bI X b->H' b=H b:=λh=>if_neg h
 have e0:=I.RW;refine⟨H',⟨λb h=>q h,λb ⟨x,hx⟩=>I.Iz x b hx,λx c e=>?_⟩,⟨e0.frames,e0.mod,λb o e=>⟨(e0.bs b o e).1,?_⟩,e0.N9,e0.JW,λb hb=>?_,λb u e=>?_,e0.bare,λp hp=>by rw[q λ⟨x,hx⟩=>by have:=I.Iz x _ hx;rw[e0.tb p hp]at this;cases this];exact e0.tb p hp⟩⟩
 .obtain⟨v,o,ho,hd⟩:=I.cell x c e;refine⟨o,v,by rw[Z2 ⟨x,e⟩,ho];rfl,hd,λi val h1 h2 h3=>?_⟩;obtain⟨m,_,hl⟩:=I.loc;have hv:VZ X.env.scope x:=h3.elim (λz=>.inr (.inl z)) λz=>.inr (.inr z)
  obtain⟨u,ru,lk⟩:=hl i x val h1 h2 hv;rcases lk with ⟨k1,_⟩|⟨_,c2,k2,o2,k3,k4⟩
  .rcases h3 with z|z<;>(rw[k1]at z;cases z)
  .rw[e]at k2;cases k2;rw[ho]at k3;cases k3;rw[hd]at k4;cases k4;exact⟨u,rfl,ru⟩
 .have:¬ bI X b:=λz=>(Y b z).2 o e
  rw[q this];exact(e0.bs b o e).2
 .have:¬ bI X b:=λz=>(Y b z).1 hb
  rw[q this];exact e0.P4 b hb
 .have up:∀c u,H c=O u->H' c=O u:=λc u z=>by
   rw[q]
   .exact z
   .rintro⟨x,hx⟩;rw[I.Iz x c hx]at z;cases z
  by_cases hb:bI X b
  .rw[Z2 hb]at e;obtain⟨o,ho,rfl⟩:=mS e;exact⟨ho,ho,⟨o,ho⟩,λh1 h2 z1 z2=>z2 o z1⟩
  .rw[q hb]at e;exact(I.Hm b u e).HW (λ_ _ _ z=>z) (λc z=>up c _ z) (λc xs z=>up c _ z) λc ob xs z=>up c _ z
theorem nC.Si{Q:VK}{s':t2}(I:nC X J1 G H s)(pc:Lz X G H H')(ZX:Jj X.prog X.w H' s.heap)(h:CE X.stack X.prog X.w H' s (λv H2=>(∀c,bI X c->H2 c=H' c)->Q v (jM X H2)) u s'):EP X J1 G Q u s':=by
 obtain⟨v,H2,os,bare,un,Hm,r,q⟩:=h;obtain⟨hh,g,d,t,os'⟩:=s';obtain rfl:os'=s.os:=os
 have Mk:∀{b:J9},bI X b->∃o,H' b=O (fY b o)/\s.heap.get? b=O o/\H2 b=O (fY b o)/\hh.get? b=O o:=λ{b} hb=>by obtain⟨x,hx⟩:=hb;obtain⟨o,v,e,_⟩:=pc.Mk x b hx;have e2:=un.JV b o _ e;exact⟨o,e,(ZX b _ e).1,e2,(Hm b _ e2).1⟩
 have nc:∀{b:J9}{w:HO},H b=O w->¬ bI X b:=λ{b w} z ⟨x,hx⟩=>by rw[I.Iz x b hx]at z;cases z
 refine⟨v,jM X H2,I.call (h':=hh) (g':=g) (d':=d) (t':=t) (ch:=[]) ⟨λb o e n hb hx=>?_,λb o e n hb hx=>?_,λb o e n hx=>?_,un.there,λb xs e=>?_,λb o w e=>?_,λb ps e=>?_,λb qs e=>?_⟩ (λb w e=>?_) bare (λb z=>absurd z Ξ),r,q λc Y=>?_⟩
 .by_cases Y:bI X b
  .obtain⟨o',_,h1,_,h2⟩:=Mk Y;rw[e]at h1;cases h1;exact h2
  .exact un.keep b o e (by rw[pc.out b Y];exact n) hb hx
 .by_cases Y:bI X b
  .obtain⟨o',_,h1,_,h2⟩:=Mk Y;rw[e]at h1;cases h1;exact⟨o.slots,h2⟩
  .exact un.slot b o e (by rw[pc.out b Y];exact n) hb hx
 .by_cases Y:bI X b
  .exact pO Y
  .rw[cj Y];exact un.free b o e (by rw[pc.out b Y];exact n) hx
 .rw[cj (nc e)];exact un.Lg b xs (by rw[pc.out b (nc e)];exact e)
 .rw[cj (nc e)];exact un.JV b o w (by rw[pc.out b (nc e)];exact e)
 .rw[cj (nc e)];exact un.Lh b ps (by rw[pc.out b (nc e)];exact e)
 .rw[cj (nc e)];exact un.Ni b qs (by rw[pc.out b (nc e)];exact e)
 .by_cases Y:bI X b
  .rw[pO Y]at e;cases e
  .rw[cj Y]at e
   have up:∀c u,H2 c=O u->(∀ob φ,u≠.Ii ob (.ext φ))->jM X H2 c=O u:=λc u z hn=>by
    rw[cj]
    .exact z
    .intro QW;obtain⟨o',_,_,h1,_⟩:=Mk QW;rw[z]at h1;exact hn _ _ (L3 h1)
   exact(Hm b w e).HW (λ_ _ _ z=>z) (λc z=>up c _ z λ_ _ y=>nomatch y) (λc xs z=>up c _ z λ_ _ y=>nomatch y) λc ob xs z=>up c _ z λ_ _ y=>nomatch y
 .obtain⟨o',h1,_,h2,_⟩:=Mk Y;rw[h1,h2]
end
variable{l:Z Dt}{vs:Z ψ}
section
variable{K:Hk}{F H:Hp}{Q:VK}
theorem KO.int{i:Int}(k:KO K F H (.f (.int i)) Q)(q:zz F H):Q (.int i) H:=k.leaf.here q fN
theorem KO.bl{i:Bool}(k:KO K F H (.f (.bl i)) Q)(q:zz F H):Q (.bl i) H:=k.leaf.here q oz
theorem KO.str{i:Str}(k:KO K F H (.f (.str i)) Q)(q:zz F H):Q (.str i) H:=k.leaf.here q iQ
theorem KO.tup{p:J9}(k:KO K F H (.f (.t l)) Q)(q:zz F H)(r:hX K F l vs)(hp:H p=V):Q (.ref p) (upd H p (.t vs)):=by refine k.leaf _ _ _ (Hc.new q hp) ?_;simp only[G3];exact⟨p,vs,rfl,II.of aA,r.same (zz.upd (q.free hp))⟩
end
noncomputable def jN(i j:Int):Bool:=(decide (-(2^64)<i)&&decide (i<2^64))||(decide (-(2^64)<j)&&decide (j<2^64))
theorem zV{i j:Int}(h:jN i j=D):Oy i j:=by unfold jN at h;simp only[O9,IH,decide_eq_true_eq]at h;exact h
theorem zW{i j:Int}(h1:-1000000000000000000<i)(h2:i<1000000000000000000):jN i j=D:=by unfold jN;simp only[O9,IH,decide_eq_true_eq];left;lia
theorem zX{i j:Int}(h1:-1000000000000000000<j)(h2:j<1000000000000000000):jN i j=D:=by unfold jN;simp only[O9,IH,decide_eq_true_eq];right;lia
noncomputable def tw(i j:Int):Bool:=decide (0<=j)&&decide (j<=1000000)&&decide (i.natAbs<2^64)
theorem zY{i j:Int}(h:tw i j=D):CY i j:=by unfold tw at h;simp only[IH,decide_eq_true_eq]at h;exact⟨h.1.1,h.1.2,h.2⟩
noncomputable def bP:Dt->Dt->C T
 |.int i,.int j=>O (.f (.int (i+j)))
 |.str a,.str b=>if a.length+b.length<=Hz then O (.f (.str (a++b)))else V
 |.e l,.e m=>if l.length+m.length<=Hz then O (.e (l++m))else V
 |.t l,.t m=>if l.length+m.length<=Hz/\l≠[]/\m≠[]then O (.f (.t (l++m)))else V
 |_,_=>V
noncomputable def eM:Dt->Dt->C T
 |.int i,.int j=>O (.f (.int (i-j)))
 |_,_=>V
def jU:Dt->Dt->C T
 |.int i,.int j=>if jN i j then O (.f (.int (i*j)))else V
 |_,_=>V
def du:Dt->Dt->C T
 |.int i,.int j=>if 0<j then O (.f (.int (i%j)))else V
 |_,_=>V
def iS:Dt->Dt->C T
 |.int i,.int j=>if tw i j then O (.f (.int (i^j.toNat)))else V
 |_,_=>V
def eN(f:Int->Int->Bool):Dt->Dt->C T
 |.int i,.int j=>O (.f (.bl (f i j)))
 |_,_=>V
variable{K:Hk}{k:Nat}{H F':Hp}{b:Bool}{v:ψ}{r r':R2}{g g':Dt->Dt->C T}{G:St}{e:Jc}{p2:Pos}
section
variable{X:Cx}
theorem zZ:HY X (L5 .Add) (λx y H Q=>∃l b xs zs,x=.ref l/\y=.ref b/\Io X.K H l xs/\Io X.K H b zs/\xs.length+zs.length<=Hz/\∀p,H p=V->Q (.ref p) (upd H p (.e (xs++zs)))):=by
 intro J1 s G H x y v u Q I rx ry h;obtain⟨l,b,xs,zs,rfl,rfl,hH,hB,hz,q⟩:=h;cases rx;cases ry;obtain⟨J8,r,pl,_⟩:=I.list hH;obtain⟨Y,r2,pl2,_⟩:=I.list hB;obtain⟨⟨cls,dd,data,sl⟩,n,ho,hc,NQ,hd⟩:=pl;obtain⟨⟨RY,Q0,data2,Q3⟩,n2,WN,NK,hd02,hd2⟩:=pl2;simp only at hc hd NK hd2;subst hc hd NK hd2;have e:J8.toArray++Y.toArray=(J8++Y).toArray:=by simp
 refine VJ ⟨_,ho,rfl⟩ ⟨_,WN,rfl⟩ noFill_list_add seq_list_add PySem.F.slot_list_add PySem.F.entry_list_add (PySem.F.args_list_add_2 _ _) (list_addW l b J8.toArray Y.toArray n n2 dd Q0 sl Q3 (by rw[JE,JE,<- r.length,<- r2.length];exact hz)) ⟨ho,WN,?_⟩;rw[e];exact⟨.ref _,_,I.Wo (t':=s.toks) (r.append r2) (by rw[HZ];exact hz),rfl,q _ I.fresh⟩
abbrev mE(K:Hk):R2:=λx y H Q=>(Po (λi j=>.int (i+j)) x y H Q)∨(∃i j,x=.str i/\y=.str j/\i.length+j.length<=Hz/\Q (.str (i++j)) H)∨(∃l b xs zs,x=.ref l/\y=.ref b/\Io K H l xs/\Io K H b zs/\xs.length+zs.length<=Hz/\∀p,H p=V->Q (.ref p) (upd H p (.e (xs++zs))))∨Bv K x y H Q
theorem dA:HY X (L5 .Add) (mE X.K):=HY.or CZ (HY.or qR (HY.or zZ zC))
theorem ib:Kv K (mE K) bP:=by
 intro F H x y vx vy Q t Y rx ry q k;unfold bP at q;split at q<;>first|(cases q;done)|skip
 .cases q;cases rx;cases ry;exact .inl ⟨_,_,rfl,rfl,k.int Y⟩
 .split at q
  .cases q;cases rx;cases ry;exact .inr (.inl ⟨_,_,rfl,rfl,by assumption,k.str Y⟩)
  .cases q
 .split at q
  .rename_i hl;cases q;obtain⟨a,vs,rfl,h1,h2⟩:=rx;obtain⟨b,ws,rfl,h3,h4⟩:=ry;exact .inr (.inr (.inl ⟨a,b,vs,ws,rfl,rfl,h1,h3,by rw[h2.length,h4.length];exact hl,λp hp=>dy k Y (h2.append h4) hp⟩))
  .cases q
 .split at q
  .rename_i hl;cases q;obtain⟨a,vs,rfl,h1,h2⟩:=rx;obtain⟨b,ws,rfl,h3,h4⟩:=ry;obtain⟨hl,n1,n2⟩:=hl;refine .inr (.inr (.inr ⟨a,b,vs,ws,rfl,rfl,Y.tup h1,Y.tup h3,λz=>?_,by rw[h2.length,h4.length];exact hl,λz=>?_,λ_ p hp=>k.tup Y (h2.append h4) hp⟩))
   .subst z;have:=h2.length;exact n1 (qw0 this.symm)
   .subst z;have:=h4.length;exact absurd (qw0 this.symm) n2
  .cases q
theorem Gh:Kv K (Po λi j=>.int (i-j)) eM:=by
 intro F H x y vx vy Q t fh Y ry q k;unfold eM at q;split at q<;>first|(cases q;done)|skip
 cases q;cases Y;cases ry;exact⟨_,_,rfl,rfl,k.int fh⟩
theorem BC:Kv K (rI Oy λi j=>.int (i*j)) jU:=by
 intro F H x y vx vy Q t fh Y ry q k;unfold jU at q;split at q<;>first|(cases q;done)|skip
 split at q
 .cases q;cases Y;cases ry;exact⟨_,_,rfl,rfl,zV (by assumption),k.int fh⟩
 .cases q
theorem pP:Kv K (rI (λ_ j=>0<j) λi j=>.int (i%j)) du:=by
 intro F H x y vx vy Q t Y rx ry q k;unfold du at q;split at q<;>first|(cases q;done)|skip
 split at q
 .cases q;cases rx;cases ry;exact⟨_,_,rfl,rfl,by assumption,k.int Y⟩
 .cases q
theorem kR:Kv K (rI CY λi j=>.int (i^j.toNat)) iS:=by
 intro F H x y vx vy Q t fh Y ry q k;unfold iS at q;split at q<;>first|(cases q;done)|skip
 split at q
 .cases q;cases Y;cases ry;exact⟨_,_,rfl,rfl,zY (by assumption),k.int fh⟩
 .cases q
theorem ic{f:Int->Int->Bool}:Kv K (Po λi j=>.bl (f i j)) (eN f):=by
 intro F H x y vx vy Q t Y rx ry q k;unfold eN at q;split at q<;>first|(cases q;done)|skip
 cases q;cases rx;cases ry;exact⟨_,_,rfl,rfl,k.bl Y⟩
def UK:Dt->Dt->C Bool
 |.G8,.G8=>O D
 |.G8,.int _=>O ξ
 |.G8,.bl _=>O ξ
 |.G8,.str _=>O ξ
 |.int _,.G8=>O ξ
 |.bl _,.G8=>O ξ
 |.str _,.G8=>O ξ
 |.int i,.int j=>O (decide (i=j))
 |.bl i,.bl j=>O (decide (i=j))
 |.str i,.str j=>O (decide (i=j))
 |.int _,.str _=>O ξ
 |.str _,.int _=>O ξ
 |.bl _,.str _=>O ξ
 |.str _,.bl _=>O ξ
 |.t l,.t m=>if Iq l m&&decide (HA l<=59)then O (Ib l m)else V
 |.e l,.e m=>if Iq l m&&decide (HA l<=59)then O (Ib l m)else V
 |_,_=>V
def Hs(neg:Bool)(x y:Dt):C T:=(UK x y).map λb=>.f (.bl (if neg then !b else b))
abbrev WO(K:Hk):R2:=λx y H Q=>rEq x y H Q∨zP K ξ x y H Q
abbrev WP(K:Hk):R2:=λx y H Q=>rNe x y H Q∨zP K D x y H Q
theorem oE(q:Hh k X.A):HY X (JQ .Eq) (WO X.K):=HY.or FU (Dp q rfl)
theorem jp(q:Hh k X.A):HY X (JQ .NotEq) (WP X.K):=HY.or FV (Dq q rfl)
theorem wN {F:Hp} {x y:Dt} {Y vy:ψ} (fh:zz F H) (rx:HX K F H x Y) (ry:HX K F H y vy) (h:UK x y=O b) :
  (C4 Y vy=D/\b=decide (Y=vy))∨(((∃l m,x=.t l/\y=.t m)∨∃l m,x=.e l/\y=.e m)/\fm x y=D/\gy x<=60/\b=Jf x y):=by
 unfold UK at h
 split at h<;>first
  |(cases h;done)
  |(cases h;cases rx;cases ry;left;refine⟨rfl,?_⟩;simp;done)
  |skip
 .right;split at h
  .rename_i q;simp only[IH,decide_eq_true_eq]at q;cases h;exact⟨.inl ⟨_,_,rfl,rfl⟩,by simp only[fm];exact q.1,by simp only[gy];lia,by simp only[Jf]⟩
  .cases h
 .right;split at h
  .rename_i q;simp only[IH,decide_eq_true_eq]at q;cases h;exact⟨.inr ⟨_,_,rfl,rfl⟩,by simp only[fm];exact q.1,by simp only[gy];lia,by simp only[Jf]⟩
  .cases h
theorem z0:Kv K (WO K) (Hs ξ):=by
 intro F H x y vx vy Q t q rx ry Y k;unfold Hs at Y;obtain⟨b,hb,Y⟩:=mS Y;cases Y;have kk:Q (.bl b) H:=k.bl q;rcases wN q rx ry hb with ⟨h1,rfl⟩|⟨h1,h2,h3,rfl⟩
 .exact .inl ⟨h1,kk⟩
 .exact .inr ⟨x,y,h1,rx.rep q,ry.rep q,h2,h3,kk⟩
theorem uQ:Kv K (WP K) (Hs D):=by
 intro F H x y vx vy Q t q rx ry Y k;unfold Hs at Y;obtain⟨b,hb,Y⟩:=mS Y;cases Y;have kk:Q (.bl (!b)) H:=k.bl q;rcases wN q rx ry hb with ⟨h1,rfl⟩|⟨h1,h2,h3,rfl⟩
 .exact .inl ⟨h1,kk⟩
 .exact .inr ⟨x,y,h1,rx.rep q,ry.rep q,h2,h3,kk⟩
noncomputable def jO:Dt->Bool
 |.G8=>D
 |_=>ξ
def MU(neg:Bool)(x y:Dt):C T:=match y with
 |.G8=>O (.f (.bl (if neg then !jO x else jO x)))
 |_=>V
theorem pQ{F:Hp}{x:Dt}(r:HX K F H x v):jO x=decide (v=.G8):=by
 cases x<;>first
  |(cases r;rfl)
  |(obtain⟨a,vs,rfl,_⟩:=r;rfl)
  |(simp only[HX,G3]at r;obtain⟨a,ζ,dx,fs,rfl,_⟩:=r;rfl)
theorem Dx:Kv K (λx y H Q=>y=.G8/\Q (.bl (decide (x=.G8))) H) (MU ξ):=by
 intro F H x y vx vy Q t Y rx ry q k;cases y<;>first|cases q;done|skip
 cases q;cases ry;refine⟨rfl,?_⟩;rw[<- pQ rx];exact k.bl Y
theorem tz:Kv K (λx y H Q=>y=.G8/\Q (.bl (!decide (x=.G8))) H) (MU D):=by
 intro F H x y vx vy Q t Y rx ry q k;cases y<;>first|cases q;done|skip
 cases q;cases ry;refine⟨rfl,?_⟩;rw[<- pQ rx];exact k.bl Y
noncomputable def cu:Dt->Bool
 |.G8=>D
 |.bl _=>D
 |.int _=>D
 |.str _=>D
 |_=>ξ
noncomputable def MV:Dt->Dt->Bool
 |.G8,.G8=>D
 |.bl a,.bl b=>a==b
 |.bl a,.int b=>(if a then 1 else 0)==b
 |.int a,.bl b=>a==(if b then 1 else 0)
 |.int a,.int b=>a==b
 |.str a,.str b=>a==b
 |_,_=>ξ
noncomputable def inS(j i:Str):Bool:=!(RO j i 0 j.length 1).isEmpty
def WQ:Dt->Dt->C Bool
 |.str i,.str j=>O (inS j i)
 |x,.e l=>if cu x&&l.all cu then O (l.any λy=>MV y x)else V
 |x,.t l=>if cu x&&l.all cu then O (l.any λy=>MV y x)else V
 |_,_=>V
def Sj(neg:Bool)(x y:Dt):C T:=(WQ x y).map λb=>.f (.bl (if neg then !b else b))
theorem oF{F:Hp}{d:Dt}(r:G3 K F d v)(h:cu d=D):hV v=D:=by
 cases d<;>simp only[G3]at r<;>first
  |(subst r;rfl)
  |cases h
theorem Dy{F:Hp}{d e:Dt}{w:ψ}(r:G3 K F d v)(r':G3 K F' e w)(h:cu d=D)(h':cu e=D):MV d e=P7 v w:=by
 cases d<;>first|cases h;done|skip
 all_goals cases e<;>first|cases h';done|skip
 all_goals simp only[G3]at r r';subst r r';rfl
theorem kS{F:Hp}:∀{l:Z Dt}{vs:Z ψ},hX K F l vs->l.all cu=D->vs.all hV=D
 |[],vs,r,_=>by simp only[hX]at r;subst r;rfl
 |d::l,vs,r,h=>by simp only[hX]at r;obtain⟨v,q,rfl,h1,h2⟩:=r;rw[PK,IH]at h ⊢;exact⟨oF h1 h.1,kS h2 h.2⟩
theorem rj{F:Hp}{x:Dt}{w:ψ}(r':G3 K F' x w)(q:cu x=D):∀{l:Z Dt}{vs:Z ψ},hX K F l vs->l.all cu=D->(l.any λy=>MV y x)=ZR w vs
 |[],vs,r,_=>by simp only[hX]at r;subst r;rfl
 |d::l,vs,r,h=>by simp only[hX]at r;obtain⟨v,Y,rfl,h1,h2⟩:=r;rw[PK,IH]at h;unfold ZR;rw[PL,PL,Dy h1 r' h.1 q,rj r' q h2 h.2];rfl
abbrev wO(K:Hk)(neg:Bool):R2:=λx y H Q=>(∃i j,x=.str i/\y=.str j/\Q (.bl (if neg then !inS j i else inS j i)) H)∨rIn K neg x y H Q
theorem wP:HY X (JQ .In) (wO X.K ξ):=HY.or uv uC
theorem mF:HY X (JQ .NotIn) (wO X.K D):=HY.or nZ nY
theorem WR(neg:Bool):Kv K (wO K neg) (Sj neg):=by
 intro F H x y vx vy Q t fh rx ry hg k;unfold Sj at hg;obtain⟨b,hb,hg⟩:=mS hg;cases hg;have kk:=k.bl fh;unfold WQ at hb;split at hb<;>first|(cases hb;done)|skip
 .cases hb;cases rx;cases ry;exact .inl ⟨_,_,rfl,rfl,kk⟩
 .split at hb
  .rename_i q;rw[IH]at q;cases hb;obtain⟨a,vs,rfl,h1,h2⟩:=ry;have Y:=rx.rep fh;rw[rj Y q.1 h2 q.2]at kk;exact .inr ⟨a,vs,rfl,.inl h1,oF Y q.1,kS h2 q.2,kk⟩
  .cases hb
 .split at hb
  .rename_i q;rw[IH]at q;cases hb;obtain⟨a,vs,rfl,h1,h2⟩:=ry;have Y:=rx.rep fh;rw[rj Y q.1 h2 q.2]at kk;exact .inr ⟨a,vs,rfl,.inr (fh.tup h1),oF Y q.1,kS h2 q.2,kk⟩
  .cases hb
theorem pR{F:Hp}{i:Int}{d:Dt}(r:hX K F l vs)(h:Ks l i=O d):∃v,Ks vs i=O v/\G3 K F d v:=by unfold Ks at h ⊢;rw[r.length];obtain⟨j,q,h⟩:=bS h;obtain⟨v,e,Y⟩:=r.get h;exact⟨v,by rw[q];exact e,Y⟩
def gIx:Dt->Dt->C T
 |.e l,.int i=>(Ks l i).map .f
 |.t l,.int i=>(Ks l i).map .f
 |.str x,.int i=>if x.length<=Hz then(Ks x.cps.toList i).map λc=>.f (.str ⟨#[c]⟩)else V
 |_,_=>V
theorem r_ix:Kv K (rIx K) gIx:=by
 intro F H x y vx vy Q t Y rx ry q k;unfold gIx at q;split at q<;>first|(cases q;done)|skip
 .obtain⟨d,hd,q⟩:=mS q;cases q;cases ry;obtain⟨a,vs,rfl,h1,h2⟩:=rx;obtain⟨v,e,rv⟩:=pR h2 hd;exact .inl ⟨a,vs,_,v,rfl,rfl,h1,e,k.leaf.here Y rv⟩
 .obtain⟨d,hd,q⟩:=mS q;cases q;cases ry;obtain⟨a,vs,rfl,h1,h2⟩:=rx;obtain⟨v,e,rv⟩:=pR h2 hd;exact .inr (.inl ⟨a,vs,_,v,rfl,rfl,Y.tup h1,e,k.leaf.here Y rv⟩)
 .split at q
  .rename_i hl;obtain⟨c,hc,q⟩:=mS q;cases q;cases rx;cases ry;exact .inr (.inr ⟨_,_,c,rfl,rfl,hl,hc,k.str Y⟩)
  .cases q
variable{a b c:Jc}{fa fb fc:De->C Dt}{pos:Pos}
def jq(g g':Dt->Dt->C T)(fa fb fc:De->C Dt):De->C T:=λJ=>(fa J).bind λx=>(fb J).bind λy=>(g x y).bind λz=>(Sf z).bind λk=>if k then(fc J).bind λw=>g' y w else O (.f (.bl ξ))
theorem wQ(hr:Kv K r g)(hr':Kv K r' g'){Q:VK}(h:tO K (jq g g' fa fb fc) G H Q):vR r r' (Mx K fa) (Mx K fb) (Mx K fc) G H Q:=by
 obtain⟨Φ,J,F,t,hK,en,Y,k⟩:=h;unfold jq at Y;obtain⟨x,hx,Y⟩:=bS Y;obtain⟨y,hy,Y⟩:=bS Y;obtain⟨z,hz,Y⟩:=bS Y;obtain⟨b,hb,Y⟩:=bS Y;refine⟨Φ,J,F,x,hK,en,hx,λv H1 F1 st rv=>⟨Φ,J,F1,y,hK,en.step st,hy,λv2 H2 F2 JA Nt=>hr F2 H2 x y v v2 _ z JA.fh (rv.step JA.ff JA.hh) Nt hz λv3 H3 F3 S KA o hs=>⟨b,oo hb o,?_⟩⟩⟩;have s3:=(st.trans JA).trans KA;split at Y
 .rename_i q;rw[if_pos q];obtain⟨w,hw,Y⟩:=bS Y;exact⟨Φ,J,F3,w,hK,en.step s3,hw,λv4 H4 F4 Oc rv4=>hr' F4 H4 y w v2 v4 Q t Oc.fh (Nt.step (KA.ff.trans Oc.ff) (KA.hh.trans Oc.hh)) rv4 Y (k.step (s3.trans Oc))⟩
 .rename_i q;rw[if_neg q];cases Y;exact(k.step s3).bl KA.fh
theorem wR{Y q:CmpOp}(ho:HY X (JQ Y) r)(hr:Kv X.K r g)(UC:HY X (JQ q) r')(hr':Kv X.K r' g')(ha:DB X a fa)(hb:DB X b fb)(hc:DB X c fc)(hm:lastMarks [Y,q] [b,c]=ξ:=by with_unfolding_all rfl):DO X (.Compare a [Y,q] [b,c] pos) (jq g g' fa fb fc):=PE.mono (vS ho UC ha hb hc hm) λG H Q h=>wQ hr hr' h
noncomputable def oG(l:Z Dt)(lo hi:C Int):Z Dt:=(l.drop (HT.HN l.length 0 lo)).take (HT.HN l.length l.length hi-HT.HN l.length 0 lo)
def Q9:Dt->C Int->C Int->C T
 |.str x,lo,hi=>if x.length<=Hz then O (.f (.str (Txt.slice x lo hi)))else V
 |.e l,lo,hi=>O (.e (oG l lo hi))
 |.t l,lo,hi=>if HT.HN l.length 0 lo=0/\HT.HN l.length l.length hi=l.length then V else O (.f (.t (oG l lo hi)))
 |_,_,_=>V
abbrev Dz(K:Hk):ψ->C Int->C Int->Hp->VK->Prop:=λx lo hi H Q=>Wz x lo hi H Q∨Wm K x lo hi H Q∨Wh K x lo hi H Q
theorem wS:Nn X (Dz X.K):=Nn.or Di (Nn.or zE Db)
theorem pS{F:Hp}(r:hX K F l vs)(lo hi:C Int):hX K F (oG l lo hi) (pB vs lo hi):=by unfold oG pB;rw[r.length];exact(r.drop _).take _
theorem DC{F:Hp}{x:Dt}{lo hi:C Int}{Q:VK}{t:T}(Y:zz F H)(rx:HX K F H x v)(q:Q9 x lo hi=O t)(k:KO K F H t Q):Dz K v lo hi H Q:=by
 unfold Q9 at q;split at q<;>first|(cases q;done)|skip
 .split at q
  .cases q;cases rx;exact .inl ⟨_,rfl,by assumption,k.str Y⟩
  .cases q
 .obtain⟨a,vs,rfl,h1,h2⟩:=rx;cases q;exact .inr (.inl ⟨a,vs,rfl,h1,λp hp=>dy k Y (pS h2 _ _) hp⟩)
 .obtain⟨a,vs,rfl,h1,h2⟩:=rx;split at q
  .cases q
  .rename_i hn;cases q;rw[<- h2.length]at hn;exact .inr (.inr ⟨a,vs,rfl,Y.tup h1,hn,λp hp=>k.tup Y (pS h2 _ _) hp⟩)
def tOD(K:Hk)(f:De->C (C Int)):TO:=λG H Q=>∃ Φ J F d,Fm.K Φ=K/\En Φ J G F H/\f J=O d/\∀H' F',Hc F H F' H'->Q d H'
noncomputable def kU:De->C (C Int):=λ_=>O V
noncomputable def Sk:Dt->C Int
 |.int i=>O i
 |_=>V
def ie(f:De->C Dt):De->C (C Int):=λJ=>(f J).bind λd=>(Sk d).map O
theorem iT{F:Hp}{x:Dt}{b:Int}(h:Sk x=O b)(r:HX K F H x v):v=.int b:=by
 cases x<;>first|cases h;done|skip
 cases h;exact r
def DP(X:Cx)(e:C Jc)(f:De->C (C Int)):Prop:=PO X e (tOD X.K f)
theorem tD:DP X V kU:=λJ1 s G H Q I h=>zA J1 s G H Q I (by obtain⟨Φ,J,F,d,Y,en,q,k⟩:=h;cases q;exact k H F (Hc.refl en.fh))
theorem tE{f:De->C Dt}(h:DB X e f):DP X (O e) (ie f):=λJ1 s G H Q I q=>zB h J1 s G H Q I (by obtain⟨Φ,J,F,d,hK,en,Y,k⟩:=q;unfold ie at Y;obtain⟨x,hx,Y⟩:=bS Y;obtain⟨i,hi,Y⟩:=mS Y;cases Y;exact⟨Φ,J,F,x,hK,en,hx,λv H' F' st r=>⟨i,iT hi r,k H' F' st⟩⟩)
def Qk(fa:De->C Dt)(Y q:De->C (C Int)):De->C T:=λJ=>(fa J).bind λx=>(Y J).bind λl=>(q J).bind λh=>Q9 x l h
theorem pT{lo hi:C Jc}{f:De->C Dt}{fl fh:De->C (C Int)}(he:DB X e f)(hl:DP X lo fl)(hh:DP X hi fh):DO X (.Subscript e (.Slice lo hi V p2) pos) (Qk f fl fh):=PE.mono (pz wS he hl hh) λG H Q ⟨Φ,J,F,t,hK,en,q,k⟩=>by unfold Qk at q;obtain⟨x,hx,q⟩:=bS q;obtain⟨l,hl,q⟩:=bS q;obtain⟨h,hh,q⟩:=bS q;exact⟨Φ,J,F,x,hK,en,hx,λv H1 F1 s1 r1=>⟨Φ,J,F1,l,hK,en.step s1,hl,λH2 F2 Y=>⟨Φ,J,F2,h,hK,en.step (s1.trans Y),hh,λH3 F3 s3=>DC s3.fh (r1.step (Y.ff.trans s3.ff) (Y.hh.trans s3.hh)) q (k.step ((s1.trans Y).trans s3))⟩⟩⟩
def l3(f:De->C Dt):De->C T:=λJ=>(f J).bind λd=>(Sk d).map λi=>.f (.int (-i))
theorem DD(h:DB X a fa):DO X (.UnaryOp .USub a pos) (l3 fa):=PE.mono (FT C3 h) λG H Q ⟨Φ,J,F,t,hK,en,q,k⟩=>by unfold l3 at q;obtain⟨x,Y,q⟩:=bS q;obtain⟨i,hi,q⟩:=mS q;cases q;exact⟨Φ,J,F,x,hK,en,Y,λv H' F' st r=>⟨i,iT hi r,(k.step st).int st.fh⟩⟩
noncomputable def bz:Z Dt->C T
 |[.str x]=>if x.length<=Hz then O (.f (.int x.length))else V
 |[.t l]=>O (.f (.int l.length))
 |[.e l]=>O (.f (.int l.length))
 |_=>V
theorem cy{F:Hp}{d:Dt}(r:Kw K F H [d] vs):∃v,vs=[v]/\HX K F H d v:=by obtain⟨v,q,rfl,h1,h2⟩:=r;cases h2;exact⟨v,rfl,h1⟩
theorem Gi:MS K (λxs H Q=>∃x n,xs=[x]/\Wb K x H n/\Q (.int n) H) bz:=by
 intro F H ds vs Q t fh r q k;unfold bz at q;split at q<;>first|(cases q;done)|skip
 .split at q
  .rename_i hl;cases q;obtain⟨v,rfl,Y⟩:=cy r;cases Y;exact⟨_,_,rfl,⟨hl,rfl⟩,k.int fh⟩
  .cases q
 .cases q;obtain⟨v,rfl,Y⟩:=cy r;obtain⟨a,vs,rfl,h1,h2⟩:=Y;rw[<- h2.length]at k;exact⟨_,_,rfl,.inr ⟨vs,fh.tup h1,rfl⟩,k.int fh⟩
 .cases q;obtain⟨v,rfl,Y⟩:=cy r;obtain⟨a,vs,rfl,h1,h2⟩:=Y;rw[<- h2.length]at k;exact⟨_,_,rfl,.inl ⟨vs,h1,rfl⟩,k.int fh⟩
noncomputable def mG:Z Dt->C (Z Bool)
 |[]=>O []
 |.bl b::r=>(mG r).map (b::·)
 |_=>V
theorem pU{F:Hp}:∀{l:Z Dt}{vs:Z ψ}{bs:Z Bool},hX K F l vs->mG l=O bs->vs=bs.map ψ.bl
 |[],vs,bs,r,h=>by cases h;simp only[hX]at r;exact r
 |d::l,vs,bs,r,h=>by
  cases d<;>first|cases h;done|skip
  simp only[mG]at h;obtain⟨cs,q,h⟩:=mS h;cases h;simp only[hX,G3]at r;obtain⟨v,ws,rfl,rfl,Y⟩:=r;rw[pU Y q];rfl
def kW(f:Z Bool->Bool):Z Dt->C T
 |[.e l]=>(mG l).map λbs=>.f (.bl (f bs))
 |_=>V
theorem kX{f:Z Bool->Bool}:MS K (λxs H Q=>∃(a:J9)(bs:Z Bool),xs=[.ref a]/\Io K H a (bs.map ψ.bl)/\Q (.bl (f bs)) H) (kW f):=by
 intro F H ds vs Q t Y r q k;unfold kW at q;split at q<;>first|(cases q;done)|skip
 obtain⟨bs,hb,q⟩:=mS q;cases q;obtain⟨v,rfl,rv⟩:=cy r;obtain⟨a,vs,rfl,h1,h2⟩:=rv;have:=pU h2 hb;subst this;exact⟨a,bs,rfl,h1,k.bl Y⟩
noncomputable def wT:Z Dt->C T
 |[.int i]=>O (.f (.int i))
 |[.bl b]=>O (.f (.int (if b then 1 else 0)))
 |[.str x]=>(PySem.intText? x).bind λn=>if x.length<=640 then O (.f (.int n))else V
 |_=>V
abbrev BD:Z ψ->Hp->VK->Prop:=λxs H Q=>((∃i,xs=[.int i]/\Q (.int i) H)∨∃k,xs=[.bl k]/\Q (.int (if k then 1 else 0)) H)∨∃x n,xs=[.str x]/\PySem.intText? x=O n/\x.length<=640/\Q (.int n) H
theorem uR:Hw X (.type "int") BD:=Hw.or uy n9
theorem Gj:MS K BD wT:=by
 intro F H ds vs Q t fh r q k;unfold wT at q;split at q<;>first|(cases q;done)|skip
 .cases q;obtain⟨v,rfl,Y⟩:=cy r;cases Y;exact .inl (.inl ⟨_,rfl,k.int fh⟩)
 .cases q;obtain⟨v,rfl,Y⟩:=cy r;cases Y;exact .inl (.inr ⟨_,rfl,k.int fh⟩)
 .obtain⟨n,hn,q⟩:=bS q;split at q
  .cases q;obtain⟨v,rfl,Y⟩:=cy r;cases Y;exact .inr ⟨_,n,rfl,hn,by assumption,k.int fh⟩
  .cases q
noncomputable def dU:Z Dt->C T
 |[.e l]=>O (.f (.t l))
 |[.t l]=>O (.f (.t l))
 |_=>V
theorem oH:MS K (λxs H Q=>∃p ys,xs=[.ref p]/\((Io K H p ys/\∀l,H l=V->Q (.ref l) (upd H l (.t ys)))∨(II K H p ys/\Q (.ref p) H))) dU:=by
 intro F H ds vs Q t fh r q k;unfold dU at q;split at q<;>first|(cases q;done)|skip
 .cases q;obtain⟨v,rfl,Y⟩:=cy r;obtain⟨a,vs,rfl,h1,h2⟩:=Y;exact⟨a,vs,rfl,.inl ⟨h1,λp hp=>k.tup fh h2 hp⟩⟩
 .cases q;obtain⟨v,rfl,Y⟩:=cy r;rename_i l;have NP:G3 K F (.t l) v:=by simp only[G3];exact Y
  obtain⟨a,vs,rfl,h1,h2⟩:=Y;exact⟨a,vs,rfl,.inr ⟨fh.tup h1,k.leaf.here fh NP⟩⟩
def tF:Z Dt->C T
 |[.e l]=>O (.e l)
 |[.t l]=>O (.e l)
 |_=>V
theorem wU:MS K (λxs H Q=>∃p ys,xs=[.ref p]/\(Io K H p ys∨II K H p ys)/\∀l,H l=V->Q (.ref l) (upd H l (.e ys))) tF:=by
 intro F H ds vs Q t Y r q k;unfold tF at q;split at q<;>first|(cases q;done)|skip
 .cases q;obtain⟨v,rfl,rv⟩:=cy r;obtain⟨a,vs,rfl,h1,h2⟩:=rv;exact⟨a,vs,rfl,.inl h1,λp hp=>dy k Y h2 hp⟩
 .cases q;obtain⟨v,rfl,rv⟩:=cy r;obtain⟨a,vs,rfl,h1,h2⟩:=rv;exact⟨a,vs,rfl,.inr (Y.tup h1),λp hp=>dy k Y h2 hp⟩
end
variable{mg:Str->C Value}{J1:Z (J9×Obj)}{s:t2}{A:HM}{E Q:Value->t2->Prop}{p1 pos':Pos}{Φ:Fm}{J:De}{N:Z Str}
section
variable{X:Cx}{o a b e c:Jc}{es:Z Jc}{fa fb fo fe:De->C Dt}{fs:De->C (Z Dt)}{pos apos Hb p:Pos}{x:Str}{sc:Jd}{i:Nat}
def iU(K:Hk)(mg:Str->C Value)(x:Str)(d:Dt):Prop:=∃v,(∃u,mg x=O u/\BI v u)/\∀F,G3 K F d v
theorem Aa{d:Dt}(h:aw sc x=D)(q:iU X.K X.mg x d)(e1:bT X sc:=by rfl):DL X (.Name x pos) (kD d):=by obtain⟨v,h1,h2⟩:=q;exact wC (kM h h1 e1) h2
theorem iV{i:Str}(h:∃u,mg x=O u/\BI (.str i) u):iU K mg x (.str i):=⟨_,h,λ_=>iQ⟩
def pV:Dt->Bool
 |_=>ξ
def tyD:Dt->String
 |.G8=>"NoneType"
 |.bl _=>"bool"
 |.int _=>"int"
 |.str _=>"str"
 |.t _=>"tuple"
 |.e _=>"list"
 |.IJ _ _=>"dict"
 |.Jt _ _=>"dict"
def BE(c:String):Dt->Bool
 |.G8=>c=="NoneType"
 |.bl _=>c=="bool"||c=="int"
 |.int _=>c=="int"
 |.str _=>c=="str"
 |.t _=>c=="tuple"
 |.e _=>c=="list"
 |.IJ _ _=>c=="dict"
 |.Jt _ _=>c=="dict"
theorem rl {c:Value} {b:Bool} {d:Dt} (I:nC X J1 G H s) (q:BI v u) (r:G3 X.K H d v) (hi:pV d=ξ) (e:ZF X.K (.type (tyD d)) c=O b) (h:∀ tk,Q (.bool b) {s with toks:=tk}) :
  wpAny (model X.prog X.w) A (call (.builtin "isinstance") [u,c]) Q E s:=by
 cases d with
 |G8=>simp only[G3]at r;subst r;exact gZ I q .G8 e h
 |bl y=>simp only[G3]at r;subst r;exact gZ I q (.bl y) e h
 |int y=>simp only[G3]at r;subst r;exact gZ I q (.int y) e h
 |str y=>simp only[G3]at r;subst r;exact gZ I q (.str y) e h
 |t l=>simp only[G3]at r;obtain⟨a,vs,rfl,h1,h2⟩:=r;cases q;obtain⟨J8,_,pl,_⟩:=I.tuple h1;obtain⟨o,Y,e2,_⟩:=pl;exact MJ PySem.W.kitx_tuple I.Kz ⟨o,Y,e2⟩ e (λz=>nomatch z) h
 |e l=>simp only[G3]at r;obtain⟨a,vs,rfl,h1,h2⟩:=r;cases q;obtain⟨J8,_,pl,_⟩:=I.list h1;obtain⟨o,n,Y,e2,_⟩:=pl;exact MJ xR9 I.Kz ⟨o,Y,e2⟩ e (λz=>nomatch z) h
 |IJ ks l=>simp only[G3]at r;obtain⟨a,J6,rfl,h1,_⟩:=r;cases q;obtain⟨_,_,vs,_,p⟩:=mj I.Hm h1;obtain⟨o,es,ep,Y,e2,_⟩:=p;exact MJ ZG I.Kz ⟨o,Y,e2.1⟩ e (λz=>nomatch z) h
 |Jt ks l=>simp only[G3]at r;obtain⟨a,J6,rfl,h1,_⟩:=r;cases q;obtain⟨_,_,xs,_,o,es,ep,Y,e2,_⟩:=(show Hn X.prog X.w H s.heap a (.dT J6)from h1.ok I.Hm);exact MJ ZG I.Kz ⟨o,Y,e2.1⟩ e (λz=>nomatch z) h
def eO(K:Hk)(c:String):Prop:=∀d:Dt,pV d=ξ->ZF K (.type (tyD d)) (.type c)=O (BE c d)
theorem rm:Hw X (.builtin "isinstance") (λxs H Q=>∃v c d b,xs=[v,.ty c]/\G3 X.K H d v/\pV d=ξ/\ZF X.K (.type (tyD d)) (.type c)=O b/\Q (.bl b) H):=by intro J1 s G H xs us Q I r h;obtain⟨v,c,d,b,rfl,rd,hi,e,q⟩:=h;obtain⟨u,w',rfl,ru,Y⟩:=vU r;cases Y;exact rl I ru rd hi e λtk=>⟨.bl b,H,I.tok _,rfl,q⟩
def dJ(c:String)(f:De->C Dt):De->C T:=λJ=>(f J).bind λd=>if pV d then V else O (.f (.bl (BE c d)))
theorem bV{q:Str}{cs:String}(h:aw sc "isinstance"=D)(hcn:aw sc q=D)(hm:X.mg "isinstance"=V)(hmc:X.mg q=V)(hv:Kk q=O (.type cs))(hk:eO X.K cs)(ha:DB X a fa)(e1:bT X sc:=by rfl)
 (he:G7 [a,.Name q p2] X.env=(ξ,eval a X.env)::G7 [.Name q p2] X.env:=by rfl) (he2:G7 [.Name q p2] X.env=(ξ,eval (.Name q p2) X.env)::G7 [] X.env:=by rfl) (MN:(IK pos (G7 [.Name q p2] X.env)).any (·.1)=ξ:=by rfl) :
  DO X (.Call (.Name "isinstance" p1) [a,.Name q p2] [] pos) (dJ cs fa):=
 PE.mono (g0 h rm hm lX (bM ha (bM (wx (v:=.ty cs) hcn hmc hv rfl e1) dN he2) he) e1 he MN) λG H Q ⟨Φ,J,F,t,hK,en,Y,k⟩=>by
  unfold dJ at Y;obtain⟨d,hd,Y⟩:=bS Y;cases hi:pV d with
  |true=>rw[hi]at Y;cases Y
  |false=>rw[hi]at Y;cases Y;exact⟨Φ,J,F,d,hK,en,hd,λv H' F' st r=>⟨v,cs,d,_,rfl,r.rep st.fh,hi,hk d hi,(k.step st).bl st.fh⟩⟩
def WS(K:Hk)(r:ψ->Z ψ->Hp->VK->Prop)(g:Dt->Z Dt->C T):Prop:=∀F H d v ds vs (Q:VK) t,zz F H->HX K F H d v->Kw K F H ds vs->g d ds=O t->KO K F H t Q->r v vs H Q
noncomputable def f6(g:Dt->Z Dt->C T)(fo:De->C Dt)(fs:De->C (Z Dt)):De->C T:=λJ=>(fo J).bind λd=>(fs J).bind λds=>g d ds
theorem wV {name:Str} {id:String} {r:ψ->Z ψ->Hp->VK->Prop} {g:Dt->Z Dt->C T} (slot:Slot "str" name id) (Wn:typeOf (.builtin id)=pure (.type "method_descriptor")) (hm:Q4 X id r) (hr:WS X.K r g) (hg:∀ d ds t,g d ds=O t->∃ z,d=.str z)
  (ho:DB X o fo) (ha:Mz X (e::es) fs)
  (Jn:On o name X.env (eval o X.env)=eval o X.env:=by rfl)
  (JH:((IK Hb (G7 (e::es) X.env)).all (λx=>!x.1)&&(QL Hb (QK [] X.env)).all (λx=>x.1.isSome)
   && decide ((e::es).length+([]:Z Mc).length+(if([]:Z Mc).isEmpty then 0 else 1)<30))=D:=by rfl)
  (Ip:(apos.endLine==Hb.line)=D:=by rfl) (hs:G7 (e::es) X.env=(ξ,eval e X.env)::G7 es X.env:=by rfl) (Y:(IK Hb (G7 es X.env)).any (·.1)=ξ:=by rfl) :
  DO X (.Call (.Attribute o name apos) (e::es) [] Hb) (f6 g fo fs):=PE.mono (pC PySem.F.plainAttrs_str slot Wn hm ho ha.pa Jn JH Ip hs Y) λG H Q ⟨Φ,J,F,t,hK,en,hf,k⟩=>by
 unfold f6 at hf;obtain⟨d,hd,hf⟩:=bS hf;obtain⟨ds,RZ,hf⟩:=bS hf;refine⟨Φ,J,F,d,hK,en,hd,λv H1 F1 st rv=>⟨?_,Φ,J,F1,ds,hK,en.step st,RZ,λvs H2 F2 q rvs=>hr F2 H2 d v ds vs Q t q.fh (rv.step q.ff q.hh) rvs hf (k.step (st.trans q))⟩⟩;obtain⟨z,rfl⟩:=hg d ds t hf;cases rv;rfl
noncomputable def fO:Z Dt->C (Z Str)
 |[]=>O []
 |.str b::r=>(fO r).map (b::·)
 |_=>V
theorem g6{F:Hp}:∀{l:Z Dt}{vs:Z ψ}{bs:Z Str},hX K F l vs->fO l=O bs->vs=bs.map ψ.str
 |[],vs,bs,r,h=>by cases h;simp only[hX]at r;exact r
 |d::l,vs,bs,r,h=>by
  cases d<;>first|cases h;done|skip
  simp only[fO]at h;obtain⟨cs,q,h⟩:=mS h;cases h;simp only[hX,G3]at r;obtain⟨v,ws,rfl,rfl,Y⟩:=r;rw[g6 Y q];rfl
def iy:Dt->Z Dt->C T
 |.str a,[.e l]=>(fO l).bind λts=>if JoinOk a ts then O (.f (.str (Txt.join a ts)))else V
 |_,_=>V
theorem Ab:WS K (λx vs H Q=>∃(a:Str)(l:J9)(ts:Z Str),x=.str a/\vs=[.ref l]/\Io K H l (ts.map ψ.str)/\JoinOk a ts=D/\Q (.str (Txt.join a ts)) H) iy:=by
 intro F H d v ds vs Q t Y rd rs q k;unfold iy at q;split at q<;>first|cases q;done|skip
 obtain⟨ts,ht,q⟩:=bS q;split at q
 .rename_i hj;cases q;cases rd;obtain⟨v,rfl,rv⟩:=cy rs;obtain⟨a,vs,rfl,h1,h2⟩:=rv;have:=g6 h2 ht;subst this;exact⟨_,a,ts,rfl,rfl,h1,hj,k.str Y⟩
 .cases q
theorem rn:∀d ds t,iy d ds=O t->∃z,d=.str z:=λd ds t h=>by
 unfold iy at h;split at h
 .exact⟨_,rfl⟩
 .cases h
theorem Ac (ho:DB X o fo) (ha:Mz X (e::es) fs)
  (Y:On o "join" X.env (eval o X.env)=eval o X.env:=by rfl)
  (JH:((IK Hb (G7 (e::es) X.env)).all (λx=>!x.1)&&(QL Hb (QK [] X.env)).all (λx=>x.1.isSome)
   && decide ((e::es).length+([]:Z Mc).length+(if([]:Z Mc).isEmpty then 0 else 1)<30))=D:=by rfl)
  (Ip:(apos.endLine==Hb.line)=D:=by rfl) (hs:G7 (e::es) X.env=(ξ,eval e X.env)::G7 es X.env:=by rfl) (q:(IK Hb (G7 es X.env)).any (·.1)=ξ:=by rfl) :
  DO X (.Call (.Attribute o "join" apos) (e::es) [] Hb) (f6 iy fo fs):=wV PySem.F.slot_str_join PySem.F.type_str_join zN Ab rn ho ha Y JH Ip hs q
noncomputable def z8(i:Nat)(f:De->C Dt):De->C Hj:=λJ=>match J[i]? with
 |some (O (.e l))=>(f J).bind λd=>if l.length<Hz then O (.nx (J.set i (O (.e (l++[d])))))else V
 |_=>V
theorem En.ON{F:Hp}(en:En Φ J G F H)(h:J[i]?=O (O (.e l))):∃a vs,G[i]?=O (O (.ref a))/\H a=O (.e vs)/\hX Φ.K F l vs:=by obtain⟨v,q⟩:=en.has i _ h;obtain⟨S,s⟩:=en.sep;obtain⟨a,vs,rfl,_,h1,h2⟩:=s.own i _ v (bF h q);exact⟨a,vs,q,h1,h2⟩
theorem bD (hx:PE X o (gd i)) (he:DL X e fe)
  (Jn:On o "append" X.env (eval o X.env)=eval o X.env:=by rfl)
  (JH:((IK Hb (G7 [e] X.env)).all (λx=>!x.1)&&(QL Hb (QK [] X.env)).all (λx=>x.1.isSome)
   && decide ([e].length+([]:Z Mc).length+(if([]:Z Mc).isEmpty then 0 else 1)<30))=D:=by rfl)
  (Ip:(apos.endLine==Hb.line)=D:=by rfl) (hs:G7 [e] X.env=(ξ,eval e X.env)::G7 [] X.env:=by rfl) (q:(IK Hb (G7 [] X.env)).any (·.1)=ξ:=by rfl)
  (OO:Mu (.Call (.Attribute o "append" apos) [e] [] Hb) V pos.line X.env=pure ξ:=by rfl) :
  KI X (.Expr (.Call (.Attribute o "append" apos) [e] [] Hb) pos) (z8 i fe):=
 PS.mono (nO (pC PySem.F.plainAttrs_list PySem.F.slot_list_append PySem.F.type_list_append ji hx (bM he dN hs) Jn JH Ip hs q) OO) λθ G H ⟨Φ,J,F,ot,hK,en,Y,k⟩=>by
  unfold z8 at Y;split at Y<;>first|cases Y;done|skip
  rename_i l hl;obtain⟨d,hd,Y⟩:=bS Y;split at Y<;>first|cases Y;done|skip
  rename_i hz;cases Y;obtain⟨a,vs,hv,h1,h2⟩:=en.ON hl;refine⟨.ref a,hv,.inl ⟨rfl,vs,.inl (.inl h1)⟩,Φ,J,F,d,hK,en,hd,λv H1 F1 st rv=>?_⟩;have JK:=en.step st;have OH:=st.hh _ _ h1;refine⟨a,vs,v,rfl,rfl,OH,by rw[h2.length];exact hz,?_⟩;refine k G F1 _ (JK.MR hl hv rfl λS sa=>⟨a,vs++[v],rfl,sa,aA,(h2.same st.ff).append (hX.one (hK▸rv))⟩)
def sPutL(i:Nat)(fk fe:De->C Dt):De->C Hj:=λJ=>(fe J).bind λd=>(fk J).bind λk=>match J[i]?,k with
 |some (O (.e l)),.int n=>(No l.length n).map λj=>.nx (J.set i (O (.e (l.set j d))))
 |_,_=>V
theorem hX.set{F:Hp}{d:Dt}(h:G3 K F d v):∀{l:Z Dt}{vs:Z ψ}(j:Nat),hX K F l vs->hX K F (l.set j d) (vs.set j v)
 |[],vs,j,r=>by simp only[hX]at r;subst r;simp[hX]
 |e::l,vs,0,r=>by simp only[hX]at r;obtain⟨w,Y,rfl,_,q⟩:=r;simp only[qz3,hX];exact⟨v,Y,rfl,h,q⟩
 |e::l,vs,j+1,r=>by simp only[hX]at r;obtain⟨w,Y,rfl,r1,q⟩:=r;simp only[qz4,hX];exact⟨w,_,rfl,r1,hX.set h j q⟩
def uS(f:Int->Int->Int)(i:Nat)(fe:De->C Dt):De->C Hj:=λJ=>match J[i]? with
 |some (O (.f (.int n)))=>(fe J).bind λd=>(Sk d).map λm=>.nx (J.set i (O (.f (.int (f n m)))))
 |_=>V
theorem DE{f:Int->Int->Int}{θ:Li}(h:tS K (uS f i fe) θ G H):V5 i (Mx K fe) (ipI f) θ G H:=by
 obtain⟨Φ,J,F,ot,hK,en,q,k⟩:=h;unfold uS at q;split at q<;>first|cases q;done|skip
 rename_i n hn;obtain⟨d,hd,q⟩:=bS q;obtain⟨m,hm,q⟩:=mS q;cases q;obtain⟨v,hv,Y⟩:=en.leaf hn;simp only[G3]at Y;subst Y;exact⟨_,hv,Φ,J,F,d,hK,en,hd,λw H1 F1 st r=>⟨n,m,rfl,iT hm r,k _ F1 H1 ((en.step st).name fN i)⟩⟩
theorem kY (h:dl sc N i x=D) (hl:ip sc x=D) (nd:N.Nodup) (he:DB X e fe) (e1:bT X sc:=by rfl) (Y:X.N=N:=by rfl) (hf:X.fn x=D∨X.env.scope.names.lookup x=O .local:=by exact .inl rfl) :
  KI X (.AugAssign (.Name x pos') .Add e pos) (uS (λi j=>i+j) i fe):=by
 have e1:X.env.scope=sc:=e1;subst e1 Y;exact PS.mono (CS nd (gx h) (jm hl) he CT hf) λθ G H q=>DE q
end
noncomputable def cW{κ:Type}[DecidableEq κ]:Z κ->Z Dt->κ->C Dt
 |k'::ks,d::l,k=>if k'=k then O d else cW ks l k
 |_,_,_=>V
theorem fF{κ:Type}[DecidableEq κ]{F:Hp}{k:κ}:∀{J6:Z (κ×ψ)}{l:Z Dt}{d:Dt},hX K F l (J6.map (·.2))->cW (J6.map (·.1)) l k=O d->∃v,fM J6 k=O v/\G3 K F d v
 |[],l,d,r,h=>by cases l<;>cases h
 |p::J6,[],d,r,h=>by cases h
 |p::J6,e::l,d,r,h=>by
  simp only[Ia,hX]at r;obtain⟨v,ws,q,Y,r2⟩:=r;cases q;simp only[Ia,cW]at h;by_cases hk:p.1=k
  .rw[if_pos hk]at h;cases h;exact⟨p.2,iH hk,Y⟩
  .rw[if_neg hk]at h;rw[gq hk];exact fF r2 h
theorem mH{κ:Type}[DecidableEq κ]{F:Hp}{k:κ}:∀{J6:Z (κ×ψ)}{l:Z Dt},hX K F l (J6.map (·.2))->cW (J6.map (·.1)) l k=V->fM J6 k=V
 |[],l,r,h=>rfl
 |p::J6,[],r,h=>by simp only[Ia,hX]at r;cases r
 |p::J6,e::l,r,h=>by
  simp only[Ia,hX]at r;obtain⟨v,ws,q,r1,Y⟩:=r;cases q;simp only[Ia,cW]at h;by_cases hk:p.1=k
  .rw[if_pos hk]at h;cases h
  .rw[if_neg hk]at h;rw[gq hk];exact mH Y h
noncomputable def l4:Dt->C Hr
 |.int i=>O (.inl i)
 |.str x=>O (.inr x)
 |_=>V
theorem fP{F:Hp}{d:Dt}{k:Hr}(r:HX K F H d v)(h:l4 d=O k):v=kV k:=by
 unfold l4 at h;split at h<;>first|(cases h;done)|skip
 .cases h;exact r
 .cases h;exact r
def ah:Dt->Dt->C T
 |.IJ ks l,k=>(l4 k).bind λk=>(cW ks l k).map .f
 |x,y=>gIx x y
section
variable{X:Cx}{o a b e c:Jc}{es:Z Jc}{fa fb fo fe fk:De->C Dt}{fs:De->C (Z Dt)}{pos apos Hb p:Pos}{x:Str}{sc:Jd}{i:Nat}
theorem rp(hr:Hh k X.A)(ha:DB X a fa)(hb:DB X b fb)(hs:nW b:=by exactλ_ _=>rfl)(hn:uG b:=by exactλ_ _=>rfl):DO X (.Subscript a b pos) (d2 ah fa fb):=
 PE.mono (PE.or (Bw Df ha hb hs) (sY (iI hr) ha hb hn)) λG H Q ⟨Φ,J,F,t,hK,en,q,k⟩=>by
  unfold d2 at q;obtain⟨x,hx,q⟩:=bS q;obtain⟨y,hy,q⟩:=bS q;unfold ah at q;split at q
  .rename_i ks l _;obtain⟨kk,hk,q⟩:=bS q;obtain⟨d,hd,q⟩:=mS q;cases q;refine .inr ⟨Φ,J,F,_,hK,en,hx,λv H1 F1 st rv=>⟨Φ,J,F1,y,hK,en.step st,hy,λv2 H2 F2 Y Nt=>?_⟩⟩;obtain⟨ad,J6,rfl,h1,h2,h3⟩:=rv;subst h2;obtain⟨w,hw,Mj⟩:=fF h3 hd;have:=fP Nt hk;subst this;exact⟨ad,w,rfl,.inl ⟨J6,kk,Y.hh.rd h1,rfl,hw.symm⟩,(k.step (st.trans Y)).leaf.here Y.fh (Mj.same Y.ff)⟩
  .exact .inl (mB r_ix ⟨Φ,J,F,t,hK,en,by unfold d2;rw[hx,hy];exact q,k⟩)
def aS(neg:Bool):Dt->Dt->C T
 |k,.IJ ks l=>(l4 k).map λk=>.f (.bl (if neg then !(cW ks l k).isSome else(cW ks l k).isSome))
 |x,y=>Sj neg x y
theorem j6{κ:Type}[DecidableEq κ]{F:Hp}{k:κ}{J6:Z (κ×ψ)}(r:hX K F l (J6.map (·.2))):(cW (J6.map (·.1)) l k).isSome=(fM J6 k).isSome:=by
 cases h:cW (J6.map (·.1)) l k with
 |none=>rw[mH r h];rfl
 |some d=>obtain⟨v,e,_⟩:=fF r h;rw[e];rfl
theorem BF{Q:VK}(h:tO K (d2 (aS ξ) fa fb) G H Q):RU (wO K ξ) (Mx K fa) (Mx K fb) G H Q∨Wq (Mx K fa) (Mx K fb) G H Q:=by
 obtain⟨Φ,J,F,t,hK,en,q,k⟩:=h;unfold d2 at q;obtain⟨x,hx,q⟩:=bS q;obtain⟨y,hy,q⟩:=bS q;unfold aS at q;split at q
 .rename_i ks l;obtain⟨kk,hk,q⟩:=mS q;cases q;refine .inr ⟨Φ,J,F,x,hK,en,hx,λv H1 F1 st rv=>⟨Φ,J,F1,_,hK,en.step st,hy,λv2 H2 F2 Y Nt=>?_⟩⟩;obtain⟨ad,J6,rfl,h1,h2,h3⟩:=Nt;subst h2;have:=fP rv hk;subst this;refine⟨ad,_,rfl,.inl ⟨J6,kk,h1,rfl,rfl⟩,?_⟩;rw[<- j6 h3];exact(k.step (st.trans Y)).bl Y.fh
 .exact .inl (mB (WR ξ) ⟨Φ,J,F,t,hK,en,by unfold d2;rw[hx,hy];exact q,k⟩)
theorem pW{Q:VK}(h:tO K (d2 (aS D) fa fb) G H Q):RU (wO K D) (Mx K fa) (Mx K fb) G H Q∨sX (Mx K fa) (Mx K fb) G H Q:=by
 obtain⟨Φ,J,F,t,hK,en,q,k⟩:=h;unfold d2 at q;obtain⟨x,hx,q⟩:=bS q;obtain⟨y,hy,q⟩:=bS q;unfold aS at q;split at q
 .rename_i ks l;obtain⟨kk,hk,q⟩:=mS q;cases q;refine .inr ⟨Φ,J,F,x,hK,en,hx,λv H1 F1 st rv=>⟨Φ,J,F1,_,hK,en.step st,hy,λv2 H2 F2 Y Nt=>?_⟩⟩;obtain⟨ad,J6,rfl,h1,h2,h3⟩:=Nt;subst h2;have:=fP rv hk;subst this;refine⟨ad,_,rfl,.inl ⟨J6,kk,h1,rfl,rfl⟩,?_⟩;rw[<- j6 h3];exact(k.step (st.trans Y)).bl Y.fh
 .exact .inl (mB (WR D) ⟨Φ,J,F,t,hK,en,by unfold d2;rw[hx,hy];exact q,k⟩)
theorem Gk(hr:Hh k X.A)(ha:DB X a fa)(Y:DB X b fb)(q:Nb .In b=ξ:=by with_unfolding_all rfl):DO X (.Compare a [.In] [b] pos) (d2 (aS ξ) fa fb):=PE.mono (PE.or (nT wP ha Y q) (vF (wa (iI hr) ha Y) q)) λG H Q h=>BF h
theorem wW(hr:Hh k X.A)(ha:DB X a fa)(Y:DB X b fb)(q:Nb .NotIn b=ξ:=by with_unfolding_all rfl):DO X (.Compare a [.NotIn] [b] pos) (d2 (aS D) fa fb):=PE.mono (PE.or (nT mF ha Y q) (vF (jj (iI hr) ha Y) q)) λG H Q h=>pW h
theorem PT.or{t t':TT}(h:PT X e t)(h':PT X e t'):PT X e (λG H Q=>t G H Q∨t' G H Q):=λJ1 s G H Q I q=>q.elim (h J1 s G H Q I) (h' J1 s G H Q I)
theorem BG{Q:Bool->Hp->Prop}(h:Qg K (G5 g fa fb) G H Q):tO K (d2 g fa fb) G H (λv H'=>∃c,v=.bl c/\Q c H'):=by obtain⟨Φ,J,F,t,hK,en,q,k⟩:=h;unfold G5 at q;obtain⟨z,Y,q⟩:=bS q;exact⟨Φ,J,F,z,hK,en,Y,λv H' F' S st o hs=>⟨t,oo q o,k H' F' st⟩⟩
theorem Gm(hr:Hh k X.A)(ha:DB X a fa)(Y:DB X b fb)(q:Nb .In b=ξ:=by with_unfolding_all rfl):DT X (.Compare a [.In] [b] pos) (G5 (aS ξ) fa fb):=PT.mono (PT.or (nU wP ha Y q) (nN (wa (iI hr) ha Y) q)) λG H Q h=>BF (BG h)
theorem wX(hr:Hh k X.A)(ha:DB X a fa)(Y:DB X b fb)(q:Nb .NotIn b=ξ:=by with_unfolding_all rfl):DT X (.Compare a [.NotIn] [b] pos) (G5 (aS D) fa fb):=PT.mono (PT.or (nU mF ha Y q) (nN (jj (iI hr) ha Y) q)) λG H Q h=>pW (BG h)
noncomputable def kZ:De->C T:=λ_=>O (.IJ [])
theorem j7:DO X (.Dict [] [] pos) kZ:=PE.mono wc λG H Q ⟨Φ,J,F,t,Y,en,q,k⟩=>by
 cases q;intro p hp;refine k _ _ F (λb=>b=p) (Hc.made en.fh hp) ⟨p,[],rfl,rfl,aA,rfl,by simp[hX]⟩ λb z=>?_
 subst z;exact⟨en.fh.free hp,hp,_,aA,nofun⟩
noncomputable def jV{κ:Type}[DecidableEq κ]:Z (κ×Dt)->κ->Dt->Z (κ×Dt)
 |[],k,d=>[(k,d)]
 |p::l,k,d=>if p.1=k then(p.1,d)::l else p::jV l k d
def hJ(i:Nat)(fk fe:De->C Dt):De->C Hj:=λJ=>(fe J).bind λd=>(fk J).bind λk=>match J[i]? with
 |some (O (.e l))=>(Sk k).bind λn=>(No l.length n).map λj=>.nx (J.set i (O (.e (l.set j d))))
 |some (O (.IJ l))=>(l4 k).bind λk=>if l.length<Hz/\(l.map (·.1)).Nodup then O (.nx (J.set i (O (.IJ (jV l k d)))))else V
 |_=>V
theorem tG {κ:Type} [DecidableEq κ] (k:κ) (v:ψ):∀ (J6:Z (κ×ψ)) (l:Z (κ×Dt)) (d:Dt),(J6.map (·.1)).Nodup->J6.map (·.1)=l.map (·.1)->(dO J6 k v).map (·.1)=(jV l k d).map (·.1)∧
  ∀(K:Hk)(F:Hp),G3 K F d v->hX K F (l.map (·.2)) (J6.map (·.2))->hX K F ((jV l k d).map (·.2)) ((dO J6 k v).map (·.2)):=by
 have key:∀(J6:Z (κ×ψ)),(J6.map (·.1)).Nodup->dO J6 k v=match J6 with|[]=>[(k,v)]|p::r=>if p.1=k then(p.1,v)::r else p::dO r k v:=λJ6 hn=>by
  cases J6 with
  |nil=>rfl
  |cons p r=>
   dsimp only;by_cases hp:p.1=k
   .rw[if_pos hp];unfold dO;rw[if_pos (by simp[hp])];simp only[Ia,if_pos hp];congr 1
    have hk:∀q∈r,¬ q.1=k:=λq hq z=>by have:=(Oj.mp hn).1;exact this (show p.1∈r.map (·.1)by rw[hp,<- z];exact Ua hq)
    exact(List.map_congr_left λq hq=>if_neg (hk q hq)).trans (List.map_id' r)
   .rw[if_neg hp];unfold dO;have e:(p::r).any (λkv=>decide (kv.1=k))=r.any λkv=>decide (kv.1=k):=by simp[hp]
    rw[e];split
    .simp only[Ia,if_neg hp]
    .rfl
 intro J6;induction J6 with
 |nil=>
  intro l d hn Y;cases l with
  |nil=>exact⟨rfl,λK F r _=>by simpa[jV,dO] using hX.one r⟩
  |cons q l=>cases Y
 |cons p r ih=>
  intro l d hn Y;cases l with
  |nil=>cases Y
  |cons q l=>
   simp only[Ia,List.cons.injEq]at Y;have hn':=(Oj.mp hn).2;rw[key _ hn];simp only[jV];rw[<- Y.1];by_cases hp:p.1=k
   .rw[if_pos hp,if_pos hp];refine⟨by simp[Y.2],λK F rd rs=>?_⟩;simp only[Ia,hX]at rs ⊢;obtain⟨w,ws,hw,r1,r2⟩:=rs;cases hw;exact⟨_,_,rfl,rd,r2⟩
   .rw[if_neg hp,if_neg hp];obtain⟨i1,i2⟩:=ih l d hn' Y.2;refine⟨by simp[Y.1,i1],λK F rd rs=>?_⟩;simp only[Ia,hX]at rs ⊢;obtain⟨w,ws,hw,r1,r2⟩:=rs;cases hw;exact⟨_,_,rfl,r1,i2 K F rd r2⟩
theorem PS.or{e:Jb}{t t':TS}(h:PS X e t)(h':PS X e t'):PS X e (λG H Q=>t G H Q∨t' G H Q):=λJ1 s G H Q I q=>q.elim (h J1 s G H Q I) (h' J1 s G H Q I)
theorem En.ownD{F:Hp}(en:En Φ J G F H){l:Z (Hr×Dt)}(h:J[i]?=O (O (.IJ l))):∃a J6,G[i]?=O (O (.ref a))/\H a=O (.dK J6)/\J6.map (·.1)=l.map (·.1)/\hX Φ.K F (l.map (·.2)) (J6.map (·.2)):=by obtain⟨v,q⟩:=en.has i _ h;obtain⟨S,s⟩:=en.sep;obtain⟨a,vs,rfl,_,h1,h2,h3⟩:=s.own i _ v (bF h q);exact⟨a,vs,q,h1,h2,h3⟩
theorem iz{ox ik:Jc}(hr:Hh k X.A)(hx:PE X ox (gd i))(hk:DB X ik fk)(he:DL X e fe)
 (hs:Mu e (O (.Subscript ox ik apos)) pos.line X.env=pure ξ:=by rfl)
 (WT:zi0 [.Subscript ox ik apos] e pos.line X.env=pure ξ:=by rfl) (hw:zi1 [.Subscript ox ik apos] e X.env=pure V:=by rfl)
 (h1:(Mb [.Subscript ox ik apos] X.env).map (·.2)=[N7 (.Subscript ox ik apos) X.env]:=by rfl)
 (ha:∀v,N7 (.Subscript ox ik apos) X.env v=(do
 let ov <- PR [v] (eval ox X.env);let iv <- PR [v,ov] (eval ik X.env)
 standAt apos
 PR [v,ov,iv] (setItem ov iv v)
 release [v,ov,iv] []):=by intro _;rfl):KI X (.Assign [.Subscript ox ik apos] e pos) (hJ i fk fe):=
 PS.mono (PS.or (vI he (CP hx hk vZ ha) WT hw h1) (sZ (iI hr) hx hk he hs)) λθ G H ⟨Φ,J,F,ot,hK,en,Y,k⟩=>by
  unfold hJ at Y;obtain⟨d,hd,Y⟩:=bS Y;obtain⟨kd,UL,Y⟩:=bS Y;split at Y<;>first|(cases Y;done)|skip
  .rename_i l hl;obtain⟨n,hn,Y⟩:=bS Y;obtain⟨j,hj,Y⟩:=mS Y;cases Y;refine .inl ⟨Φ,J,F,d,hK,en,hd,λv H1 F1 st rv=>?_⟩;have JK:=en.step st;obtain⟨a,vs,hv,h1,h2⟩:=JK.ON hl;refine⟨.ref a,hv,Φ,J,F1,kd,hK,JK,UL,λw H2 F2 q Mj=>?_⟩;have KG:=JK.step q;refine⟨a,vs,n,j,rfl,iT hn Mj,q.hh _ _ h1,by rw[h2.length];exact hj,?_⟩;exact k G F2 _ (KG.MR hl hv rfl λS sa=>⟨a,_,rfl,sa,aA,hX.set (hK▸rv.same q.ff) j (h2.same q.ff)⟩)
  .rename_i l hl;obtain⟨kk,WU,Y⟩:=bS Y;split at Y<;>first|(cases Y;done)|skip
   rename_i hc;cases Y;refine .inr ⟨Φ,J,F,d,hK,en,hd,λv H1 F1 st rv=>?_⟩;have JK:=en.step st;obtain⟨a,J6,hv,h1,h2,h3⟩:=JK.ownD hl;refine⟨.ref a,hv,Φ,J,F1,kd,hK,JK,UL,λw H2 F2 q Mj=>?_⟩;have KG:=JK.step q;have:=fP Mj WU;subst this;have hlen:J6.length=l.length:=by simpa using congrArg Ld h2
   refine⟨a,_,rfl,.inl ⟨J6,kk,q.hh _ _ h1,rfl,by rw[hlen];exact hc.1,rfl⟩,?_⟩;obtain⟨p1,p2⟩:=tG kk v J6 l d (by rw[h2];exact hc.2) h2;exact k G F2 _ (KG.MR hl hv rfl λS sa=>⟨a,_,rfl,sa,aA,p1,p2 _ _ (hK▸rv.same q.ff) (h3.same q.ff)⟩)
end
section
variable{prog:HL}{w:Ja}{A:HM}{E:Value->t2->Prop}{s:t2}{I t:J9}{j:Nat}{vs:Array Value}
theorem rq{y:Value}(hI:s.heap.IsTupleIter I t j)(hv:s.heap.IsTuple t vs)(hy:vs[j]?=O y)
 (q:∀h',h'.IsTupleIter I t (j+1)->Pj I s.heap h'->Q y {s with heap:=h'}):wpAny (model prog w) A (Zx (.ref I)) Q E s:=by
 obtain⟨oi,Ra,hci,Y⟩:=id hI;obtain⟨ot,hot,_,nt,hdt⟩:=hv;unfold Zx;refine wB (Pd (name:=xv "__next__") hI.typeIs Zz (Na Zz hI.typeIs qx4 ?_ (qw4 _)));show wpAny _ _ (field (.ref I) 0 >>= _) _ _ s;refine wB (RJ Ra Y (x:=.ref t) rfl ?_);show wpAny _ _ (if(JS t==LI)=D then _ else _) _ _ s;rw[if_neg (show ¬ (JS t==LI)=D by exact Kp)];show wpAny _ _ (field (.ref I) 1 >>= _) _ _ s;refine wB (RJ Ra Y (x:=.int j 0) rfl ?_);show wpAny _ _ (seqItems? (.ref t) >>= _) _ _ s;refine wB (VH hot hdt ?_);simp only[Ms,hy];refine LG (Pe Ra Y Ξ (Hf ⟨y,rfl,Hf (q _ ?_ (N8 ..))⟩));exact⟨_,Oq _ Ra (RP (Ng Y _)),(VW ..).trans hci,by rw[Ng Y];simp[Ij]⟩
theorem uT(hh:A.handled=V)(hI:s.heap.IsTupleIter I t j)(hv:s.heap.IsTuple t vs)(hy:vs[j]?=V)
 (q:∀h' e,ZB I s.heap h'->(∃o,h'.get? e=O o/\o.cls=.type "StopIteration")->E (.ref e) {s with heap:=h'}):wpAny (model prog w) A (Zx (.ref I)) Q E s:=by
 obtain⟨oi,Ra,hci,Y⟩:=id hI;obtain⟨ot,hot,_,nt,hdt⟩:=hv;unfold Zx;refine wB (Pd (name:=xv "__next__") hI.typeIs Zz (Na Zz hI.typeIs qx4 ?_ (qw4 _)));show wpAny _ _ (field (.ref I) 0 >>= _) _ _ s;refine wB (RJ Ra Y (x:=.ref t) rfl ?_);show wpAny _ _ (if(JS t==LI)=D then _ else _) _ _ s;rw[if_neg (show ¬ (JS t==LI)=D by exact Kp)];show wpAny _ _ (field (.ref I) 1 >>= _) _ _ s;refine wB (RJ Ra Y (x:=.int j 0) rfl ?_);show wpAny _ _ (seqItems? (.ref t) >>= _) _ _ s;refine wB (VH hot hdt ?_);simp only[Ms,hy];refine LG (RM (LG (Pe Ra Y Ξ ?_)));show wpAny _ _ (Pi (.type "StopIteration") [] >>= _) _ _ _;refine wB ?_;simp only[Pi,VR];refine wB (Ma ?_ (by first|size_fits|decide));refine LG (m:=QJ _ _) (VL (a:=LI) (by first|rfl|(simp only[QJ]<;>rfl)) ?_);refine Ma ?_ (by first|size_fits|decide);simp only[Uw];refine wB (Zk ?_)
 first|rw[hh]|rw[show A.in1.handled=V by exact hh]
 refine wB (Hf (Zo ?_));exact q _ _ (((N8 ..).extBut.push _).push _) ⟨_,Ji _ rfl,rfl⟩
end
variable{prog:HL}{w:Ja}
theorem pX(hh:A.handled=V)(I t:J9)(q:t≠I)(vs:Array Value):Draws prog w A I [I,t] vs.size (λi v=>vs[i]?=O v) (λi h=>h.IsTupleIter I t i/\h.IsTuple t vs) where
 live:=λ_ _ st=>let ⟨o,ho,_⟩:=st.1;⟨o,ho⟩
 frame:=λ_ _ _ st hk=>⟨let ⟨o,ho,r⟩:=st.1;⟨o,hk I Ξ o ho,r⟩,let ⟨o,ho,r⟩:=st.2;⟨o,hk t Ξ o ho,r⟩⟩
 item:=λi s Q E hi st Y=>rq st.1 st.2 (y:=vs[i]) (by simp[hi]) λh' a b=>Y _ h' s.toks (by simp[hi]) ⟨a,let ⟨o,ho,r⟩:=st.2;⟨o,b.extBut _ _ q ho,r⟩⟩ b
 done:=λs Q E st hE=>uT hh st.1 st.2 Ξ hE
def Rb(b:Bool)(K:Hk)(H:Hp)(a:J9)(xs:Z ψ):Prop:=match b with
 |true=>Io K H a xs
 |false=>II K H a xs
def Pw(b:Bool)(h:Heap)(I a:J9)(i:Nat):Prop:=match b with
 |true=>h.IsListIter I a i
 |false=>h.IsTupleIter I a i
def Sl(b:Bool)(h:Heap)(a:J9)(vs:Array Value):Prop:=match b with
 |true=>h.IsList a vs
 |false=>h.IsTuple a vs
variable{h:Heap}{I a:J9}{i:Nat}
theorem Pw.obj(x:Pw b h I a i):∃o,h.get? I=O o/\(o.cls=.type "list_iterator"∨o.cls=.type "tuple_iterator")/\∀v,o.data≠.cell v:=by
 cases b with
 |true=>obtain⟨o,e,c,d⟩:=x;exact⟨o,e,.inl c,λv z=>by rw[d]at z;cases z⟩
 |false=>obtain⟨o,e,c,d⟩:=x;exact⟨o,e,.inr c,λv z=>by rw[d]at z;cases z⟩
variable{h':Heap}
theorem Pw.at(x:Pw b h I a i)(k:∀o,h.get? I=O o->h'.get? I=O o):Pw b h' I a i:=by
 cases b with
 |true=>obtain⟨o,e,r⟩:=x;exact⟨o,k o e,r⟩
 |false=>obtain⟨o,e,r⟩:=x;exact⟨o,k o e,r⟩
theorem Sl.obj{vs:Array Value}(x:Sl b h a vs):∃o,h.get? a=O o/\(o.cls=.type "list"∨o.cls=.type "tuple"):=by
 cases b with
 |true=>obtain⟨o,e,c,_⟩:=x;exact⟨o,e,.inl c⟩
 |false=>obtain⟨o,e,c,_⟩:=x;exact⟨o,e,.inr c⟩
theorem BH{x y:String}(h:x≠y):Nh x≠Nh y:=λz=>h (by cases z;rfl)
theorem wY{c:Bool}{l:J9}{vs:Array Value}(x:Pw b h I a i)(y:Sl c h l vs):l≠I:=by obtain⟨o,e1,Y,_⟩:=x.obj;obtain⟨o',e2,q⟩:=y.obj;rintro rfl;rw[e1]at e2;cases e2;rcases Y with Y|Y<;>rcases q with q|q<;>rw[Y]at q<;>exact absurd q (BH Ω)
variable{t':Nat}{fp:Z J9}
section
variable{X:Cx}{J1:Z (J9×Obj)}{G:St}{H:Hp}{s:t2}{a I:J9}{xs:Z ψ}{b:Bool}
theorem nC.Sm(δ:nC X J1 G H s)(h:Rb b X.K H a xs):∃J8:Z Value,Da xs J8/\Sl b s.heap a J8.toArray:=by
 cases b with
 |true=>obtain⟨J8,r,p,_⟩:=δ.list h;exact⟨J8,r,p.isList⟩
 |false=>obtain⟨J8,r,p,_⟩:=δ.tuple h;exact⟨J8,r,p⟩
theorem nC.OP{ys:Z ψ}(δ:nC X J1 G H s)(h:Rb b X.K H a xs)(h':Rb b X.K H a ys):xs=ys:=by
 cases b with
 |true=>exact δ.KS h h'
 |false=>exact δ.Km h h'
theorem wZ(Y:A.handled=V)(q:a≠I)(vs:Array Value):Draws prog w A I [I,a] vs.size (λi v=>vs[i]?=O v) (λi h=>Pw b h I a i/\Sl b h a vs):=by
 cases b with
 |true=>exact Draws.list Y I a q vs
 |false=>exact pX Y I a q vs
theorem nC.Ql(δ:nC X J1 G H s)(k:∀b o,b∉fp->s.heap.get? b=O o->h'.get? b=O o)(hf:∀b∈fp,gk X J1 H b):nC X J1 G H {s with heap:=h',toks:=t'}:=by
 have QV:∀b u,H b=O u->b∉fp:=λb u e z=>by rw[(hf b z).1]at e;cases e
 refine δ.step (g':=s.gens) (d':=s.drawn) (ch:=fp) (λb hb=>?_) (λb o _ _ Y e _=>k b o Y e) (λb o _ _ Y e _=>⟨o.slots,k b o Y e⟩) (λ_ _ _ _ n=>n)
  (λb o Y e=>⟨o,k b o Y e⟩) (λ_ _ e=>e) (λ_ _ _ e=>e) (λb ps e=>⟨#[],by rw[e];simp⟩) (λ_ _ e=>e) (λm hm=>?_) (λb u e=>?_) δ.bare
 .exact⟨(hf b hb).2.2.2.1,(hf b hb).2.1,(hf b hb).2.2.2.2.1,(hf b hb).2.2.2.2.2⟩
 .obtain⟨o,es,ep,ho,r⟩:=hm;exact⟨o,es,ep,k _ o (λz=>(hf _ z).2.1 rfl) ho,r⟩
 .refine(δ.Hm b u e).HW (λc v Y q=>k c v ?_ q) (λ_ q=>q) (λ_ _ q=>q) λ_ _ _ q=>q
  rcases Y with z|z
  .rw[z];exact QV b u e
  .exact QV c _ z
end
section
variable{X:Cx}{J1:Z (J9×Obj)}{G:St}{H:Hp}{s:t2}
theorem nC.Nv {t:J9} {u:HO} (δ:nC X J1 G H s) (k:∀ b o,b∉fp->s.heap.get? b=O o->h'.get? b=O o) (hf:∀ b∈fp,gk X J1 H b) (ht:s.heap.objs.size<=t) (new:Hn X.prog X.w (upd H t u) h' t u) :
  nC X J1 G (upd H t u) {s with heap:=h',toks:=t'}:=by
 have QV:∀b u,H b=O u->b∉fp:=λb u e z=>by rw[(hf b z).1]at e;cases e
 have hn:H t=V:=δ.Hm.fresh ht;have Y:∀b v,H b=O v->b≠t:=λb v e=>bA e hn
 have nlt:∀b o,s.heap.get? b=O o->b≠t:=λb o e z=>by subst z;exact absurd (Ih e) (Ug.mpr ht)
 refine δ.step (g':=s.gens) (d':=s.drawn) (ch:=fp) (λb hb=>?_) (λb o _ _ hc e _=>k b o hc e) (λb o _ _ hc e _=>⟨o.slots,k b o hc e⟩) (λb o _ e n=>by rw[ax (nlt b o e)];exact n)
  (λb o hc e=>⟨o,k b o hc e⟩) (λb xs e=>by rw[ax (Y b _ e)];exact e) (λb o v e=>by rw[ax (Y b _ e)];exact e) (λb ps e=>⟨#[],by rw[ax (Y b _ e),e];simp⟩) (λb xs e=>by rw[ax (Y b _ e)];exact e) (λm hm=>?_) (λb v e=>?_) δ.bare
 .exact⟨(hf b hb).2.2.2.1,(hf b hb).2.1,(hf b hb).2.2.2.2.1,(hf b hb).2.2.2.2.2⟩
 .obtain⟨o,es,ep,ho,r⟩:=hm;exact⟨o,es,ep,k _ o (λz=>(hf _ z).2.1 rfl) ho,r⟩
 .by_cases hb:b=t
  .subst hb;rw[aA]at e;cases e;exact new
  .rw[ax hb]at e;refine(δ.Hm b v e).HW (λc ob hc q=>k c ob ?_ q) (λc q=>by rw[ax (Y c _ q)];exact q) (λc ys q=>by rw[ax (Y c _ q)];exact q) λc ob ys q=>by rw[ax (Y c _ q)];exact q
   rcases hc with z|z
   .rw[z];exact QV b v e
   .exact QV c _ z
end
def Ite(b:Bool)(K:Hk)(a:J9):It:=⟨λi H=>∃xs x,Rb b K H a xs/\xs[i]?=O x,λi H x H'=>∃t v,H t=V/\x=.ref t/\H'=upd H t (.t [.int i,v])/\∀xs,Rb b K H a xs->xs[i]?=O v,λi H=>∃xs,Rb b K H a xs/\xs.length=i⟩
variable{P:HL}{n:Nat}{pos:Pos}
theorem uU {elts:Z Jc} (b:Bool) (a e I:J9) (JB:e≠I) :
  Mg P w K (.Tuple elts n pos) (Ite b K a) [e,I] e (λi h=>(∃old,IsEnum h e I i old)/\Pw b h I a i) where
 mem:=by simp
 obj:=λi h st c hc=>by
  obtain⟨⟨old,Lx⟩,JA⟩:=st;simp only[HU,QE,or_false]at hc;rcases hc with rfl|rfl
  .exact⟨_,Lx,λv z=>nomatch z⟩
  .obtain⟨o,q,_,d⟩:=JA.obj;exact⟨o,q,d⟩
 keep:=λi h h' st k=>by obtain⟨⟨old,Lx⟩,JA⟩:=st;exact⟨⟨old,k e Ξ _ Lx⟩,JA.at λo q=>k I Ξ o q⟩
 item:=by
  intro X hP hw hK hc i J1 s G H E δ hf st hg;subst hP hw hK;obtain⟨⟨old,Lx⟩,JA⟩:=st;obtain⟨xs,x,hq,hx⟩:=hg;obtain⟨J8,rv,co⟩:=δ.Sm hq;obtain⟨u,hu,ru⟩:=rv.get hx;have hi:i<J8.toArray.size:=by simpa using (gX hu).1
  have hae:e∉[I,a]:=by simp only[HU,QE,or_false,not_or];refine⟨JB,λz=>?_⟩;obtain⟨o,q,c⟩:=co.obj;rw[<- z,Lx]at q;cases q;rcases c with c|c<;>exact absurd c (BH Ω)
  refine wpAny_pyNext_enum_itemD (wZ (A:=X.A.in1) (b:=b) (I:=I) (a:=a) (show X.A.in1.handled=V from δ.ok.hd hc) (wY JA co) J8.toArray) Lx ⟨JA,co⟩ hi JB hae λy h1 tk hy ho WT hT hsz hk=>⟨_,rfl,?_⟩
  have ey:y=u:=by rw[show J8.toArray[i]?=J8[i]? by simp,hu]at hy;exact(L3 hy).symm
  subst ey;refine wpAny_letOwnedTupleGo_enum ho λh2 he2 sb2=>?_
  have kk:∀c o,c∉[e,I]->s.heap.get? c=O o->h2.get? c=O o:=λc o Y q=>by simp only[HU,QE,or_false,not_or]at Y;exact(sb2.2 c Y.1).trans (hk c o Y.1 Y.2 q)
  have lt:∀c∈[e,I],c<s.heap.objs.size:=λc Y=>by
   simp only[HU,QE,or_false]at Y;rcases Y with rfl|rfl
   .exact Ih Lx
   .obtain⟨o,q,_⟩:=JA.obj;exact Ih q
  -- first Oa records,then Oa pair
  have hT2:h2.get? s.heap.objs.size=O {cls:=.type "tuple",data:=.seq #[.int i tk,y]}:=(sb2.2 _ (λz=>PN _ (z▸lt e Ξ))).trans hT
  have J2:nC X J1 G (upd H s.heap.objs.size (.t [.int i,x])) {s with heap:=h2,toks:=tk+1}:=by refine δ.Nv kk hf (HG _) ⟨by show 2<=Hz;decide,[.int i tk,y],.cons ⟨_,rfl⟩ (.cons ru .nil),?_⟩;exact⟨_,hT2,rfl,_,rfl⟩
  refine⟨.ref s.heap.objs.size,_,J2,rfl,⟨_,x,δ.Hm.fresh (HG _),rfl,rfl,λys hy=>by rw[δ.OP hy hq];exact hx⟩,⟨⟨_,by simpa using he2⟩,WT.1.at λo q=>(sb2.2 I (L1 JB)).trans q⟩,λc Y=>?_⟩;rw[ax (Js (lt c Y))];exact(hf c Y).1
 done:=by
  intro X hP hw hK hc i J1 s G H E δ hf st hg;subst hP hw hK;obtain⟨⟨old,Lx⟩,JA⟩:=st;obtain⟨xs,hq,hx⟩:=hg;obtain⟨J8,rv,co⟩:=δ.Sm hq;have hi:i=J8.toArray.size:=by rw[<- hx];simpa using rv.length
  refine wpAny_pyNext_enum_endD (wZ (A:=X.A.in1) (b:=b) (I:=I) (a:=a) (show X.A.in1.handled=V from δ.ok.hd hc) (wY JA co) J8.toArray) Lx (show Pw b s.heap I a J8.toArray.size/\Sl b s.heap a J8.toArray from⟨hi▸JA,co⟩) λh' eb=>⟨rfl,?_⟩
  exact δ.Ql (t':=s.toks) (λc o Y q=>eb c o (λz=>Y (by simp[z])) q) hf
 self:=λA i s Q E st h=>by obtain⟨⟨old,Lx⟩,JA⟩:=st;exact wpAny_pyIter_enum Lx h
theorem pY (t:J9) (vs:Array Value) (n:Nat) (dd:C J9) (sl:Array (C Value)) :
  Meets (JR.«enumerate.__new__» ⟨[.type "enumerate",.ref t],[]⟩) (λ_ R s=>s.heap.get? t=O {cls:=.type "tuple",dict:=dd,data:=.seq vs n,slots:=sl}∧
   R (.ok (.ret (.ref (s.heap.push {cls:=.type "tuple_iterator",data:=.fields #[.ref t,.int 0 0]}).objs.size)))
    {s with heap:=(s.heap.push {cls:=.type "tuple_iterator",data:=.fields #[.ref t,.int 0 0]}).push {cls:=.type "enumerate",data:=.fields #[.none,.bool ξ,.ref s.heap.objs.size,Ij 0,.none,.none]}}):=
 .of_wp λprog w A R s h=>by
  obtain⟨hp,g,d,tk,os⟩:=s;obtain⟨q,h⟩:=h;have hsub:=sub_enumerate;have Y:Heap.IsTuple (t2.heap ⟨hp,g,d,tk,os⟩) t vs:=⟨_,q,rfl,n,rfl⟩;wp_walk using qt0 q;refine wpAny_stack_any λst=>Hf ?_
  split
  .rename_i c _ _ _ _ _;cases (c==Nh "enumerate")<;>(wp_walk using qt0 q,qy6 Y)<;>exact⟨_,rfl,h⟩
  . (wp_walk using qt0 q,qy6 Y)<;>exact⟨_,rfl,h⟩
section
variable{prog:HL}{w:Ja}{A:HM}{E:Value->t2->Prop}{s:t2}
theorem rA{t:J9}{vs:Array Value}(hT:s.heap.IsTuple t vs)
 (h:∀h',IsEnum h' (s.heap.objs.size+1) s.heap.objs.size 0 .none->h'.IsTupleIter s.heap.objs.size t 0->h'.objs.size=s.heap.objs.size+2→
 (∀c u,s.heap.get? c=O u->h'.get? c=O u)->Q (.ref (s.heap.objs.size+1)) {s with heap:=h'}) :
  wpAny (model prog w) A (call (.type "enumerate") [.ref t]) Q E s:=by
 obtain⟨⟨c,IJ,dt,sl⟩,hl,hc,n,hd⟩:=hT;have hc:c=.type "tuple":=hc;have hd:dt=.seq vs n:=hd;subst hc hd;refine callType_new F.called_enumerate Ω (F.typeCall_enumerate_1 _) (F.newCall_enumerate_1 _) (λobj=>F.args_object_init_2 obj _) F.entry_enumerate_new (pY t vs n IJ sl) ⟨hl,?_⟩;have Y:(s.heap.push {cls:=.type "tuple_iterator",data:=.fields #[.ref t,.int 0 0]}).objs.size=s.heap.objs.size+1:=MH ..;have hz2:((s.heap.push {cls:=.type "tuple_iterator",data:=.fields #[.ref t,.int 0 0]}).push {cls:=.type "enumerate",data:=.fields #[.none,.bool ξ,.ref s.heap.objs.size,Ij 0,.none,.none]}).objs.size=s.heap.objs.size+2:=by rw[MH,Y]
 rw[Y];have q:=Ji (s.heap.push {cls:=.type "tuple_iterator",data:=.fields #[.ref t,.int 0 0]}) (o:={cls:=.type "enumerate",data:=.fields #[.none,.bool ξ,.ref s.heap.objs.size,Ij 0,.none,.none]}) rfl;rw[Y]at q;exact⟨⟨_,q,rfl⟩,h _ q ⟨_,gP _ (Ji _ rfl),rfl,rfl⟩ hz2 λc u z=>gP _ (gP _ z)⟩
theorem rB{t:J9}{vs:Array Value}(q:Sl b s.heap t vs)
 (h:∀h',IsEnum h' (s.heap.objs.size+1) s.heap.objs.size 0 .none->Pw b h' s.heap.objs.size t 0->h'.objs.size=s.heap.objs.size+2→
 (∀c u,s.heap.get? c=O u->h'.get? c=O u)->Q (.ref (s.heap.objs.size+1)) {s with heap:=h'}) :
  wpAny (model prog w) A (call (.type "enumerate") [.ref t]) Q E s:=by
 cases b with
 |true=>exact call_enumerate_list q h
 |false=>exact rA q h
end
variable{ta:TA}
section
variable{X:Cx}{x:Jc}{p pos KC:Pos}{sc:Jd}{fs:De->C (Z Dt)}{elts:Z Jc}{n:Nat}
def Gn(K:Hk)(ta:TA):TI:=λG H R=>ta G H λvs H1=>∃b a xs,vs=[.ref a]/\Rb b K H1 a xs/\R (Ite b K a) H1
theorem Ad (h:aw sc "enumerate"=D) (hm:X.mg "enumerate"=V) (ha:PA X [x] ta) (e1:bT X sc:=by rfl) (hs:G7 [x] X.env=[(ξ,eval x X.env)]:=by rfl) :
  PI X (.Tuple elts n KC) (.Call (.Name "enumerate" p) [x] [] pos) (Gn X.K ta):=by
 intro J1 s G H R I h';refine Call_ (fK I (NO h e1) hm oh (RG (Hx (ha pos J1 s G H _ I h') λus s1 ⟨vs,H1,I1,r1,q1⟩=>?_) hs rfl));obtain⟨b,a,xs,rfl,hq,q⟩:=q1;obtain⟨u,rfl,ru⟩:=d4 r1;cases ru;obtain⟨J8,rv,co⟩:=I1.Sm hq;refine rB co λh2 he hi hz hk=>wpAny_pyIter_enum he ?_
 have I2:nC X J1 G H1 {s1 with heap:=h2}:=I1.kept (t':=s1.toks) hk;refine⟨s1.heap.objs.size+1,[s1.heap.objs.size+1,s1.heap.objs.size],_,_,H1,rfl,I2,uU b a _ _ (Pc (Ue _)),⟨⟨_,he⟩,hi⟩,λc hc=>?_,q⟩
 have Y:s1.heap.objs.size<=c:=by
  simp only[HU,QE,or_false]at hc;rcases hc with rfl|rfl
  .exact QH _
  .exact HG _
 exact I1.Mf Y (I1.Hm.fresh Y)
def eQ(i:Nat):Z Dt->Z Dt
 |[]=>[]
 |d::r=>.t [.int i,d]::eQ (i+1) r
theorem mI:∀(l:Z Dt)(i:Nat),(eQ i l).length=l.length
 |[],_=>rfl
 |_::r,i=>by simp[eQ,mI r]
theorem mJ:∀(l:Z Dt)(i k:Nat),(eQ i l)[k]?=l[k]?.map λd=>.t [.int ((i+k:Nat):Int),d]
 |[],i,k=>by simp[eQ]
 |d::r,i,0=>by simp[eQ]
 |d::r,i,k+1=>by simp[eQ,mJ r,Nat.add_assoc,Nat.add_comm 1]
def pZ:Z Dt->C (Z Dt)
 |[.e l]=>O (eQ 0 l)
 |[.t l]=>O (eQ 0 l)
 |_=>V
theorem w4{F:Hp}{d e:Dt}{w:ψ}{t:J9}(h:F t=O (.t [v,w]))(r:G3 K F d v)(r':G3 K F e w):G3 K F (.t [d,e]) (.ref t):=by simp only[G3,hX];exact⟨t,_,rfl,II.of h,v,[w],rfl,r,w,[],rfl,r',rfl⟩
theorem mK{F:Hp}{xs:Z ψ}(r:hX K F l xs):pM K F (Ite b K a) (eQ 0 l) (λH=>Rb b K H a xs):=λi H F2 q Y ff=>by have hl:=r.length;rw[mI];refine⟨λh=>⟨xs,xs[i],q,by simp[show i<xs.length by lia]⟩,λh=>⟨xs,q,Θ⟩,λx H' hi hy=>?_⟩;obtain⟨t,v,ht,rfl,rfl,hv⟩:=hy;have hx:=hv xs q;obtain⟨d,hd,rd⟩:=r.OL hx;refine⟨_,upd F2 t (.t [.int i,v]),?_,Hc.new Y ht,w4 aA fN ((rd.same ff).same (zz.upd (Y.free ht)))⟩;rw[mJ,hd];simp
theorem iW (h:aw sc "enumerate"=D) (hm:X.mg "enumerate"=V) (ha:DA X [x] fs) (e1:bT X sc:=by rfl) (hs:G7 [x] X.env=[(ξ,eval x X.env)]:=by rfl) :
  LP X (.Tuple elts n KC) (.Call (.Name "enumerate" p) [x] [] pos) (cH pZ fs):=PI.mono (Ad h hm ha.pa e1 hs) λG H R ⟨Φ,J,F,ds,hK,en,q,k⟩=>by
 unfold cH at q;obtain⟨Y,hd,q⟩:=bS q;refine⟨Φ,J,F,Y,hK,en,hd,λvs H' F' st r=>?_⟩;unfold pZ at q;split at q<;>first|(cases q;done)|skip
 .cases q;simp only[hX,G3]at r;obtain⟨v,ws,rfl,⟨a,xs,rfl,h1,h2⟩,rfl⟩:=r;exact⟨D,a,xs,rfl,st.fh.seq h1,k _ _ H' F' st (mK (b:=true) h2) λH2 s=>s.seq h1⟩
 .cases q;simp only[hX,G3]at r;obtain⟨v,ws,rfl,⟨a,xs,rfl,h1,h2⟩,rfl⟩:=r;exact⟨ξ,a,xs,rfl,st.fh.tup h1,k _ _ H' F' st (mK (b:=false) h2) λH2 s=>s.tup h1⟩
end
section
variable{prog:HL}{w:Ja}{A:HM}{E:Value->t2->Prop}{s:t2}{z ti tO i1 i2:J9}{fp1 fp2:Z J9}{n1 n2 k:Nat}{P1 P2:Nat->Value->Prop}{S1 S2:Nat->Heap->Prop}{va vb:Value}
end
section
variable{prog:HL}{w:Ja}{A:HM}{E:Value->t2->Prop}{s:t2}
end
section
variable{X:Cx}{J1:Z (J9×Obj)}{G:St}{H:Hp}{s:t2}{a:J9}{xs ys:Z ψ}{b c:Bool}
end
section
variable{X:Cx}{x y:Jc}{p pos KC:Pos}{sc:Jd}{fs:De->C (Z Dt)}{elts:Z Jc}{n:Nat}
end
section
variable{X:Cx}{o a b e c:Jc}{es:Z Jc}{fa fb fo fe:De->C Dt}{fs:De->C (Z Dt)}{pos apos Hb p:Pos}{i:Nat}
end
def BJ:T->C T
 |.f d=>if cu d then O (.f d)else V
 |_=>V
theorem Kw.WV{F:Hp}(q:zz F H):∀{l:Z Dt}{vs:Z ψ},Kw K F H l vs->hX K H l vs
 |[],vs,h=>by simp only[hX];exact h
 |d::l,vs,h=>by obtain⟨v,Y,e,h1,h2⟩:=h;simp only[hX];exact⟨v,Y,e,h1.rep q,h2.WV q⟩
theorem w6{F:Hp}{d:Dt}(r:G3 K F d v)(h:cu d=D):G3 K F' d v:=by cases d<;>first|(cases h;done)|(simp only[G3]at r ⊢;exact r)
def jr(q:Z Dt->C T)(f:De->C (Z Dt)):De->C T:=λJ=>(f J).bind λds=>(q ds).bind BJ
variable{ps:Z Str}
section
variable{X:Cx}{e:Jc}{es:Z Jc}{fs:De->C (Z Dt)}{pos p:Pos}{x:Str}{sc:Jd}
theorem mL{ff:Z Dt->C T}(h:aw sc x=D)(F:G9 X.prog X.w X.K X.mg X.base x k ps (Ha X.K n ff))(hr:Hh k X.A)(ha:Mz X (e::es) fs)(hn:(e::es).length=n:=by rfl)(e1:bT X sc:=by rfl)
 (he:G7 (e::es) X.env=(ξ,eval e X.env)::G7 es X.env:=by rfl) (Y:(IK pos (G7 es X.env)).any (·.1)=ξ:=by rfl):DO X (.Call (.Name x p) (e::es) [] pos) (jr ff fs):=
 PE.mono (jn h F hr ha.pa e1 he Y) λG H Q ⟨Φ,J,Fz,t,hK,en,q,k⟩=>by
  unfold jr at q;obtain⟨ds,hd,q⟩:=bS q;obtain⟨u,hu,q⟩:=bS q;refine⟨Φ,J,Fz,ds,hK,en,hd,λvs H1 F1 st r=>?_⟩;show Ha X.K n ff (vs++[]) H1 Q E0;rw[Pb];refine⟨H1,ds,u,zz.refl _,(ha.len J ds hd).trans hn,r.WV st.fh,hu,λv H' F' S s2 o hs=>?_⟩;unfold BJ at q;split at q<;>first|(cases q;done)|skip
  split at q<;>first|(cases q;done)|skip
  rename_i d UE;cases q;exact(k.step st).leaf v H' F1 ⟨s2.hh,zz.refl _,st.fh.trans s2.hh,λb o e=>.inl e⟩ (w6 o UE)
end
def Ae(P:HL)(w:Ja)(K:Hk)(mg:Str->C Value)(x:Str)(ks:Z Hr)(l:Z Dt):Prop:=∃(a:J9)(J6:Z (Hr×ψ))(vs:Z (Hr×Value)),mg x=O (.ref a)/\(a==L4)=ξ/\J6.map (·.1)=ks/\(∀F,hX K F l (J6.map (·.2)))/\KV J6 vs/\∀h:Heap,K.In h->h.DictOf (bt P w) a vs
def gSg(ks:Z Hr)(l:Z Dt):Dt->C T:=λk=>(l4 k).bind λk=>(cW ks l k).map .f
def vSg(ks:Z Hr)(l:Z Dt)(f:De->C Dt):De->C T:=λJ=>(f J).bind (gSg ks l)
def gSi(neg:Bool)(ks:Z Hr)(l:Z Dt):Dt->C Bool:=λk=>(l4 k).map λk=>if neg then !(cW ks l k).isSome else(cW ks l k).isSome
def Z3(neg:Bool)(ks:Z Hr)(l:Z Dt)(f:De->C Dt):De->C Bool:=λJ=>(f J).bind (gSi neg ks l)
variable{J6:Z (Hr×ψ)}
section
variable{X:Cx}{b:Jc}{fb:De->C Dt}{pos p:Pos}{x:Str}{sc:Jd}{ks:Z Hr}{l:Z Dt}
def tSg(J6:Z (Hr×ψ))(ty:TE):TE:=λG H Q=>ty G H λy H1=>∃k v,y=kV k/\fM J6 k=O v/\Q v H1
def tSi(neg:Bool)(J6:Z (Hr×ψ))(ty:TE):TE:=λG H Q=>ty G H λy H1=>∃k,y=kV k/\Q (.bl (if neg then !(fM J6 k).isSome else(fM J6 k).isSome)) H1
theorem Go {vs:Z (Hr×Value)} {ty:TE} (h:aw sc x=D) (hg:X.mg x=O (.ref a)) (Y:KV J6 vs) (hD:∀ h:Heap,X.K.In h->h.DictOf (bt X.prog X.w) a vs) (hb:PE X b ty) (hn:uG b) (e1:bT X sc:=by rfl) :
  PE X (.Subscript (.Name x p) b pos) (tSg J6 ty):=by
 intro J1 s G H Q I q;have hx:PE X (.Name x p) (tC (.ref a)):=kM h ⟨_,hg,rfl⟩ e1;refine sW PySem.F.slot_dict_getitem.lookup hn (Hx (hx J1 s G H (λy H1=>y=.ref a/\tSg J6 ty G H1 Q) I ⟨rfl,q⟩) λu s1 ⟨y0,H1,I1,rx,e0,q1⟩=>Hx (hb J1 s1 G H1 _ I1 q1) λiv s2 ⟨y,H2,I2,ry,k,v,ey,hv,q2⟩=>?_);subst e0 ey;obtain rfl:u=JS a:=rx;have dd:=hD _ I2.Kz;obtain⟨w',hw,Mj⟩:=JU.some_of (v:=v) (o:=QO vs k) (by rw[<- hv];exact Y.val k);exact⟨dd.typeIs,wpAny_getItem_of (jJ ry) dd.mapOf hw ⟨v,H2,I2.tok _,Mj,q2⟩⟩
theorem DF {vs:Z (Hr×Value)} {ty:TE} (h:aw sc x=D) (hg:X.mg x=O (.ref a)) (hs:(a==L4)=ξ) (Y:KV J6 vs) (hD:∀ h:Heap,X.K.In h->h.DictOf (bt X.prog X.w) a vs) (hb:PE X b ty) (e1:bT X sc:=by rfl) :
  PC X .NotIn b (.Name x p) (tSi D J6 ty):=by
 intro J1 s G H Q I q;have hx:PE X (.Name x p) (tC (.ref a)):=kM h ⟨_,hg,rfl⟩ e1;refine Hx (hb J1 s G H _ I q) λiv s1 ⟨y,H1,I1,ry,k,ey,q1⟩=>Hx (hx J1 s1 G H1 (λy H2=>y=.ref a/\Q (.bl (!(fM J6 k).isSome)) H2) I1 ⟨rfl,q1⟩) λu s2 ⟨y0,H2,I2,rx,e0,q2⟩=>?_
 subst e0 ey;obtain rfl:u=JS a:=rx;have dd:=hD _ I2.Kz;refine wpAny_notIn_of (jJ ry) hs dd.mapOf ?_;rw[<- (Y.val k).IE];exact⟨.bl (!(fM J6 k).isSome),H2,I2.tok _,rfl,q2⟩
theorem Gp(h:aw sc x=D)(hm:Ae X.prog X.w X.K X.mg x ks l)(hb:DB X b fb)(e1:bT X sc:=by rfl)(hn:uG b:=by exactλ_ _=>rfl):DO X (.Subscript (.Name x p) b pos) (vSg ks l fb):=by
 obtain⟨a,J6,vs,hg,hs,rfl,hR,Y,hD⟩:=hm;refine PE.mono (Go h hg Y hD hb hn e1) λG H Q ⟨Φ,J,F,t,hK,en,q,k⟩=>?_
 unfold vSg at q;obtain⟨y,hy,q⟩:=bS q;obtain⟨kk,hk,q⟩:=bS q;obtain⟨d,hd,q⟩:=mS q;cases q;refine⟨Φ,J,F,y,hK,en,hy,λv H1 F1 st rv=>?_⟩;obtain⟨w,hw,Mj⟩:=fF (hR F1) hd;exact⟨kk,w,fP rv hk,hw,(k.step st).leaf.here st.fh Mj⟩
theorem Gq{neg:Bool}(Y:∀F,hX K F l (J6.map (·.2))){Q:Bool->Hp->Prop}(h:Qg K (Z3 neg (J6.map (·.1)) l fb) G H Q):tSi neg J6 (Mx K fb) G H (λv H'=>∃c,v=.bl c/\Q c H'):=by obtain⟨Φ,J,F,t,hK,en,q,k⟩:=h;unfold Z3 at q;obtain⟨y,hy,q⟩:=bS q;obtain⟨kk,hk,q⟩:=mS q;subst q;refine⟨Φ,J,F,y,hK,en,hy,λv H1 F1 st rv=>⟨kk,fP rv hk,_,rfl,?_⟩⟩;rw[<- j6 (Y F1)];exact k H1 F1 st
theorem DH(h:aw sc x=D)(hm:Ae X.prog X.w X.K X.mg x ks l)(hb:DB X b fb)(e1:bT X sc:=by rfl)(hk:Nb .NotIn (.Name x p)=ξ:=by with_unfolding_all rfl):DT X (.Compare b [.NotIn] [.Name x p] pos) (Z3 D ks l fb):=by obtain⟨a,J6,vs,hg,hs,rfl,hR,Y,hD⟩:=hm;exact PT.mono (nN (DF h hg hs Y hD hb e1) hk) λG H Q q=>Gq hR q
end
noncomputable def WW(p:Params)(q:Str×Tok×ψ×Value):Zt:=⟨PX p q.1,.str q.1 q.2.1,q.2.2.2⟩
variable{x:Str}{o:Obj}{ep:Nat}
theorem Af(Y:Z (Str×Tok×ψ×Value))(hm:mg x=O (.ref a))(hl:K.lookup a=O o)(hc:o.ExactDict)(hd:o.data=.dict (Y.map (WW w.params)).toArray ep)
 (hs:(a==L4)=ξ) (hn:(Y.map (·.1)).Nodup) (hv:∀r∈Y,BI r.2.2.1 r.2.2.2) (hR:∀F,hX K F l (Y.map (·.2.2.1))):Ae P w K mg x (Y.map λr=>.inr r.1) l:=by
 refine⟨a,Y.map λr=>(.inr r.1,r.2.2.1),Y.map λr=>(.inr r.1,r.2.2.2),hm,hs,by rw[IV];rfl,λF=>by rw[IV];exact hR F,?_,λh X=>⟨o,_,ep,X a o hl,hc,hd,?_,?_,?_⟩⟩
 .clear hd hn hR;induction Y with
  |nil=>exact .nil
  |cons r Y ih=>exact .cons ⟨rfl,hv r N5⟩ (ih λr hr=>hv r (N4 _ hr))
 .intro e he;obtain⟨r,_,rfl⟩:=Jg.mp (List.mem_toArray.mp he);exact⟨.inr r.1,gj P w r.1 r.2.1,rfl⟩
 .show Pairs (bt P w) (Y.map (WW w.params)) _;clear hd hn hR hv;induction Y with
  |nil=>exact .nil
  |cons r Y ih=>exact .cons (gj P w r.1 r.2.1) rfl ih
 .rw[IV];have:(Y.map ((λx:Hr×Value=>x.1) ∘ λr=>((NG r.1:Hr),r.2.2.2)))=(Y.map (·.1)).map NG:=by rw[IV];rfl
  rw[this];exact List.Pairwise.map _ (λa b h q=>h (NG.inj q)) hn
variable{J8:Array Value}{ds:Z Dt}
theorem de{xs:Z ψ}(hl:K.lookup a=O o)(hc:o.cls=.type "tuple")(hd:o.data=.seq J8 n)(q:Da xs J8.toList)(Y:xs.length<=Hz){F:Hp}(hx:hX K F ds xs):G3 K F (.t ds) (.ref a):=by simp only[G3];exact⟨a,xs,rfl,.inr ⟨o,J8,n,hl,hc,hd,by rw[<- M6,<- q.length];exact Y,q⟩,hx⟩
theorem w8{xs:Z ψ}(hm:mg x=O (.ref a))(hl:K.lookup a=O o)(hc:o.cls=.type "tuple")(hd:o.data=.seq J8 n)(hr:Da xs J8.toList)(q:xs.length<=Hz)(Y:∀F,hX K F ds xs):iU K mg x (.t ds):=⟨.ref a,⟨_,hm,rfl⟩,λF=>de hl hc hd hr q (Y F)⟩
inductive Nw(K:Hk)(F:Hp):List Dt->List ψ->Prop
 |nil:Nw K F [] []
 |cons {d:Dt} {v:ψ} {l:List Dt} {vs:List ψ}:G3 K F d v->Nw K F l vs->Nw K F (d::l) (v::vs)
theorem Ag{F:Hp}(h:Nw K F l vs):hX K F l vs:=by
 induction h with
 |nil=>simp[hX]
 |cons h _ q=>simp only[hX];exact⟨_,_,rfl,h,q⟩
variable{y:Str}{py NR:Pos}
section
variable{X:Cx}{elt tg iter:Jc}{ifs:Z Jc}{scope:Jd}{pos:Pos}{M:Z Str}{src:Z (C Nat)}{wi:TI}{g:TG}{tt:TT}{te:TE}
theorem tH(hN:X.N.Nodup)(hi':X.N[i]?=O y)(hx:P0 X.env.scope y)(hf:X.fn y=D∨X.env.scope.names.lookup y=O .local)
 (S:G4 X.N X.env.scope scope M src) (hc:X.calm=D) (hi:PI X tg iter wi) (hg:M.Nodup->∀ζ s H ex,PG (Jy X M scope ζ s H ex) tg g) (ht:∀ζ s H ex,Qd (Jy X M scope ζ s H ex) ifs tt)
 (he:∀ζ s H ex,PE (Jy X M scope ζ s H ex) elt te) (hs:∀x,Om iter X.env x=pure x)
 (OO:Mu (.ListComp elt [⟨tg,iter,ifs,0⟩] scope pos) (O (.Name y py)) NR.line X.env=pure D) :
  PS X (.Assign [.Name y py] (.ListComp elt [⟨tg,iter,ifs,0⟩] scope pos) NR) (zt (mo src wi g tt te) (ku i)):=by
 intro J1 s G H θ I h;rw[exec_Assign_Name_used _ _ _ _ OO];refine wB (Zi (wB ?_));show wpAny _ X.A (do let _ <- zi6 (.ListComp elt [⟨tg,iter,ifs,0⟩] scope pos) scope X.env _ (newList []) ξ (eval iter X.env) (O (N7 (.Name y py) X.env))) _ _ s;refine wB (MD (mq (use:=O (N7 (.Name y py) X.env)) (QQ:=λ_ s'=>∃Y H',nC X J1 Y H' s'/\θ.nx Y H') S hc hi hg ht he hs I h ?_) (λ_ s' hq=>Hf (Hf hq)) λ_ _ e=>e);intro Dd ζ H' s' m IA hC hn q;show wpAny _ X.A (N7 (.Name y py) X.env (.ref Dd)) _ _ s';refine wpAny_assign_Name (md IA hN hi' hx (v:=.ref Dd) rfl (λs2 I2 hsb=>?_) hf);obtain⟨a,sb,ha⟩:=hsb
 have ne:ζ≠a:=by
  rcases ha with rfl|ha
  .exact hC.2.1
  .exact L1 (hC.2.2.2.2.1 y a ha)
 exact⟨m,hn.sameBut sb ne,λh3 sb3=>⟨_,H',I2.but hC sb3,q⟩⟩
end
variable{sc:Jd}{ts:Z Nat}{bb:Dt->De->C De}
section
variable{X:Cx}{elt tg iter:Jc}{ifs:Z Jc}{scope:Jd}{pos:Pos}{M:Z Str}{src:Z (C Nat)}{fi:De->C (Z Dt)}{ft:De->C Bool}{fe:De->C Dt}{i:Nat}
theorem Ah(h:dl sc N i y=D)(hl:ip sc y=D)(nd:N.Nodup)(S:G4 X.N X.env.scope scope M src)(hc:X.calm=D)(hi:Sg X tg iter fi)(hg:M.Nodup->∀ζ s H ex,DG (Jy X M scope ζ s H ex) tg ts bb)
 (ht:∀ζ s H ex,Sh (Jy X M scope ζ s H ex) ifs ft) (he:∀ζ s H ex,DL (Jy X M scope ζ s H ex) elt fe) (Y:(ts.all λk=>decide (src[k]?=O V))=D) (hs:∀x,Om iter X.env x=pure x:=by intro _;rfl)
 (e1:bT X sc:=by rfl) (e2:X.N=N:=by rfl) (hf:X.fn y=D∨X.env.scope.names.lookup y=O .local:=by exact .inl rfl) (OO:Mu (.ListComp elt [⟨tg,iter,ifs,0⟩] scope pos) (O (.Name y py)) NR.line X.env=pure D:=by rfl) :
  KI X (.Assign [.Name y py] (.ListComp elt [⟨tg,iter,ifs,0⟩] scope pos) NR) (ar i (aL src fi bb ft fe)):=by
 have e1:X.env.scope=sc:=e1;subst e1 e2;refine PS.mono (tH (g:=gD X.K ts bb) (tt:=Qg X.K ft) (te:=tL X.K fe) nd (gx h) (jm hl) hf S hc hi (λnd ζ s H ex=>hg nd ζ s H ex) (λζ s H ex=>ht ζ s H ex) (λζ s H ex=>he ζ s H ex) hs OO) λθ G H ⟨Φ,J,F,o,hK,en,q,k⟩=>?_
 unfold ar at q;obtain⟨t,R9,q⟩:=mS q;cases q;exact oC S Y G H _ ⟨Φ,J,F,t,hK,en,R9,λv H' F' S st o hs=>k _ F' H' (en.put st (hK▸o) hs i)⟩
theorem DI{f:De->C T}{Q:VK}(h:tO K (G6 (bo f)) G H Q):tO K f G H Q:=by obtain⟨Φ,J,F,t,Y,en,hf,k⟩:=h;obtain⟨d,q,rfl⟩:=mS hf;obtain⟨u,ht,q⟩:=bS q;exact⟨Φ,J,F,u,Y,en,ht,KL.to q k.leaf⟩
theorem cX(h:dl sc N i y=D)(hl:ip sc y=D)(nd:N.Nodup)(S:G4 X.N X.env.scope scope M src)(hc:X.calm=D)(hi:Sg X tg iter fi)(hg:M.Nodup->∀ζ s H ex,DG (Jy X M scope ζ s H ex) tg ts bb)
 (ht:∀ζ s H ex,Sh (Jy X M scope ζ s H ex) ifs ft) (he:∀ζ s H ex,DL (Jy X M scope ζ s H ex) elt fe) (Y:(ts.all λk=>decide (src[k]?=O V))=D) (hs:∀x,Om iter X.env x=pure x:=by intro _;rfl)
 (e1:bT X sc:=by rfl) (e2:X.N=N:=by rfl) (hf:X.fn y=D∨X.env.scope.names.lookup y=O .local:=by exact .inl rfl) (OO:Mu (.ListComp elt [⟨tg,iter,ifs,0⟩] scope pos) (O (.Name y py)) NR.line X.env=pure D:=by rfl) :
  KI X (.Assign [.Name y py] (.ListComp elt [⟨tg,iter,ifs,0⟩] scope pos) NR) (ar i (G6 (bo (aL src fi bb ft fe)))):=by
 have e1:X.env.scope=sc:=e1;subst e1 e2;refine PS.mono (tH (g:=gD X.K ts bb) (tt:=Qg X.K ft) (te:=tL X.K fe) nd (gx h) (jm hl) hf S hc hi (λnd ζ s H ex=>hg nd ζ s H ex) (λζ s H ex=>ht ζ s H ex) (λζ s H ex=>he ζ s H ex) hs OO) λθ G H ⟨Φ,J,F,o,hK,en,q,k⟩=>?_
 unfold ar at q;obtain⟨t,R9,q⟩:=mS q;cases q;exact oC S Y G H _ (DI ⟨Φ,J,F,t,hK,en,R9,λv H' F' S st o hs=>k _ F' H' (en.put st (hK▸o) hs i)⟩)
end
section
variable{X:Cx}
def p0(K:Hk):R2:=λx y H Q=>∃a b ys,x=.ref a/\y=.ref b/\II K H a []/\II K H b ys/\Q (.ref b) H
theorem Ai:HY X (L5 .Add) (p0 X.K):=by
 intro J1 s G H x y v u Q I rx ry h;obtain⟨a,b,ys,rfl,rfl,ha,hb,q⟩:=h;cases rx;cases ry;obtain⟨J8,r1,p1,_⟩:=I.tuple ha;obtain⟨Y,r2,p2,_⟩:=I.tuple hb;cases r1;obtain⟨⟨cls,dd,data,sl⟩,ho,hc,n,hd⟩:=id p1;obtain⟨⟨RY,Q0,data2,Q3⟩,WN,NK,n2,hd2⟩:=id p2;simp only at hc hd NK hd2;subst hc hd NK hd2
 exact VJ ⟨_,ho,rfl⟩ ⟨_,WN,rfl⟩ Ze Zj PySem.F.slot_tuple_add PySem.F.entry_tuple_add (PySem.F.args_tuple_add_2 _ _)
  (tuple_addW0 a b #[] Y.toArray n n2 dd Q0 sl Q3 rfl) ⟨ho,WN,⟨.ref b,H,I,rfl,q⟩⟩
def w9:Dt->Dt->C T
 |.t [],.t m=>O (.f (.t m))
 |.t (d::l),.t (e::m)=>bP (.t (d::l)) (.t (e::m))
 |_,_=>V
theorem Aj:HY X (L5 .Add) (λx y H Q=>p0 X.K x y H Q∨mE X.K x y H Q):=HY.or Ai dA
theorem DJ:Kv K (λx y H Q=>p0 K x y H Q∨mE K x y H Q) w9:=by
 intro F H x y vx vy Q t Y rx ry q k;unfold w9 at q;split at q<;>first|(cases q;done)|skip
 .rename_i m;cases q;obtain⟨a,vs,rfl,h1,h2⟩:=rx;obtain⟨b,ws,rfl,h3,h4⟩:=ry;simp only[hX]at h2;subst h2;refine .inl ⟨a,b,ws,rfl,rfl,Y.tup h1,Y.tup h3,k.leaf.here Y ?_⟩;simp only[G3];exact⟨b,ws,rfl,h3,h4⟩
 .exact .inr (ib F H _ _ vx vy Q t Y rx ry q k)
end
noncomputable def BK:De->C (Z (Hr×Dt)):=λ_=>O []
def rC(fk fv:De->C Dt)(g:De->C (Z (Hr×Dt))):De->C (Z (Hr×Dt)):=λJ=>(fk J).bind λk=>(l4 k).bind λk=>(fv J).bind λv=>(g J).map λl=>(k,v)::l
noncomputable def p4(g:De->C (Z (Hr×Dt))):De->C T:=λJ=>(g J).bind λl=>if l.length<=15/\(l.map (·.1)).Nodup then O (.IJ l)else V
theorem mM:∀(more J5:Z (Hr×ψ)),((J5++more).map (·.1)).Nodup->gt J5 more=J5++more
 |[],J5,_=>by simp[gt]
 |p::more,J5,h=>by
  have hp:dO J5 p.1 p.2=J5++[(p.1,p.2)]:=by unfold dO;rw[if_neg];rw[IL,Mt]at h;intro z;obtain⟨q,Y,e⟩:=Vy.mp z;exact h.2.2 q.1 (Ua Y) p.1 Ξ (of_decide_eq_true e)
  show gt (dO J5 p.1 p.2) more=_;rw[hp,mM more (J5++[(p.1,p.2)]) (by simpa using h)];simp
def tPP(K:Hk)(g:De->C (Z (Hr×Dt)))(G:St)(H:Hp)(Q:Z (ψ×ψ)->Hp->Prop):Prop:=∃ Φ J F l,Fm.K Φ=K/\En Φ J G F H/\g J=O l∧∀(J6:Z (Hr×ψ)) H' F',Hc F H F' H'->J6.map (·.1)=l.map (·.1)->hX K F' (l.map (·.2)) (J6.map (·.2))->Q (J6.map λkv=>(kV kv.1,kv.2)) H'
structure Qm(X:Cx)(pos:Pos)(keys:List (Option Jc))(values:List Jc)(g:De->Option (List (Hr×Dt))):Prop where
 ex:∃NL,Wr X pos keys values NL/\∀ G H Q,tPP X.K g G H Q->n5 NL G H Q
section
variable{X:Cx}{pos:Pos}{k v:Jc}{ks:Z (C Jc)}{vs:Z Jc}{fk fv:De->C Dt}{g:De->C (Z (Hr×Dt))}
theorem Ak:Qm X pos [] [] BK:=⟨[],zI,λG H Q ⟨Φ,J,F,l,hK,en,Y,q⟩=>by cases Y;exact q [] H F (Hc.refl en.fh) rfl (by simp[hX])⟩
theorem xa(hk:DL X k fk)(hv:DL X v fv)(h:Qm X pos ks vs g):Qm X pos (O k::ks) (v::vs) (rC fk fv g):=by obtain⟨NL,h1,h2⟩:=h.ex;refine⟨_,wf hk hv h1,λG H Q ⟨Φ,J,F,l,hK,en,hg,q⟩=>?_⟩;unfold rC at hg;obtain⟨kd,UL,hg1⟩:=bS hg;obtain⟨kk,WU,hg2⟩:=bS hg1;obtain⟨d,hd,hg3⟩:=bS hg2;obtain⟨r,hr,hg4⟩:=mS hg3;subst hg4;refine⟨Φ,J,F,kd,hK,en,UL,λx H1 F1 st rx=>⟨Φ,J,F1,d,hK,en.step st,hd,λy H2 F2 Y ry=>h2 _ _ _ ⟨Φ,J,F2,r,hK,(en.step st).step Y,hr,λJ6 H3 F3 KA e1 r3=>?_⟩⟩⟩;have:=fP (HX.of st.fh rx) WU;subst this;refine q ((kk,y)::J6) H3 F3 ((st.trans Y).trans KA) (by simp[e1]) ?_;simp only[Ia,hX];exact⟨y,_,rfl,ry.same KA.ff,r3⟩
theorem Al(h:Qm X pos ks vs g)(JZ:ks.all (·.isSome)=D)(hl:ks.length=vs.length)(h0:ks≠[])(Ws:ks.length<=15):DO X (.Dict ks vs pos) (p4 g):=by
 obtain⟨NL,h1,h2⟩:=h.ex;refine PE.mono (zJ h1 JZ hl h0 Ws) λG H Q ⟨Φ,J,F,t,hK,en,hg,q⟩ p hp=>h2 _ _ _ ?_
 unfold p4 at hg;obtain⟨l,hl,Y⟩:=bS hg;split at Y<;>first|(cases Y;done)|skip
 rename_i hc;cases Y;have UI:=Hc.made (o:=.dK []) en.fh hp;refine⟨Φ,J,F,l,hK,en.step UI,hl,λJ6 H2 F2 st e1 r=>?_⟩;have hp2:H2 p=O (.dK []):=st.hh _ _ aA;have len:J6.length=l.length:=by simpa using congrArg Ld e1
 have fp:F2 p=V:=st.KY (en.fh.free hp) aA;refine⟨hp2,J6,rfl,Θ,?_⟩;rw[mM J6 [] (by rw[Y3,e1];exact hc.2),Y3];refine q _ _ F2 (λb=>b=p) ⟨λb o e=>?_,st.ff,λb o e=>?_,λb o e=>?_⟩ ⟨p,J6,rfl,rfl,aA,e1,r⟩ λb z=>?_
 .have nb:=bA e hp;rw[ax nb];exact st.hh _ _ (by rw[ax nb];exact e)
 .rw[ax (bA e fp)];exact st.fh _ _ e
 .rcases st.nw b o e with y|y
  .exact .inl y
  .by_cases nb:b=p
   .subst nb;exact .inr (.inl hp)
   .rw[ax nb]at y;exact .inr y
 .subst z;exact⟨fp,hp,_,aA,nofun⟩
end
theorem Am{k:Hr}(h:(bt P w).is k u=D):BI (kV k) u:=by
 rcases bN (show ko k u=D from h)with ⟨i,t,rfl,rfl⟩|⟨x,t,rfl,rfl⟩
 .exact⟨t,rfl⟩
 .exact⟨t,rfl⟩
variable{es:Z Jc}
section
variable{X:Cx}
def Gr(K:Hk)(n:Nat)(t:Pn):TG:=λv G H Q=>∃a xs,v=.ref a/\Io K H a xs/\xs.length=n/\t xs G H Q
theorem DK{t:Pn}(hc:X.calm=D)(h:RT X es t)
 (hn:(Mb es X.env).length=n:=by rfl) (Y:(Mb es X.env).findIdx? (·.1)=V:=by rfl):PG X (.Tuple es k pos) (Gr X.K n t):=by
 intro J1 s G H v u Q I r q;obtain⟨a,xs,e1,hq,hl,q⟩:=q;subst e1;cases r;obtain⟨J8,rv,ht,hz⟩:=I.list hq;rw[assign_Tuple];refine wB (Zi ?_);unfold unpack;rw[show(Mb es X.env).length=J8.toArray.size by simp[hn,<- hl,rv.length],Y];refine wB (NF (PySem.W.kun_itemsOf (I.ok.hd hc) ht.isList λh' hx=>?_));have I1:nC X J1 G H {s with heap:=h'}:=I.kept (t':=s.toks) λb o e=>hx b o (Js (Ih e)) e
 exact h J1 _ G H xs _ Q I1 (by simpa using rv) q
noncomputable def xb(n:Nat)(bs:Z Dt->De->C De):Dt->De->C De:=λd J=>match d with
 |.e ds=>if ds.length=n then bs ds J else V
 |_=>V
theorem rD{bs:Z Dt->De->C De}(hc:X.calm=D)(h:UH X es ts bs)
 (hn:(Mb es X.env).length=n:=by rfl) (Pu:(Mb es X.env).findIdx? (·.1)=V:=by rfl):DG X (.Tuple es k pos) ts (xb n bs):=PG.mono (DK hc h hn Pu) λv G H Q ⟨Φ,J,F,d,JO,hK,en,r,Y,q⟩=>by
 unfold xb at Y;split at Y
 .rename_i ds;split at Y
  .rename_i hl;simp only[G3]at r;obtain⟨a,vs,e,h1,h2⟩:=r;exact⟨a,vs,e,zz.seq en.fh h1,by rw[h2.length];exact hl,Φ,J,F,ds,JO,hK,en,h2,Y,q⟩
  .cases Y
 .cases Y
end
def bU(sc:Jd)(N:Z Str):Bool:=(HQ N.length).all λi=>match N[i]? with
 |some x=>dl sc N i x&&ip sc x
 |none=>ξ
theorem nsB(h:bU sc N=D)(e:N[i]?=O x):dl sc N i x=D/\ip sc x=D:=by have h1:=QD.mp h i (IS.mpr (gX e).1);rw[e]at h1;exact qw2.mp h1
theorem HH(h:bU sc N=D)(i:Nat)(e:N[i]?=O x:=by rfl):dl sc N i x=D:=(nsB h e).1
theorem HJ(h:bU sc N=D)(i:Nat)(e:N[i]?=O x:=by rfl):ip sc x=D:=(nsB h e).2
variable{X:Cx}
theorem IB(i:Nat)(h:bU sc N=D)(e:N[i]?=O x:=by rfl)(e1:bT X sc:=by rfl)(q:X.N=N:=by rfl):PE X (.Name x pos) (gd i):=pvD i (HH h i e) e1 q
def xc:Z Dt->C T
 |[.int i,.int j]=>O (.f (.int (if j<i then j else i)))
 |_=>V
def WX:Z ψ->Hp->VK->Prop:=λxs H Q=>∃i j,xs=[.int i,.int j]/\Q (.int (if j<i then j else i)) H
theorem uV(q:X.calm=D):Hw X (.builtin "min") WX:=ux q
theorem Gs:MS K WX xc:=by
 intro F H ds vs Q t fh r q k;unfold xc at q;split at q<;>first|(cases q;done)|skip
 cases q;obtain⟨v,ws,rfl,r1,w,ws',rfl,r2,Y⟩:=r;cases r1;cases r2;have Y:ws'=[]:=Y;subst Y;exact⟨_,_,rfl,k.int fh⟩
def p5:Hr->Dt
 |.inl i=>.int i
 |.inr x=>.str x
theorem An{F:Hp}(k:Hr):G3 K F (p5 k) (kV k):=by
 cases k with
 |inl i=>exact fN
 |inr x=>exact iQ
def BL(i j:Int):Prop:=0<j/\j<18446744073709551616
theorem eR:HY X (L5 .FloorDiv) (rI BL λi j=>.int (i/j)):=V9 λi j _ _ _ _ _ Y q=>by
 have h1:(0:Int)<j:=Y.1;have h2:j<18446744073709551616:=Y.2;refine floordiv_int Θ (by rw[Int.fdiv_eq_ediv_of_nonneg i Θ];exact q) (.inl (PyProof.noPylong_of_log2 ?_));have h3:j.natAbs≠0:=by lia
 exact VB ((Nat.log2_lt h3).mpr (show j.natAbs<2^64 by lia)) Ω
def cC:Dt->Dt->C T
 |.int i,.int j=>if 0<j/\j<18446744073709551616 then O (.f (.int (i/j)))else V
 |_,_=>V
theorem iA:Kv K (rI BL λi j=>.int (i/j)) cC:=by
 intro F H x y vx vy Q t Y rx ry q k;unfold cC at q;split at q<;>first|(cases q;done)|skip
 split at q
 .rename_i hc;cases q;cases rx;cases ry;exact⟨_,_,rfl,rfl,hc,k.int Y⟩
 .cases q
abbrev Jz:=J9->Hp->Z Dt->C T
def xf(P:HL)(w:Ja)(K:Hk)(mg:Str->C Value)(base:Heap)(kk:Nat)(H:Hp)(σ:Jz):Prop:=∀(f:J9)(F0:Hp)(ds:Z Dt)(t:T),σ f F0 ds=O t→
 (∃fo uf fd,H f=O (.Ii fo uf)/\fo.data=.func fd)/\∀(A:HM)(outer:Z Env)(s:t2)(H' F:Hp)(us:Z Value)(vs:Z ψ)(Q:VK),Hh kk A->(∀b o u,H b=O (.Ii o u)->H' b=O (.Ii o u))->LK P w K mg base A outer s H'->zz F0 F->zz F H'->Da vs us->hX K F ds vs->KO K F H' t Q→
  MF (model P w) A (.call (.ref f) ⟨us,[]⟩) (CR Lk outer P w H' s Q E0) s
noncomputable def Re(σ:Jz)(i:Nat)(fs:De->C (Z Dt)):De->C T:=λJ=>match J[i]? with
 |some (O (.fn a F0))=>(fs J).bind (σ a F0)
 |_=>V
section
variable{X:Cx}{e:Jc}{es:Z Jc}{fs:De->C (Z Dt)}{p pos:Pos}{x:Str}{i kk:Nat}{σ:Jz}
theorem j8 (hx:PE X (.Name x p) (gd i)) (hG:xf X.prog X.w X.K X.mg X.base kk X.Md σ) (hr:Hh kk X.A) (ha:DA X (e::es) fs)
  (he:G7 (e::es) X.env=(ξ,eval e X.env)::G7 es X.env:=by rfl) (MN:(IK pos (G7 es X.env)).any (·.1)=ξ:=by rfl):DO X (.Call (.Name x p) (e::es) [] pos) (Re σ i fs):=by
 intro J1 s G H Q I h;obtain⟨Φ,J,F,t,hK,en,hf,k⟩:=h;unfold Re at hf;split at hf<;>first|(cases hf;done)|skip
 rename_i a F0 hi;obtain⟨ds,hd,ht⟩:=bS hf;obtain⟨v,hv⟩:=en.has i _ hi;obtain⟨S,sp⟩:=en.sep;obtain⟨rfl,hF0⟩:=sp.own i _ _ (bF hi hv);obtain⟨⟨fo,uf,fd,g1,g2⟩,run⟩:=hG a F0 ds t ht
 have q:∀{J1:Z (J9×Obj)}{G:St}{H:Hp}{s:t2},nC X J1 G H s->PySem.W.FnAt a s.heap:=λ{J1 G H s} δ=>by have e1:=(δ.Hm a _ (δ.base.JV a fo uf g1)).1;obtain⟨oc,od,dt,sl⟩:=fo;cases (show dt=.func fd from g2);exact⟨oc,od,fd,sl,e1⟩
 refine VE (Hx (hx J1 s G H (λv H'=>v=.ref a/\H'=H) I ⟨.ref a,hv,rfl,rfl⟩) λu s1 h1=>?_);obtain⟨v1,H1,I1,r1,rfl,rfl⟩:=h1;cases r1;refine PySem.W.callWith_F (q I1) (Hx (ha.pa pos J1 s1 G _ (λvs H'=>∃F',Hc F _ F' H'/\hX X.K F' ds vs) I1 ⟨Φ,J,F,ds,hK,en,hd,λvs H' F' st r=>⟨F',st,r⟩⟩) λus s2 h2=>?_) he MN;obtain⟨vs,H2,I2,r2,F2,st,rc⟩:=h2;refine⟨q I2,Zp (RI (run X.A X.stack s2 H2 F2 us vs Q hr (λb o u z=>I2.base.JV b o u z) I2.RW (hF0.trans st.ff) st.fh r2 rc (k.step st)) λr s' Y=>?_)⟩;cases r with
 |error e=>exact Y.elim
 |ok fl=>
  cases fl with
  |ret u=>exact I2.after Y
  |next=>exact KP Y
  |brk=>exact KP Y
  |cont=>exact KP Y
end
noncomputable def UM(m:Nat)(d:Dt)(f1 f2:J9)(F0:Hp):De:=O (.f d)::O (.fn f1 F0)::O (.fn f2 F0)::Ol (m-3) V
def uW(m:Nat)(g:De->C Hj)(d:Dt)(f1 f2:J9)(F0:Hp):C T:=match g (UM m d f1 f2 F0)with
 |some (.rt t)=>O t
 |some (.nx _)=>O (.f .G8)
 |_=>V
def UN(P:HL)(w:Ja)(K:Hk)(mg:Str->C Value)(base:Heap)(kk:Nat)(FR:Jz->Dt->J9->J9->Hp->C T):Sp:=λvs H Q _=>∃σ F d f1 f2 t v,xf P w K mg base kk H σ/\zz F H/\vs=[v,.ref f1,.ref f2]/\G3 K F d v/\FR σ d f1 f2 F=O t/\KO K F H t Q
variable{f1 f2:J9}
theorem mN{F:Hp}{d:Dt}(fh:zz F H)(r:G3 K F d v):En ⟨K,F,H,λ_=>False⟩ (UM N.length d f1 f2 F) (start N [v,.ref f1,.ref f2]) F H:=by
 have q:∀(i:Nat)(t:T),(UM N.length d f1 f2 F)[i]?=O (O t)->∃Y,(start N [v,.ref f1,.ref f2])[i]?=O (O Y)/\K8 K F H t Y λ_=>False:=λi t h=>by
  unfold UM at h
  match i with
  |0=>cases h;exact⟨v,rfl,r⟩
  |1=>cases h;exact⟨_,rfl,rfl,zz.refl _⟩
  |2=>cases h;exact⟨_,rfl,rfl,zz.refl _⟩
  |i+3=>rw[YX,YX,YX,Vt]at h;split at h<;>cases h
 refine⟨fh,λb o h _=>h,zz.refl _,λb o h=>.inl h,by simp[start,UM],λi t h=>?_,λ_ _=>False,λi t Y h=>?_,λ_ _ z=>z.elim,λ_ _ _ z=>z.elim⟩
 .obtain⟨Y,e,_⟩:=q i t h;exact⟨Y,e⟩
 .obtain⟨h1,h2⟩:=c9 h;obtain⟨w,e,o⟩:=q i t h1;rw[h2]at e;cases e;exact o
variable{kk:Nat}
section
variable{P:HL}{w:Ja}{K:Hk}{mg:Str->C Value}{base:Heap}
theorem xg{st:Jb}{g:Jz->De->C Hj}(θ:Ho K mg x st ps)(S:ma N ps (ab st))(hn:ps.length=3)
 (Y:∀(f:J9)(Hv:Value)(A:HM)(outer:Z Env)(s:t2)(H:Hp)(E:XK),Hh k (A.deeper (M9 x (ab st) s.heap.objs.size f Hv))->∀σ:Jz,xf P w K mg base kk H σ->DS (kz Lk P w K mg base N x (ab st) f Hv A outer s H E).Pm (aH st) (g σ)) :
  G9 P w K mg base x (k+1) ps (UN P w K mg base kk λσ=>uW N.length (g σ)):=by
 refine θ.ok S (λvs H Q E h=>?_) (λf Hv A outer s H vs Q E hr h=>?_)
 .obtain⟨σ,F,d,f1,f2,t,v,_,_,rfl,_⟩:=h;exact hn.symm
 .obtain⟨σ,F,d,f1,f2,t,v,hG,fh,rfl,r,hf,kq⟩:=h;refine⟨_,Y f Hv A outer s H E hr σ hG,?_⟩;unfold uW at hf;dsimp only at hf;split at hf
  .rename_i t' q;cases hf;exact⟨⟨K,F,H,λ_=>False⟩,_,F,_,rfl,mN fh r,q,λv F' H' z=>z.step kq⟩
  .rename_i JO q;cases hf;exact⟨⟨K,F,H,λ_=>False⟩,_,F,_,rfl,mN fh r,q,λJF F' H' z=>(z.rt (Hc.refl z.fh) (t:=.f .G8) (S:=λ_=>False) (iR (K:=K) (F:=F')) λ_ y=>y.elim).step kq⟩
  .cases hf
end
section
variable{X:Cx}{x:Str}{p pos:Pos}{e:Jc}{es:Z Jc}{t:TA}{f:J9}{fd:Nd}{ps:Z Str}{sp:Sp}{k:Nat}
def DM(X:Cx)(sp:Sp)(t:TA):TE:=λG H Q=>t G H λvs H1=>∀H',Lz X G H1 H'->sp vs H' (λv H2=>(∀c,bI X c->H2 c=H' c)->Q v (jM X H2)) E0
theorem xh(I:nC X J1 G H s)(Y:∀x,X.fn x=D):∀b,bI X b->b∉ML X.stack/\∀o,X.base.get? b≠O o:=λb ⟨x,hx⟩=>by
 have q:=I.ok.UB x b (Y x) hx;refine⟨λz=>?_,λo e=>?_⟩
 .rcases HU.mp (I.KR b z)with y|y
  .exact I.QU x b hx y
  .obtain⟨_,o,ho,_⟩:=I.ok.JW.mem y;exact absurd (Ih ho) (Ug.mpr q)
 .exact absurd (Le (Ih e) I.ok.N9) (Ug.mpr q)
theorem xi (F:JG X.prog X.w X.K X.mg X.base Lk k f fd ps sp) (hr:Hh k X.A) (hg:Gl X x) (hm:X.mg x=O (.ref f)) (hk:NH X.K (.ref f)=D) (hb:JY X.K fd ps []) (NJ:∀ x,X.fn x=D)
  (ha:PA X (e::es) t) (hdb:(x==("__debug__":Str))=ξ:=by decide) (he:G7 (e::es) X.env=(ξ,eval e X.env)::G7 es X.env:=by rfl) (MN:(IK pos (G7 es X.env)).any (·.1)=ξ:=by rfl) :
  PE X (.Call (.Name x p) (e::es) [] pos) (DM X sp t):=by
 intro J1 s G H Q I h;refine VE (nM I hg hm ?_ hdb);refine PySem.W.callWith_K (h₀:=X.base) I.ok.mod.UA hk (Hx (ha pos J1 s G H _ I h) λus s1 ⟨vs,H1,Y,r,q⟩=>⟨Y.Kz,?_⟩) he MN;obtain⟨H',pc,e0⟩:=zU Y (xh Y NJ);have hs:=q H' pc;have hl:(us++[]).length=ps.length:=by rw[Pb,<- r.length];exact F.len _ _ _ _ hs
 refine Zp (RI (F.run X.A X.stack s1 H' ⟨us,[]⟩ (us++[]) vs _ E0 hr e0 (hb s1 us Y.Kz hl) (by rw[Pb];exact r) hs) λr s' hq=>?_);cases r with
 |error e=>exact hq.elim
 |ok fl=>
  cases fl with
  |ret u=>exact Y.Si pc e0.Hm hq
  |next=>exact KP hq
  |brk=>exact KP hq
  |cont=>exact KP hq
end
open Classical in
def uX(f1 f2:J9)(F1:Hp)(g1 g2:Z Dt->C T):Jz:=λa F0 ds=>if a=f1/\F0=F1/\ds.length=1 then g1 ds else if a=f2/\F0=F1/\ds.length=1 then g2 ds else V
variable{F1:Hp}{g1 g2:Z Dt->C T}
theorem xj{d:Dt}:uX f1 f2 F1 g1 g2 f1 F1 [d]=g1 [d]:=if_pos ⟨rfl,rfl,rfl⟩
theorem xk{d:Dt}(h:f1≠f2):uX f1 f2 F1 g1 g2 f2 F1 [d]=g2 [d]:=(if_neg λz=>h z.1.symm).trans (if_pos ⟨rfl,rfl,rfl⟩)
def NS(H:Hp)(f:J9)(name qual:Str)(params:LH)(body:Z Jb)(scope:Jd)(cl:Z (Str×J9)):Prop:=∃fo uf c' doc pm IM,H f=O (.Ii fo uf)/\fo.data=.func (NI name qual params body scope cl .none .none doc pm V (.ref c') IM)/\∃oc,H c'=O (.Ii oc (.code qual))
variable{f:J9}{qual:Str}{params:LH}{body:Z Jb}{scope:Jd}
theorem NS.up{name:Str}{cl:Z (Str×J9)}(h:NS H f name qual params body scope cl)(s:∀b o u,H b=O (.Ii o u)->H' b=O (.Ii o u)):NS H' f name qual params body scope cl:=by obtain⟨fo,uf,c',doc,pm,IM,h1,h2,oc,h3⟩:=h;exact⟨fo,uf,c',doc,pm,IM,s _ _ _ h1,h2,oc,s _ _ _ h3⟩
def fQ(J:De):Z Nat->C (Z Dt)
 |[]=>O []
 |j::js=>match J[j]? with
  |some (O (.f d))=>(fQ J js).map (d::·)
  |_=>V
structure JC(X:Cx)(name qual:Str)(params:LH)(body:List Jb)(scope:Jd)(N ps fr:List Str)(js:List Nat)(g:De->Option Hj)(kk:Nat):Prop where
 S:Ka N ps fr scope
 NN:∀x,∀y∈scope.names,y.1=x->scope.names.lookup x=O y.2
 one:ps.length=1
 Q8:∀x∈scope.names,x.2=.free->X.env.kindOf x.1=O .cell
 jl:js.length=fr.length
 nm:∀(i j:Nat)(x:Str),fr[i]?=O x->js[i]?=O j->X.N[j]?=O x/\X.env.kindOf x=O .cell
 bd:∀(s:t2)(cl:List (Str×J9))(doc pm IM cd:Value)(us:List Value),us.length=ps.length->Pf s (NI name qual params body scope cl .none .none doc pm V cd IM) ⟨us,[]⟩ (ps.zip us)
 body:∀(f c':J9)(cl:List (Str×J9))(A:HM)(outer:List Env)(s:t2)(H:Hp),Hh kk (A.deeper (iK qual scope s.heap.objs.size f (.ref c') cl))->DS (pJ Lk X.prog X.w X.K X.mg X.base N qual scope f (.ref c') cl A outer s H E0 λ_ _=>False) body g
variable{names:Z (Str×ME)}{cells:Z (Str×J9)}{js:Z Nat}
section
variable{X:Cx}
theorem k5{c:J9}(h:(x,c)∈gh names cells):(x,Lf)∈names/\c=(cells.lookup x).getD 0:=by
 have Y:∀(names:Z (Str×ME))(J5:Z (Str×J9)),(x,c)∈names.foldl (λcs q=>if q.2==Lf then(q.1,(cells.lookup q.1).getD 0)::cs else cs) J5->(x,c)∈J5∨((x,Lf)∈names/\c=(cells.lookup x).getD 0):=λnames=>by
  induction names with
  |nil=>intro J5 h;exact .inl h
  |cons y r ih=>
   intro J5 h;rw[PJ]at h;rcases ih _ h with z|z
   .split at z
    .rename_i hk;rcases HU.mp z with e|z
     .obtain⟨a,k⟩:=y;cases e;have hk:k=Lf:=by simpa using hk
      subst hk;exact .inr ⟨.head _,rfl⟩
     .exact .inl z
    .exact .inl z
   .exact .inr ⟨.tail _ z.1,z.2⟩
 rcases Y names [] h with z|z
 .cases z
 .exact z
theorem uY(h:(x,Lf)∈names):∃c,(gh names cells).lookup x=O c:=by
 have Y:∀(names:Z (Str×ME))(J5:Z (Str×J9)),((x,Lf)∈names∨∃c,J5.lookup x=O c)->∃c,(names.foldl (λcs q=>if q.2==Lf then(q.1,(cells.lookup q.1).getD 0)::cs else cs) J5).lookup x=O c:=λnames=>by
  induction names with
  |nil=>
   intro J5 h;rcases h with h|h
   .cases h
   .exact h
  |cons y r ih=>
   intro J5 h;rw[PJ];refine ih _ ?_;rcases h with h|⟨c,h⟩
   .rcases HU.mp h with e|h
    .subst e;right;simp
    .exact .inl h
   .right;split
    .rw[N6];cases x==y.1 with
     |true=>exact⟨_,rfl⟩
     |false=>exact⟨c,h⟩
    .exact⟨c,h⟩
 exact Y names [] (.inl h)
theorem k6{F:Hp}(en:En Φ J G F H):∀{js:Z Nat}{caps:Z Dt},fQ J js=O caps->∃fs:Z ψ,hX Φ.K F caps fs/\fs.length=js.length/\∀(i j:Nat)(v:ψ),js[i]?=O j->fs[i]?=O v->G[j]?=O (O v)
 |[],caps,h=>by cases h;exact⟨[],by simp only[hX],rfl,λi j v h=>by simp at h⟩
 |j::js,caps,h=>by
  simp only[fQ]at h;split at h<;>first|(cases h;done)|skip
  rename_i d hd;obtain⟨cs,q,rfl⟩:=mS h;obtain⟨v,hv,rv⟩:=en.leaf hd;obtain⟨fs,h1,h2,h3⟩:=k6 en q;refine⟨v::fs,by simp only[hX];exact⟨v,fs,rfl,rv,h1⟩,by simp[h2],λi Y v' q1 q2=>?_⟩;cases i with
  |zero=>simp at q1 q2;subst q1 q2;exact hv
  |succ i=>exact h3 i Y v' (by simpa using q1) (by simpa using q2)
theorem JC.at{name:Str}{fr:Z Str}{g:De->C Hj}(θ:JC X name qual params body scope N ps fr js g kk)(Y:∀x y c,X.env.cells.lookup x=O c->X.env.cells.lookup y=O c->x=y)(hhas:∀x,X.env.kindOf x=O .cell->∃c,X.env.cells.lookup x=O c)
 (pc:Lz X G H H') (fi:NS H' f name qual params body scope (gh scope.names X.env.cells)) {fs:Z ψ} (hl:fs.length=js.length) (hv:∀(i j:Nat)(v:ψ),js[i]?=O j->fs[i]?=O v->G[j]?=O (O v)) (JZ:∀x∈scope.names,x.2=.free->x.1∈fr) :
  ∃c' doc pm IM fo uf,MQ H' f name qual params body scope (gh scope.names X.env.cells) fr fs c' doc pm IM fo uf:=by
 obtain⟨fo,uf,c',doc,pm,IM,h1,h2,h3⟩:=fi;have cells:∀x,(x,Lf)∈scope.names->∃c,X.env.cells.lookup x=O c:=λx hx=>hhas x (θ.Q8 (x,.free) hx rfl)
 have look:∀x c,(x,c)∈gh scope.names X.env.cells->X.env.cells.lookup x=O c:=λx c h=>by obtain⟨a,b⟩:=k5 h;obtain⟨c2,e⟩:=cells x a;rw[e]at b;rw[e,b];rfl
 have vals:∀x c,(x,c)∈gh scope.names X.env.cells->∃(i:Nat)(o:Obj)(v:ψ)(u:Value),fr[i]?=O x/\fs[i]?=O v/\H' c=O (fY c o)/\o.data=.cell (O u)/\BI v u:=λx c h=>by obtain⟨a,_⟩:=k5 h;obtain⟨i,hi⟩:=Vv (JZ _ a rfl);have hif:i<fr.length:=(gX hi).1;have hjl:=θ.jl;have q:js[i]?=O js[i]:=gQ Θ;have hiv:fs[i]?=O fs[i]:=gQ Θ;obtain⟨n1,n2⟩:=θ.nm i _ x hi q;obtain⟨o,v,g1,g2,g3⟩:=pc.Mk x c (look x c h);obtain⟨u,rfl,ru⟩:=g3 _ _ n1 (hv i _ _ q hiv) (.inl n2);exact⟨i,o,_,u,hi,hiv,g1,g2,ru⟩
 refine⟨c',doc,pm,IM,fo,uf,⟨h1,h2,h3,λx c h=>?_,λx y c e1 e2=>?_,?_,λi x v e1 e2=>?_,λx c e=>?_⟩⟩
 .obtain⟨_,o,_,u,_,_,g1,g2,_⟩:=vals x c h;exact⟨o,u,g1,g2⟩
 .exact Y x y c (look x c (PySem.mem_of_lookup e1)) (look y c (PySem.mem_of_lookup e2))
 .rw[hl,θ.jl]
 .have hx:=θ.S.frk x (Ls e1);obtain⟨c,e⟩:=uY (cells:=X.env.cells) (PySem.mem_of_lookup hx);have hif:i<fr.length:=(gX e1).1;have hjl:=θ.jl;have q:js[i]?=O js[i]:=gQ Θ;obtain⟨n1,n2⟩:=θ.nm i _ x e1 q;obtain⟨o,w,g1,g2,g3⟩:=pc.Mk x c (look x c (PySem.mem_of_lookup e));obtain⟨u,rfl,ru⟩:=g3 _ _ n1 (hv i _ _ q e2) (.inl n2);exact⟨c,o,u,e,g1,g2,ru⟩
 .obtain⟨a,_⟩:=k5 (PySem.mem_of_lookup e);exact θ.NN x _ a rfl
end
variable{WY:Hp}
section
variable{X:Cx}{K:Hk}
theorem Hc.hide{F H1:Hp}(fh:zz F H)(q:Lz X G H WY)(a:Hc F WY F1 H1):Hc F H F1 (jM X H1):=by
 have Y:∀{b:J9},bI X b->∃o,WY b=O (fY b o):=λ{b}⟨x,hx⟩=>by obtain⟨o,v,e,_⟩:=q.Mk x b hx;exact⟨o,e⟩
 have nF:∀{b:J9}{o:HO},F1 b=O o->¬ bI X b:=λ{b o} e hb=>by
  obtain⟨ob,g1⟩:=Y hb;rcases a.nw b o e with z|z|⟨xs,z⟩
  .have:=fh b o z;rw[q.Q8 b hb]at this;cases this
  .rw[g1]at z;cases z
  .rw[g1]at z;cases z
 refine⟨λb o e=>?_,a.ff,λb o e=>?_,λb o e=>?_⟩
 .have hn:¬ bI X b:=λz=>by rw[q.Q8 b z]at e;cases e
  rw[cj hn];exact a.hh b o (by rw[q.out b hn];exact e)
 .rw[cj (nF e)];exact a.fh b o e
 .rw[<- q.out b (nF e)];exact a.nw b o e
theorem KO.hide{F:Hp}{t:T}{Q:VK}(fh:zz F H)(Y:Lz X G H WY)(k:KO K F H t Q):KO K F WY t λv H2=>Q v (jM X H2):=λv H2 F2 S st o hs=>by
 have q:∀b,S b->¬ bI X b:=λb z ⟨x,hx⟩=>by obtain⟨ob,_,e,_⟩:=Y.Mk x b hx;rw[(hs b z).2.1]at e;cases e
 refine k v _ F2 S (Hc.hide fh Y st) (o.step (zz.refl _) λb u z e=>by rw[cj (q b z)];exact e) λb z=>?_
 obtain⟨h1,h2,u,h3,h4⟩:=hs b z;exact⟨h1,by rw[<- Y.out b (q b z)];exact h2,u,by rw[cj (q b z)];exact h3,h4⟩
end
section
variable{X:Cx}{e0:Jc}{p p1 p2 pos:Pos}{x n1 n2 q1 q2:Str}{IN IP:LH}{IQ IR:Z Jb}{KJ KM:Jd}{N1 ps1 fr1 N2 ps2 fr2:Z Str}{MW MX:Z Nat}{g1 g2:De->C Hj}{k kk i1 i2:Nat}{ps:Z Str}{FR:Jz->Dt->J9->J9->Hp->C T}{f0:De->C Dt}
def xl(X:Cx)(i1 i2:Nat)(n1 n2 q1 q2:Str)(IN IP:LH)(IQ IR:Z Jb)(KJ KM:Jd)(G:St)(H:Hp)(f1 f2:J9):Prop:=G[i1]?=O (O (.ref f1))/\G[i2]?=O (O (.ref f2))/\f1≠f2/\NS H f1 n1 q1 IN IQ KJ (gh KJ.names X.env.cells)/\NS H f2 n2 q2 IP IR KM (gh KM.names X.env.cells)
def Z4(X:Cx)(i1 i2:Nat)(n1 n2 q1 q2:Str)(IN IP:LH)(IQ IR:Z Jb)(KJ KM:Jd)(N1 N2:Z Str)(MW MX:Z Nat)(g1 g2:De->C Hj)(f0:De->C Dt)(FR:Jz->Dt->J9->J9->Hp->C T):TE:=λG H Q=>∃ Φ J F f1 f2 d0 Y q t,Fm.K Φ=X.K/\En Φ J G F H/\xl X i1 i2 n1 n2 q1 q2 IN IP IQ IR KJ KM G H f1 f2/\f0 J=O d0/\fQ J MW=O Y/\fQ J MX=O q/\(∀F0,FR (uX f1 f2 F0 (gC N1.length g1 Y) (gC N2.length g2 q)) d0 f1 f2 F0=O t)/\KO X.K F H t Q
theorem BM (F:G9 X.prog X.w X.K X.mg X.base x k ps (UN X.prog X.w X.K X.mg X.base (kk+1) FR)) (hr:Hh k X.A) (hg:Gl X x) (NJ:∀ x,X.fn x=D) (h0:DL X e0 f0) (hv1:PE X (.Name n1 p1) (gd i1)) (hv2:PE X (.Name n2 p2) (gd i2))
  (D1:JC X n1 q1 IN IQ KJ N1 ps1 fr1 MW g1 kk) (D2:JC X n2 q2 IP IR KM N2 ps2 fr2 MX g2 kk) (ha1:∀x∈KJ.names,x.2=.free->x.1∈fr1) (ha2:∀x∈KM.names,x.2=.free->x.1∈fr2) (hdb:(x==("__debug__":Str))=ξ:=by decide)
  (s0:G7 [e0,.Name n1 p1,.Name n2 p2] X.env=(ξ,eval e0 X.env)::G7 [.Name n1 p1,.Name n2 p2] X.env:=by rfl) (s1:G7 [.Name n1 p1,.Name n2 p2] X.env=(ξ,eval (.Name n1 p1) X.env)::G7 [.Name n2 p2] X.env:=by rfl) (s2:G7 [.Name n2 p2] X.env=(ξ,eval (.Name n2 p2) X.env)::G7 [] X.env:=by rfl)
  (MN:(IK pos (G7 [.Name n1 p1,.Name n2 p2] X.env)).any (·.1)=ξ:=by rfl) :
  PE X (.Call (.Name x p) [e0,.Name n1 p1,.Name n2 p2] [] pos) (Z4 X i1 i2 n1 n2 q1 q2 IN IP IQ IR KJ KM N1 N2 MW MX g1 g2 f0 FR):=by
 obtain⟨f,fd,hm,hk,hb,FF⟩:=F.ex;intro J1 s G H Q I h;refine(xi FF hr hg hm hk hb NJ (bM h0 (bM hv1 (bM hv2 dN s2) s1) s0) hdb s0 MN) J1 s G H Q I ?_;obtain⟨Φ,J,F,f1,f2,d0,Y,WZ,t,hK,en,⟨v1,v2,JB,fi1,fi2⟩,hf0,hc1,NK,hrun,kq⟩:=h;refine⟨Φ,J,F,d0,hK,en,hf0,λv H1 F1 st r1=>⟨.ref f1,v1,.ref f2,v2,λH' pc=>?_⟩⟩
 have up1:∀b o,H1 b=O o->H' b=O o:=λb o z=>by rw[pc.out b λy=>by rw[pc.Q8 b y]at z;cases z];exact z
 have up:∀b o u,H b=O (.Ii o u)->H' b=O (.Ii o u):=λb o u z=>up1 _ _ (st.hh _ _ z)
 obtain⟨fs1,rc1,UO,WT⟩:=k6 en hc1;obtain⟨fs2,UP,P9,Nu⟩:=k6 en NK;rw[hK]at rc1 UP;have q:∀x,X.env.kindOf x=O .cell->∃c,X.env.cells.lookup x=O c:=λx hx=>I.ok.has x (.inl hx)
 obtain⟨c1',doc1,pm1,W0,fo1,uf1,C1⟩:=D1.at I.ok.inj q pc (fi1.up up) UO WT ha1
 obtain⟨c2',W2,pm2,W3,fo2,uf2,C2⟩:=D2.at I.ok.inj q pc (fi2.up up) P9 Nu ha2
 refine⟨uX f1 f2 F1 (gC N1.length g1 Y) (gC N2.length g2 WZ),F1,d0,f1,f2,t,v,λf F0 ds t hG=>?_,λb o z=>up1 b o (st.fh b o z),rfl,r1,hrun F1,λv' H2 F2 S JA o hs _=>KO.hide st.fh pc (kq.step st) v' H2 F2 S JA o hs⟩;unfold uX at hG;split at hG
 .rename_i hh;obtain⟨rfl,rfl,hd⟩:=hh;refine⟨⟨fo1,uf1,_,C1.fn,C1.dat⟩,λA outer s H2 F2 us vs Q2 Qj hp e0 h0 fh r rd kq2=>?_⟩;exact tu D1.S D1.NN C1 (rc1.same st.ff) (λs us hu=>D1.bd s _ _ _ _ _ us hu) (λA outer s H hr=>D1.body _ _ _ A outer s H hr) (by rw[hd,D1.one]) hG A outer s H2 F2 us vs Q2 Qj hp e0 h0 fh r rd kq2
 .split at hG
  .rename_i hh;obtain⟨rfl,rfl,hd⟩:=hh;refine⟨⟨fo2,uf2,_,C2.fn,C2.dat⟩,λA outer s H2 F2 us vs Q2 Qj hp e0 h0 fh r rd kq2=>?_⟩;exact tu D2.S D2.NN C2 (UP.same st.ff) (λs us hu=>D2.bd s _ _ _ _ _ us hu) (λA outer s H hr=>D2.body _ _ _ A outer s H hr) (by rw[hd,D2.one]) hG A outer s H2 F2 us vs Q2 Qj hp e0 h0 fh r rd kq2
  .cases hG
end
def tI(i:Nat)(name qual:Str)(params:LH)(body:Z Jb)(scope:Jd)(Jl:Z (Str×J9)):TS:=λθ G H=>∀(f c':J9)(doc pm IM:Value)(H':Hp),Q7 H H' f c' qual {cls:=.type "function",data:=.func (NI name qual params body scope Jl .none .none doc pm V (.ref c') IM)}->θ.nx (G.set i (O (.ref f))) H'
section
variable{X:Cx}{c P:J9}{qs:Z ((Nat×Nat)×Str)}{name qual:Str}{params:LH}{body:Z Jb}{scope:Jd}{Jl:Z (Str×J9)}{pos:Pos}{i:Nat}
theorem Ao (hN:X.N.Nodup) (hi:X.N[i]?=O name) (hx:P0 X.env.scope name) (NJ:X.fn name=D∨X.env.scope.names.lookup name=O .local) (B:Ll X.mg X.base c P) (Y:X.env.code=.ref c) (hT:(P,qs)∈c6 X.K) (WL:qualnameIn X.env name name=qual) (hq:((pos.line,pos.col),qual)∈qs) (WB:∀ q,((pos.line,pos.col),q)∈qs->q=qual) (Qe:VN scope X.env=pure Jl)
  (NQ:params.defaults=[]) (WM:params.kw_defaults=[]) (ha:annTrees params V X.env=[]):PS X (.FunctionDef name params body [] V [] scope V name pos) (tI i name qual params body scope Jl):=λJ1 s G H θ I h=>
 Dw hN hi hx NJ B Y WL hq WB Qe NQ WM ha J1 s G H θ I ⟨I.base.Ni _ _ (I.ok.tb _ hT),h⟩
end
section
variable{X:Cx}{e0:Jc}{pos:Pos}{n1 n2 q1 q2:Str}{IN IP:LH}{IQ IR:Z Jb}{KJ KM:Jd}{N1 N2:Z Str}{MW MX:Z Nat}{g1 g2:De->C Hj}{i1 i2:Nat}{FR:Jz->Dt->J9->J9->Hp->C T}{f0:De->C Dt}{K:Hk}
def W4(X:Cx)(i1 i2:Nat)(n1 n2 q1 q2:Str)(IN IP:LH)(IQ IR:Z Jb)(KJ KM:Jd)(g:De->C Hj):TS:=λθ G H=>∃ Φ J F f1 f2 o,Fm.K Φ=X.K/\En Φ J G F H/\xl X i1 i2 n1 n2 q1 q2 IN IP IQ IR KJ KM G H f1 f2/\g J=O o/\MT Φ θ o
theorem En.clear{F:Hp}(e:En Φ J G F H)(i:Nat)(v:ψ):En Φ (J.set i V) (G.set i (O v)) F H:=by
 obtain⟨S,s⟩:=e.sep;refine⟨e.fh,e.IY,e.old,e.nw,by simp[e.len],λj t h=>?_,S,λj t u h=>?_,s.out,s.OJ⟩
 .rcases cZ h with ⟨_,z⟩|⟨q,z⟩
  .cases z
  .obtain⟨w,Y⟩:=e.has j t z;exact⟨w,by rw[gN q];exact Y⟩
 .obtain⟨h1,h2⟩:=c9 h;rcases cZ h1 with ⟨_,z⟩|⟨q,z⟩
  .cases z
  .rw[gN q]at h2;exact s.own j t u (bF z h2)
noncomputable def oI(i1 i2:Nat)(J:De):De:=(J.set i1 V).set i2 V
theorem p6{ss:Z Jb}{g:De->C Hj}(JB:i1≠i2)(UO:∀ G:St,G.length=X.N.length->i1<G.length/\i2<G.length)
 (h1:PS X (.FunctionDef n1 IN IQ [] V [] KJ V n1 p1) (tI i1 n1 q1 IN IQ KJ (gh KJ.names X.env.cells))) (h2:PS X (.FunctionDef n2 IP IR [] V [] KM V n2 p2) (tI i2 n2 q2 IP IR KM (gh KM.names X.env.cells)))
 (hs:Kq X ss (W4 X i1 i2 n1 n2 q1 q2 IN IP IQ IR KJ KM g)) :
  DS X (.FunctionDef n1 IN IQ [] V [] KJ V n1 p1::.FunctionDef n2 IP IR [] V [] KM V n2 p2::ss) λJ=>g (oI i1 i2 J):=by
 intro J1 s G H θ I h;refine iD h1 (iD h2 hs) J1 s G H θ I ?_;obtain⟨Φ,J,F,o,hK,en,hg,k⟩:=h;obtain⟨l1,l2⟩:=UO G I.len;intro f1 c1 Y pm1 W0 H1 M1 f2 c2 W2 pm2 W3 H2 q
 have hf:f1≠f2:=λz=>by have:=q.free;rw[<- z,M1.fn]at this;cases this
 have sm:zz H H2:=λb o e=>q.old b o (M1.old b o e)
 refine⟨Φ,oI i1 i2 J,F,f1,f2,o,hK,((en.step ⟨sm,zz.refl _,en.fh.trans sm,λ_ _ e=>.inl e⟩).clear i1 (.ref f1)).clear i2 (.ref f2),⟨?_,?_,hf,?_,?_⟩,hg,k⟩
 .rw[gN (L1 JB)];exact PF l1
 .exact PF (by simpa using l2)
 .obtain⟨oc,hc⟩:=M1.Sa;exact⟨_,_,c1,Y,pm1,W0,q.old _ _ M1.fn,rfl,oc,q.old _ _ hc⟩
 .obtain⟨oc,hc⟩:=q.Sa;exact⟨_,_,c2,W2,pm2,W3,q.fn,rfl,oc,hc⟩
def DN(N1 N2:Z Str)(g1 g2:De->C Hj)(FR:Jz->Dt->J9->J9->Hp->C T)(d0:Dt)(q Y:Z Dt)(r:T):Prop:=∀f1 f2 F0,f1≠f2->FR (uX f1 f2 F0 (gC N1.length g1 q) (gC N2.length g2 Y)) d0 f1 f2 F0=O r
open Classical in
def Rf(MW MX:Z Nat)(N1 N2:Z Str)(g1 g2:De->C Hj)(f0:De->C Dt)(FR:Jz->Dt->J9->J9->Hp->C T):De->C T:=λJ=>(f0 J).bind λd=>(fQ J MW).bind λa=>(fQ J MX).bind λb=>if h:∃r,DN N1 N2 g1 g2 FR d a b r then O h.choose else V
theorem xm{d0:Dt}{a b:Z Dt}{r:T}(Y:f0 J=O d0)(ha:fQ J MW=O a)(hb:fQ J MX=O b)(h:DN N1 N2 g1 g2 FR d0 a b r):Rf MW MX N1 N2 g1 g2 f0 FR J=O r:=by
 have q:∃r,DN N1 N2 g1 g2 FR d0 a b r:=⟨r,h⟩
 have e:q.choose=r:=by have h1:=q.choose_spec 0 1 (λ_=>V) Ω;have h2:=h 0 1 (λ_=>V) Ω;exact L3 (h1.symm.trans h2)
 unfold Rf;rw[Y,ha,hb];simp only[Im];rw[dif_pos q,e]
theorem xn {F:Hp} {t:T} {Q:VK} (hK:Φ.K=X.K) (en:En Φ J G F H) (fs:xl X i1 i2 n1 n2 q1 q2 IN IP IQ IR KJ KM G H f1 f2) (h:Rf MW MX N1 N2 g1 g2 f0 FR J=O t) (k:KO X.K F H t Q) :
  Z4 X i1 i2 n1 n2 q1 q2 IN IP IQ IR KJ KM N1 N2 MW MX g1 g2 f0 FR G H Q:=by
 unfold Rf at h;obtain⟨d0,q,h⟩:=bS h;obtain⟨a,ha,h⟩:=bS h;obtain⟨b,hb,h⟩:=bS h;split at h
 .rename_i Y;cases h;exact⟨Φ,J,F,f1,f2,d0,a,b,_,hK,en,fs,q,ha,hb,λF0=>Y.choose_spec f1 f2 F0 fs.2.2.1,k⟩
 .cases h
theorem Ap(he:PE X e (Z4 X i1 i2 n1 n2 q1 q2 IN IP IQ IR KJ KM N1 N2 MW MX g1 g2 f0 FR)):PS X (.Return (O e) pos) (W4 X i1 i2 n1 n2 q1 q2 IN IP IQ IR KJ KM (az (Rf MW MX N1 N2 g1 g2 f0 FR))):=PS.mono (nQ he) λθ G H ⟨Φ,J,F,f1,f2,o,q,en,fs,hg,k⟩=>by obtain⟨t,Y,rfl⟩:=mS hg;exact xn q en fs Y λv H' F' S st o hs=>k v F' H' (en.rt st (q▸o) hs)
theorem Aq(h:dl sc N i x=D)(hl:ip sc x=D)(nd:N.Nodup)(he:PE X e (Z4 X i1 i2 n1 n2 q1 q2 IN IP IQ IR KJ KM N1 N2 MW MX g1 g2 f0 FR))(e1:bT X sc:=by rfl)(e2:X.N=N:=by rfl)(hf:X.fn x=D∨X.env.scope.names.lookup x=O .local:=by exact .inl rfl)
 (q:Mu e (O (.Name x pos')) pos.line X.env=pure ξ:=by rfl):PS X (.Assign [.Name x pos'] e pos) (W4 X i1 i2 n1 n2 q1 q2 IN IP IQ IR KJ KM (ar i (Rf MW MX N1 N2 g1 g2 f0 FR))):=PS.mono (oj h hl nd he e1 e2 hf q) λθ G H ⟨Φ,J,F,f1,f2,o,Y,en,fs,hg,k⟩=>by
 obtain⟨t,ht,rfl⟩:=mS hg;exact xn Y en fs ht λv H' F' S st o q=>k _ F' H' (en.put st (Y▸o) q i)
theorem xp{st:Jb}{Hg:Z Jb}{ga gb:De->C Hj}(h1:PS X st (W4 X i1 i2 n1 n2 q1 q2 IN IP IQ IR KJ KM ga))(h2:DS X Hg gb):Kq X (st::Hg) (W4 X i1 i2 n1 n2 q1 q2 IN IP IQ IR KJ KM (aj ga gb)):=Kq.mono (iD h1 h2) λθ G H ⟨Φ,J,F,f1,f2,o,hK,en,fs,q,k⟩=>by
 unfold aj at q;obtain⟨o1,h1,q⟩:=bS q;refine⟨Φ,J,F,f1,f2,o1,hK,en,fs,h1,?_⟩;cases o1 with
 |nx Y=>exactλJF F' H' Kx=>⟨Φ,Y,F',o,hK,Kx,q,k⟩
 |rt t=>cases q;exact k
 |bk Y=>cases q;exact k
 |ct Y=>cases q;exact k
end
def rE(mg:Str->C Value)(base:Heap):Prop:=∃q ob,mg "__builtins__"=O (.ref q)/\q≠RL/\base.get? q=O ob/\ob.cls=.type "module"/\ob.dict=O RL/\ob.data=.plain
theorem Ll.mk'{base:Heap}{c P:J9}(q:K.In base)(h:QS K c P=D)(b:rE mg base):Ll mg base c P:=⟨ZI q h,b⟩
def tJ(H:Hp):Prop:=∀b,H b=V∨(∃o xs,H b=O (.Ii o (.e xs)))∨∃qs,H b=O (.Jx qs)
def ig(K:Hk):Hp:=λb=>((c6 K).find? λp=>p.1==b).map λp=>.Jx p.2
theorem fR{b:J9}{u:HO}(h:ig K b=O u):∃p∈c6 K,p.1=b/\u=.Jx p.2:=by obtain⟨p,hp,rfl⟩:=mS h;exact⟨p,qz7 hp,by simpa using List.find?_some hp,rfl⟩
theorem xq(Y:∀p∈c6 K,∀q∈c6 K,p.1=q.1->p=q){p:J9×Z ((Nat×Nat)×Str)}(hp:p∈c6 K):ig K p.1=O (.Jx p.2):=by
 unfold ig;cases q:(c6 K).find? λx=>x.1==p.1 with
 |none=>have:=List.find?_eq_none.mp q p hp;simp at this
 |some r=>
  have h1:r.1=p.1:=by simpa using List.find?_some q
  rw[Y r (qz7 q) p hp h1];rfl
def IF(K:Hk)(h:Heap):Prop:=(∀p∈c6 K,K.lookup p.1=V/\(∃c,ZH h c p.1)/\h.get? p.1=O (QT #[]))/\∀p∈c6 K,∀q∈c6 K,p.1=q.1->p=q
theorem uZ{mb:Str->C Value}{CX:Ob}{fa:J9}{fd:Nd}{sp:Sp}{Ht:t2}{vs:Z Value}{ns:Z Int}
 (KX:K.In Ht.heap) (hns:Ht.heap.Ns ID mg) (hb:Ht.heap.Ns RL mb) (hbb:∀x:Str,x≠"__name__"->mb x=Kk x) (hlim:Ht.heap.NoLimit) (hg:Ht.gens=#[]) (hbm:rE mg Ht.heap) (hT:IF K Ht.heap)
 (ha:Ht.heap.get? a=O {cls:=.type "list",data:=.seq vs.toArray}) (hi:Uk vs ns) (hl:ns.length<=Hz) (hr:Hh k RN)
 (F:∀base:Heap,K.In base->base.Ns ID mg->rE mg base->JG P w K mg base CX k fa fd [x] sp) (W5:∀(s:t2)(u:Value),Pf s fd ⟨[u],[]⟩ [(x,u)])
 (QZ:∀H:Hp,tJ H->Io K H a (ns.map ψ.int)->sp [.ref a] H (λv _=>v=.bl D) λ_ _ _=>False)
 (hCX:∀H e s',CX [] H Ht (λ_ _ _=>False) e s'->False) :
  MF (model P w) RN (.call (.ref fa) ⟨[.ref a],[]⟩) (λr s'=>r=.ok (.ret (.bool D))/\OldK Ht.heap s'.heap/\s'.os=Ht.os/\PP s'.gens) Ht:=by
 have rv:=ml hi;have lenV:=hi.length;obtain⟨hT,hnd⟩:=hT
 have tb:∀{b:J9}{u:HO},ig K b=O u->Ht.heap.get? b=O (QT #[])/\K.lookup b=V/\∃c,ZH Ht.heap c b:=λ{b u} e=>by obtain⟨p,hp,rfl,_⟩:=fR e;obtain⟨h1,h2,h3⟩:=hT p hp;exact⟨h3,h1,h2⟩
 have taN:ig K a=V:=by
  cases q:ig K a with
  |none=>rfl
  |some u=>have:=(tb q).1;rw[ha]at this;cases this
 -- H: Oa script,if it is V of Oa OA own,and Oa tables
 have core:∀ H:Hp,Io K H a (ns.map ψ.int)->(∀ b,b≠a->H b=ig K b)->(H a=V∨(K.lookup a=V/\H a=O (.Ii {cls:=.type "list",data:=.seq vs.toArray} (.e (ns.map ψ.int)))))→
     MF (model P w) RN (.call (.ref fa) ⟨[.ref a],[]⟩) (λr s'=>r=.ok (.ret (.bool D))/\OldK Ht.heap s'.heap/\s'.os=Ht.os/\PP s'.gens) Ht:=by
  intro H hS hH hA
  have knd:∀{b:J9}{u:HO},H b=O u->(b=a/\K.lookup a=V/\u=.Ii {cls:=.type "list",data:=.seq vs.toArray} (.e (ns.map ψ.int)))∨(b≠a/\ig K b=O u):=λ{b u} e=>by
   by_cases hb:b=a
   .subst hb;rcases hA with z|⟨z1,z2⟩
    .rw[z]at e;cases e
    .rw[z2]at e;cases e;exact .inl ⟨rfl,z1,rfl⟩
   .rw[hH b hb]at e;exact .inr ⟨hb,e⟩
  have hO:tJ H:=λb=>by
   cases q:H b with
   |none=>exact .inl rfl
   |some u=>
    rcases knd q with ⟨_,_,rfl⟩|⟨_,z⟩
    .exact .inr (.inl ⟨_,_,rfl⟩)
    .obtain⟨p,_,_,rfl⟩:=fR z;exact .inr (.inr ⟨_,rfl⟩)
  have Hm:Jj P w H Ht.heap:=λb u e=>by
   rcases knd e with ⟨rfl,_,rfl⟩|⟨_,z⟩
   .exact⟨ha,by rw[Hl];exact hl,vs,_,rv,ha⟩
   .obtain⟨p,_,_,rfl⟩:=fR z;refine⟨#[],(tb z).1,trivial,λpos q v _ h=>?_⟩;cases h
  have Y:∀{b:J9}{o:Obj},Ht.heap.get? b=O o->H b=V->(lV Ht.heap H).get? b=O o:=λe n=>vE e n
  have noH:∀{b:J9}{o:Obj},Ht.heap.get? b=O o->o.data≠.seq vs.toArray->o≠QT #[]->H b=V:=λ{b o} e d1 d2=>by
   cases q:H b with
   |none=>rfl
   |some u=>
    rcases knd q with ⟨rfl,_,rfl⟩|⟨_,z⟩
    .rw[ha]at e;cases e;exact absurd rfl d1
    .have:=(tb z).1;rw[e]at this;cases this;exact absurd rfl d2
  have Z5:∀{b:J9}{m:Str->C Value},Ht.heap.Ns b m->(lV Ht.heap H).Ns b m:=λ{b m}⟨o,es,ep,e,d,r⟩=>⟨o,es,ep,Y e (noH e (by rw[d];intro z;cases z) (λz=>by rw[z]at d;cases d)),d,r⟩
  have hKb:K.In (lV Ht.heap H):=λb o e=>Y (KX b o e) (by
   cases q:H b with
   |none=>rfl
   |some u=>
    rcases knd q with ⟨rfl,z,_⟩|⟨_,z⟩
    .rw[z]at e;cases e
    .rw[(tb z).2.1]at e;cases e)
  have hbmB:rE mg (lV Ht.heap H):=by obtain⟨bm,ob,b1,b2,b3,b4,b5,b6⟩:=hbm;exact⟨bm,ob,b1,b2,Y b3 (noH b3 (by rw[b6];intro z;cases z) λz=>by rw[z]at b4;cases b4),b4,b5,b6⟩
  have hM:Mod K mg (lV Ht.heap H):=⟨hKb,Z5 hns,⟨mb,Z5 hb,hbb⟩,let ⟨mc,h1,h2⟩:=hlim;⟨mc,Z5 h1,h2⟩⟩
  have e0:LK P w K mg (lV Ht.heap H) RN [] Ht H:=⟨rfl,hM,λb o e=>zi e,Nat.le_of_eq (uo _ _),trivial,λb hb=>absurd (show b∈([]:Z J9)from hb) Ξ,Hm,.of_eq hg,λp hp=>by have h:=xq hnd hp;rw[hH p.1 λz=>by rw[z,taN]at h;cases h];exact h⟩
  refine RI ((F _ hKb (Z5 hns) hbmB).run RN [] Ht H ⟨[.ref a],[]⟩ [.ref a] [.ref a] _ _ hr e0 (W5 Ht (.ref a)) (.cons rfl .nil) (QZ H hO hS)) λr s' h=>?_
  cases r with
  |error e=>exact(hCX H e s' h).elim
  |ok fl=>
   cases fl with
   |next=>exact KP h
   |brk=>exact KP h
   |cont=>exact KP h
   |ret u=>
    obtain⟨v,H',os,bare,un,W6,r',q⟩:=h;have q':v=.bl D:=q;subst q';obtain rfl:u=PY D:=r';refine⟨rfl,⟨λb o e=>?_,λb o e=>un.there b o e Ξ⟩,os,bare⟩;cases q:H b with
    |none=>exact .inl (un.keep b o e q (by intro z;exact absurd (show b∈([]:Z J9)from z) Ξ) Ξ)
    |some u=>
     rcases knd q with ⟨rfl,_,rfl⟩|⟨_,z⟩
     .have z2:=un.JV b _ _ q;obtain⟨e1,_⟩:=Hm b _ q;obtain⟨e2,_⟩:=W6 b _ z2;rw[e]at e1;cases e1
      exact .inl e2
     .obtain⟨g1,_,c,g2⟩:=tb z;obtain⟨p,_,_,rfl⟩:=fR z;obtain⟨ps,g3,_⟩:=W6 b _ (un.Ni b _ q);rw[e]at g1;cases g1;refine .inr (.inl ⟨(g2.tab e).isCodeTable,rfl,#[],ps,rfl,?_⟩);rw[g3];simp[QT]
 cases hk:K.lookup a with
 |some o=>have e:=KX a o hk;rw[ha]at e;cases e;exact core (ig K) (.inr ⟨_,vs.toArray,_,hk,rfl,rfl,rfl,by rw[JE,lenV];exact hl,by simpa using rv⟩) (λ_ _=>rfl) (.inl taN)
 |none=>exact core (λb=>if b=a then O (.Ii {cls:=.type "list",data:=.seq vs.toArray} (.e (ns.map ψ.int)))else ig K b) (.inl (.inr ⟨{cls:=.type "list",data:=.seq vs.toArray},if_pos rfl⟩)) (λb hb=>if_neg hb) (.inr ⟨hk,if_pos rfl⟩)
theorem Gu{l:PySem.W.OpenLaw}{q:HL}{loose:Z Str}{XP:(Str->C Value)->Heap->Prop}{YP:Ja->Heap->Prop}{d:DefRec}{K:Params->Hk}{CX:Ja->Ob}{sp:Ja->Sp} 
 (hn:l.most=O n) (hn2:n<=Hz) (hdf:d.params.defaults=[]) (hr:Hh k RN)
 (hY:∀(w:Ja)(h:Heap),YP w h->(K w.params).In h) (hT:∀(w:Ja)(h:Heap),YP w h->IF (K w.params) h)
 (F:∀(w:Ja)(mg:Str->C Value)(fa:J9)(h:Heap),(K w.params).In h->h.Ns ID mg->mg d.name=O (.ref fa)→
 ∃fd:Nd,(∀(s:t2)(u:Value),Pf s fd ⟨[u],[]⟩ [(x,u)])∧
 ∀base:Heap,(K w.params).In base->base.Ns ID mg->rE mg base->JG l.prog w (K w.params) mg base (CX w) k fa fd [x] (sp w))
 (QZ:∀(w:Ja)(H:Hp)(a:J9)(ns:Z Int),ns.length<=n->tJ H->Io (K w.params) H a (ns.map ψ.int)->sp w [.ref a] H (λv _=>v=.bl D) λ_ _ _=>False)
 (hCX:∀(w:Ja)(H:Hp)(s:t2)(e:Value)(s':t2),CX w [] H s (λ_ _ _=>False) e s'->False) :
  PySem.W.WalkO q loose XP YP l.row.toRowW d [] (λf vs=>PySem.call f vs):=by
 refine Att.Bz hn hdf λw s₀ Ht mg mb fa o pm cd doc a vs ns σ Y ho hd Pl Wt R6 hints hlen hg=>?_
 have KX:=hY w _ Y;obtain⟨fd,hb,hF⟩:=F w mg fa _ KX σ.T.g Wt;exact uZ KX σ.T.g σ.T.b σ.T.builtins σ.T.nolimit hg σ.T.bmain (hT w _ Y) R6 hints (Iw hlen hn2) hr hF hb (λH hO hS=>QZ w H a ns hlen hO hS) λH e s'=>hCX w H Ht e s'
noncomputable def Ar(lo st:Int)(n:Nat):It:=⟨λi _=>i<n,λi H x H'=>H'=H/\x=.int (lo+i*st),λi _=>n<=i⟩
theorem p7{w:Ja}{tg:Jc}(it:J9)(lo st:Int)(n:Nat):Mg P w K tg (Ar lo st n) [it] it (λi h=>Zl h it (lo+(i:Nat)*st) ((n:Int)-(i:Nat)) st) where
 mem:=by simp
 obj:=λi h q b Y=>by
  have e:b=it:=by simpa using Y
  subst e
  exact⟨_,q,λv z=>by have z':Data.fields _=Data.cell v:=z;cases z'⟩
 keep:=λi h h' q k=>k it Ξ _ q
 item:=by
  intro X hP hw hK hc i J1 s G H E I hf q hg;subst hP hw hK;obtain⟨f0,f1,f2,f3,f4,f5⟩:=hf it Ξ;have W:=Walks.range (prog:=X.prog) (w:=X.w) (I.ok.hd hc) it lo st n;refine W.item i s _ _ hg q λv h' tk hv q' kk=>?_
  obtain⟨t,rfl⟩:=hv;have I1:nC X J1 G H {s with heap:=h',toks:=tk}:=I.turned (λb o Y e=>kk b o (by simpa using Y) e) f0 f1 f3 f4 f5;exact⟨_,rfl,me (s:={s with heap:=h',toks:=tk}) (n:="range_iterator") q' rfl rfl Ω ⟨.int (lo+i*st),H,I1,⟨t,rfl⟩,⟨rfl,rfl⟩,q',λb Y=>(hf b Y).1⟩⟩
 done:=by intro X hP hw hK hc i J1 s G H E I hf q hg;subst hP hw hK;obtain⟨f0,f1,f2,f3,f4,f5⟩:=hf it Ξ;exact zd6 (I.ok.hd hc) q (by have:n<=i:=hg;lia) λh' eb=>⟨rfl,I.turned (t':=s.toks) (λb o Y e=>eb b o Y e) f0 f1 f3 f4 f5⟩
 self:=λ_ _ _ _ _ q h=>zd7 q h
noncomputable def xr(a b c:Int):Bool:=decide (-1000000<=a)&&decide (a<=1000000)&&decide (-1000000<=b)&&decide (b<=1000000)&&decide (-1000000<=c)&&decide (c<=1000000)&&decide (c≠0)
structure R3(a b c:Int):Prop where
 a0:-1000000<=a
 a1:a<=1000000
 b0:-1000000<=b
 b1:b<=1000000
 c0:-1000000<=c
 c1:c<=1000000
 c:c≠0
variable{c:Int}
theorem Gv{a b:Int}(h:xr a b c=D):R3 a b c:=by unfold xr at h;simp only[IH,decide_eq_true_eq]at h;obtain⟨⟨⟨⟨⟨⟨h1,h2⟩,h3⟩,q⟩,h5⟩,h6⟩,Y⟩:=h;exact⟨h1,h2,h3,q,h5,h6,Y⟩
theorem R3.size{a b:Int}(h:R3 a b c):0<=Nf a b c/\Nf a b c<=2000001:=by
 obtain⟨h1,h2,h3,h4,h5,h6,h7⟩:=h;unfold Nf;split
 .rename_i hc;split
  .have Y:0<=(b-a-1)/c:=Int.ediv_nonneg Θ Θ;have q:(b-a-1)/c<=b-a-1:=Int.ediv_le_self _ Θ;lia
  .lia
 .split
  .have Y:0<=(a-b-1) / -c:=Int.ediv_nonneg Θ Θ;have q:(a-b-1) / -c<=a-b-1:=Int.ediv_le_self _ Θ;lia
  .lia
theorem fits{a:Int}(q:-9000000<=a)(h1:a<=9000000):qx6 a=D:=by unfold qx6;simp;lia
theorem R3.small{a b:Int}(h:R3 a b c):JR.Range.small a b c=D:=by
 have hs:=h.size;obtain⟨h1,h2,h3,q,h5,h6,Y⟩:=h;unfold JR.Range.small;rw[fits (a:=a) Θ Θ,fits (a:=b) Θ Θ,fits (a:=c) Θ Θ,fits (a:=Nf a b c) Θ Θ];simp only[YT,RB,O9];right;split
 .exact fits Θ Θ
 .exact fits Θ Θ
section
variable{X:Cx}{tg:Jc}
theorem u0{R:It->Hp->Prop}{a b:Int}{t u v:Tok}{tk:Nat}(I:nC X J1 G H s)(h:R3 a b c)
 (q:R (Ar a c (Nf a b c).toNat) H):wpAny (model X.prog X.w) X.A (PV (.ref s.heap.objs.size)) (PIE X J1 G tg R) E {s with heap:=s.heap.push {cls:=.type "range",data:=.fields #[.int a t,.int b u,.int c v]},toks:=tk}:=by
 refine wpAny_pyIter_range (IsRange.new ..) h.small ?_;have Y:nC X J1 G H {s with heap:=s.heap.push {cls:=.type "range",data:=.fields #[.int a t,.int b u,.int c v]},toks:=tk}:=I.kept λb o e=>gP _ e
 refine⟨(s.heap.push {cls:=.type "range",data:=.fields #[.int a t,.int b u,.int c v]}).objs.size,[(s.heap.push {cls:=.type "range",data:=.fields #[.int a t,.int b u,.int c v]}).objs.size],_,_,H,rfl,Y.kept (t':=tk) λb o e=>gP _ e,p7 _ a c (Nf a b c).toNat,?_,λbb hb=>?_,q⟩
 .have e1:a+((0:Nat):Int)*c=a:=by simp
  have e2:(((Nf a b c).toNat:Nat):Int)-((0:Nat):Int)=Nf a b c:=by have:=h.size;lia
  show Zl _ _ (a+((0:Nat):Int)*c) ((((Nf a b c).toNat:Nat):Int)-((0:Nat):Int)) c;rw[e1,e2];exact Ji _ rfl
 .have e:bb=(s.heap.push {cls:=.type "range",data:=.fields #[.int a t,.int b u,.int c v]}).objs.size:=by simpa using hb
  subst e;exact Y.Mf (HG _) (Y.Hm.fresh (HG _))
def Gw(ta:TA):TI:=λG H R=>ta G H λvs H1=>∃a b c:Int,vs=[.int a,.int b,.int c]/\R3 a b c/\R (Ar a c (Nf a b c).toNat) H1
theorem u1 {a b c:Jc} {p:Pos} (hg:Gl X "range") (hm:X.mg "range"=V) (ha:PA X [a,b,c] ta) (hs:G7 [a,b,c] X.env=[(ξ,eval a X.env),(ξ,eval b X.env),(ξ,eval c X.env)]:=by rfl) (Nu:G7 [b,c] X.env=[(ξ,eval b X.env),(ξ,eval c X.env)]:=by rfl) :
  PI X tg (.Call (.Name "range" p) [a,b,c] [] pos) (Gw ta):=by
 intro J1 s G H R I h;refine Call_ (fK I hg hm boot_range (RG (Hx (ha pos J1 s G H _ I h) λus s1 ⟨vs,H1,I1,r1,q1⟩=>?_) (by rw[hs,Nu]) (by rw[Nu];rfl)));obtain⟨i,j,k,e,q0,q⟩:=q1;subst e;cases r1 with
 |cons r Y=>
  cases Y with
  |cons r' Y=>
   cases Y with
   |cons r'' Y=>cases Y;obtain⟨t,rfl⟩:=r;obtain⟨t',rfl⟩:=r';obtain⟨t'',rfl⟩:=r'';refine call_range_3 q0.c (u0 I1 q0 q) (.inl (PyProof.noPylong_small ?_));have:=q0.c0;have:=q0.c1;lia
noncomputable def iX(lo st:Int)(n:Nat):Z ψ:=(HQ n).map λ(i:Nat)=>ψ.int (lo+i*st)
theorem LQ{lo st:Int}:KW (Ar lo st n) (iX lo st n) (λ_=>True):=λi H h=>by
 refine⟨λhi=>?_,λe=>?_,λx H' hi y=>?_⟩
 .show i<n;simpa[iX] using hi
 .show n<=i;simp[iX]at e;lia
 .obtain⟨e,rfl⟩:=y;refine⟨e,?_⟩;unfold iX at hi ⊢;rw[Hl,RC]at hi;rw[Je,List.getElem?_range hi];rfl
noncomputable def rF(lo st:Int)(n:Nat):Z Dt:=(HQ n).map λ(i:Nat)=>.int (lo+i*st)
theorem p8{F:Hp}(lo st:Int)(n:Nat):hX K F (rF lo st n) (iX lo st n):=hX.map (λ_=>fN) _
def u2:Z Dt->C (Z Dt)
 |[.int a,.int b,.int c]=>if xr a b c then O (rF a c (Nf a b c).toNat)else V
 |_=>V
variable{p pos:Pos}{sc:Jd}{x y z:Jc}{fs:De->C (Z Dt)}
theorem u3 (h:aw sc "range"=D) (hm:X.mg "range"=V) (ha:DA X [x,y,z] fs) (e1:bT X sc:=by rfl) (hs:G7 [x,y,z] X.env=[(ξ,eval x X.env),(ξ,eval y X.env),(ξ,eval z X.env)]:=by rfl) (Y:G7 [y,z] X.env=[(ξ,eval y X.env),(ξ,eval z X.env)]:=by rfl) :
  LP X tg (.Call (.Name "range" p) [x,y,z] [] pos) (cH u2 fs):=
 PI.mono (u1 (NO h e1) hm ha.pa hs Y) λG H R ⟨Φ,J,F,ds,hK,en,q,k⟩=>by
  unfold cH at q;obtain⟨as,hd,q⟩:=bS q;refine⟨Φ,J,F,as,hK,en,hd,λvs H' F' st r=>?_⟩;unfold u2 at q;split at q
  .rename_i i j l;split at q
   .rename_i hj;cases q;simp only[hX,G3]at r;obtain⟨v,ws,rfl,rfl,w,us,rfl,rfl,w',us',rfl,rfl,rfl⟩:=r;exact⟨i,j,l,rfl,Gv hj,k _ _ H' F' st (LQ.walk (p8 _ _ _)) λ_ _=>trivial⟩
   .cases q
  .cases q
end
theorem tK:∀a b:Z Nat,ltCps a b=ξ->ltCps b a=ξ->a=b
 |[],[],_,_=>rfl
 |[],_::_,h,_=>by simp[ltCps]at h
 |_::_,[],_,h=>by simp[ltCps]at h
 |x::r,y::t,h,h'=>by
  simp only[ltCps,qw3,decide_eq_false_iff_not,qv2,beq_iff_eq]at h h';have e:x=y:=by lia
  subst e;rw[tK r t (h.2 rfl) (h'.2 rfl)]
theorem tM:∀a b:Z Nat,ltCps a b=D->ltCps b a=ξ
 |[],[],h=>by simp[ltCps]at h
 |[],_::_,_=>rfl
 |_::_,[],h=>by simp[ltCps]at h
 |x::r,y::t,h=>by
  simp only[ltCps,O9,decide_eq_true_eq,IH,beq_iff_eq]at h;simp only[ltCps,qw3,decide_eq_false_iff_not,qv2,beq_iff_eq];rcases h with h|⟨rfl,h⟩
  .exact⟨Θ,λe=>Θ⟩
  .exact⟨Θ,λ_=>tM r t h⟩
theorem mO:∀a b c:Z Nat,ltCps b a=ξ->ltCps c b=ξ->ltCps c a=ξ
 |[],b,c,h1,h2=>by
  cases b with
  |nil=>exact h2
  |cons y t=>
   cases c with
   |nil=>simp[ltCps]at h2
   |cons z u=>rfl
 |x::r,[],c,h1,h2=>by simp[ltCps]at h1
 |x::r,y::t,[],h1,h2=>by simp[ltCps]at h2
 |x::r,y::t,z::u,h1,h2=>by
  simp only[ltCps,qw3,decide_eq_false_iff_not,qv2,beq_iff_eq]at h1 h2 ⊢;refine⟨Θ,λe=>?_⟩;subst e;have e:y=z:=by lia
  subst e;exact mO r t u (h1.2 rfl) (h2.2 rfl)
noncomputable def LA(a b:Str):Bool:=!ltCps b.cps.toList a.cps.toList
theorem Ju{a b:Str}:LA a b=D↔ltCps b.cps.toList a.cps.toList=ξ:=by simp[LA]
theorem mP(a b c:Str)(h:LA a b=D)(h':LA b c=D):LA a c=D:=Ju.mpr (mO _ _ _ (Ju.mp h) (Ju.mp h'))
theorem u4(a b:Str):(LA a b||LA b a)=D:=by
 cases h:LA a b with
 |true=>rfl
 |false=>
  have h1:ltCps b.cps.toList a.cps.toList=D:=by simpa[LA] using h
  simp[Ju.mpr (tM _ _ h1)]
theorem p9{a b:Str}(h:LA a b=D)(h':LA b a=D):a=b:=by
 have e:=tK _ _ (Ju.mp h') (Ju.mp h);cases a with
 |mk a=>cases b with
  |mk b=>simp only at e;rw[Array.toList_inj.mp e]
def cY(ss:Z Str):Z Str:=ss.mergeSort LA
theorem cb(ss:Z Str):(cY ss).Perm ss:=List.mergeSort_perm ss LA
theorem gE(ss:Z Str):(cY ss).Pairwise λa b=>LA a b=D:=List.pairwise_mergeSort mP u4 ss
theorem mQ:∀(p:Str)(l:Z Str),risingS p l=D->(p::l).Pairwise λa b=>LA a b=D
 |p,[],_=>by simp
 |p,x::r,h=>by
  simp only[risingS,IH]at h;have Y:=mQ x r h.2;have h1:LA p x=D:=h.1;refine PH.mpr ⟨λy q=>?_,Y⟩;rcases HU.mp q with rfl|q
  .exact h1
  .exact mP _ _ _ h1 ((PH.mp Y).1 y q)
theorem mR:∀l:Z Str,sortedS l=D->l.Pairwise λa b=>LA a b=D
 |[],_=>VA
 |x::r,h=>mQ x r h
theorem g7:∀{a b:Z Str},a.Perm b->(a.Pairwise λa b=>LA a b=D)->(b.Pairwise λa b=>LA a b=D)->a=b
 |[],_,p,_,_=>p.nil_eq
 |x::r,b,p,Y,q=>by
  cases b with
  |nil=>exact absurd p.length_eq Ξ
  |cons y t=>
   have hx:x∈y::t:=p.mem_iff.mp (.head _);have hy:y∈x::r:=p.mem_iff.mpr (.head _)
   have e:x=y:=by
    rcases HU.mp hx with h|h
    .exact h
    .rcases HU.mp hy with h'|h'
     .exact h'.symm
     .exact p9 ((PH.mp Y).1 y h') ((PH.mp q).1 x h)
   subst e;rw[g7 (zk6.cons_inv p) (PH.mp Y).2 (PH.mp q).2]
theorem k7:∀{ss:Z Str}{J8:Z Value},Da (ss.map ψ.str) J8->StrsAre J8 ss
 |[],_,h=>by cases h;exact .nil
 |x::ss,_,h=>by
  cases h with
  |cons h1 h2=>obtain⟨t,rfl⟩:=h1;exact .cons x t (k7 h2)
theorem mT:∀{J8:Z Value}{ss:Z Str},StrsAre J8 ss->Da (ss.map ψ.str) J8
 |_,_,.nil=>.nil
 |_,_,.cons x t h=>.cons ⟨t,rfl⟩ (mT h)
section
variable{X:Cx}
theorem oJ:Hw X (.builtin "sorted") (λxs H Q=>∃p ss,xs=[.ref p]/\Io X.K H p (ss.map ψ.str)/\ss.length<64/\∀l,H l=V->Q (.ref l) (upd H l (.e ((cY ss).map ψ.str)))):=by
 intro J1 s G H xs us Q I r h;obtain⟨p,ss,rfl,hq,hz,q⟩:=h;obtain⟨u,rfl,rx⟩:=d4 r;cases rx;obtain⟨J8,r',pl,Sn⟩:=I.list hq;have hS:=k7 r';have hlen:J8.length=ss.length:=by have:=r'.length;simpa using this.symm
 refine sorted_strs pl.isList hS Θ λout Y a1 a2 a3=>?_
 have e:Y=cY ss:=g7 (a2.trans (cb ss).symm) (mR Y a3) (gE ss);subst e;obtain⟨c,hc⟩:=sortedAll_at s.heap J8 out;refine⟨.ref (s.heap.objs.size+1),_,I.laid (t':=s.toks) (λ_ _=>sortedAll_old) (QH _) (show Hn X.prog X.w _ _ _ (.e ((cY ss).map ψ.str))from⟨?_,out.toList,c,mT a1,hc⟩),rfl,q _ (I.Hm.fresh (QH _))⟩;rw[Hl,(cb ss).length_eq];exact Iw (ND hz) Ω
def iY:Z Dt->C T
 |[.e ds]=>(fO ds).bind λss=>if ss.length<64 then O (.e ((cY ss).map .str))else V
 |_=>V
theorem jt{F:Hp}:∀ss:Z Str,hX K F (ss.map .str) (ss.map ψ.str)
 |[]=>by simp only[QG,hX]
 |x::ss=>by simp only[Ia,hX];exact⟨_,_,rfl,by simp only[G3],jt ss⟩
theorem xt:MS K (λxs H Q=>∃p ss,xs=[.ref p]/\Io K H p (ss.map ψ.str)/\ss.length<64/\∀l,H l=V->Q (.ref l) (upd H l (.e ((cY ss).map ψ.str)))) iY:=by
 intro F H ds vs Q t fh r q k;unfold iY at q;split at q<;>first|(cases q;done)|skip
 obtain⟨ss,hs,q⟩:=bS q;split at q<;>cases q
 rename_i Y;obtain⟨v,rfl,rv⟩:=cy r;obtain⟨a,vs,rfl,h1,h2⟩:=rv;have:=g6 h2 hs;subst this;exact⟨a,ss,rfl,h1,Y,λp hp=>dy k fh (jt _) hp⟩
end
def Kc(h:Heap)(d:J9)(ks:Z Value)(ep:Nat):Prop:=∃o es,h.get? d=O o/\o.ExactDict/\o.data=.dict es ep/\es.toList.map (·.key)=ks
theorem Kc.upTo{d:J9}{ks:Z Value}(q:Kc h d ks ep)(k:∀o,h.get? d=O o->h'.get? d=O o):Kc h' d ks ep:=let ⟨o,es,h1,r⟩:=q;⟨o,es,k o h1,r⟩
theorem Kc.ty{d:J9}{ks:Z Value}(q:Kc s.heap d ks ep):s.TypeIs (.ref d) "dict":=let ⟨o,_,h1,h2,_⟩:=q;⟨o,h1,h2.1⟩
theorem Kc.lt{d:J9}{ks:Z Value}(q:Kc h d ks ep):d<h.objs.size:=let ⟨_,_,h1,_⟩:=q;Ih h1
section
variable{prog:HL}{w:Ja}{A:HM}{E:Value->t2->Prop}{s:t2}{d it:J9}{ks:Z Value}{i ep:Nat}
theorem xu(lo:(d==L4)=ξ)(q:Kc s.heap d ks ep)
 (k:Q (.ref s.heap.objs.size) {s with heap:=s.heap.push {cls:=.type "dict_keyiterator",data:=.fields #[.ref d,.int 0 0,.int ks.length 0,.int ep 0]}}):wpAny (model prog w) A (PV (.ref d)) Q E s:=by
 obtain⟨o,es,Y,e2,e3,e4⟩:=id q;refine za7 q.ty F.slot_dict_iter (Na F.slot_dict_iter q.ty F.entry_dict_iter ?_ (F.args_dict_iter_1 _));unfold JR.«dict.__iter__»;refine wB ?_;unfold JR.Dict.dictSlotNone;refine wB (wpAny_notOrdered_dict q.ty ?_);show wpAny _ _ (pure (JS d)) _ _ s;refine Hf ?_;show wpAny _ _ (zf8 d >>= _) _ _ s;unfold zf8;rw[if_neg (by rw[lo];exact Kp)];refine wB (Hf ?_);refine wB (za8 Y e3 (wB (zf9 Y e3 ?_)));have ez:es.size=ks.length:=by rw[<- e4];simp
 refine wB (Ma (Hf ⟨_,rfl,"dict_keyiterator",_,⟨_,Ji _ rfl,rfl⟩,VT.lookup,?_⟩));simpa[Ij,ez] using k
theorem xw {key:Value} {Q:C Value->t2->Prop} (st:s.heap.IsKeyIter it d i ks.length ep) (q:Kc s.heap d ks ep) (hk:ks[i]?=O key)
  (k:∀h',h'.IsKeyIter it d (i+1) ks.length ep->Pj it s.heap h'->Q (O key) {s with heap:=h'}):wpAny (model prog w) A (MG (.ref it)) Q E s:=by
 obtain⟨oi,i1,i2,i3⟩:=id st;obtain⟨o,es,e1,e2,e3,e4⟩:=id q;unfold MG;refine wB (Up (Pd (name:=xv "__next__") st.typeIs VT (Na VT st.typeIs qw1 ?_ (qv3 _))));refine wB (Hf (wB (wB ?_)))
 first|refine wB (Y9 st.typeIs (Hf ?_))|refine wB (Za st.typeIs (Hf ?_))
 refine wB (Uo i1 i3 ?_);have ow:qw5 "dict_keyiterator"=ξ:=by decide
 simp only[ow,Oi,if_false];show wpAny _ _ (if(JS d==LI)=D then _ else _) _ _ s;rw[if_neg (show ¬ ((JS d==LI)=D)from Kp)];refine wB (Hf (wB (za8 e1 e3 ?_)));have ez:es.size=ks.length:=by rw[<- e4];simp
 rw[if_neg (by rw[ez];simp)];refine wB (Hf (wB (zf9 e1 e3 ?_)));rw[if_neg Ξ];refine Hf ?_;have li:i<es.size:=by rw[ez];exact(gX hk).1
 have Y:es[i].key=key:=by rw[<- e4,Je,Vp,RA li]at hk;exact L3 hk
 simp only[show ¬ ((i:Int)<0)from by lia,if_false,Ms,RA li];refine wB ?_
 first|refine wB (Y9 st.typeIs (Hf ?_))|refine wB (Za st.typeIs (Hf ?_))
 refine wB (zg0 st.typeIs ?_);show wpAny _ _ (QM (.ref it) 1 (Ij ((i:Int)+1)) >>= _) _ _ s;refine LG (Pe i1 i3 Ξ ?_)
 have Ps:(s.heap.update it (RQ (·.setIfInBounds 1 (Ij ((i:Int)+1))))).IsKeyIter it d (i+1) ks.length ep:=⟨_,Oq _ i1 (RP (Ng i3 _)),(VW ..).trans i2,by rw[Ng i3];simp[Ij]⟩
 refine wB (NF (wB (zg0 (s:={s with heap:=s.heap.update it (RQ (·.setIfInBounds 1 (Ij ((i:Int)+1))))}) Ps.typeIs ?_)));show wpAny _ _ (pure es[i].key) _ _ _;rw[Y];exact Hf (Hf ⟨_,rfl,Hf (k _ Ps (N8 ..))⟩)
theorem As {Q:C Value->t2->Prop} (nh:A.handled=V) (st:s.heap.IsKeyIter it d i ks.length ep) (q:Kc s.heap d ks ep) (hi:i=ks.length)
  (k:∀h',ZB it s.heap h'->Q V {s with heap:=h'}):wpAny (model prog w) A (MG (.ref it)) Q E s:=by
 obtain⟨oi,i1,i2,Y⟩:=id st;obtain⟨o,es,e1,e2,e3,e4⟩:=id q;unfold MG;refine wB (Up (Pd (name:=xv "__next__") st.typeIs VT (Na VT st.typeIs qw1 ?_ (qv3 _))));refine wB (Hf (wB (wB ?_)))
 first|refine wB (Y9 st.typeIs (Hf ?_))|refine wB (Za st.typeIs (Hf ?_))
 refine wB (Uo i1 Y ?_);have ow:qw5 "dict_keyiterator"=ξ:=by decide
 simp only[ow,Oi,if_false];show wpAny _ _ (if(JS d==LI)=D then _ else _) _ _ s;rw[if_neg (show ¬ ((JS d==LI)=D)from Kp)];refine wB (Hf (wB (za8 e1 e3 ?_)));have ez:es.size=ks.length:=by rw[<- e4];simp
 rw[if_neg (by rw[ez];simp)];refine wB (Hf (wB (zf9 e1 e3 ?_)));rw[if_neg Ξ];refine Hf ?_;have ge:es.size<=i:=by rw[ez];lia
 simp only[show ¬ ((i:Int)<0)from by lia,if_false,Ms,YR ge];refine wB ?_
 first|refine wB (Y9 st.typeIs (Hf ?_))|refine wB (Za st.typeIs (Hf ?_))
 show wpAny _ _ (QM (.ref it) 0 .none >>= _) _ _ s;refine LG (Pe i1 Y Ξ ?_);show wpAny _ _ (Pi (.type "StopIteration") [] >>= _) _ _ _;refine wB ?_;simp only[Pi,VR];refine wB (Ma ?_ (by size_fits));refine LG (m:=QJ _ _) (VL (a:=LI) (by first|rfl|(simp only[QJ];rfl)) (Ma ?_ (by size_fits)));simp only[Uw];refine wB (Zk ?_);rw[show A.in1.handled=V from nh];refine wB (Hf (Zo ?_));refine wB (VF (b:=true) (T:="StopIteration") ⟨_,Ji _ rfl,rfl⟩ zg9 ?_);exact Hf (k _ (((N8 ..).extBut.push _).push _))
theorem u5(nh:A.handled=V)(JB:d≠it):Walks prog w A it [it,d] [it] ks.length (λi v=>ks[i]?=O v) (λi h=>h.IsKeyIter it d i ks.length ep/\Kc h d ks ep) where
 sub:=λb q=>by simp at q;simp[q]
 frame:=λ_ _ _ st hk=>⟨let ⟨o,h1,r⟩:=st.1;⟨o,hk it Ξ o h1,r⟩,st.2.upTo λo e=>hk d Ξ o e⟩
 item:=λi s Q E hi st Y=>xw st.1 st.2 (key:=ks[i]) (by simp[hi]) λh' Ps sb=>Y _ h' s.toks (by simp[hi]) ⟨Ps,st.2.upTo λo e=>sb.extBut d o JB e⟩ λb o q e=>sb.extBut b o (λz=>q (by simp[z])) e
 done:=λs Q E st Y=>As nh st.1 st.2 rfl λh' eb=>Y h' s.toks λb o q e=>eb b o (λz=>q (by simp[z])) e
 self:=λ_ _ _ _ st Y=>wpAny_pyIter_keyiter st.1 Y
theorem tN(lo:(d==L4)=ξ):PySem.W.KdlSrc prog w "dict" d d ks.length (λi v=>ks[i]?=O v) (λh=>Kc h d ks ep) where
 type:=λ_ q=>q.ty
 there:=λ_ q=>⟨q.lt,q.lt⟩
 keep:=λ_ _ q hk=>q.upTo λo e=>hk d (.inl rfl) o e
 notList:=by decide
 notTuple:=by decide
 hint:=λ_ _ _ _ q Y=>PySem.W.kdl_hint_dict q.ty Y
 iter:=λ_ _ nh q=>⟨_,_,(λ_ _ Y=>xu lo q Y),u5 nh (Js q.lt),⟨⟨_,Ji _ rfl,rfl,rfl⟩,q.upTo λo e=>gP _ e⟩⟩
end
set_option maxRecDepth 20000
def Rs(xs:Array Nat):Prop:=xs.toList.Pairwise (· < ·)
variable{xs:Array Nat}
theorem Rs.lt(h:Rs xs)(hi:i<k)(hk:k<xs.size):xs[i]<xs[k]:=by have:=qz8.mp h i k (by simp;lia) (by simpa using hk) hi;simpa using this
def W7(xs:Array Nat)(j p:Nat):Prop:=p<=xs.size/\(∀i (q:i<xs.size),i<p->xs[i]<j)/\∀i (q:i<xs.size),p<=i->j<=xs[i]
variable{j:Nat}
theorem rG(h:Rs xs):∀n lo hi,hi<=xs.size->lo<=hi->hi-lo<=n->(∀i (q:i<xs.size),i<lo->xs[i]<j)->(∀i (q:i<xs.size),hi<=i->j<=xs[i])->W7 xs j (MI.go xs j n lo hi)
 |0,lo,hi,h1,h2,h3,Y,h5=>by
  have e:lo=hi:=by lia
  subst e;exact⟨h1,Y,h5⟩
 |n+1,lo,hi,h1,h2,h3,Y,h5=>by
  rw[MI.go];by_cases c:lo<hi
  .rw[if_pos c];have hm:(lo+hi)/2<xs.size:=by lia
   dsimp only;rw[Array.getD_eq_getD_getElem?,RA hm,zd4];by_cases d:xs[(lo+hi)/2]<j
   .rw[if_pos d];refine rG h n _ hi h1 Θ Θ (λi q Rg=>?_) h5;by_cases e:i=(lo+hi)/2
    .subst e;exact d
    .exact VB (h.lt (by lia:i<(lo+hi)/2) hm) d
   .rw[if_neg d];refine rG h n lo _ Θ Θ Θ Y λi q Rg=>?_
    by_cases e:i=(lo+hi)/2
    .subst e;lia
    .have:=h.lt (by lia:(lo+hi)/2<i) q;lia
  .rw[if_neg c];have e:lo=hi:=by lia
   subst e;exact⟨h1,Y,h5⟩
theorem ju(h:Rs xs)(j:Nat):W7 xs j (MI xs j):=rG h _ _ _ (HG _) (M8 _) (HG _) (λi _ z=>absurd z (Uf _)) λi q z=>absurd q (Ug.mpr z)
variable{p:Nat}
theorem W7.uniq{q:Nat}(a:W7 xs j p)(b:W7 xs j q):p=q:=by
 obtain⟨a1,a2,a3⟩:=a;obtain⟨b1,b2,Y⟩:=b;rcases Nat.lt_trichotomy p q with h|h|h
 .have x:=b2 p Θ h;have y:=a3 p Θ (HG _);lia
 .exact h
 .have x:=a2 q Θ h;have y:=Y q Θ (HG _);lia
theorem qa(h:Rs xs):MI xs 0=0:=(ju h 0).uniq ⟨M8 _,λi _ z=>absurd z (Uf _),λ_ _ _=>M8 _⟩
theorem rH(h:Rs xs)(hi:i<xs.size):MI xs (xs[i]+1)=i+1:=(ju h _).uniq ⟨hi,λk q hk=>by
 by_cases e:k=i
 .subst e;lia
 .exact PM (h.lt (by lia:k<i) hi),λk q hk=>h.lt hk q⟩
theorem xx{α:Type}(xs:Array α)(p:Nat)(x:α):(za9 xs p x).toList=xs.toList.take p++x::xs.toList.drop p:=by simp only[za9,qx3,zb0,Array.toList_extract,M7,List.singleton_append];simp;rw[ze0 Ξ]
theorem DQ(h:Rs xs)(hj:xs[MI xs j]?≠O j):Rs (za9 xs (MI xs j) j):=by
 obtain⟨c1,c2,c3⟩:=ju h j;generalize MI xs j=p at*
 have hl:∀a∈xs.toList.take p,a<j:=λa Y=>by
  obtain⟨i,hi,rfl⟩:=List.mem_iff_getElem.mp Y;have q:i<p/\i<xs.size:=by simp at hi;lia
  simpa using c2 i q.2 q.1
 have hg:∀a∈xs.toList.drop p,j<a:=λa Y=>by
  obtain⟨i,hi,rfl⟩:=List.mem_iff_getElem.mp Y;have q:p+i<xs.size:=by simp at hi;lia
  have:=c3 (p+i) q Θ
  have JB:xs[p+i]≠j:=λe=>by
   by_cases z:i=0
   .subst z;exact hj (by rw[RA (by simpa using q)];simpa using e)
   .have y:=c3 p Θ (HG _);have w:=h.lt (by lia:p<p+i) q;lia
  simp;lia
 unfold Rs;rw[xx,List.pairwise_append];refine⟨h.sublist (Vw _ _),PH.mpr ⟨hg,h.sublist (List.drop_sublist _ _)⟩,λa Y b hb=>?_⟩;rcases HU.mp hb with rfl|hb
 .exact hl a Y
 .exact VB (hl a Y) (hg b hb)
def W8(t:Jw)(j:Nat):Prop:=t.place[MI t.place j]?≠O j
theorem qb{t:Jw}(h:∀i,t.slot j≠.live i):W8 t j:=λz=>by refine h (MI t.place j) ?_;unfold Jw.slot;dsimp only;rw[if_pos (by rw[z];simp)]
theorem mU(t:Jw)(p:Jw.Probe):(t.advance p).dummy=p.dummy:=by unfold Jw.advance;split<;>rfl
theorem jv{t:Jw}{g:Nat->Int}{h:Int}:∀n p,(∀d,p.dummy=O d->W8 t d)->∀j d,Jw.probe.go t g h n p=O (.empty j d)->W8 t j/\∀k,d=O k->W8 t k
 |0,p,hp,j,d,e=>by cases e
 |n+1,p,hp,j,d,e=>by
  rw[Jw.probe.go]at e;split at e
  .rename_i q;cases e;exact⟨qb λi z=>(by rw[q]at z;cases z),hp⟩
  .rename_i q;refine jv n _ (λk hk=>?_) j d e;rw[mU]at hk;cases hk;exact qb λi z=>by rw[q]at z;cases z
  .split at e
   .cases e
   .exact jv n _ (λk hk=>hp k (by rw[mU]at hk;exact hk)) j d e
theorem xy{t:Jw}{h:Int}(e:t.freeSlot h=O (j,b)):W8 t j:=by
 unfold Jw.freeSlot at e;split at e
 .rename_i k d hk;obtain⟨h1,h2⟩:=jv _ _ (λd z=>by cases z) k d hk;cases e;cases d with
  |none=>exact h1
  |some x=>exact h2 x rfl
 .cases e
theorem i4(n:Nat):Rs (Array.range n):=by unfold Rs;rw[Array.toList_range];exact ze1
theorem rJ{t:Jw}(n:Nat)(h:Rs t.place):Rs (t.orStandIn n).place:=by
 unfold Jw.orStandIn;split
 .exact h
 .exact i4 n
theorem u6{t:Jw}(h:Rs t.place)(es:Array (Int×Value))(k:Int)(x:Value):Rs (layNew t es k x).2.1.place:=by
 unfold layNew;split
 .rename_i j b e;exact rJ _ (DQ h (xy e))
 .exact i4 _
theorem xz(t:Jw)(es:Array (Int×Value))(n:Nat):Rs (QN t es n).2.1.place:=by
 unfold QN;split
 .rename_i t' q e;dsimp only;split
  .unfold Jw.relaid Jw.laid at e;simp only[qx7,Y7,qt8]at e;obtain⟨_,_,e⟩:=e;cases e;unfold Rs;dsimp only;rw[Vx,List.pairwise_filterMap];refine Y5 (λ{a b} Y x hx y hy=>?_) ze1;obtain⟨_,_,rfl⟩:=mS hx;obtain⟨_,_,rfl⟩:=mS hy;exact Y
  .exact i4 _
 .exact i4 _
theorem rK(t:Jw)(es:Array (Int×Value))(h:Int)(x:Value):(layNew t es h x).2.1.led=t.led:=by
 unfold layNew;split
 .dsimp only;unfold Jw.orStandIn;split<;>rfl
 .rfl
theorem u7(t:Jw)(es:Array (Int×Value))(n:Nat):(QN t es n).2.1.led=t.led:=by
 unfold QN;split
 .rename_i t' q e;dsimp only;split
  .unfold Jw.relaid Jw.laid at e;simp only[qx7,Y7,qt8]at e;obtain⟨_,_,e⟩:=e;cases e;rfl
  .rfl
 .rfl
structure SK(P:HL)(u:Ja)(K:Type)[DecidableEq K] where
 knd:PySem.KeyKind P u K
 put:K->Tok->Value
 of:Value->K
 is:∀k t,knd.is k (put k t)=D
 NU:∀k t,of (put k t)=k
 shape:∀{k v},knd.is k v=D->∃t,v=put k t
 scan:∀k t,(put k t).scannable=D
noncomputable def u8(P:HL)(u:Ja):SK P u Str where
 knd:=PySem.strKind P u
 put:=.str
 of v:=match v with|.str k _=>k|_=>""
 is:=strKind_is P u
 NU _ _:=rfl
 shape {k v} h:=by
  cases v<;>simp[PySem.strKind,zh8]at h
  subst h;exact⟨_,rfl⟩
 scan _ _:=rfl
noncomputable def DR(P:HL)(u:Ja):SK P u Int where
 knd:=PySem.intKind P u
 put:=.int
 of v:=match v with|.int k _=>k|_=>0
 is k t:=by simp[PySem.intKind,Value.isInt]
 NU _ _:=rfl
 shape {k v} h:=Value.isInt_shape h
 scan _ _:=rfl
section
variable{P:HL}{u:Ja}{K:Type}[DecidableEq K]{κ:SK P u K}
structure Tx(κ:SK P u K)(l:List (Int×Value))(ss:List K):Prop where
 all:∀e∈l,∃k t,e.2=κ.put k t/\e.1=κ.knd.hash k
 Sq:(l.map λe=>κ.of e.2).Perm ss
 nd:ss.Nodup
theorem Tx.elems{l:Z (Int×Value)}{ss:Z K}(x:Tx κ l ss):ElemsOf κ.knd l:=λe q=>by obtain⟨k,t,h1,h2⟩:=x.all e q;rw[h1];exact⟨⟨k,κ.is k t,h2⟩,κ.scan k t⟩
theorem Tx.perm{l m:Z (Int×Value)}{ss:Z K}(x:Tx κ l ss)(p:m.Perm l):Tx κ m ss:=⟨λe q=>x.all e (p.mem_iff.mp q),(p.map _).trans x.Sq,x.nd⟩
theorem Tx.mem{l:Z (Int×Value)}{ss:Z K}(x:Tx κ l ss)(k:K):k∈ss↔∃e∈l,κ.knd.is k e.2=D:=by
 rw[<- x.Sq.mem_iff];constructor
 .intro h;obtain⟨e,q,Y⟩:=Jg.mp h;obtain⟨k',t,h1,_⟩:=x.all e q;rw[h1,κ.NU]at Y;refine⟨e,q,?_⟩;rw[h1,<- Y];exact κ.is k' t
 .rintro⟨e,q,h⟩;obtain⟨t,h1⟩:=κ.shape h;exact Jg.mpr ⟨e,q,by rw[h1,κ.NU]⟩
theorem Tx.push{l:Z (Int×Value)}{ss:Z K}(x:Tx κ l ss){k:K}{t:Tok}(hk:k∉ss):Tx κ (l++[(κ.knd.hash k,κ.put k t)]) (ss++[k]):=⟨λe q=>by
 rcases IC.mp q with q|q
 .exact x.all e q
 .rw[HK.mp q];exact⟨k,t,rfl,rfl⟩,by
 rw[IL];have:List.map (λe=>κ.of e.2) [(κ.knd.hash k,κ.put k t)]=[k]:=by simp[κ.NU]
 rw[this];exact x.Sq.append_right _,by
 refine Mt.mpr ⟨x.nd,Ξ,λa ha b Y e=>?_⟩;rw[HK.mp Y]at e;exact hk (e▸ha)⟩
structure K9(κ:SK P u K)(h:Heap)(a:J9)(ss:List K)(led:Bool):Prop where
 ex:∃o es ep t,h.get? a=O o/\o.ExactSet/\o.data=.set es ep t/\Tx κ es.toList ss/\es.size<Nc/\t.fits es.size=D/\t.led=led/\Rs t.place
end
variable{hp:Heap}
section
variable{P:HL}{u:Ja}{K:Type}[DecidableEq K]{κ:SK P u K}{A:HM}{E:Value->t2->Prop}{s:t2}{a:J9}{ss:Z K}{led:Bool}
theorem mV {es fs:Array (Int×Value)} {tb tc:Jw} (g1:hp.get? a=O o) (g2:o.ExactSet) (g3:o.data=.set es ep tb) (x:Tx κ fs.toList ss) (Y:fs.size<Nc) (q:tc.fits fs.size=D) (hl:tc.led=led) (hq:Rs tc.place) :
  (hp.update a (Obj.putSet fs tc)).get? a=O {o with data:=.set fs (ep+1) tc}/\K9 κ (hp.update a (Obj.putSet fs tc)) a ss led:=by
 have e:=(SetOf_store (knd:=κ.knd) (S':=λk=>decide (k∈ss)) g1 g2 g3 x.elems (λk=>by rw[decide_eq_true_eq];exact x.mem k) Y q).1;exact⟨e,⟨_,fs,ep+1,tc,e,g2,rfl,x,Y,q,hl,hq⟩⟩
theorem At {k:K} {t:Tok} {Q:Bool->t2->Prop} (hS:K9 κ s.heap a ss led) (room:ss.length+1<Nc)
  (q:∀hp,Pj a s.heap hp->K9 κ hp a (if k∈ss then ss else ss++[k]) led->∀b,Q b {s with heap:=hp}):wpAny (model P u) A (setAddHashed a (κ.put k t) (κ.knd.hash k)) Q E s:=by
 obtain⟨o,es,ep,tb,g1,g2,g3,x,hb,hf,hl,MN⟩:=hS.ex;have hn:es.size=ss.length:=by rw[<- x.Sq.length_eq,Hl,M6]
 have big:es.size+1<Nc:=by rw[hn];exact room
 unfold setAddHashed setAddHashedIn;refine NF (wB (NE g1 g3 hf ?_));dsimp only;rw[byScan_of (knd:=κ.knd) (κ.scan k t) hb x.elems];simp only[↓reduceIte];unfold setAddByScan;refine wB (wB (RM (wB (wpAny_setScan_of (κ.is k t) g1 g3 hf x.elems ?_))));cases hr:List.findIdx? (λe=>κ.knd.is k e.2) es.toList with
 |some j=>dsimp only;obtain⟨hj,hpj,_⟩:=List.findIdx?_eq_some_iff_getElem.mp hr;have hm:k∈ss:=(x.mem k).mpr ⟨es.toList[j],QF hj,hpj⟩;refine Hf (Hf ?_);have:=q s.heap (Pj.refl a s.heap) (by rw[if_pos hm];exact hS) ξ;rw[show s={s with heap:=s.heap} by cases s;rfl];exact this
 |none=>
  dsimp only
  have hm:k∉ss:=λz=>by obtain⟨e,he,hp⟩:=(x.mem k).mp z;have:=List.findIdx?_eq_none_iff.mp hr e he;rw[hp]at this;exact Bool.noConfusion this
  rw[if_neg hm]at q;have perm:=layNew_perm tb es (κ.knd.hash k) (κ.put k t);have fits:=layNew_fits tb es (κ.knd.hash k) (κ.put k t);have Mm:=And.intro (rK tb es (κ.knd.hash k) (κ.put k t)) (u6 MN es (κ.knd.hash k) (κ.put k t));generalize layNew tb es (κ.knd.hash k) (κ.put k t)=L at perm fits Mm ⊢;obtain⟨fs,tc,wasD,gave⟩:=L;dsimp only at perm fits Mm ⊢;rw[zb0]at perm;have y:Tx κ fs.toList (ss++[k]):=(x.push hm).perm perm;have Sr:fs.size<Nc:=by rw[<- M6,perm.length_eq,HZ,M6];simpa using big
  have gw:∀(b:Bool){s1:t2}{Q1:Unit->t2->Prop},Q1 () s1->wpAny (model P u) A (match b with|true=>rule "set.scan.the-table-gave-way"|false=>pure ()) Q1 E s1:=λb s1 Q1 z=>by
   cases b
   .exact Hf z
   .exact RM z
  refine wB (gw _ ?_)
  have tail:∀ MY:Jw,MY.fits fs.size=D->MY.led=led->Rs MY.place->wpAny (model P u) A (do
      storeSet a fs MY
      if (!wasD&&MY.tooFull)=D then do
          (match (QN MY fs (QR fs.size)).2.2 with|true=>rule "set.scan.the-table-gave-way"|false=>pure ())
          storeSet a (QN MY fs (QR fs.size)).1 (QN MY fs (QR fs.size)).2.1
          pure (O D)
       else pure (O D)) (λr s1=>wpAny (model P u) A (match r with|some added=>pure added|none=>setAddHashedIn a (κ.put k t) (κ.knd.hash k) 99999) Q E s1) E s:=λMY h1 h2 h3=>by
   refine wB (wpAny_storeSet_of g1 g3 ?_ (Zd Sr));obtain⟨e1,T1⟩:=mV g1 g2 g3 y Sr h1 h2 h3;have sb:=N8 s.heap a (Obj.putSet fs MY);split
   .have p2:=relayAll_perm MY fs (QR fs.size);have f2:=relayAll_fits MY fs (QR fs.size);have l2:=And.intro (u7 MY fs (QR fs.size)) (xz MY fs (QR fs.size));generalize QN MY fs (QR fs.size)=M at p2 f2 l2 ⊢;obtain⟨gs,td,gave2⟩:=M;dsimp only at p2 f2 l2 ⊢;have sz:gs.size=fs.size:=by rw[<- M6,p2.length_eq,M6]
    have hb3:gs.size<Nc:=by rw[sz];exact Sr
    refine wB (gw _ (wB (wpAny_storeSet_of e1 rfl ?_ (Zd hb3))));obtain⟨_,T2⟩:=mV e1 g2 rfl (y.perm p2) hb3 f2 (l2.1.trans h2) l2.2;exact Hf (Hf (q _ (sb.trans (N8 _ a _)) T2 D))
   .exact Hf (Hf (q _ sb T1 D))
  split
  .refine wB ?_;rw[hashByValue_scannable 8 (κ.scan k t)];refine Hf ?_;split
   .exact tail tc fits (Mm.1.trans hl) Mm.2
   .exact tail {tc with plain:=false} (Jw.fits_plain_off fits) (Mm.1.trans hl) Mm.2
  .refine wB (Hf ?_);exact tail tc fits (Mm.1.trans hl) Mm.2
end
noncomputable def fS{K:Type}[DecidableEq K](J5:Z K)(k:K):Z K:=if k∈J5 then J5 else J5++[k]
def met{K:Type}[DecidableEq K](val:Nat->K)(i:Nat):Z K:=((HQ i).map val).foldl fS []
theorem qc{K:Type}[DecidableEq K](val:Nat->K)(i:Nat):met val (i+1)=fS (met val i) (val i):=by unfold met;rw[Y4,IL,List.foldl_append];rfl
theorem oK{K:Type}[DecidableEq K](val:Nat->K):∀i,(met val i).length<=i
 |0=>HG _
 |i+1=>by
  rw[qc];have:=oK val i;unfold fS;split
  .lia
  .rw[HZ,Lc];lia
section
variable{P:HL}{u:Ja}{K:Type}[DecidableEq K]{κ:SK P u K}{A:HM}{R:Result->t2->Prop}{I:J9}{fp wr:Z J9}{σ:Array GenState->Array GenState->Prop}{n:Nat}{Pv:Nat->Value->Prop}{St:Nat->t2->Prop}{led:Bool}
theorem K9.moved{ss:Z K}(x:K9 κ h a ss led)(e:∀o,h.get? a=O o->h'.get? a=O o):K9 κ h' a ss led:=by obtain⟨o,es,ep,t,g,r⟩:=x.ex;exact⟨o,es,ep,t,e o g,r⟩
theorem xA (W:WalksS P u A.in1 I fp wr σ n Pv St) (S:J9) (out:S∉fp) (val:Nat->K) (hval:∀ i v,Pv i v->∃ t,v=κ.put (val i) t) (Y:n+1<Nc) :
  ∀(m i:Nat)(s:t2),n-i=m->i<=n->St i s->K9 κ s.heap S (met val i) led->(∀s',Moved (S::wr) σ s s'->K9 κ s'.heap S (met val n) led->R (.ok (.ret .none)) s')→
   MF (model P u) A (.builtin "set.update.loop" ⟨[.ref S,.ref I],[]⟩) R s:=by
 have nw:S∉wr:=λh=>out (W.sub _ h)
 have sub:∀b∈wr,b∈S::wr:=λb Y=>N4 _ Y
 intro m;induction m with
 |zero=>
  intro i s hm hi q hS hR;obtain rfl:i=n:=by lia
  refine Um zc6 ?_;rw[VS qt5 _];refine wB (W.done s _ _ q λs1 mv=>?_);exact Hf (hR s1 (mv.mono sub) (hS.moved λo e=>mv.heap S _ nw e))
 |succ m ih=>
  intro i s hm hi q hS hR;have lt:i<n:=by lia
  refine Um zc6 ?_;rw[VS qt5 _];refine wB (W.item i s _ _ lt q λv s1 hP hst1 mv=>?_);obtain⟨t,rfl⟩:=hval i v hP;have hS1:K9 κ s1.heap S (met val i) led:=hS.moved λo e=>mv.heap S _ nw e
  show wpAny _ A.in1 (PR [κ.put (val i) t] (setAdd S (κ.put (val i) t)) >>= _) _ _ s1;refine wB (NF ?_);unfold setAdd;refine NF (wB (κ.knd.pyHash (k:=val i) (κ.is _ _) ?_));have room:(met val i).length+1<Nc:=by have:=oK val i;lia
  refine At (s:={s1 with toks:=s1.toks+1}) hS1 room λh2 sb hS2 b=>?_
  have hS3:K9 κ h2 S (met val (i+1)) led:=by rw[qc];exact hS2
  refine Hf ⟨VI qt5 _,ih (i+1) _ Θ lt (W.frame _ s1 _ _ hst1 (QH _) λb Y o e=>?_) hS3 λs2 mv2 hS4=>?_⟩
  .rw[sb.2 b (λh:b=S=>out (by rw[<- h];exact Y))];exact e
  .refine hR s2 (Moved.trans W.gtrans ((mv.mono sub).then_heap (QH _) λb o Y e=>?_) mv2) hS4;rw[sb.2 b (λh:b=S=>Y (by rw[h];exact N5))];exact e
end
noncomputable def c8(u:Ja):Bool:=!(u.params.followText "set-order")
section
variable{P:HL}{u:Ja}{K:Type}[DecidableEq K]{κ:SK P u K}{A:HM}{E:Value->t2->Prop}{s:t2}
theorem Au (v:Value) {Q1:Value->t2->Prop} (q:Q1 (.ref s.heap.objs.size) {s with heap:=s.heap.push {cls:=.type "set",dict:=V,data:=.set #[] 0 (.fresh 0 0 (c8 u))}}) :
  MF (model P u) A (.call (.builtin "set.__new__") ⟨[.type "set",v],[]⟩) (wants Q1 E) s:=by
 refine codeAny_of_tree ?_;show wpAny _ A.in1 (do checkBuiltinCall "set.__new__" ⟨[.type "set",v],[]⟩;again (.builtin "set.__new__" ⟨[.type "set",v],[]⟩)) _ _ s;refine wB (VL (F.newCall_set_1 v) (Hf ⟨VI F.plain_set_new _,Um F.entry_set_new ?_⟩));rw[VS F.plain_set_new _];unfold JR.«set.__new__» JR.Frozenset.newClass;have z:=sub_set_self;obtain⟨hp,g,d,tk,Y⟩:=s;dsimp only;wp_walk;refine Ul (Hf ?_);dsimp only;simp only[newObj];refine wB (wpAny_alloc (Hf ?_));exact Hf q
end
variable{led:Bool}
section
variable{P:HL}{u:Ja}{K:Type}[DecidableEq K]{κ:SK P u K}{A:HM}{E:Value->t2->Prop}{s:t2}
theorem u9(e:hp.get? a=O {cls:=.type "set",dict:=V,data:=.set #[] 0 (.fresh 0 0 led)}):K9 κ hp a [] led:=⟨_,#[],0,.fresh 0 0 led,e,⟨rfl,rfl,rfl⟩,rfl,⟨(λe q=>by cases q),Y6 _,Vz⟩,(by unfold Nc;decide),(by cases led<;>rfl),rfl,.nil⟩
theorem xB{l:J9}{vs:Array Value}{val:Nat->K}(calm:A.handled=V)(hl:s.heap.IsList l vs)(hi:∀(i:Nat)(v:Value),vs[i]?=O v->∃t,v=κ.put (val i) t)(hb:vs.size+1<Nc)
 (q:∀(hp:Heap)(tk:Nat),K9 κ hp s.heap.objs.size (met val vs.size) (c8 u)->(∀b o,b<s.heap.objs.size->s.heap.get? b=O o->hp.get? b=O o)->Q (.ref s.heap.objs.size) {s with heap:=hp,toks:=tk}) :
  wpAny (model P u) A (call (.type "set") [.ref l]) Q E s:=by
 obtain⟨c0,tl0,m0⟩:=QP.mro;have m1:=QP.made;have m2:=QP.sub;refine Zp (codeAny_of_tree ?_);show wpAny _ _ (callAny (.type "set") _) _ _ _;refine Hf ⟨Code.quiet_builtin _ χ,Um F.entry_type_call ?_⟩;rw[HM.under_plain (weight_type_call_type "set" [.ref l] []) rfl];have m3:=QP.notType;have m4:=QP.canCreate;have m5:=F.typeCall_set_1 (.ref l)
 repeat (any_goals (first|assumption|wp_step))
 refine RI (Au (.ref l) (E:=E) (Q1:=λx s1=>x=.ref s.heap.objs.size/\s1={s with heap:=s.heap.push {cls:=.type "set",dict:=V,data:=.set #[] 0 (.fresh 0 0 (c8 u))}}) ⟨rfl,rfl⟩) λr s1 hr=>?_
 cases r with
 |error e=>exact hr
 |ok fl=>
  cases fl with
  |ret x=>
   obtain⟨rfl,rfl⟩:=hr;have gS:(s.heap.push {cls:=.type "set",dict:=V,data:=.set #[] 0 (.fresh 0 0 (c8 u))}).get? s.heap.objs.size=O {cls:=.type "set",dict:=V,data:=.set #[] 0 (.fresh 0 0 (c8 u))}:=Ji _ rfl;have tS:zi9 {s with heap:=s.heap.push {cls:=.type "set",dict:=V,data:=.set #[] 0 (.fresh 0 0 (c8 u))}} (.ref s.heap.objs.size) "set":=⟨_,gS,rfl⟩;have n1:=QP.init.lookup;have n2:=QP.init.bind (.ref s.heap.objs.size)
   repeat (any_goals (first|assumption|wp_step))
   refine RI (codeAny_call_builtin (R:=wants (λr s2=>r=.none/\∃hp tk,s2={s with heap:=hp,toks:=tk}/\K9 κ hp s.heap.objs.size (met val vs.size) (c8 u)/\(∀b o,b<s.heap.objs.size->s.heap.get? b=O o->hp.get? b=O o)) E) QP.init.plain F.entry_set_init (check_set_init_1 tS ?_)) λr2 s2 Qj=>?_
   .obtain⟨ol,hol,Qe,nl,hdl⟩:=hl;obtain⟨oc,od,oda,Mh⟩:=ol;simp only at Qe hdl;subst Qe hdl;have hol2:(s.heap.push {cls:=.type "set",dict:=V,data:=.set #[] 0 (.fresh 0 0 (c8 u))}).get? l=O {cls:=.type "list",dict:=od,data:=.seq vs nl,slots:=Mh}:=gP _ hol;have k1:=F.sub_list_set;have k2:=F.sub_list_frozenset;have k3:(Nh "list"==Nh "dict")=ξ:=by decide
    have UO:(s.heap.push {cls:=.type "set",dict:=V,data:=.set #[] 0 (.fresh 0 0 (c8 u))}).IsList l vs:=⟨_,hol2,rfl,nl,rfl⟩;unfold JR.«set.__init__» noKeywords JR.Frozenset.updateFrom;generalize hPI:PV=PI;wp_walk;subst hPI;refine Zc UO (wB (wpAny_runValue ?_));have ls:l<s.heap.objs.size:=Ih hol;have c3:A.in1.in1.in1.handled=V:=by simp[calm]
    have ne1:l≠(s.heap.push {cls:=.type "set",dict:=V,data:=.set #[] 0 (.fresh 0 0 (c8 u))}).objs.size:=by rw[MH];exact Js (PM ls)
    have ne2:s.heap.objs.size∉[(s.heap.push {cls:=.type "set",dict:=V,data:=.set #[] 0 (.fresh 0 0 (c8 u))}).objs.size,l]:=by rw[MH];simp only[HU,HK,QE,or_false,not_or];exact⟨Js (Ue _),Pc ls⟩
    refine xA ((Walks.list c3 _ l ne1 vs).toS) s.heap.objs.size ne2 val hi hb (vs.size-0) 0 _ Θ (M8 _) ⟨⟨_,Ji _ rfl,rfl,rfl⟩,(UO.push _)⟩ (u9 (gP _ gS)) λs3 mv Y=>?_
    obtain⟨hp,g3,d3,tk3,o3⟩:=s3;have eg:g3=s.gens:=mv.gens;have ed:d3=s.drawn:=mv.drawn;have eo:o3=s.os:=mv.os;subst eg ed eo;show wpAny _ _ _ _ _ _;refine Hf ?_;show wpAny _ _ (ret LI) _ _ _;refine Hf ⟨rfl,hp,tk3,rfl,Y,λb o hb e=>?_⟩;have b1:b≠s.heap.objs.size:=Js hb
    have b2:b≠(s.heap.push {cls:=.type "set",dict:=V,data:=.set #[] 0 (.fresh 0 0 (c8 u))}).objs.size:=by rw[MH];exact Js (PM hb)
    exact mv.heap b o (by simp only[HU,HK,QE,or_false,not_or];exact⟨b1,b2⟩) (ZA _ (ZA _ e))
   .cases r2 with
    |error e=>exact Qj
    |ok f2=>
     cases f2 with
     |ret r=>
      obtain⟨rfl,hp,tk,rfl,Y,kept⟩:=Qj
      repeat (any_goals (first|assumption|wp_step))
      exact q _ _ Y kept
     |_=>exact Qj.elim
  |_=>exact hr.elim
end
theorem jw{α:Type}:∀{l:Z α}{i:Nat}(h:i<l.length),(l[i]::l.eraseIdx i).Perm l
 |x::l,0,h=>Y6 _
 |x::l,i+1,h=>by have:=jw (l:=l) (i:=i) (by simpa using h);exact(zk6.swap _ _ _).trans (this.cons x)
section
variable{M:Model}{A:HM}{E:Value->t2->Prop}
theorem rL{src:Source}{Q:Nat->t2->Prop}(Y:n≠0)(q:∀i d,i<n->Q i {s with drawn:=d}):wpAny M A (choose src n) Q E s:=λσ p hG=>by show Sem.wp M σ (.choose src n .pure) _ _ p s;rw[Sem.wp_choose];refine⟨Y,?_⟩;rw[Sem.wp_pure];exact q _ _ (Uh _ (Nat.pos_of_ne_zero Y))
theorem ii{α:Type}:∀(n:Nat)(xs:Z α){Q:Z α->t2->Prop}{s:t2},xs.length=n->(∀ys d,ys.Perm xs->Q ys {s with drawn:=d})->wpAny M A (drawOrder n xs) Q E s
 |0,xs,Q,s,Y,q=>by have e:xs=[]:=zc7.mp Y;subst e;show wpAny M A (pure []) Q E s;refine Hf ?_;have:=q [] s.drawn (Y6 _);cases s;exact this
 |n+1,[],Q,s,Y,q=>by cases Y
 |n+1,x::xs,Q,s,Y,q=>by show wpAny M A (choose .order (x::xs).length >>= λi=>match (x::xs)[i]? with|some y=>(drawOrder n ((x::xs).eraseIdx i)) >>= λys=>pure (y::ys)|none=>unsupported "internal:drawOrder") Q E s;refine LG (rL Ξ λi d hi=>?_);rw[gQ hi];dsimp only;refine wB (ii n ((x::xs).eraseIdx i) (by rw[qy4 hi];lia) λys d2 p=>Hf (q _ d2 ?_));exact(p.cons _).trans (jw hi)
end
theorem oM:entryFor table "set.__iter__"=O JR.«frozenset.__iter__»:=entryFor_alias (id':="frozenset.__iter__") (by kernel_rfl) rfl χ (by kernel_rfl)
theorem jP:VM (.type "set_iterator") "__next__"=pure (O (.builtin "set_iterator.__next__")):=by rw[VG,VD];kernel_rfl
section
variable{P:HL}{u:Ja}{A:HM}{E:Value->t2->Prop}{s:t2}{a:J9}{o:Obj}{es:Array (Int×Value)}{ep:Nat}{t:Jw}
noncomputable def k8(first:Value)(i:Int)(a:J9)(n ep:Nat):Obj:={cls:=.type "set_iterator",data:=.fields #[first,Ij i,.ref a,Ij n,Ij ep]}
theorem qd(g1:s.heap.get? a=O o)(g2:o.ExactSet)(g3:o.data=.set es ep t)(hf:t.fits es.size=D)(hb:es.size<Nc)
 (q1:∀(ys:Z Nat) d,c8 u=D->(t.plain=ξ/\1<es.size)->ys.Perm (HQ es.size)->Q (.ref (s.heap.objs.size+1)) {s with drawn:=d,heap:=(s.heap.push {cls:=.type "tuple",data:=.seq (ys.map λ(i:Nat)=>Ij i).toArray}).push (k8 (.ref s.heap.objs.size) 0 a es.size ep)})
 (q2:(c8 u=ξ∨¬ (t.plain=ξ/\1<es.size))->Q (.ref s.heap.objs.size) {s with heap:=s.heap.push (k8 (Ij 0) 0 a es.size ep)}):wpAny (model P u) A (PV (.ref a)) Q E s:=by
 have hT:s.TypeIs (.ref a) "set":=⟨o,g1,g2.1⟩;refine za7 hT F.slot_set_iter (Na F.slot_set_iter hT oM ?_ (F.args_set_iter_1 _));unfold JR.«frozenset.__iter__»;refine wB (wB (Hf (Hf ?_)));unfold JR.Frozenset.sizeOf VO;refine wB (wB (wB (NE g1 g3 hf (Hf (Hf ?_)))));unfold setDrawn Zr;refine wB (wB (NE g1 g3 hf (wB (wB (Ul (Hf (Hf ?_)))))));have hl:(!(u.params.followText "set-order"))=c8 u:=rfl;show wpAny (model P u) A.in1 (if(!(u.params.followText "set-order")&&(!t.plain&&decide (es.size > 1)))=D then(drawOrder es.size (HQ es.size) >>= λys=>VR (ys.map λ(i:Nat)=>Ij i) >>= λfirst=>setEpoch a >>= λe=>newFields "set_iterator" [first,Ij 0,.ref a,Ij es.size,Ij e] >>= λv=>ret v)else(pure (Ij 0) >>= λfirst=>setEpoch a >>= λe=>newFields "set_iterator" [first,Ij 0,.ref a,Ij es.size,Ij e] >>= λv=>ret v)) _ _ s;rw[hl];by_cases q:(c8 u&&(!t.plain&&decide (es.size > 1)))=D
 .rw[if_pos q];simp only[IH,PD,decide_eq_true_eq]at q;refine LG (ii _ _ Ξ λys d p=>?_);have Y:ys.length=es.size:=by rw[p.length_eq,RC]
  refine wB ?_;refine wpAny_newTuple ?_ (by rw[Hl,Y];exact Zd hb);unfold setEpoch;refine wB (wB (NE (s:={s with drawn:=d,heap:=s.heap.push {cls:=.type "tuple",data:=.seq (ys.map λ(i:Nat)=>Ij i).toArray}}) (gP _ g1) g3 hf (Hf ?_)));refine wB (Ma (Hf ⟨_,rfl,"set_iterator",_,⟨_,Ji _ rfl,rfl⟩,jP,?_⟩));have:=q1 ys d q.1 q.2 p;rw[MH];exact this
 .rw[if_neg q];refine wB (Hf ?_);unfold setEpoch;refine wB (wB (NE g1 g3 hf (Hf ?_)));refine wB (Ma (Hf ⟨_,rfl,"set_iterator",_,⟨_,Ji _ rfl,rfl⟩,jP,?_⟩));refine q2 ?_;by_cases h1:c8 u=D
  .right;intro z;exact q (by rw[h1,z.1];simp;exact z.2)
  .left;simpa using h1
end
theorem mW:Manifest.owners.lookup (String.ofList ['r','o','t','a','r','e','t','i','_','t','e','s'].reverse)=O Manifest.sig_set_iterator:=by kernel_rfl
theorem HI:Slot "set_iterator" "__next__" "set_iterator.__next__":=.of (owner:="set_iterator") (n:="__next__") (by rw[VG,VD];kernel_rfl) χ χ χ (by first|exact .inl χ|exact .inr χ) (by rw[zh0];kernel_rfl)
theorem g8:entryFor table "set_iterator.__next__"=O JR.«set_iterator.__next__»:=entryFor_of_tree (by kernel_rfl)
theorem fT(v:Value):argsOk "set_iterator.__next__" ⟨[v],[]⟩:=by unfold argsOk;rw[signature?_of (id:="set_iterator.__next__") (n:=['_','_','t','x','e','n','_','_']) (o:=['r','o','t','a','r','e','t','i','_','t','e','s']) (by kernel_rfl) mW];kernel_rfl
variable{first:Value}{ot:Obj}{m:Nat}
section
variable{P:HL}{u:Ja}{A:HM}{E:Value->t2->Prop}{s:t2}{a I:J9}{o:Obj}{es:Array (Int×Value)}{ep n:Nat}{t:Jw}
def IZ(h:Heap)(I:J9)(first:Value)(i:Nat)(a:J9)(n ep:Nat):Prop:=∃q,h.get? I=O q/\q.cls=.type "set_iterator"/\q.data=.fields #[first,Ij i,.ref a,Ij n,Ij ep]
theorem IZ.ty(x:IZ s.heap I first i a n ep):s.TypeIs (.ref I) "set_iterator":=let ⟨q,h,c,_⟩:=x;⟨q,h,c⟩
theorem k9{T:J9}{ps:Array Value}{hx:Int}{x:Value}{Q:C Value->t2->Prop}(Y:IZ s.heap I (.ref T) i a es.size ep)(g1:s.heap.get? a=O o)(g3:o.data=.set es ep t)(hf:t.fits es.size=D)(k1:s.heap.get? T=O ot)(k2:ot.data=.seq ps m)(hp:ps[i]?=O (Ij p))(hx:es[p]?=O (hx,x))
 (q:∀h',IZ h' I (.ref T) (i+1) a es.size ep->Pj I s.heap h'->Q (O x) {s with heap:=h'}):wpAny (model P u) A (MG (.ref I)) Q E s:=by
 obtain⟨oi,hi,hc,hd⟩:=id Y;unfold MG;refine wB (Up (Pd (name:=xv "__next__") Y.ty HI (Na HI Y.ty g8 ?_ (fT _))));unfold JR.«set_iterator.__next__»;refine wB (Hf (wB (Uo hi hd ?_)));unfold VO;refine wB (wB (NE g1 g3 hf (Hf ?_)));rw[if_neg Ξ];refine wB (VH k1 k2 ?_);dsimp only;rw[Ms,hp];show wpAny _ _ (setNextDrawn a ((p:Int)).toNat ((ep:Int)).toNat >>= λx=>QM (.ref I) 1 (Ij ((i:Int)+1)) >>= λ_=>ret x) _ _ s;rw[Ms,Ms];unfold setNextDrawn;refine wB (wB (NE g1 g3 hf ?_));dsimp only;rw[if_neg Ξ,hx];refine Hf ?_;refine LG (Pe hi hd Ξ ?_)
 have Ss:IZ (s.heap.update I (RQ (·.setIfInBounds 1 (Ij ((i:Int)+1))))) I (.ref T) (i+1) a es.size ep:=⟨_,Oq _ hi (RP (Ng hd _)),(VW ..).trans hc,by rw[Ng hd];simp[Ij]⟩
 exact Hf ⟨_,rfl,Hf (q _ Ss (N8 ..))⟩
end
set_option maxHeartbeats 400000
section
variable{P:HL}{u:Ja}{A:HM}{E:Value->t2->Prop}{s:t2}{a I:J9}{o:Obj}{es:Array (Int×Value)}{ep n:Nat}{t:Jw}
theorem l5{T:J9}{ps:Array Value}{m:Nat}{Q:C Value->t2->Prop}(calm:A.handled=V)(Y:IZ s.heap I (.ref T) es.size a es.size ep)(g1:s.heap.get? a=O o)(g3:o.data=.set es ep t)(hf:t.fits es.size=D)(k1:s.heap.get? T=O ot)(k2:ot.data=.seq ps m)(hp:ps.size=es.size)
 (q:∀h',ZB I s.heap h'->Q V {s with heap:=h'}):wpAny (model P u) A (MG (.ref I)) Q E s:=by
 obtain⟨oi,hi,hc,hd⟩:=id Y;unfold MG;refine wB (Up (Pd (name:=xv "__next__") Y.ty HI (Na HI Y.ty g8 ?_ (fT _))));unfold JR.«set_iterator.__next__»;refine wB (Hf (wB (Uo hi hd ?_)));unfold VO;refine wB (wB (NE g1 g3 hf (Hf ?_)));rw[if_neg Ξ];refine wB (VH k1 k2 ?_);dsimp only;rw[Ms,YR Θ];show wpAny _ _ (QM (.ref I) 0 (Ij 0) >>= λ_=>QM (.ref I) 2 .none >>= λ_=>Pi (.type "StopIteration") [] >>= λe=>Uw e) _ _ s;refine LG (Pe hi hd Ξ ?_);refine LG (Pe (Oq _ hi (RP (Ng hd _))) (Ng hd _) Ξ ?_);show wpAny _ _ (Pi (.type "StopIteration") [] >>= _) _ _ _;refine wB ?_;simp only[Pi,VR];refine wB (Ma ?_ (by size_fits));refine LG (m:=QJ _ _) (VL (a:=LI) (by first|rfl|(simp only[QJ];rfl)) ?_);refine Ma ?_ (by size_fits);simp only[Uw];refine wB (Zk ?_);rw[show A.in1.handled=V from calm];refine wB (Hf (Zo ?_));refine wB (VF (T:="StopIteration") (b:=true) ⟨_,Ji _ rfl,rfl⟩ zg9 ?_);exact Hf (q _ (((N8 ..).trans (N8 ..)).extBut.push _ |>.push _))
end
theorem tP{α:Type}(f:Nat->Nat):∀(n k:Nat)(l:Z α)(out:Array α),l.length=n->(zj8 f n k l out).toList.Perm (out.toList++l)
 |0,k,l,out,Y=>by have e:l=[]:=zc7.mp Y;subst e;rw[zj8,Pb]
 |n+1,k,l,out,Y=>by have q:f k%l.length<l.length:=Uh _ Θ;rw[zj8,gQ q];dsimp only;refine(tP f n (k+1) (l.eraseIdx (f k%l.length)) (out.push l[f k%l.length]) (by rw[qy4 q];lia)).trans ?_;rw[zb0,M7];exact zk6.append_left _ (jw q)
theorem tQ{α:Type}(f:Nat->Nat)(xs:Array α):(Ut f xs).toList.Perm xs.toList:=by have:=tP f xs.size 0 xs.toList #[] Ξ;simpa[Ut] using this
section
variable{P:HL}{u:Ja}{A:HM}{E:Value->t2->Prop}{s:t2}{a I:J9}{o:Obj}{es:Array (Int×Value)}{ep n:Nat}{t:Jw}
theorem fG{Q:C (Value×Nat)->t2->Prop}(Y:c8 u=ξ)(g1:s.heap.get? a=O o)(g3:o.data=.set es ep t)(hf:t.fits es.size=D)
 (q:Q (((Ut (u.params.setOrder a ep) es)[i]?).map λe=>(e.2,j)) s):wpAny (model P u) A (Ph a j i ep) Q E s:=by
 have hb:u.params.followText "set-order"=D:=by unfold c8 at Y;simpa using Y
 unfold Ph Zr;refine wB (NE g1 g3 hf (wB (wB (Ul (Hf ?_)))));show wpAny (model P u) A (if u.params.followText "set-order"=D then _ else _) Q E s;rw[if_pos hb,if_neg Ξ];unfold setWalk Zr;refine wB (wB (NE g1 g3 hf (wB (wB (Ul (Hf ?_))))));show wpAny (model P u) A (if u.params.followText "set-order"=D then _ else _) _ E s;rw[if_pos hb];refine wB (Ul (Hf ?_));exact Hf q
end
section
variable{P:HL}{u:Ja}{A:HM}{E:Value->t2->Prop}{s:t2}{a I:J9}{o:Obj}{es:Array (Int×Value)}{ep n:Nat}{t:Jw}
theorem f7{Q:C (Value×Nat)->t2->Prop}(Y:c8 u=D)(hld:t.led=D)(one:¬ (t.plain=ξ/\1<es.size))(g1:s.heap.get? a=O o)(g3:o.data=.set es ep t)(hf:t.fits es.size=D)
 (q:Q (match es[MI t.place j]?,t.place[MI t.place j]? with|some (_,x),O k=>O (x,k+1)|_,_=>V) s):wpAny (model P u) A (Ph a j i ep) Q E s:=by
 have hb:u.params.followText "set-order"=ξ:=by unfold c8 at Y;simpa using Y
 unfold Ph Zr;refine wB (NE g1 g3 hf (wB (wB (Ul (Hf ?_)))));show wpAny (model P u) A (if u.params.followText "set-order"=D then _ else if(!t.plain&&decide (es.size > 1))=D then _ else(if(!t.led&&!es.isEmpty)=D then unsupported "set:maker-not-led" else pure ()) >>= λ_=>pure (match es[MI t.place j]?,t.place[MI t.place j]? with|some (_,x),O k=>O (x,k+1)|_,_=>V)) Q E s;rw[hb,if_neg Ω,if_neg (by simpa using one),if_neg (by simp[hld])];exact wB (Hf (Hf q))
theorem lb{next:Nat}{x:Value}{Q:C Value->t2->Prop}(Y:IZ s.heap I (Ij j) i a es.size ep)(g1:s.heap.get? a=O o)(g3:o.data=.set es ep t)(hf:t.fits es.size=D)(hn:∀{A':HM}{Q':C (Value×Nat)->t2->Prop}{E':Value->t2->Prop},Q' (O (x,next)) s->wpAny (model P u) A' (Ph a j i ep) Q' E' s)
 (q:∀h',IZ h' I (Ij next) (i+1) a es.size ep->Pj I s.heap h'->Q (O x) {s with heap:=h'}):wpAny (model P u) A (MG (.ref I)) Q E s:=by
 obtain⟨oi,hi,hc,hd⟩:=id Y;unfold MG;refine wB (Up (Pd (name:=xv "__next__") Y.ty HI (Na HI Y.ty g8 ?_ (fT _))));unfold JR.«set_iterator.__next__»;refine wB (Hf (wB (Uo hi hd ?_)));unfold VO;refine wB (wB (NE g1 g3 hf (Hf ?_)));rw[if_neg Ξ];show wpAny _ _ (Ph a ((j:Int)).toNat ((i:Int)).toNat ((ep:Int)).toNat >>= _) _ _ s;rw[Ms,Ms,Ms];refine wB (hn ?_);show wpAny _ _ (QM (.ref I) 0 (Ij next) >>= λ_=>QM (.ref I) 1 (Ij ((i:Int)+1)) >>= λ_=>ret x) _ _ s;refine LG (Pe hi hd Ξ ?_);refine LG (Pe (Oq _ hi (RP (Ng hd _))) (Ng hd _) Ξ ?_);have e1:(s.heap.update I (RQ (·.setIfInBounds 0 (Ij next)))).get? I=O (RQ (·.setIfInBounds 0 (Ij next)) oi):=Oq _ hi (RP (Ng hd _));have d1:=Ng hd (·.setIfInBounds 0 (Ij next))
 have Ss:IZ ((s.heap.update I (RQ (·.setIfInBounds 0 (Ij next)))).update I (RQ (·.setIfInBounds 1 (Ij ((i:Int)+1))))) I (Ij next) (i+1) a es.size ep:=⟨_,Oq _ e1 (RP (Ng d1 _)),(VW ..).trans ((VW ..).trans hc),by rw[Ng d1];simp[Ij]⟩
 exact Hf ⟨_,rfl,Hf (q _ Ss ((N8 ..).trans (N8 ..)))⟩
theorem l6{Q:C Value->t2->Prop}(calm:A.handled=V)(Y:IZ s.heap I (Ij j) i a es.size ep)(g1:s.heap.get? a=O o)(g3:o.data=.set es ep t)(hf:t.fits es.size=D)(hn:∀{A':HM}{Q':C (Value×Nat)->t2->Prop}{E':Value->t2->Prop},Q' V s->wpAny (model P u) A' (Ph a j i ep) Q' E' s)
 (q:∀h',ZB I s.heap h'->Q V {s with heap:=h'}):wpAny (model P u) A (MG (.ref I)) Q E s:=by
 obtain⟨oi,hi,hc,hd⟩:=id Y;unfold MG;refine wB (Up (Pd (name:=xv "__next__") Y.ty HI (Na HI Y.ty g8 ?_ (fT _))));unfold JR.«set_iterator.__next__»;refine wB (Hf (wB (Uo hi hd ?_)));unfold VO;refine wB (wB (NE g1 g3 hf (Hf ?_)));rw[if_neg Ξ];show wpAny _ _ (Ph a ((j:Int)).toNat ((i:Int)).toNat ((ep:Int)).toNat >>= _) _ _ s;rw[Ms,Ms,Ms];refine wB (hn ?_);show wpAny _ _ (QM (.ref I) 2 .none >>= λ_=>Pi (.type "StopIteration") [] >>= λe=>Uw e) _ _ s;refine LG (Pe hi hd Ξ ?_);show wpAny _ _ (Pi (.type "StopIteration") [] >>= _) _ _ _;refine wB ?_;simp only[Pi,VR];refine wB (Ma ?_ (by size_fits));refine LG (m:=QJ _ _) (VL (a:=LI) (by first|rfl|(simp only[QJ];rfl)) ?_);refine Ma ?_ (by size_fits);simp only[Uw];refine wB (Zk ?_);rw[show A.in1.handled=V from calm];refine wB (Hf (Zo ?_));refine wB (VF (T:="StopIteration") (b:=true) ⟨_,Ji _ rfl,rfl⟩ zg9 ?_);exact Hf (q _ ((N8 ..).extBut.push _ |>.push _))
end
theorem f8:Slot "set_iterator" "__iter__" "set_iterator.__iter__":=.of (owner:="set_iterator") (n:="__iter__") (by rw[VG,VD];kernel_rfl) χ χ χ (by first|exact .inl χ|exact .inr χ) (by rw[zh0];kernel_rfl)
theorem ld:entryFor table "set_iterator.__iter__"=O JR.«dict_keyiterator.__iter__»:=entryFor_alias (id':="dict_keyiterator.__iter__") (by kernel_rfl) rfl χ (by kernel_rfl)
theorem jW(v:Value):argsOk "set_iterator.__iter__" ⟨[v],[]⟩:=by unfold argsOk;rw[signature?_of (id:="set_iterator.__iter__") (n:=['_','_','r','e','t','i','_','_']) (o:=['r','o','t','a','r','e','t','i','_','t','e','s']) (by kernel_rfl) mW];kernel_rfl
variable{ord:Nat->Value}
section
variable{P:HL}{u:Ja}{A:HM}{E:Value->t2->Prop}{s:t2}{a I:J9}{o:Obj}{es:Array (Int×Value)}{ep n:Nat}{t:Jw}
theorem gF(Y:IZ s.heap I first i a n ep)(q:Q (.ref I) s):wpAny (model P u) A (PV (.ref I)) Q E s:=by refine za7 Y.ty f8 (Na f8 Y.ty ld ?_ (jW _));show wpAny _ _ (ret (.ref I)) _ _ s;exact Hf ⟨_,rfl,"set_iterator",_,Y.ty,HI.lookup,q⟩
theorem oN{Q:Bool->t2->Prop}(hT:s.TypeIs (.ref a) "set")(q:Q ξ s):wpAny (model P u) A (Zu (.ref a)) Q E s:=by
 unfold Zu;refine wB (Zh hT PySem.F.slot_set_len.lookup ?_);generalize Y:("set.__len__":String)=id0
 wp_delta
 rw[show splitId id0=O ("set","__len__")from by subst Y;decide +kernel];subst Y;refine wB (VF (T:="set") (b:=true) hT sub_set_self ?_);refine QI (λz=>absurd z Ω) (λ_=>?_);refine QI (λ_=>wB (Uq hT (Hf q))) (λz=>absurd χ z)
theorem IZ.keep(x:IZ h I first i a n ep)(e:∀q,h.get? I=O q->h'.get? I=O q):IZ h' I first i a n ep:=let ⟨q,g,r⟩:=x;⟨q,e q g,r⟩
theorem rM {T:J9} {ps:Array Value} (Y:A.handled=V) (g3:o.data=.set es ep t) (hf:t.fits es.size=D) (k2:ot.data=.seq ps m) (hps:ps.size=es.size) (hI:I≠a) (hIT:I≠T) (hord:∀ i,i<es.size->∃ p hx,ps[i]?=O (Ij (p:Nat))/\es[p]?=O (hx,ord i)) :
  WalksS P u A I [I,a,T] [I] (λx y=>y=x) es.size (λi v=>v=ord i) (λi s=>IZ s.heap I (.ref T) i a es.size ep/\s.heap.get? a=O o/\s.heap.get? T=O ot) where
 sub:=λb hb=>by rw[HK.mp hb];exact .head _
 grefl:=λ_=>rfl
 gtrans:=λ_ _ _ h1 h2=>h2.trans h1
 frame:=λi s h' tk ⟨x,y,z⟩ _ e=>⟨x.keep λq g=>e I (.head _) q g,e a (.tail _ (.head _)) _ y,e T (.tail _ (.tail _ (.head _))) _ z⟩
 item:=λi s Q E hi ⟨x,y,z⟩ q=>by
  obtain⟨p,hx,h1,h2⟩:=hord i hi;refine k9 x y g3 hf z k2 h1 h2 λh' it sb=>q _ _ rfl ⟨it,(sb.2 a (L1 hI)).trans y,(sb.2 T (L1 hIT)).trans z⟩ ⟨λb ob hb e=>?_,rfl,rfl,rfl,HG _⟩
  exact(sb.2 b (λw=>hb (by rw[w];exact .head _))).trans e
 done:=λs Q E ⟨x,y,z⟩ q=>l5 Y x y g3 hf z k2 hps λh' eb=>q _ ⟨λb ob hb e=>eb b ob (λw=>hb (by rw[w];exact .head _)) e,rfl,rfl,rfl,HG _⟩
 self:=λi s Q E ⟨x,_⟩ q=>gF x q
end
section
variable{P:HL}{u:Ja}{K:Type}[DecidableEq K]{κ:SK P u K}{A:HM}{E:Value->t2->Prop}{s:t2}{a I:J9}{o:Obj}{es:Array (Int×Value)}{ep n:Nat}{t:Jw}
theorem lg{sl:Nat->Nat}(Y:A.handled=V)(g3:o.data=.set es ep t)(hf:t.fits es.size=D)(hI:I≠a)
 (hn:∀i,i<es.size->∀(s:t2),s.heap.get? a=O o->∀{A':HM}{Q':C (Value×Nat)->t2->Prop}{E':Value->t2->Prop},Q' (O (ord i,sl (i+1))) s->wpAny (model P u) A' (Ph a (sl i) i ep) Q' E' s)
 (he:∀(s:t2),s.heap.get? a=O o->∀{A':HM}{Q':C (Value×Nat)->t2->Prop}{E':Value->t2->Prop},Q' V s->wpAny (model P u) A' (Ph a (sl es.size) es.size ep) Q' E' s) :
  WalksS P u A I [I,a] [I] (λx y=>y=x) es.size (λi v=>v=ord i) (λi s=>IZ s.heap I (Ij (sl i)) i a es.size ep/\s.heap.get? a=O o) where
 sub:=λb hb=>by rw[HK.mp hb];exact .head _
 grefl:=λ_=>rfl
 gtrans:=λ_ _ _ h1 h2=>h2.trans h1
 frame:=λi s h' tk ⟨x,y⟩ _ e=>⟨x.keep λq g=>e I (.head _) q g,e a (.tail _ (.head _)) _ y⟩
 item:=λi s Q E hi ⟨x,y⟩ q=>lb x y g3 hf (hn i hi s y) λh' it sb=>q _ _ rfl ⟨it,(sb.2 a (L1 hI)).trans y⟩ ⟨λb ob hb e=>(sb.2 b (λw=>hb (by rw[w];exact .head _))).trans e,rfl,rfl,rfl,HG _⟩
 done:=λs Q E ⟨x,y⟩ q=>l6 Y x y g3 hf (he s y) λh' eb=>q _ ⟨λb ob hb e=>eb b ob (λw=>hb (by rw[w];exact .head _)) e,rfl,rfl,rfl,HG _⟩
 self:=λi s Q E ⟨x,_⟩ q=>gF x q
inductive Jh(κ:SK P u K):List Value->List K->Prop
 |nil:Jh κ [] []
 |cons (k:K) (t:Tok) {vs:List Value} {ks:List K}:Jh κ vs ks->Jh κ (κ.put k t::vs) (k::ks)
theorem Jh.len{vs:Z Value}{ks:Z K}(h:Jh κ vs ks):vs.length=ks.length:=by
 induction h with
 |nil=>rfl
 |cons y tk _ q=>simp[q]
theorem qe{ss:Z K}{l m:Z (Int×Value)}(x:Tx κ l ss)(p:m.Perm l):∃ks,Jh κ (m.map (·.2)) ks/\ks.Perm ss:=by
 have y:=x.perm p;refine⟨m.map λe=>κ.of e.2,?_,y.Sq⟩
 have q:∀m:Z (Int×Value),(∀e∈m,∃k t,e.2=κ.put k t/\e.1=κ.knd.hash k)->Jh κ (m.map (·.2)) (m.map λe=>κ.of e.2):=λm=>by
  induction m with
  |nil=>intro _;exact .nil
  |cons e m ih=>intro h;obtain⟨k,tk,h1,_⟩:=h e Ξ;rw[Ia,Ia,h1,κ.NU];exact .cons k tk (ih λz Y=>h z (by simp[Y]))
 exact q m y.all
theorem oO{ss:Z K}(hS:K9 κ s.heap a ss (c8 u))
 (q:∀(I:J9)(fp:Z J9)(vs:Z Value)(ks:Z K)(St:Nat->t2->Prop)(d:Drawn)(h':Heap),(∀A':HM,A'.handled=V->WalksS P u A' I fp [I] (λx y=>y=x) vs.length (λi v=>v=vs.getD i .none) St)->St 0 {s with drawn:=d,heap:=h'}->(∀b∈fp,b<h'.objs.size/\(b=a∨s.heap.objs.size<=b))->(∀b ob,s.heap.get? b=O ob->h'.get? b=O ob)->s.heap.objs.size<=I->Jh κ vs ks->ks.Perm ss->Q (.ref I) {s with drawn:=d,heap:=h'}) :
  wpAny (model P u) A (PV (.ref a)) Q E s:=by
 obtain⟨o,es,ep,t,g1,g2,g3,x,hb,hf,hl,hp⟩:=hS.ex;have la:a<s.heap.objs.size:=Ih g1;refine qd g1 g2 g3 hf hb (λys d W9 hd p=>?_) (λhm=>?_)
 . -- drawn
   have hyl:ys.length=es.size:=by rw[p.length_eq,RC]
   have perm:(ys.map λi=>es.toList.getD i (0,.none)).Perm es.toList:=by
    refine(p.map _).trans ?_
    have e:(HQ es.size).map (λi=>es.toList.getD i (0,.none))=es.toList:=by
     apply Uc
     .simp
     .intro i h1 h2;simp at h1 h2;simp[h2]
    rw[e]
   obtain⟨ks,k1,k2⟩:=qe x perm;have hlen:((ys.map λi=>es.toList.getD i (0,.none)).map (·.2)).length=es.size:=by rw[Hl,Hl,hyl]
   refine q (s.heap.objs.size+1) [s.heap.objs.size+1,a,s.heap.objs.size] ((ys.map λi=>es.toList.getD i (0,.none)).map (·.2)) ks (λi s'=>IZ s'.heap (s.heap.objs.size+1) (.ref s.heap.objs.size) i a es.size ep/\s'.heap.get? a=O o/\s'.heap.get? s.heap.objs.size=O {cls:=.type "tuple",data:=.seq (ys.map λ(i:Nat)=>Ij i).toArray}) d _ (λA' Y=>?_) ⟨⟨k8 (.ref s.heap.objs.size) 0 a es.size ep,?_,rfl,rfl⟩,?_,?_⟩ ?_ ?_ (QH _) k1 k2
   .rw[hlen];refine rM Y g3 hf rfl (by simp[hyl]) (Pc (PM la)) (Nat.succ_ne_self _) λi hi=>?_
    have Rg:i<ys.length:=by lia
    have hy:ys[i]<es.size:=IS.mp (p.mem_iff.mp (QF Rg));refine⟨ys[i],es[ys[i]].1,by simp[Rg],?_⟩;simp[Rg,hy]
   .have:=Ji (s.heap.push {cls:=.type "tuple",data:=.seq (ys.map λ(i:Nat)=>Ij i).toArray}) (o:=k8 (.ref s.heap.objs.size) 0 a es.size ep) rfl;rw[MH]at this;exact this
   .exact gP _ (gP _ g1)
   .exact gP _ (Ji _ rfl)
   .intro b hb;rw[MH,MH];rcases HU.mp hb with rfl|hb
    .exact⟨Ue _,.inr (QH _)⟩
    .rcases HU.mp hb with rfl|hb
     .exact⟨PM (PM la),.inl rfl⟩
     .rw[HK.mp hb];exact⟨PM (Ue _),.inr (HG _)⟩
   .exactλb ob e=>gP _ (gP _ e)
 . -- by Oa world's text,or one at most
   have fin:∀(m:Z (Int×Value))(sl:Nat->Nat),m.Perm es.toList->sl 0=0->(∀A':HM,A'.handled=V->WalksS P u A' s.heap.objs.size [s.heap.objs.size,a] [s.heap.objs.size] (λx y=>y=x) es.size (λi v=>v=(m.map (·.2)).getD i .none) (λi s'=>IZ s'.heap s.heap.objs.size (Ij (sl i)) i a es.size ep/\s'.heap.get? a=O o))->Q (.ref s.heap.objs.size) {s with heap:=s.heap.push (k8 (Ij 0) 0 a es.size ep)}:=λm sl p h0 W=>by
    obtain⟨ks,k1,k2⟩:=qe x p;have hlen:(m.map (·.2)).length=es.size:=by rw[Hl,p.length_eq,M6]
    have:=q s.heap.objs.size [s.heap.objs.size,a] (m.map (·.2)) ks (λi s'=>IZ s'.heap s.heap.objs.size (Ij (sl i)) i a es.size ep/\s'.heap.get? a=O o) s.drawn (s.heap.push (k8 (Ij 0) 0 a es.size ep)) (by rw[hlen];exact W) ⟨⟨k8 (Ij 0) 0 a es.size ep,Ji _ rfl,rfl,by rw[h0];rfl⟩,gP _ g1⟩ (λb hb=>by
     rw[MH];rcases HU.mp hb with rfl|hb
     .exact⟨Ue _,.inr (HG _)⟩
     .rw[HK.mp hb];exact⟨PM la,.inl rfl⟩) (λb ob e=>gP _ e) (HG _) k1 k2
    exact this
   have ne:s.heap.objs.size≠a:=Pc la;by_cases Z6:c8 u=ξ
   .refine fin (Ut (u.params.setOrder a ep) es).toList (λ_=>0) (tQ _ _) rfl λA' Y=>?_
    have hsz:(Ut (u.params.setOrder a ep) es).size=es.size:=by have:=(tQ (u.params.setOrder a ep) es).length_eq;simpa using this
    refine lg Y g3 hf ne (λi hi s' gs A' Q' E' q'=>fG Z6 gs g3 hf ?_) (λs' gs A' Q' E' q'=>fG Z6 gs g3 hf ?_)
    .have Rg:i<(Ut (u.params.setOrder a ep) es).size:=by lia
     rw[RA Rg];simpa[Rg] using q'
    .rw[YR Θ];exact q'
   .have W9:c8 u=D:=by simpa using Z6
    have one:¬ (t.plain=ξ/\1<es.size):=by
     rcases hm with h1|h1
     .exact absurd h1 Z6
     .exact h1
    have MN:t.place.size=es.size:=by unfold Jw.fits at hf;simp at hf;exact hf.1
    refine fin es.toList (λi=>if h:0<i/\i<=t.place.size then t.place[i-1]+1 else 0) (Y6 _) Ξ λA' Y=>?_
    have low:∀i,i<=es.size->MI t.place (if h:0<i/\i<=t.place.size then t.place[i-1]+1 else 0)=i:=λi hi=>by
     by_cases h0:i=0
     .subst h0;simp[qa hp]
     .rw[dif_pos ⟨Θ,Θ⟩,rH hp Θ];lia
    refine lg Y g3 hf ne (λi hi s' gs A' Q' E' q'=>f7 W9 (hl.trans W9) one gs g3 hf ?_) (λs' gs A' Q' E' q'=>f7 W9 (hl.trans W9) one gs g3 hf ?_)
    .rw[low i (ND hi),RA hi,RA Θ];rw[dif_pos ⟨Θ,Θ⟩]at q';simpa[hi] using q'
    .rw[low _ (HG _),YR Θ];exact q'
end
section
variable{P:HL}{u:Ja}{K:Type}[DecidableEq K]{κ:SK P u K}{A:HM}{E:Value->t2->Prop}{s:t2}{a:J9}
theorem K9.small{ss:Z K}(x:K9 κ h a ss led):ss.length<Nc/\∃o,h.get? a=O o/\o.cls=.type "set":=by obtain⟨o,es,ep,t,g1,g2,Y,y,q,_⟩:=x.ex;refine⟨?_,o,g1,g2.1⟩;rw[<- y.Sq.length_eq,Hl,M6];exact q
theorem jX {ss:Z K} {Q:Z Value->t2->Prop} (calm:A.handled=V) (hS:K9 κ s.heap a ss (c8 u))
  (q:∀(vs:Z Value)(ks:Z K)(d:Drawn)(h':Heap)(tk:Nat),Jh κ vs ks->ks.Perm ss->s.heap.objs.size<=h'.objs.size->(∀b ob,s.heap.get? b=O ob->h'.get? b=O ob)->Q vs {s with drawn:=d,heap:=h',toks:=tk}):wpAny (model P u) A (collect (.ref a)) Q E s:=by
 obtain⟨hsz,o,g1,gc⟩:=hS.small;have la:a<s.heap.objs.size:=Ih g1;unfold collect;refine wB (wpAny_runValue (Um PySem.F.entry_proto_collect ?_));rw[VS PySem.F.plain_proto_collect _];show wpAny _ A.in1 (newList [] >>= λl=>again (.builtin "list.__iadd__" ⟨[l,.ref a],[]⟩)) _ _ s;refine wB (Ma ?_);refine Hf ⟨VI PySem.F.plain_list_iadd _,Um PySem.F.entry_list_iadd ?_⟩;rw[VS PySem.F.plain_list_iadd _];show wpAny _ A.in1 (Ux (.ref s.heap.objs.size) (.ref a) (.ref s.heap.objs.size)) _ _ _;have hS1:K9 κ (s.heap.push {cls:=.type "list",data:=.seq ([]:Z Value).toArray}) a ss (c8 u):=hS.moved λob e=>gP _ e
 have hT1:zi9 {s with heap:=s.heap.push {cls:=.type "list",data:=.seq ([]:Z Value).toArray}} (.ref a) "set":=⟨o,gP _ g1,gc⟩;have gL:(s.heap.push {cls:=.type "list",data:=.seq ([]:Z Value).toArray}).get? s.heap.objs.size=O {cls:=.type "list",data:=.seq ([]:Z Value).toArray}:=Ji _ rfl;unfold Ux;refine wB (Uq hT1 ?_);have h1:Zv (.ref s.heap.objs.size) (.ref a)=ξ:=by simp[Zv,Pc la]
 have h2:(Nh "set"==Nh "list")=ξ:=by decide
 have h3:(Nh "set"==Nh "tuple")=ξ:=by decide
 simp only[h1,h2,h3,YS,Oi,if_false];refine wB (oO (s:={s with heap:=s.heap.push {cls:=.type "list",data:=.seq ([]:Z Value).toArray}}) hS1 λI fp vs ks St d h' W st hfp keep hI k1 k2=>?_);have hTI:zi9 {s with drawn:=d,heap:=h'} (.ref a) "set":=⟨o,keep a o (gP _ g1),gc⟩;refine wB (NF (oN hTI ?_));show wpAny _ A.in1 (rule "list.extend.makes-room" >>= λ_=>JR.List.listTouch (.ref s.heap.objs.size) >>= λ_=>again (.builtin "list.extend.loop" ⟨[.ref s.heap.objs.size,.ref I,.ref s.heap.objs.size],[]⟩)) _ _ _;refine wB (RM (wB ?_));have gL1:=keep _ _ gL;show wpAny _ A.in1 (updateSeq s.heap.objs.size (·.push .none) >>= λ_=>updateSeq s.heap.objs.size (·.pop)) _ _ _;refine wB (zg2 gL1 rfl ?_);have gL2:=Oq (Os (·.push LI)) gL1 rfl;refine zg2 gL2 rfl ?_;have gL3:=Oq (Os (·.pop)) gL2 rfl;have Su:∀b ob,b≠s.heap.objs.size->h'.get? b=O ob->((h'.update s.heap.objs.size (Os (·.push LI))).update s.heap.objs.size (Os (·.pop))).get? b=O ob:=λb ob hb e=>(VU _ _ (L1 hb)).trans ((VU _ _ (L1 hb)).trans e)
 have out:s.heap.objs.size∉fp:=λhm=>by
  rcases(hfp _ hm).2 with z|z
  .exact Pc la z
  .have z:(s.heap.push {cls:=.type "list",data:=.seq ([]:Z Value).toArray}).objs.size<=s.heap.objs.size:=z;rw[MH]at z;exact Nat.not_succ_le_self _ z
 have W1:=W A.in1 (by simp[calm])
 have Z0:vs.length<=Hz:=by
  have e:vs.length=ss.length:=by rw[<- k2.length_eq];exact k1.len
  rw[e];exact Zd hsz
 refine Hf ⟨VI PySem.F.plain_extend_loop _,codeAny_extend_loopS W1 Z0 _ out _ vs.length 0 _ _ _ rfl (M8 _) (W1.frame 0 ({s with drawn:=d,heap:=h'}:t2) _ s.toks st (HG _) λb hb ob e=>Su b ob (λh=>out (h▸hb)) e) gL3 (ItemsOf.nil _) λs2 J5 c2 mv gS2 Y=>?_⟩;show wpAny _ A (load s.heap.objs.size >>= _) _ _ s2;refine wB (wpAny_load gS2 ?_)
 have hav:J5.toList=vs:=by
  apply Uc
  .simpa using Y.1
  .intro i h1 h2;have:=Y.2 i J5.toList[i] Ξ;rw[this];simp[h2]
 rw[<- hav]at k1;obtain⟨LO,Qf,d2',tk2',o2'⟩:=s2;have eg:Qf=s.gens:=mv.gens;have ed:d2'=d:=mv.drawn;have eo:o2'=s.os:=mv.os;subst eg ed eo;refine Hf (q J5.toList ks d2' LO tk2' k1 k2 (ND (Ih gS2)) λb ob e=>?_);have nb:b≠s.heap.objs.size:=Js (Ih e);refine mv.heap b ob (λhm=>?_) (Su b ob nb (keep b ob (gP _ e)));rcases HU.mp hm with z|z
 .exact nb z
 .rw[HK.mp z]at e;have z2:(s.heap.push {cls:=.type "list",data:=.seq ([]:Z Value).toArray}).objs.size<=I:=hI;rw[MH]at z2;exact absurd (Ih e) (Ug.mpr (Nat.le_of_succ_le z2))
end
section
variable{P:HL}{u:Ja}{K:Type}[DecidableEq K]{κ:SK P u K}{A:HM}{E:Value->t2->Prop}{s:t2}{a:J9}
def j9(κ:SK P u K)(q:Z K->Z K):Prop:=∀{A:HM}{E:Value->t2->Prop}{s:t2}{a:J9}{vs:Z Value}{ks:Z K}{n:Nat}{Q:Fin->t2->Prop},s.heap.get? a=O (seqObj "list" vs.toArray n)->Jh κ vs ks->vs.length<64→ (∀out:Array Value,Jh κ out.toList (q ks)->Q (.done (.ret .none)) {s with heap:=sortedHeap s.heap a vs out})->wpAny (model P u) A (JR.«list.sort» ⟨[.ref a],[]⟩) Q E s
theorem lh{ss:Z K}{Y:Z K->Z K}(hs:j9 κ Y)(pm:∀{ks},ks.Perm ss->Y ks=Y ss)(calm:A.handled=V)(hS:K9 κ s.heap a ss (c8 u))(few:ss.length<64)
 (q:∀(l:J9)(out:Array Value)(d:Drawn)(h':Heap)(tk:Nat),Jh κ out.toList (Y ss)->(∃e,h'.get? l=O (seqObj "list" out e))->s.heap.objs.size<=l->(∀b ob,s.heap.get? b=O ob->h'.get? b=O ob)->Q (.ref l) {s with drawn:=d,heap:=h',toks:=tk}):wpAny (model P u) A (call (.builtin "sorted") [.ref a]) Q E s:=by
 refine Calls.call_function_entry kind_sorted plain_sorted entry_sorted (args_sorted1 _) ?_;unfold JR.«sorted»;refine wB (m:=checkCount "sorted" 1 1 _) (Hf ?_);refine LG (jX (by simp[calm]) hS λvs ks d h' tk k1 k2 le keep=>?_);have hlen:vs.length<64:=by rw[k1.len,k2.length_eq];exact few
 refine wB (wpAny_newList ?_ (Iw (ND hlen) Ω));have gL:(h'.push (seqObj "list" vs.toArray 0)).get? h'.objs.size=O (seqObj "list" vs.toArray 0):=Ji _ rfl;show wpAny _ _ _ _ _ {s with drawn:=d,toks:=tk,heap:=h'.push (seqObj "list" vs.toArray 0)};refine wB (NF (Na slot_list_sort ⟨_,gL,rfl⟩ entry_list_sort (hs gL k1 hlen λout a1=>⟨_,rfl,?_⟩) (args_list_sort _)));refine Hf ⟨_,rfl,?_⟩;refine q _ _ d _ tk (pm k2▸a1) (sortedHeap_at gL) le λb ob e=>?_
 have lt:b<h'.objs.size:=Ih (keep b ob e);rw[sortedHeap_old (Js lt) (by rw[size_push'];exact PM lt)];exact gP _ (keep b ob e)
end
section
variable{P:HL}{u:Ja}
theorem xC{vs:Z Value}{ks:Z Str}(h:Jh (u8 P u) vs ks):StrsAre vs ks:=by
 induction h with
 |nil=>exact .nil
 |cons k t _ q=>exact .cons k t q
theorem xD{vs:Z Value}{ks:Z Str}(h:StrsAre vs ks):Jh (u8 P u) vs ks:=by
 induction h with
 |nil=>exact .nil
 |cons k t _ q=>exact Jh.cons (κ:=u8 P u) k t q
theorem xE:j9 (u8 P u) cY:=λ{A E s a vs ks n Q} g k hlen q=>by
 have k1:=xC k;refine list_sort_treeK strKind_oneLt g k1.keysOf (λv1 v2 r e=>keyKind_strs (by rw[<- e];exact k1)) hlen λst a1 a2=>?_
 obtain⟨Y,e1,e2,e3⟩:=sorted_out_str k1 a1 a2;have e:Y=cY ks:=g7 (e2.trans (cb ks).symm) (mR Y e3) (gE ks);exact q _ (xD (e▸e1))
theorem xF{ss ks:Z Str}(p:ks.Perm ss):cY ks=cY ss:=g7 ((cb ks).trans (p.trans (cb ss).symm)) (gE ks) (gE ss)
end
section
variable{K:Type}[DecidableEq K]
def bZ(ss:Z K):Z K:=ss.foldl fS []
theorem mX[Inhabited K](ss:Z K):met (λi=>ss.getD i default) ss.length=bZ ss:=by
 unfold met bZ;congr 1;apply Uc
 .simp
 .intro i h1 h2;simp at h1;simp[h1]
theorem mY[Inhabited K](ss:Z K):(bZ ss).length<=ss.length:=by rw[<- mX];exact oK _ _
end
theorem nC.dr(I:nC X J1 G H s)(d:Drawn):nC X J1 G H {s with drawn:=d}:=⟨I.ok,I.os,I.bare,I.base,I.loc,I.cell,I.free,I.Iz,I.pin,I.Hm,I.len⟩
section
variable{X:Cx}{K:Type}[DecidableEq K][Inhabited K]{κ:SK X.prog X.w K}{kv:K->ψ}
theorem xG:∀{vs:Z Value}{ss:Z K},Jh κ vs ss->∀(i:Nat)(v:Value),vs[i]?=O v->∃t,v=κ.put (ss.getD i default) t
 |_,_,.nil,i,v,h=>by simp at h
 |_,_,.cons y t r,0,v,h=>by simp at h;exact⟨t,by rw[<- h];rfl⟩
 |_,_,.cons y t r,i+1,v,h=>xG r i v (by simpa using h)
abbrev qf(κ:SK X.prog X.w K)(l:J9)(ss:Z K):HO:=.ext λh=>K9 κ h l ss (c8 X.w)
def rN(κ:SK X.prog X.w K)(kv:K->ψ):Prop:=∀k v,BI (kv k) v↔∃t,v=κ.put k t
theorem qg(hk:rN κ kv):∀{ss:Z K}{J8:Z Value},Da (ss.map kv) J8->Jh κ J8 ss
 |[],_,h=>by cases h;exact .nil
 |x::ss,_,h=>by
  cases h with
  |cons h1 h2=>obtain⟨t,rfl⟩:=(hk x _).mp h1;exact .cons x t (qg hk h2)
theorem qh(hk:rN κ kv):∀{J8:Z Value}{ss:Z K},Jh κ J8 ss->Da (ss.map kv) J8
 |_,_,.nil=>.nil
 |_,_,.cons x t h=>.cons ((hk x _).mpr ⟨t,rfl⟩) (qh hk h)
theorem mZ(hk:rN κ kv)(calm:X.calm=D):Hw X (.type "set") (λxs H Q=>∃p ss,xs=[.ref p]/\Io X.K H p (ss.map kv)/\ss.length<4000/\∀l,H l=V->Q (.ref l) (upd H l (qf κ l (bZ ss)))):=by
 intro J1 s G H xs us Q I r h;obtain⟨p,ss,rfl,hq,hz,q⟩:=h;obtain⟨u,rfl,rx⟩:=d4 r;cases rx;obtain⟨J8,r',pl,Sn⟩:=I.list hq;have hS:=qg hk r';have Y:J8.length=ss.length:=by have:=r'.length;simpa using this.symm
 have hi:∀(i:Nat)(v:Value),J8.toArray[i]?=O v->∃t,v=κ.put (ss.getD i default) t:=λi v hv=>xG hS i v (by simpa using hv)
 have hb:J8.toArray.size+1<Nc:=by
  have:J8.toArray.size=ss.length:=by simpa using Y
  rw[this];unfold Nc;lia
 refine xB (I.ok.hd calm) pl.isList hi hb λhp tk hT kept=>?_
 have e:met (λi=>ss.getD i default) J8.toArray.size=bZ ss:=by rw[show J8.toArray.size=ss.length by simpa using Y];exact mX ss
 rw[e]at hT;refine⟨.ref s.heap.objs.size,_,I.laid (t':=tk) (λb o g=>kept b o (Ih g) g) (HG _) (show Hn X.prog X.w _ _ _ (qf κ s.heap.objs.size (bZ ss))from⟨hT,?_,λh1 h2 x g=>x.moved g⟩),rfl,q _ (I.Hm.fresh (HG _))⟩;obtain⟨_,o,g,_⟩:=hT.small;exact⟨o,g⟩
theorem oP{Y:Z K->Z K}(hk:rN κ kv)(hs:j9 κ Y)(pm:∀{ss ks},ks.Perm ss->Y ks=Y ss)(pl:∀ss,(Y ss).length=ss.length)(calm:X.calm=D):Hw X (.builtin "sorted") (λxs H Q=>∃p ss,xs=[.ref p]/\H p=O (qf κ p ss)/\ss.length<64/\∀l,H l=V->Q (.ref l) (upd H l (.e ((Y ss).map kv)))):=by
 intro J1 s G H xs us Q I r h;obtain⟨p,ss,rfl,hq,hz,q⟩:=h;obtain⟨u,rfl,rx⟩:=d4 r;cases rx;have hT:K9 κ s.heap p ss (c8 X.w):=(show Hn X.prog X.w H s.heap p (qf κ p ss)from I.Hm p _ hq).1;refine lh hs pm (I.ok.hd calm) hT hz λl out d h' tk a1 hc le kept=>?_
 obtain⟨c,hc⟩:=hc;refine⟨.ref l,_,(I.laid (t':=tk) kept le (show Hn X.prog X.w _ _ _ (.e ((Y ss).map kv))from⟨?_,out.toList,c,qh hk a1,hc⟩)).dr d,rfl,q _ (I.Hm.fresh le)⟩;rw[Hl,pl];exact Iw (ND hz) Ω
end
theorem kvS{X:Cx}:rN (X:=X) (u8 X.prog X.w) ψ.str:=λ_ _=>Iff.rfl
theorem kvI{X:Cx}:rN (X:=X) (DR X.prog X.w) ψ.int:=λ_ _=>Iff.rfl
def Av{K:Type}[DecidableEq K](rd:Z Dt->C (Z K))(q:Z K->Z K)(wr:K->Dt):Z Dt->C T
 |[.e ds]=>(rd ds).bind λss=>if ss.length<4000/\(bZ ss).length<64 then O (.e ((q (bZ ss)).map wr))else V
 |_=>V
noncomputable def l7:Z Dt->C (Z Int)
 |[]=>O []
 |.int k::r=>(l7 r).map (k::·)
 |_=>V
theorem oQ{F:Hp}:∀{l:Z Dt}{vs:Z ψ}{bs:Z Int},hX K F l vs->l7 l=O bs->vs=bs.map ψ.int
 |[],vs,bs,r,h=>by cases h;simp only[hX]at r;exact r
 |d::l,vs,bs,r,h=>by
  cases d<;>first|cases h;done|skip
  simp only[l7]at h;obtain⟨cs,q,h⟩:=mS h;cases h;simp only[hX,G3]at r;obtain⟨v,ws,rfl,rfl,Y⟩:=r;rw[oQ Y q];rfl
def gG:Z Dt->C T:=Av fO cY .str
section
variable{X:Cx}{e:Jc}{pos Ir p p2:Pos}{sc:Jd}{fs:De->C (Z Dt)}
theorem DU {K:Type} [DecidableEq K] [Inhabited K] {rd:Z Dt->C (Z K)} {q:Z K->Z K} {wr:K->Dt} (κ:SK X.prog X.w K) {kv:K->ψ} (hk:rN κ kv) (hs:j9 κ q) (pm:∀ {ss ks},ks.Perm ss->q ks=q ss) (pl:∀ ss,(q ss).length=ss.length)
  (hr:∀{F:Hp}{l:Z Dt}{vs:Z ψ}{bs:Z K},hX X.K F l vs->rd l=O bs->vs=bs.map kv) (hw:∀{F:Hp}(ns:Z K),hX X.K F (ns.map wr) (ns.map kv))
  (h1:aw sc "sorted"=D) (h2:aw sc "set"=D) (hc:X.calm=D) (m1:X.mg "sorted"=V) (m2:X.mg "set"=V) (ha:Mz X [e] fs) (e1:bT X sc)
  (s1:G7 [.Call (.Name "set" p2) [e] [] Ir] X.env=(ξ,eval (.Call (.Name "set" p2) [e] [] Ir) X.env)::G7 [] X.env) (n1:(IK pos (G7 [] X.env)).any (·.1)=ξ)
  (s2:G7 [e] X.env=(ξ,eval e X.env)::G7 [] X.env) (n2:(IK Ir (G7 [] X.env)).any (·.1)=ξ):DO X (.Call (.Name "sorted" p) [.Call (.Name "set" p2) [e] [] Ir] [] pos) (ag (Av rd q wr) fs):=
 PE.mono (g0 h1 (oP hk hs pm pl hc) m1 (by rfl) (bM (iq h2 (mZ hk hc) m2 (by rfl) ha.pa e1 s2 n2) dN s1) e1 s1 n1) λG H Q ⟨Φ,J,F,t,hK,en,hf,k⟩=>by
  unfold ag at hf;obtain⟨ds,hd,Y⟩:=bS hf;refine⟨Φ,J,F,ds,hK,en,hd,λvs H1 F1 st r=>?_⟩;unfold Av at Y;split at Y<;>first|(cases Y;done)|skip
  obtain⟨ss,hs,Y⟩:=bS Y;split at Y<;>cases Y
  rename_i hz;obtain⟨v,rfl,rv⟩:=cy r;obtain⟨b,ws,rfl,g1,g2⟩:=rv;have:=hr g2 hs;subst this;refine⟨b,ss,rfl,g1,hz.1,λl hl=>?_⟩;have JA:Hc F1 H1 F1 (upd H1 l (qf κ l (bZ ss))):=Hc.made st.fh hl;refine⟨l,bZ ss,rfl,aA,hz.2,λl2 P9=>?_⟩;exact dy (k.step (st.trans JA)) JA.fh (hw _) P9
theorem lj (h1:aw sc "sorted"=D) (h2:aw sc "set"=D) (hc:X.calm=D) (Y:X.mg "sorted"=V) (m2:X.mg "set"=V) (ha:Mz X [e] fs) (e1:bT X sc:=by rfl)
  (s1:G7 [.Call (.Name "set" p2) [e] [] Ir] X.env=(ξ,eval (.Call (.Name "set" p2) [e] [] Ir) X.env)::G7 [] X.env:=by rfl) (n1:(IK pos (G7 [] X.env)).any (·.1)=ξ:=by rfl)
  (q:G7 [e] X.env=(ξ,eval e X.env)::G7 [] X.env:=by rfl) (n2:(IK Ir (G7 [] X.env)).any (·.1)=ξ:=by rfl):DO X (.Call (.Name "sorted" p) [.Call (.Name "set" p2) [e] [] Ir] [] pos) (ag gG fs):=
 DU (u8 X.prog X.w) kvS xE xF (λss=>(cb ss).length_eq) (λg h=>g6 g h) (λss=>jt ss) h1 h2 hc Y m2 ha e1 s1 n1 q n2
end
def qi:Z Dt->C T
 |[.int i,.int j]=>O (.f (.int (if i<j then j else i)))
 |_=>V
def Xa:Z ψ->Hp->VK->Prop:=λxs H Q=>∃i j,xs=[.int i,.int j]/\Q (.int (if i<j then j else i)) H
theorem jx(q:X.calm=D):Hw X (.builtin "max") Xa:=uw q
theorem xH:MS K Xa qi:=by
 intro F H ds vs Q t Y r q k;unfold qi at q;split at q<;>first|(cases q;done)|skip
 cases q;rename_i i j;simp only[Kw,HX,G3]at r;obtain⟨v,ws,rfl,rfl,w,us,rfl,rfl,rfl⟩:=r;exact⟨i,j,rfl,k.int Y⟩
section
variable{P:HL}{u:Ja}{A:HM}{E:Value->t2->Prop}{s:t2}{Ty:String}{r d:J9}{n:Nat}{Pr:Nat->Value->Prop}{OK:Heap->Prop}
end
section
variable{X:Cx}
noncomputable def tR:Z Hr->C (Z Str)
 |[]=>O []
 |.inr x::r=>(tR r).map (x::·)
 |_=>V
def gSortD:Z Dt->C T
 |[.IJ ks _]=>(tR ks).bind λss=>if ss.length<64 then O (.e ((cY ss).map .str))else V
 |_=>V
theorem xI:Q4 X "str.index" (λx vs H Q=>∃a b i Hg,x=.str a/\vs=[.str b]/\RO a b 0 a.length 1=i::Hg/\Q (.int i) H):=by intro J1 s G H x vs v us Q I rx rv h;obtain⟨a,b,i,Hg,rfl,rfl,ho,q⟩:=h;obtain⟨t,rfl⟩:=rx;obtain⟨u,rfl,Y⟩:=rv.one;obtain⟨t',rfl⟩:=Y;exact SC.index ho ⟨.int _,H,I.tok _,⟨_,rfl⟩,q⟩
noncomputable def e7:Dt->Z Dt->C T
 |.str a,[.str b]=>match RO a b 0 a.length 1 with
  |i::_=>O (.f (.int (Int.ofNat i)))
  |[]=>V
 |_,_=>V
theorem xJ:WS K (λx vs H Q=>∃a b i Hg,x=.str a/\vs=[.str b]/\RO a b 0 a.length 1=i::Hg/\Q (.int i) H) e7:=by
 intro F H d v ds vs Q t Y rd rs q k;unfold e7 at q;split at q<;>first|cases q;done|skip
 split at q<;>first|cases q;done|skip
 rename_i i Hg ho;cases q;cases rd;obtain⟨v,rfl,rv⟩:=cy rs;cases rv;exact⟨_,_,i,Hg,rfl,rfl,ho,k.int Y⟩
theorem qj:∀d ds t,e7 d ds=O t->∃z,d=.str z:=λd ds t h=>by
 unfold e7 at h;split at h
 .exact⟨_,rfl⟩
 .cases h
variable{e o:Jc}{es:Z Jc}{fo:De->C Dt}{fs:De->C (Z Dt)}{apos Hb pos:Pos}
theorem xK (ho:DB X o fo) (ha:Mz X (e::es) fs)
  (Y:On o "index" X.env (eval o X.env)=eval o X.env:=by rfl)
  (JH:((IK Hb (G7 (e::es) X.env)).all (λx=>!x.1)&&(QL Hb (QK [] X.env)).all (λx=>x.1.isSome)
   && decide ((e::es).length+([]:Z Mc).length+(if([]:Z Mc).isEmpty then 0 else 1)<30))=D:=by rfl)
  (Ip:(apos.endLine==Hb.line)=D:=by rfl) (hs:G7 (e::es) X.env=(ξ,eval e X.env)::G7 es X.env:=by rfl) (q:(IK Hb (G7 es X.env)).any (·.1)=ξ:=by rfl) :
  DO X (.Call (.Attribute o "index" apos) (e::es) [] Hb) (f6 e7 fo fs):=wV PySem.F.slot_str_index PySem.F.type_str_index xI xJ qj ho ha Y JH Ip hs q
def Rh(i:Nat)(f:De->C T):De->C Hj:=λJ=>match J[i]? with
 |some (O (.e l))=>(f J).bind λt=>match t with
  |.e m=>if l.length+m.length<=Hz then O (.nx (J.set i (O (.e (l++m)))))else V
  |_=>V
 |_=>V
theorem jy{fe:De->C T}(hx:PE X o (gd i))(he:DO X e fe)
 (Jn:On o "extend" X.env (eval o X.env)=eval o X.env:=by rfl)
 (JH:((IK Hb (G7 [e] X.env)).all (λx=>!x.1)&&(QL Hb (QK [] X.env)).all (λx=>x.1.isSome)
 && decide ([e].length+([]:Z Mc).length+(if([]:Z Mc).isEmpty then 0 else 1)<30))=D:=by rfl)
 (Ip:(apos.endLine==Hb.line)=D:=by rfl) (hs:G7 [e] X.env=(ξ,eval e X.env)::G7 [] X.env:=by rfl) (Y:(IK Hb (G7 [] X.env)).any (·.1)=ξ:=by rfl)
 (OO:Mu (.Call (.Attribute o "extend" apos) [e] [] Hb) V pos.line X.env=pure ξ:=by rfl) :
  KI X (.Expr (.Call (.Attribute o "extend" apos) [e] [] Hb) pos) (Rh i fe):=
 PS.mono (nO (pC PySem.F.plainAttrs_list PySem.F.slot_list_extend PySem.F.type_list_extend uD hx (bM he dN hs) Jn JH Ip hs Y) OO) λθ G H ⟨Φ,J,F,ot,hK,en,q,k⟩=>by
  unfold Rh at q;split at q<;>first|cases q;done|skip
  rename_i l hl;obtain⟨t,hd,q⟩:=bS q;split at q<;>first|cases q;done|skip
  rename_i m;split at q<;>first|cases q;done|skip
  rename_i hz;cases q;obtain⟨a,vs,hv,h1,h2⟩:=en.ON hl;refine⟨.ref a,hv,.inl ⟨rfl,vs,.inl (.inl h1)⟩,Φ,J,F,.e m,hK,en,hd,λv H1 F1 S st ov hS=>?_⟩;have JK:=en.step st;have OH:=st.hh _ _ h1;obtain⟨b,ws,rfl,sb,g1,g2⟩:=ov;refine⟨a,b,vs,ws,rfl,rfl,OH,g1,by rw[h2.length,g2.length];exact hz,?_⟩;refine k G F1 _ (JK.MR hl hv rfl λS sa=>⟨a,vs++ws,rfl,sa,aA,(h2.same st.ff).append (hK▸g2)⟩)
end
def BN(outer:Jd)(NX N ps fr:Z Str)(js:Z Nat)(sc:Jd):Bool:=
 (match sc.kind with|.function=>D|_=>ξ)&&!sc.isCoroutine&&!sc.isGenerator&&decide N.Nodup&&decide (N.take ps.length=ps)&&decide (N.drop (N.length-fr.length)=fr)&&decide (ps.length+fr.length<=N.length)&&
 ps.all (λx=>decide (sc.names.lookup x=O .local)||decide (sc.names.lookup x=O .cell))&&
 fr.all (λx=>decide (sc.names.lookup x=O .free))&&
 sc.names.all (λy=>!decide (y.2=.free)||decide (y.1∈fr))&&
 sc.names.all (λy=>decide (sc.names.lookup y.1=O y.2))&&
 decide (ps.length=1)&&
 sc.names.all (λy=>!decide (y.2=.free)||decide (outer.names.lookup y.1=O .cell))&&
 decide (js.length=fr.length)&&
 (fr.zip js).all (λp=>decide (NX[p.2]?=O p.1)&&decide (outer.names.lookup p.1=O .cell))
structure Od(outer:Jd)(NX N ps fr:List Str)(js:List Nat)(sc:Jd):Prop where
 S:Ka N ps fr sc
 nd:N.Nodup
 NN:∀x,∀y∈sc.names,y.1=x->sc.names.lookup x=O y.2
 one:ps.length=1
 Q8:∀x∈sc.names,x.2=.free->outer.names.lookup x.1=O .cell
 jl:js.length=fr.length
 nm:∀(i j:Nat)(x:Str),fr[i]?=O x->js[i]?=O j->NX[j]?=O x/\outer.names.lookup x=O .cell
 all:∀x∈sc.names,x.2=.free->x.1∈fr
theorem Od.of{outer:Jd}{NX fr:Z Str}(h:BN outer NX N ps fr js sc=D):Od outer NX N ps fr js sc:=by
 unfold BN at h;simp only[IH,QD,O9,PD,decide_eq_true_eq,decide_eq_false_iff_not]at h;obtain⟨⟨⟨⟨⟨⟨⟨⟨⟨⟨⟨⟨⟨⟨h1,h2⟩,h3⟩,h4⟩,h5⟩,h6⟩,h7⟩,h8⟩,h9⟩,h10⟩,h11⟩,h12⟩,h13⟩,h14⟩,Ws⟩:=h;have q:∀x∈sc.names,x.2=.free->x.1∈fr:=λx Y e=>(h10 x Y).resolve_left λz=>z e
 have hk:sc.kind=.function:=by revert h1;cases sc.kind<;>simp
 refine⟨⟨hk,h2,h3,h4,h5,h6,h7,h8,h9,λx e=>q _ (PySem.mem_of_lookup e) rfl⟩,h4,λx y hy e=>by rw[<- e];exact h11 y hy,h12,λx Y e=>(h13 x Y).resolve_left λz=>z e,h14,λi j x e1 e2=>?_,q⟩;have hm:(x,j)∈fr.zip js:=Ls (i:=i) (by rw[qr6];exact⟨e1,e2⟩);exact Ws (x,j) hm
variable{qs:Z ((Nat×Nat)×Str)}
section
variable{X:Cx}{name qual:Str}{params:LH}{body:Z Jb}{scope outer:Jd}{NX N ps fr:Z Str}{js:Z Nat}{g:De->C Hj}{kk i:Nat}{pos:Pos}
theorem JC.of (ζ:Od outer NX N ps fr js scope) (q:∀ (s:t2) (cl:Z (Str×J9)) (doc pm IM cd:Value) (us:Z Value),us.length=ps.length->Pf s (NI name qual params body scope cl .none .none doc pm V cd IM) ⟨us,[]⟩ (ps.zip us))
  (hb:∀(f c':J9)(cl:Z (Str×J9))(A:HM)(outer:Z Env)(s:t2)(H:Hp),Hh kk (A.deeper (iK qual scope s.heap.objs.size f (.ref c') cl))->DS (pJ Lk X.prog X.w X.K X.mg X.base N qual scope f (.ref c') cl A outer s H E0 λ_ _=>False) body g)
  (e1:bT X outer:=by rfl) (Y:X.N=NX:=by rfl):JC X name qual params body scope N ps fr js g kk:=by
 have e1:X.env.scope=outer:=e1;subst e1 Y;exact⟨ζ.S,ζ.NN,ζ.one,ζ.Q8,ζ.jl,ζ.nm,q,hb⟩
noncomputable def Xb(qs:Z ((Nat×Nat)×Str))(pos:Pos)(qual:Str):Bool:=decide (((pos.line,pos.col),qual)∈qs)&&qs.all λp=>!decide (p.1=(pos.line,pos.col))||decide (p.2=qual)
theorem ka{c P:J9}(h:dl outer NX i name=D)(hl:ip outer name=D)(nd:NX.Nodup)(ζ:Od outer NX N ps fr js scope)(B:Ll X.mg X.base c P)(hT:(P,qs)∈c6 X.K)(hq:Xb qs pos qual=D)
 (Y:X.env.code=.ref c:=by rfl) (WL:qualnameIn X.env name name=qual:=by rfl) (NQ:params.defaults=[]:=by rfl) (WM:params.kw_defaults=[]:=by rfl) (ha:annTrees params V X.env=[]:=by rfl)
 (e1:bT X outer:=by rfl) (e2:X.N=NX:=by rfl) (NJ:X.fn name=D:=by rfl):PS X (.FunctionDef name params body [] V [] scope V name pos) (tI i name qual params body scope (gh scope.names X.env.cells)):=λJ1 s G H θ I hh=>by
 have e1:X.env.scope=outer:=e1;subst e1 e2;unfold Xb at hq;simp only[IH,QD,O9,PD,decide_eq_true_eq,decide_eq_false_iff_not]at hq;exact Ao nd (gx h) (jm hl) (.inl NJ) B Y hT WL hq.1 (λq hm=>(hq.2 _ hm).resolve_left λz=>z rfl) (kG λx hx e=>I.ok.has x.1 (.inl (ζ.Q8 x hx e))) NQ WM ha J1 s G H θ I hh
theorem xL{i1 i2:Nat}(h:decide (i1<NX.length/\i2<NX.length)=D)(q:X.N=NX:=by rfl):∀ G:St,G.length=X.N.length->i1<G.length/\i2<G.length:=λG e=>by rw[e,q];exact of_decide_eq_true h
end
structure MZ(K:Hk)(mg:Str->Option Value)(x:Str)(st:Jb)(ps:List Str)(c:J9):Prop where
 ex:∃(f:J9)(oc:Value)(od:Option J9)(kV doc pm:Value)(an:Option J9)(ct:Value)(Mh:Array (Option Value)),mg x=O (.ref f)/\NH K (.ref f)=D/\JY K (LJ x x (bY st) (aH st) (ab st) .none kV doc pm an (.ref c) ct) ps []∧K.lookup f=O ⟨oc,od,.func (LJ x x (bY st) (aH st) (ab st) .none kV doc pm an (.ref c) ct),Mh⟩/\Pk K (.ref c) x=D
section
variable{P:HL}{w:Ja}{K:Hk}{mg:Str->C Value}{base:Heap}{x:Str}{st:Jb}{N ps:Z Str}{c:J9}
theorem MZ.mk'{oc:Value}{od an:C J9}{Mh:Array (C Value)}{kV doc pm ct:Value}(X:K.In h)(σ:h.Ns ID mg)
 (a:JT K ID x=O (O (.ref f)))
 (l:K.lookup f=O ⟨oc,od,.func (LJ x x (bY st) (aH st) (ab st) .none kV doc pm an (.ref c) ct),Mh⟩) (q:Pk K (.ref c) x=D) (k:NH K (.ref f)=D)
 (Y:∀(kV doc pm:Value)(an:C J9)(Hv ct:Value)(us:Z Value),us.length=ps.length->Uu (LJ x x (bY st) (aH st) (ab st) .none kV doc pm an Hv ct) ⟨us,[]⟩=pure (ps.zip us)):MZ K mg x st ps c:=
 ⟨f,oc,od,kV,doc,pm,an,ct,Mh,PZ X σ a,k,(n6 l q k).binds Y,l,q⟩
theorem xM{g:De->C Hj}(θ:MZ K mg x st ps c)(S:ma N ps (ab st))(hn:ps.length=n)
 (Y:∀(f:J9)(A:HM)(outer:Z Env)(s:t2)(H:Hp)(E:XK),Hh k (A.deeper (M9 x (ab st) s.heap.objs.size f (.ref c)))->DS (kz Lk P w K mg base N x (ab st) f (.ref c) A outer s H E).Pm (aH st) g) :
  G9 P w K mg base x (k+1) ps (Ha K n (bf N.length g)):=by
 obtain⟨f,oc,od,kV,doc,pm,an,ct,Mh,h1,h2,h3,lk,Pl⟩:=θ.ex;refine⟨f,_,h1,h2,h3,Bu lk Pl S (λvs H Q E h=>?_) λA outer s H vs Q E hr h=>?_⟩
 .obtain⟨F,ds,t,_,hl,r,_⟩:=h;rw[r.length,hl,hn]
 .obtain⟨F,ds,t,fh,hl,r,hf,kq⟩:=h;refine⟨_,Kq.Pm (Y f A outer s H E hr),?_⟩;unfold bf at hf;split at hf
  .rename_i t' q;cases hf;exact⟨⟨K,F,H,λ_=>False⟩,_,F,_,rfl,fE fh r,q,λv F' H' z=>z.step kq⟩
  .rename_i JO q;cases hf;exact⟨⟨K,F,H,λ_=>False⟩,_,F,_,rfl,fE fh r,q,λJF F' H' z=>(z.rt (Hc.refl z.fh) (t:=.f .G8) (S:=λ_=>False) (iR (K:=K) (F:=F')) λ_ y=>y.elim).step kq⟩
  .cases hf
theorem tT{P:J9}(q:decide (x∈Lu)=D)(h:nK K x=O (P,qs)):(P,qs)∈c6 K:=qy7.mpr ⟨x,of_decide_eq_true q,h⟩
end
variable{R:Result->t2->Prop}
section
variable{P:HL}{u:Ja}{B:HM}{Ex:Value->t2->Prop}{s:t2}{it l:J9}{xs:Array Value}
theorem oR:VM (.type "list_reverseiterator") "__len__"=pure V:=by rw[VG,VD];kernel_rfl
theorem l8:VM (.type "list_reverseiterator") "__length_hint__"=pure (O (.builtin "list_reverseiterator.__length_hint__")):=by rw[VG,VD];kernel_rfl
theorem xN{W:Bool->t2->Prop}(Y:s.TypeIs (.ref it) "list_reverseiterator")(q:W ξ s):wpAny (model P u) B (Zu (.ref it)) W Ex s:=by
 unfold Zu;refine wB (Zh Y oR ?_)
 wp_delta
 refine QI (λz=>absurd z Ω) λ_=>?_
 refine QI (λz=>absurd z Ω) λ_=>?_
 refine wB (Zh Y l8 ?_);generalize hi:("list_reverseiterator.__length_hint__":String)=j
 wp_delta
 rw[show splitId j=O ("list_reverseiterator","__length_hint__")from by subst hi;decide +kernel];subst hi;refine wB (VF (T:="list_reverseiterator") (b:=true) Y (by rw[zh0];kernel_rfl) ?_);refine QI (λz=>absurd z Ω) λ_=>?_
 refine QI (λ_=>?_) λz=>absurd χ z
 refine QI (λz=>absurd z χ) λ_=>?_
 exact Hf q
abbrev tU(xs:Array Value):Nat->Value->Prop:=λi v=>xs[xs.size-1-i]?=O v
theorem rO(Y:B.handled=V)(hi:s.heap.IsRevIter it l ((xs.size:Int)-1))(hl:s.heap.IsList l xs)(JB:l≠it)(t:J9)(n1:t≠it)(n2:t≠l)(rs:Value)(c0:Nat)(ht:s.heap.get? t=O {cls:=.type "list",data:=.seq #[] c0})(fits:xs.size<=Hz)
 (q:∀(h':Heap)(tk:Nat)(ys:Array Value)(c:Nat),(∀b o,b≠t->b≠it->s.heap.get? b=O o->h'.get? b=O o)->h'.get? t=O {cls:=.type "list",dict:=V,data:=.seq ys c,slots:=#[]}->ItemsOf (tU xs) ys xs.size->R (.ok (.ret rs)) {s with heap:=h',toks:=tk}) :
  wpAny (model P u) B.in1 (Ux (.ref t) (.ref it) rs) (λfin s'=>match fin with|.done f=>R (.ok f) s'|.again c'=>c'.quiet=D/\MF (model P u) B c' R s') (λe s'=>R (.error e) s') s:=by
 have tn:t∉[it,l]:=by
  intro z;rcases HU.mp z with z|z
  .exact n1 z
  .exact n2 (HK.mp z)
 have Wk:=Walks.listRev (prog:=P) (w:=u) (A:=B.in1) (by simpa using Y) it l JB xs
 have go:MF (model P u) B (.builtin "list.extend.loop" ⟨[.ref t,.ref it,rs],[]⟩) R s:=by
  refine codeAny_extend_loopS Wk.toS fits t tn rs xs.size 0 _ #[] c0 rfl (M8 _) ⟨M8 _,by simpa using hi,hl⟩ ht (ItemsOf.nil _) λs' ys c mv R9 J8=>?_
  rw[Moved.eq_with mv];refine q s'.heap s'.toks ys c (λb o b1 b2 e=>mv.heap b o (λz=>?_) e) R9 J8;rcases HU.mp z with z|z
  .exact b1 z
  .exact b2 (HK.mp z)
 unfold Ux;refine wB (Uq (T:="list_reverseiterator") hi.typeIs ?_);have e1:Zv (.ref t) (.ref it)=ξ:=by simp[Zv,n1]
 have e2:(Nh "list_reverseiterator"==Nh "list")=ξ:=by decide +kernel
 have e3:(Nh "list_reverseiterator"==Nh "tuple")=ξ:=by decide +kernel
 simp only[e1,e2,e3,YS,Oi,if_false];refine wB (wpAny_pyIter_revIter hi ?_);refine wB (NF (xN hi.typeIs ?_));refine QI (λz=>absurd z χ) λ_=>?_
 exact Hf ⟨VI PySem.F.plain_extend_loop _,go⟩
theorem xO(calm:B.handled=V)(hi:s.heap.IsRevIter it l ((xs.size:Int)-1))(hl:s.heap.IsList l xs)(JB:l≠it)(t:J9)(n1:t≠it)(n2:t≠l)(ht:s.heap.get? t=O {cls:=.type "list",data:=.seq #[]})(fits:xs.size<=Hz)
 (q:∀(h':Heap)(tk:Nat)(ys:Array Value)(c:Nat),(∀b o,b≠t->b≠it->s.heap.get? b=O o->h'.get? b=O o)->h'.get? t=O {cls:=.type "list",dict:=V,data:=.seq ys c,slots:=#[]}->ItemsOf (tU xs) ys xs.size->R (.ok (.ret .none)) {s with heap:=h',toks:=tk}) :
  wpAny (model P u) B.in1 (JR.«list.__init__» ⟨[.ref t,.ref it],[]⟩) (λfin s'=>match fin with|.done f=>R (.ok f) s'|.again c'=>c'.quiet=D/\MF (model P u) B c' R s') (λe s'=>R (.error e) s') s:=by
 show wpAny _ _ (do let was <- ze2 (.ref t);JR.List.listUpdate (.ref t) (λ_=>#[]);letGo was.toList.reverse;Ux (.ref t) (.ref it) .none) _ _ s;refine wB ?_;unfold ze2;refine wB (VH ht rfl (Hf ?_));show wpAny _ _ (updateSeq t (λ_=>#[]) >>= λ_=>letGo (#[]:Array Value).toList.reverse >>= λ_=>Ux (.ref t) (.ref it) .none) _ _ s;refine wB (zg2 ht rfl ?_);have ht2:=Oq (Os (λ_=>(#[]:Array Value))) ht rfl;have Y:∀b o,b≠t->s.heap.get? b=O o->(s.heap.update t (Os (λ_=>(#[]:Array Value)))).get? b=O o:=λb o hb e=>(VU _ _ (L1 hb)).trans e
 refine wB (wpAny_letGo ?_);exact rO calm (hi.at λo e=>Y _ o n1.symm e) (hl.at λo e=>Y _ o n2.symm e) JB t n1 n2 .none _ ht2 fits λh' tk ys c k k2 k3=>q h' tk ys c (λb o b1 b2 e=>k b o b1 b2 (Y b o b1 e)) k2 k3
theorem xP {W:Value->t2->Prop} (calm:B.handled=V) (hi:s.heap.IsRevIter it l ((xs.size:Int)-1)) (hl:s.heap.IsList l xs) (JB:l≠it) (fits:xs.size<=Hz)
  (q:∀(h':Heap)(tk:Nat)(ys:Array Value)(c:Nat),(∀b o,b≠it->s.heap.get? b=O o->h'.get? b=O o)->h'.get? s.heap.objs.size=O {cls:=.type "list",dict:=V,data:=.seq ys c,slots:=#[]}->ItemsOf (tU xs) ys xs.size->W (.ref s.heap.objs.size) {s with heap:=h',toks:=tk}) :
  wpAny (model P u) B (call (.type "list") [.ref it]) W Ex s:=by
 refine callType_codes (Q₁:=λz Y=>z=.ref s.heap.objs.size/\Y={s with heap:=s.heap.push {cls:=.type "list",data:=.seq #[]}}) PySem.F.called_list (PySem.F.typeCall_list_1 _) PySem.F.entry_list_init (code_list_new _ ⟨rfl,rfl⟩) λz Y KU=>?_
 obtain⟨rfl,rfl⟩:=KU;have ht:(s.heap.push {cls:=.type "list",data:=.seq #[]}).get? s.heap.objs.size=O {cls:=.type "list",data:=.seq #[]}:=Ji _ rfl;have l1:it<s.heap.objs.size:=let ⟨_,e,_⟩:=hi;Ih e;have l2:l<s.heap.objs.size:=let ⟨_,e,_⟩:=hl;Ih e;refine⟨⟨_,ht,rfl⟩,PySem.F.args_list_init_2 _ _,xO (B:=B.in1) (by simpa using calm) (hi.at λo e=>ZA _ e) (hl.at λo e=>ZA _ e) JB _ (Pc l1) (Pc l2) ht fits λh' tk ys c k k2 k3=>?_⟩;exact⟨rfl,q h' tk ys c (λb o b1 e=>k b o (Js (Ih e)) b1 (gP _ e)) k2 k3⟩
theorem xQ{J8 ys:Z Value}(r:Da vs J8)(q:ys.length=J8.length)(h:∀(i:Nat)(v:Value),ys[i]?=O v->J8[J8.length-1-i]?=O v):ys=J8.reverse:=by
 apply zb2;intro i;by_cases hi:i<ys.length
 .have e:=h i ys[i] (gQ hi);rw[List.getElem?_reverse Θ,e,gQ hi]
 .rw[zg3 Θ,zg3 (by simp;lia)]
end
def tLR(X:Cx)(ta:TA):TE:=λG H Q=>ta G H λxs H1=>∃p vs,xs=[.ref p]/\Io X.K H1 p vs/\∀l,H1 l=V->Q (.ref l) (upd H1 l (.e vs.reverse))
section
variable{X:Cx}{e:Jc}{ta:TA}{p1 p2 OQ Ir:Pos}{sc:Jd}
theorem qk:Kk "reversed"=O (.type "reversed"):=χ
theorem i6:∀{vs:Z ψ}{us:Z Value},Da vs us->Da vs.reverse us.reverse
 |_,_,.nil=>.nil
 |_,_,.cons h r=>by rw[Ub,Ub];exact(i6 r).append (.cons h .nil)
theorem rP (h1:aw sc "list"=D) (h2:aw sc "reversed"=D) (hm1:X.mg "list"=V) (Xc:X.mg "reversed"=V) (hc:X.calm=D) (ha:PA X [e] ta) (e1:bT X sc:=by rfl) (hs:G7 [e] X.env=[(ξ,eval e X.env)]:=by rfl)
  (Nu:G7 [.Call (.Name "reversed" p2) [e] [] Ir] X.env=[(ξ,eval (.Call (.Name "reversed" p2) [e] [] Ir) X.env)]:=by rfl) :
  PE X (.Call (.Name "list" p1) [.Call (.Name "reversed" p2) [e] [] Ir] [] OQ) (tLR X ta):=by
 intro J1 s G H Q I h'
 have inner:wpAny (model X.prog X.w) X.A (eval (.Call (.Name "reversed" p2) [e] [] Ir) X.env) (λu s2=>∃it p vs H1,u=.ref it/\nC X J1 G H1 s2/\gk X J1 H1 it/\p≠it/\Io X.K H1 p vs/\s2.heap.IsRevIter it p ((vs.length:Int)-1)/\(∀l,H1 l=V->Q (.ref l) (upd H1 l (.e vs.reverse)))) X.xe s:=by
  refine Call_ (fK I (NO h2 e1) Xc qk (RG (Hx (ha Ir J1 s G H _ I h') λus s1 ⟨vs,H1,I1,r1,q1⟩=>?_) hs rfl));obtain⟨p,vs,rfl,hq,q⟩:=q1;obtain⟨u,rfl,ru⟩:=d4 r1;cases ru;obtain⟨J8,r',pl,Sn⟩:=I1.list hq;have Y:J8.toArray.size=vs.length:=by have:=r'.length;simpa using this.symm
  refine call_reversed_list pl.isList ?_;have I2:=I1.kept (t':=s1.toks) (h':=s1.heap.push (revObj p ((J8.toArray.size:Int)-1))) λb o g=>gP _ g
  have fp:=I1.Mf (b:=s1.heap.objs.size) (HG _) (I1.Hm.fresh (HG _));refine⟨s1.heap.objs.size,p,vs,H1,rfl,I2,fp,?_,hq,⟨_,Ji _ rfl,rfl,by rw[<- Y];rfl⟩,q⟩;obtain⟨_,g,_⟩:=pl.isList;exact Js (Ih g)
 have key:wpAny (model X.prog X.w) X.A (spliced (IK OQ (G7 [.Call (.Name "reversed" p2) [e] [] Ir] X.env))) (λvs Ht=>wpAny (model X.prog X.w) X.A (call (.type "list") vs) (EP X J1 G Q) X.xe Ht) X.xe s:=?key
 .exact Call_ (fK I (NO h1 e1) hm1 dw (RG key Nu rfl))
 rw[Nu];show wpAny _ _ (spliced ((ξ,eval (.Call (.Name "reversed" p2) [e] [] Ir) X.env)::[])) _ _ s;refine Calls.spliced_cons (Hx inner λu s2 w=>Calls.spliced_nil ?_);obtain⟨it,p,vs,H1,rfl,I2,fp,JB,hq,hR,q⟩:=w;obtain⟨J8,r',pl,Sn⟩:=I2.list hq;have Y:J8.toArray.size=vs.length:=by have:=r'.length;simpa using this.symm
 have fits:J8.toArray.size<=Hz:=by first|exact Sn|(rw[Y];exact Sn)|simpa using Sn
 refine xP (I2.ok.hd hc) (by rw[Y];exact hR) pl.isList JB fits λh3 tk ys c k k2 k3=>?_
 have ey:ys.toList=J8.reverse:=xQ r' (by have:=k3.1;simpa using this) λi v hv=>by have:=k3.2 i v (by simpa using hv);simpa[tU] using this
 refine⟨.ref s2.heap.objs.size,_,I2.Nv (fp:=[it]) (t:=s2.heap.objs.size) (u:=.e vs.reverse) (t':=tk) (λb o hb g=>k b o (λz=>hb (by simp[z])) g) (λb hb=>?_) (HG _) ⟨?_,J8.reverse,c,i6 r',?_⟩,rfl,q _ (I2.Hm.fresh (HG _))⟩
 .cases HK.mp hb;exact fp
 .rw[List.length_reverse,<- Y];exact fits
 .rw[k2,<- ey]
end
def ll(ks:Z Hr):Dt:=.t (ks.map p5)
theorem jz{F:Hp}:∀ks:Z Hr,hX K F (ks.map p5) (ks.map kV)
 |[]=>by simp only[QG,hX]
 |k::ks=>by simp only[Ia,hX];exact⟨_,_,rfl,An k,jz ks⟩
theorem xR{F:Hp}{b:J9}{ks:Z Hr}(h:F b=O (.t (ks.map kV))):G3 K F (ll ks) (.ref b):=by unfold ll;simp only[G3];exact⟨b,_,rfl,II.of h,jz ks⟩
theorem m6{α β:Type}{R:α->β->Prop}:∀{l:Z α}{m:Z β},Paired R l m->∀{i:Nat}{a:α},l[i]?=O a->∃b,m[i]?=O b/\R a b
 |_,_,.nil,i,a,h=>by simp at h
 |_,_,.cons r t,0,a,h=>by simp at h;subst h;exact⟨_,rfl,r⟩
 |_,_,.cons r t,i+1,a,h=>by simpa using m6 t (by simpa using h)
theorem lm{α β:Type}{R:α->β->Prop}:∀{l:Z α}{m:Z β},Paired R l m->l.length=m.length
 |_,_,.nil=>rfl
 |_,_,.cons r t=>by simp[lm t]
theorem DV {J6:Z (Z Hr×ψ)} (x:Hn P w H h a (.dT J6)):J6.length<=Hz/\(a==L4)=ξ/\∃ (bs:Z J9) (ob:Obj) (es:Array Zt) (ep:Nat),h.get? a=O ob/\ob.data=.dict es ep/\Kc h a (bs.map .ref) ep/\bs.length=J6.length∧
  ∀(j:Nat)(p:Z Hr×ψ),J6[j]?=O p->∃b,bs[j]?=O b/\H b=O (.t (p.1.map kV)):=by
 obtain⟨z,y,xs,r,o,es,ep,h1,h2,h3,Y,h5⟩:=x;refine⟨z,y,xs.map (·.2.1),o,es,ep,h1,h3,⟨o,es,h1,h2,h3,?_⟩,by rw[Hl,<- lm r],λj p hp=>?_⟩
 .rw[Y,IV,IV];rfl
 .obtain⟨q,hq,_,hb,_⟩:=m6 r hp;exact⟨q.2.1,by rw[Je,hq];rfl,hb⟩
section
variable{X:Cx}{tg:Jc}
theorem BO{u:HO}(I:nC X J1 G H s)(h:Rd H a u):Hn X.prog X.w H s.heap a u:=by
 rcases h with h|⟨o,h⟩
 .exact I.Hm a _ h
 .exact(I.Hm a _ h).2
theorem rQ(hc:X.calm=D):Hw X (.type "list") (λxs H Q=>∃a J6,xs=[.ref a]/\Rd H a (.dT J6)/\∀bs:Z J9,bs.length=J6.length->(∀(j:Nat)(b:J9)(p:Z Hr×ψ),bs[j]?=O b->J6[j]?=O p->H b=O (.t (p.1.map kV)))->∀l,H l=V->Q (.ref l) (upd H l (.e (bs.map ψ.ref)))):=by
 intro J1 s G H xs us Q I r h;obtain⟨a,J6,rfl,hq,q⟩:=h;obtain⟨u,rfl,rx⟩:=d4 r;cases rx;obtain⟨z,y,bs,ob,es,ep,e1,e2,en,hl,hk⟩:=DV (BO I hq);have hz:(bs.map JS).length<=Hz:=by rw[Hl,hl];exact z
 refine PySem.W.kdl_call (tN y) (I.ok.hd hc) en hz λh' tk J5 c kp hD Y=>?_
 have Qn:J5.toList=bs.map JS:=by
  apply zb2;intro j;cases hj:J5.toList[j]? with
  |none=>have h1:=Vs.mp hj;rw[M6,Y.1]at h1;rw[Vs.mpr h1]
  |some v=>exact(Y.2 j v (by rw[<- Vp];exact hj)).symm
 have rv:Da (bs.map ψ.ref) J5.toList:=by
  rw[Qn];clear Qn hk hl en hz q Y;induction bs with
  |nil=>exact .nil
  |cons b bs ih=>exact .cons rfl ih
 refine⟨.ref s.heap.objs.size,_,I.laid (t':=tk) kp (HG _) (show Hn X.prog X.w _ h' _ (.e (bs.map ψ.ref))from⟨by rw[Hl,hl];exact z,J5.toList,c,rv,by rw[Array.toArray_toList];exact hD⟩),rfl,q bs hl (λj b p h1 h2=>?_) _ (I.Hm.fresh (HG _))⟩;obtain⟨b',Z7,hH⟩:=hk j p h2;rw[h1]at Z7;cases Z7;exact hH
end
end L2
namespace HT
open PySem PySem.Spec PyProof.Rows
end HT
namespace L2
open PySem PySem.Spec PyProof.Rows
section
variable{X:Cx}{a:Jc}{fa:Fg}{p pos:Pos}{sc:Jd}
theorem m7{P:HL}{w:Ja}:∀{J6:Z (Hr×ψ)}{vs:Z (Hr×Value)}{es:Z Zt},KV J6 vs->Pairs (bt P w) es vs->Da (J6.map λp=>kV p.1) (es.map (·.key))
 |[],_,_,.nil,.nil=>.nil
 |_::_,_,_,.cons r t,.cons h _ m=>.cons (by dsimp only;rw[r.1];exact Am h) (m7 t m)
theorem rR(hc:X.calm=D):Hw X (.type "list") (λxs H Q=>∃a J6,xs=[.ref a]/\Rd H a (.dK J6)/\∀l,H l=V->Q (.ref l) (upd H l (.e (J6.map λp=>kV p.1)))):=by
 intro J1 s G H xs us Q I r h;obtain⟨a,J6,rfl,hq,q⟩:=h;obtain⟨u,rfl,rx⟩:=d4 r;cases rx;obtain⟨z,y,vs,rel,ob,es,ep,e1,e2,e3,e4,e5,e6⟩:=BO I hq;have en:Kc s.heap a (es.toList.map (·.key)) ep:=⟨ob,es,e1,e2,e3,rfl⟩;have kv:=m7 rel e5;have hz:(es.toList.map (·.key)).length<=Hz:=by rw[<- kv.length,Hl];exact z
 refine PySem.W.kdl_call (tN y) (I.ok.hd hc) en hz λh' tk J5 c kp hD Y=>?_
 have Qn:J5.toList=es.toList.map (·.key):=by
  apply zb2;intro j;cases hj:J5.toList[j]? with
  |none=>have h1:=Vs.mp hj;rw[M6,Y.1]at h1;rw[Vs.mpr h1]
  |some v=>exact(Y.2 j v (by rw[<- Vp];exact hj)).symm
 exact⟨.ref s.heap.objs.size,_,I.laid (t':=tk) kp (HG _) (show Hn X.prog X.w _ h' _ (.e (J6.map λp=>kV p.1))from⟨by rw[Hl];exact z,J5.toList,c,by rw[Qn];exact kv,by rw[Array.toArray_toList];exact hD⟩),rfl,q _ (I.Hm.fresh (HG _))⟩
end
noncomputable def rT(K:Hk):Bool:=K.all λp=>match p.2.data with
 |.seq J8 _=>(match J8.toList with
  |[.int _ _,.str _ _]=>ξ
  |_=>D)
 |_=>D
variable{a:J9}
theorem ql{o:Obj}:∀{K:Z (J9×Obj)},K.lookup a=O o->(a,o)∈K
 |[],h=>by cases h
 |(b,u)::K,h=>by
  rw[N6]at h;cases q:a==b with
  |true=>rw[q]at h;cases h;rw[beq_iff_eq.mp q];exact .head _
  |false=>rw[q]at h;exact .tail _ (ql h)
variable{K:Hk}{H:Hp}
theorem xS{n:Int}{s:Str}(hK:rT K=D)(h:II K H a [.int n,.str s]):H a=O (.t ([Ot n,NG s].map kV)):=by
 rcases h with h|⟨o,J8,m,hk,hc,hd,hz,r⟩
 .exact h
 .have q:=QD.mp hK (a,o) (ql hk);dsimp only at q;rw[hd]at q;dsimp only at q;generalize J8.toList=w at q r;cases r with
  |cons r1 t=>
   cases t with
   |cons r2 Y=>cases Y;obtain⟨t1,rfl⟩:=r1;obtain⟨Y,rfl⟩:=r2;cases q
section
variable{X:Cx}{a b:Jc}{ta:TA}{p1 p2 OQ Ir:Pos}{sc:Jd}{fs:De->C (Z Dt)}
end
section
variable{X:Cx}{J1:Z (J9×Obj)}{s:t2}{G:St}{H:Hp}
end
variable{h:Heap}{c P:J9}{qs:Z ((Nat×Nat)×Str)}
theorem IF.one(kb:K.In h)(e:c6 K=[(P,qs)])(n:K.lookup P=V)(hc:QS K c P=D)(t:h.get? P=O (QT #[])):IF K h:=by
 unfold IF;rw[e];refine⟨λp hp=>?_,λp hp q Y _=>?_⟩
 .cases HK.mp hp;exact⟨n,⟨c,ZI kb hc⟩,t⟩
 .cases HK.mp hp;cases HK.mp Y;rfl
theorem IF.two{c' P':J9}{qs':Z ((Nat×Nat)×Str)}(kb:K.In h)(e:c6 K=[(P,qs),(P',qs')])(JB:P≠P')(n:K.lookup P=V)(n':K.lookup P'=V)(hc:QS K c P=D)(Ow:QS K c' P'=D)(t:h.get? P=O (QT #[]))(t':h.get? P'=O (QT #[])):IF K h:=by
 unfold IF;rw[e];refine⟨λp hp=>?_,λp hp q hq z=>?_⟩
 .rcases HU.mp hp with rfl|hp
  .exact⟨n,⟨c,ZI kb hc⟩,t⟩
  .cases HK.mp hp;exact⟨n',⟨c',ZI kb Ow⟩,t'⟩
 .rcases HU.mp hp with rfl|hp<;>rcases HU.mp hq with rfl|hq
  .rfl
  .cases HK.mp hq;exact absurd z JB
  .cases HK.mp hp;exact absurd z.symm JB
  .cases HK.mp hp;cases HK.mp hq;rfl
noncomputable def Xd:Dt->C (Z Hr)
 |.t [.int n,.str s]=>O [.inl n,.inr s]
 |_=>V
theorem rV{F:Hp}{d:Dt}{v:ψ}{ks:Z Hr}(q:rT K=D)(h:Xd d=O ks)(r:HX K F H d v):∃b,v=.ref b/\F b=O (.t (ks.map kV)):=by
 unfold Xd at h;split at h<;>cases h
 obtain⟨a,vs,rfl,h1,h2⟩:=r;unfold hX at h2;obtain⟨v1,w1,rfl,q1,h2⟩:=h2;unfold hX at h2;obtain⟨v2,Y,rfl,q2,h2⟩:=h2;unfold hX at h2;subst h2;simp only[G3]at q1 q2;subst q1 q2;exact⟨a,rfl,xS q h1⟩
section
variable{X:Cx}{o a b e ox ik:Jc}{fa fb fk fe:De->C Dt}{pos apos Hb p1 p2 OQ Ir:Pos}{sc:Jd}{i j m:Nat}{K:Hk}
noncomputable def oS:De->C T:=λ_=>O (.Jt [])
theorem xT:DO X (.Dict [] [] pos) oS:=PE.mono we λG H Q ⟨Φ,J,F,t,Y,en,q,k⟩=>by
 cases q;intro p hp;refine k _ _ F (λb=>b=p) (Hc.made en.fh hp) ⟨p,[],rfl,rfl,aA,rfl,by simp[hX]⟩ λb z=>?_
 subst z;exact⟨en.fh.free hp,hp,_,aA,nofun⟩
def xU:Dt->Dt->C T
 |.Jt ks l,k=>(Xd k).bind λk=>(cW ks l k).map .f
 |_,_=>V
theorem DX(hI:rT X.K=D)(hr:Hh m X.A)(ha:DB X a fa)(hb:DB X b fb)(hn:uG b:=by exactλ_ _=>rfl):DO X (.Subscript a b pos) (d2 xU fa fb):=
 PE.mono (sY (iI hr) ha hb hn) λG H Q ⟨Φ,J,F,t,hK,en,Y,k⟩=>by
  obtain⟨x,hx,Y⟩:=bS Y;obtain⟨y,hy,Y⟩:=bS Y;unfold xU at Y;split at Y<;>first|(cases Y;done)|skip
  obtain⟨kk,hk,Y⟩:=bS Y;obtain⟨d,hd,rfl⟩:=mS Y;refine⟨Φ,J,F,_,hK,en,hx,λv H1 F1 st rv=>⟨Φ,J,F1,_,hK,en.step st,hy,λv2 H2 F2 q Nt=>?_⟩⟩;obtain⟨ad,J6,rfl,h1,rfl,h3⟩:=rv;obtain⟨w,hw,Mj⟩:=fF h3 hd;obtain⟨b,rfl,hb⟩:=rV hI hk Nt;exact⟨ad,w,rfl,.inr ⟨J6,kk,b,q.hh.rd h1,rfl,q.fh _ _ hb,hw.symm⟩,(k.step (st.trans q)).leaf.here q.fh (Mj.same q.ff)⟩
def xV(fa fb:De->C Dt):De->C Bool:=λJ=>(fa J).bind λx=>(fb J).bind λy=>match y with
 |.Jt ks l=>(Xd x).map λk=>!(cW ks l k).isSome
 |_=>V
theorem DY(hI:rT X.K=D)(hr:Hh m X.A)(ha:DB X a fa)(hb:DB X b fb)(hm:Nb .NotIn b=ξ:=by with_unfolding_all rfl):DT X (.Compare a [.NotIn] [b] pos) (xV fa fb):=
 PT.mono (nN (jj (iI hr) ha hb) hm) λG H Q ⟨Φ,J,F,t,hK,en,q,k⟩=>by
  obtain⟨x,hx,q⟩:=bS q;obtain⟨y,hy,q⟩:=bS q;split at q<;>first|(cases q;done)|skip
  obtain⟨kk,hk,rfl⟩:=mS q;refine⟨Φ,J,F,x,hK,en,hx,λv H1 F1 st rv=>⟨Φ,J,F1,_,hK,en.step st,hy,λv2 H2 F2 Y Nt=>?_⟩⟩;obtain⟨ad,J6,rfl,h1,rfl,h3⟩:=Nt;obtain⟨b,rfl,hb⟩:=rV hI hk rv;refine⟨ad,_,rfl,.inr ⟨J6,kk,b,h1,rfl,Y.fh _ _ (Y.ff _ _ hb),rfl⟩,_,rfl,?_⟩;rw[<- j6 h3];exact k H2 F2 (st.trans Y)
def m8(i:Nat)(fk fe:De->C Dt):De->C Hj:=λJ=>(fe J).bind λd=>(fk J).bind λk=>match J[i]? with
 |some (O (.Jt l))=>(Xd k).bind λk=>if l.length<Hz/\(l.map (·.1)).Nodup then O (.nx (J.set i (O (.Jt (jV l k d)))))else V
 |_=>V
theorem tV (hI:rT X.K=D) (hr:Hh m X.A) (hx:PE X ox (gd i)) (hk:DB X ik fk) (he:DL X e fe)
  (hs:Mu e (O (.Subscript ox ik apos)) pos.line X.env=pure ξ:=by rfl):KI X (.Assign [.Subscript ox ik apos] e pos) (m8 i fk fe):=
 PS.mono (sZ (iI hr) hx hk he hs) λθ G H ⟨Φ,J,F,ot,hK,en,Y,k⟩=>by
  obtain⟨d,hd,Y⟩:=bS Y;obtain⟨kd,UL,Y⟩:=bS Y;split at Y<;>first|(cases Y;done)|skip
  rename_i l hl;obtain⟨kk,WU,Y⟩:=bS Y;split at Y<;>first|(cases Y;done)|skip
  rename_i hc;cases Y;refine⟨Φ,J,F,d,hK,en,hd,λv H1 F1 st rv=>?_⟩;have JK:=en.step st;obtain⟨w0,hv⟩:=JK.has i _ hl;obtain⟨S,s⟩:=JK.sep;obtain⟨a,J6,rfl,_,h1,h2,h3⟩:=s.own i _ w0 (bF hl hv);refine⟨.ref a,hv,Φ,J,F1,kd,hK,JK,UL,λw H2 F2 q Mj=>?_⟩;have KG:=JK.step q;obtain⟨b,rfl,hb⟩:=rV hI WU Mj;have hlen:J6.length=l.length:=by simpa using congrArg Ld h2
  refine⟨a,_,rfl,.inr ⟨J6,kk,b,q.hh _ _ h1,rfl,q.fh _ _ hb,by rw[hlen];exact hc.1,rfl⟩,?_⟩;obtain⟨p1,p2⟩:=tG kk v J6 l d (by rw[h2];exact hc.2) h2;exact k G F2 _ (KG.MR hl hv rfl λS sa=>⟨a,_,rfl,sa,aA,p1,p2 _ _ (hK▸rv.same q.ff) (h3.same q.ff)⟩)
def eT:Z Dt->C T
 |[.Jt ks _]=>O (.e (ks.map ll))
 |[.IJ ks _]=>O (.e (ks.map p5))
 |_=>V
abbrev xW:Z ψ->Hp->VK->Prop:=λxs H Q=>(∃a J6,xs=[.ref a]/\Rd H a (.dT J6)/\∀bs:Z J9,bs.length=J6.length->(∀(j:Nat)(b:J9)(p:Z Hr×ψ),bs[j]?=O b->J6[j]?=O p->H b=O (.t (p.1.map kV)))->∀l,H l=V->Q (.ref l) (upd H l (.e (bs.map ψ.ref))))∨∃a J6,xs=[.ref a]/\Rd H a (.dK J6)/\∀l,H l=V->Q (.ref l) (upd H l (.e (J6.map λp=>kV p.1)))
theorem fU(q:X.calm=D):Hw X (.type "list") xW:=λJ1 s G H xs us Q I r h=>h.elim (rQ q J1 s G H xs us Q I r) (rR q J1 s G H xs us Q I r)
theorem tW{F:Hp}:∀{Y:Z (Z Hr)}{bs:Z J9},bs.length=Y.length->(∀(j:Nat)(b:J9)(k:Z Hr),bs[j]?=O b->Y[j]?=O k->F b=O (.t (k.map kV)))->hX K F (Y.map ll) (bs.map ψ.ref)
 |[],[],_,_=>by simp[hX]
 |[],_::_,h,_=>by cases h
 |_::_,[],h,_=>by cases h
 |k::Y,b::bs,h,q=>by simp only[Ia,hX];exact⟨_,_,rfl,xR (q 0 b k rfl rfl),tW (by simpa using h) λj b k h1 h2=>q (j+1) b k (by simpa using h1) (by simpa using h2)⟩
theorem ke:MS K xW eT:=λF H ds vs Q t fh r hg k=>by
 unfold eT at hg;split at hg<;>cases hg
 .obtain⟨v,rfl,a,J6,rfl,h1,rfl,h3⟩:=cy r;refine .inl ⟨a,J6,rfl,h1,λbs hl hb l hn=>?_⟩
  have Z7:∀(j:Nat)(b:J9)(k:Z Hr),bs[j]?=O b->(J6.map (·.1))[j]?=O k->H b=O (.t (k.map kV)):=λj b k h1 h2=>by rw[Je]at h2;obtain⟨p,hp,rfl⟩:=mS h2;exact hb j b p h1 hp
  have Z2:∀b∈bs,∃vs,H b=O (.t vs):=λb hm=>by
   obtain⟨j,hj⟩:=Vv hm;have Mw:j<J6.length:=by rw[<- hl];exact(gX hj).1
   exact⟨_,hb j b _ hj (gQ Mw)⟩
  let F':Hp:=λb=>if b∈bs then H b else F b
  have Y:∀{b:J9},b∈bs->F' b=H b:=λh=>if_pos h
  have q:∀{b:J9},b∉bs->F' b=F b:=λh=>if_neg h
  have ff:zz F F':=λb o e=>by
   by_cases h:b∈bs
   .rw[Y h];exact fh _ _ e
   .rw[q h];exact e
  have Z1:zz F' H:=λb o e=>by
   by_cases h:b∈bs
   .rw[Y h]at e;exact e
   .rw[q h]at e;exact fh _ _ e
  have st:Hc F H F' H:=⟨zz.refl _,ff,Z1,λb o e=>by
   by_cases h:b∈bs
   .exact .inr (.inr (Z2 b h))
   .rw[q h]at e;exact .inl e⟩
  exact dy (k.step st) Z1 (tW (by simpa using hl) λj b k h1 h2=>by rw[Y (Ls h1)];exact Z7 j b k h1 h2) hn
 .obtain⟨v,rfl,a,J6,rfl,h1,rfl,h3⟩:=cy r;refine .inr ⟨a,J6,rfl,h1,λl hn=>dy k fh ?_ hn⟩;rw[show(J6.map λp=>kV p.1)=(J6.map (·.1)).map kV by rw[IV];rfl];exact jz _
def Z8(fa:De->C Dt):De->C T:=λJ=>(fa J).bind λd=>match d with
 |.e l=>O (.e l.reverse)
 |_=>V
theorem hX.rev{F:Hp}:∀{l:Z Dt}{vs:Z ψ},hX K F l vs->hX K F l.reverse vs.reverse
 |[],_,h=>by simp only[hX]at h;subst h;simp[hX]
 |d::l,_,h=>by simp only[hX]at h;obtain⟨v,q,rfl,h1,h2⟩:=h;rw[Ub,Ub];exact(hX.rev h2).append (hX.one h1)
theorem lq (h1:aw sc "list"=D) (h2:aw sc "reversed"=D) (hm1:X.mg "list"=V) (Xc:X.mg "reversed"=V) (hc:X.calm=D) (ha:DB X a fa) (e1:bT X sc:=by rfl) (he:G7 [a] X.env=(ξ,eval a X.env)::G7 [] X.env:=by rfl) (hs:G7 [a] X.env=[(ξ,eval a X.env)]:=by rfl)
  (Nu:G7 [.Call (.Name "reversed" p2) [a] [] Ir] X.env=[(ξ,eval (.Call (.Name "reversed" p2) [a] [] Ir) X.env)]:=by rfl) :
  DO X (.Call (.Name "list" p1) [.Call (.Name "reversed" p2) [a] [] Ir] [] OQ) (Z8 fa):=
 PE.mono (rP h1 h2 hm1 Xc hc (bM ha dN he) e1 hs Nu) λG H Q ⟨Φ,J,F,t,hK,en,Y,k⟩=>by
  obtain⟨d,hd,Y⟩:=bS Y;split at Y<;>cases Y
  refine⟨Φ,J,F,_,hK,en,hd,λv H1 F1 st rv=>?_⟩;obtain⟨a,vs,rfl,g1,g2⟩:=rv;exact⟨a,vs,rfl,g1,λq hq=>dy (k.step st) st.fh (g2.rev) hq⟩
def rW(j i:Nat):De->C Hj:=λJ=>match J[i]? with
 |some (O (.e l))=>l.getLast?.map λd=>.nx ((J.set i (O (.e l.dropLast))).set j (O (.f d)))
 |_=>V
theorem xX {N:Z Str} {x:Str} {pos':Pos} (h:dl sc N j x=D) (hl:ip sc x=D) (nd:N.Nodup) (hx:PE X o (gd i)) (e1:bT X sc:=by rfl) (e2:X.N=N:=by rfl) (hf:X.fn x=D∨X.env.scope.names.lookup x=O .local:=by exact .inl rfl)
  (q:On o "pop" X.env (eval o X.env)=eval o X.env:=by rfl) (Y:(apos.endLine==Hb.line)=D:=by rfl) (hs:Mu (.Call (.Attribute o "pop" apos) [] [] Hb) (O (.Name x pos')) pos.line X.env=pure ξ:=by rfl) :
  KI X (.Assign [.Name x pos'] (.Call (.Attribute o "pop" apos) [] [] Hb) pos) (rW j i):=
 PS.mono (oj h hl nd (v6 PySem.F.plainAttrs_list PySem.F.slot_list_pop PySem.F.type_list_pop v8 hx q Y) e1 e2 hf hs) λθ G H ⟨Φ,J,F,ot,hK,en,hg,k⟩=>by
  unfold rW at hg;split at hg<;>first|(cases hg;done)|skip
  rename_i l hl;obtain⟨d,hd,rfl⟩:=mS hg;obtain⟨a,vs,hv,h1,h2⟩:=en.ON hl;rw[za0]at hd;obtain⟨y,hy,ry⟩:=h2.get hd;rw[<- h2.length]at hy;refine⟨.ref a,hv,.inl ⟨rfl,vs,.inl (.inl h1)⟩,a,vs,y,rfl,rfl,h1,hy,k _ F _ ?_⟩
  have hr:hX Φ.K F l.dropLast vs.dropLast:=by rw[YY,YY,h2.length];exact h2.take _
  exact(en.MR (o:=.e vs.dropLast) (t':=.e l.dropLast) hl hv rfl λS sa=>⟨a,_,rfl,sa,aA,hr⟩).name ry j
end
def Ik(K:Hk)(x:Str)(st:Jb):Prop:=∃(f:J9)(oc:Value)(od an:C J9)(sl:Array (C Value))(kV dc pm q ct:Value),JT K ID x=O (O (.ref f))/\K.lookup f=O ⟨oc,od,.func (LJ x x (bY st) (aH st) (ab st) .none kV dc pm an q ct),sl⟩/\Pk K q x=D/\NH K (.ref f)=D
def Qo(K:Hk)(x:Str)(st:Jb)(c P:J9):Prop:=∃(f:J9)(oc:Value)(od an:C J9)(sl:Array (C Value))(kV dc pm ct Y:Value)(xd:C J9)(q:Array Value)(xs:Array (C Value)),
 JT K ID x=O (O (.ref f))/\K.lookup f=O ⟨oc,od,.func (LJ x x (bY st) (aH st) (ab st) .none kV dc pm an (.ref c) ct),sl⟩/\Pk K (.ref c) x=D/\NH K (.ref f)=D∧
 K.lookup c=O ⟨Y,xd,.fields q,xs⟩/\q[11]?=O (.ref P)
variable{f:J9}{oc dc pm:Value}{od an:C J9}
section
variable{K:Hk}{mg:Str->C Value}{h:Heap}{x:Str}{st:Jb}{ps:Z Str}{c P:J9}
theorem Ik.mk{sl:Array (C Value)}{kV q ct:Value}(a:JT K ID x=O (O (.ref f)))(l:K.lookup f=O ⟨oc,od,.func (LJ x x (bY st) (aH st) (ab st) .none kV dc pm an q ct),sl⟩)(c:Pk K q x=D)(k:NH K (.ref f)=D):Ik K x st:=⟨f,oc,od,an,sl,kV,dc,pm,q,ct,a,l,c,k⟩
theorem Qo.mk{sl:Array (C Value)}{kV ct Y:Value}{xd:C J9}{q:Array Value}{xs:Array (C Value)}(a:JT K ID x=O (O (.ref f)))(l:K.lookup f=O ⟨oc,od,.func (LJ x x (bY st) (aH st) (ab st) .none kV dc pm an (.ref c) ct),sl⟩)(cc:Pk K (.ref c) x=D)(k:NH K (.ref f)=D)(cl:K.lookup c=O ⟨Y,xd,.fields q,xs⟩)(cp:q[11]?=O (.ref P)):Qo K x st c P:=⟨f,oc,od,an,sl,kV,dc,pm,ct,Y,xd,q,xs,a,l,cc,k,cl,cp⟩
theorem Ik.df(A:Ik K x st)(X:K.In h)(σ:h.Ns ID mg)(q:∀(kV doc pm:Value)(an:C J9)(Hv ct:Value)(us:Z Value),us.length=ps.length->Uu (LJ x x (bY st) (aH st) (ab st) .none kV doc pm an Hv ct) ⟨us,[]⟩=pure (ps.zip us)):Ho K mg x st ps:=by obtain⟨f,oc,od,an,sl,kV,dc,pm,Y,ct,a,l,c,k⟩:=A;exact Ho.mk' X σ a l c k q
theorem Qo.df(A:Qo K x st c P)(X:K.In h)(σ:h.Ns ID mg)(q:∀(kV doc pm:Value)(an:C J9)(Hv ct:Value)(us:Z Value),us.length=ps.length->Uu (LJ x x (bY st) (aH st) (ab st) .none kV doc pm an Hv ct) ⟨us,[]⟩=pure (ps.zip us)):MZ K mg x st ps c:=by obtain⟨f,oc,od,an,sl,kV,dc,pm,ct,xo,xd,Y,xs,a,l,c,k,_⟩:=A;exact MZ.mk' X σ a l c k q
end
variable{r:Z ψ->Hp->VK->Prop}{gg:Z Dt->C T}
section
variable{X:Cx}{e:Jc}{es:Z Jc}{x:Str}{p pos:Pos}{fs:De->C (Z Dt)}{i:Nat}
theorem pvX(h:dl X.env.scope X.N i x=D):PE X (.Name x pos) (gd i):=pvD i h rfl rfl
theorem dbX(h:dl X.env.scope X.N i x=D):DB X (.Name x pos) (vB i):=Ds (pvX h)
theorem dlX(h:dl X.env.scope X.N i x=D):DL X (.Name x pos) (vL i):=Dr (pvX h)
theorem doF{k m n:Nat}{ps:Z Str}{Y:Z Dt->C T}(h:aw X.env.scope x=D)(F:G9 X.prog X.w X.K X.mg X.base x k ps (Ha X.K n Y))(hr:Hh m X.A)(hk:k<=m)(ha:DA X (e::es) fs)(hn:(e::es).length=n:=by rfl)(he:G7 (e::es) X.env=(ξ,eval e X.env)::G7 es X.env:=by rfl)(q:(IK pos (G7 es X.env)).any (·.1)=ξ:=by rfl):DO X (.Call (.Name x p) (e::es) [] pos) (ag Y fs):=cL h F (hr.mono hk) ha hn rfl he q
theorem Z9{id:String}(h:aw X.env.scope x=D)(hc:Hw X (.builtin id) r)(hr:MS X.K r gg)(Y:X.mg x=V)(hv:Kk x=O (.builtin id))(ha:Mz X (e::es) fs)(he:G7 (e::es) X.env=(ξ,eval e X.env)::G7 es X.env:=by rfl)(q:(IK pos (G7 es X.env)).any (·.1)=ξ:=by rfl):DO X (.Call (.Name x p) (e::es) [] pos) (ag gg fs):=cV h hc hr Y hv ha rfl he q
theorem doT{Ty:String}(h:aw X.env.scope x=D)(hc:Hw X (.type Ty) r)(hr:MS X.K r gg)(Y:X.mg x=V)(hv:Kk x=O (.type Ty))(ha:Mz X (e::es) fs)(he:G7 (e::es) X.env=(ξ,eval e X.env)::G7 es X.env:=by rfl)(q:(IK pos (G7 es X.env)).any (·.1)=ξ:=by rfl):DO X (.Call (.Name x p) (e::es) [] pos) (ag gg fs):=db h hc hr Y hv ha rfl he q
theorem Xe{d:Dt}(h:aw X.env.scope x=D)(q:iU X.K X.mg x d):DL X (.Name x pos) (kD d):=Aa h q rfl
end
def qm:Dt->Dt->C T
 |.int i,.int j=>if i=1/\0<=j/\j<=1000000 then O (.f (.int (i*2^j.toNat)))else V
 |_,_=>V
theorem oT{X:Cx}:HY X (L5 .LShift) (rI (λi j=>i=1/\0<=j/\j<=1000000) λi j=>.int (i*2^j.toNat)):=V9 λi j _ _ _ _ _ Y q=>by obtain⟨rfl,h1,h2⟩:=Y;exact lshift_int h1 (by rw[show JR.Int.intBits 1=1 by decide +kernel];lia) q
theorem xY:Kv K (rI (λi j=>i=1/\0<=j/\j<=1000000) λi j=>.int (i*2^j.toNat)) qm:=by
 intro F H x y vx vy Q t fh Y ry q k;unfold qm at q;split at q<;>first|(cases q;done)|skip
 split at q
 .cases q;cases Y;cases ry;exact⟨_,_,rfl,rfl,by assumption,k.int fh⟩
 .cases q
theorem DZ{j:Int}(q:0<=j)(h1:j<=1000000):qm (.int 1) (.int j)=O (.f (.int (1*2^j.toNat))):=if_pos ⟨rfl,q,h1⟩
end L2
namespace HT
open PySem PySem.Spec PyProof.Rows
theorem tX {prog:HL} {w:Ja} {A:HM} {E:Value->t2->Prop} {s:t2} {t sl:J9} {q:Array Value} {vl vu:Value} {lo hi:C Int} {Q:Value->t2->Prop} (Y:IsTup s.heap t q) (hs:s.heap.IsSliceOf sl vl vu .none) (pl:Op vl lo) (pu:Op vu hi)
  (hw:HN q.size 0 lo=0/\HN q.size q.size hi=q.size) (h:Q (.ref t) s):wpAny (model prog w) A (Pg (.ref t) (.ref sl)) Q E s:=by
 obtain⟨os,Wg,Pp,RZ⟩:=id hs;have hTs:s.TypeIs (.ref sl) "slice":=⟨os,Wg,Pp⟩;unfold Pg
 try with_reducible refine NF ?_
 first|refine wB (Hf ?_)|skip
 refine wB (wpAny_sequenceKey Y.typeIs Ω ?_)
 refine wB (Pd (name:=xv "__getitem__") Y.typeIs Uj
  (Na Uj Y.typeIs entry_tuple_getitem ?_ (args_tuple_getitem _ _)))
 show wpAny _ _ (qy3 (.ref t) >>= _) _ _ s;refine wB (tupleItemsOf_ Y ?_);refine wB (Uq hTs ?_);rw[if_pos Ω];refine wB (fA hs pl pu ?_);show wpAny _ _ (if(((HN q.size 0 lo:Nat):Int)==0&&(1:Int)==1&&(HN q.size q.size hi-HN q.size 0 lo)==q.size)=D then _ else _) _ _ s;rw[if_pos (by rw[hw.1,hw.2];simp)];refine wB (m:=JR.Tuple.tupleIsExact _) (wB (Uq Y.typeIs (Hf ?_)));rw[if_pos Ω]
 first
  |exact wB (m:=rule _) (RM (Hf ⟨_,rfl,Hf h⟩))
  |exact wB (RM (Hf ⟨_,rfl,Hf h⟩))
  |exact RM (Hf ⟨_,rfl,Hf h⟩)
  |(wp_walk;exact⟨_,rfl,Hf h⟩)
end HT
namespace L2
open PySem PySem.Spec PyProof.Rows
variable{K:Hk}{f:De->C Dt}
section
variable{X:Cx}
def Xf(K:Hk):ψ->C Int->C Int->Hp->VK->Prop:=λx lo hi H Q=>∃a xs,x=.ref a/\II K H a xs/\(HT.HN xs.length 0 lo=0/\HT.HN xs.length xs.length hi=xs.length)/\Q (.ref a) H
theorem Aw:Nn X (Xf X.K):=by
 intro J1 s G H x v vl vu lo hi sl Q I rx hs pl pu h;obtain⟨a,xs,rfl,hx,hw,q⟩:=h;cases rx;obtain⟨J8,r,ht,hz⟩:=I.tuple hx;have Y:J8.toArray.size=xs.length:=by rw[JE];exact r.length.symm
 refine⟨"tuple",_,Uj.lookup,ht.typeIs,?_⟩;exact HT.tX ht hs pl pu (by rw[Y];exact hw) ⟨.ref a,H,I,rfl,q⟩
def Ax:Dt->C Int->C Int->C T
 |.t l,lo,hi=>if HT.HN l.length 0 lo=0/\HT.HN l.length l.length hi=l.length then O (.f (.t l))else O (.f (.t (oG l lo hi)))
 |x,lo,hi=>Q9 x lo hi
def D0(fa:De->C Dt)(Y q:De->C (C Int)):De->C T:=λJ=>(fa J).bind λx=>(Y J).bind λl=>(q J).bind λh=>Ax x l h
theorem Gx{F H:Hp}{x:Dt}{v:ψ}{lo hi:C Int}{Q:VK}{t:T}(Y:zz F H)(rx:HX K F H x v)(q:Ax x lo hi=O t)(k:KO K F H t Q):Dz K v lo hi H Q∨Xf K v lo hi H Q:=by
 unfold Ax at q;split at q
 .rename_i l;split at q
  .rename_i hn;cases q;obtain⟨a,vs,rfl,h1,h2⟩:=rx;refine .inr ⟨a,vs,rfl,Y.tup h1,by rw[h2.length];exact hn,k.leaf.here Y ?_⟩;simp only[G3];exact⟨a,vs,rfl,h1,h2⟩
  .rename_i hn;exact .inl (DC Y rx (by show(if _ then V else O _)=_;rw[if_neg hn];exact q) k)
 .exact .inl (DC Y rx q k)
theorem vc{e:Jc}{lo hi:C Jc}{p2 pos:Pos}{fl fh:De->C (C Int)}(he:DB X e f)(hl:DP X lo fl)(hh:DP X hi fh):DO X (.Subscript e (.Slice lo hi V p2) pos) (D0 f fl fh):=PE.mono (pz (Nn.or wS Aw) he hl hh) λG H Q ⟨Φ,J,F,t,hK,en,q,k⟩=>by unfold D0 at q;obtain⟨x,hx,q⟩:=bS q;obtain⟨l,hl,q⟩:=bS q;obtain⟨h,hh,q⟩:=bS q;exact⟨Φ,J,F,x,hK,en,hx,λv H1 F1 s1 r1=>⟨Φ,J,F1,l,hK,en.step s1,hl,λH2 F2 Y=>⟨Φ,J,F2,h,hK,en.step (s1.trans Y),hh,λH3 F3 s3=>Gx s3.fh (r1.step (Y.ff.trans s3.ff) (Y.hh.trans s3.hh)) q (k.step ((s1.trans Y).trans s3))⟩⟩⟩
def xZ(K:Hk):R2:=λx y H Q=>∃a b z xs,x=.ref a/\y=.ref b/\II K H a (z::xs)/\II K H b []/\Q (.ref a) H
theorem Ay:HY X (L5 .Add) (xZ X.K):=by
 intro J1 s G H x y v u Q I rx ry h;obtain⟨a,b,z,xs,rfl,rfl,ha,hb,q⟩:=h;cases rx;cases ry;obtain⟨J8,r1,p1,_⟩:=I.tuple ha;obtain⟨its2,r2,p2,_⟩:=I.tuple hb;cases r2;obtain⟨⟨cls,dd,data,sl⟩,ho,hc,n,hd⟩:=id p1;obtain⟨⟨RY,Q0,data2,Q3⟩,Y,NK,n2,hd2⟩:=id p2;simp only at hc hd NK hd2;subst hc hd NK hd2
 exact VJ ⟨_,ho,rfl⟩ ⟨_,Y,rfl⟩ Ze Zj PySem.F.slot_tuple_add PySem.F.entry_tuple_add (PySem.F.args_tuple_add_2 _ _)
  (tuple_addW1 a b J8.toArray #[] n n2 dd Q0 sl Q3 (by cases r1;simp) rfl) ⟨ho,Y,⟨.ref a,H,I,rfl,q⟩⟩
def lr:Dt->Dt->C T
 |.t (d::l),.t []=>O (.f (.t (d::l)))
 |x,y=>w9 x y
theorem Az:HY X (L5 .Add) (λx y H Q=>(p0 X.K x y H Q∨mE X.K x y H Q)∨xZ X.K x y H Q):=HY.or Aj Ay
theorem D3:Kv K (λx y H Q=>(p0 K x y H Q∨mE K x y H Q)∨xZ K x y H Q) lr:=by
 intro F H x y vx vy Q t Y rx ry hg k;unfold lr at hg;split at hg
 .rename_i d l;cases hg;obtain⟨a,vs,rfl,h1,h2⟩:=rx;obtain⟨b,ws,rfl,h3,h4⟩:=ry;simp only[hX]at h4;subst h4;have q:=h2;simp only[hX]at q;obtain⟨v,us,rfl,_,_⟩:=q;refine .inr ⟨a,b,v,us,rfl,rfl,Y.tup h1,Y.tup h3,k.leaf.here Y ?_⟩;simp only[G3];exact⟨a,_,rfl,h1,h2⟩
 .exact .inl (DJ F H _ _ vx vy Q t Y rx ry hg k)
end
abbrev Oe:=Str×Int×Bool
noncomputable def h3(k:Oe):Dt:=.t [.str k.1,.int k.2.1,.bl k.2.2]
noncomputable def oU:Dt->C Oe
 |.t [.str a,.int b,.bl c]=>O (a,b,c)
 |_=>V
theorem tY{d:Dt}{k:Oe}(h:oU d=O k):d=h3 k:=by
 unfold oU at h;split at h<;>cases h
 rfl
theorem qo:∀{l:Z Dt}{ks:Z Oe},l.mapM oU=O ks->l=ks.map h3
 |[],ks,h=>by simp at h;subst h;rfl
 |d::ds,ks,h=>by simp only[List.mapM_cons,qx7,Y7,Option.pure_def,VC]at h;obtain⟨k,hk,r,q,rfl⟩:=h;rw[tY hk,qo q];rfl
theorem x0(a b:Oe):Jf (h3 a) (h3 b)=decide (a=b):=by
 obtain⟨a1,a2,Y⟩:=a;obtain⟨b1,b2,q⟩:=b;show Ib [.str a1,.int a2,.bl Y] [.str b1,.int b2,.bl q]=_;simp only[Ib,Jf];rw[O8];simp
 try (cases Y<;>cases q<;>simp)
def Xg(K:Hk):R2:=λx y H Q=>∃(p:J9)(vs:Z ψ)(q:Z Oe)(ks:Oe),y=.ref p/\II K H p vs/\hX K H (q.map h3) vs/\G3 K H (h3 ks) x/\Q (.bl (decide (ks∈q))) H
variable{k:Nat}
section
variable{X:Cx}{J1:Z (J9×Obj)}{s:t2}{G:St}{H:Hp}
open Classical in
theorem Gy {A:HM} {vs:Z ψ} {J8:Z Value} {q:Z Oe} {ks:Oe} {x:ψ} {u:Value} (I:nC X J1 G H s) (hu:A.units+1<cLine) (r:Da vs J8) (hr:hX X.K H (q.map h3) vs) (hx:G3 X.K H (h3 ks) x) (rx:BI x u) :
  ∃e:Value->Bool,(∀y,y∈J8.toArray->KQ A s y u (e y))/\J8.toArray.any e=decide (ks∈q):=by
 have at':∀y∈J8,∃(k:Oe)(v:ψ),k∈q/\G3 X.K H (h3 k) v/\BI v y:=λy Y=>by obtain⟨j,hj,rfl⟩:=qx9 Y;obtain⟨d,v,h1,h2,h3⟩:=cE hr r hj;rw[Je]at h1;obtain⟨k,hk,rfl⟩:=mS h1;exact⟨k,v,Ls hk,h2,h3⟩
 have one:∀{y:Value}{k k':Oe}{v v':ψ},G3 X.K H (h3 k) v->BI v y->G3 X.K H (h3 k') v'->BI v' y->k=k':=λ{y k k' v v'} a1 a2 b1 b2=>by have:=a2.inj b2;subst this;have:=jZ I _ _ _ a1 b1;rw[x0]at this;exact of_decide_eq_true this
 refine⟨λy=>decide (∃v,G3 X.K H (h3 ks) v/\BI v y/\ks∈q/\y∈J8),λy Y=>?_,?_⟩
 .have Y:y∈J8:=by simpa using Y
  obtain⟨k,v,hk,h1,h2⟩:=at' y Y
  have e:=wA I 1 (A:=A) (d:=h3 k) (e:=h3 ks) (by show HA _+1<=1;exact HG _) hu (by rfl) h1 hx h2 rx;rw[x0]at e
  have:decide (k=ks)=decide (∃v,G3 X.K H (h3 ks) v/\BI v y/\ks∈q/\y∈J8):=by
   rw[decide_eq_decide];constructor
   .intro z;subst z;exact⟨v,h1,h2,hk,Y⟩
   .rintro⟨v',g1,g2,_,_⟩;exact one h1 h2 g1 g2
  rw[this]at e;exact e
 .rw[O8];simp only[List.any_toArray,Vy,decide_eq_true_eq];constructor
  .rintro⟨y,_,v,_,_,h,_⟩;exact h
  .intro h;obtain⟨j,hj,e⟩:=qx9 h
   have hl:j<J8.length:=by rw[<- r.length,hr.length,Hl];exact hj
   obtain⟨d,v,h1,h2,h3⟩:=cE hr r hl;rw[Je,gQ hj,e]at h1;cases h1;exact⟨J8[j],QF hl,v,h2,h3,h,QF hl⟩
theorem x9(hr:Hh k X.A)(hK:X.K=K):HY X (JQ .In) (Xg K):=by subst hK;intro J1 s G H x y v u Q I rx ry h;obtain⟨p,vs,kss,ks,rfl,hq,h1,h2,q⟩:=h;cases ry;obtain⟨J8,r,Y,hz⟩:=I.tuple hq;have hu:=hr.units;obtain⟨e,h3,h4⟩:=Gy (A:=X.A.in1) I (show X.A.in1.units+1<cLine by have:X.A.in1.units<=X.A.units+1:=(by first|exact HG _|exact QH _);lia) r h1 h2 rx;refine SeqAt.in_tupleAt e Y h3 ⟨.bl _,H,I,rfl,?_⟩;rw[h4];exact q
end
def ya:Dt->Dt->C T
 |x,.t l=>(oU x).bind λks=>(l.mapM oU).map λq=>.f (.bl (decide (ks∈q)))
 |_,_=>V
theorem BP:Kv K (Xg K) ya:=by
 intro F H x y vx vy Q t Y rx ry q k;unfold ya at q;split at q<;>first|(cases q;done)|skip
 rename_i l;obtain⟨ks,hk,q⟩:=bS q;obtain⟨kss,hks,q⟩:=mS q;cases q;have e1:=tY hk;have e2:=qo hks;subst e1 e2;obtain⟨a,vs,rfl,h1,h2⟩:=ry;exact⟨a,vs,kss,ks,rfl,Y.tup h1,h2.same Y,rx.rep Y,k.bl Y⟩
section
variable{X:Cx}
end
section
variable{P:HL}{u:Ja}{A:HM}{R:Result->t2->Prop}{I:J9}{fp wr:Z J9}{n:Nat}{Pv:Nat->Value->Prop}{St:Nat->Heap->Prop}
end
section
variable{P:HL}{u:Ja}{A:HM}{E:Value->t2->Prop}{s:t2}{l:J9}{xs:Array (Int×Tok)}{d:Value}
end
section
variable{X:Cx}{e:Jc}{pos p kp kq:Pos}{sc:Jd}{fs:De->C (Z Dt)}{d:Int}{t:TA}{i:Nat}
end
open PySem
section
variable{K:Type}[DecidableEq K]
theorem vd{J5:Z K}{k x:K}:x∈fS J5 k↔x∈J5∨x=k:=by
 unfold fS;split
 .exact⟨.inl,λh=>h.elim id λe=>e▸by assumption⟩
 .simp
theorem m9{x:K}:∀{ss J5:Z K},x∈ss.foldl fS J5↔x∈J5∨x∈ss
 |[],J5=>by simp
 |k::ss,J5=>by rw[PJ,m9,vd,HU,or_assoc]
theorem KZ{ss:Z K}{x:K}:x∈bZ ss↔x∈ss:=by unfold bZ;rw[m9];simp
theorem qp{J5:Z K}{k:K}(h:J5.Nodup):(fS J5 k).Nodup:=by
 unfold fS;split
 .exact h
 .rename_i hk;rw[Mt];exact⟨h,Ξ,λa Y b q e=>hk (by rw[HK.mp q]at e;exact e▸Y)⟩
theorem jQ:∀{ss J5:Z K},J5.Nodup->(ss.foldl fS J5).Nodup
 |[],_,h=>h
 |k::ss,J5,h=>jQ (ss:=ss) (qp h)
theorem oV(ss:Z K):(bZ ss).Nodup:=jQ Vz
end
theorem lu:∀ns:Z Int,l7 (ns.map .int)=O ns
 |[]=>rfl
 |k::ns=>by rw[Ia];unfold l7;rw[lu ns];rfl
section
variable{X:Cx}{K:Type}[DecidableEq K][Inhabited K]{κ:SK X.prog X.w K}
theorem qq:Hw X (.builtin "len") (λxs H Q=>∃p ss,xs=[.ref p]/\H p=O (qf κ p ss)/\Q (.int (ss.length:Nat)) H):=by
 intro J1 s G H xs us Q I r h;obtain⟨p,ss,rfl,hq,q⟩:=h;obtain⟨u,rfl,rx⟩:=d4 r;cases rx;have hT:K9 κ s.heap p ss (c8 X.w):=(show Hn X.prog X.w H s.heap p (qf κ p ss)from I.Hm p _ hq).1;obtain⟨o,es,ep,t,g1,g2,g3,x,hb,Y,_⟩:=hT.ex;have e:es.size=ss.length:=by rw[<- x.Sq.length_eq,Hl,M6]
 have Sr:es.size<4096:=hb;refine call_len_set g1 g2 g3 Y Θ ⟨.int (ss.length:Nat),H,I.tok _,⟨_,by rw[e]⟩,q⟩
end
def gH:Z Dt->C T
 |[.e ds]=>(l7 ds).bind λss=>if ss.length<4000 then O (.f (.int ((bZ ss).length:Nat)))else V
 |_=>V
section
variable{X:Cx}{e:Jc}{pos Ir p p2:Pos}{sc:Jd}{fs:De->C (Z Dt)}
theorem rX (h1:aw sc "len"=D) (h2:aw sc "set"=D) (hc:X.calm=D) (m1:X.mg "len"=V) (m2:X.mg "set"=V) (ha:Mz X [e] fs) (e1:bT X sc:=by rfl)
  (s1:G7 [.Call (.Name "set" p2) [e] [] Ir] X.env=(ξ,eval (.Call (.Name "set" p2) [e] [] Ir) X.env)::G7 [] X.env:=by rfl) (n1:(IK pos (G7 [] X.env)).any (·.1)=ξ:=by rfl)
  (s2:G7 [e] X.env=(ξ,eval e X.env)::G7 [] X.env:=by rfl) (n2:(IK Ir (G7 [] X.env)).any (·.1)=ξ:=by rfl):DO X (.Call (.Name "len" p) [.Call (.Name "set" p2) [e] [] Ir] [] pos) (ag gH fs):=
 PE.mono (g0 h1 (qq (κ:=DR X.prog X.w)) m1 (by rfl) (bM (iq h2 (mZ (kvI (X:=X)) hc) m2 (by rfl) ha.pa e1 s2 n2) dN s1) e1 s1 n1) λG H Q ⟨Φ,J,F,t,hK,en,hf,k⟩=>by
  unfold ag at hf;obtain⟨ds,hd,q⟩:=bS hf;refine⟨Φ,J,F,ds,hK,en,hd,λvs H1 F1 st r=>?_⟩;unfold gH at q;split at q<;>first|(cases q;done)|skip
  obtain⟨ss,hs,q⟩:=bS q;split at q<;>cases q
  rename_i hz;obtain⟨v,rfl,rv⟩:=cy r;obtain⟨b,ws,rfl,g1,g2⟩:=rv;have:=oQ g2 hs;subst this;refine⟨b,ss,rfl,g1,hz,λl hl=>?_⟩;have Y:Hc F1 H1 F1 (upd H1 l (qf (DR X.prog X.w) l (bZ ss))):=Hc.made st.fh hl;exact⟨l,bZ ss,rfl,aA,(k.step (st.trans Y)).int Y.fh⟩
end
theorem ve{X:Cx}:Q4 X "list.index" (λx vs H Q=>∃(p:J9)(ns:Z Int)(k:Int),x=.ref p/\vs=[.int k]/\Io X.K H p (ns.map ψ.int)/\k∈ns/\ns.length<=100000/\Q (.int (ns.idxOf k:Nat)) H):=by
 intro J1 s G H x vs v us Q I r rv h;obtain⟨p,ns,k,rfl,rfl,hq,hk,hz,q⟩:=h;cases r;obtain⟨u,rfl,ru⟩:=rv.one;obtain⟨t,rfl⟩:=ru;obtain⟨J8,r',pl,Sn⟩:=I.list hq;have hi:=qW r';have Y:=hi.length;obtain⟨⟨cls,dd,data,sl⟩,ho,hc,n,hd⟩:=pl.isList;simp only at hc hd;subst hc hd;have hj:ns.idxOf k<ns.length:=zb3.mpr hk;refine Zq PySem.F.slot_list_index ⟨_,ho,rfl⟩ PySem.F.entry_list_index (PySem.F.args_list_index_2 _ _) (PySem.SeqAt.list_indexAt p J8.toArray n dd sl (.int k t) (isInt k) (ns.idxOf k) (by simpa[Y] using hj) Θ ?_ ?_) ⟨ho,λy hy=>(eq_isInt k t hi y (by simpa using hy)).at _ _,⟨.int (ns.idxOf k:Nat),H,I.tok _,⟨_,rfl⟩,q⟩⟩
 .show isInt k J8[ns.idxOf k]=D;rw[isInt_at k hi _ Θ hj];simpa using List.getElem_idxOf hj
 .intro j hjs Mw;show isInt k J8[j]=ξ;rw[isInt_at k hi j (by simpa using hjs) Θ];exact ne_of_lt_idxOf Mw _
def dL:Dt->Z Dt->C T
 |.e ds,[.int k]=>(l7 ds).bind λns=>if k∈ns/\ns.length<=100000 then O (.f (.int (ns.idxOf k:Nat)))else V
 |_,_=>V
theorem yb:WS K (λx vs H Q=>∃(p:J9)(ns:Z Int)(k:Int),x=.ref p/\vs=[.int k]/\Io K H p (ns.map ψ.int)/\k∈ns/\ns.length<=100000/\Q (.int (ns.idxOf k:Nat)) H) dL:=by
 intro F H d v ds vs Q t fh rd rs q k;unfold dL at q;split at q<;>first|cases q;done|skip
 obtain⟨ns,hs,q⟩:=bS q;split at q<;>cases q
 rename_i Y;obtain⟨a,ws,rfl,h1,h2⟩:=rd;have:=oQ h2 hs;subst this;obtain⟨v,rfl,rv⟩:=cy rs;cases rv;exact⟨a,ns,_,rfl,rfl,h1,Y.1,Y.2,k.int fh⟩
section
variable{X:Cx}{e o:Jc}{es:Z Jc}{fo:De->C Dt}{fs:De->C (Z Dt)}{apos Hb pos:Pos}
theorem vf (ho:DB X o fo) (ha:Mz X (e::es) fs)
  (Jn:On o "index" X.env (eval o X.env)=eval o X.env:=by rfl)
  (JH:((IK Hb (G7 (e::es) X.env)).all (λx=>!x.1)&&(QL Hb (QK [] X.env)).all (λx=>x.1.isSome)
   && decide ((e::es).length+([]:Z Mc).length+(if([]:Z Mc).isEmpty then 0 else 1)<30))=D:=by rfl)
  (Ip:(apos.endLine==Hb.line)=D:=by rfl) (hs:G7 (e::es) X.env=(ξ,eval e X.env)::G7 es X.env:=by rfl) (Sv:(IK Hb (G7 es X.env)).any (·.1)=ξ:=by rfl) :
  DO X (.Call (.Attribute o "index" apos) (e::es) [] Hb) (f6 dL fo fs):=PE.mono (pC PySem.F.plainAttrs_list PySem.F.slot_list_index PySem.F.type_list_index ve ho ha.pa Jn JH Ip hs Sv) λG H Q ⟨Φ,J,F,t,hK,en,q,k⟩=>by
 unfold f6 at q;obtain⟨d,hd,q⟩:=bS q;obtain⟨ds,RZ,q⟩:=bS q;refine⟨Φ,J,F,d,hK,en,hd,λv H1 F1 st rv=>⟨?_,Φ,J,F1,ds,hK,en.step st,RZ,λvs H2 F2 Y rvs=>yb F2 H2 d v ds vs Q t Y.fh (rv.step Y.ff Y.hh) rvs q (k.step (st.trans Y))⟩⟩;unfold dL at q;split at q<;>first|cases q;done|skip
 obtain⟨a,ws,rfl,h1,h2⟩:=rv;exact .inl ⟨rfl,ws,h1⟩
end
section
variable{X:Cx}
end
variable{i j:Int}
theorem Sw:bP (.int i) (.int j)=O (.f (.int (i+j))):=rfl
variable{x y:Str}
theorem D4(h:x.length+y.length<=Hz):bP (.str x) (.str y)=O (.f (.str (x++y))):=if_pos h
variable{l m:Z Dt}
theorem D5(h:l.length+m.length<=Hz):bP (.e l) (.e m)=O (.e (l++m)):=if_pos h
theorem rY(h:jN i j=D):jU (.int i) (.int j)=O (.f (.int (i*j))):=if_pos h
theorem dX(h:0<j):du (.int i) (.int j)=O (.f (.int (i%j))):=if_pos h
theorem rZ(h:tw i j=D):iS (.int i) (.int j)=O (.f (.int (i^j.toNat))):=if_pos h
theorem Gz(h:(Iq l m&&decide (HA l<=59))=D):UK (.t l) (.t m)=O (Ib l m):=if_pos h
theorem GA(h:(Iq l m&&decide (HA l<=59))=D):UK (.e l) (.e m)=O (Ib l m):=if_pos h
variable{neg b:Bool}
theorem r6{x y:Dt}(h:UK x y=O b):Hs neg x y=O (.f (.bl (if neg then !b else b))):=by unfold Hs;rw[h];rfl
theorem lv:Hs ξ (.int i) (.int j)=O (.f (.bl (decide (i=j)))):=rfl
theorem Ic{i j:Str}:Hs ξ (.str i) (.str j)=O (.f (.bl (decide (i=j)))):=rfl
theorem K0:Hs D (.int i) (.int j)=O (.f (.bl (!decide (i=j)))):=rfl
theorem Jo{i j:Str}:Hs D (.str i) (.str j)=O (.f (.bl (!decide (i=j)))):=rfl
theorem Ri{x:Dt}:MU neg x .G8=O (.f (.bl (if neg then !jO x else jO x))):=rfl
theorem d5:ah (.e l) (.int i)=(Ks l i).map .f:=rfl
theorem na:ah (.t l) (.int i)=(Ks l i).map .f:=rfl
theorem yc(h:x.length<=Hz):ah (.str x) (.int i)=(Ks x.cps.toList i).map λc=>.f (.str ⟨#[c]⟩):=if_pos h
theorem OR{ks:Z Hr}{k:Dt}:aS neg k (.IJ ks l)=(l4 k).map λk=>.f (.bl (if neg then !(cW ks l k).isSome else(cW ks l k).isSome)):=rfl
theorem GB{x:Dt}(h:(cu x&&l.all cu)=D):aS neg x (.e l)=O (.f (.bl (if neg then !(l.any λy=>MV y x)else l.any λy=>MV y x))):=by cases x<;>simp only[aS,Sj,WQ]<;>first|rw[if_pos h];rfl|cases h
theorem GC{x:Dt}(h:(cu x&&l.all cu)=D):aS neg x (.t l)=O (.f (.bl (if neg then !(l.any λy=>MV y x)else l.any λy=>MV y x))):=by cases x<;>simp only[aS,Sj,WQ]<;>first|rw[if_pos h];rfl|cases h
theorem D6(h:fZ j=D):d6 [.int j]=O (iw 0 j.toNat):=if_pos h
theorem yd(q:-1000000000<=j)(h1:j<=1000000000):fZ j=D:=by unfold fZ;simp only[IH,decide_eq_true_eq];lia
variable{n:Nat}
theorem D7(h:n<=1000000000):d6 [.int n]=O (iw 0 n):=by rw[D6 (yd Θ Θ)];rfl
theorem Xh:Qi (.e l)=O l:=rfl
theorem Xi:Qi (.t l)=O l:=rfl
theorem Sx:wE (.bl b)=O b:=rfl
theorem Xj:Sf (.f (.bl b))=O b:=rfl
theorem GD{b:Int}:Sk (.int b)=O b:=rfl
theorem small(h:n<=1000000):n<=Hz:=Iw h Ω
theorem i7(h:n<1000000):n<Hz:=Le h Ω
variable{g1 g2:De->C Hj}{J:De}
theorem jA{JO:De}(h:g1 J=O (.nx JO)):aj g1 g2 J=g2 JO:=by unfold aj;rw[h];rfl
theorem D8{t:T}(h:g1 J=O (.rt t)):aj g1 g2 J=O (.rt t):=by unfold aj;rw[h];rfl
variable{bb:Dt->De->C De}{g:De->C Hj}
theorem ng{d:Dt}{r:Z Dt}{HP Ln:De}(h1:bb d J=O HP)(h2:g HP=O (.nx Ln)):fu bb g (d::r) J=fu bb g r Ln:=by show((bb d J).bind λHP=>(g HP).bind λo=>match o with|.nx Ln=>fu bb g r Ln|.ct Ln=>fu bb g r Ln|.bk Ln=>O (.nx Ln)|.rt t=>O (.rt t))=_;rw[h1,Im,h2];rfl
theorem aG{α:Type}{l:Z α}:Ks l (k:Int)=l[k]?:=by
 unfold Ks No;rw[if_pos Θ];by_cases h:k<l.length
 .rw[if_pos Θ];simp
 .rw[if_neg Θ];simp;lia
theorem lw(h1:-1000000000000000000<i)(h2:i<1000000000000000000):jU (.int i) (.int j)=O (.f (.int (i*j))):=rY (zW h1 h2)
theorem D9(h1:-1000000000000000000<j)(h2:j<1000000000000000000):jU (.int i) (.int j)=O (.f (.int (i*j))):=rY (zX h1 h2)
def qr(o:C Hj)(g:De->C Hj):C Hj:=o.bind λo=>match o with
 |.nx q=>g q
 |o=>O o
theorem Sy:aj g1 g2 J=qr (g1 J) g2:=rfl
theorem GE:qr (O (.nx J)) g=g J:=rfl
theorem GF{t:T}:qr (O (.rt t)) g=O (.rt t):=rfl
def Xk:C Hj->C T
 |some (.rt t)=>O t
 |some (.nx _)=>O (.f .G8)
 |_=>V
variable{ds:Z Dt}
theorem Sz{m:Nat}:bf m g ds=Xk (g (ds.map (λd=>O (.f d))++Ol (m-ds.length) V)):=rfl
theorem GW{t:T}:Xk (O (.rt t))=O t:=rfl
noncomputable def ij{α:Type}(b:C Bool)(f g:De->C α)(J:De):C α:=b.bind λb=>if b then f J else g J
theorem GX{α:Type}{f g:De->C α}:ij (O D) f g J=f J:=rfl
theorem GY{α:Type}{f g:De->C α}:ij (O ξ) f g J=g J:=rfl
variable{c:De->C Bool}
theorem Xl:HD c g1 g2 J=ij (c J) g1 g2 J:=rfl
theorem GG{g1 g2:De->C T}:Qh c g1 g2 J=ij (c J) g1 g2 J:=rfl
noncomputable def kB(b:Bool):De->C Bool:=λ_=>O b
noncomputable def kT(b:Bool):De->C T:=λ_=>O (.f (.bl b))
theorem oW{f g:De->C Bool}:cU f g J=ij (f J) g (kB ξ) J:=rfl
theorem BQ{f g:De->C Bool}:JJ f g J=ij (f J) (kB D) g J:=rfl
theorem Ea{g:De->C T}:ir f g J=ij ((f J).bind pL) g (kT ξ) J:=by
 unfold ir ij kT;cases f J with
 |none=>rfl
 |some d=>rfl
theorem GH{g:De->C T}:UG f g J=ij ((f J).bind pL) (kT D) g J:=by
 unfold UG ij kT;cases f J with
 |none=>rfl
 |some d=>rfl
noncomputable def mkL(ds:Z Dt):C T:=if ds.length<=Hz then O (.e ds)else V
noncomputable def Xm(ds:Z Dt):C T:=if ds.length<=Hz then O (.f (.t ds))else V
theorem lx(h:ds.length<=1000000):mkL ds=O (.e ds):=if_pos (small h)
theorem GZ(h:ds.length<=1000000):Xm ds=O (.f (.t ds)):=if_pos (small h)
theorem Eb{f:De->C (Z Dt)}:aX f J=(f J).bind mkL:=rfl
theorem SA{f:De->C (Z Dt)}:bi f J=(f J).bind Xm:=rfl
variable{fi:De->C (Z Dt)}
theorem G0{src:Z (C Nat)}{ft:De->C Bool}{fe:De->C Dt}:aL src fi bb ft fe J=(fi J).bind λds=>(cO bb ft fe (dC src J) ds).bind mkL:=rfl
theorem r8(cs:Z Nat):Txt.join "" (cs.map λc=>(⟨#[c]⟩:Str))=⟨cs.toArray⟩:=by
 have e0:("":Str).cps=#[]:=by decide +kernel
 have Y:∀(l:Z Nat)(J5:Array Nat),(l.map λc=>(⟨#[c]⟩:Str)).foldl (λJ5 p=>J5++("":Str).cps++p.cps) J5=J5++l.toArray:=by
  intro l;induction l with
  |nil=>intro J5;simp
  |cons c l q=>intro J5;rw[Ia,PJ,q,e0];simp
 unfold Txt.join JR.Str.glued;cases cs with
 |nil=>rfl
 |cons c r=>show(⟨(r.map λc=>(⟨#[c]⟩:Str)).foldl (λJ5 p=>J5++("":Str).cps++p.cps) (#[c]:Array Nat)⟩:Str)=_;rw[Y];simp
theorem oX(cs:Z Nat)(h:cs.length<=1000):JoinOk "" (cs.map λc=>(⟨#[c]⟩:Str))=D:=by
 unfold JoinOk
 have h1:∀y∈cs.map (λc=>(⟨#[c]⟩:Str)),y.length<=1:=λy q=>by obtain⟨c,_,rfl⟩:=Jg.mp q;exact HG _
 rw[StrLaws.joinFits h1 (by rw[Hl,show("":Str).length=0 by decide +kernel];lia)];rfl
theorem fV:∀ts:Z Str,fO (ts.map .str)=O ts
 |[]=>rfl
 |t::r=>by show(fO (r.map .str)).map (t::·)=_;rw[fV r];rfl
def UQ(cs:Z Nat):Z Dt:=cs.map λc=>.str ⟨#[c]⟩
theorem ye{cs:Z Nat}(h:cs.length<=1000):iy (.str "") [.e (UQ cs)]=O (.f (.str ⟨cs.toArray⟩)):=by
 have e:UQ cs=(cs.map λc=>(⟨#[c]⟩:Str)).map .str:=by unfold UQ;rw[IV];rfl
 show(fO (UQ cs)).bind _=_;rw[e,fV,Im,if_pos (oX cs h),r8]
theorem Ec{α:Type}{xs:Z α}(Y:0<=i)(h1:i<xs.length):∃v,Ks xs i=O v/\v∈xs:=by
 obtain⟨n,rfl⟩:=Int.eq_ofNat_of_zero_le Y;have q:n<xs.length:=by lia
 exact⟨xs[n],zD (by simp[q]),QF q⟩
theorem AA(x:Str):x.length=x.cps.toList.length:=by show x.cps.size=_;simp
theorem AB(q:x.length<=1000000)(Y:0<=i)(h1:i<x.length):∃c,ah (.str x) (.int i)=O (.f (.str ⟨#[c]⟩))/\c∈x.cps.toList:=by obtain⟨c,e,hm⟩:=Ec (xs:=x.cps.toList) Y (by rw[<- AA];exact h1);refine⟨c,?_,hm⟩;rw[yc (small q),e];rfl
theorem AC(h:l.length+m.length<=1000000):bP (.e l) (.e m)=O (.e (l++m)):=D5 (small h)
theorem G1:cu (.str x)=D:=rfl
theorem Xn:MV (.str x) (.str y)=decide (x=y):=by show(x==y)=_;rw[O8];simp
theorem ly:∀{l m:Z Dt},l.all cu=D->m.all cu=D->Iq l m=D
 |[],m,_,_=>by cases m<;>simp[Iq]
 |_::_,[],_,_=>by simp[Iq]
 |d::l,e::m,h,h'=>by
  simp only[PK,IH]at h h';simp only[Iq,ly h.2 h'.2,T8];cases d<;>first|(cases h.1;done)|skip
  all_goals cases e<;>first|(cases h'.1;done)|rfl
theorem lz:∀{l:Z Dt},l.all cu=D->HA l=0
 |[],_=>by simp[HA]
 |d::l,h=>by simp only[PK,IH]at h;simp only[HA,lz h.2];cases d<;>first|(cases h.1;done)|rfl
theorem qt(q:l.all cu=D)(Y:m.all cu=D):Hs neg (.e l) (.e m)=O (.f (.bl (if neg then !Ib l m else Ib l m))):=r6 (GA (by rw[ly q Y,lz q];rfl))
theorem Ed:cM fi bb g J=(fi J).bind λds=>fu bb g ds J:=rfl
theorem r9(a:Int)(q:0<n):∃k:Nat,k<n/\a%(n:Int)=(k:Int):=by have Y:=YW a (show(n:Int)≠0 by lia);have h1:=YV a (show(0:Int)<n by lia);exact⟨(a%(n:Int)).toNat,Θ,Θ⟩
theorem Xo{α:Type}{l:Z α}:Ks l 0=l[0]?:=aG (k:=0)
theorem Xp{α:Type}{l:Z α}:Ks l 1=l[1]?:=aG (k:=1)
theorem Xq{α:Type}{l:Z α}:Ks l 2=l[2]?:=aG (k:=2)
theorem Xr{α:Type}{l:Z α}:Ks l 3=l[3]?:=aG (k:=3)
theorem Xs{α:Type}{l:Z α}:Ks l 4=l[4]?:=aG (k:=4)
section
variable{X:Cx}{e c tg iter x y o:Jc}{es:Z Jc}{a:Z Jb}{f:De->C T}{fe fd:De->C Dt}{fs:De->C (Z Dt)}{tc:De->C Bool}{pos KC apos Hb p1 p2:Pos}{i p k:Nat}{Φ:Fm}{J:De}{G:St}{F H F1 H1:Hp}
def Qp(i:Nat)(c:De->C Bool):De->C Bool:=λJ=>match J[i]? with
 |some (O t)=>t.z.bind λd=>c (J.set i (O (.f d)))
 |_=>V
theorem oY(i:Nat)(h:DT X c tc):DT X c (Qp i tc):=PT.mono h λG H Q ⟨Φ,J,F,b,hK,en,Y,k⟩=>by
 unfold Qp at Y;split at Y<;>first|(cases Y;done)|skip
 rename_i t q;obtain⟨d,hd,Y⟩:=bS Y;obtain⟨F',Kx⟩:=en.freeze q hd;exact⟨Φ,_,F',b,hK,Kx,Y,λH' F'' st=>k H' F ⟨st.hh,zz.refl _,en.fh.trans st.hh,λb o e=>.inl e⟩⟩
def Rj(f:De->C T):De->C Dt:=λJ=>(f J).bind T.z
theorem DO.Rj(h:DO X e f):DL X e (Rj f):=PE.mono h λG H Q ⟨Φ,J,F,d,hK,en,hf,k⟩=>by
 obtain⟨t,ht,hd⟩:=bS hf;refine⟨Φ,J,F,t,hK,en,ht,λv H' F' S st o q=>?_⟩;refine k v H' (pK F' H' S) ⟨st.hh,st.ff.trans (j4 λb z=>(q b z).1),om st.fh,λb u z=>?_⟩ (o.freeze (λb z=>(q b z).1) hd);by_cases Y:S b
 .exact .inr (.inl (q b Y).2.1)
 .rw[fD Y]at z;exact st.nw b u z
abbrev OS:=Z Dt×Z Dt×Z Dt
def tAO(K:Hk)(g:De->C OS):TA:=λG H Q=>∃ Φ J F z,Fm.K Φ=K/\En Φ J G F H/\g J=O z/\∀(vs:Z ψ)(H' F':Hp)(a:J9)(S:J9->Prop),Hc F H F' H'→ (∃us Y q,vs=us++.ref a::q/\H' a=O (.e Y)/\hX K F' z.1 us/\hX K F' z.2.1 Y/\hX K F' z.2.2 q)->(S a/\∀b,S b->F' b=V/\H b=V/\∃o,H' b=O o/\NT o)->Q vs H'
noncomputable def Rk(f:De->C Dt)(g:De->C OS):De->C OS:=λJ=>(f J).bind λd=>(g J).map λz=>(d::z.1,z.2)
def SB(f:De->C T)(g:De->C (Z Dt)):De->C OS:=λJ=>(f J).bind λt=>match t with
 |.e l=>(g J).map λys=>([],l,ys)
 |_=>V
theorem yf{g:De->C OS}(h:DL X e fe)(h':PA X es (tAO X.K g))(hs:G7 (e::es) X.env=(ξ,eval e X.env)::G7 es X.env:=by rfl):PA X (e::es) (tAO X.K (Rk fe g)):=PA.mono (bM h h' hs) λG H Q ⟨Φ,J,F,z,hK,en,q,k⟩=>by unfold Rk at q;obtain⟨d,hd,q⟩:=bS q;obtain⟨z',hz,rfl⟩:=mS q;refine⟨Φ,J,F,d,hK,en,hd,λv H1 F1 st r=>⟨Φ,J,F1,z',hK,en.step st,hz,λvs H2 F2 a S s2 ⟨us,ls,ws,e,h1,h2,h3,h4⟩ Y=>?_⟩⟩;refine k (v::vs) H2 F2 a S (st.trans s2) ⟨v::us,ls,ws,by rw[e];rfl,h1,?_,h3,h4⟩ ⟨Y.1,λb z=>⟨(Y.2 b z).1,st.hh.free (Y.2 b z).2.1,(Y.2 b z).2.2⟩⟩;simp only[hX];exact⟨v,us,rfl,r.same s2.ff,h2⟩
theorem BR(h:DO X e f)(h':DA X es fs)(hs:G7 (e::es) X.env=(ξ,eval e X.env)::G7 es X.env:=by rfl):PA X (e::es) (tAO X.K (SB f fs)):=
 PA.mono (bM h h'.pa hs) λG H Q ⟨Φ,J,F,z,hK,en,q,k⟩=>by
  unfold SB at q;obtain⟨t,ht,q⟩:=bS q;split at q<;>first|(cases q;done)|skip
  rename_i l;obtain⟨ys,hy,rfl⟩:=mS q;refine⟨Φ,J,F,_,hK,en,ht,λv H1 F1 S st o hs=>?_⟩;obtain⟨a,ls,rfl,sa,h1,h2⟩:=o;refine⟨Φ,J,F1,ys,hK,en.step st,hy,λvs H2 F2 Y r2=>k (.ref a::vs) H2 F2 a S (st.trans Y) ⟨[],ls,vs,rfl,Y.hh _ _ h1,by simp only[hX],h2.same Y.ff,r2⟩ ⟨sa,λb z=>?_⟩⟩;obtain⟨z1,z2,u,z3,z4⟩:=hs b z;exact⟨Y.KY z1 z3 z4,z2,u,Y.hh _ _ z3,z4⟩
noncomputable def SD(g:De->C OS):De->C T:=λJ=>(g J).bind λz=>if z.1.length+(z.2.2.length+1)<=Hz then O (.tl z.1 z.2.1 z.2.2)else V
theorem BS{g:De->C OS}{x1}(h:PA X es (tAO X.K g)):DO X (.Tuple es x1 pos) (SD g):=PE.mono (qS h) λG H Q ⟨Φ,J,F,t,hK,en,hf,k⟩=>by
 unfold SD at hf;obtain⟨z,hz,hf⟩:=bS hf;split at hf<;>first|(cases hf;done)|skip
 rename_i hl;cases hf;refine⟨Φ,J,F,z,hK,en,hz,λvs H1 F1 a S st ⟨us,ls,ws,e,h1,h2,h3,h4⟩ hS=>⟨?_,λp hp=>?_⟩⟩
 .rw[e,HZ,L9,h2.length,h4.length];exact hl
 .have Y:=Hc.new (o:=.t vs) st.fh hp;refine k _ _ _ S (st.trans Y) ⟨p,a,us,ls,ws,rfl,e▸II.of aA,hS.1,Y.hh _ _ h1,h2.same Y.ff,h3.same Y.ff,h4.same Y.ff⟩ λb q=>?_
  obtain⟨q1,q2,o,q3,q4⟩:=hS.2 b q;exact⟨Y.KY q1 q3 q4,q2,o,Y.hh _ _ q3,q4⟩
def tAN(K:Hk)(p:Nat)(g:De->C (Z Dt)):TA:=λG H Q=>∃ Φ J F xs,Fm.K Φ=K/\En Φ J G F H/\g J=O xs/\(∃v,G[p]?=O (O v))/\∀vs H' F',Hc F H F' H'->(∃us v,vs=us++[v]/\G[p]?=O (O v)/\hX K F' xs us)->Q vs H'
theorem Ee(Y:PE X x (gd p))(hs:G7 [x] X.env=(ξ,eval x X.env)::G7 [] X.env:=by rfl):PA X [x] (tAN X.K p ae):=PA.mono (bM Y dN hs) λG H Q ⟨Φ,J,F,xs,hK,en,hf,⟨v,q⟩,k⟩=>by cases hf;exact⟨v,q,k [v] H F (Hc.refl en.fh) ⟨[],v,rfl,q,by simp only[hX]⟩⟩
theorem tZ(h:DL X e fe)(h':PA X es (tAN X.K p fs))(hs:G7 (e::es) X.env=(ξ,eval e X.env)::G7 es X.env:=by rfl):PA X (e::es) (tAN X.K p (aa fe fs)):=PA.mono (bM h h' hs) λG H Q ⟨Φ,J,F,xs,Y,en,q,hv,k⟩=>by unfold aa at q;obtain⟨d,hd,q⟩:=bS q;obtain⟨ys,hy,q⟩:=bS q;cases q;refine⟨Φ,J,F,d,Y,en,hd,λv H1 F1 st r=>⟨Φ,J,F1,ys,Y,en.step st,hy,hv,λvs H2 F2 s2 ⟨us,w,e,hw,ru⟩=>k (v::vs) H2 F2 (st.trans s2) ⟨v::us,w,by rw[e];rfl,hw,?_⟩⟩⟩;simp only[hX];exact⟨v,us,rfl,r.same s2.ff,ru⟩
def Ef(p:Nat)(g:De->C (Z Dt)):De->C Hj:=λJ=>match J[p]? with
 |some (O (.e l))=>(g J).bind λxs=>if xs.length+1<=Hz then O (.rt (.tl xs l []))else V
 |_=>V
theorem Eg(h:PA X es (tAN X.K p fs)):KI X (.Return (O (.Tuple es k KC)) pos) (Ef p fs):=PS.mono (nQ (qS h)) λθ G H ⟨Φ,J,F,o,hK,en,q,k⟩=>by
 unfold Ef at q;split at q<;>first|(cases q;done)|skip
 rename_i l hl;obtain⟨xs,hx,q⟩:=bS q;split at q<;>cases q
 rename_i hz;obtain⟨v,hv⟩:=en.has p _ hl;refine⟨Φ,J,F,xs,hK,en,hx,⟨v,hv⟩,λvs H1 F1 st ⟨us,w,e,hw,ru⟩=>⟨?_,λt ht=>?_⟩⟩
 .rw[e,HZ,ru.length];exact hz
 .rw[hv]at hw;cases hw;have sn:=Hc.new (o:=.t vs) st.fh ht;have Y:=(en.step st).step sn;obtain⟨S,s⟩:=Y.sep;obtain⟨a,ls,rfl,sa,h1,h2⟩:=s.own p _ _ (bF hl hv);refine k _ _ _ ⟨Y.fh,Y.IY,Y.old,Y.nw,S p,⟨t,a,us,ls,[],rfl,?_,sa,h1,hK▸ru.same sn.ff,h2,by simp only[hX]⟩,λb z=>s.out p b z⟩;rw[e];exact II.of aA
theorem En.Xu (e:En Φ J G F H) {a:J9} {o:HO} {S:Ix->J9->Prop} (s:WI Φ.K F H Φ.B (mz J G) S) (sa:S i a) (nt:NT o:=by intro _ z;cases z) :
  En Φ (J.set i V) G F (upd H a o):=by
 obtain⟨fa,⟨oa,ha,_⟩,ba⟩:=s.out _ a sa;refine⟨λb u z=>?_,λb u h1 h2=>?_,e.old,e.nw,by simp[e.len],λj u z=>?_,S,λj u w z=>?_,λj b z=>?_,s.OJ⟩
 .have:b≠a:=λq=>by rw[q,fa]at z;cases z
  rw[ax this];exact e.fh _ _ z
 .have:b≠a:=λq=>by
   subst q;rcases ba with z|z
   .rw[z]at h1;cases h1
   .exact h2 z
  rw[ax this];exact e.IY b u h1 h2
 .rcases cZ z with ⟨_,z⟩|⟨hn,z⟩
  .cases z
  .exact e.has j u z
 .obtain⟨h1,h2⟩:=c9 z;rcases cZ h1 with ⟨_,Y⟩|⟨hn,Y⟩
  .cases Y
  .refine(s.own j u w (bF Y h2)).step (zz.refl _) λb q hb hq=>?_
   have:b≠a:=λy=>by subst y;exact hn (s.OJ _ _ _ hb sa).symm
   rw[ax this];exact hq
 .obtain⟨h1,⟨q,h2,n2⟩,h3⟩:=s.out j b z;refine⟨h1,?_,h3⟩;by_cases y:b=a
  .subst y;exact⟨o,aA,nt⟩
  .exact⟨q,by rw[ax y];exact h2,n2⟩
def yg(i:Nat)(fe fd:De->C Dt):De->C Hj:=λJ=>match J[i]? with
 |some (O (.tl xs l ys))=>(fe J).bind λn=>(fd J).bind λd=>match n with
  |.int j=>if j=(xs.length:Int)/\l.length<Hz then O (.nx (J.set i V))else V
  |_=>V
 |_=>V
theorem Eh (hx:PE X x (gd i)) (hy:DL X y fe) (he:DL X e fd) (hix:nW y:=by exactλ_ _=>rfl)
  (Jn:On (.Subscript x y KC) "append" X.env (eval (.Subscript x y KC) X.env)=eval (.Subscript x y KC) X.env:=by rfl)
  (JH:((IK Hb (G7 [e] X.env)).all (λx=>!x.1)&&(QL Hb (QK [] X.env)).all (λx=>x.1.isSome)
   && decide ([e].length+([]:Z Mc).length+(if([]:Z Mc).isEmpty then 0 else 1)<30))=D:=by rfl)
  (Ip:(apos.endLine==Hb.line)=D:=by rfl) (hs:G7 [e] X.env=(ξ,eval e X.env)::G7 [] X.env:=by rfl) (Y:(IK Hb (G7 [] X.env)).any (·.1)=ξ:=by rfl)
  (OO:Mu (.Call (.Attribute (.Subscript x y KC) "append" apos) [e] [] Hb) V pos.line X.env=pure ξ:=by rfl) :
  KI X (.Expr (.Call (.Attribute (.Subscript x y KC) "append" apos) [e] [] Hb) pos) (yg i fe fd):=
 PS.mono (nO (pC PySem.F.plainAttrs_list PySem.F.slot_list_append PySem.F.type_list_append ji (Bw Oz hx hy hix) (bM he dN hs) Jn JH Ip hs Y) OO) λθ G H ⟨Φ,J,F,ot,hK,en,q,k⟩=>by
  unfold yg at q;split at q<;>first|(cases q;done)|skip
  rename_i xs l ys hl;obtain⟨n,hn,q⟩:=bS q;obtain⟨d,hd,q⟩:=bS q;cases n with
  |int j=>?_
  |_=>cases q
  dsimp only at q;split at q<;>first|(cases q;done)|skip
  rename_i hj;cases q;obtain⟨v,hv⟩:=en.has i _ hl;obtain⟨S0,s0⟩:=en.sep;obtain⟨t,a,us,vs,ws,rfl,ht,sa,h1,h2,h3,h4⟩:=s0.own i _ _ (bF hl hv);refine⟨_,hv,Φ,J,F,_,hK,en,hn,λv1 H1 F1 st r1=>?_⟩;have e1:v1=.int j:=by simpa only[G3] using r1
  subst e1;have JK:=en.step st;have s1:=s0.step st;refine⟨t,_,j,.ref a,rfl,rfl,st.fh.tup (hK▸st.ff.tup ht),?_,.inl ⟨rfl,vs,.inl (.inl (st.hh _ _ h1))⟩,Φ,J,F1,d,hK,JK,?_,?_⟩
  .rw[hj.1,aG,<- h2.length];simp
  .exact hd
  .intro v H2 F2 JA rv;refine⟨a,vs,v,rfl,rfl,JA.hh _ _ (st.hh _ _ h1),by rw[h3.length];exact hj.2,?_⟩;exact k G F2 _ ((JK.step JA).Xu (s1.step JA) sa)
def nj(i:Nat)(fd:De->C Dt)(q:Z Dt->C T)(bb:Dt->De->C De)(g:De->C Hj):De->C Hj:=λJ=>match J[i]? with
 |some (O (.e l))=>(fd J).bind λy=>l.getLast?.bind λd=>(q [y,d]).bind λt=>match t.d with
  |some (.e ds)=>fu bb g ds (J.set i (O (.e l.dropLast)))
  |_=>V
 |_=>V
theorem AD{sc:Jd}{x:Str}{q:Pos}{kk:Nat}{ps:Z Str}{ff:Z Dt->C T}{ts:Z Nat}{body:Z Jb}{y o:Jc}(hp:VQ (model X.prog X.w) X.A X.env X.xe)(hc:X.calm=D)
 (h:aw sc x=D) (FF:G9 X.prog X.w X.K X.mg X.base x kk ps (Ha X.K 2 ff)) (hr:Hh kk X.A) (hy:DL X y fd) (hx:PE X o (gd i)) (hg:DG X tg ts bb) (hb:DS X body g) (e1:bT X sc:=by rfl)
 (Jn:On o "pop" X.env (eval o X.env)=eval o X.env:=by rfl) (Ip:(apos.endLine==Hb.line)=D:=by rfl)
 (s1:G7 [y,.Call (.Attribute o "pop" apos) [] [] Hb] X.env=(ξ,eval y X.env)::G7 [.Call (.Attribute o "pop" apos) [] [] Hb] X.env:=by rfl)
 (s2:G7 [.Call (.Attribute o "pop" apos) [] [] Hb] X.env=(ξ,eval (.Call (.Attribute o "pop" apos) [] [] Hb) X.env)::G7 [] X.env:=by rfl)
 (MN:(IK p1 (G7 [.Call (.Attribute o "pop" apos) [] [] Hb] X.env)).any (·.1)=ξ:=by rfl)
 (hs:∀z,Om (.Call (.Name x q) [y,.Call (.Attribute o "pop" apos) [] [] Hb] [] p1) X.env z=pure z:=by intro _;rfl) :
  KI X (.For tg (.Call (.Name x q) [y,.Call (.Attribute o "pop" apos) [] [] Hb] [] p1) body [] pos) (nj i fd ff bb g):=
 PS.mono (vM hp hc (nR (jn h FF hr (bM hy (bM (v6 PySem.F.plainAttrs_list PySem.F.slot_list_pop PySem.F.type_list_pop v8 hx Jn Ip) dN s2) s1) e1 s1 MN)) hg hb hs) λθ G H ⟨Φ,J,F,o,hK,en,Y,k⟩=>by
  unfold nj at Y;split at Y<;>first|(cases Y;done)|skip
  rename_i l hl;obtain⟨yv,hyv,Y⟩:=bS Y;obtain⟨d,hd,Y⟩:=bS Y;obtain⟨t,ht,Y⟩:=bS Y;split at Y<;>first|(cases Y;done)|skip
  rename_i ds RZ;rw[tp];refine⟨Φ,J,F,yv,hK,en,hyv,λv1 H1 F1 Lx r1=>?_⟩;have JK:=en.step Lx;obtain⟨a,vs,hv,h1,h2⟩:=JK.ON hl;rw[za0]at hd;obtain⟨z,hz,rz⟩:=h2.get hd;rw[<- h2.length]at hz
  have hr:hX Φ.K F1 l.dropLast vs.dropLast:=by rw[YY,YY,h2.length];exact h2.take _
  have KG:=JK.MR (o:=.e vs.dropLast) (t':=.e l.dropLast) hl hv rfl λS sa=>⟨a,_,rfl,sa,aA,hr⟩
  refine⟨.ref a,hv,.inl ⟨rfl,vs,.inl (.inl h1)⟩,a,vs,z,rfl,rfl,h1,hz,F1,[yv,d],t,KG.fh,rfl,?_,ht,KL.to RZ λv H3 F3 KA r3=>?_⟩
  .simp only[hX];exact⟨_,_,rfl,r1,_,_,rfl,hK▸rz,rfl⟩
  .simp only[G3]at r3;obtain⟨b,ws,rfl,g1,g2⟩:=r3;exact⟨b,rfl,⟨ws,KA.fh.seq g1⟩,wK hK (KG.step KA) Y k (Hc.refl KA.fh) (JI.walk g2) λH2 s=>s.seq g1⟩
end
seal L2.PE L2.PS L2.Kq L2.PT L2.PW L2.PA L2.PI L2.PG L2.Qd L2.PO L2.RT L2.Hw L2.HY L2.Pq L2.Nn L2.Q4 L2.ZQ L2.DO L2.DL L2.DB L2.DT L2.DW L2.DS L2.KI L2.Kv L2.MS L2.WS L2.DG L2.UH L2.LP L2.Sg L2.Sh L2.DP
theorem NV{α:Type}{p:Z α->Prop}(h:∀a,p [a]):∀us:Z α,us.length=1->p us
 |[a],_=>h a
theorem K1{α:Type}{p:Z α->Prop}(h:∀a b,p [a,b]):∀us:Z α,us.length=2->p us
 |[a,b],_=>h a b
theorem MA{α:Type}{p:Z α->Prop}(h:∀a b c,p [a,b,c]):∀us:Z α,us.length=3->p us
 |[a,b,c],_=>h a b c
theorem el4{α:Type}{p:Z α->Prop}(h:∀a b c d,p [a,b,c,d]):∀us:Z α,us.length=4->p us
 |[a,b,c,d],_=>h a b c d
theorem el5{α:Type}{p:Z α->Prop}(h:∀a b c d e,p [a,b,c,d,e]):∀us:Z α,us.length=5->p us
 |[a,b,c,d,e],_=>h a b c d e
end L2
namespace P43
open PySem L2
noncomputable def Iu(i:Nat):Jb:=PySem.Challenge.pw_dimhouse_k43_whole_the_first_fault.main.body.getD i (.Pass ⟨0,0,0,0⟩)
noncomputable section
noncomputable def k_A:Z Hr:=[.inr "copy",.inr "op",.inr "store",.inr "take",.inr "lay",.inr "say",.inr "if",.inr "end"]
noncomputable def fw:Z Dt:=[(.t [(.int 2),(.int 3)]),(.t [(.int 3),(.int 5)]),(.t [(.int 2),(.int 3)]),(.t [(.int 3),(.int 4)]),(.t [(.int 2),(.int 4)]),(.t [(.int 1),(.int 2)]),(.t [(.int 1),(.int 2)]),(.t [(.int 1),(.int 2)])]
noncomputable def kf:Dt:=(.str "fresh")
noncomputable def se:Dt:=(.str "safe")
def sf:Dt:=(.str "seen")
noncomputable def np:Dt:=(.t [(.str "copy"),(.str "op"),(.str "load"),(.str "take"),(.str "hear")])
noncomputable def lC:Dt:=(.str "spoilt")
def y2:Z Dt->C T:=bf 2 ((aj (HD (G5 (eN λi j=>decide (i<j)) (vB 1) (bo (ag bz (aa (vB 0) ae)))) (az (d2 ah (vB 0) (vB 1))) aM) (az (G6 (kD (.int 0))))))
def y131:De->C Hj:=(aj (ar 3 (G6 (bo (d2 du (bo (d2 bP (bo (d2 bP (bo (d2 jU (vB 3) (vB 3))) (bo (d2 jU (kD (.int 69621)) (vB 3))))) (vB 4))) (kD (.int 2147483629))))))
  (aj (ar 3 (G6 (bo (d2 du (bo (d2 bP (bo (d2 bP (bo (d2 jU (vB 3) (kD (.int 16807)))) (bo (d2 jU (kD (.int 7919)) (vB 4))))) (vB 1))) (kD (.int 2147483587))))))
  (ar 2 (G6 (bo (d2 bP (bo (d2 jU (vB 2) (kD (.int 2147483587)))) (vB 3)))))))
def SE:Z Dt->C T:=bf 5 ((aj (ar 2 (G6 (kD (.int 0))))
  (aj (ar 3 (G6 (bo (d2 bP (bo (d2 bP (bo (d2 du (vB 0) (kD (.int 2147483629)))) (bo (d2 jU (kD (.int 48271)) (vB 1))))) (kD (.int 11))))))
  (aj (cM (cH d6 (aa (kD (.int 15)) ae)) (am 4) y131)
  (eZ 2)))))
def OT:Z Dt->C T:=bf 2 ((aj (HD (G5 (Hs ξ) (bo (d2 du (bo (ag y2 (aa (vL 0) (aa (kD (.int 0)) ae)))) (kD (.int 2)))) (kD (.int 0))) (az (ag y2 (aa (vL 0) (aa (vL 1) ae)))) aM) (az (ag SE (aa (bo (ag y2 (aa (vL 0) (aa (vL 1) ae)))) (aa (vL 1) ae))))))
def z130:De->C Bool:=(G5 (Hs ξ) (bo (d2 du (bo (d2 cC (vB 2) (bo (d2 qm (kD (.int 1)) (vB 0))))) (kD (.int 2)))) (kD (.int 1)))
def q129:De->C Dt:=(bo (d2 ah (vB 1) (vB 0)))
def UR:Z Dt->C T:=bf 2 ((az (ag dU (aa (bo (aL [V,O 0,O 1] (cH d6 (aa (bo (ag bz (aa (vB 0) ae))) ae)) (am 0) z130 q129)) ae))))
def y102:De->C Hj:=(aj (HD (G5 (Hs ξ) (bo (d2 du (bo (ag y2 (aa (vL 0) (aa (kD (.int 0)) ae)))) (kD (.int 2)))) (kD (.int 1))) (aj (ar 3 (G6 (bo (ag SE (aa (vL 3) (aa (vL 7) ae))))))
  (ar 5 (G6 (bo (d2 ah (bo (aX (aa (kD (.int 2)) (aa (kD (.int 4)) (aa (kD (.int 8)) ae))))) (bo (d2 du (bo (d2 cC (bo (ag y2 (aa (vL 0) (aa (kD (.int 0)) ae)))) (kD (.int 6)))) (kD (.int 3))))))))) aM)
  (aj (HD (G5 (Hs ξ) (bo (d2 du (vB 3) (vB 5))) (kD (.int 1))) (z8 6 (bo (bi (aa (vL 7) (aa (bo (ag UR (aa (vL 2) (aa (bo (d2 cC (vB 3) (vB 5))) ae)))) ae))))) aM)
  (ar 3 (G6 (bo (d2 cC (bo (d2 cC (vB 3) (vB 5))) (bo (d2 qm (kD (.int 1)) (bo (ag bz (aa (vB 2) ae)))))))))))
def Xv:Z Dt->C T:=bf 8 ((aj (ar 3 (G6 (bo (ag OT (aa (vL 0) (aa (kD (.int 4)) ae))))))
  (aj (ar 4 (G6 (bo (ag UR (aa (vL 2) (aa (vL 3) ae))))))
  (aj (ar 3 (G6 (bo (d2 cC (vB 3) (bo (d2 qm (kD (.int 1)) (bo (ag bz (aa (vB 2) ae)))))))))
  (aj (ar 5 (G6 (kD (.int 2))))
  (aj (ar 6 (aX ae))
  (aj (cM (cH d6 (aa (bo (ag bz (aa (bo (d2 ah (vB 1) (kD (.int 2)))) ae))) ae)) (am 7) y102)
  (az (bi (aa (vL 4) (aa (bo (ag dU (aa (vB 6) ae))) ae)))))))))))
def y1:Z Dt->C T:=bf 2 ((aj (HD (G5 (Hs ξ) (bo (d2 ah (bo (d2 ah (vB 0) (vB 1))) (kD (.int 0)))) (kD (.str "end"))) (az (aX ae)) aM)
  (aj (HD (G5 (Hs ξ) (bo (d2 ah (bo (d2 ah (vB 0) (vB 1))) (kD (.int 0)))) (kD (.str "go"))) (az (aX (aa (bo (d2 ah (bo (d2 ah (vB 0) (vB 1))) (kD (.int 1)))) ae))) aM)
  (aj (HD (G5 (Hs ξ) (bo (d2 ah (bo (d2 ah (vB 0) (vB 1))) (kD (.int 0)))) (kD (.str "if"))) (az (aX (aa (bo (d2 ah (bo (d2 ah (vB 0) (vB 1))) (kD (.int 2)))) (aa (bo (d2 bP (vB 1) (kD (.int 1)))) ae)))) aM)
  (az (aX (aa (bo (d2 bP (vB 1) (kD (.int 1)))) ae)))))))
def q116:De->C Bool:=(eL (ca (bo (d2 ah (vB 0) (kD (.int 2))))))
def q114:De->C Dt:=(bo (d2 ah (vB 0) (kD (.int 0))))
def z114:De->C Bool:=(G5 (aS ξ) (vB 2) (bo (ag y1 (aa (vL 1) (aa (vL 0) ae)))))
def y111:De->C Hj:=(aj (ar 5 (G6 (bo (aL [V,O 1,O 4] (cH rh (aa (vL 4) (aa (bo (ag bz (aa (vB 1) ae))) ae))) (am 0) z114 (vL 0))))) (HD (JJ (G5 (Hs ξ) (bo (d2 ah (bo (d2 ah (vB 1) (vB 4))) (kD (.int 0)))) (kD (.str "end"))) (JJ (G5 (Hs D) (vB 5) (bo (aX ae))) (cU (G5 (aS ξ) (bo (d2 ah (bo (d2 ah (vB 1) (vB 4))) (kD (.int 0)))) (bo (bi (aa (kD (.str "store")) (aa (kD (.str "lay")) ae))))) (G5 (aS ξ) (bo (d2 ah (bo (d2 ah (vB 1) (vB 4))) (kD (.int 1)))) (vB 2))))) (z8 3 (vL 4)) aM))
def Xw:Z Dt->C T:=bf 6 ((aj (ar 1 (G6 (bo (d2 ah (vB 0) (kD (.int 2))))))
  (aj (ar 2 (G6 (bo (aL [V] (HS (bo (d2 lr (bo (d2 ah (vB 0) (kD (.int 0)))) (bo (d2 ah (vB 0) (kD (.int 1))))))) (am 0) q116 q114))))
  (aj (ar 3 (aX ae))
  (aj (cM (cH d6 (aa (bo (ag bz (aa (vB 1) ae))) ae)) (am 4) y111)
  (eZ 3))))))
def y109:De->C Hj:=(aj (z8 2 (bo (d2 du (vB 0) (vB 3)))) (ar 0 (G6 (bo (d2 cC (vB 0) (vB 3))))))
def Of:Z Dt->C T:=bf 4 ((aj (ar 2 (aX ae))
  (aj (cM (HS (vL 1)) (am 3) y109)
  (eZ 2))))
def z122:De->C Dt:=(bo (d2 ah (vB 1) (bo (d2 ah (vB 2) (bo (d2 bP (kD (.int 1)) (vB 0)))))))
def q124:De->C Hj:=(ar 5 (G6 (bo (d2 bP (bo (Qk (vB 5) kU (ie (bo (l3 (kD (.int 1))))))) (bo (d2 ah (vB 2) (bo (d2 du (bo (d2 bP (bo (f6 e7 (vB 2) (aa (bo (d2 ah (vB 5) (bo (l3 (kD (.int 1)))))) ae))) (kD (.int 1)))) (kD (.int 26))))))))))
def q79:De->C Bool:=(G5 (aS ξ) (vB 5) (vB 3))
def y78:De->C Hj:=(aj (ar 4 (G6 (bo (ag Of (aa (vL 0) (aa (bo (aX (aa (kD (.int 6)) (aa (kD (.int 26)) (aa (kD (.int 26)) (aa (kD (.int 26)) (aa (kD (.int 26)) (aa (kD (.int 26)) (aa (kD (.int 26)) ae))))))))) ae))))))
  (aj (ar 5 (G6 (bo (f6 iy (kD (.str "")) (aa (bo (aL [V,O 2,O 4] (cH d6 (aa (bo (d2 bP (kD (.int 1)) (bo (d2 ah (vB 4) (kD (.int 0)))))) ae)) (am 0) cJ z122)) ae)))))
  (aj (ar 0 (G6 (bo (d2 cC (vB 0) (bo (d2 jU (kD (.int 6)) (bo (d2 iS (kD (.int 26)) (kD (.int 6))))))))))
  (aj (be q79 q124 100000)
  (z8 3 (vL 5))))))
def z78:De->C Bool:=(G5 (eN λi j=>decide (i<j)) (bo (ag bz (aa (vB 3) ae))) (vB 1))
def US:Z Dt->C T:=bf 6 ((aj (ar 2 (G6 (kD (.str "abcdefghijklmnopqrstuvwxyz"))))
  (aj (ar 3 (aX ae))
  (aj (be z78 y78 100000)
  (eZ 3)))))
def q119:De->C Hj:=(aj (z8 6 (bo (bi (aa (bo (d2 ah (vB 5) (vB 7))) (aa (bo (d2 du (vB 1) (bo (d2 iS (kD (.int 2)) (kD (.int 40)))))) (aa (bo (d2 (Hs ξ) (bo (d2 du (bo (d2 cC (vB 1) (bo (d2 iS (kD (.int 2)) (kD (.int 40)))))) (kD (.int 2)))) (kD (.int 1)))) ae)))))) (ar 1 (G6 (bo (d2 cC (vB 1) (bo (d2 iS (kD (.int 2)) (kD (.int 41)))))))))
def q122:De->C Hj:=(aj (z8 8 (bo (bi (aa (bo (d2 ah (vB 5) (bo (d2 bP (kD (.int 8)) (vB 7))))) (aa (bo (d2 bP (kD (.int 1)) (bo (d2 du (vB 1) (kD (.int 8)))))) (aa (bo (d2 (Hs ξ) (bo (d2 du (bo (d2 cC (vB 1) (kD (.int 8)))) (kD (.int 2)))) (kD (.int 1)))) ae)))))) (ar 1 (G6 (bo (d2 cC (vB 1) (kD (.int 16)))))))
def Og:Z Dt->C T:=bf 9 ((aj (ar 1 (G6 (bo (ag OT (aa (vL 0) (aa (kD (.int 3)) ae))))))
  (aj (lZ (bo (ag Of (aa (vL 1) (aa (bo (aX (aa (kD (.int 9)) (aa (kD (.int 5)) (aa (kD (.int 12)) ae))))) ae)))) (xb 3 (bh (am 2) (bh (am 3) (bh (am 4) iu)))))
  (aj (ar 1 (G6 (bo (d2 cC (vB 1) (kD (.int 540))))))
  (aj (ar 5 (G6 (bo (ag US (aa (bo (ag OT (aa (vL 0) (aa (bo (d2 ah (bo (aX (aa (kD (.int 1)) (aa (kD (.int 1)) (aa (kD (.int 2)) ae))))) (bo (d2 du (bo (d2 cC (bo (ag y2 (aa (vL 0) (aa (kD (.int 0)) ae)))) (kD (.int 2)))) (kD (.int 3)))))) ae)))) (aa (kD (.int 12)) ae))))))
  (aj (ar 6 (aX ae))
  (aj (cM (cH d6 (aa (vL 2) ae)) (am 7) q119)
  (aj (ar 8 (aX ae))
  (aj (cM (cH d6 (aa (vL 3) ae)) (am 7) q122)
  (az (bi (aa (bo (ag US (aa (bo (ag OT (aa (vL 0) (aa (kD (.int 2)) ae)))) (aa (bo (d2 bP (kD (.int 1)) (vB 4))) ae)))) (aa (bo (ag dU (aa (vB 6) ae))) (aa (bo (ag dU (aa (vB 8) ae))) (aa (vL 1) ae)))))))))))))))
def y130:De->C Dt:=(bo (d2 ah (vB 0) (kD (.int 0))))
def Xx:Z Dt->C T:=bf 5 ((aj (lZ (bo (ag Og (aa (vL 0) ae))) (jT 4 (bh (am 1) (bh (am 2) (bh (am 3) (bh (am 4) iu)))))) (az (ag gG (aa (bo (d2 bP (bo (d2 bP (vB 1) (bo (aL [V] (HS (bo (D0 (vB 2) kU (ie (kD (.int 1)))))) (am 0) cJ y130)))) (bo (aX (aa (kD (.str "zz")) ae))))) ae)))))
def q128:De->C Bool:=(G5 (Hs D) (vB 0) (bo (d2 ah (vB 1) (bo (d2 du (bo (d2 cC (vB 2) (kD (.int 7)))) (bo (ag bz (aa (vB 1) ae))))))))
def z129:De->C Dt:=(bo (bi (aa (vL 0) (aa (bo (d2 ah (bo (aX (aa (vL 2) (aa (bo (ag dU (aa (vB 4) ae))) ae)))) (bo (ag wT (aa (bo (d2 (Hs ξ) (vB 0) (bo (d2 ah (vB 3) (bo (d2 du (vB 1) (bo (ag bz (aa (vB 3) ae))))))))) ae))))) ae))))
def y132:De->C Bool:=(G5 (Hs D) (vB 0) (bo (d2 ah (vB 2) (bo (d2 du (vB 1) (bo (ag bz (aa (vB 2) ae))))))))
def q126:De->C Dt:=(bo (bi (aa (vL 0) (aa (vL 1) ae))))
def Xy:Z Dt->C T:=bf 10 ((aj (ar 3 (G6 (bo (ag Xv (aa (vL 0) (aa (vL 1) (aa (bo (ag Xx (aa (vL 0) ae))) ae)))))))
  (aj (ar 4 (G6 (bo (d2 du (bo (ag y2 (aa (vL 0) (aa (kD (.int 5)) ae)))) (kD (.int 6))))))
  (aj (ar 5 (G6 (bo (d2 cC (bo (ag y2 (aa (vL 0) (aa (kD (.int 5)) ae)))) (kD (.int 6))))))
  (aj (ar 6 (G6 (bo (ag dU (aa (bo (ag iY (aa (vB 2) ae))) ae)))))
  (aj (ar 7 (G6 (bo (ag Xw (aa (vL 1) ae)))))
  (aj (HD (JJ (G5 (eN λi j=>decide (i<j)) (vB 4) (kD (.int 2))) (G5 (Hs ξ) (vB 7) (bo (aX ae)))) (eZ 3) aM)
  (aj (HD (G5 (Hs ξ) (vB 4) (kD (.int 2))) (aj (ar 8 (G6 (bo (aL [V,O 2,O 5] (HS (vB 6)) (am 0) q128 (vL 0)))))
  (aj (ar 9 (G6 (bo (aL [V,O 5,O 6,O 7,O 8] (HS (vB 7)) (am 0) cJ z129))))
  (az (bi (aa (bo (d2 ah (bo (aX (aa (vL 6) (aa (bo (d2 ah (vB 3) (kD (.int 0)))) ae)))) (bo (d2 du (vB 5) (kD (.int 2)))))) (aa (bo (ag dU (aa (vB 9) ae))) ae)))))) aM)
  (aj (HD (G5 (eN λi j=>decide (i<j)) (vB 4) (kD (.int 5))) (ar 7 (G6 (bo (aL [V,O 5,O 7] (HS (vB 7)) (am 0) y132 (vL 0))))) aM)
  (az (bi (aa (vL 6) (aa (bo (ag dU (aa (bo (aL [V,O 6] (HS (vB 7)) (am 0) cJ q126)) ae))) ae)))))))))))))
def q86:De->C Hj:=(aj (HD (G5 (Hs ξ) (vB 5) (vB 2)) (az (G6 (kD (.bl D)))) aM)
  (HD (cU (G5 (aS D) (vB 5) (vB 1)) (G5 (aS D) (vB 5) (vB 3))) (aj (hJ 3 (vB 5) (kD (.bl D)))
  (z8 4 (vL 5))) aM))
def z88:De->C Hj:=(nj 4 (vL 0) y1 (am 5) q86)
def z51:De->C Bool:=(cU (G5 (eN λi j=>decide (j<i)) (bo (ag bz (aa (vB 4) ae))) (kD (.int 0))) (G5 (aS D) (vB 2) (vB 1)))
def z84:De->C Hj:=(aj (ar 3 kZ)
  (aj (ar 4 (aX (aa (vL 2) ae)))
  (be z51 z88 100000)))
def z26:Z Dt->C T:=bf 6 ((aj (cM (cH d6 (aa (bo (ag bz (aa (vB 0) ae))) ae)) (am 2) z84) (az (G6 (kD (.bl ξ))))))
def q63:De->C Bool:=(ca (bo (dJ "str" (vB 0))))
def SF:Z Dt->C T:=bf 2 ((aj (ar 1 (G6 (bo (aX ae))))
  (aj (HD (G5 (aS ξ) (bo (d2 ah (vB 0) (kD (.int 0)))) (bo (bi (aa (kD (.str "copy")) (aa (kD (.str "store")) ae))))) (ar 1 (G6 (bo (aX (aa (bo (d2 ah (vB 0) (kD (.int 2)))) ae))))) aM)
  (aj (HD (G5 (Hs ξ) (bo (d2 ah (vB 0) (kD (.int 0)))) (kD (.str "op"))) (ar 1 (G6 (bo (aX (aa (bo (d2 ah (vB 0) (kD (.int 3)))) (aa (bo (d2 ah (vB 0) (kD (.int 4)))) ae)))))) aM)
  (aj (HD (G5 (Hs ξ) (bo (d2 ah (vB 0) (kD (.int 0)))) (kD (.str "take"))) (ar 1 (G6 (bo (aX (aa (bo (d2 ah (vB 0) (kD (.int 3)))) ae))))) aM)
  (aj (HD (G5 (Hs ξ) (bo (d2 ah (vB 0) (kD (.int 0)))) (kD (.str "lay"))) (ar 1 (G6 (bo (aX (aa (bo (d2 ah (vB 0) (kD (.int 2)))) (aa (bo (d2 ah (vB 0) (kD (.int 3)))) ae)))))) aM)
  (aj (HD (G5 (aS ξ) (bo (d2 ah (vB 0) (kD (.int 0)))) (bo (bi (aa (kD (.str "say")) (aa (kD (.str "if")) (aa (kD (.str "end")) ae)))))) (ar 1 (G6 (bo (aX (aa (bo (d2 ah (vB 0) (kD (.int 1)))) ae))))) aM)
  (az (aL [V] (HS (vB 1)) (am 0) q63 (vL 0))))))))))
def SG:Z Dt->C T:=bf 1 ((aj (HD (G5 (aS ξ) (bo (d2 ah (vB 0) (kD (.int 0)))) (bo (bi (aa (kD (.str "copy")) (aa (kD (.str "op")) (aa (kD (.str "load")) (aa (kD (.str "take")) (aa (kD (.str "hear")) ae)))))))) (az (d2 ah (vB 0) (kD (.int 1)))) aM) (az (G6 (kD .G8)))))
def q92:De->C Hj:=(HD (G5 (aS D) (vB 6) (vB 3)) (aj (hJ 3 (vB 6) (kD (.bl D))) (z8 4 (vL 6))) aM)
def z91:De->C Hj:=(aj (rW 5 4)
  (aj (HD (G5 (aS ξ) (vB 2) (bo (ag SF (aa (bo (d2 ah (vB 0) (vB 5))) ae)))) (az (G6 (kD (.bl D)))) aM)
  (HD (G5 (Hs D) (bo (ag SG (aa (bo (d2 ah (vB 0) (vB 5))) ae))) (vB 2)) (cM (HS (bo (ag y1 (aa (vL 0) (aa (vL 5) ae))))) (am 6) q92) aM)))
def z56:De->C Bool:=(G5 (eN λi j=>decide (j<i)) (bo (ag bz (aa (vB 4) ae))) (kD (.int 0)))
def Xz:Z Dt->C T:=bf 7 ((aj (ar 3 (p4 (rC (vL 1) (kD (.bl D)) BK)))
  (aj (ar 4 (aX (aa (vL 1) ae)))
  (aj (be z56 z91 100000)
  (az (G6 (kD (.bl ξ))))))))
def q123:De->C Bool:=(cU (G5 (aS D) (vB 0) (vB 3)) (ca (bo (ag Xz (aa (vL 1) (aa (vL 2) (aa (vL 0) ae)))))))
def q118:De->C Hj:=(HD (G5 (Hs D) (bo (aL [V,O 0,O 3,O 4] (HS (vB 2)) (am 0) q123 (vL 0))) (bo (aX ae))) (az (G6 (kD (.bl D)))) aM)
def UT:Z Dt->C T:=bf 5 ((aj (cM (HS (bo (d2 bP (bo (aX (aa (bo (bi (aa (kD (.int 0)) (aa (bo (d2 ah (vB 1) (kD (.int 0)))) ae)))) ae))) (bo (ag tF (aa (bo (d2 ah (vB 1) (kD (.int 1)))) ae)))))) (jT 2 (bh (am 3) (bh (am 4) iu))) q118) (az (G6 (kD (.bl ξ))))))
def q106:De->C Bool:=(G5 (aS D) (vB 0) (vB 1))
def y106:De->C Hj:=(aj (rW 6 5)
  (HD (G5 (aS D) (vB 6) (vB 4)) (aj (hJ 4 (vB 6) (kD (.bl D)))
  (HD (JJ (G5 (Hs D) (bo (d2 ah (bo (d2 ah (vB 0) (vB 6))) (kD (.int 0)))) (kD (.str "store"))) (G5 (Hs D) (bo (d2 ah (bo (d2 ah (vB 0) (vB 6))) (kD (.int 1)))) (vB 3))) (Rh 5 (aL [V,O 1] (HS (bo (ag y1 (aa (vL 0) (aa (vL 6) ae))))) (am 0) q106 (vL 0))) aM)) aM))
def y63:De->C Bool:=(G5 (eN λi j=>decide (j<i)) (bo (ag bz (aa (vB 5) ae))) (kD (.int 0)))
def XA:Z Dt->C T:=bf 7 ((aj (ar 4 kZ)
  (aj (ar 5 (ag tF (aa (vB 2) ae)))
  (aj (be y63 y106 100000)
  (az (ag eT (aa (vB 4) ae)))))))
def y138:De->C Bool:=(G5 (aS D) (vB 0) (vB 1))
def y136:De->C Hj:=(HD (cU (G5 (aS ξ) (bo (d2 ah (bo (d2 ah (vB 0) (vB 4))) (kD (.int 0)))) (bo (bi (aa (kD (.str "load")) (aa (kD (.str "take")) ae))))) (G5 (Hs ξ) (bo (d2 ah (bo (d2 ah (vB 0) (vB 4))) (kD (.int 2)))) (vB 2))) (Rh 3 (aL [V,O 1] (HS (bo (ag y1 (aa (vL 0) (aa (vL 4) ae))))) (am 0) y138 (vL 0))) aM)
def y139:De->C Hj:=(HD (cU (G5 (aS ξ) (bo (d2 ah (bo (d2 ah (vB 0) (vB 4))) (kD (.int 0)))) (bo (bi (aa (kD (.str "store")) (aa (kD (.str "lay")) ae))))) (G5 (Hs ξ) (bo (d2 ah (bo (d2 ah (vB 0) (vB 4))) (kD (.int 1)))) (vB 2))) (az (G6 (kD (.bl D)))) aM)
def y59:Z Dt->C T:=bf 5 ((aj (ar 3 (aX ae))
  (aj (cM (HS (bo (ag XA (aa (vL 0) (aa (vL 1) (aa (bo (d2 bP (bo (aX (aa (kD (.int 0)) ae))) (bo (ag eT (aa (vB 1) ae))))) (aa (vL 2) ae))))))) (am 4) y136)
  (aj (lY 3 (cM (HS (bo (ag XA (aa (vL 0) (aa (vL 1) (aa (vL 3) (aa (kD (.str "")) ae))))))) (am 4) y139))
  (az (G6 (kD (.bl ξ))))))))
def z138:De->C Hj:=(hJ 4 (vB 5) (kD (.bl D)))
def q139:De->C Bool:=(cU (G5 (Hs ξ) (bo (d2 ah (bo (d2 ah (vB 1) (vB 0))) (kD (.int 0)))) (kD (.str "end"))) (G5 (aS D) (vB 0) (vB 2)))
def z139:De->C Hj:=(HD (cU (eL (ca (bo (d2 ah (vB 6) (kD (.int 2)))))) (ca (bo (jr y59 (aa (vB 3) (aa (vB 4) (aa (bo (d2 ah (vB 6) (kD (.int 0)))) ae))))))) (az (G6 (kD (.str "spoil")))) aM)
def XB:Z Dt->C T:=bf 7 ((aj (ar 3 (G6 (bo (d2 ah (vB 0) (kD (.int 2))))))
  (aj (ar 4 kZ)
  (aj (cM (HS (bo (d2 ah (vB 1) (kD (.int 1))))) (jT 2 (bh (am 5) (bh (am 6) iu))) z138)
  (aj (HD (G5 (Hs D) (bo (aL [V,O 3,O 4] (cH d6 (aa (bo (ag bz (aa (vB 3) ae))) ae)) (am 0) q139 (vL 0))) (bo (aX ae))) (az (G6 (kD (.str "end")))) aM)
  (aj (HD (ca (bo (jr z26 (aa (vB 3) (aa (vB 4) ae))))) (az (G6 (kD (.str "ring")))) aM)
  (aj (cM (HS (bo (d2 lr (bo (d2 ah (vB 0) (kD (.int 0)))) (bo (d2 ah (vB 0) (kD (.int 1))))))) (am 6) z139)
  (aj (HD (ca (bo (ag UT (aa (vL 3) (aa (vL 1) (aa (vL 2) ae)))))) (az (G6 (kD (.str "lost")))) aM)
  (az (G6 (kD (.str ""))))))))))))
def Px:Z Dt->C T:=bf 1 ((az (ir (bo (dJ "int" (vB 0))) (zR (bo (dJ "bool" (vB 0)))))))
def z103:De->C Dt:=(bo (ag Px (aa (vL 0) ae)))
def y105:De->C Bool:=(G5 (Hs ξ) (vB 0) (bo (d2 ah (vB 2) (kD (.int 0)))))
def q64:De->C Bool:=(G5 (Hs ξ) (bo (d2 ah (vB 1) (kD (.int 0)))) (kD (.int 0)))
def z109:De->C Hj:=(HD (JJ (G5 (aS D) (bo (d2 ah (vB 4) (bo (d2 bP (vB 7) (kD (.int 1)))))) (bo (ag y1 (aa (vL 0) (aa (bo (d2 ah (vB 4) (vB 7))) ae))))) (G5 (Hs ξ) (bo (ag SG (aa (bo (d2 ah (vB 0) (bo (d2 ah (vB 4) (vB 7))))) ae))) (vB 3))) (az (G6 (kD (.bl ξ)))) aM)
def XC:Z Dt->C T:=bf 8 ((aj (HD (JJ (G5 (Hs D) (bo (ag bz (aa (vB 2) ae))) (kD (.int 4))) (JJ (eL (ca (bo (dJ "str" (bo (d2 ah (vB 2) (kD (.int 1)))))))) (JJ (eL (ca (bo (dJ "list" (bo (d2 ah (vB 2) (kD (.int 2)))))))) (G5 (Hs ξ) (bo (d2 ah (vB 2) (kD (.int 2)))) (bo (aX ae)))))) (az (G6 (kD (.bl ξ)))) aM)
  (aj (lZ (bo (Qk (vB 2) (ie (kD (.int 1))) kU)) (jT 3 (bh (am 3) (bh (am 4) (bh (am 5) iu)))))
  (aj (HD (JJ (eL (ca (bo (ag (kW λbs=>bs.all id) (aa (bo (aL [V] (HS (vB 4)) (am 0) cJ z103)) ae))))) (eL (ca (bo (dJ "bool" (vB 5)))))) (az (G6 (kD (.bl ξ)))) aM)
  (aj (ar 6 (G6 (bo (aL [V,V,O 4] (HS (bo (d2 ah (vB 1) (kD (.int 1))))) (jT 2 (bh (am 0) (bh (am 1) iu))) y105 (vL 1)))))
  (aj (HD (ca (vB 5)) (ar 6 (G6 (bo (aL [V,O 4] (HS (bo (aX (aa (bo (d2 ah (vB 1) (kD (.int 0)))) ae)))) (am 0) q64 (vL 0))))) aM)
  (aj (HD (JJ (G5 (Hs ξ) (vB 6) (bo (aX ae))) (JJ (G5 (aS ξ) (vB 3) (bo (d2 ah (vB 6) (kD (.int 0))))) (G5 (aS D) (vB 3) (bo (ag SF (aa (bo (d2 ah (vB 0) (bo (d2 ah (vB 4) (bo (l3 (kD (.int 1)))))))) ae)))))) (az (G6 (kD (.bl ξ)))) aM)
  (aj (cM (cH d6 (aa (bo (d2 eM (bo (ag bz (aa (vB 4) ae))) (kD (.int 1)))) ae)) (am 7) z109)
  (az (G6 (kD (.bl D))))))))))))
def z100:De->C Dt:=(bo (ag Px (aa (vL 0) ae)))
def z99:De->C Hj:=(HD (JJ (G5 (aS ξ) (bo (d2 ah (vB 2) (vB 3))) (vB 1)) (G5 (aS D) (bo (d2 ah (vB 2) (vB 3))) (bo (ag y1 (aa (vL 0) (aa (bo (d2 ah (vB 2) (bo (d2 eM (vB 3) (kD (.int 1)))))) ae)))))) (az (G6 (kD (.bl ξ)))) aM)
def XD:Z Dt->C T:=bf 4 ((aj (HD (JJ (eL (ca (bo (dJ "list" (vB 2))))) (JJ (G5 (Hs ξ) (vB 2) (bo (aX ae))) (eL (ca (bo (ag (kW λbs=>bs.all id) (aa (bo (aL [V] (HS (vB 2)) (am 0) cJ z100)) ae))))))) (az (G6 (kD (.bl ξ)))) aM)
  (aj (HD (cU (G5 (Hs D) (bo (d2 ah (vB 2) (kD (.int 0)))) (kD (.int 0))) (G5 (aS D) (bo (d2 ah (vB 2) (kD (.int 0)))) (vB 1))) (az (G6 (kD (.bl ξ)))) aM)
  (aj (cM (cH rh (aa (kD (.int 1)) (aa (bo (ag bz (aa (vB 2) ae))) ae))) (am 3) z99)
  (az (G6 (kD (.bl D))))))))
def z106:De->C Dt:=(bo (ag Px (aa (vL 0) ae)))
def q62:De->C Bool:=(G5 (aS ξ) (vB 0) (vB 1))
def q108:De->C Dt:=(bo (d2 (aS ξ) (bo (d2 ah (vB 2) (vB 0))) (bo (ag y1 (aa (vL 1) (aa (bo (d2 ah (vB 2) (bo (d2 eM (vB 0) (kD (.int 1)))))) ae))))))
def XE:Z Dt->C T:=bf 3 ((aj (HD (JJ (eL (ca (bo (dJ "list" (vB 2))))) (JJ (G5 (Hs ξ) (vB 2) (bo (aX ae))) (eL (ca (bo (ag (kW λbs=>bs.all id) (aa (bo (aL [V] (HS (vB 2)) (am 0) cJ z106)) ae))))))) (az (G6 (kD (.bl ξ)))) aM)
  (aj (HD (JJ (G5 (Hs D) (bo (ag gH (aa (vB 2) ae))) (bo (ag bz (aa (vB 2) ae)))) (G5 (Hs D) (bo (aL [V,O 1] (HS (vB 2)) (am 0) q62 (vL 0))) (bo (aX ae)))) (az (G6 (kD (.bl ξ)))) aM)
  (az (ag (kW λbs=>bs.all id) (aa (bo (aL [V,O 0,O 2] (cH d6 (aa (bo (ag bz (aa (vB 2) ae))) ae)) (am 0) cJ q108)) ae))))))
def y67:De->C Bool:=(cU (G5 (aS ξ) (bo (d2 ah (bo (d2 ah (vB 1) (bo (d2 ah (vB 2) (vB 0))))) (kD (.int 0)))) (bo (bi (aa (kD (.str "load")) (aa (kD (.str "take")) ae))))) (G5 (Hs ξ) (bo (d2 ah (bo (d2 ah (vB 1) (bo (d2 ah (vB 2) (vB 0))))) (kD (.int 2)))) (vB 3)))
def z67:De->C Bool:=(cU (G5 (aS ξ) (bo (d2 ah (bo (d2 ah (vB 1) (bo (d2 ah (vB 2) (vB 0))))) (kD (.int 0)))) (bo (bi (aa (kD (.str "store")) (aa (kD (.str "lay")) ae))))) (G5 (Hs ξ) (bo (d2 ah (bo (d2 ah (vB 1) (bo (d2 ah (vB 2) (vB 0))))) (kD (.int 1)))) (vB 3)))
def XF:Z Dt->C T:=bf 6 ((aj (ar 4 (G6 (bo (aL [V,O 0,O 1,O 2] (cH d6 (aa (bo (ag bz (aa (vB 1) ae))) ae)) (am 0) y67 (vL 0)))))
  (aj (ar 5 (G6 (bo (aL [V,O 0,O 1,O 2] (cH d6 (aa (bo (ag bz (aa (vB 1) ae))) ae)) (am 0) z67 (vL 0)))))
  (aj (HD (JJ (G5 (Hs ξ) (vB 5) (bo (aX ae))) (JJ (G5 (Hs D) (bo (d2 ah (vB 5) (bo (l3 (kD (.int 1)))))) (bo (d2 eM (bo (ag bz (aa (vB 1) ae))) (kD (.int 1))))) (G5 (Hs ξ) (vB 4) (bo (aX ae))))) (az (G6 (kD (.bl ξ)))) aM)
  (az (ir (bo (d2 (eN λi j=>decide (i<j)) (bo (d2 ah (vB 4) (kD (.int 0)))) (bo (d2 ah (vB 5) (bo (l3 (kD (.int 1)))))))) (UG (vB 3) (d2 (eN λi j=>decide (i<j)) (bo (d2 ah (vB 4) (kD (.int 0)))) (bo (d2 ah (vB 5) (kD (.int 0))))))))))))
def y99:De->C Bool:=(cU (G5 (Hs ξ) (bo (d2 ah (vB 0) (kD (.int 0)))) (bo (d2 ah (vB 1) (kD (.int 1))))) (eL (ca (bo (d2 ah (vB 0) (kD (.int 2)))))))
def UU:Z Dt->C T:=bf 7 ((aj (ar 3 (G6 (bo (d2 ah (vB 0) (kD (.int 2))))))
  (aj (ar 4 (G6 (bo (aL [V,V] (HS (bo (d2 ah (vB 1) (kD (.int 1))))) (jT 2 (bh (am 0) (bh (am 1) iu))) cJ (vL 0)))))
  (aj (HD (JJ (eL (ca (bo (dJ "tuple" (vB 2))))) (JJ (G5 (eN λi j=>decide (i<j)) (bo (ag bz (aa (vB 2) ae))) (kD (.int 2))) (eL (ca (bo (dJ "str" (bo (d2 ah (vB 2) (kD (.int 0)))))))))) (az (G6 (kD (.bl ξ)))) aM)
  (aj (HD (G5 (Hs ξ) (bo (d2 ah (vB 2) (kD (.int 0)))) (kD (.str "end"))) (aj (ar 5 (G6 (bo (ir (bo (d2 (Hs ξ) (bo (ag bz (aa (vB 2) ae))) (kD (.int 2)))) (ir (bo (ag Px (aa (bo (d2 ah (vB 2) (kD (.int 1)))) ae))) (jq (eN λi j=>decide (i<=j)) (eN λi j=>decide (i<j)) (kD (.int 0)) (bo (d2 ah (vB 2) (kD (.int 1)))) (bo (ag bz (aa (vB 3) ae)))))))))
  (az (ir (vB 5) (ir (bo (d2 (Hs ξ) (bo (d2 ah (bo (d2 ah (vB 3) (bo (d2 ah (vB 2) (kD (.int 1)))))) (kD (.int 0)))) (kD (.str "end")))) (d2 (aS D) (bo (d2 ah (vB 2) (kD (.int 1)))) (vB 4)))))) aM)
  (aj (HD (G5 (Hs ξ) (bo (d2 ah (vB 2) (kD (.int 0)))) (kD (.str "ring"))) (az (ir (bo (d2 (Hs ξ) (bo (ag bz (aa (vB 2) ae))) (kD (.int 2)))) (ag XE (aa (vL 3) (aa (vL 4) (aa (bo (d2 ah (vB 2) (kD (.int 1)))) ae)))))) aM)
  (aj (HD (G5 (Hs ξ) (bo (d2 ah (vB 2) (kD (.int 0)))) (kD (.str "lost"))) (az (ag XC (aa (vL 3) (aa (vL 1) (aa (vL 2) ae))))) aM)
  (aj (ar 6 (G6 (bo (aL [V,O 2] (HS (bo (d2 lr (bo (d2 ah (vB 0) (kD (.int 0)))) (bo (d2 ah (vB 0) (kD (.int 1))))))) (am 0) y99 (vL 0)))))
  (aj (HD (JJ (G5 (Hs D) (bo (d2 ah (vB 2) (kD (.int 0)))) (kD (.str "spoil"))) (JJ (G5 (Hs D) (bo (ag bz (aa (vB 2) ae))) (kD (.int 3))) (G5 (Hs ξ) (vB 6) (bo (aX ae))))) (az (G6 (kD (.bl ξ)))) aM)
  (az (ir (bo (ag XD (aa (vL 3) (aa (vL 4) (aa (bo (d2 ah (vB 2) (kD (.int 2)))) ae))))) (ag XF (aa (vL 3) (aa (bo (d2 ah (vB 2) (kD (.int 2)))) (aa (bo (d2 ah (vB 2) (kD (.int 1)))) (aa (bo (d2 ya (bo (d2 ah (vB 6) (kD (.int 0)))) (bo (d2 ah (vB 0) (kD (.int 1)))))) ae))))))))))))))))
def y134:De->C Hj:=(ar 0 (G6 (bo (d2 cC (vB 0) (vB 14)))))
def XG:Z Dt->C T:=bf 19 ((aj (lZ (vL 1) (jT 4 (bh (am 3) (bh (am 4) (bh (am 5) (bh (am 6) iu))))))
  (aj (ar 7 (G6 (bo (aX (aa (kD (.int 11)) (aa (bo (ag bz (aa (vB 3) ae))) (aa (bo (ag qi (aa (kD (.int 1)) (aa (bo (ag bz (aa (vB 4) ae))) ae)))) (aa (bo (ag qi (aa (kD (.int 1)) (aa (bo (ag bz (aa (vB 5) ae))) ae)))) (aa (kD (.int 8)) (aa (vL 2) ae))))))))))
  (aj (lZ (bo (ag Of (aa (vL 0) (aa (vL 7) ae)))) (xb 6 (bh (am 8) (bh (am 9) (bh (am 10) (bh (am 11) (bh (am 12) (bh (am 13) iu))))))))
  (aj (cM (HS (vL 7)) (am 14) y134)
  (aj (ar 15 (G6 (bo (ag Of (aa (vL 0) (aa (bo (aX (aa (bo (d2 bP (bo (ag bz (aa (vB 3) ae))) (kD (.int 1)))) (aa (bo (d2 iS (kD (.int 2)) (kD (.int 40)))) (aa (bo (d2 bP (bo (ag bz (aa (vB 3) ae))) (kD (.int 1)))) (aa (bo (d2 iS (kD (.int 2)) (kD (.int 40)))) ae)))))) ae))))))
  (aj (ar 16 (G6 (bo (d2 ah (bo (d2 bP (vB 3) (bo (aX (aa (bo (d2 ah (vB 15) (kD (.int 1)))) ae))))) (bo (d2 ah (vB 15) (kD (.int 0))))))))
  (aj (ar 17 (G6 (bo (d2 ah (bo (d2 bP (vB 3) (bo (aX (aa (bo (d2 ah (vB 15) (kD (.int 3)))) ae))))) (bo (d2 ah (vB 15) (kD (.int 2))))))))
  (aj (HD (cU (G5 (aS ξ) (vB 8) (bo (bi (aa (kD (.int 2)) (aa (kD (.int 3)) ae))))) (G5 (Hs D) (vB 4) (bo (bi ae)))) (az (d2 ah (bo (aX (aa (bo (bi (aa (kD (.str "load")) (aa (bo (d2 ah (vB 3) (vB 9))) (aa (bo (d2 ah (bo (d2 ah (vB 4) (vB 10))) (kD (.int 0)))) ae))))) (aa (bo (bi (aa (kD (.str "store")) (aa (bo (d2 ah (bo (d2 ah (vB 4) (vB 10))) (kD (.int 0)))) (aa (vL 16) ae))))) ae)))) (bo (d2 eM (vB 8) (kD (.int 2)))))) aM)
  (aj (HD (cU (G5 (aS ξ) (vB 8) (bo (bi (aa (kD (.int 4)) (aa (kD (.int 5)) ae))))) (G5 (Hs D) (vB 5) (bo (bi ae)))) (az (d2 ah (bo (aX (aa (bo (bi (aa (kD (.str "take")) (aa (bo (d2 ah (vB 3) (vB 9))) (aa (bo (d2 ah (bo (d2 ah (vB 5) (vB 11))) (kD (.int 0)))) (aa (vL 16) ae)))))) (aa (bo (bi (aa (kD (.str "lay")) (aa (bo (d2 ah (bo (d2 ah (vB 5) (vB 11))) (kD (.int 0)))) (aa (vL 16) (aa (vL 17) ae)))))) ae)))) (bo (d2 eM (vB 8) (kD (.int 4)))))) aM)
  (aj (HD (G5 (Hs ξ) (vB 8) (kD (.int 1))) (az (bi (aa (kD (.str "op")) (aa (bo (d2 ah (vB 3) (vB 9))) (aa (bo (d2 ah (kD (.str "+-*<=&|^")) (vB 12))) (aa (vL 16) (aa (vL 17) ae))))))) aM)
  (aj (ar 18 (G6 (bo (aX (aa (bo (bi (aa (kD (.str "hear")) (aa (bo (d2 ah (vB 3) (vB 9))) ae)))) (aa (bo (bi (aa (kD (.str "say")) (aa (vL 16) ae)))) (aa (bo (bi (aa (kD (.str "if")) (aa (vL 16) (aa (vL 13) ae))))) (aa (bo (bi (aa (kD (.str "go")) (aa (vL 13) ae)))) (aa (bo (bi (aa (kD (.str "end")) (aa (vL 16) ae)))) ae)))))))))
  (aj (HD (G5 (eN λi j=>decide (j<i)) (vB 8) (kD (.int 5))) (az (d2 ah (vB 18) (bo (d2 eM (vB 8) (kD (.int 6)))))) aM)
  (az (bi (aa (kD (.str "copy")) (aa (bo (d2 ah (vB 3) (vB 9))) (aa (vL 16) ae))))))))))))))))))
def z65:De->C Dt:=(bo (ag XG (aa (bo (ag OT (aa (vL 1) (aa (bo (d2 bP (kD (.int 6)) (vB 0))) ae)))) (aa (vL 2) (aa (vL 3) ae)))))
def XH:Z Dt->C T:=bf 9 ((aj (ar 2 (G6 (bo (ag Og (aa (vL 0) ae)))))
  (aj (ar 3 (G6 (bo (ag qi (aa (kD (.int 1)) (aa (bo (ag xc (aa (bo (d2 eM (bo (ag bz (aa (vB 0) ae))) (kD (.int 5)))) (aa (bo (d2 bP (kD (.int 1)) (vB 1))) ae)))) ae))))))
  (aj (ar 4 (aL [V,O 0,O 2,O 3] (cH d6 (aa (bo (d2 eM (vB 3) (kD (.int 1)))) ae)) (am 0) cJ z65))
  (aj (lZ (bo (ag Of (aa (bo (d2 ah (vB 2) (kD (.int 3)))) (aa (bo (aX (aa (kD (.int 2)) (aa (vL 3) (aa (bo (d2 bP (bo (ag bz (aa (bo (d2 ah (vB 2) (kD (.int 0)))) ae))) (kD (.int 1)))) (aa (bo (d2 iS (kD (.int 2)) (kD (.int 40)))) ae)))))) ae)))) (xb 4 (bh (am 5) (bh (am 6) (bh (am 7) (bh (am 8) iu))))))
  (aj (z8 4 (bo (d2 ah (bo (aX (aa (bo (bi (aa (kD (.str "end")) (aa (bo (d2 ah (bo (d2 bP (bo (d2 ah (vB 2) (kD (.int 0)))) (bo (aX (aa (vL 8) ae))))) (vB 7))) ae)))) (aa (bo (bi (aa (kD (.str "go")) (aa (vL 6) ae)))) ae)))) (vB 5))))
  (az (bi (aa (bo (d2 ah (vB 2) (kD (.int 1)))) (aa (bo (d2 ah (vB 2) (kD (.int 2)))) (aa (bo (ag dU (aa (vB 4) ae))) ae)))))))))))
def y83:De->C Dt:=(bo (d2 ah (vB 0) (kD (.int 0))))
def OU:Z Dt->C T:=bf 1 ((az (aL [V] (HS (bo (d2 ah (vB 0) (kD (.int 1))))) (am 0) cJ y83)))
def z128:De->C Hj:=(HD (cU (G5 (Hs ξ) (bo (d2 ah (vB 4) (kD (.int 0)))) (kD (.str "end"))) (G5 (aS D) (vB 3) (vB 2))) (az (bi (aa (kD (.str "end")) (aa (vL 3) ae)))) aM)
def y55:Z Dt->C T:=bf 5 ((aj (ar 2 (G6 (bo (ag OU (aa (vL 1) ae)))))
  (aj (cM (cH pZ (aa (bo (d2 ah (vB 0) (kD (.int 2)))) ae)) (jT 2 (bh (am 3) (bh (am 4) iu))) z128)
  (az (G6 (kD .G8))))))
def UV:Z Dt->C T:=bf 1 ((az (Qh (G5 (aS ξ) (bo (d2 ah (vB 0) (kD (.int 0)))) (kD np)) (d2 ah (vB 0) (kD (.int 1))) (G6 (kD .G8)))))
def y95:Z Dt->C T:=bf 2 ((aj (HD (Z3 D k_A fw (bo (d2 ah (vB 0) (kD (.int 0))))) (az (bi ae)) aM)
  (aj (ar 1 (G6 (bo (vSg k_A fw (bo (d2 ah (vB 0) (kD (.int 0))))))))
  (az (Qk (vB 0) (ie (bo (d2 ah (vB 1) (kD (.int 0))))) (ie (bo (d2 ah (vB 1) (kD (.int 1))))))))))
def z150:De->C Hj:=(HD (cU (ca (bo (dJ "str" (vB 2)))) (G5 (aS D) (vB 2) (vB 1))) (z8 1 (vL 2)) aM)
def SH:Z Dt->C T:=bf 3 ((aj (ar 1 (aX ae))
  (aj (cM (HS (bo (ag y95 (aa (vL 0) ae)))) (am 2) z150)
  (eZ 1))))
def z107:De->C Bool:=(G5 (Hs D) (vB 0) (bo (ag UV (aa (vL 1) ae))))
def q105:De->C Hj:=(Rh 2 (aL [V,O 0] (HS (vB 3)) (am 0) z107 (vL 0)))
def XI:Z Dt->C T:=bf 4 ((aj (ar 2 (ag SH (aa (vL 0) ae)))
  (aj (cM (HS (vL 1)) (am 3) q105)
  (az (ag gG (aa (vB 2) ae))))))
def z69:Z Dt->C T:=bf 2 ((aj (HD (G5 (Hs ξ) (bo (d2 ah (vB 1) (kD (.int 0)))) (kD (.str "go"))) (az (bi (aa (bo (d2 ah (vB 1) (kD (.int 1)))) ae))) aM)
  (aj (HD (G5 (Hs ξ) (bo (d2 ah (vB 1) (kD (.int 0)))) (kD (.str "if"))) (az (bi (aa (bo (d2 ah (vB 1) (kD (.int 2)))) (aa (bo (d2 bP (vB 0) (kD (.int 1)))) ae)))) aM)
  (aj (HD (G5 (Hs ξ) (bo (d2 ah (vB 1) (kD (.int 0)))) (kD (.str "end"))) (az (bi ae)) aM)
  (az (bi (aa (bo (d2 bP (vB 0) (kD (.int 1)))) ae)))))))
def XJ:De->C Dt:=(bo (ag z69 (aa (vL 0) (aa (vL 1) ae))))
def eU:Z Dt->C T:=bf 1 ((az (aL [V,V] (cH pZ (aa (bo (d2 ah (vB 0) (kD (.int 2)))) ae)) (jT 2 (bh (am 0) (bh (am 1) iu))) cJ XJ)))
def z146:De->C Dt:=(bo (aX ae))
def y146:De->C Dt:=(bo (d2 ah (vB 1) (vB 0)))
def z145:De->C Hj:=(aj (ar 6 (G6 (bo (ag XI (aa (bo (d2 ah (vB 1) (vB 5))) (aa (bo (aL [V,O 3] (HS (bo (d2 ah (vB 2) (vB 5)))) (am 0) cJ y146)) ae))))))
  (HD (G5 (Hs D) (vB 6) (bo (d2 ah (vB 3) (vB 5)))) (aj (hJ 3 (vB 5) (vL 6))
  (ar 4 (G6 (kD (.bl D))))) aM))
def z148:De->C Hj:=(aj (ar 4 (G6 (kD (.bl ξ)))) (cM (cH u2 (aa (bo (d2 eM (bo (ag bz (aa (vB 1) ae))) (kD (.int 1)))) (aa (bo (l3 (kD (.int 1)))) (aa (bo (l3 (kD (.int 1)))) ae)))) (am 5) z145))
def q146:De->C Bool:=(ca (vB 4))
def XM:Z Dt->C T:=bf 7 ((aj (ar 1 (G6 (bo (d2 ah (vB 0) (kD (.int 2))))))
  (aj (ar 2 (G6 (bo (ag eU (aa (vL 0) ae)))))
  (aj (ar 3 (aL [V] (HS (vB 1)) (am 0) cJ z146))
  (aj (ar 4 (G6 (kD (.bl D))))
  (aj (be q146 z148 100000)
  (eZ 3)))))))
def y147:De->C Hj:=(aj (z8 2 (vL 3)) (ar 3 (G6 (bo (d2 ah (vB 0) (vB 3))))))
def q147:De->C Bool:=(G5 (MU D) (vB 3) (kD .G8))
def Ei:Z Dt->C T:=bf 4 ((aj (ar 2 (aX ae))
  (aj (ar 3 (G6 (vL 1)))
  (aj (be q147 y147 100000)
  (az (Z8 (vB 2)))))))
def y150(σ:Jz):De->C Hj:=(hJ 3 (vB 4) (kD .G8))
def y148(σ:Jz):De->C Hj:=(HD (G5 (aS D) (vB 8) (vB 3)) (aj (hJ 3 (vB 8) (vL 7)) (z8 5 (vL 8))) aM)
def q149 (σ:Jz):De->C Hj:=(aj (ar 7 (G6 (bo (d2 ah (vB 5) (vB 6)))))
  (aj (uS (λi j=>i+j) 6 (kD (.int 1)))
  (aj (HD (ca (bo (Re σ 2 (aa (vL 7) ae)))) (lY 3 (az (ag Ei (aa (vL 3) (aa (vL 7) ae))))) aM)
  (cM (HS (bo (Re σ 1 (aa (vL 7) ae)))) (am 8) (y148 σ)))))
def q151(σ:Jz):De->C Bool:=(G5 (eN λi j=>decide (i<j)) (vB 6) (bo (ag bz (aa (vB 5) ae))))
def z96 (σ:Jz):Dt->J9->J9->Hp->C T:=uW 9 ((aj (ar 3 kZ)
  (aj (cM (HS (vL 0)) (am 4) (y150 σ))
  (aj (ar 5 (ag eT (aa (vB 3) ae)))
  (aj (ar 6 (G6 (kD (.int 0))))
  (aj (be (q151 σ) (q149 σ) 100000)
  (az (G6 (kD .G8)))))))))
def ck:De->C Hj:=(az (Qh (G5 (Hs ξ) (bo (ag UV (aa (bo (d2 ah (vB 2) (vB 0))) ae))) (vB 1)) (aX ae) (d2 ah (vB 3) (vB 0))))
def cI:De->C Hj:=(az (d2 (aS ξ) (vB 1) (bo (ag SH (aa (bo (d2 ah (vB 2) (vB 0))) ae)))))
def y90:De->C Dt:=(bo (aX (aa (vL 1) ae)))
def XN:Z Dt->C T:=bf 7 ((aj (ar 3 (G6 (bo (d2 ah (vB 0) (kD (.int 2))))))
  (aj (ar 4 (G6 (bo (ag eU (aa (vL 0) ae)))))
  (λJ=>(az (Rf [2,3,4] [2,3] ["row","box","rows","onward"] ["row","box","rows"] ck cI y90 z96)) (oI 5 6 J)))))
def z124:De->C Dt:=(bo (bi (aa (bo (d2 ah (vB 0) (kD (.int 0)))) (aa (bo (d2 ah (vB 0) (kD (.int 1)))) (aa (kD (.bl ξ)) ae)))))
def q117:De->C Hj:=(HD (G5 (aS D) (vB 7) (vB 5)) (az (SD (Rk (kD (.str "lost")) (Rk (vL 7) (SB (ag XN (aa (vL 0) (aa (vL 4) (aa (vL 7) ae)))) (aa (vL 6) ae)))))) aM)
def y122:De->C Hj:=(cM (HS (bo (d2 ah (vB 2) (vB 4)))) (am 7) q117)
def q47:Z Dt->C T:=bf 8 ((aj (ar 2 (G6 (bo (ag XM (aa (vL 0) ae)))))
  (aj (ar 3 (G6 (bo (d2 bP (bo (aX (aa (bo (bi (aa (kD (.int 0)) (aa (bo (d2 ah (vB 1) (kD (.int 0)))) (aa (kD (.bl D)) ae))))) ae))) (bo (aL [V] (HS (bo (d2 ah (vB 1) (kD (.int 1))))) (am 0) cJ z124))))))
  (aj (cM (HS (vL 3)) (jT 3 (bh (am 4) (bh (am 5) (bh (am 6) iu)))) y122)
  (az (G6 (kD .G8)))))))
def y104:De->C Dt:=(bo (d2 (aS ξ) (vB 0) (vB 1)))
def z62:De->C Bool:=(ca (bo (ag (kW λbs=>bs.any id) (aa (bo (aL [V,O 2] (HS (bo (d2 ah (vB 1) (vB 0)))) (am 0) cJ y104)) ae))))
def q103:De->C Hj:=(aj (ar 4 (G6 (bo (aL [V,O 0,O 2] (HS (vB 2)) (am 0) z62 (vL 0)))))
  (aj (ar 3 (G6 (bo (d2 (eN λi j=>decide (i<j)) (bo (ag bz (aa (vB 4) ae))) (bo (ag bz (aa (vB 2) ae)))))))
  (ar 2 (G6 (vL 4)))))
def y103:De->C Bool:=(ca (vB 3))
def XO:Z Dt->C T:=bf 5 ((aj (ar 2 (G6 (vL 1)))
  (aj (ar 3 (G6 (kD (.bl D))))
  (aj (be y103 q103 100000)
  (eZ 2)))))
def q54:De->C Bool:=(G5 (aS D) (vB 0) (vB 1))
def z79:De->C Bool:=(G5 (aS ξ) (vB 0) (vB 1))
def z123:De->C Hj:=(aj (z8 5 (vL 6)) (ar 6 (G6 (bo (d2 ah (bo (aL [V,O 4] (HS (bo (d2 ah (vB 3) (vB 6)))) (am 0) z79 (vL 0))) (kD (.int 0)))))))
def q73:De->C Bool:=(G5 (aS D) (vB 6) (vB 5))
def z48:Z Dt->C T:=bf 7 ((aj (ar 2 (G6 (bo (ag OU (aa (vL 1) ae)))))
  (aj (ar 3 (G6 (bo (ag eU (aa (vL 0) ae)))))
  (aj (ar 4 (G6 (bo (ag XO (aa (vL 3) (aa (bo (aL [V,O 2] (cH d6 (aa (bo (ag bz (aa (vB 3) ae))) ae)) (am 0) q54 (vL 0))) ae))))))
  (aj (HD (G5 (Hs ξ) (bo (ag bz (aa (vB 4) ae))) (kD (.int 0))) (az (G6 (kD .G8))) aM)
  (aj (ar 5 (aX ae))
  (aj (ar 6 (G6 (bo (d2 ah (vB 4) (kD (.int 0))))))
  (aj (be q73 z123 100000)
  (az (SD (Rk (kD (.str "ring")) (SB (Qk (vB 5) (ie (bo (f6 dL (vB 5) (aa (vB 6) ae)))) kU) ae))))))))))))
def q69:De->C Bool:=(eL (ca (bo (d2 ah (vB 0) (kD (.int 2))))))
def q67:De->C Dt:=(bo (d2 ah (vB 0) (kD (.int 0))))
def SI:Z Dt->C T:=bf 1 ((az (aL [V] (HS (bo (d2 lr (bo (d2 ah (vB 0) (kD (.int 0)))) (bo (d2 ah (vB 0) (kD (.int 1))))))) (am 0) q69 q67)))
def y123:De->C Bool:=(G5 (aS D) (vB 0) (vB 1))
def q77:De->C Dt:=(bo (aL [V,O 1] (HS (vB 0)) (am 0) y123 (vL 0)))
def XQ:Z Dt->C T:=bf 3 ((aj (ar 2 (G6 (bo (ag OU (aa (vL 1) ae))))) (az (aL [V,O 2] (HS (bo (ag eU (aa (vL 0) ae)))) (am 0) cJ q77))))
def UW:Z Dt->C T:=bf 3 ((aj (HD (cU (G5 (Hs ξ) (vB 0) (kD kf)) (cU (G5 (aS ξ) (bo (d2 ah (vB 1) (kD (.int 0)))) (bo (bi (aa (kD (.str "load")) (aa (kD (.str "take")) ae))))) (G5 (Hs ξ) (bo (d2 ah (vB 1) (kD (.int 2)))) (vB 2)))) (az (G6 (kD sf))) aM)
  (aj (HD (cU (G5 (Hs ξ) (vB 0) (kD kf)) (cU (G5 (Hs ξ) (bo (d2 ah (vB 1) (kD (.int 0)))) (kD (.str "store"))) (G5 (Hs ξ) (bo (d2 ah (vB 1) (kD (.int 1)))) (vB 2)))) (az (G6 (kD se))) aM)
  (aj (HD (cU (G5 (Hs ξ) (vB 0) (kD sf)) (cU (G5 (aS ξ) (bo (d2 ah (vB 1) (kD (.int 0)))) (bo (bi (aa (kD (.str "store")) (aa (kD (.str "lay")) ae))))) (G5 (Hs ξ) (bo (d2 ah (vB 1) (kD (.int 1)))) (vB 2)))) (az (G6 (kD lC))) aM)
  (eZ 0)))))
def q127:De->C Hj:=(aj (z8 2 (vL 3)) (ar 3 (G6 (bo (d2 xU (vB 0) (vB 3))))))
def q131:De->C Bool:=(G5 (MU D) (vB 3) (kD .G8))
def y71:Z Dt->C T:=bf 4 ((aj (ar 2 (aX ae))
  (aj (ar 3 (G6 (vL 1)))
  (aj (be q131 q127 100000)
  (az (Z8 (vB 2)))))))
def z136(σ:Jz):De->C Hj:=(m8 3 (vB 4) (kD .G8))
def q135(σ:Jz):De->C Hj:=(HD (xV (vB 8) (vB 3)) (aj (m8 3 (vB 8) (vL 7)) (z8 5 (vL 8))) aM)
def q138 (σ:Jz):De->C Hj:=(aj (ar 7 (G6 (bo (d2 ah (vB 5) (vB 6)))))
  (aj (uS (λi j=>i+j) 6 (kD (.int 1)))
  (aj (HD (ca (bo (Re σ 2 (aa (vL 7) ae)))) (lY 3 (az (ag y71 (aa (vL 3) (aa (vL 7) ae))))) aM)
  (cM (HS (bo (Re σ 1 (aa (vL 7) ae)))) (am 8) (q135 σ)))))
def y140(σ:Jz):De->C Bool:=(G5 (eN λi j=>decide (i<j)) (vB 6) (bo (ag bz (aa (vB 5) ae))))
def q60 (σ:Jz):Dt->J9->J9->Hp->C T:=uW 9 ((aj (ar 3 oS)
  (aj (cM (HS (vL 0)) (am 4) (z136 σ))
  (aj (ar 5 (ag eT (aa (vB 3) ae)))
  (aj (ar 6 (G6 (kD (.int 0))))
  (aj (be (y140 σ) (q138 σ) 100000)
  (az (G6 (kD .G8)))))))))
def y97:De->C Dt:=(bo (bi (aa (vL 0) (aa (vL 1) ae))))
def dY:De->C Hj:=(aj (ar 1 (G6 (bo (ag UW (aa (bo (d2 ah (vB 0) (kD (.int 1)))) (aa (bo (d2 ah (vB 3) (bo (d2 ah (vB 0) (kD (.int 0)))))) (aa (vL 2) ae))))))) (az (Qh (G5 (Hs ξ) (vB 1) (kD se)) (aX ae) (aL [V,O 1] (HS (bo (d2 ah (vB 4) (bo (d2 ah (vB 0) (kD (.int 0))))))) (am 0) cJ y97))))
def dZ:De->C Hj:=(az (d2 (Hs ξ) (bo (ag UW (aa (bo (d2 ah (vB 0) (kD (.int 1)))) (aa (bo (d2 ah (vB 2) (bo (d2 ah (vB 0) (kD (.int 0)))))) (aa (vL 1) ae))))) (kD lC)))
def q145:De->C Dt:=(bo (bi (aa (vL 0) (aa (kD kf) ae))))
def q148:De->C Dt:=(bo (aL [V] (HS (bo (d2 bP (bo (aX (aa (kD (.int 0)) ae))) (bo (ag OU (aa (vL 1) ae)))))) (am 0) cJ q145))
def z147:De->C Dt:=(bo (d2 ah (vB 0) (kD (.int 0))))
def XR:Z Dt->C T:=bf 8 ((aj (HD (G5 (aS D) (vB 2) (bo (ag SI (aa (vL 0) ae)))) (az (G6 (kD .G8))) aM)
  (aj (ar 3 (G6 (bo (d2 ah (vB 0) (kD (.int 2))))))
  (aj (ar 4 (G6 (bo (ag XQ (aa (vL 0) (aa (vL 1) ae))))))
  (λJ=>(aj (ar 7 (Rf [2,3,4] [2,3] ["place","mark","name","rows","inner"] ["place","name","rows"] dY dZ q148 q60))
  (az (Qh (G5 (MU ξ) (vB 7) (kD .G8)) (G6 (kD .G8)) (aL [V] (HS (vB 7)) (am 0) cJ z147)))) (oI 5 6 J))))))
def y113:De->C Hj:=(aj (ar 3 (ag XR (aa (vL 0) (aa (vL 1) (aa (vL 2) ae))))) (HD (G5 (MU D) (vB 3) (kD .G8)) (Ef 3 (aa (kD (.str "spoil")) (aa (vL 2) ae))) aM))
def z44:Z Dt->C T:=bf 4 ((aj (cM (HS (bo (ag SI (aa (vL 0) ae)))) (am 2) y113) (az (G6 (kD .G8)))))
def Qq:Z Dt->C T:=bf 3 ((aj (ar 2 (ag y55 (aa (vL 0) (aa (vL 1) ae))))
  (aj (HD (Qp 2 (G5 (MU ξ) (vB 2) (kD .G8))) (ar 2 (ag z48 (aa (vL 0) (aa (vL 1) ae)))) aM)
  (aj (HD (Qp 2 (G5 (MU ξ) (vB 2) (kD .G8))) (ar 2 (ag z44 (aa (vL 0) (aa (vL 1) ae)))) aM)
  (aj (HD (Qp 2 (G5 (MU ξ) (vB 2) (kD .G8))) (ar 2 (ag q47 (aa (vL 0) (aa (vL 1) ae)))) aM)
  (eZ 2))))))
def XS:Z Dt->C T:=bf 2 ((az (d2 (MU ξ) (Rj (ag Qq (aa (vL 0) (aa (vL 1) ae)))) (kD .G8))))
def t3:Z Dt->C T:=bf 7 ((aj (ar 1 (G6 (bo (ag XH (aa (vL 0) (aa (kD (.int 40)) ae))))))
  (aj (ar 2 (G6 (bo (d2 ah (bo (ag Og (aa (vL 0) ae))) (kD (.int 0))))))
  (aj (ar 3 (G6 (bo (ag Xy (aa (vL 0) (aa (vL 1) (aa (vL 2) ae)))))))
  (aj (ar 4 (G6 (bo (ag XB (aa (vL 1) (aa (vL 3) (aa (vL 2) ae)))))))
  (aj (ar 5 (ag Qq (aa (vL 1) (aa (vL 3) ae))))
  (aj (ar 6 (G6 (bo (ag XS (aa (vL 1) (aa (vL 3) ae))))))
  (aj (HD (JJ (eL (ca (bo (dJ "bool" (vB 6))))) (G5 (Hs D) (vB 6) (bo (d2 (Hs ξ) (vB 4) (kD (.str "")))))) (az (G6 (kD (.bl ξ)))) aM)
  (aj (HD (G5 (Hs ξ) (vB 4) (kD (.str ""))) (az (d2 (MU ξ) (vB 5) (kD .G8))) aM)
  (aj (HD (Qp 5 (JJ (eL (ca (bo (ag UU (aa (vL 1) (aa (vL 3) (aa (vL 5) ae))))))) (G5 (Hs D) (bo (d2 ah (vB 5) (kD (.int 0)))) (vB 4)))) (az (G6 (kD (.bl ξ)))) aM)
  (aj (HD (G5 (Hs D) (vB 4) (kD (.str "end"))) (yg 5 (bo (d2 bP (kD (.int 1)) (bo (ag wT (aa (bo (d2 (Hs D) (vB 4) (kD (.str "ring")))) ae))))) (kD (.int 0))) aM)
  (aj (ar 5 (G6 (Rj (ag Qq (aa (vL 1) (aa (vL 3) ae))))))
  (az (ir (bo (ag UU (aa (vL 1) (aa (vL 3) (aa (vL 5) ae))))) (d2 (Hs ξ) (bo (d2 ah (vB 5) (kD (.int 0)))) (vB 4))))))))))))))))
end
structure Txt(P:HL)(w:Ja)(K:Hk)(mg:Str->Option Value):Prop where
 LB:mg "all"=V
 OV:mg "any"=V
 LR:mg "bool"=V
 Jp:mg "enumerate"=V
 OW:mg "int"=V
 He:mg "isinstance"=V
 OX:mg "len"=V
 Iy:mg "list"=V
 Nx:mg "max"=V
 Rl:mg "min"=V
 Hy:mg "range"=V
 JL:mg "reversed"=V
 Ny:mg "set"=V
 Ke:mg "sorted"=V
 Mn:mg "str"=V
 Kf:mg "tuple"=V
 g_A:Ae P w K mg "ATOM_PLACES" k_A fw
 g_D:iU K mg "FRESH" kf
 g_F:iU K mg "SAFE" se
 g_E:iU K mg "SEEN" sf
 g_B:iU K mg "SETTING" np
 g_C:iU K mg "SPOILT" lC
 is:rT K=D
 Mo:eO K "str"
 LS:eO K "bool"
 Rm:eO K "int"
 LU:eO K "list"
 Nz:eO K "tuple"
local macro_rules | `(tactic| walk_at "x") => `(tactic| (repeat' (first | ((with_reducible show DB _ _ _); first | refine DO.Hu ?_ | exact dbX (by kernel_rfl) | refine DL.Hu ?_) | ((with_reducible show DL _ _ _); first | refine DO.IT ?_ | exact dlX (by kernel_rfl) | exact aO | exact eJ | exact bG | exact dm | exact Xe (by kernel_rfl) ‹Txt _ _ _ _›.g_D | exact Xe (by kernel_rfl) ‹Txt _ _ _ _›.g_F | exact Xe (by kernel_rfl) ‹Txt _ _ _ _›.g_E | exact Xe (by kernel_rfl) ‹Txt _ _ _ _›.g_B | exact Xe (by kernel_rfl) ‹Txt _ _ _ _›.g_C) | ((with_reducible show DO _ _ _); first | refine rp ‹Hh _ _› ?_ ?_ | refine DL.Hi ?_ | refine kP ?_ | refine cK ?_ | refine doF (by kernel_rfl) ‹_› ‹Hh _ _› Ω ?_ | refine aV dA ib ?_ ?_ | refine aV C0 Gh ?_ ?_ | refine aV vN BC ?_ ?_ | refine aV eR iA ?_ ?_ | refine aV kw pP ?_ ?_ | refine Z9 (by kernel_rfl) (gv rfl) (kX (f := λbs => bs.all id)) ‹Txt _ _ _ _›.LB kH ?_ | refine Z9 (by kernel_rfl) (pI rfl) (kX (f := λbs => bs.any id)) ‹Txt _ _ _ _›.OV wn ?_ | refine doT (by kernel_rfl) uR Gj ‹Txt _ _ _ _›.OW wo ?_ | refine Z9 (by kernel_rfl) vV Gi ‹Txt _ _ _ _›.OX Dj ?_ | refine Z9 (by kernel_rfl) oJ xt ‹Txt _ _ _ _›.Ke uM ?_ | refine doT (by kernel_rfl) fj oH ‹Txt _ _ _ _›.Kf iJ ?_ | refine dP (oE ‹Hh _ _›) z0 ?_ ?_ (bL _) | refine dP (jp ‹Hh _ _›) uQ ?_ ?_ (bL _) | refine dP vP ic ?_ ?_ (bL _) | refine dP vQ ic ?_ ?_ (bL _) | refine dP Bt ic ?_ ?_ (bL _) | refine dP XT ic ?_ ?_ (bL _) | refine dP qP Dx ?_ ?_ (bL _) | refine dP sS tz ?_ ?_ (bL _) | refine Gk ‹Hh _ _› ?_ ?_ | refine wW ‹Hh _ _› ?_ ?_ | refine pT ?_ ?_ ?_ | refine wG ?_ ?_ ?_ | refine wF ?_ | refine DD ?_ | refine kO ?_ ?_ | refine Ge ?_ ?_ | refine oA ?_ | refine aV Az D3 ?_ ?_ | refine vc ?_ ?_ ?_ | refine dP (x9 ‹Hh _ _› rfl) BP ?_ ?_ (bL _)) | ((with_reducible show DT _ _ _); first | refine dq (oE ‹Hh _ _›) z0 ?_ ?_ (bL _) | refine dq (jp ‹Hh _ _›) uQ ?_ ?_ (bL _) | refine dq vP ic ?_ ?_ (bL _) | refine dq vQ ic ?_ ?_ (bL _) | refine dq Bt ic ?_ ?_ (bL _) | refine dq XT ic ?_ ?_ (bL _) | refine dq qP Dx ?_ ?_ (bL _) | refine dq sS tz ?_ ?_ (bL _) | refine Gm ‹Hh _ _› ?_ ?_ | refine wX ‹Hh _ _› ?_ ?_ | refine DW.t (ou ?_ ?_) | refine DW.t (eY ?_ ?_) | refine dQ ?_ | refine bp ?_ (λ_ => rfl)) | ((with_reducible show DA _ _ _); first | refine aE ?_ ?_ | exact br) | ((with_reducible show Mz _ _ _); first | refine cA ?_ ?_ | exact da) | refine ou ?_ ?_ | refine eY ?_ ?_ | refine oq ?_ | refine gB ?_ | exact tD | refine tE ?_)))
seal compareOp bo G6 vB vL kD d2 bi aX ag aa ae G5 cU JJ eL ca Qk ie kU Qh zR l3 ir UG
variable{X:Cx}{pos:Pos}{sc:Jd}{N:Z Str}{x:Str}
theorem Hq{e:Jc}{f:De->C T}{i:Nat}{pos':Pos}(h:bU sc N=D)(nd:N.Nodup)(he:DO X e f)(e0:N[i]?=O x:=by rfl)(e1:bT X sc:=by rfl)(Y:X.N=N:=by rfl)(q:X.fn x=D∨X.env.scope.names.lookup x=O .local:=by exact .inl rfl)(hs:Mu e (O (.Name x pos')) pos.line X.env=pure ξ:=by rfl):KI X (.Assign [.Name x pos'] e pos) (ar i f):=wI (HH h i e0) (HJ h i e0) nd he e1 Y q hs
theorem Kl{p:Pos}{iter elt:Jc}{ifs:Z Jc}{scope:Jd}{src:Z (C Nat)}{fi:De->C (Z Dt)}{ft:De->C Bool}{fe:De->C Dt}(M:Z Str)(h:(wt X.N X.env.scope scope M src&&dl (kK scope X.env.scope) M 0 x&&WG (kK scope X.env.scope) x&&decide (src[0]?=O V))=D)(hi:Sg X (.Name x p) iter fi)(q:∀ζ s H ex,Sh (Jy X M scope ζ s H ex) ifs ft)(Y:∀ζ s H ex,DL (Jy X M scope ζ s H ex) elt fe)(hc:X.calm=D:=by rfl)(hs:∀x,Om iter X.env x=pure x:=by intro _;rfl):DO X (.ListComp elt [⟨.Name x p,iter,ifs,0⟩] scope pos) (aL src fi (am 0) ft fe):=by simp only[IH]at h;exact j5 (ts:=[0]) (G4.of h.1.1.1) hc hi (λnd ζ s H ex=>al (bw h.1.1.2 h.1.2 nd (K7 rfl))) q Y (by simp only[PK,List.all_nil,T8];exact h.2) hs
theorem Iv{P:Z Str}(h:N.Nodup/\N.take P.length=P/\(∀x∈P,sc.names.lookup x=O .local∨sc.names.lookup x=O .cell)/\∀y∈sc.names,y.2≠.free)(a:sc.kind=.function:=by rfl)(b:sc.isCoroutine=ξ:=by rfl)(c:sc.isGenerator=ξ:=by rfl):ma N P sc:=⟨a,b,c,h.1,h.2.1,h.2.2.1,h.2.2.2⟩
variable{c Pt:J9}
section
variable{P:HL}{w:Ja}{K:Hk}{mg:Str->C Value}{base:Heap}
abbrev z53:Jb:=Iu 33
theorem q113:ma ["_law_script","_law_k"] ["_law_script","_law_k"] (ab z53):=Iv χ
theorem z113(T:Txt P w K mg)(θ:Ho K mg "_law_cell_at" z53 ["_law_script","_law_k"]):G9 P w K mg base "_law_cell_at" 1 ["_law_script","_law_k"] (Ha K 2 y2):=
 aU θ q113 rfl λf Hv A outer s H E q=>(ac (ay Ψ (af (ak Ψ)) aq)
     (af (ak (DL.Hi aO))))
abbrev XU:Jb:=Iu 34
theorem SJ:ma ["_law_cell","_law_k","_law_found","_law_number","_law_j"] ["_law_cell","_law_k"] (ab XU):=Iv χ
theorem b7:bU (ab XU) ["_law_cell","_law_k","_law_found","_law_number","_law_j"]=D:=χ
theorem q94:aw (ab XU) "range"=D:=χ
theorem q141(T:Txt P w K mg)(θ:Ho K mg "_law_rich" XU ["_law_cell","_law_k"]):G9 P w K mg base "_law_rich" 1 ["_law_cell","_law_k"] (Ha K 2 SE):=
 aU θ SJ rfl λf Hv A outer s H E q=>(ac (Hq b7 SJ.nd (DL.Hi aO))
     (ac (Hq b7 SJ.nd (DL.Hi Ψ))
     (ac (bB IX rfl (bC q94 T.Hy Ψ) (al (ap (HH b7 4) (HJ b7 4) SJ.nd)) (ac (Hq b7 SJ.nd (DL.Hi Ψ))
     (ac (Hq b7 SJ.nd (DL.Hi Ψ))
     (af (Hq b7 SJ.nd (DL.Hi Ψ))))))
     (af (dz (IB 2 b7))))))
abbrev y79:Jb:=Iu 35
theorem z142:ma ["_law_script","_law_k"] ["_law_script","_law_k"] (ab y79):=Iv χ
theorem q142(T:Txt P w K mg)(θ:Ho K mg "_law_big" y79 ["_law_script","_law_k"])(Y:G9 P w K mg base "_law_cell_at" 1 ["_law_script","_law_k"] (Ha K 2 (y2)))(q:G9 P w K mg base "_law_rich" 1 ["_law_cell","_law_k"] (Ha K 2 (SE))):G9 P w K mg base "_law_big" 2 ["_law_script","_law_k"] (Ha K 2 OT):=
 aU θ z142 rfl λf Hv A outer s H E hr=>(ac (ay Ψ (af (ak Ψ)) aq)
     (af (ak Ψ)))
abbrev XV:Jb:=Iu 41
theorem z135:ma ["_law_pool_here","_law_number"] ["_law_pool_here","_law_number"] (ab XV):=Iv χ
theorem z92:aw (ab XV) "range"=D:=χ
theorem y91:aw (ab XV) "tuple"=D:=χ
theorem q140(T:Txt P w K mg)(θ:Ho K mg "_law_some" XV ["_law_pool_here","_law_number"]):G9 P w K mg base "_law_some" 1 ["_law_pool_here","_law_number"] (Ha K 2 UR):=aU θ z135 rfl λf Hv A outer s H E q=>(af (ak (db y91 fj oH T.Kf iJ (cA (DO.Hu (Kl ["_law_j","_law_pool_here","_law_number"] (by kernel_rfl) (LP.Hu (bC z92 T.Hy Ψ)) (λ_ _ _ _=>bu (dq (oE q) z0 (DO.Hu (aV kw pP (DO.Hu (aV eR iA Ψ (DO.Hu (aV oT xY (DL.Hu aO) Ψ)))) (DL.Hu aO))) (DL.Hu aO) (bL _))) (λ_ _ _ _=>Ψ))) da))))
abbrev XW:Jb:=Iu 42
theorem Py:ma ["_law_script","_law_program_here","_law_pool_here","_law_number","_law_begin","_law_share","_law_keeps","_law_at"] ["_law_script","_law_program_here","_law_pool_here"] (ab XW):=Iv χ
theorem aQ:bU (ab XW) ["_law_script","_law_program_here","_law_pool_here","_law_number","_law_begin","_law_share","_law_keeps","_law_at"]=D:=χ
theorem q76:aw (ab XW) "range"=D:=χ
theorem y116(T:Txt P w K mg)(θ:Ho K mg "_law_cutting" XW ["_law_script","_law_program_here","_law_pool_here"])(UX:G9 P w K mg base "_law_big" 2 ["_law_script","_law_k"] (Ha K 2 (OT)))(UY:G9 P w K mg base "_law_cell_at" 1 ["_law_script","_law_k"] (Ha K 2 (y2)))(Y:G9 P w K mg base "_law_rich" 1 ["_law_cell","_law_k"] (Ha K 2 (SE)))(q:G9 P w K mg base "_law_some" 1 ["_law_pool_here","_law_number"] (Ha K 2 (UR))):G9 P w K mg base "_law_cutting" 3 ["_law_script","_law_program_here","_law_pool_here"] (Ha K 3 Xv):=
 aU θ Py rfl λf Hv A outer s H E hr=>(ac (Hq aQ Py.nd (DL.Hi Ψ))
     (ac (Hq aQ Py.nd (DL.Hi Ψ))
     (ac (Hq aQ Py.nd (DL.Hi (DO.IT (aV eR iA Ψ (DO.Hu (aV oT xY (DL.Hu aO) Ψ))))))
     (ac (Hq aQ Py.nd (DL.Hi aO))
     (ac (Hq aQ Py.nd (cK br))
     (ac (bB IX rfl (bC q76 T.Hy Ψ) (al (ap (HH aQ 7) (HJ aQ 7) Py.nd)) (ac (ay Ψ (ac (Hq aQ Py.nd (DL.Hi Ψ))
     (af (Hq aQ Py.nd (DL.Hi Ψ)))) aq)
     (ac (ay Ψ (af (bD (IB 6 aQ) Ψ)) aq)
     (af (Hq aQ Py.nd (DL.Hi (DO.IT (aV eR iA Ψ (DO.Hu (aV oT xY (DL.Hu aO) Ψ))))))))))
     (af (ak Ψ))))))))
abbrev z64:Jb:=Iu 44
theorem q133:ma ["_law_rows","_law_at"] ["_law_rows","_law_at"] (ab z64):=Iv χ
theorem y127(T:Txt P w K mg)(θ:Ho K mg "_law_exits" z64 ["_law_rows","_law_at"]):G9 P w K mg base "_law_exits" 1 ["_law_rows","_law_at"] (Ha K 2 y1):=
 aU θ q133 rfl λf Hv A outer s H E q=>(ac (ay Ψ (af (ak (cK br))) aq)
     (ac (ay Ψ (af (ak Ψ)) aq)
     (ac (ay Ψ (af (ak Ψ)) aq)
     (af (ak Ψ)))))
abbrev SL:Jb:=Iu 58
theorem UZ:ma ["_law_program_here","_law_rows","_law_plain","_law_found","_law_at","_law_into"] ["_law_program_here"] (ab SL):=Iv χ
theorem bc:bU (ab SL) ["_law_program_here","_law_rows","_law_plain","_law_found","_law_at","_law_into"]=D:=χ
theorem y47:aw (ab SL) "range"=D:=χ
theorem z118(T:Txt P w K mg)(θ:Ho K mg "_law_places" SL ["_law_program_here"])(Y:G9 P w K mg base "_law_exits" 1 ["_law_rows","_law_at"] (Ha K 2 (y1))):G9 P w K mg base "_law_places" 2 ["_law_program_here"] (Ha K 1 Xw):=
 aU θ UZ rfl λf Hv A outer s H E hr=>(ac (Hq bc UZ.nd (DL.Hi Ψ))
     (ac (cX (HH bc 2) (HJ bc 2) UZ.nd (M:=["_law_told"]) (src:=[V]) (ts:=[0]) (G4.of (by kernel_rfl)) rfl (aK Ψ) (λq _ _ _ _=>(al (bw (N:=["_law_told"]) (i:=0) χ χ q (K7 (outer:=ab SL) (by exact rfl))))) (λ_ _ _ _=>bu Ψ) (λ_ _ _ _=>Ψ) χ)
     (ac (Hq bc UZ.nd (cK br))
     (ac (bB IX rfl (bC y47 T.Hy Ψ) (al (ap (HH bc 4) (HJ bc 4) UZ.nd)) (ac (cX (HH bc 5) (HJ bc 5) UZ.nd (M:=["_law_k","_law_rows","_law_at"]) (src:=[V,O 1,O 4]) (ts:=[0]) (G4.of (by kernel_rfl)) rfl (LP.Hu (mD y47 T.Hy Ψ)) (λq _ _ _ _=>(al (bw (N:=["_law_k","_law_rows","_law_at"]) (i:=0) χ χ q (K7 (outer:=ab SL) (by exact rfl))))) (λ_ _ _ _=>bu Ψ) (λ_ _ _ _=>Ψ) χ)
     (af (ay Ψ (af (bD (IB 3 bc) Ψ)) aq))))
     (af (dz (IB 3 bc)))))))
abbrev z45:Jb:=Iu 36
theorem y39:ma ["_law_number","_law_sizes","_law_digits_here","_law_size"] ["_law_number","_law_sizes"] (ab z45):=Iv χ
theorem cq:bU (ab z45) ["_law_number","_law_sizes","_law_digits_here","_law_size"]=D:=χ
theorem z125(T:Txt P w K mg)(θ:Ho K mg "_law_digits" z45 ["_law_number","_law_sizes"]):G9 P w K mg base "_law_digits" 1 ["_law_number","_law_sizes"] (Ha K 2 Of):=
 aU θ y39 rfl λf Hv A outer s H E q=>(ac (Hq cq y39.nd (cK br))
     (ac (bB IX rfl (cN Ψ) (al (ap (HH cq 3) (HJ cq 3) y39.nd)) (ac (bD (IB 2 cq) Ψ)
     (af (Hq cq y39.nd (DL.Hi Ψ)))))
     (af (dz (IB 2 cq)))))
abbrev XX:Jb:=Iu 37
theorem SM:ma ["_law_number","_law_many","_law_letters","_law_found","_law_digits_here","_law_word"] ["_law_number","_law_many"] (ab XX):=Iv χ
theorem bO:bU (ab XX) ["_law_number","_law_many","_law_letters","_law_found","_law_digits_here","_law_word"]=D:=χ
theorem q88:aw (ab XX) "range"=D:=χ
theorem y128(T:Txt P w K mg)(θ:Ho K mg "_law_names" XX ["_law_number","_law_many"])(Y:G9 P w K mg base "_law_digits" 1 ["_law_number","_law_sizes"] (Ha K 2 (Of))):G9 P w K mg base "_law_names" 2 ["_law_number","_law_many"] (Ha K 2 US):=
 aU θ SM rfl λf Hv A outer s H E q=>(ac (Hq bO SM.nd (DL.Hi eJ))
     (ac (Hq bO SM.nd (cK br))
     (ac (cB 100000 IX Ψ (ac (Hq bO SM.nd (DL.Hi Ψ))
     (ac (Hq bO SM.nd (DL.Hi (DO.IT (Ac (DL.Hu eJ) (cA (DO.Hu (Kl ["_law_k","_law_letters","_law_digits_here"] (by kernel_rfl) (LP.Hu (bC q88 T.Hy Ψ)) (λ_ _ _ _=>bH) (λ_ _ _ _=>Ψ))) da)))))
     (ac (Hq bO SM.nd (DL.Hi (DO.IT (aV eR iA Ψ (DO.Hu (aV vN BC (DL.Hu aO) (DO.Hu (aV im kR (DL.Hu aO) (DL.Hu aO)))))))))
     (ac (cB 100000 IX Ψ (af (Hq bO SM.nd (DL.Hi (DO.IT (aV dA ib Ψ (DO.Hu (rp q Ψ (DO.Hu (aV kw pP (DO.Hu (aV dA ib (DO.Hu (xK Ψ Ψ)) (DL.Hu aO))) (DL.Hu aO)))))))))))
     (af (bD (IB 3 bO) Ψ)))))))
     (af (dz (IB 3 bO))))))
abbrev XY:Jb:=Iu 38
theorem z9:ma ["_law_script","_law_number","_law_count","_law_more","_law_many","_law_things","_law_cells","_law_k","_law_shelves"] ["_law_script"] (ab XY):=Iv χ
theorem aB:bU (ab XY) ["_law_script","_law_number","_law_count","_law_more","_law_many","_law_things","_law_cells","_law_k","_law_shelves"]=D:=χ
theorem y51:aw (ab XY) "range"=D:=χ
theorem z132(T:Txt P w K mg)(θ:Ho K mg "_law_world" XY ["_law_script"])(UX:G9 P w K mg base "_law_big" 2 ["_law_script","_law_k"] (Ha K 2 (OT)))(q:G9 P w K mg base "_law_cell_at" 1 ["_law_script","_law_k"] (Ha K 2 (y2)))(XZ:G9 P w K mg base "_law_digits" 1 ["_law_number","_law_sizes"] (Ha K 2 (Of)))(q91:G9 P w K mg base "_law_names" 2 ["_law_number","_law_many"] (Ha K 2 (US))):G9 P w K mg base "_law_world" 3 ["_law_script"] (Ha K 1 Og):=
 aU θ z9 rfl λf Hv A outer s H E Y=>(ac (Hq aB z9.nd (DL.Hi Ψ))
     (ac (jo Ψ (rD rfl (av (al (ap (HH aB 2) (HJ aB 2) z9.nd)) (av (al (ap (HH aB 3) (HJ aB 3) z9.nd)) (av (al (ap (HH aB 4) (HJ aB 4) z9.nd)) cQ)))))
     (ac (Hq aB z9.nd (DL.Hi Ψ))
     (ac (Hq aB z9.nd (DL.Hi Ψ))
     (ac (Hq aB z9.nd (cK br))
     (ac (bB IX rfl (bC y51 T.Hy Ψ) (al (ap (HH aB 7) (HJ aB 7) z9.nd)) (ac (bD (IB 6 aB) (DO.IT (kP (aE Ψ (aE (DO.IT (aV kw pP Ψ (DO.Hu (aV im kR (DL.Hu aO) (DL.Hu aO))))) (aE (DO.IT (dP (oE Y) z0 (DO.Hu (aV kw pP (DO.Hu (aV eR iA Ψ (DO.Hu (aV im kR (DL.Hu aO) (DL.Hu aO))))) (DL.Hu aO))) (DL.Hu aO) (bL _))) br))))))
     (af (Hq aB z9.nd (DL.Hi (DO.IT (aV eR iA Ψ (DO.Hu (aV im kR (DL.Hu aO) (DL.Hu aO))))))))))
     (ac (Hq aB z9.nd (cK br))
     (ac (bB IX rfl (bC y51 T.Hy Ψ) (al (ap (HH aB 7) (HJ aB 7) z9.nd)) (ac (bD (IB 8 aB) Ψ)
     (af (Hq aB z9.nd (DL.Hi Ψ)))))
     (af (ak Ψ))))))))))
abbrev U0:Jb:=Iu 43
theorem X0:ma ["_law_script","_law_boxes","_law_cells","_law_shelves","_law_rest"] ["_law_script"] (ab U0):=Iv χ
theorem b8:bU (ab U0) ["_law_script","_law_boxes","_law_cells","_law_shelves","_law_rest"]=D:=χ
theorem y88:aw (ab U0) "sorted"=D:=χ
theorem z105:aw (ab U0) "set"=D:=χ
theorem z133(T:Txt P w K mg)(θ:Ho K mg "_law_pool" U0 ["_law_script"])(q:G9 P w K mg base "_law_world" 3 ["_law_script"] (Ha K 1 (Og))):G9 P w K mg base "_law_pool" 4 ["_law_script"] (Ha K 1 Xx):=
 aU θ X0 rfl λf Hv A outer s H E Y=>(ac (jo Ψ (fq rfl (av (al (ap (HH b8 1) (HJ b8 1) X0.nd)) (av (al (ap (HH b8 2) (HJ b8 2) X0.nd)) (av (al (ap (HH b8 3) (HJ b8 3) X0.nd)) (av (al (ap (HH b8 4) (HJ b8 4) X0.nd)) cQ))))))
     (af (ak (lj y88 z105 rfl T.Ke T.Ny (cA (DO.Hu (aV dA ib (DO.Hu (aV dA ib Ψ (DO.Hu (Kl ["_law_one"] (by kernel_rfl) (aK Ψ) (λ_ _ _ _=>bH) (λ_ _ _ _=>Ψ))))) Ψ)) da)))))
abbrev U1:Jb:=Iu 59
theorem Qr:ma ["_law_script","_law_program_here","_law_boxes","_law_code_here","_law_way","_law_number","_law_every","_law_places_here","_law_some_here","_law_keeps"] ["_law_script","_law_program_here","_law_boxes"] (ab U1):=Iv χ
theorem bE:bU (ab U1) ["_law_script","_law_program_here","_law_boxes","_law_code_here","_law_way","_law_number","_law_every","_law_places_here","_law_some_here","_law_keeps"]=D:=χ
theorem z93:aw (ab U1) "tuple"=D:=χ
theorem y133(T:Txt P w K mg)(θ:Ho K mg "_law_code" U1 ["_law_script","_law_program_here","_law_boxes"])(UY:G9 P w K mg base "_law_cell_at" 1 ["_law_script","_law_k"] (Ha K 2 (y2)))(Y:G9 P w K mg base "_law_cutting" 3 ["_law_script","_law_program_here","_law_pool_here"] (Ha K 3 (Xv)))(z83:G9 P w K mg base "_law_places" 2 ["_law_program_here"] (Ha K 1 (Xw)))(q:G9 P w K mg base "_law_pool" 4 ["_law_script"] (Ha K 1 (Xx))):G9 P w K mg base "_law_code" 5 ["_law_script","_law_program_here","_law_boxes"] (Ha K 3 Xy):=
 aU θ Qr rfl λf Hv A outer s H E hr=>(ac (Hq bE Qr.nd (DL.Hi Ψ))
     (ac (Hq bE Qr.nd (DL.Hi Ψ))
     (ac (Hq bE Qr.nd (DL.Hi Ψ))
     (ac (Hq bE Qr.nd (DL.Hi Ψ))
     (ac (Hq bE Qr.nd (DL.Hi Ψ))
     (ac (ay Ψ (af (dz (IB 3 bE))) aq)
     (ac (ay Ψ (ac (Hq bE Qr.nd (DL.Hi (DO.IT (Kl ["_law_box","_law_boxes","_law_number"] (by kernel_rfl) (aK Ψ) (λ_ _ _ _=>bu Ψ) (λ_ _ _ _=>Ψ)))))
     (ac (cX (HH bE 9) (HJ bE 9) Qr.nd (M:=["_law_at","_law_number","_law_every","_law_places_here","_law_some_here"]) (src:=[V,O 5,O 6,O 7,O 8]) (ts:=[0]) (G4.of (by kernel_rfl)) rfl (aK Ψ) (λnd _ _ _ _=>(al (bw (N:=["_law_at","_law_number","_law_every","_law_places_here","_law_some_here"]) (i:=0) χ χ nd (K7 (outer:=ab U1) (by exact rfl))))) (λ_ _ _ _=>bH) (λ_ _ _ _=>Ψ) χ)
     (af (ak Ψ)))) aq)
     (ac (ay Ψ (af (Hq bE Qr.nd (DL.Hi (DO.IT (Kl ["_law_at","_law_number","_law_places_here"] (by kernel_rfl) (aK Ψ) (λ_ _ _ _=>bu Ψ) (λ_ _ _ _=>Ψ)))))) aq)
     (af (ak (kP (aE Ψ (aE (DO.IT (db z93 fj oH T.Kf iJ (cA (DO.Hu (Kl ["_law_at","_law_every"] (by kernel_rfl) (aK Ψ) (λ_ _ _ _=>bH) (λ_ _ _ _=>Ψ))) da))) br)))))))))))))
abbrev U2:Jb:=Iu 50
theorem X1:ma ["_law_rows","_law_keeps","_law_start","_law_seen","_law_left","_law_to"] ["_law_rows","_law_keeps"] (ab U2):=Iv χ
theorem aP:bU (ab U2) ["_law_rows","_law_keeps","_law_start","_law_seen","_law_left","_law_to"]=D:=χ
theorem y65:aw (ab U2) "range"=D:=χ
theorem y50:aw (ab U2) "_law_exits"=D:=χ
theorem q90(T:Txt P w K mg)(θ:Ho K mg "_law_goes_round" U2 ["_law_rows","_law_keeps"])(Y:G9 P w K mg base "_law_exits" 1 ["_law_rows","_law_at"] (Ha K 2 (y1))):G9 P w K mg base "_law_goes_round" 2 ["_law_rows","_law_keeps"] (Ha K 2 z26):=
 aU θ X1 rfl λf Hv A outer s H E q=>(ac (bB IX rfl (bC y65 T.Hy Ψ) (al (ap (HH aP 2) (HJ aP 2) X1.nd)) (ac (Hq aP X1.nd j7)
     (ac (Hq aP X1.nd Ψ)
     (af (cB 100000 IX Ψ (af (AD IX rfl y50 Y (q.mono Ω) Ψ (IB 4 aP) (al (ap (HH aP 5) (HJ aP 5) X1.nd)) (ac (ay Ψ (af (ak (DL.Hi bG))) aq)
     (af (ay Ψ (ac (iz q (IB 3 aP) Ψ bG)
     (af (bD (IB 4 aP) Ψ))) aq))))))))))
     (af (ak (DL.Hi bG))))
abbrev X2:Jb:=Iu 45
theorem SN:ma ["_law_row_here","_law_atoms"] ["_law_row_here"] (ab X2):=Iv χ
theorem bW:bU (ab X2) ["_law_row_here","_law_atoms"]=D:=χ
theorem z110(T:Txt P w K mg)(θ:Ho K mg "_law_read_by" X2 ["_law_row_here"]):G9 P w K mg base "_law_read_by" 1 ["_law_row_here"] (Ha K 1 SF):=
 aU θ SN rfl λf Hv A outer s H E q=>(ac (Hq bW SN.nd (DL.Hi Ψ))
     (ac (ay Ψ (af (Hq bW SN.nd (DL.Hi Ψ))) aq)
     (ac (ay Ψ (af (Hq bW SN.nd (DL.Hi Ψ))) aq)
     (ac (ay Ψ (af (Hq bW SN.nd (DL.Hi Ψ))) aq)
     (ac (ay Ψ (af (Hq bW SN.nd (DL.Hi Ψ))) aq)
     (ac (ay Ψ (af (Hq bW SN.nd (DL.Hi Ψ))) aq)
     (af (ak (Kl ["_law_atom"] (by kernel_rfl) (aK Ψ) (λ_ _ _ _=>bu (bp (DO.Hu (bV χ χ T.He T.Mn oe T.Mo Ψ (e1:=(K7 (outer:=ab X2) rfl)))) (λ_=>rfl))) (λ_ _ _ _=>Ψ))))))))))
abbrev q59:Jb:=Iu 46
theorem y120:ma ["_law_row_here"] ["_law_row_here"] (ab q59):=Iv χ
theorem z119(T:Txt P w K mg)(θ:Ho K mg "_law_set_by" q59 ["_law_row_here"]):G9 P w K mg base "_law_set_by" 1 ["_law_row_here"] (Ha K 1 SG):=
 aU θ y120 rfl λf Hv A outer s H E q=>(ac (ay Ψ (af (ak Ψ)) aq)
     (af (ak (DL.Hi dm))))
abbrev y32:Jb:=Iu 52
theorem X3:ma ["_law_rows","_law_at","_law_box","_law_seen","_law_left","_law_here","_law_to"] ["_law_rows","_law_at","_law_box"] (ab y32):=Iv χ
theorem aT:bU (ab y32) ["_law_rows","_law_at","_law_box","_law_seen","_law_left","_law_here","_law_to"]=D:=χ
theorem q98(T:Txt P w K mg)(θ:Ho K mg "_law_is_needed" y32 ["_law_rows","_law_at","_law_box"])(z5:G9 P w K mg base "_law_exits" 1 ["_law_rows","_law_at"] (Ha K 2 (y1)))(q39:G9 P w K mg base "_law_read_by" 1 ["_law_row_here"] (Ha K 1 (SF)))(q:G9 P w K mg base "_law_set_by" 1 ["_law_row_here"] (Ha K 1 (SG))):G9 P w K mg base "_law_is_needed" 2 ["_law_rows","_law_at","_law_box"] (Ha K 3 Xz):=
 aU θ X3 rfl λf Hv A outer s H E Y=>(ac (Hq aT X3.nd (Al (xa Ψ bG Ak) rfl rfl Ω Ω))
     (ac (Hq aT X3.nd Ψ)
     (ac (cB 100000 IX Ψ (ac (xX (HH aT 5) (HJ aT 5) X3.nd (IB 4 aT))
     (ac (ay Ψ (af (ak (DL.Hi bG))) aq)
     (af (ay Ψ (af (bB IX rfl (cN Ψ) (al (ap (HH aT 6) (HJ aT 6) X3.nd)) (af (ay Ψ (ac (iz Y (IB 3 aT) Ψ bG)
     (af (bD (IB 4 aT) Ψ))) aq)))) aq)))))
     (af (ak (DL.Hi bG))))))
abbrev X4:Jb:=Iu 53
theorem z58:ma ["_law_rows","_law_code_here","_law_boxes","_law_at","_law_told"] ["_law_rows","_law_code_here","_law_boxes"] (ab X4):=Iv χ
theorem dB:bU (ab X4) ["_law_rows","_law_code_here","_law_boxes","_law_at","_law_told"]=D:=χ
theorem z95:aw (ab X4) "list"=D:=χ
theorem q130(T:Txt P w K mg)(θ:Ho K mg "_law_lacks" X4 ["_law_rows","_law_code_here","_law_boxes"])(Y:G9 P w K mg base "_law_is_needed" 2 ["_law_rows","_law_at","_law_box"] (Ha K 3 (Xz))):G9 P w K mg base "_law_lacks" 3 ["_law_rows","_law_code_here","_law_boxes"] (Ha K 3 UT):=
 aU θ z58 rfl λf Hv A outer s H E q=>(ac (bB IX rfl (cN (DO.IT (aV dA ib Ψ (DO.Hu (db z95 iG wU T.Iy dw Ψ))))) (fq rfl (av (al (ap (HH dB 3) (HJ dB 3) z58.nd)) (av (al (ap (HH dB 4) (HJ dB 4) z58.nd)) cQ))) (af (ay (dq (jp q) uQ (DO.Hu (Kl ["_law_box","_law_rows","_law_at","_law_told"] (by kernel_rfl) (aK Ψ) (λ_ _ _ _=>bu Ψ) (λ_ _ _ _=>Ψ))) Ψ (bL _)) (af (ak (DL.Hi bG))) aq)))
     (af (ak (DL.Hi bG))))
abbrev X5:Jb:=Iu 56
theorem z35:ma ["_law_rows","_law_keeps","_law_starts","_law_name","_law_seen","_law_left","_law_at"] ["_law_rows","_law_keeps","_law_starts","_law_name"] (ab X5):=Iv χ
theorem bJ:bU (ab X5) ["_law_rows","_law_keeps","_law_starts","_law_name","_law_seen","_law_left","_law_at"]=D:=χ
theorem z47:aw (ab X5) "list"=D:=χ
theorem q112(T:Txt P w K mg)(θ:Ho K mg "_law_reached" X5 ["_law_rows","_law_keeps","_law_starts","_law_name"])(Y:G9 P w K mg base "_law_exits" 1 ["_law_rows","_law_at"] (Ha K 2 (y1))):G9 P w K mg base "_law_reached" 2 ["_law_rows","_law_keeps","_law_starts","_law_name"] (Ha K 4 XA):=
 aU θ z35 rfl λf Hv A outer s H E q=>(ac (Hq bJ z35.nd j7)
     (ac (Hq bJ z35.nd (db z47 iG wU T.Iy dw Ψ))
     (ac (cB 100000 IX Ψ (ac (xX (HH bJ 6) (HJ bJ 6) z35.nd (IB 5 bJ))
     (af (ay Ψ (ac (iz q (IB 4 bJ) Ψ bG)
     (af (ay Ψ (af (jy (IB 5 bJ) (Kl ["_law_to","_law_keeps"] (by kernel_rfl) (aK Ψ) (λ_ _ _ _=>bu Ψ) (λ_ _ _ _=>Ψ)))) aq))) aq))))
     (af (ak (db z47 (fU rfl) ke T.Iy dw Ψ))))))
abbrev U3:Jb:=Iu 57
theorem z55:ma ["_law_rows","_law_keeps","_law_name","_law_starts","_law_at"] ["_law_rows","_law_keeps","_law_name"] (ab U3):=Iv χ
theorem c7:bU (ab U3) ["_law_rows","_law_keeps","_law_name","_law_starts","_law_at"]=D:=χ
theorem z104:aw (ab U3) "list"=D:=χ
theorem y36:aw (ab U3) "_law_reached"=D:=χ
theorem z143(T:Txt P w K mg)(θ:Ho K mg "_law_may" U3 ["_law_rows","_law_keeps","_law_name"])(z5:G9 P w K mg base "_law_exits" 1 ["_law_rows","_law_at"] (Ha K 2 (y1)))(q:G9 P w K mg base "_law_reached" 2 ["_law_rows","_law_keeps","_law_starts","_law_name"] (Ha K 4 (XA))):G9 P w K mg base "_law_may" 3 ["_law_rows","_law_keeps","_law_name"] (Ha K 3 y59):=
 aU θ z55 rfl λf Hv A outer s H E Y=>(ac (Hq c7 z55.nd (cK br))
     (ac (bB IX rfl (cN (DO.IT (cL y36 q (Y.mono Ω) (aE Ψ (aE Ψ (aE (DO.IT (aV dA ib Ψ (DO.Hu (db z104 (fU rfl) ke T.Iy dw Ψ)))) (aE Ψ br))))))) (al (ap (HH c7 4) (HJ c7 4) z55.nd)) (af (ay Ψ (af (jy (IB 3 c7) (Kl ["_law_to","_law_keeps"] (by kernel_rfl) (aK Ψ) (λ_ _ _ _=>bu Ψ) (λ_ _ _ _=>Ψ)))) aq)))
     (ac (oB (i:=3) (bB IX rfl (cN (DO.IT (cL y36 q (Y.mono Ω) Ψ))) (al (ap (HH c7 4) (HJ c7 4) z55.nd)) (af (ay Ψ (af (ak (DL.Hi bG))) aq))))
     (af (ak (DL.Hi bG))))))
abbrev SO:Jb:=Iu 60
theorem U4:ma ["_law_program_here","_law_code_here","_law_boxes","_law_rows","_law_keeps","_law_at","_law_told"] ["_law_program_here","_law_code_here","_law_boxes"] (ab SO):=Iv χ
theorem b9:bU (ab SO) ["_law_program_here","_law_code_here","_law_boxes","_law_rows","_law_keeps","_law_at","_law_told"]=D:=χ
theorem q100:aw (ab SO) "range"=D:=χ
theorem y56:aw (ab SO) "_law_goes_round"=D:=χ
theorem y80:aw (ab SO) "_law_may"=D:=χ
theorem y142(T:Txt P w K mg)(θ:Ho K mg "_law_due" SO ["_law_program_here","_law_code_here","_law_boxes"])(Y:G9 P w K mg base "_law_goes_round" 2 ["_law_rows","_law_keeps"] (Ha K 2 (z26)))(y89:G9 P w K mg base "_law_lacks" 3 ["_law_rows","_law_code_here","_law_boxes"] (Ha K 3 (UT)))(q81:G9 P w K mg base "_law_may" 3 ["_law_rows","_law_keeps","_law_name"] (Ha K 3 (y59))):G9 P w K mg base "_law_due" 4 ["_law_program_here","_law_code_here","_law_boxes"] (Ha K 3 XB):=
 aU θ U4 rfl λf Hv A outer s H E q=>(ac (Hq b9 U4.nd (DL.Hi Ψ))
     (ac (Hq b9 U4.nd j7)
     (ac (bB IX rfl (cN Ψ) (fq rfl (av (al (ap (HH b9 5) (HJ b9 5) U4.nd)) (av (al (ap (HH b9 6) (HJ b9 6) U4.nd)) cQ))) (af (iz q (IB 4 b9) Ψ bG)))
     (ac (ay (dq (jp q) uQ (DO.Hu (Kl ["_law_at","_law_rows","_law_keeps"] (by kernel_rfl) (LP.Hu (bC q100 T.Hy Ψ)) (λ_ _ _ _=>bu Ψ) (λ_ _ _ _=>Ψ))) Ψ (bL _)) (af (ak (DL.Hi eJ))) aq)
     (ac (ay (bp (DO.Hu (mL y56 Y (q.mono Ω) Ψ)) (λ_=>rfl)) (af (ak (DL.Hi eJ))) aq)
     (ac (bB IX rfl (cN Ψ) (al (ap (HH b9 6) (HJ b9 6) U4.nd)) (af (ay (DW.t (ou Ψ (oq (bp (DO.Hu (mL y80 q81 (q.mono Ω) Ψ)) (λ_=>rfl))))) (af (ak (DL.Hi eJ))) aq)))
     (ac (ay Ψ (af (ak (DL.Hi eJ))) aq)
     (af (ak (DL.Hi eJ))))))))))
abbrev U5:Jb:=Iu 47
theorem y126:ma ["_law_found"] ["_law_found"] (ab U5):=Iv χ
theorem q36:aw (ab U5) "isinstance"=D:=χ
theorem z89:aw (ab U5) "bool"=D:=χ
theorem q99:aw (ab U5) "int"=D:=χ
theorem z127(T:Txt P w K mg)(θ:Ho K mg "_law_whole" U5 ["_law_found"]):G9 P w K mg base "_law_whole" 1 ["_law_found"] (Ha K 1 Px):=aU θ y126 rfl λf Hv A outer s H E q=>(af (ak (kO (DO.Hu (bV q36 q99 T.He T.OW wo T.Rm Ψ)) (oA (wF (DO.Hu (bV q36 z89 T.He T.LR og T.LS Ψ)))))))
abbrev z7:Jb:=Iu 54
theorem SQ:ma ["_law_rows","_law_code_here","_law_found","_law_box","_law_way","_law_begin","_law_places_here","_law_k"] ["_law_rows","_law_code_here","_law_found"] (ab z7):=Iv χ
theorem aI:bU (ab z7) ["_law_rows","_law_code_here","_law_found","_law_box","_law_way","_law_begin","_law_places_here","_law_k"]=D:=χ
theorem z20:aw (ab z7) "isinstance"=D:=χ
theorem y81:aw (ab z7) "list"=D:=χ
theorem y86:aw (ab z7) "str"=D:=χ
theorem z81:aw (ab z7) "bool"=D:=χ
theorem z86:aw (ab z7) "all"=D:=χ
theorem q75:aw (ab z7) "range"=D:=χ
theorem y114(T:Txt P w K mg)(θ:Ho K mg "_law_is_lost" z7 ["_law_rows","_law_code_here","_law_found"])(z5:G9 P w K mg base "_law_exits" 1 ["_law_rows","_law_at"] (Ha K 2 (y1)))(q39:G9 P w K mg base "_law_read_by" 1 ["_law_row_here"] (Ha K 1 (SF)))(Y:G9 P w K mg base "_law_set_by" 1 ["_law_row_here"] (Ha K 1 (SG)))(U6:G9 P w K mg base "_law_whole" 1 ["_law_found"] (Ha K 1 (Px))):G9 P w K mg base "_law_is_lost" 2 ["_law_rows","_law_code_here","_law_found"] (Ha K 3 XC):=
 aU θ SQ rfl λf Hv A outer s H E hr=>(ac (ay (DW.t (eY Ψ (eY (dQ (bp (DO.Hu (bV z20 y86 T.He T.Mn oe T.Mo Ψ)) (λ_=>rfl))) (eY (dQ (bp (DO.Hu (bV z20 y81 T.He T.Iy dw T.LU Ψ)) (λ_=>rfl))) (gB Ψ))))) (af (ak (DL.Hi bG))) aq)
     (ac (jo Ψ (fq rfl (av (al (ap (HH aI 3) (HJ aI 3) SQ.nd)) (av (al (ap (HH aI 4) (HJ aI 4) SQ.nd)) (av (al (ap (HH aI 5) (HJ aI 5) SQ.nd)) cQ)))))
     (ac (ay (DW.t (eY (dQ (bp (DO.Hu (cV z86 (gv rfl) (kX (f:=λbs=>bs.all id)) T.LB kH (cA (DO.Hu (Kl ["_law_at"] (by kernel_rfl) (aK Ψ) (λ_ _ _ _=>bH) (λ_ _ _ _=>Ψ))) da))) (λ_=>rfl))) (gB (dQ (bp (DO.Hu (bV z20 z81 T.He T.LR og T.LS Ψ)) (λ_=>rfl)))))) (af (ak (DL.Hi bG))) aq)
     (ac (cX (HH aI 6) (HJ aI 6) SQ.nd (M:=["_law_at","_law_told","_law_way"]) (src:=[V,V,O 4]) (ts:=[0,1]) (G4.of (by kernel_rfl)) rfl (aK Ψ) (λq _ _ _ _=>(fq rfl (av (al (bw (N:=["_law_at","_law_told","_law_way"]) (i:=0) χ χ q (K7 (outer:=ab z7) (by exact rfl)))) (av (al (bw (N:=["_law_at","_law_told","_law_way"]) (i:=1) χ χ q (K7 (outer:=ab z7) (by exact rfl)))) cQ)))) (λ_ _ _ _=>bu Ψ) (λ_ _ _ _=>Ψ) χ)
     (ac (ay Ψ (af (cX (HH aI 6) (HJ aI 6) SQ.nd (M:=["_law_told","_law_way"]) (src:=[V,O 4]) (ts:=[0]) (G4.of (by kernel_rfl)) rfl (aK Ψ) (λq _ _ _ _=>(al (bw (N:=["_law_told","_law_way"]) (i:=0) χ χ q (K7 (outer:=ab z7) (by exact rfl))))) (λ_ _ _ _=>bu Ψ) (λ_ _ _ _=>Ψ) χ)) aq)
     (ac (ay Ψ (af (ak (DL.Hi bG))) aq)
     (ac (bB IX rfl (bC q75 T.Hy Ψ) (al (ap (HH aI 7) (HJ aI 7) SQ.nd)) (af (ay Ψ (af (ak (DL.Hi bG))) aq)))
     (af (ak (DL.Hi bG))))))))))
abbrev Rn:Jb:=Iu 48
theorem z61:ma ["_law_rows","_law_keeps","_law_way","_law_k"] ["_law_rows","_law_keeps","_law_way"] (ab Rn):=Iv χ
theorem fH:bU (ab Rn) ["_law_rows","_law_keeps","_law_way","_law_k"]=D:=χ
theorem q80:aw (ab Rn) "all"=D:=χ
theorem z57:aw (ab Rn) "isinstance"=D:=χ
theorem z76:aw (ab Rn) "list"=D:=χ
theorem z70:aw (ab Rn) "range"=D:=χ
theorem q104(T:Txt P w K mg)(θ:Ho K mg "_law_is_piece" Rn ["_law_rows","_law_keeps","_law_way"])(Y:G9 P w K mg base "_law_exits" 1 ["_law_rows","_law_at"] (Ha K 2 (y1)))(q:G9 P w K mg base "_law_whole" 1 ["_law_found"] (Ha K 1 (Px))):G9 P w K mg base "_law_is_piece" 2 ["_law_rows","_law_keeps","_law_way"] (Ha K 3 XD):=
 aU θ z61 rfl λf Hv A outer s H E hr=>(ac (ay (DW.t (eY (dQ (bp (DO.Hu (bV z57 z76 T.He T.Iy dw T.LU Ψ)) (λ_=>rfl))) (eY Ψ (gB (dQ (bp (DO.Hu (cV q80 (gv rfl) (kX (f:=λbs=>bs.all id)) T.LB kH (cA (DO.Hu (Kl ["_law_at"] (by kernel_rfl) (aK Ψ) (λ_ _ _ _=>bH) (λ_ _ _ _=>Ψ))) da))) (λ_=>rfl))))))) (af (ak (DL.Hi bG))) aq)
     (ac (ay Ψ (af (ak (DL.Hi bG))) aq)
     (ac (bB IX rfl (mD z70 T.Hy Ψ) (al (ap (HH fH 3) (HJ fH 3) z61.nd)) (af (ay Ψ (af (ak (DL.Hi bG))) aq)))
     (af (ak (DL.Hi bG))))))
abbrev Qs:Jb:=Iu 51
theorem z115:ma ["_law_rows","_law_keeps","_law_way"] ["_law_rows","_law_keeps","_law_way"] (ab Qs):=Iv χ
theorem q51:aw (ab Qs) "all"=D:=χ
theorem y58:aw (ab Qs) "isinstance"=D:=χ
theorem q82:aw (ab Qs) "list"=D:=χ
theorem q85:aw (ab Qs) "len"=D:=χ
theorem z85:aw (ab Qs) "set"=D:=χ
theorem y73:aw (ab Qs) "range"=D:=χ
theorem y112(T:Txt P w K mg)(θ:Ho K mg "_law_is_ring" Qs ["_law_rows","_law_keeps","_law_way"])(z5:G9 P w K mg base "_law_exits" 1 ["_law_rows","_law_at"] (Ha K 2 (y1)))(Y:G9 P w K mg base "_law_whole" 1 ["_law_found"] (Ha K 1 (Px))):G9 P w K mg base "_law_is_ring" 2 ["_law_rows","_law_keeps","_law_way"] (Ha K 3 XE):=
 aU θ z115 rfl λf Hv A outer s H E q=>(ac (ay (DW.t (eY (dQ (bp (DO.Hu (bV y58 q82 T.He T.Iy dw T.LU Ψ)) (λ_=>rfl))) (eY Ψ (gB (dQ (bp (DO.Hu (cV q51 (gv rfl) (kX (f:=λbs=>bs.all id)) T.LB kH (cA (DO.Hu (Kl ["_law_at"] (by kernel_rfl) (aK Ψ) (λ_ _ _ _=>bH) (λ_ _ _ _=>Ψ))) da))) (λ_=>rfl))))))) (af (ak (DL.Hi bG))) aq)
     (ac (ay (DW.t (eY (dq (jp q) uQ (DO.Hu (rX q85 z85 rfl T.OX T.Ny Ψ)) Ψ (bL _)) (gB (dq (jp q) uQ (DO.Hu (Kl ["_law_at","_law_keeps"] (by kernel_rfl) (aK Ψ) (λ_ _ _ _=>bu Ψ) (λ_ _ _ _=>Ψ))) Ψ (bL _))))) (af (ak (DL.Hi bG))) aq)
     (af (ak (cV q51 (gv rfl) (kX (f:=λbs=>bs.all id)) T.LB kH (cA (DO.Hu (Kl ["_law_k","_law_rows","_law_way"] (by kernel_rfl) (LP.Hu (bC y73 T.Hy Ψ)) (λ_ _ _ _=>bH) (λ_ _ _ _=>Ψ))) da))))))
abbrev SR:Jb:=Iu 49
theorem q52:ma ["_law_rows","_law_way","_law_name","_law_shelf","_law_taken","_law_put"] ["_law_rows","_law_way","_law_name","_law_shelf"] (ab SR):=Iv χ
theorem dg:bU (ab SR) ["_law_rows","_law_way","_law_name","_law_shelf","_law_taken","_law_put"]=D:=χ
theorem q48:aw (ab SR) "range"=D:=χ
theorem q121(T:Txt P w K mg)(θ:Ho K mg "_law_spoils" SR ["_law_rows","_law_way","_law_name","_law_shelf"]):G9 P w K mg base "_law_spoils" 1 ["_law_rows","_law_way","_law_name","_law_shelf"] (Ha K 4 XF):=
 aU θ q52 rfl λf Hv A outer s H E Y=>(ac (cX (HH dg 4) (HJ dg 4) q52.nd (M:=["_law_k","_law_rows","_law_way","_law_name"]) (src:=[V,O 0,O 1,O 2]) (ts:=[0]) (G4.of (by kernel_rfl)) rfl (LP.Hu (bC q48 T.Hy Ψ)) (λq _ _ _ _=>(al (bw (N:=["_law_k","_law_rows","_law_way","_law_name"]) (i:=0) χ χ q (K7 (outer:=ab SR) (by exact rfl))))) (λ_ _ _ _=>bu Ψ) (λ_ _ _ _=>Ψ) χ)
     (ac (cX (HH dg 5) (HJ dg 5) q52.nd (M:=["_law_k","_law_rows","_law_way","_law_name"]) (src:=[V,O 0,O 1,O 2]) (ts:=[0]) (G4.of (by kernel_rfl)) rfl (LP.Hu (bC q48 T.Hy Ψ)) (λq _ _ _ _=>(al (bw (N:=["_law_k","_law_rows","_law_way","_law_name"]) (i:=0) χ χ q (K7 (outer:=ab SR) (by exact rfl))))) (λ_ _ _ _=>bu Ψ) (λ_ _ _ _=>Ψ) χ)
     (ac (ay Ψ (af (ak (DL.Hi bG))) aq)
     (af (ak Ψ)))))
abbrev y9:Jb:=Iu 55
theorem X6:ma ["_law_program_here","_law_code_here","_law_found","_law_rows","_law_keeps","_law_here","_law_things"] ["_law_program_here","_law_code_here","_law_found"] (ab y9):=Iv χ
theorem bQ:bU (ab y9) ["_law_program_here","_law_code_here","_law_found","_law_rows","_law_keeps","_law_here","_law_things"]=D:=χ
theorem y31:aw (ab y9) "isinstance"=D:=χ
theorem z82:aw (ab y9) "str"=D:=χ
theorem q70:aw (ab y9) "tuple"=D:=χ
theorem y53:aw (ab y9) "_law_spoils"=D:=χ
theorem q107(T:Txt P w K mg)(θ:Ho K mg "_law_is_fault" y9 ["_law_program_here","_law_code_here","_law_found"])(q74:G9 P w K mg base "_law_is_lost" 2 ["_law_rows","_law_code_here","_law_found"] (Ha K 3 (XC)))(q68:G9 P w K mg base "_law_is_piece" 2 ["_law_rows","_law_keeps","_law_way"] (Ha K 3 (XD)))(y76:G9 P w K mg base "_law_is_ring" 2 ["_law_rows","_law_keeps","_law_way"] (Ha K 3 (XE)))(Y:G9 P w K mg base "_law_spoils" 1 ["_law_rows","_law_way","_law_name","_law_shelf"] (Ha K 4 (XF)))(U6:G9 P w K mg base "_law_whole" 1 ["_law_found"] (Ha K 1 (Px))):G9 P w K mg base "_law_is_fault" 3 ["_law_program_here","_law_code_here","_law_found"] (Ha K 3 UU):=
 aU θ X6 rfl λf Hv A outer s H E hr=>(ac (Hq bQ X6.nd (DL.Hi Ψ))
     (ac (cX (HH bQ 4) (HJ bQ 4) X6.nd (M:=["_law_at","_law_told"]) (src:=[V,V]) (ts:=[0,1]) (G4.of (by kernel_rfl)) rfl (aK Ψ) (λq _ _ _ _=>(fq rfl (av (al (bw (N:=["_law_at","_law_told"]) (i:=0) χ χ q (K7 (outer:=ab y9) (by exact rfl)))) (av (al (bw (N:=["_law_at","_law_told"]) (i:=1) χ χ q (K7 (outer:=ab y9) (by exact rfl)))) cQ)))) (λ_ _ _ _=>bH) (λ_ _ _ _=>Ψ) χ)
     (ac (ay (DW.t (eY (dQ (bp (DO.Hu (bV y31 q70 T.He T.Kf iJ T.Nz Ψ)) (λ_=>rfl))) (eY Ψ (gB (dQ (bp (DO.Hu (bV y31 z82 T.He T.Mn oe T.Mo Ψ)) (λ_=>rfl))))))) (af (ak (DL.Hi bG))) aq)
     (ac (ay Ψ (ac (Hq bQ X6.nd (DL.Hi (DO.IT (kO Ψ (kO Ψ (oA (wR vQ ic vP ic (DL.Hu aO) Ψ Ψ)))))))
     (af (ak Ψ))) aq)
     (ac (ay Ψ (af (ak Ψ)) aq)
     (ac (ay Ψ (af (ak Ψ)) aq)
     (ac (cX (HH bQ 6) (HJ bQ 6) X6.nd (M:=["_law_told","_law_found"]) (src:=[V,O 2]) (ts:=[0]) (G4.of (by kernel_rfl)) rfl (aK Ψ) (λq _ _ _ _=>(al (bw (N:=["_law_told","_law_found"]) (i:=0) χ χ q (K7 (outer:=ab y9) (by exact rfl))))) (λ_ _ _ _=>bu Ψ) (λ_ _ _ _=>Ψ) χ)
     (ac (ay Ψ (af (ak (DL.Hi bG))) aq)
     (af (ak (kO Ψ (oA (cL y53 Y (hr.mono Ω) (aE Ψ (aE Ψ (aE Ψ (aE (DO.IT (dP (x9 hr rfl) BP Ψ Ψ (by with_unfolding_all rfl))) br)))))))))))))))))
abbrev U7:Jb:=Iu 39
theorem z6:ma ["_law_number","_law_world_here","_law_many","_law_boxes","_law_cells","_law_shelves","_law_rest","_law_sizes","_law_kind","_law_x","_law_c","_law_f","_law_sign","_law_goal","_law_size","_law_atoms","_law_one","_law_other","_law_some_here"] ["_law_number","_law_world_here","_law_many"] (ab U7):=Iv χ
theorem au:bU (ab U7) ["_law_number","_law_world_here","_law_many","_law_boxes","_law_cells","_law_shelves","_law_rest","_law_sizes","_law_kind","_law_x","_law_c","_law_f","_law_sign","_law_goal","_law_size","_law_atoms","_law_one","_law_other","_law_some_here"]=D:=χ
theorem y69:aw (ab U7) "max"=D:=χ
theorem y66:aw (ab U7) "_law_digits"=D:=χ
theorem y141(T:Txt P w K mg)(θ:Ho K mg "_law_row" U7 ["_law_number","_law_world_here","_law_many"])(q:G9 P w K mg base "_law_digits" 1 ["_law_number","_law_sizes"] (Ha K 2 (Of))):G9 P w K mg base "_law_row" 2 ["_law_number","_law_world_here","_law_many"] (Ha K 3 XG):=
 aU θ z6 rfl λf Hv A outer s H E Y=>(ac (jo Ψ (fq rfl (av (al (ap (HH au 3) (HJ au 3) z6.nd)) (av (al (ap (HH au 4) (HJ au 4) z6.nd)) (av (al (ap (HH au 5) (HJ au 5) z6.nd)) (av (al (ap (HH au 6) (HJ au 6) z6.nd)) cQ))))))
     (ac (Hq au z6.nd (DL.Hi (DO.IT (cK (aE aO (aE Ψ (aE (DO.IT (cV y69 (jx rfl) xH T.Nx rb Ψ)) (aE (DO.IT (cV y69 (jx rfl) xH T.Nx rb Ψ)) (aE aO (aE Ψ br))))))))))
     (ac (jo Ψ (rD rfl (av (al (ap (HH au 8) (HJ au 8) z6.nd)) (av (al (ap (HH au 9) (HJ au 9) z6.nd)) (av (al (ap (HH au 10) (HJ au 10) z6.nd)) (av (al (ap (HH au 11) (HJ au 11) z6.nd)) (av (al (ap (HH au 12) (HJ au 12) z6.nd)) (av (al (ap (HH au 13) (HJ au 13) z6.nd)) cQ))))))))
     (ac (bB IX rfl (cN Ψ) (al (ap (HH au 14) (HJ au 14) z6.nd)) (af (Hq au z6.nd (DL.Hi Ψ))))
     (ac (Hq au z6.nd (DL.Hi (DO.IT (cL y66 q (Y.mono Ω) (aE Ψ (aE (DO.IT (cK (aE Ψ (aE (DO.IT (aV im kR (DL.Hu aO) (DL.Hu aO))) (aE Ψ (aE (DO.IT (aV im kR (DL.Hu aO) (DL.Hu aO))) br)))))) br))))))
     (ac (Hq au z6.nd (DL.Hi Ψ))
     (ac (Hq au z6.nd (DL.Hi Ψ))
     (ac (ay Ψ (af (ak Ψ)) aq)
     (ac (ay Ψ (af (ak Ψ)) aq)
     (ac (ay Ψ (af (ak Ψ)) aq)
     (ac (Hq au z6.nd (DL.Hi Ψ))
     (ac (ay Ψ (af (ak Ψ)) aq)
     (af (ak Ψ))))))))))))))
abbrev Qt:Jb:=Iu 40
theorem Ro:ma ["_law_script","_law_most","_law_world_here","_law_many","_law_rows","_law_last","_law_goal","_law_box","_law_number"] ["_law_script","_law_most"] (ab Qt):=Iv χ
theorem aF:bU (ab Qt) ["_law_script","_law_most","_law_world_here","_law_many","_law_rows","_law_last","_law_goal","_law_box","_law_number"]=D:=χ
theorem z87:aw (ab Qt) "min"=D:=χ
theorem q87:aw (ab Qt) "max"=D:=χ
theorem z75:aw (ab Qt) "range"=D:=χ
theorem q57:aw (ab Qt) "_law_digits"=D:=χ
theorem z111(T:Txt P w K mg)(θ:Ho K mg "_law_program" Qt ["_law_script","_law_most"])(UX:G9 P w K mg base "_law_big" 2 ["_law_script","_law_k"] (Ha K 2 (OT)))(q:G9 P w K mg base "_law_digits" 1 ["_law_number","_law_sizes"] (Ha K 2 (Of)))(Y:G9 P w K mg base "_law_row" 2 ["_law_number","_law_world_here","_law_many"] (Ha K 3 (XG)))(X7:G9 P w K mg base "_law_world" 3 ["_law_script"] (Ha K 1 (Og))):G9 P w K mg base "_law_program" 4 ["_law_script","_law_most"] (Ha K 2 XH):=
 aU θ Ro rfl λf Hv A outer s H E hr=>(ac (Hq aF Ro.nd (DL.Hi Ψ))
     (ac (Hq aF Ro.nd (DL.Hi (DO.IT (cV q87 (jx rfl) xH T.Nx rb (cA (DL.Hu aO) (cA (DO.Hu (cV z87 (uV rfl) Gs T.Rl Dk Ψ)) da))))))
     (ac (Ah (HH aF 4) (HJ aF 4) Ro.nd (M:=["_law_k","_law_script","_law_world_here","_law_many"]) (src:=[V,O 0,O 2,O 3]) (ts:=[0]) (G4.of (by kernel_rfl)) rfl (LP.Hu (bC z75 T.Hy Ψ)) (λnd _ _ _ _=>(al (bw (N:=["_law_k","_law_script","_law_world_here","_law_many"]) (i:=0) χ χ nd (K7 (outer:=ab Qt) (by exact rfl))))) (λ_ _ _ _=>bH) (λ_ _ _ _=>Ψ) χ)
     (ac (jo (DO.IT (cL q57 q (hr.mono Ω) (aE Ψ (aE (DO.IT (cK (aE aO (aE Ψ (aE Ψ (aE (DO.IT (aV im kR (DL.Hu aO) (DL.Hu aO))) br)))))) br)))) (rD rfl (av (al (ap (HH aF 5) (HJ aF 5) Ro.nd)) (av (al (ap (HH aF 6) (HJ aF 6) Ro.nd)) (av (al (ap (HH aF 7) (HJ aF 7) Ro.nd)) (av (al (ap (HH aF 8) (HJ aF 8) Ro.nd)) cQ))))))
     (ac (bD (IB 4 aF) Ψ)
     (af (ak Ψ)))))))
abbrev z71:Jb:=Iu 19
theorem y135:ma ["code"] ["code"] (ab z71):=Iv χ
theorem z137(T:Txt P w K mg)(θ:Ho K mg "kept_rows" z71 ["code"]):G9 P w K mg base "kept_rows" 1 ["code"] (Ha K 1 OU):=aU θ y135 rfl λf Hv A outer s H E q=>(af (ak (Kl ["keep"] (by kernel_rfl) (aK Ψ) (λ_ _ _ _=>bH) (λ_ _ _ _=>Ψ))))
abbrev X8:Jb:=Iu 24
theorem q50:ma ["program","code","kept","number","row"] ["program","code"] (ab X8):=Iv χ
theorem dh:bU (ab X8) ["program","code","kept","number","row"]=D:=χ
theorem y70:aw (ab X8) "enumerate"=D:=χ
theorem y137(T:Txt P w K mg)(θ:Ho K mg "end_fault" X8 ["program","code"])(q:G9 P w K mg base "kept_rows" 1 ["code"] (Ha K 1 (OU))):G9 P w K mg base "end_fault" 2 ["program","code"] (Ha K 2 y55):=
 aU θ q50 rfl λf Hv A outer s H E Y=>(ac (Hq dh q50.nd (DL.Hi Ψ))
     (ac (bB IX rfl (iW y70 T.Jp Ψ) (fq rfl (av (al (ap (HH dh 3) (HJ dh 3) q50.nd)) (av (al (ap (HH dh 4) (HJ dh 4) q50.nd)) cQ))) (af (ay Ψ (af (ak Ψ)) aq)))
     (af (ak (DL.Hi dm)))))
abbrev Ej:Jb:=Iu 10
theorem z152:ma ["row"] ["row"] (ab Ej):=Iv χ
theorem y153(T:Txt P w K mg)(θ:Ho K mg "gives" Ej ["row"]):G9 P w K mg base "gives" 1 ["row"] (Ha K 1 UV):=aU θ z152 rfl λf Hv A outer s H E q=>(af (ak Ψ))
abbrev X9:Jb:=Iu 8
theorem Yb:ma ["row","bounds"] ["row"] (ab X9):=Iv χ
theorem yh:bU (ab X9) ["row","bounds"]=D:=χ
theorem y46:aw (ab X9) "ATOM_PLACES"=D:=χ
theorem z151(T:Txt P w K mg)(θ:Ho K mg "atoms" X9 ["row"]):G9 P w K mg base "atoms" 1 ["row"] (Ha K 1 y95):=
 aU θ Yb rfl λf Hv A outer s H E q=>(ac (ay (DH y46 T.g_A Ψ) (af (ak (kP br))) aq)
     (ac (Hq yh Yb.nd (DL.Hi (DO.IT (Gp y46 T.g_A Ψ))))
     (af (ak Ψ))))
abbrev U8:Jb:=Iu 9
theorem SS:ma ["row","boxes","atom"] ["row"] (ab U8):=Iv χ
theorem gI:bU (ab U8) ["row","boxes","atom"]=D:=χ
theorem y85:aw (ab U8) "isinstance"=D:=χ
theorem z141:aw (ab U8) "str"=D:=χ
theorem y152(T:Txt P w K mg)(θ:Ho K mg "reads" U8 ["row"])(q:G9 P w K mg base "atoms" 1 ["row"] (Ha K 1 (y95))):G9 P w K mg base "reads" 2 ["row"] (Ha K 1 SH):=
 aU θ SS rfl λf Hv A outer s H E Y=>(ac (Hq gI SS.nd (cK br))
     (ac (bB IX rfl (cN Ψ) (al (ap (HH gI 2) (HJ gI 2) SS.nd)) (af (ay (DW.t (ou (bp (DO.Hu (bV y85 z141 T.He T.Mn oe T.Mo Ψ)) (λ_=>rfl)) (oq Ψ))) (af (bD (IB 1 gI) Ψ)) aq)))
     (af (dz (IB 1 gI)))))
abbrev U9:Jb:=Iu 11
theorem z46:ma ["row","behind","boxes","later"] ["row","behind"] (ab U9):=Iv χ
theorem c4:bU (ab U9) ["row","behind","boxes","later"]=D:=χ
theorem q72:aw (ab U9) "sorted"=D:=χ
theorem y84:aw (ab U9) "set"=D:=χ
theorem q115(T:Txt P w K mg)(θ:Ho K mg "needed_ahead" U9 ["row","behind"])(Y:G9 P w K mg base "gives" 1 ["row"] (Ha K 1 (UV)))(q:G9 P w K mg base "reads" 2 ["row"] (Ha K 1 (SH))):G9 P w K mg base "needed_ahead" 3 ["row","behind"] (Ha K 2 XI):=
 aU θ z46 rfl λf Hv A outer s H E hr=>(ac (Hq c4 z46.nd Ψ)
     (ac (bB IX rfl (cN Ψ) (al (ap (HH c4 3) (HJ c4 3) z46.nd)) (af (jy (IB 2 c4) (Kl ["box","row"] (by kernel_rfl) (aK Ψ) (λ_ _ _ _=>bu Ψ) (λ_ _ _ _=>Ψ)))))
     (af (ak (lj q72 y84 rfl T.Ke T.Ny Ψ)))))
abbrev z94:Jb:=Iu 1
theorem y144:ma ["number","row"] ["number","row"] (ab z94):=Iv χ
theorem y145(T:Txt P w K mg)(θ:Ho K mg "ways_of" z94 ["number","row"]):G9 P w K mg base "ways_of" 1 ["number","row"] (Ha K 2 z69):=
 aU θ y144 rfl λf Hv A outer s H E q=>(ac (ay Ψ (af (ak Ψ)) aq)
     (ac (ay Ψ (af (ak Ψ)) aq)
     (ac (ay Ψ (af (ak (kP br))) aq)
     (af (ak Ψ)))))
abbrev jB:Jb:=Iu 2
theorem q155:ma ["program"] ["program"] (ab jB):=Iv χ
theorem y98:aw (ab jB) "enumerate"=D:=χ
theorem y154(T:Txt P w K mg)(θ:Ho K mg "ways" jB ["program"])(q:G9 P w K mg base "ways_of" 1 ["number","row"] (Ha K 2 (z69))):G9 P w K mg base "ways" 2 ["program"] (Ha K 1 eU):=aU θ q155 rfl λf Hv A outer s H E hr=>(af (ak (j5 (M:=["number","row"]) (src:=[V,V]) (ts:=[0,1]) (G4.of (by kernel_rfl)) rfl (LP.Hu (iW y98 T.Jp Ψ)) (λY _ _ _ _=>(fq rfl (av (al (bw (N:=["number","row"]) (i:=0) χ χ Y (K7 (outer:=ab jB) (by exact rfl)))) (av (al (bw (N:=["number","row"]) (i:=1) χ χ Y (K7 (outer:=ab jB) (by exact rfl)))) cQ)))) (λ_ _ _ _=>bH) (λ_ _ _ _=>Ψ) χ)))
abbrev Va:Jb:=Iu 12
theorem Qu:ma ["program","rows","onward","found","changed","number","boxes"] ["program"] (ab Va):=Iv χ
theorem cr:bU (ab Va) ["program","rows","onward","found","changed","number","boxes"]=D:=χ
theorem q111:aw (ab Va) "range"=D:=χ
theorem z72:aw (ab Va) "needed_ahead"=D:=χ
theorem q150(T:Txt P w K mg)(θ:Ho K mg "needed" Va ["program"])(Y:G9 P w K mg base "needed_ahead" 3 ["row","behind"] (Ha K 2 (XI)))(q:G9 P w K mg base "ways" 2 ["program"] (Ha K 1 (eU))):G9 P w K mg base "needed" 4 ["program"] (Ha K 1 XM):=
 aU θ Qu rfl λf Hv A outer s H E hr=>(ac (Hq cr Qu.nd (DL.Hi Ψ))
     (ac (Hq cr Qu.nd (DL.Hi Ψ))
     (ac (Hq cr Qu.nd (Kl ["row"] (by kernel_rfl) (aK Ψ) (λ_ _ _ _=>bH) (λ_ _ _ _=>Ψ)))
     (ac (Hq cr Qu.nd (DL.Hi bG))
     (ac (cB 100000 IX Ψ (ac (Hq cr Qu.nd (DL.Hi bG))
     (af (bB IX rfl (u3 q111 T.Hy Ψ) (al (ap (HH cr 5) (HJ cr 5) Qu.nd)) (ac (Hq cr Qu.nd (DL.Hi (DO.IT (cL z72 Y (hr.mono Ω) (aE Ψ (aE (DO.IT (Kl ["way","found"] (by kernel_rfl) (aK Ψ) (λ_ _ _ _=>bH) (λ_ _ _ _=>Ψ))) br))))))
     (af (ay Ψ (ac (iz hr (IB 3 cr) Ψ Ψ)
     (af (Hq cr Qu.nd (DL.Hi bG)))) aq)))))))
     (af (dz (IB 3 cr))))))))
abbrev Vb:Jb:=Iu 3
theorem y68:ma ["came_from","last","places","here"] ["came_from","last"] (ab Vb):=Iv χ
theorem g9:bU (ab Vb) ["came_from","last","places","here"]=D:=χ
theorem z120:aw (ab Vb) "list"=D:=χ
theorem q93:aw (ab Vb) "reversed"=D:=χ
theorem z149(T:Txt P w K mg)(θ:Ho K mg "traced" Vb ["came_from","last"]):G9 P w K mg base "traced" 1 ["came_from","last"] (Ha K 2 Ei):=
 aU θ y68 rfl λf Hv A outer s H E q=>(ac (Hq g9 y68.nd (cK br))
     (ac (Hq g9 y68.nd (DL.Hi Ψ))
     (ac (cB 100000 IX Ψ (ac (bD (IB 2 g9) Ψ)
     (af (Hq g9 y68.nd (DL.Hi Ψ)))))
     (af (ak (lq z120 q93 T.Iy T.JL rfl Ψ))))))
abbrev Vc:Jb:=Iu 4
theorem Rp:ma ["starts","behind","fits","came_from","start","queue","looked","here","there"] ["starts","behind","fits"] (ab Vc):=Iv χ
theorem bR:bU (ab Vc) ["starts","behind","fits","came_from","start","queue","looked","here","there"]=D:=χ
theorem z131:aw (ab Vc) "list"=D:=χ
theorem y110:aw (ab Vc) "traced"=D:=χ
theorem z153(T:Txt P w K mg)(θ:Ho K mg "route" Vc ["starts","behind","fits"])(q:G9 P w K mg base "traced" 1 ["came_from","last"] (Ha K 2 (Ei))):G9 P w K mg base "route" 4 ["starts","behind","fits"] (UN P w K mg base 3 z96):=
 xg θ Rp rfl λf Hv A outer s H E Y σ hG=>(ac (Hq bR Rp.nd j7)
     (ac (bB IX rfl (cN Ψ) (al (ap (HH bR 4) (HJ bR 4) Rp.nd)) (af (iz Y (IB 3 bR) Ψ dm)))
     (ac (Hq bR Rp.nd (db z131 (fU rfl) ke T.Iy dw Ψ))
     (ac (Hq bR Rp.nd (DL.Hi aO))
     (ac (cB 100000 IX Ψ (ac (Hq bR Rp.nd (DL.Hi Ψ))
     (ac (kY (HH bR 6) (HJ bR 6) Rp.nd (DL.Hu aO))
     (ac (ay (bp (DO.Hu (j8 (IB 2 bR) hG (Y.mono Ω) Ψ)) (λ_=>rfl)) (af (oB (i:=3) (ak (cL y110 q (Y.mono Ω) Ψ)))) aq)
     (af (bB IX rfl (cN (DO.IT (j8 (IB 1 bR) hG (Y.mono Ω) Ψ))) (al (ap (HH bR 8) (HJ bR 8) Rp.nd)) (af (ay Ψ (ac (iz Y (IB 3 bR) Ψ Ψ)
     (af (bD (IB 5 bR) Ψ))) aq))))))))
     (af (ak (DL.Hi dm))))))))
abbrev y3:Jb:=Iu 28
theorem Yc:ma ["program","start","box","rows","onward","behind","fits"] ["program","start","box"] (ab y3):=Iv χ
theorem aZ:bU (ab y3) ["program","start","box","rows","onward","behind","fits"]=D:=χ
theorem q66:aw (ab y3) "route"=D:=χ
abbrev z66:Jb:=(aH y3).getD 2 (.Pass ⟨0,0,0,0⟩)
theorem q23:Od (ab y3) ["program","start","box","rows","onward","behind","fits"] ["row","box","rows","onward"] ["row"] ["box","rows","onward"] [2,3,4] (ab z66):=Od.of χ
abbrev z74:Jb:=(aH y3).getD 3 (.Pass ⟨0,0,0,0⟩)
theorem q26:Od (ab y3) ["program","start","box","rows","onward","behind","fits"] ["row","box","rows"] ["row"] ["box","rows"] [2,3] (ab z74):=Od.of χ
theorem y100(T:Txt P w K mg)(θ:MZ K mg "way_to_reading" y3 ["program","start","box"] c)(B:Ll mg base c Pt)(hT:(Pt,kt "way_to_reading" (aH y3))∈c6 K)(q97:G9 P w K mg base "gives" 1 ["row"] (Ha K 1 (UV)))(z97:G9 P w K mg base "reads" 2 ["row"] (Ha K 1 (SH)))(q:G9 P w K mg base "route" 4 ["starts","behind","fits"] (UN P w K mg base 3 z96))(Y:G9 P w K mg base "ways" 2 ["program"] (Ha K 1 (eU))):G9 P w K mg base "way_to_reading" 5 ["program","start","box"] (Ha K 3 (XN)):=
 xM θ Yc rfl λf A outer s H E hr=>(ac (Hq aZ Yc.nd (DL.Hi Ψ))
     (ac (Hq aZ Yc.nd (DL.Hi Ψ))
     (p6 (i1:=5) (i2:=6) Ω (xL (NX:=["program","start","box","rows","onward","behind","fits"]) rfl) (ka (qual:="way_to_reading.<locals>.behind") (HH aZ 5) (HJ aZ 5) Yc.nd q23 B hT χ) (ka (qual:="way_to_reading.<locals>.fits") (HH aZ 6) (HJ aZ 6) Yc.nd q26 B hT χ)
     (sN (Ap (BM (i1:=5) (i2:=6) q (hr.mono Ω) (NO q66) (λ_=>rfl) Ψ (IB 5 aZ) (IB 6 aZ) (JC.of q23 (λs cl doc pm IM cd us hl=>match us,hl with|[_],_=>.of_eq rfl) λf c' cl A outer s H hr=>(af (ak Ψ))) (JC.of q26 (λs cl doc pm IM cd us hl=>match us,hl with|[_],_=>.of_eq rfl) λf c' cl A outer s H hr=>(af (ak Ψ))) q23.all q26.all))))))
abbrev q49:Jb:=Iu 29
theorem SU:ma ["program","code","wanted","places","start","boxes","begin","box"] ["program","code"] (ab q49):=Iv χ
theorem bj:bU (ab q49) ["program","code","wanted","places","start","boxes","begin","box"]=D:=χ
theorem z126(T:Txt P w K mg)(θ:Ho K mg "lost_fault" q49 ["program","code"])(q:G9 P w K mg base "needed" 4 ["program"] (Ha K 1 (XM)))(Y:G9 P w K mg base "way_to_reading" 5 ["program","start","box"] (Ha K 3 (XN))):G9 P w K mg base "lost_fault" 6 ["program","code"] (Ha K 2 q47):=
 aU θ SU rfl λf Hv A outer s H E hr=>(ac (Hq bj SU.nd (DL.Hi Ψ))
     (ac (Hq bj SU.nd (DL.Hi (DO.IT (aV dA ib Ψ (DO.Hu (Kl ["keep"] (by kernel_rfl) (aK Ψ) (λ_ _ _ _=>bH) (λ_ _ _ _=>Ψ)))))))
     (ac (bB IX rfl (cN Ψ) (fq rfl (av (al (ap (HH bj 4) (HJ bj 4) SU.nd)) (av (al (ap (HH bj 5) (HJ bj 5) SU.nd)) (av (al (ap (HH bj 6) (HJ bj 6) SU.nd)) cQ)))) (af (bB IX rfl (cN Ψ) (al (ap (HH bj 7) (HJ bj 7) SU.nd)) (af (ay Ψ (af (ak (BS (yf eJ (yf Ψ (BR Ψ Ψ)))))) aq)))))
     (af (ak (DL.Hi dm))))))
abbrev SV:Jb:=Iu 25
theorem Vd:ma ["onward","rows","left","fewer","staying"] ["onward","rows"] (ab SV):=Iv χ
theorem bK:bU (ab SV) ["onward","rows","left","fewer","staying"]=D:=χ
theorem q110(T:Txt P w K mg)(θ:Ho K mg "endless_rows" SV ["onward","rows"]):G9 P w K mg base "endless_rows" 1 ["onward","rows"] (Ha K 2 XO):=
 aU θ Vd rfl λf Hv A outer s H E Y=>(ac (Hq bK Vd.nd (DL.Hi Ψ))
     (ac (Hq bK Vd.nd (DL.Hi bG))
     (ac (cB 100000 IX Ψ (ac (cX (HH bK 4) (HJ bK 4) Vd.nd (M:=["row","onward","left"]) (src:=[V,O 0,O 2]) (ts:=[0]) (G4.of (by kernel_rfl)) rfl (aK Ψ) (λq _ _ _ _=>(al (bw (N:=["row","onward","left"]) (i:=0) χ χ q (K7 (outer:=ab SV) (by exact rfl))))) (λ_ _ _ _=>bu (bp (DO.Hu (cV χ (pI rfl) (kX (f:=λbs=>bs.any id)) T.OV wn (cA (DO.Hu (j5 (M:=["way","left"]) (src:=[V,O 2]) (ts:=[0]) (G4.of (by kernel_rfl)) rfl (aK Ψ) (λq _ _ _ _=>(al (bw (N:=["way","left"]) (i:=0) χ χ q (K7 (K7 (outer:=ab SV) (by exact rfl)))))) (λ_ _ _ _=>bH) (λ_ _ _ _=>Ψ) χ)) da) (e1:=(K7 (outer:=ab SV) rfl)))) (λ_=>rfl))) (λ_ _ _ _=>Ψ) χ)
     (ac (Hq bK Vd.nd (DL.Hi Ψ))
     (af (Hq bK Vd.nd (DL.Hi Ψ))))))
     (af (dz (IB 2 bK))))))
abbrev Ve:Jb:=Iu 26
theorem SW:ma ["program","code","kept","onward","endless","walked","here"] ["program","code"] (ab Ve):=Iv χ
theorem ce:bU (ab Ve) ["program","code","kept","onward","endless","walked","here"]=D:=χ
theorem y87:aw (ab Ve) "range"=D:=χ
theorem q58:aw (ab Ve) "endless_rows"=D:=χ
theorem q132(T:Txt P w K mg)(θ:Ho K mg "ring_fault" Ve ["program","code"])(Y:G9 P w K mg base "endless_rows" 1 ["onward","rows"] (Ha K 2 (XO)))(Vf:G9 P w K mg base "kept_rows" 1 ["code"] (Ha K 1 (OU)))(q:G9 P w K mg base "ways" 2 ["program"] (Ha K 1 (eU))):G9 P w K mg base "ring_fault" 3 ["program","code"] (Ha K 2 z48):=
 aU θ SW rfl λf Hv A outer s H E hr=>(ac (Hq ce SW.nd (DL.Hi Ψ))
     (ac (Hq ce SW.nd (DL.Hi Ψ))
     (ac (Hq ce SW.nd (DL.Hi (DO.IT (cL q58 Y (hr.mono Ω) (aE Ψ (aE (DO.IT (Kl ["row","kept"] (by kernel_rfl) (LP.Hu (bC y87 T.Hy Ψ)) (λ_ _ _ _=>bu Ψ) (λ_ _ _ _=>Ψ))) br))))))
     (ac (ay Ψ (af (ak (DL.Hi dm))) aq)
     (ac (Hq ce SW.nd (cK br))
     (ac (Hq ce SW.nd (DL.Hi Ψ))
     (ac (cB 100000 IX Ψ (ac (bD (IB 5 ce) Ψ)
     (af (Hq ce SW.nd (DL.Hi (DO.IT (rp hr (DO.Hu (Kl ["way","endless"] (by kernel_rfl) (aK Ψ) (λ_ _ _ _=>bu Ψ) (λ_ _ _ _=>Ψ))) (DL.Hu aO))))))))
     (af (ak (BS (yf eJ (BR (pT Ψ (tE (DO.Hu (vf Ψ Ψ))) tD) br))))))))))))
abbrev z59:Jb:=Iu 18
theorem q120:ma ["program"] ["program"] (ab z59):=Iv χ
theorem y124(T:Txt P w K mg)(θ:Ho K mg "plain_names" z59 ["program"]):G9 P w K mg base "plain_names" 1 ["program"] (Ha K 1 SI):=aU θ q120 rfl λf Hv A outer s H E q=>(af (ak (Kl ["head"] (by kernel_rfl) (aK Ψ) (λ_ _ _ _=>bu Ψ) (λ_ _ _ _=>Ψ))))
abbrev Yd:Jb:=Iu 20
theorem y82:ma ["program","code","kept"] ["program","code"] (ab Yd):=Iv χ
theorem l9:bU (ab Yd) ["program","code","kept"]=D:=χ
theorem y129(T:Txt P w K mg)(θ:Ho K mg "inner_ways" Yd ["program","code"])(Y:G9 P w K mg base "kept_rows" 1 ["code"] (Ha K 1 (OU)))(q:G9 P w K mg base "ways" 2 ["program"] (Ha K 1 (eU))):G9 P w K mg base "inner_ways" 3 ["program","code"] (Ha K 2 XQ):=
 aU θ y82 rfl λf Hv A outer s H E hr=>(ac (Hq l9 y82.nd (DL.Hi Ψ))
     (af (ak (Kl ["onward","kept"] (by kernel_rfl) (aK Ψ) (λ_ _ _ _=>bH) (λ_ _ _ _=>(DO.IT (j5 (M:=["way","kept"]) (src:=[V,O 1]) (ts:=[0]) (G4.of (by kernel_rfl)) rfl (aK Ψ) (λnd _ _ _ _=>(al (bw (N:=["way","kept"]) (i:=0) χ χ nd (K7 (K7 (outer:=ab Yd) (by exact rfl)))))) (λ_ _ _ _=>bu Ψ) (λ_ _ _ _=>Ψ) χ)))))))
abbrev y43:Jb:=Iu 21
theorem y119:ma ["mark","row","name"] ["mark","row","name"] (ab y43):=Iv χ
theorem lD:bU (ab y43) ["mark","row","name"]=D:=χ
theorem z117(T:Txt P w K mg)(θ:Ho K mg "mark_behind" y43 ["mark","row","name"]):G9 P w K mg base "mark_behind" 1 ["mark","row","name"] (Ha K 3 UW):=
 aU θ y119 rfl λf Hv A outer s H E q=>(ac (ay Ψ (af (ak Ψ)) aq)
     (ac (ay Ψ (af (ak Ψ)) aq)
     (ac (ay Ψ (af (ak Ψ)) aq)
     (af (dz (IB 0 lD))))))
abbrev Vg:Jb:=Iu 3
theorem z50:ma ["came_from","last","places","here"] ["came_from","last"] (ab Vg):=Iv χ
theorem d7:bU (ab Vg) ["came_from","last","places","here"]=D:=χ
theorem z98:aw (ab Vg) "list"=D:=χ
theorem y72:aw (ab Vg) "reversed"=D:=χ
theorem z140(T:Txt P w K mg)(θ:Ho K mg "traced" Vg ["came_from","last"]):G9 P w K mg base "traced" 1 ["came_from","last"] (Ha K 2 y71):=
 aU θ z50 rfl λf Hv A outer s H E q=>(ac (Hq d7 z50.nd (cK br))
     (ac (Hq d7 z50.nd (DL.Hi Ψ))
     (ac (cB 100000 IX Ψ (ac (bD (IB 2 d7) Ψ)
     (af (Hq d7 z50.nd (DL.Hi (DO.IT (DX T.is q Ψ Ψ)))))))
     (af (ak (lq z98 y72 T.Iy T.JL rfl Ψ))))))
abbrev Vh:Jb:=Iu 4
theorem Rq:ma ["starts","behind","fits","came_from","start","queue","looked","here","there"] ["starts","behind","fits"] (ab Vh):=Iv χ
theorem aW:bU (ab Vh) ["starts","behind","fits","came_from","start","queue","looked","here","there"]=D:=χ
theorem y107:aw (ab Vh) "list"=D:=χ
theorem y74:aw (ab Vh) "traced"=D:=χ
theorem y143(T:Txt P w K mg)(θ:Ho K mg "route" Vh ["starts","behind","fits"])(Y:G9 P w K mg base "traced" 1 ["came_from","last"] (Ha K 2 (y71))):G9 P w K mg base "route" 4 ["starts","behind","fits"] (UN P w K mg base 3 q60):=
 xg θ Rq rfl λf Hv A outer s H E q σ hG=>(ac (Hq aW Rq.nd xT)
     (ac (bB IX rfl (cN Ψ) (al (ap (HH aW 4) (HJ aW 4) Rq.nd)) (af (tV T.is q (IB 3 aW) Ψ dm)))
     (ac (Hq aW Rq.nd (db y107 (fU rfl) ke T.Iy dw Ψ))
     (ac (Hq aW Rq.nd (DL.Hi aO))
     (ac (cB 100000 IX Ψ (ac (Hq aW Rq.nd (DL.Hi Ψ))
     (ac (kY (HH aW 6) (HJ aW 6) Rq.nd (DL.Hu aO))
     (ac (ay (bp (DO.Hu (j8 (IB 2 aW) hG (q.mono Ω) Ψ)) (λ_=>rfl)) (af (oB (i:=3) (ak (cL y74 Y (q.mono Ω) Ψ)))) aq)
     (af (bB IX rfl (cN (DO.IT (j8 (IB 1 aW) hG (q.mono Ω) Ψ))) (al (ap (HH aW 8) (HJ aW 8) Rq.nd)) (af (ay (DY T.is q Ψ Ψ) (ac (tV T.is q (IB 3 aW) Ψ Ψ)
     (af (bD (IB 5 aW) Ψ))) aq))))))))
     (af (ak (DL.Hi dm))))))))
abbrev NW:Jb:=Iu 22
theorem Vi:ma ["program","code","name","rows","inner","behind","spoils","found"] ["program","code","name"] (ab NW):=Iv χ
theorem cF:bU (ab NW) ["program","code","name","rows","inner","behind","spoils","found"]=D:=χ
theorem y94:aw (ab NW) "route"=D:=χ
abbrev y48:Jb:=(aH NW).getD 3 (.Pass ⟨0,0,0,0⟩)
theorem z32:Od (ab NW) ["program","code","name","rows","inner","behind","spoils","found"] ["place","mark","name","rows","inner"] ["place"] ["name","rows","inner"] [2,3,4] (ab y48):=Od.of χ
theorem q95:dl (ab y48) ["place","mark","name","rows","inner"] 1 "mark"=D:=χ
theorem y92:ip (ab y48) "mark"=D:=χ
abbrev y115:Jb:=(aH NW).getD 4 (.Pass ⟨0,0,0,0⟩)
theorem y45:Od (ab NW) ["program","code","name","rows","inner","behind","spoils","found"] ["place","name","rows"] ["place"] ["name","rows"] [2,3] (ab y115):=Od.of χ
theorem y149(T:Txt P w K mg)(θ:MZ K mg "spoilt" NW ["program","code","name"] c)(B:Ll mg base c Pt)(hT:(Pt,kt "spoilt" (aH NW))∈c6 K)(y93:G9 P w K mg base "inner_ways" 3 ["program","code"] (Ha K 2 (XQ)))(Vf:G9 P w K mg base "kept_rows" 1 ["code"] (Ha K 1 (OU)))(q83:G9 P w K mg base "mark_behind" 1 ["mark","row","name"] (Ha K 3 (UW)))(q45:G9 P w K mg base "plain_names" 1 ["program"] (Ha K 1 (SI)))(z80:G9 P w K mg base "route" 4 ["starts","behind","fits"] (UN P w K mg base 3 q60)):G9 P w K mg base "spoilt" 5 ["program","code","name"] (Ha K 3 (XR)):=
 xM θ Vi rfl λf A outer s H E q=>(ac (ay Ψ (af (ak (DL.Hi dm))) aq)
     (ac (Hq cF Vi.nd (DL.Hi Ψ))
     (ac (Hq cF Vi.nd (DL.Hi Ψ))
     (p6 (i1:=5) (i2:=6) Ω (xL (NX:=["program","code","name","rows","inner","behind","spoils","found"]) rfl) (ka (qual:="spoilt.<locals>.behind") (HH cF 5) (HJ cF 5) Vi.nd z32 B hT χ) (ka (qual:="spoilt.<locals>.spoils") (HH cF 6) (HJ cF 6) Vi.nd y45 B hT χ)
     (xp (Aq (HH cF 7) (HJ cF 7) Vi.nd (BM (i1:=5) (i2:=6) z80 (q.mono Ω) (NO y94) (λ_=>rfl) (DO.IT (Kl ["row"] (by kernel_rfl) (aK (DO.Hu (aV dA ib Ψ Ψ))) (λ_ _ _ _=>bH) (λ_ _ _ _=>Ψ))) (IB 5 cF) (IB 6 cF) (JC.of z32 (λs cl doc pm IM cd us Y=>match us,Y with|[_],_=>.of_eq rfl) λf c' cl A outer s H q=>(ac (wI q95 y92 z32.nd (DL.Hi Ψ))
     (af (ak (wG Ψ (cK br) (Kl ["way","mark"] (by kernel_rfl) (aK Ψ) (λ_ _ _ _=>bH) (λ_ _ _ _=>Ψ))))))) (JC.of y45 (λs cl doc pm IM cd us Y=>match us,Y with|[_],_=>.of_eq rfl) λf c' cl A outer s H q=>(af (ak Ψ))) z32.all y45.all))
     (af (ak (wG Ψ (DL.Hi dm) (Kl ["place"] (by kernel_rfl) (aK Ψ) (λ_ _ _ _=>bH) (λ_ _ _ _=>Ψ))))))))))
abbrev q44:Jb:=Iu 27
theorem z54:ma ["program","code","name","rows"] ["program","code"] (ab q44):=Iv χ
theorem di:bU (ab q44) ["program","code","name","rows"]=D:=χ
theorem z121(T:Txt P w K mg)(θ:Ho K mg "spoil_fault" q44 ["program","code"])(Y:G9 P w K mg base "plain_names" 1 ["program"] (Ha K 1 (SI)))(q:G9 P w K mg base "spoilt" 5 ["program","code","name"] (Ha K 3 (XR))):G9 P w K mg base "spoil_fault" 6 ["program","code"] (Ha K 2 z44):=
 aU θ z54 rfl λf Hv A outer s H E hr=>(ac (bB IX rfl (cN Ψ) (al (ap (HH di 2) (HJ di 2) z54.nd)) (ac (Hq di z54.nd Ψ)
     (af (ay Ψ (af (Eg (tZ eJ (tZ Ψ (Ee (IB 3 di)))))) aq))))
     (af (ak (DL.Hi dm))))
abbrev q96:Jb:=Iu 30
theorem Ye:ma ["program","code","found"] ["program","code"] (ab q96):=Iv χ
theorem gJ:bU (ab q96) ["program","code","found"]=D:=χ
theorem q152(T:Txt P w K mg)(θ:Ho K mg "fault" q96 ["program","code"])(q:G9 P w K mg base "end_fault" 2 ["program","code"] (Ha K 2 (y55)))(Y:G9 P w K mg base "lost_fault" 6 ["program","code"] (Ha K 2 (q47)))(q89:G9 P w K mg base "ring_fault" 3 ["program","code"] (Ha K 2 (z48)))(q84:G9 P w K mg base "spoil_fault" 6 ["program","code"] (Ha K 2 (z44))):G9 P w K mg base "fault" 7 ["program","code"] (Ha K 2 Qq):=
 aU θ Ye rfl λf Hv A outer s H E hr=>(ac (Hq gJ Ye.nd Ψ)
     (ac (ay (oY 2 Ψ) (af (Hq gJ Ye.nd Ψ)) aq)
     (ac (ay (oY 2 Ψ) (af (Hq gJ Ye.nd Ψ)) aq)
     (ac (ay (oY 2 Ψ) (af (Hq gJ Ye.nd Ψ)) aq)
     (af (dz (IB 2 gJ)))))))
abbrev y96:Jb:=Iu 31
theorem q153:ma ["program","code"] ["program","code"] (ab y96):=Iv χ
theorem q125:aw (ab y96) "fault"=D:=χ
theorem y151(T:Txt P w K mg)(θ:Ho K mg "holds" y96 ["program","code"])(q:G9 P w K mg base "fault" 7 ["program","code"] (Ha K 2 (Qq))):G9 P w K mg base "holds" 8 ["program","code"] (Ha K 2 XS):=aU θ q153 rfl λf Hv A outer s H E Y=>(af (ak (dP qP Dx (DL.Hu (DO.Rj (cL q125 q (Y.mono Ω) Ψ))) (DL.Hu dm) (bL _))))
abbrev il:Jb:=Iu 61
theorem Jq:ma ["_law_script","_law_program_here","_law_boxes","_law_code_here","_law_due_here","_law_found","_law_whole_here"] ["_law_script"] (ab il):=Iv χ
theorem gK:bU (ab il) ["_law_script","_law_program_here","_law_boxes","_law_code_here","_law_due_here","_law_found","_law_whole_here"]=D:=χ
theorem q101:aw (ab il) "isinstance"=D:=χ
theorem q143:aw (ab il) "bool"=D:=χ
theorem Ek{f:J9}{fd:Nd}(T:Txt P w K mg)(θ:Q5 K "law" "law" il f fd)(Y:G9 P w K mg base "_law_code" 5 ["_law_script","_law_program_here","_law_boxes"] (Ha K 3 (Xy)))(Yg:G9 P w K mg base "_law_due" 4 ["_law_program_here","_law_code_here","_law_boxes"] (Ha K 3 (XB)))(z68:G9 P w K mg base "_law_is_fault" 3 ["_law_program_here","_law_code_here","_law_found"] (Ha K 3 (UU)))(z73:G9 P w K mg base "_law_program" 4 ["_law_script","_law_most"] (Ha K 2 (XH)))(X7:G9 P w K mg base "_law_world" 3 ["_law_script"] (Ha K 1 (Og)))(y77:G9 P w K mg base "fault" 7 ["program","code"] (Ha K 2 (Qq)))(q:G9 P w K mg base "holds" 8 ["program","code"] (Ha K 2 (XS))):JG P w K mg base Lk 9 f fd ["_law_script"] (Ha K 1 t3):=
 Gg θ Jq rfl λHv A outer s H E hr=>(ac (Hq gK Jq.nd (DL.Hi Ψ))
     (ac (Hq gK Jq.nd (DL.Hi Ψ))
     (ac (Hq gK Jq.nd (DL.Hi Ψ))
     (ac (Hq gK Jq.nd (DL.Hi Ψ))
     (ac (Hq gK Jq.nd Ψ)
     (ac (Hq gK Jq.nd (DL.Hi Ψ))
     (ac (ay (DW.t (eY (dQ (bp (DO.Hu (bV q101 q143 T.He T.LR og T.LS Ψ)) (λ_=>rfl))) (gB Ψ))) (af (ak (DL.Hi bG))) aq)
     (ac (ay Ψ (af (ak Ψ)) aq)
     (ac (ay (oY 5 Ψ) (af (ak (DL.Hi bG))) aq)
     (ac (ay Ψ (af (Eh (IB 5 gK) Ψ aO)) aq)
     (ac (Hq gK Jq.nd (DL.Hi (DO.Rj Ψ)))
     (af (ak Ψ)))))))))))))
end
end P43
namespace L2
open PySem
theorem El:(xv "copy"=xv "op")=False:=ω
theorem AE:(xv "copy"=xv "load")=False:=ω
theorem yX:(xv "copy"=xv "store")=False:=ω
theorem AF:(xv "copy"=xv "take")=False:=ω
theorem BT:(xv "copy"=xv "lay")=False:=ω
theorem AG:(xv "copy"=xv "hear")=False:=ω
theorem BU:(xv "copy"=xv "say")=False:=ω
theorem Em:(xv "copy"=xv "if")=False:=ω
theorem Eo:(xv "copy"=xv "go")=False:=ω
theorem BV:(xv "copy"=xv "end")=False:=ω
theorem Ep:(xv "op"=xv "copy")=False:=ω
theorem Er:(xv "op"=xv "load")=False:=ω
theorem BW:(xv "op"=xv "store")=False:=ω
theorem Es:(xv "op"=xv "take")=False:=ω
theorem Fl:(xv "op"=xv "lay")=False:=ω
theorem Et:(xv "op"=xv "hear")=False:=ω
theorem Fn:(xv "op"=xv "say")=False:=ω
theorem GI:(xv "op"=xv "if")=False:=ω
theorem GJ:(xv "op"=xv "go")=False:=ω
theorem Fo:(xv "op"=xv "end")=False:=ω
theorem AH:(xv "load"=xv "copy")=False:=ω
theorem Eu:(xv "load"=xv "op")=False:=ω
theorem yY:(xv "load"=xv "store")=False:=ω
theorem AI:(xv "load"=xv "take")=False:=ω
theorem BX:(xv "load"=xv "lay")=False:=ω
theorem AJ:(xv "load"=xv "hear")=False:=ω
theorem BY:(xv "load"=xv "say")=False:=ω
theorem Ev:(xv "load"=xv "if")=False:=ω
theorem Ew:(xv "load"=xv "go")=False:=ω
theorem BZ:(xv "load"=xv "end")=False:=ω
theorem yZ:(xv "store"=xv "copy")=False:=ω
theorem B0:(xv "store"=xv "op")=False:=ω
theorem zb:(xv "store"=xv "load")=False:=ω
theorem ze:(xv "store"=xv "take")=False:=ω
theorem AK:(xv "store"=xv "lay")=False:=ω
theorem zf:(xv "store"=xv "hear")=False:=ω
theorem AL:(xv "store"=xv "say")=False:=ω
theorem B1:(xv "store"=xv "if")=False:=ω
theorem B2:(xv "store"=xv "go")=False:=ω
theorem AM:(xv "store"=xv "end")=False:=ω
theorem AN:(xv "take"=xv "copy")=False:=ω
theorem Ey:(xv "take"=xv "op")=False:=ω
theorem AO:(xv "take"=xv "load")=False:=ω
theorem zg:(xv "take"=xv "store")=False:=ω
theorem B3:(xv "take"=xv "lay")=False:=ω
theorem AQ:(xv "take"=xv "hear")=False:=ω
theorem B4:(xv "take"=xv "say")=False:=ω
theorem Ez:(xv "take"=xv "if")=False:=ω
theorem EA:(xv "take"=xv "go")=False:=ω
theorem B5:(xv "take"=xv "end")=False:=ω
theorem B6:(xv "lay"=xv "copy")=False:=ω
theorem Fp:(xv "lay"=xv "op")=False:=ω
theorem B7:(xv "lay"=xv "load")=False:=ω
theorem AS:(xv "lay"=xv "store")=False:=ω
theorem B8:(xv "lay"=xv "take")=False:=ω
theorem B9:(xv "lay"=xv "hear")=False:=ω
theorem EB:(xv "lay"=xv "say")=False:=ω
theorem Fq:(xv "lay"=xv "if")=False:=ω
theorem Fs:(xv "lay"=xv "go")=False:=ω
theorem EC:(xv "lay"=xv "end")=False:=ω
theorem AT:(xv "hear"=xv "copy")=False:=ω
theorem ED:(xv "hear"=xv "op")=False:=ω
theorem AU:(xv "hear"=xv "load")=False:=ω
theorem zh:(xv "hear"=xv "store")=False:=ω
theorem AV:(xv "hear"=xv "take")=False:=ω
theorem Ca:(xv "hear"=xv "lay")=False:=ω
theorem Cb:(xv "hear"=xv "say")=False:=ω
theorem EE:(xv "hear"=xv "if")=False:=ω
theorem EF:(xv "hear"=xv "go")=False:=ω
theorem Cc:(xv "hear"=xv "end")=False:=ω
theorem Cd:(xv "say"=xv "copy")=False:=ω
theorem Ft:(xv "say"=xv "op")=False:=ω
theorem Ce:(xv "say"=xv "load")=False:=ω
theorem AW:(xv "say"=xv "store")=False:=ω
theorem Cf:(xv "say"=xv "take")=False:=ω
theorem EG:(xv "say"=xv "lay")=False:=ω
theorem Cg:(xv "say"=xv "hear")=False:=ω
theorem Fu:(xv "say"=xv "if")=False:=ω
theorem Fv:(xv "say"=xv "go")=False:=ω
theorem EH:(xv "say"=xv "end")=False:=ω
theorem EI:(xv "if"=xv "copy")=False:=ω
theorem GK:(xv "if"=xv "op")=False:=ω
theorem EJ:(xv "if"=xv "load")=False:=ω
theorem Ch:(xv "if"=xv "store")=False:=ω
theorem EK:(xv "if"=xv "take")=False:=ω
theorem Fw:(xv "if"=xv "lay")=False:=ω
theorem EL:(xv "if"=xv "hear")=False:=ω
theorem Fx:(xv "if"=xv "say")=False:=ω
theorem GL:(xv "if"=xv "go")=False:=ω
theorem Fy:(xv "if"=xv "end")=False:=ω
theorem GM:(xv "go"=xv "op")=False:=ω
theorem Ci:(xv "go"=xv "store")=False:=ω
theorem EM:(xv "go"=xv "take")=False:=ω
theorem FA:(xv "go"=xv "lay")=False:=ω
theorem FB:(xv "go"=xv "end")=False:=ω
theorem Cj:(xv "end"=xv "copy")=False:=ω
theorem FC:(xv "end"=xv "op")=False:=ω
theorem Ck:(xv "end"=xv "load")=False:=ω
theorem AX:(xv "end"=xv "store")=False:=ω
theorem Cl:(xv "end"=xv "take")=False:=ω
theorem EN:(xv "end"=xv "lay")=False:=ω
theorem Cm:(xv "end"=xv "hear")=False:=ω
theorem EO:(xv "end"=xv "say")=False:=ω
theorem FD:(xv "end"=xv "if")=False:=ω
theorem FE:(xv "end"=xv "go")=False:=ω
open PySem PySem.Spec PyProof.Rows
variable{J5:Z Str}{x:Str}
theorem yi{k:Str}:x∈fS J5 k↔x∈J5∨x=k:=by
 unfold fS;split
 .rename_i h;exact⟨.inl,λz=>z.elim id λe=>e▸h⟩
 .simp
theorem gM:∀{ss J5:Z Str},x∈ss.foldl fS J5↔x∈J5∨x∈ss
 |[],J5=>by simp
 |s::ss,J5=>by rw[PJ,gM,yi,HU,or_assoc]
variable{ss:Z Str}
theorem Il:x∈bZ ss↔x∈ss:=by unfold bZ;rw[gM];simp
theorem si{k:Str}(h:J5.Nodup):(fS J5 k).Nodup:=by
 unfold fS;split
 .exact h
 .rename_i hk;rw[Mt];exact⟨h,Ξ,λa Y b q e=>hk (by rw[HK.mp q]at e;exact e▸Y)⟩
theorem fI:∀{ss J5:Z Str},J5.Nodup->(ss.foldl fS J5).Nodup
 |[],J5,h=>h
 |s::ss,J5,h=>by rw[PJ];exact fI (si h)
theorem gO(ss:Z Str):(bZ ss).Nodup:=fI Vz
def Sd(l:Z Str):Prop:=l.Pairwise λa b=>LA a b=D/\a≠b
theorem AY(q:ss.Nodup):Sd (cY ss):=by
 have h1:=gE ss;have h2:(cY ss).Pairwise λa b=>a≠b:=(cb ss).nodup_iff.mpr q
 exact h1.and h2
variable{l:Z Str}
theorem Sd.nodup(h:Sd l):l.Nodup:=Y5 (λz=>z.2) h
theorem yj:∀{l m:Z Str},Sd l->Sd m->(∀x,x∈l↔x∈m)->l=m
 |[],[],_,_,_=>rfl
 |[],b::m,_,_,h=>by simpa using (h b).mpr (.head _)
 |a::l,[],_,_,h=>by simpa using (h a).mp (.head _)
 |a::l,b::m,hl,hm,h=>by
  have q:=PH.mp hl;have Y:=PH.mp hm
  have e:a=b:=by
   rcases HU.mp ((h a).mp (.head _))with z|z
   .exact z
   .rcases HU.mp ((h b).mpr (.head _))with y|y
    .exact y.symm
    .exact p9 (q.1 b y).1 (Y.1 a z).1
  subst e;congr 1;refine yj q.2 Y.2 λx=>⟨λhx=>?_,λhx=>?_⟩
  .rcases HU.mp ((h x).mp (.tail _ hx))with z|z
   .exact absurd z.symm (q.1 x hx).2
   .exact z
  .rcases HU.mp ((h x).mpr (.tail _ hx))with z|z
   .exact absurd z.symm (Y.1 x hx).2
   .exact z
theorem bq{α:Type}[DecidableEq α]:∀{l m:Z α},l.Nodup->(∀x∈l,x∈m)->l.length<=m.length
 |[],m,_,_=>M8 _
 |a::l,m,h,hs=>by
  obtain⟨h1,h2⟩:=Oj.mp h;have Y:a∈m:=hs a (.head _);have:=bq (m:=m.erase a) h2 λx q=>(List.mem_erase_of_ne (show x≠a fromλe=>h1 (by rw[<- e];exact q))).mpr (hs x (.tail _ q))
  rw[List.length_erase_of_mem Y]at this;have hp:=List.length_pos_of_mem Y;rw[L9];lia
theorem GN{l m:Z Str}(hl:Sd l)(hm:Sd m)(h:∀x∈l,x∈m)(ne:l≠m):l.length<m.length:=by
 by_cases z:∃x,x∈m/\x∉l
 .obtain⟨x,h1,h2⟩:=z
  have:=bq (l:=x::l) (m:=m) (Oj.mpr ⟨h2,hl.nodup⟩) λy Y=>by
   rcases HU.mp Y with rfl|Y
   .exact h1
   .exact h y Y
  rw[L9]at this;lia
 .exact absurd (yj hl hm λx=>⟨h x,λhx=>YU λq=>z ⟨x,hx,q⟩⟩) ne
inductive La where
 |nm (x:Str)|vl (i:Int)
inductive Rw where
 |copy (x:Str) (a:La)|op (x s:Str) (a b:La)|load (x c:Str)|store (c:Str) (a:La)|take (x f:Str) (a:La)|lay (f:Str) (a b:La)|NY (x:Str)|say (a:La)|iff (a:La) (g:Nat)|go (g:Nat)|fin (a:La)
noncomputable def Rw.atoms:Rw->Z La
 |.copy _ a=>[a]|.op _ _ a b=>[a,b]|.load _ _=>[]|.store _ a=>[a]|.take _ _ a=>[a]|.lay _ a b=>[a,b]|.NY _=>[]|.say a=>[a]|.iff a _=>[a]|.go _=>[]|.fin a=>[a]
noncomputable def Kn:Z La->Z Str
 |[]=>[]
 |.nm x::r=>x::Kn r
 |.vl _::r=>Kn r
def Rw.reads(r:Rw):Z Str:=bZ (Kn r.atoms)
noncomputable def Rw.sets:Rw->C Str
 |.copy x _=>O x|.op x _ _ _=>O x|.load x _=>O x|.take x _ _=>O x|.NY x=>O x
 |_=>V
noncomputable def Rw.outs(n:Nat):Rw->Z Nat
 |.go g=>[g]|.iff _ g=>[g,n+1]|.fin _=>[]
 |_=>[n+1]
theorem i8:∀l:Z La,(Kn l).length<=l.length
 |[]=>HG _
 |.nm x::r=>Nat.succ_le_succ (i8 r)
 |.vl _::r=>Nat.le_succ_of_le (i8 r)
theorem Rw.NZ(r:Rw):r.reads.length<=2:=by
 have h1:=mY (Kn r.atoms);have h2:=i8 r.atoms;have h3:r.atoms.length<=2:=by cases r<;>simp[Rw.atoms]
 unfold Rw.reads;lia
theorem Rw.Ie(r:Rw)(n:Nat):(r.outs n).length<=2:=by cases r<;>simp[Rw.outs]
def f9(r:Rw)(q:Z (Z Str)):Z Str:=q.flatMap λl=>l.filter λb=>decide (r.sets≠O b)
def NA(r:Rw)(q:Z (Z Str)):Z Str:=cY (bZ (r.reads++f9 r q))
theorem vg:x∈cY ss↔x∈ss:=(cb ss).mem_iff
variable{r:Rw}{b:Str}
theorem EQ{ls:Z (Z Str)}:b∈NA r ls↔b∈r.reads∨(r.sets≠O b/\∃l∈ls,b∈l):=by
 unfold NA f9;rw[vg,Il,IC,List.mem_flatMap];constructor
 .rintro(h|⟨l,Y,q⟩)
  .exact .inl h
  .rw[JP,decide_eq_true_eq]at q;exact .inr ⟨q.2,l,Y,q.1⟩
 .rintro(h|⟨h,l,Y,q⟩)
  .exact .inl h
  .exact .inr ⟨l,Y,JP.mpr ⟨q,decide_eq_true_eq.mpr h⟩⟩
theorem GO(r:Rw)(q:Z (Z Str)):Sd (NA r q):=AY (gO _)
inductive HE(J0:List Rw):Nat->Str->Prop
 |here {i:Nat} {r:Rw} {b:Str}:J0[i]?=O r->b∈r.reads->HE J0 i b
 |on {i j:Nat} {r:Rw} {b:Str}:J0[i]?=O r->r.sets≠O b->j∈r.outs i->HE J0 j b->HE J0 i b
def nw(J0:Z Rw)(J3:Z (Z Str))(i:Nat):Z Str:=match J0[i]? with
 |some r=>NA r ((r.outs i).map λj=>J3.getD j [])
 |none=>[]
variable{J0:Z Rw}{i:Nat}
theorem lF{J3:Z (Z Str)}(h:J0[i]?=O r):b∈nw J0 J3 i↔b∈r.reads∨(r.sets≠O b/\∃j∈r.outs i,b∈J3.getD j []):=by
 unfold nw;rw[h];show b∈NA r _↔_;rw[EQ];simp only[Jg];constructor
 .rintro(h|⟨h,l,⟨j,q,rfl⟩,Y⟩)
  .exact .inl h
  .exact .inr ⟨h,j,q,Y⟩
 .rintro(h|⟨h,j,q,Y⟩)
  .exact .inl h
  .exact .inr ⟨h,_,⟨j,q,rfl⟩,Y⟩
theorem Cn(J0:Z Rw)(J3:Z (Z Str))(i:Nat):Sd (nw J0 J3 i):=by
 unfold nw;split
 .exact GO _ _
 .exact VA
variable{j:Nat}
theorem oZ{α:Type}{l:Z (Z α)}{b:α}(h:b∈l.getD j []):∃m,l[j]?=O m/\b∈m:=by
 rw[JN]at h;cases q:l[j]? with
 |none=>rw[q]at h;simp at h
 |some m=>rw[q]at h;exact⟨m,rfl,h⟩
theorem o0{α:Type}{l:Z (Z α)}{m:Z α}(h:l[j]?=O m):l.getD j []=m:=by rw[JN,h];rfl
structure LC(J0:List Rw)(B:List Str)(J3:List (List Str)):Prop where
 len:J3.length=J0.length
 sd:∀(i:Nat)(l:List Str),J3[i]?=O l->Sd l
 sub:∀(i:Nat)(l:List Str)(b:Str),J3[i]?=O l->b∈l->b∈B
 nd:∀(i:Nat)(l:List Str)(b:Str),J3[i]?=O l->b∈l->HE J0 i b
 inc:∀(i:Nat)(l:List Str)(b:Str),J3[i]?=O l->b∈l->b∈nw J0 J3 i
noncomputable def MB(J3:Z (Z Str)):Nat:=(J3.map Ld).sum
theorem LC.start{B:Z Str}:LC J0 B (J0.map λ_=>[]):=by
 have Y:∀(i:Nat)(l:Z Str),(J0.map λ_=>([]:Z Str))[i]?=O l->l=[]:=λi l h=>by rw[Je]at h;obtain⟨r,_,e⟩:=mS h;exact e.symm
 refine⟨Ξ,λi l h=>?_,λi l b h q=>?_,λi l b h q=>?_,λi l b h q=>?_⟩
 .rw[Y i l h];exact VA
 all_goals (rw[Y i l h]at q;cases q)
variable{n:Nat}
section
variable{J0:Z Rw}{B:Z Str}{J3:Z (Z Str)}
theorem t4{f g:Z (Z Str)}(h:∀j b,b∈f.getD j []->b∈g.getD j [])(Y:b∈nw J0 f i):b∈nw J0 g i:=by
 cases q:J0[i]? with
 |none=>unfold nw at Y;rw[q]at Y;cases Y
 |some r=>rw[lF q]at Y ⊢;exact Y.imp id λ⟨h1,j,hj,Y⟩=>⟨h1,j,hj,h j b Y⟩
theorem LC.step(F:LC J0 B J3)(hB:∀(i:Nat)(r:Rw)(b:Str),J0[i]?=O r->b∈r.reads->b∈B)(hi:i<J0.length):LC J0 B (J3.set i (nw J0 J3 i)):=by
 have hl:i<J3.length:=by rw[F.len];exact hi
 obtain⟨r,hr⟩:∃r,J0[i]?=O r:=⟨J0[i],by simp[hi]⟩
 have mono:∀j b,b∈J3.getD j []->b∈(J3.set i (nw J0 J3 i)).getD j []:=λj b q=>by
  obtain⟨m,Y,Sr⟩:=oZ q;by_cases e:i=j
  .subst e;rw[o0 (PF hl)];exact F.inc i m b Y Sr
  .rw[o0 (l:=J3.set i (nw J0 J3 i)) (m:=m) (by rw[gN e];exact Y)];exact Sr
 refine⟨by simp[F.len],λj l h=>?_,λj l b h q=>?_,λj l b h q=>?_,λj l b h q=>?_⟩
 .by_cases e:i=j
  .subst e;rw[PF hl]at h;cases h;exact Cn _ _ _
  .rw[gN e]at h;exact F.sd j l h
 .by_cases e:i=j
  .subst e;rw[PF hl]at h;cases h;rcases(lF hr).mp q with z|⟨_,j,_,z⟩
   .exact hB i r b hr z
   .obtain⟨m,Y,q⟩:=oZ z;exact F.sub j m b Y q
  .rw[gN e]at h;exact F.sub j l b h q
 .by_cases e:i=j
  .subst e;rw[PF hl]at h;cases h;rcases(lF hr).mp q with z|⟨h1,j,hj,z⟩
   .exact .here hr z
   .obtain⟨m,Y,q⟩:=oZ z;exact .on hr h1 hj (F.nd j m b Y q)
  .rw[gN e]at h;exact F.nd j l b h q
 .by_cases e:i=j
  .subst e;rw[PF hl]at h;cases h;exact t4 mono q
  .rw[gN e]at h;exact t4 mono (F.inc j l b h q)
theorem t5:∀{J3:Z (Z Str)}{i:Nat}{l m:Z Str},J3[i]?=O l->MB (J3.set i m)+l.length=MB J3+m.length
 |[],i,l,m,h=>by simp at h
 |x::f,0,l,m,h=>by simp at h;subst h;simp only[MB,qz3,Ia,RD];lia
 |x::f,i+1,l,m,h=>by have:=t5 (J3:=f) (i:=i) (l:=l) (m:=m) (by simpa using h);simp only[MB,qz4,Ia,RD]at this ⊢;lia
theorem Ko:∀{J3:Z (Z Str)},(∀l∈J3,l.length<=n)->MB J3<=J3.length*n
 |[],_=>by simp[MB]
 |x::f,h=>by
  have:=Ko (J3:=f) λl q=>h l (.tail _ q)
  have h1:=h x (.head _);simp only[MB,Ia,RD,L9,Nat.succ_mul]at this ⊢;lia
theorem LC.short(F:LC J0 B J3)(h:J3[i]?=O l):l.length<=B.length:=bq (F.sd i l h).nodup λb q=>F.sub i l b h q
theorem LC.Ko(F:LC J0 B J3):MB J3<=J0.length*B.length:=by
 rw[<- F.len];refine L2.Ko λl q=>?_
 obtain⟨i,h⟩:=Vv q;exact F.short h
theorem LC.more(F:LC J0 B J3)(h:J3[i]?=O l)(q:nw J0 J3 i≠l):MB J3<MB (J3.set i (nw J0 J3 i)):=by have h1:=t5 (m:=nw J0 J3 i) h;have h2:=GN (F.sd i l h) (Cn J0 J3 i) (λx Y=>F.inc i l x h Y) (L1 q);lia
def SX(J0:Z Rw)(J3:Z (Z Str)):Prop:=∀(i:Nat)(l:Z Str),J3[i]?=O l->nw J0 J3 i=l
theorem SX.all(F:LC J0 B J3)(x:SX J0 J3)(hO:∀(i:Nat)(r:Rw)(j:Nat),J0[i]?=O r->j∈r.outs i->j<J0.length)(h:HE J0 i b):∀l,J3[i]?=O l->b∈l:=by
 induction h with
 |here q hb=>exactλl Y=>by rw[<- x _ l Y,lF q];exact .inl hb
 |@on i j r b q h1 hj _ ih=>
  intro l Y;rw[<- x _ l Y,lF q];have Mw:j<J3.length:=by rw[F.len];exact hO i r j q hj
  have e:J3[j]?=O J3[j]:=by simp[Mw]
  exact .inr ⟨h1,j,hj,by rw[o0 e];exact ih _ e⟩
theorem LC.iff(F:LC J0 B J3)(x:SX J0 J3)(Y:∀(i:Nat)(r:Rw)(j:Nat),J0[i]?=O r->j∈r.outs i->j<J0.length)(q:J3[i]?=O l)(b:Str):b∈l↔HE J0 i b:=⟨F.nd i l b q,λh=>SX.all F x Y h l q⟩
end
noncomputable def La.d:La->Dt
 |.nm x=>.str x
 |.vl i=>.int i
def Rw.d:Rw->Dt
 |.copy x a=>.t [.str "copy",.str x,a.d]
 |.op x s a b=>.t [.str "op",.str x,.str s,a.d,b.d]
 |.load x c=>.t [.str "load",.str x,.str c]
 |.store c a=>.t [.str "store",.str c,a.d]
 |.take x f a=>.t [.str "take",.str x,.str f,a.d]
 |.lay f a b=>.t [.str "lay",.str f,a.d,b.d]
 |.NY x=>.t [.str "hear",.str x]
 |.say a=>.t [.str "say",a.d]
 |.iff a g=>.t [.str "if",a.d,.int g]
 |.go g=>.t [.str "go",.int g]
 |.fin a=>.t [.str "end",a.d]
noncomputable def dI(j:Nat):Dt:=.int (j:Int)
noncomputable def dS(l:Z Str):Dt:=.e (l.map .str)
def dF(f:Z (Z Str)):Dt:=.e (f.map dS)
def dR(J0:Z Rw):Dt:=.t (J0.map Rw.d)
variable{bb:Dt->De->C De}{ft:De->C Bool}{fe:De->C Dt}{J:De}
theorem aR{α:Type}{f h:α->Dt}:∀{l:Z α},(∀a∈l,∃ HP,bb (f a) J=O HP/\ft HP=O D/\fe HP=O (h a))->cO bb ft fe J (l.map f)=O (l.map h)
 |[],_=>rfl
 |a::l,q=>by obtain⟨HP,h1,h2,h3⟩:=q a N5;rw[Ia];unfold cO;rw[h1,Im,h2,Im,if_pos rfl,h3,Im,aR λe Y=>q e (N4 _ Y)];rfl
theorem aJ{α:Type}{f h:α->Dt}{p:α->Bool}:∀{l:Z α},(∀a∈l,∃ HP,bb (f a) J=O HP/\ft HP=O (p a)/\(p a=D->fe HP=O (h a)))->cO bb ft fe J (l.map f)=O ((l.filter p).map h)
 |[],_=>rfl
 |a::l,q=>by
  obtain⟨HP,h1,h2,h3⟩:=q a N5;have Y:=aJ (l:=l) λe he=>q e (N4 _ he)
  rw[Ia];unfold cO;rw[h1,Im,h2,Im];cases hp:p a with
  |true=>rw[if_pos rfl,h3 hp,Im,Y,zc9 hp];rfl
  |false=>rw[if_neg Ξ,Y,List.filter_cons_of_neg (by simp[hp])]
theorem nq{α:Type}{f:α->Dt}:∀(l:Z α)(i:Nat),eQ i (l.map f)=(l.mapIdx λk a=>Dt.t [.int ((i+k:Nat):Int),f a])
 |[],_=>rfl
 |a::l,i=>by rw[Ia,eQ,nq l (i+1),List.mapIdx_cons];congr 1;congr 1;funext k a;rw[show i+1+k=i+(k+1)by lia]
theorem lH{α:Type}{f:α->Dt}{h:Nat->α->Dt}:∀{l:Z α}(i:Nat),(∀k a,∃ HP,bb (.t [.int ((k:Nat):Int),f a]) J=O HP/\fe HP=O (h k a))->cO bb cJ fe J (eQ i (l.map f))=O (l.mapIdx λk a=>h (i+k) a)
 |[],_,_=>rfl
 |a::l,i,q=>by obtain⟨HP,h1,h3⟩:=q i a;rw[Ia,eQ];unfold cO;rw[h1,Im];show((fe HP).bind λy=>_)=_;rw[h3,Im,lH (i+1) q,List.mapIdx_cons];show O _=O _;congr 1;congr 1;congr 1;funext k a;rw[show i+1+k=i+(k+1)by lia]
theorem d8(l:Z Str):(l.map Dt.str).all cu=D:=by rw[QD];intro x q;obtain⟨y,_,rfl⟩:=Jg.mp q;rfl
theorem t6(l:Z Str)(x:Str):((l.map Dt.str).any λy=>MV y (.str x))=decide (x∈l):=by
 induction l with
 |nil=>rfl
 |cons a l q=>
  rw[Ia,PL,q,show MV (.str a) (.str x)=decide (a=x)from rfl];by_cases h:a=x
  .simp[h]
  .have:¬ x=a:=λz=>h z.symm
   simp[h,this]
variable{neg:Bool}
theorem IG:aS neg (.str x) (.e (l.map .str))=O (.f (.bl (if neg then !decide (x∈l)else decide (x∈l)))):=by rw[GB (by rw[d8];rfl),t6]
theorem jR(h:l.length<64):gG [.e (l.map .str)]=O (.e ((cY (bZ l)).map .str)):=by unfold gG Av;dsimp only;rw[fV,Im,if_pos ⟨Θ,qz0 (mY l) h⟩]
theorem sj(h:l.length<64):iY [.e (l.map .str)]=O (.e ((cY l).map .str)):=by unfold iY;dsimp only;rw[fV,Im,if_pos h]
noncomputable def Yh(l m:Z Dt)(i:Nat)(J:De):C Hj:=if l.length+m.length<=Hz then O (.nx (J.set i (O (.e (l++m)))))else V
theorem AZ{l m:Z Dt}(h:l.length+m.length<=1000000):Yh l m i J=O (.nx (J.set i (O (.e (l++m))))):=if_pos (small h)
variable{f:De->C T}
theorem GP{l m:Z Dt}(h:J[i]?=O (O (.e l)))(q:f J=O (.e m)):Rh i f J=Yh l m i J:=by unfold Rh;rw[h];dsimp only;rw[q];rfl
theorem nr:∀{l m:Z Str},Ib (l.map .str) (m.map .str)=decide (l=m)
 |[],[]=>rfl
 |[],_::_=>rfl
 |_::_,[]=>rfl
 |a::l,b::m=>by rw[Ia,Ia];show(decide (a=b)&&Ib (l.map .str) (m.map .str))=_;rw[nr];by_cases h1:a=b<;>by_cases h2:l=m<;>simp[h1,h2]
variable{m:Z Str}
theorem qu:Hs neg (.e (l.map .str)) (.e (m.map .str))=O (.f (.bl (if neg then !decide (l=m)else decide (l=m)))):=by rw[qt (d8 l) (d8 m),nr]
theorem lI{t:T}(h:f J=O t):ar i f J=O (.nx (J.set i (O t))):=by unfold ar;rw[h];rfl
variable{c:De->C Bool}{g1 g2:De->C Hj}
theorem Yi(h:c J=O D):HD c g1 g2 J=g1 J:=by unfold HD;rw[h];rfl
theorem Yj(h:c J=O ξ):HD c g1 g2 J=g2 J:=by unfold HD;rw[h];rfl
variable{g:De->C Hj}
theorem t7{HP:De}(h:c J=O D)(q:g J=O (.nx HP)):be c g (n+1) J=be c g n HP:=by
 conv=>lhs;unfold be
 rw[h,Im,if_pos rfl,q];rfl
theorem qv{t:T}(h:c J=O D)(q:g J=O (.rt t)):be c g (n+1) J=O (.rt t):=by
 conv=>lhs;unfold be
 rw[h,Im,if_pos rfl,q];rfl
theorem t8(h:c J=O ξ):be c g (n+1) J=O (.nx J):=by
 conv=>lhs;unfold be
 rw[h];rfl
theorem A0{m:Nat}{ds:Z Dt}{t:T}(h:g (ds.map (λd=>O (T.f d))++Ol (m-ds.length) V)=O (.rt t)):bf m g ds=O t:=by unfold bf;rw[h]
variable{k:Nat}
theorem ER(h:k<n):No n (k:Int)=O k:=by unfold No;rw[if_pos Θ,if_pos Θ];simp
variable{fk:De->C Dt}
theorem GQ{l:Z Dt}{d:Dt}(h:J[i]?=O (O (.e l)))(hk:fk J=O (dI k))(Y:fe J=O d)(q:k<l.length):hJ i fk fe J=O (.nx (J.set i (O (.e (l.set k d))))):=by
 unfold hJ dI at*
 rw[Y,hk,Im,Im,h];simp only[GD,Im,ER q,RF]
theorem Co{l:Z (Hr×Dt)}{kd d:Dt}{k:Hr}(h:J[i]?=O (O (.IJ l)))(hk:fk J=O kd)(q:l4 kd=O k)(he:fe J=O d)(Y:l.length<1000000)(nd:(l.map (·.1)).Nodup):hJ i fk fe J=O (.nx (J.set i (O (.IJ (jV l k d))))):=by unfold hJ;rw[he,hk,Im,Im,h];dsimp only;rw[q,Im,if_pos ⟨i7 Y,nd⟩]
theorem yk{f:De->C Dt}{l:Z Dt}{d:Dt}(h:J[i]?=O (O (.e l)))(Y:f J=O d)(q:l.length<1000000):z8 i f J=O (.nx (J.set i (O (.e (l++[d]))))):=by unfold z8;rw[h];dsimp only;rw[Y,Im,if_pos (i7 q)]
theorem ES{l:Z Dt}{d:Dt}(h:J[i]?=O (O (.e (l++[d])))):rW j i J=O (.nx ((J.set i (O (.e l))).set j (O (.f d)))):=by unfold rW;rw[h];simp
theorem vh(h:n<=1000):u2 [.int ((n:Int)-1),.int (-1),.int (-1)]=O (((HQ n).map λi=>n-1-i).map dI):=by
 unfold u2
 have e:(Nf ((n:Int)-1) (-1) (-1)).toNat=n:=by
  unfold Nf;rw[if_neg Ω];by_cases q:(n:Int)-1 > -1
  .rw[if_pos q];have:((n:Int)-1 - -1-1)/(- -1)=(n:Int)-1:=by rw[show(- -1:Int)=1 by decide,Int.ediv_one];lia
   rw[this];lia
  .rw[if_neg q];lia
 dsimp only;rw[if_pos (show xr ((n:Int)-1) (-1) (-1)=D by unfold xr;simp;lia),e];congr 1;unfold rF;rw[IV];refine List.map_congr_left λi hi=>?_
 have:=IS.mp hi;show Dt.int _=Dt.int ((n-1-i:Nat):Int);congr 1;lia
section
variable{α:Type}[DecidableEq α]
abbrev CF(α:Type):=Z (α×C α)
noncomputable def ks(cf:CF α):Z α:=cf.map (·.1)
def gT(cf:CF α)(s:α):CF α:=if s∈ks cf then cf else cf++[(s,V)]
variable{beh:α->Z α}{fit:α->Bool}{J4:Z α}
theorem vi{cf:CF α}{t:α}(h:t∈ks cf):∃(i:Nat)(q:C α),cf[i]?=O (t,q):=by obtain⟨p,hp,rfl⟩:=Jg.mp h;obtain⟨i,hi,e⟩:=qx9 hp;exact⟨i,p.2,by rw[gQ hi,e]⟩
theorem nu{cf:CF α}{t:α}{q:C α}(h:cf[i]?=O (t,q)):t∈ks cf:=Jg.mpr ⟨(t,q),Ls h,rfl⟩
noncomputable def look(cf:CF α)(t:α):C (C α):=(cf.find? λp=>decide (p.1=t)).map (·.2)
theorem o4:∀{cf:CF α}{i:Nat}{t:α}{q:C α},(ks cf).Nodup->cf[i]?=O (t,q)->look cf t=O q
 |[],i,t,q,_,h=>by simp at h
 |p::cf,0,t,q,Y,h=>by simp at h;subst h;simp[look]
 |p::cf,i+1,t,q,Y,h=>by
  have h:cf[i]?=O (t,q):=by simpa using h
  have Y:(p.1::ks cf).Nodup:=Y;have JB:p.1≠t:=λz=>(Oj.mp Y).1 (z▸nu h)
  have:=o4 (Oj.mp Y).2 h;unfold look at this ⊢;rw[ze3 (by simpa using JB)];exact this
inductive Tr(cf:CF α):α->List α->Prop
 |one {t:α} (h:look cf t=O V):Tr cf t [t]
 |more {t p:α} {r:List α} (h:look cf t=O (O p)) (r':Tr cf p r):Tr cf t (t::r)
inductive Wy(beh:α->List α)(fit:α->Bool)(J4:List α):α->List α->Prop
 |one {t:α} (h:t∈J4):Wy beh fit J4 t [t]
 |more {t p:α} {r:List α} (h:t∈beh p) (hf:fit p=ξ) (w:Wy beh fit J4 p r):Wy beh fit J4 t (t::r)
inductive K2(beh:α->List α)(J4:List α):α->Prop
 |one {t:α} (h:t∈J4):K2 beh J4 t
 |more {t p:α} (w:K2 beh J4 p) (h:t∈beh p):K2 beh J4 t
end
inductive Kg where
 |fresh|seen|safe|Ig
deriving DecidableEq
noncomputable def Rw.Mp:Rw->Str->Bool
 |.load _ c,nm=>decide (c=nm)|.take _ f _,nm=>decide (f=nm)
 |_,_=>ξ
noncomputable def Rw.Lo:Rw->Str->Bool
 |.store c _,nm=>decide (c=nm)|.lay f _ _,nm=>decide (f=nm)
 |_,_=>ξ
noncomputable def Rw.stores:Rw->Str->Bool
 |.store c _,nm=>decide (c=nm)
 |_,_=>ξ
theorem Rw.excl{nm:Str}(h:r.Mp nm=D):r.Lo nm=ξ:=by cases r<;>first|cases h;done|rfl
def mb:Kg->Rw->Str->Kg
 |.fresh,r,nm=>if r.Mp nm then .seen else if r.stores nm then .safe else .fresh
 |.seen,r,nm=>if r.Lo nm then .Ig else .seen
 |m,_,_=>m
section
variable(J0:Z Rw)(kept:Z Nat)(nm:Str)
def d9(t:Nat×Kg):Z (Nat×Kg):=match J0[t.1]? with
 |none=>[]
 |some r=>if mb t.2 r nm=.safe then []else((r.outs t.1).filter λw=>!decide (w∈kept)).map λw=>(w,mb t.2 r nm)
def gi(t:Nat×Kg):Bool:=match J0[t.1]? with
 |none=>ξ
 |some r=>decide (mb t.2 r nm=.Ig)
noncomputable def bv:Z (Nat×Kg):=(0::kept).map λk=>(k,.fresh)
def gA(k:Nat):Bool:=match J0[k]? with|some r=>r.Mp nm|none=>ξ
def pA(k:Nat):Bool:=match J0[k]? with|some r=>r.Lo nm|none=>ξ
def sA(k:Nat):Bool:=match J0[k]? with|some r=>r.stores nm|none=>ξ
end
section
variable{J0:Z Rw}{kept:Z Nat}{nm:Str}
theorem nv(h:J0[k]?=O r):gA J0 nm k=r.Mp nm:=by unfold gA;rw[h]
theorem ny(h:J0[k]?=O r):pA J0 nm k=r.Lo nm:=by unfold pA;rw[h]
theorem qw(h:J0[k]?=O r):sA J0 nm k=r.stores nm:=by unfold sA;rw[h]
theorem A1(h:gA J0 nm k=D):pA J0 nm k=ξ:=by
 unfold gA at h;unfold pA;split at h
 .rename_i r e;exact Rw.excl h
 .cases h
theorem jC{m:Kg}(h:mb m r nm=.Ig):m=.Ig∨(m=.seen/\r.Lo nm=D):=by
 cases m with
 |fresh=>simp only[mb]at h;split at h<;>(try split at h)<;>cases h
 |seen=>
  simp only[mb]at h;cases h1:r.Lo nm<;>simp[h1]at h
  exact .inr ⟨rfl,rfl⟩
 |safe=>cases h
 |Ig=>exact .inl rfl
theorem yl{p:Nat->Bool}:∀{n g:Nat},g<n->p g=D->(∀j<g,p j=ξ)->∃r,(HQ n).filter p=g::r:=λ{n g} hg hp q=>by
 obtain⟨d,rfl⟩:∃d,n=g+(d+1):=⟨n-g-1,Θ⟩;rw[List.range_add,List.filter_append]
 have e:(HQ g).filter p=[]:=by rw[qu0];intro a Y;rw[q a (IS.mp Y)];decide
 rw[e,Y3,qt9];simp[hp]
structure Kd(J0:List Rw)(nm:Str)(Kh:Bool):Prop where
 c:Kh=ξ->∀k,pA J0 nm k=sA J0 nm k
 s:Kh=D->∀k,sA J0 nm k=ξ
end
section
variable{J0:Z Rw}{kept:Z Nat}{nm:Str}
theorem sk{t u:Nat×Kg}(h:u∈d9 J0 kept nm t):∃r,J0[t.1]?=O r/\mb t.2 r nm≠.safe/\u.1∈r.outs t.1/\u.1∉kept/\u.2=mb t.2 r nm:=by
 unfold d9 at h;split at h
 .cases h
 .rename_i r e;split at h
  .cases h
  .rename_i Y;obtain⟨w,q,rfl⟩:=Jg.mp h;obtain⟨h1,h2⟩:=JP.mp q;exact⟨r,e,Y,h1,by simpa using h2,rfl⟩
theorem o5{w:Nat}{m:Kg}(e:J0[k]?=O r)(Y:mb m r nm≠.safe)(q:w∈r.outs k)(hk:w∉kept):(w,mb m r nm)∈d9 J0 kept nm (k,m):=by unfold d9;simp only[e];rw[if_neg Y];exact Jg.mpr ⟨w,JP.mpr ⟨q,by simpa using hk⟩,rfl⟩
end
section
variable{α:Type}[DecidableEq α](ky:α->Int×Str)
noncomputable def nD(t:α):Dt:=.t [.int (ky t).1,.str (ky t).2]
def pN:C α->Dt
 |none=>.G8
 |some h=>nD ky h
variable{ky}(hk:∀a b,ky a=ky b->a=b)
include hk
omit hk in
variable{f1 f2:J9}{F0:Hp}{σ:Jz}{st:Dt}
omit hk in
omit hk in
omit hk in
omit hk in
omit hk in
omit hk in
include hk in
end
section
variable{α:Type}[DecidableEq α]{ky:α->Int×Str}(hk:∀a b,ky a=ky b->a=b){f1 f2:J9}{F0:Hp}{σ:Jz}{st:Dt}
include hk
omit hk in
def Yk(ky:α->Int×Str):C (Z α)->T
 |none=>.f .G8
 |some q=>.e (q.reverse.map (nD ky))
end
end L2
open Lean in
def mL0(s:String):=(s.splitOn " ").toArray.map λs=>mkNode ``Parser.Tactic.simpLemma #[mkNullNode,mkNullNode,mkIdent s.toName]
local macro_rules|`(tactic|walk_at "k")=>do
 let a:=mL0 "L2.Sz L2.GW L2.Sy L2.GE L2.GF L2.aM L2.ar L2.az L2.eZ L2.Xl L2.GX L2.GY L2.Ed L2.lY L2.lZ L2.uS L2.hJ L2.G6 L2.bo L2.T.d L2.kD L2.vL L2.vB L2.d2 L2.G5 L2.ca L2.eL L2.oW L2.BQ L2.zR L2.Ea L2.GH L2.GG L2.ae L2.aa L2.SA L2.Eb L2.lx L2.GZ L2.ag L2.jr L2.f6 L2.G0 L2.Qk L2.kU L2.ie L2.dJ L2.BE L2.pV L2.jq L2.l3 L2.HS L2.cH L2.am L2.dC L2.cJ L2.Sw L2.Xo L2.Xp L2.Xq L2.Xr L2.Xs L2.AC L2.GB L2.GC L2.G1 L2.Xn PK List.all_nil PL List.any_nil L2.lw L2.D9 L2.dX L2.lv L2.Ic L2.K0 L2.Jo L2.Ri L2.jO L2.d5 L2.na L2.OR L2.Xh L2.Xi L2.Sx L2.Xj L2.GD Ia QG L9 zf5 Y1 Y3 Ol zd0 YX qz3 qz4 Im Option.bind_none RF Option.map_none Y8 Option.join_none Nat.reduceAdd Nat.reduceSub Nat.reduceLeDiff Int.reduceLT Int.reduceEq eq_self Int.reduceNeg Int.reduceLE if_true if_false ite_true ite_false Oi decide_true decide_false Bool.not_true zh1 T8 RB Bool.or_true Bool.true_or YS Bool.false_or Vq Bool.false_and String.reduceBEq reduceCtorEq L2.El L2.AE L2.yX L2.AF L2.BT L2.AG L2.BU L2.Em L2.Eo L2.BV L2.Ep L2.Er L2.BW L2.Es L2.Fl L2.Et L2.Fn L2.GI L2.GJ L2.Fo L2.AH L2.Eu L2.yY L2.AI L2.BX L2.AJ L2.BY L2.Ev L2.Ew L2.BZ L2.yZ L2.B0 L2.zb L2.ze L2.AK L2.zf L2.AL L2.B1 L2.B2 L2.AM L2.AN L2.Ey L2.AO L2.zg L2.B3 L2.AQ L2.B4 L2.Ez L2.EA L2.B5 L2.B6 L2.Fp L2.B7 L2.AS L2.B8 L2.B9 L2.EB L2.Fq L2.Fs L2.EC L2.AT L2.ED L2.AU L2.zh L2.AV L2.Ca L2.Cb L2.EE L2.EF L2.Cc L2.Cd L2.Ft L2.Ce L2.AW L2.Cf L2.EG L2.Cg L2.Fu L2.Fv L2.EH L2.EI L2.GK L2.EJ L2.Ch L2.EK L2.Fw L2.EL L2.Fx L2.GL L2.Fy L2.GM L2.Ci L2.EM L2.FA L2.FB L2.Cj L2.FC L2.Ck L2.AX L2.Cl L2.EN L2.Cm L2.EO L2.FD L2.FE"
 `(tactic|simp -implicitDefEqProofs only[$a,*])
namespace P43
open PySem L2
theorem sq(n:Nat)(r:Rw):z69 [.int n,r.d]=O (.f (.t ((r.outs n).map dI))):=by cases r<;>kernel_rfl
def dW(J0:Z Rw):Dt:=.e (J0.mapIdx λk r=>.t ((r.outs k).map dI))
theorem kg(c s:Dt)(J0:Z Rw)(h:J0.length<=1000):eU [.t [c,s,dR J0]]=O (.e (J0.mapIdx λk r=>.t ((r.outs k).map dI))):=by
 unfold eU;walk_at "k";unfold pZ dR;walk_at "k"
 rw[lH (h:=λk r=>.t ((r.outs k).map dI)) 0 λk a=>⟨_,rfl,by unfold XJ;walk_at "k";rw[sq];walk_at "k"⟩]
 walk_at "k";rw[lx (by rw[qz5];lia)];walk_at "k";simp
theorem qx(r:Rw):UV [r.d]=O (.f (match r.sets with|some x=>.str x|none=>.G8)):=by cases r<;>kernel_rfl
theorem ym(r:Rw):y95 [r.d]=O (.f (.t (r.atoms.map La.d))):=by cases r<;>kernel_rfl
theorem lJ(J0:Z Rw)(n:Nat)(r:Rw)(h:J0[n]?=O r):y1 [dR J0,.int n]=O (.e ((r.outs n).map dI)):=by
 have e:ah (dR J0) (.int n)=O (.f r.d):=by unfold dR;rw[na,aG,Je,h];rfl
 cases r<;>(unfold y1;simp only[Rw.d]at e;walk_at "k";repeat (rw[e];walk_at "k"))<;>rfl
def sv(r:Rw):Dt:=match r.sets with|some x=>.str x|none=>.G8
theorem nz(r:Rw):SG [r.d]=O (.f (sv r)):=by cases r<;>(unfold SG sv;simp only[Rw.d,Rw.sets];walk_at "k")<;>rfl
theorem jD:∀q:Z La,cO (am 0) q63 (vL 0) [V] (q.map La.d)=O ((Kn q).map .str)
 |[]=>rfl
 |.nm x::q=>by rw[Ia];unfold cO;rw[jD q];rfl
 |.vl i::q=>by rw[Ia];unfold cO;rw[jD q];rfl
theorem lK(r:Rw):SF [r.d]=O (.e ((Kn r.atoms).map .str)):=by have q:(Kn r.atoms).length<=2:=Iw (i8 _) (by cases r<;>simp[Rw.atoms]);have e:=jD r.atoms;cases r<;>(simp only[Rw.atoms,List.map]at e q ⊢;unfold SF;simp only[Rw.d];walk_at "k";first|rw[e]|skip)<;>(try walk_at "k")<;>(try rw[lx (by rw[Hl];lia)])<;>rfl
variable{J0:Z Rw}{i:Nat}{r:Rw}
theorem kh(h:J0[i]?=O r):ah (dW J0) (.int i)=O (.f (.t ((r.outs i).map dI))):=by unfold dW;rw[d5,aG,List.getElem?_mapIdx,h];rfl
theorem A2(l:Z Nat)(x:Nat):((l.map dI).any λy=>MV y (dI x))=decide (x∈l):=by
 rw[O8,Vy];constructor
 .rintro⟨y,Y,e⟩;obtain⟨z,q,rfl⟩:=Jg.mp Y;have:(z:Int)=x:=by simpa[dI,MV] using e
  have:z=x:=by lia
  subst this;exact decide_eq_true q
 .intro h;exact⟨dI x,Jg.mpr ⟨x,of_decide_eq_true h,rfl⟩,by simp[dI,MV]⟩
theorem qy(l:Z Nat):(l.map dI).all cu=D:=by rw[QD];intro y q;obtain⟨z,Y,rfl⟩:=Jg.mp q;rfl
variable{neg:Bool}
theorem HC{l:Z Nat}{x:Nat}:aS neg (dI x) (.e (l.map dI))=O (.f (.bl (if neg then !decide (x∈l)else decide (x∈l)))):=by
 show Sj neg (dI x) (.e (l.map dI))=_;unfold Sj
 have:WQ (dI x) (.e (l.map dI))=O (decide (x∈l)):=by show(if cu (dI x)&&(l.map dI).all cu then O ((l.map dI).any λy=>MV y (dI x))else V)=_;rw[qy,A2];rfl
 rw[this];rfl
def Lp(k:Nat×Z Str):Dt:=.t [dI k.1,.t (k.2.map .str)]
theorem ki(b:Dt)(ks:Z (Nat×Z Str))(h:ks.length<=1000):OU [.t [b,.t (ks.map Lp)]]=O (.e ((ks.map (·.1)).map dI)):=by unfold OU;walk_at "k";rw[aR (h:=λp:Nat×Z Str=>dI p.1) λp hp=>⟨_,rfl,rfl,by unfold y83 Lp;walk_at "k"⟩];walk_at "k";rw[lx (by rw[Hl];lia),IV];walk_at "k";rfl
abbrev IU(b:Dt)(ks:Z (Nat×Z Str)):Dt:=.t [b,.t (ks.map Lp)]
abbrev MC(c s:Dt)(J0:Z Rw):Dt:=.t [c,s,dR J0]
def cD(J0:Z Rw)(i:Nat):Z Nat:=match J0[i]? with
 |some r=>r.outs i
 |none=>[]
theorem eh(h:J0[i]?=O r):cD J0 i=r.outs i:=by unfold cD;rw[h]
def HW(J0:Z Rw)(l:Z Nat):Z Nat:=l.filter λi=>(cD J0 i).any λj=>decide (j∈l)
theorem jE:∀bs:Z Bool,mG (bs.map .bl)=O bs
 |[]=>rfl
 |b::bs=>by rw[Ia];unfold mG;rw[jE bs];rfl
variable{fa fb:De->C Dt}{J:De}{x y:Dt}
theorem eV{g:Dt->Dt->C T}(h1:fa J=O x)(h2:fb J=O y):d2 g fa fb J=g x y:=by unfold d2;rw[h1,h2];rfl
theorem aD{f:De->C T}{t:T}(h:f J=O t):bo f J=t.d:=by unfold bo;rw[h];rfl
variable{src:Z (C Nat)}{bb:Dt->De->C De}{ft:De->C Bool}{fe:De->C Dt}{ds ys:Z Dt}
theorem aC{fi:De->C (Z Dt)}(h1:fi J=O ds)(h2:cO bb ft fe (dC src J) ds=O ys)(h3:ys.length<=1000000):aL src fi bb ft fe J=O (.e ys):=by unfold aL;rw[h1,Im,h2,Im,if_pos (small h3)]
variable{f:De->C Dt}
theorem dj{F:Z Dt->C T}(h:f J=O x):ag F (aa f ae) J=F [x]:=by unfold ag aa ae;rw[h];rfl
variable{g:De->C Dt}
theorem dM{F:Z Dt->C T}(h:f J=O x)(h2:g J=O y):ag F (aa f (aa g ae)) J=F [x,y]:=by unfold ag aa ae;rw[h,h2];rfl
theorem vj(kept:Z Nat)(n:Nat):cO (am 0) q54 (vL 0) [V,O (.f (.e (kept.map dI)))] ((HQ n).map dI)=O (((HQ n).filter λi=>!decide (i∈kept)).map dI):=aJ λj _=>⟨[O (.f (dI j)),O (.f (.e (kept.map dI)))],rfl,by unfold q54;show((aS D (dI j) (.e (kept.map dI))).bind Sf)=_;rw[HC];rfl,λ_=>rfl⟩
theorem sr(n:Nat)(h:n<=1000000):d6 [.int n]=O ((HQ n).map dI):=by rw[D7 Θ];unfold iw dI;simp
theorem aN:ae J=O []:=rfl
theorem ai{fs:De->C (Z Dt)}{d:Dt}(h1:f J=O d)(h2:fs J=O ds):aa f fs J=O (d::ds):=by unfold aa;rw[h1,Im,h2];rfl
theorem eC{fs:De->C (Z Dt)}(h:fs J=O ds)(q:ds.length<=1000):bi fs J=O (.f (.t ds)):=by unfold bi;rw[h];exact if_pos (small Θ)
theorem A3(h:f J=O x)(h2:g J=O y):bi (aa f (aa g ae)) J=O (.f (.t [x,y])):=eC (ai h (ai h2 rfl)) Ξ
theorem ET{d:Dt}(h:f J=O d):G6 f J=O (.f d):=by unfold G6;rw[h];rfl
theorem gU{F:Z Dt->C T}{h:De->C Dt}{z:Dt}(h1:f J=O x)(h2:g J=O y)(h3:h J=O z):ag F (aa f (aa g (aa h ae))) J=F [x,y,z]:=by unfold ag;rw[ai h1 (ai h2 (ai h3 aN))];rfl
theorem oD{g:Dt->Dt->C T}{d:Dt}(h1:fa J=O x)(h2:fb J=O y)(h:g x y=O (.f d)):bo (d2 g fa fb) J=O d:=aD (t:=.f d) ((eV h1 h2).trans h)
section
variable{F:Z Dt->C T}{f g h:De->C Dt}{J:De}{x y z d:Dt}{l:Z Dt}
theorem LV(h1:f J=O x)(e:F [x]=O (.f d)):bo (ag F (aa f ae)) J=O d:=aD (t:=.f d) ((dj h1).trans e)
theorem Lb(h1:f J=O x)(h2:g J=O y)(e:F [x,y]=O (.f d)):bo (ag F (aa f (aa g ae))) J=O d:=aD (t:=.f d) ((dM h1 h2).trans e)
theorem OY(h1:f J=O x)(h2:g J=O y)(h3:h J=O z)(e:F [x,y,z]=O (.f d)):bo (ag F (aa f (aa g (aa h ae)))) J=O d:=aD (t:=.f d) ((gU h1 h2 h3).trans e)
theorem L7(h1:f J=O x)(e:F [x]=O (.e l)):bo (ag F (aa f ae)) J=O (.e l):=aD (t:=.e l) ((dj h1).trans e)
theorem Oh(h1:f J=O x)(h2:g J=O y)(e:F [x,y]=O (.e l)):bo (ag F (aa f (aa g ae))) J=O (.e l):=aD (t:=.e l) ((dM h1 h2).trans e)
end
variable{b:Bool}
theorem ao{g:Dt->Dt->C T}(h1:fa J=O x)(h2:fb J=O y)(h:g x y=O (.f (.bl b))):G5 g fa fb J=O b:=by unfold G5;rw[eV h1 h2,h];rfl
theorem A4{f:De->C T}{t:T}(h:f J=O t):az f J=O (.rt t):=by unfold az;rw[h];rfl
structure Hd where
 x:Str
 n:Int
 b:Bool
noncomputable def HV(h:Hd):Dt:=.t [.str h.x,.int h.n,.bl h.b]
theorem kj{α:Type}(f:α->Dt)(cs ss:Z α)(q:cs.length+ss.length<=1000):lr (.t (cs.map f)) (.t (ss.map f))=O (.f (.t ((cs++ss).map f))):=by
 cases cs with
 |nil=>rfl
 |cons a cs=>
  cases ss with
  |nil=>rw[Pb];rfl
  |cons b ss=>show(if((a::cs).map f).length+((b::ss).map f).length<=Hz/\(a::cs).map f≠[]/\(b::ss).map f≠[]then _ else V)=_;rw[if_pos ⟨by rw[Hl,Hl];exact small Θ,Ξ,Ξ⟩,IL];rfl
theorem qz(cs ss:Z Hd)(R:Dt)(q:cs.length+ss.length<=1000):SI [.t [.t (cs.map HV),.t (ss.map HV),R]]=O (.e ((((cs++ss).filter λh=>!h.b).map (·.x)).map .str)):=by
 unfold SI;walk_at "k";rw[kj HV cs ss q];walk_at "k"
 rw[aJ (h:=λh:Hd=>Dt.str h.x) (p:=λh=>!h.b) λh _=>⟨_,rfl,by
  unfold q69 HV;walk_at "k"
  try rfl,λ_=>by unfold q67 HV;walk_at "k"⟩]
 walk_at "k";rw[lx (by rw[Hl];exact Iw (K6 _ _) (by rw[HZ];lia)),IV];walk_at "k";rfl
abbrev Jv(cs ss:Z Hd)(J0:Z Rw):Dt:=.t [.t (cs.map HV),.t (ss.map HV),dR J0]
theorem KH{f g:De->C Bool}{a:Bool}(h1:f J=O a)(h2:a=ξ->g J=O b):JJ f g J=O (a||b):=by
 rw[BQ,h1];cases a with
 |true=>rfl
 |false=>exact h2 rfl
theorem fz{fs:De->C (Z Dt)}(h:fs J=O ds)(q:ds.length<=1000):bo (aX fs) J=O (.e ds):=aD (t:=.e ds) (by rw[Eb,h,Im,lx Θ])
theorem o6{fs:De->C (Z Dt)}(h:fs J=O ds)(q:ds.length<=1000):bo (bi fs) J=O (.t ds):=aD (t:=.f (.t ds)) (eC h q)
variable{l m:Z Dt}
theorem fW(h1:fa J=O (.e l))(h2:fb J=O (.e m))(q:l.length+m.length<=1000):bo (d2 bP fa fb) J=O (.e (l++m)):=aD (t:=.e (l++m)) ((eV h1 h2).trans (AC Θ))
variable{a:Nat}
theorem dE{b c:Nat}(h1:fa J=O (dI a))(h2:fb J=O (dI b))(h:c=a+b):bo (d2 bP fa fb) J=O (dI c):=oD h1 h2 (by rw[h];exact congrArg (λz:Int=>O (T.f (.int z))) (Int.natCast_add a b).symm)
variable{n:Nat}
theorem cg(h:f J=O (.e l))(q:n=l.length):bo (ag bz (aa f ae)) J=O (dI n):=LV h (by rw[q];rfl)
theorem cz(h:f J=O x)(h2:Qi x=O ds):HS f J=O ds:=by unfold HS;rw[h];exact h2
theorem t9(a n:Nat)(h:a<=n)(q:n<=1000000):rh [dI a,.int n]=O ((RE a (n-a)).map dI):=by
 show rh [.int a,.int n]=_;unfold rh;have h1:fZ (a:Int)=D:=by unfold fZ;simp;lia
 have h2:fZ (n:Int)=D:=by unfold fZ;simp;lia
 dsimp only;rw[h1,h2,YT,if_pos rfl];unfold iw dI;rw[show((n:Int)-a).toNat=n-a by lia,List.range'_eq_map_range,IV];rfl
theorem iB{f g:De->C Bool}{a:Bool}(h1:f J=O a)(h2:a=D->g J=O b):cU f g J=O (a&&b):=by
 unfold cU;rw[h1,Im];cases a with
 |true=>exact h2 rfl
 |false=>rfl
section
variable{f g h:De->C Dt}{J:De}
theorem EU(h1:f J=O (dI i))(h2:g J=O (dI n))(q:0<n):bo (d2 du f g) J=O (dI (i%n)):=oD h1 h2 ((dX Θ).trans (by unfold dI;rw[Int.natCast_emod]))
theorem e8{b c:Nat}(h1:f J=O (dI a))(h2:g J=O (dI b))(h:c+b=a):bo (d2 eM f g) J=O (dI c):=oD h1 h2 (by show O (T.f (.int ((a:Int)-b)))=_;unfold dI;rw[show(a:Int)-b=c by lia])
end
theorem if_e{c:De->C Bool}{g1 g2:De->C Hj}{r:C Hj}(h:c J=O b)(h1:b=D->g1 J=r)(h2:b=ξ->g2 J=r):HD c g1 g2 J=r:=by
 cases b with
 |true=>exact(Yi h).trans (h1 rfl)
 |false=>exact(Yj h).trans (h2 rfl)
section
variable{g g1 g2:De->C Hj}{J HP:De}{Q:T->Prop}{c:De->C Bool}{bb:Dt->De->C De}{fi:De->C (Z Dt)}{ds:Z Dt}
end
def Rz(o:C Hj)(N:De->Prop)(R:T->Prop):Prop:=(∃ J,o=O (.nx J)/\N J)∨∃t,o=O (.rt t)/\R t
section
variable{g g1 g2:De->C Hj}{J HP:De}{N N':De->Prop}{R R':T->Prop}{c:De->C Bool}{bb:Dt->De->C De}{fi:De->C (Z Dt)}{i:Nat}{f:De->C T}{F:De->C Dt}{d:Dt}{t:T}{o:C Hj}
theorem Rz.of{m:Nat}(h:Rz (g (ds.map (λd=>O (T.f d))++Ol (m-ds.length) V)) (λ_=>R (.f .G8)) R):∃t,bf m g ds=O t/\R t:=by
 rcases h with ⟨J,e,h⟩|⟨t,e,h⟩
 .exact⟨_,by unfold bf;rw[e],h⟩
 .exact⟨t,A0 e,h⟩
theorem Rz.ofC{m:Nat}{caps:Z Dt}(h:Rz (g (UJ m ds caps)) (λ_=>R (.f .G8)) R):∃t,gC m g caps ds=O t/\R t:=by
 rcases h with ⟨J,e,h⟩|⟨t,e,h⟩
 .exact⟨_,by unfold gC;rw[e],h⟩
 .exact⟨t,by unfold gC;rw[e],h⟩
theorem Rz.mono(h:Rz o N R)(n:∀ J,N J->N' J)(r:∀t,R t->R' t):Rz o N' R':=h.imp (λ⟨J,e,h⟩=>⟨J,e,n J h⟩) λ⟨t,e,h⟩=>⟨t,e,r t h⟩
theorem Rz.nx(h:N J):Rz (O (.nx J)) N R:=.inl ⟨J,rfl,h⟩
theorem Rz.seq(h:Rz (g1 J) (λHP=>Rz (g2 HP) N R) R):Rz (aj g1 g2 J) N R:=by
 rcases h with ⟨HP,e,h⟩|⟨t,e,h⟩
 .rw[jA e];exact h
 .exact .inr ⟨t,D8 e,h⟩
theorem Rz.set(h:F J=O d)(k:N (J.set i (O (.f d)))):Rz (ar i (G6 F) J) N R:=.inl ⟨_,lI (ET h),k⟩
theorem Rz.own(h:f J=O t)(k:N (J.set i (O t))):Rz (ar i f J) N R:=.inl ⟨_,lI h,k⟩
theorem Rz.ret(h:f J=O t)(k:R t):Rz (az f J) N R:=.inr ⟨t,A4 h,k⟩
theorem Rz.Lq(h:J[i]?=O (O t))(k:R t):Rz (eZ i J) N R:=.inr ⟨t,by unfold eZ;rw[h],k⟩
theorem Rz.if(h:c J=O b)(h1:b=D->Rz (g1 J) N R)(h2:b=ξ->Rz (g2 J) N R):Rz (HD c g1 g2 J) N R:=by
 cases b with
 |true=>rw[Yi h];exact h1 rfl
 |false=>rw[Yj h];exact h2 rfl
theorem Rz.app(h:J[i]?=O (O (.e l)))(q:F J=O d)(Y:l.length<=10000)(k:N (J.set i (O (.e (l++[d]))))):Rz (z8 i F J) N R:=.inl ⟨_,yk h q Θ,k⟩
theorem Rz.SY{α:Type}{f:α->Dt}{l:Z α}(I:Z α->De->Prop)(hs:∀p x q J,l=p++x::q->I p J->∃ HP,bb (f x) J=O HP/\Rz (g HP) (I (p++[x])) R):∀(p q:Z α)(J:De),l=p++q->I p J->Rz (fu bb g (q.map f) J) (I l) R
 |p,[],J,e,h=>.inl ⟨J,rfl,by rw[e,Pb];exact h⟩
 |p,x::q,J,e,h=>by
  obtain⟨HP,e1,h1⟩:=hs p x q J e h
  have z:fu bb g ((x::q).map f) J=(g HP).bind λo=>match o with
   |.nx Y=>fu bb g (q.map f) Y
   |.ct Y=>fu bb g (q.map f) Y
   |.bk Y=>O (.nx Y)
   |.rt t=>O (.rt t):=by
   show((bb (f x) J).bind _)=_;rw[e1];rfl
  rcases h1 with ⟨Y,e2,h2⟩|⟨t,e2,h2⟩
  .rw[e2]at z;exact z▸Rz.SY I hs (p++[x]) q Y (by rw[e,M7];rfl) h2
  .rw[e2]at z;exact .inr ⟨t,z,h2⟩
theorem Rz.for{α:Type}{f:α->Dt}{l:Z α}(I:Z α->De->Prop)(hi:fi J=O (l.map f))(Y:I [] J)(hs:∀p x q J,l=p++x::q->I p J->∃ HP,bb (f x) J=O HP/\Rz (g HP) (I (p++[x])) R)(k:∀ J,I l J->N J):Rz (cM fi bb g J) N R:=by rw[Ed,hi];exact(Rz.SY I hs [] l J rfl Y).mono k λ_ h=>h
theorem Rz.while(I:Nat->De->Prop)(hs:∀m J,I m J->(c J=O ξ/\N J)∨c J=O D/\Rz (g J) (λHP=>∃k,k<m/\I k HP) R):∀(n m:Nat)(J:De),m<n->I m J->Rz (be c g n J) N R
 |0,m,J,Y,_=>absurd Y (Uf _)
 |n+1,m,J,Y,h=>by
  rcases hs m J h with ⟨e,h⟩|⟨e,⟨HP,q,k,hk,h⟩|⟨t,q,h⟩⟩
  .exact .inl ⟨J,t8 e,h⟩
  .rw[t7 e q];exact Rz.while I hs n k HP Θ h
  .exact .inr ⟨t,qv e q,h⟩
end
variable{HP:De}{N:De->Prop}{R:T->Prop}
theorem Rz.step{g:De->C Hj}(h:g J=O (.nx HP))(k:N HP):Rz (g J) N R:=.inl ⟨HP,h,k⟩
theorem Rz.Ii{g:De->C Hj}{t:T}{d:Dt}(h:J[i]?=O (O t))(q:t.d=O d)(k:Rz (g (J.set i (O (.f d)))) N R):Rz (lY i g J) N R:=by unfold lY;rw[h];dsimp only;rw[q];exact k
theorem Rz.ext{f:De->C T}(h:J[i]?=O (O (.e l)))(q:f J=O (.e m))(Y:l.length+m.length<=10000)(k:N (J.set i (O (.e (l++m))))):Rz (Rh i f J) N R:=.inl ⟨_,(GP h q).trans (AZ Θ),k⟩
noncomputable def kI(j:Nat):Hr:=.inl (j:Int)
variable{j:Nat}
theorem o7(z:kI a=kI j):a=j:=by unfold kI at z;have:=Ot.inj z;lia
theorem nA(j:Nat):∀seen:Z Nat,(cW (seen.map kI) (seen.map λ_=>Dt.bl D) (kI j)).isSome=decide (j∈seen)
 |[]=>rfl
 |a::seen=>by
  simp only[Ia,cW];by_cases h:a=j
  .subst h;rw[if_pos rfl];simp
  .have h':¬ j=a:=λz=>h z.symm
   rw[if_neg (λz=>h (o7 z)),nA j seen];simp[h']
def kT(l:Z Nat):T:=.IJ (l.map λj=>(kI j,.bl D))
def Mq(K:Z Nat):Dt:=.IJ (K.map kI) (K.map λ_=>.bl D)
theorem su(l:Z Nat):(kT l).d=O (Mq l):=by unfold kT T.d;dsimp only;rw[IV,IV];rfl
theorem lL(neg:Bool)(j:Nat)(K:Z Nat):aS neg (dI j) (Mq K)=O (.f (.bl (if neg then !decide (j∈K)else decide (j∈K)))):=by unfold Mq dI;rw[OR,<- nA];cases neg<;>rfl
theorem nB(j:Nat):∀seen:Z Nat,j∉seen->jV (seen.map λj=>(kI j,Dt.bl D)) (kI j) (.bl D)=(seen++[j]).map λj=>(kI j,.bl D)
 |[],_=>rfl
 |a::seen,h=>by
  have h1:¬ a=j:=λz=>h (z▸.head _)
  simp only[Ia,Y1];unfold jV;rw[if_neg (λz=>h1 (o7 z)),nB j seen λz=>h (.tail _ z)]
theorem Rz.put{i:Nat}{seen:Z Nat}{fk:De->C Dt}(h:J[i]?=O (O (kT seen)))(hk:fk J=O (dI j))(he:fe J=O (.bl D))(q:j∉seen)(Y:seen.Nodup)(hl:seen.length<=10000)(k:N (J.set i (O (kT (seen++[j]))))):Rz (hJ i fk fe J) N R:=by
 refine .inl ⟨_,(Co (i:=i) (kd:=dI j) (k:=kI j) (d:=.bl D) (l:=seen.map λj=>(kI j,.bl D)) h hk rfl he (by rw[Hl];lia) ?_).trans ?_,k⟩
 .rw[IV,Vr,Vx];exact Y5 (λ{a b}(z:a≠b) e=>z (o7 e)) Y
 .rw[nB j seen q];rfl
theorem sw(h:f J=O (.e l)):G5 (eN λi j=>decide (j<i)) (bo (ag bz (aa f ae))) (kD (.int 0)) J=O (decide (l≠[])):=ao (cg h rfl) (y:=.int 0) rfl (by
 show O (T.f (.bl (decide ((0:Int)<(l.length:Nat)))))=_;cases l with
 |nil=>rfl
 |cons=>rw[decide_eq_true (by rw[L9];lia),decide_eq_true Ξ])
theorem dG(h:J0[i]?=O r):ah (dR J0) (dI i)=O (.f r.d):=by unfold dR dI;rw[na,aG,Je,h];rfl
def Rw.kd:Rw->Str
 |.copy _ _=>"copy"|.op _ _ _ _=>"op"|.load _ _=>"load"|.store _ _=>"store"|.take _ _ _=>"take"|.lay _ _ _=>"lay"|.NY _=>"hear"|.say _=>"say"|.iff _ _=>"if"|.go _=>"go"|.fin _=>"end"
noncomputable def Rw.JD:Rw->Bool
 |.fin _=>D
 |_=>ξ
section
variable{F N:De->C Dt}{J:De}{r:Rw}{nm:Str}
theorem SZ(h:F J=O r.d):bo (d2 ah F (kD (.int 0))) J=O (.str (Rw.kd r)):=oD h (y:=.int 0) rfl (by cases r<;>rfl)
theorem ix1(h:F J=O r.d){d:Dt}(e:ah r.d (.int 1)=O (.f d)):bo (d2 ah F (kD (.int 1))) J=O d:=oD h (y:=.int 1) rfl e
theorem Rr(r:Rw):Hs ξ (.str (Rw.kd r)) (.str "end")=O (.f (.bl (Rw.JD r))):=by cases r<;>unfold Rw.kd Rw.JD<;>walk_at "k"
theorem sx(h:F J=O r.d):G5 (Hs ξ) (bo (d2 ah F (kD (.int 0)))) (kD (.str "end")) J=O (Rw.JD r):=ao (SZ h) (y:=.str "end") rfl (Rr r)
theorem o8(h:F J=O r.d)(q:N J=O (.str nm)):cU (G5 (aS ξ) (bo (d2 ah F (kD (.int 0)))) (bo (bi (aa (kD (.str "load")) (aa (kD (.str "take")) ae))))) (G5 (Hs ξ) (bo (d2 ah F (kD (.int 2)))) N) J=O (r.Mp nm):=by rw[oW,ao (b:=match r with|.load _ _=>D|.take _ _ _=>D|_=>ξ) (SZ h) (y:=.t [.str "load",.str "take"]) rfl (by cases r<;>unfold Rw.kd<;>walk_at "k")];cases r<;>first|rfl|exact ao (oD h (y:=.int 2) rfl rfl) q Ic
theorem Ru(r:Rw):aS ξ (.str (Rw.kd r)) (.t [.str "store",.str "lay"])=O (.f (.bl (match r with|.store _ _=>D|.lay _ _ _=>D|_=>ξ))):=by cases r<;>unfold Rw.kd<;>walk_at "k"
theorem o9(h:F J=O r.d)(q:N J=O (.str nm)):cU (G5 (aS ξ) (bo (d2 ah F (kD (.int 0)))) (bo (bi (aa (kD (.str "store")) (aa (kD (.str "lay")) ae))))) (G5 (Hs ξ) (bo (d2 ah F (kD (.int 1)))) N) J=O (r.Lo nm):=by rw[oW,ao (SZ h) (y:=.t [.str "store",.str "lay"]) rfl (Ru r)];cases r<;>first|rfl|exact ao (ix1 h rfl) q Ic
theorem vk(h:F J=O r.d)(q:N J=O (.str nm)):cU (G5 (Hs ξ) (bo (d2 ah F (kD (.int 0)))) (kD (.str "store"))) (G5 (Hs ξ) (bo (d2 ah F (kD (.int 1)))) N) J=O (r.stores nm):=by rw[oW,ao (b:=match r with|.store _ _=>D|_=>ξ) (SZ h) (y:=.str "store") rfl (by cases r<;>unfold Rw.kd<;>walk_at "k")];cases r<;>first|rfl|exact ao (ix1 h rfl) q Ic
theorem pb(h:F J=O (.e l))(q:l.length=n)(h2:n<=1000):cH d6 (aa (bo (ag bz (aa F ae))) ae) J=O ((HQ n).map dI):=by unfold cH;rw[ai (cg h q.symm) aN,Im];exact sr n Θ
theorem pd(h:F J=O (.t l)):bo (ag bz (aa F ae)) J=O (dI l.length):=LV h rfl
theorem c1I{d:Dt}{c:String}(h:F J=O d):bo (dJ c F) J=(dJ c (kD d) J).bind T.d:=by unfold bo dJ;rw[h];rfl
theorem km(h:F J=O (.t l))(q:l.length=n)(h2:n<=1000):cH d6 (aa (bo (ag bz (aa F ae))) ae) J=O ((HQ n).map dI):=by unfold cH;rw[ai (LV (d:=dI n) h (by rw[<- q];rfl)) aN,Im];exact sr n Θ
end
theorem OZ{b:Str}:Hs neg (sv r) (.str b)=O (.f (.bl (if neg then decide (r.sets≠O b)else decide (r.sets=O b)))):=by
 unfold sv;cases r.sets with
 |none=>cases neg<;>rfl
 |some x=>cases neg<;>(by_cases h:x=b<;>simp[h,Ic,Jo])
theorem gW(h1:f J=O x)(h2:g J=O y):bo (bi (aa f (aa g ae))) J=O (.t [x,y]):=o6 (ai h1 (ai h2 aN)) Ξ
theorem pe{c:De->C Bool}{f g:De->C T}{t:T}(h:c J=O b)(h1:b=D->f J=O t)(h2:b=ξ->g J=O t):Qh c f g J=O t:=by
 rw[GG,h];cases b with
 |true=>exact h1 rfl
 |false=>exact h2 rfl
theorem EV(J0:Z Rw):eQ 0 (J0.map Rw.d)=J0.zipIdx.map λp=>.t [dI p.2,p.1.d]:=by rw[nq,qr8];unfold dI;simp
theorem EW{p q:Z (Rw×Nat)}{x:Rw×Nat}(h:J0.zipIdx=p++x::q):J0[x.2]?=O x.1:=qu7.mp (by rw[h];simp)
def E0(J0:Z Rw)(K:Z Nat)(i:Nat):Prop:=i∉K/\∃r,J0[i]?=O r/\Rw.JD r=D
variable{c s:Dt}
theorem EX {b:Dt} {ks:Z (Nat×Z Str)} (S3:ks.length<=1000) :
  ∃t,y55 [MC c s J0,IU b ks]=O t/\((t=.f .G8/\∀i,¬ E0 J0 (ks.map (·.1)) i)∨∃i,E0 J0 (ks.map (·.1)) i/\t=.f (.t [.str "end",dI i])):=by
 refine Rz.of (.seq (.set (L7 rfl (ki b ks S3)) (.seq (.for (f:=λp:Rw×Nat=>.t [dI p.2,p.1.d]) (l:=J0.zipIdx) (λp J=>(∃x y,J=[O (.f (MC c s J0)),O (.f (IU b ks)),O (.f (.e ((ks.map (·.1)).map dI))),x,y])/\∀z∈p,Rw.JD z.1=D->z.2∈ks.map (·.1)) ?_ ⟨⟨_,_,rfl⟩,nofun⟩ ?_ ?_))))
 .rw[<- EV];rfl
 .rintro p x q J e ⟨⟨y,z,rfl⟩,h⟩;refine⟨_,rfl,.if (b:=Rw.JD x.1&&!decide (x.2∈ks.map (·.1))) (iB (sx rfl) λ_=>ao (x:=dI x.2) rfl rfl HC) (λg=>?_) λg=>.nx ⟨⟨_,_,rfl⟩,λw Y hf=>?_⟩⟩
  .rw[IH]at g;exact .ret (A3 (y:=dI x.2) rfl rfl) (.inr ⟨x.2,⟨by simpa using g.2,x.1,EW e,g.1⟩,rfl⟩)
  .rcases IC.mp Y with Y|Y
   .exact h w Y hf
   .rw[HK.mp Y]at hf ⊢;rw[hf]at g;simpa using g
 .rintro J ⟨_,h⟩;exact .ret rfl (.inl ⟨rfl,λi ⟨h1,r,h2,h3⟩=>h1 (h (r,i) (qu7.mpr h2) h3)⟩)
theorem EY{F:De->C Dt}(h:F J=O (.bl b)):ca F J=O b:=by unfold ca;rw[h];rfl
theorem vm(J0:Z Rw)(l:Z Nat)(q:∀i∈l,i<J0.length):cO (am 0) z62 (vL 0) [V,O (.f (dW J0)),O (.f (.e (l.map dI)))] (l.map dI)=O ((HW J0 l).map dI):=
 aJ λi hi=>⟨[O (.f (dI i)),O (.f (dW J0)),O (.f (.e (l.map dI)))],rfl,by
  have Y:J0[i]?=O (J0[i]'(q i hi)):=gQ (q i hi);rw[eh Y]
  refine EY (LV (x:=.e ((((J0[i]'(q i hi)).outs i).map λj=>decide (j∈l)).map .bl)) (aD (aC (cz (oD (x:=dW J0) (y:=dI i) rfl rfl (kh Y)) rfl) (by rw[IV];exact aR λj _=>⟨[O (.f (dI j)),O (.f (.e (l.map dI)))],rfl,rfl,oD (x:=dI j) rfl rfl HC⟩) (by rw[Hl,Hl];exact Iw (Rw.Ie _ _) Ω))) ?_)
  unfold kW;dsimp only;rw[jE,RF,List.any_map];rfl,λ_=>rfl⟩
theorem sB (J0:Z Rw) (l:Z Nat) (hn:J0.length<=500) (hl:∀ i∈l,i<J0.length) (nd:l.Nodup) :
  ∃E:Z Nat,XO [dW J0,.e (l.map dI)]=O (.f (.e (E.map dI)))/\HW J0 E=E/\E.Nodup/\(∀i∈E,i∈l)/\∀ζ:Nat->Prop,(∀i,ζ i->i∈l)->(∀i,ζ i->∃j∈cD J0 i,ζ j)->∀i,ζ i->i∈E:=by
 have h1:l.length<=J0.length:=by
  have:=bq nd (m:=HQ J0.length) λx hx=>IS.mpr (hl x hx)
  simpa using this
 obtain⟨_,e,E,rfl,h⟩:∃t,XO [dW J0,.e (l.map dI)]=O t/\∃E:Z Nat,t=.f (.e (E.map dI))/\HW J0 E=E/\E.Nodup/\(∀i∈E,i∈l)/\∀ζ:Nat->Prop,(∀i,ζ i->i∈l)->(∀i,ζ i->∃j∈cD J0 i,ζ j)->∀i,ζ i->i∈E:=by
  refine Rz.of (.seq (.set (d:=.e (l.map dI)) rfl (.seq (.set (d:=.bl D) rfl (.seq (Rz.while (λm J=>∃(E:Z Nat)(c:Bool)(x4:C T),J=[O (.f (dW J0)),O (.f (.e (l.map dI))),O (.f (.e (E.map dI))),O (.f (.bl c)),x4]/\((c=D/\m=E.length+1)∨(c=ξ/\HW J0 E=E))/\E.Nodup/\(∀i∈E,i∈l)/\∀ζ:Nat->Prop,(∀i,ζ i->i∈l)->(∀i,ζ i->∃j∈cD J0 i,ζ j)->∀i,ζ i->i∈E) ?_ 100000 (l.length+1) _ Θ ⟨l,D,_,rfl,.inl ⟨rfl,rfl⟩,nd,λ_ h=>h,λζ h _ i hi=>h i hi⟩))))));rintro m J ⟨E,c,x4,rfl,⟨rfl,rfl⟩|⟨rfl,hE⟩,Y,q,mx⟩
  .have sl:(HW J0 E).length<=E.length:=K6 _ _;have le:=bq Y q;refine .inr ⟨rfl,.seq (.set (aD (aC (ds:=E.map dI) rfl (vm J0 E λi hi=>hl i (q i hi)) (by rw[Hl];lia))) (.seq (.set (d:=.bl (decide ((HW J0 E).length<E.length))) (oD (cg (n:=(HW J0 E).length) rfl (Hl ..).symm) (cg (n:=E.length) rfl (Hl ..).symm) ?_) (.set (d:=.e ((HW J0 E).map dI)) rfl ?_))))⟩
   .show O (T.f (.bl (decide (((HW J0 E).length:Int)<(E.length:Nat)))))=_;rw[decide_eq_decide.mpr Int.ofNat_lt]
   .refine⟨if(HW J0 E).length<E.length then(HW J0 E).length+1 else 0,by split<;>lia,HW J0 E,_,_,rfl,?_,Y.sublist Y0,λi hi=>q i (JP.mp hi).1,λζ c1 c2 i hi=>JP.mpr ⟨mx ζ c1 c2 i hi,Vy.mpr ?_⟩⟩
    .by_cases z:(HW J0 E).length<E.length
     .exact .inl ⟨decide_eq_true z,if_pos z⟩
     .have:HW J0 E=E:=(Y0 (p:=λi=>(cD J0 i).any λj=>decide (j∈E))).eq_of_length (by unfold HW at *;lia);exact .inr ⟨decide_eq_false z,by rw[this,this]⟩
    .obtain⟨j,hj,hcj⟩:=c2 i hi;exact⟨j,hj,decide_eq_true (mx ζ c1 c2 j hcj)⟩
  .exact .inl ⟨rfl,.Lq rfl ⟨E,rfl,hE,Y,q,mx⟩⟩
 exact⟨E,e,h⟩
structure Vj(J0:List Rw)(E w:List Nat)(h:Nat):Prop where
 nd:w.Nodup
 all:∀i∈w++[h],i∈E
 ed:∀(k a b:Nat),(w++[h])[k]?=O a->(w++[h])[k+1]?=O b->b∈cD J0 a
variable{E w:Z Nat}{h:Nat}
theorem Vj.step(c:Vj J0 E w h)(Y:h∉w)(hj:j∈cD J0 h)(hE:j∈E):Vj J0 E (w++[h]) j:=by
 refine⟨Mt.mpr ⟨c.nd,Ξ,λa ha b hb e=>Y (by rw[HK.mp hb]at e;exact e▸ha)⟩,λi hi=>?_,λk a b h1 h2=>?_⟩
 .rcases IC.mp hi with hi|hi
  .exact c.all i hi
  .rw[HK.mp hi];exact hE
 .have hk:k+1<(w++[h]++[j]).length:=(gX h2).1;simp at hk;have q:k<(w++[h]).length:=by simp;lia
  rw[LF q]at h1;by_cases z:k+1<(w++[h]).length
  .rw[LF z]at h2;exact c.ed k a b h1 h2
  .have e:k=w.length:=by simp at z;lia
   subst e;rw[gR (HG _),zj9]at h1;rw[Pa Ξ]at h2;simp at h1 h2;subst h1 h2;exact hj
structure N0(J0:List Rw)(U:Nat->Prop)(R:List Nat):Prop where
 ne:R≠[]
 nd:R.Nodup
 all:∀i∈R,U i
 ed:∀(k a b:Nat),R[k]?=O a->R[k+1]?=O b->b∈cD J0 a
 turn:∀a b:Nat,R[R.length-1]?=O a->R[0]?=O b->b∈cD J0 a
theorem Vj.ring(c:Vj J0 E w h)(hi:w[i]?=O h):N0 J0 (· ∈ E) (w.drop i):=by
 have hl:i<w.length:=(gX hi).1;refine⟨λz=>?_,c.nd.sublist (List.drop_sublist _ _),λj q=>c.all j (Kj _ (List.mem_of_mem_drop q)),λk a b h1 h2=>?_,λa b h1 h2=>?_⟩
 .have:=congrArg Ld z;simp at this;lia
 .rw[qz1]at h1 h2;have Y:=(gX h2).1;exact c.ed (i+k) a b (by rw[LF Θ];exact h1) (by rw[show i+k+1=i+(k+1)by lia,LF Y];exact h2)
 .rw[qz1]at h1 h2;rw[Nat.add_zero,hi]at h2;cases h2;rw[zd3,show i+(w.length-i-1)=w.length-1 by lia]at h1;refine c.ed (w.length-1) a h (by rw[LF Θ];exact h1) ?_;rw[show w.length-1+1=w.length by lia,gR (HG _),zj9];rfl
theorem yn(hh:h∈w)(hl:w.length<=1000):∃i:Nat,w[i]?=O h/\dL (.e (w.map dI)) [dI h]=O (.f (dI i)):=by
 have Y:(h:Int)∈w.map λj:Nat=>(j:Int):=Jg.mpr ⟨h,hh,rfl⟩
 have q:=zb3.mpr Y;have e0:=lu (w.map λj:Nat=>(j:Int));rw[IV]at e0;refine⟨(w.map λj:Nat=>(j:Int)).idxOf (h:Int),?_,?_⟩
 .have e:=List.getElem_idxOf q;rw[Hl]at q;rw[List.getElem_map]at e;rw[gQ q];congr 1;lia
 .show((l7 (w.map dI)).bind λns=>if(h:Int)∈ns/\ns.length<=100000 then O (T.f (.int (ns.idxOf (h:Int):Nat)))else V)=_;rw[show l7 (w.map dI)=_ from e0,Im,if_pos ⟨Y,by simp;lia⟩];rfl
variable{k:Nat}
theorem yo:Q9 (.e l) (O ((k:Nat):Int)) V=O (.e (l.drop k)):=by
 have e:=HT.GV l.length 0 k;show O (T.e (oG l (O ((k:Nat):Int)) V))=_;unfold oG;rw[e,HT.FY];by_cases z:k<=l.length
 .rw[Nat.min_eq_left z,ze0 Ξ]
 .rw[Nat.min_eq_right Θ,ze4 (HG _),ze4 Θ];simp
theorem A5(hE:HW J0 E=E)(Y:∀i∈E,i<J0.length)(q:h∈E):∃j,j∈cD J0 h/\j∈E/\∀ J:De,vB 3 J=O (dW J0)->vB 6 J=O (dI h)->dC [V,O 4] J=[V,O (.f (.e (E.map dI)))]->bo (d2 ah (bo (aL [V,O 4] (HS (bo (d2 ah (vB 3) (vB 6)))) (am 0) z79 (vL 0))) (kD (.int 0))) J=O (dI j):=by
 have hr:J0[h]?=O (J0[h]'(Y h q)):=by simp[Y h q]
 rw[<- hE]at q;obtain⟨_,hany⟩:=JP.mp q;obtain⟨j0,hj0,NQ⟩:=Vy.mp hany;rw[eh hr]at hj0 ⊢;have P9:=Iw (K6 (λj=>decide (j∈E)) _) (Rw.Ie (J0[h]'(Y h (hE▸q))) h);have k0:j0∈((J0[h]'(Y h (hE▸q))).outs h).filter λj=>decide (j∈E):=JP.mpr ⟨hj0,NQ⟩
 cases hq:((J0[h]'(Y h (hE▸q))).outs h).filter (λj=>decide (j∈E))with
 |nil=>rw[hq]at k0;cases k0
 |cons j r=>
  have hj:j∈((J0[h]'(Y h (hE▸q))).outs h).filter λj=>decide (j∈E):=by rw[hq];exact .head _
  obtain⟨k1,k2⟩:=JP.mp hj
  refine⟨j,k1,of_decide_eq_true k2,λJ h1 h2 h3=>oD (aD (aC (ys:=(j::r).map dI) (cz (oD h1 h2 (kh hr)) rfl) (by rw[h3,<- hq];exact aJ λj _=>⟨_,rfl,ao (x:=dI j) rfl rfl HC,λ_=>rfl⟩) (by rw[Hl,<- hq];lia))) (y:=.int ((0:Nat):Int)) rfl (by rw[d5,aG];rfl)⟩
theorem A6 {b:Dt} {ks:Z (Nat×Z Str)} (hn:J0.length<=500) (S3:ks.length<=1000) :
  ∃t,z48 [MC c s J0,IU b ks]=O t/\((t=.f .G8/\∀ζ:Nat->Prop,(∀i,ζ i->i<J0.length/\i∉ks.map (·.1))->(∀i,ζ i->∃j∈cD J0 i,ζ j)->∀i,¬ ζ i)∨
  ∃R:Z Nat,N0 J0 (λi=>i<J0.length/\i∉ks.map (·.1)) R/\R.length<=J0.length/\t=.tl [.str "ring"] (R.map dI) []):=by
 have ek:=ki b ks S3;have ew:=kg c s J0 Θ;generalize ks.map (·.1)=kept at ek ⊢
 have q:∀i,i∈(HQ J0.length).filter (λi=>!decide (i∈kept))↔i<J0.length/\i∉kept:=λi=>by rw[JP,IS];simp
 obtain⟨E,ee,hE,ndE,Yl,maxE⟩:=sB J0 ((HQ J0.length).filter λi=>!decide (i∈kept)) hn (λi hi=>((q i).mp hi).1) (zd5.sublist Y0);have lE2:∀i∈E,i<J0.length:=λi hi=>((q i).mp (Yl i hi)).1
 have lE:E.length<=J0.length:=by
  have:=bq ndE (m:=HQ J0.length) λx hx=>IS.mpr (lE2 x hx)
  simpa using this
 refine Rz.of (.seq (.set (L7 rfl ek) (.seq (.set (L7 rfl ew) (.seq (.set (d:=.e (E.map dI)) (Lb (x:=dW J0) rfl (aD (aC (fi:=cH d6 _) (ys:=((HQ J0.length).filter λi=>!decide (i∈kept)).map dI) (ds:=(HQ J0.length).map dI) (pb (F:=vB 3) (l:=J0.mapIdx _) rfl qz5 Θ) (vj kept J0.length) ?_)) ee) (.seq (.if (b:=decide (E=[])) (ao (cg (l:=E.map dI) rfl rfl) (y:=.int 0) rfl ?_) (λz=>.ret rfl (.inl ⟨rfl,λζ c1 c2 i hi=>?_⟩)) λz=>.nx (.seq (.own (t:=.e []) rfl (.seq ?_)))))))))))
 .rw[Hl];exact Iw (K6 _ _) (by simp;lia)
 .show O (T.f (.bl (decide (((E.map dI).length:Int)=0))))=_;rw[Hl];cases E with
  |nil=>rfl
  |cons a l=>rw[decide_eq_false (by rw[L9];lia),decide_eq_false Ξ]
 .have:=maxE ζ (λi hi=>(q i).mpr (c1 i hi)) c2 i hi;rw[of_decide_eq_true z]at this;cases this
 .cases Y:E with
  |nil=>exact absurd Y (of_decide_eq_false z)
  |cons e0 E'=>
  rw[<- Y];have me0:e0∈E:=Y▸.head _;refine .set (d:=dI e0) (oD (x:=.e (E.map dI)) rfl (y:=.int ((0:Nat):Int)) rfl (by rw[d5,aG,Y];rfl)) (.seq (Rz.while (λm J=>∃w h,J=[O (.f (MC c s J0)),O (.f (IU b ks)),O (.f (.e (kept.map dI))),O (.f (dW J0)),O (.f (.e (E.map dI))),O (.e (w.map dI)),O (.f (dI h))]/\Vj J0 E w h/\m+w.length=E.length) ?_ 100000 E.length _ Θ ⟨[],e0,rfl,⟨Vz,λi hi=>by rw[HK.mp hi];exact me0,λk a b h1 h2=>by simp at h2⟩,rfl⟩));rintro m J ⟨w,h,rfl,cw,hm⟩;have ht:q73 [O (.f (MC c s J0)),O (.f (IU b ks)),O (.f (.e (kept.map dI))),O (.f (dW J0)),O (.f (.e (E.map dI))),O (.e (w.map dI)),O (.f (dI h))]=O (!decide (h∈w)):=ao (x:=dI h) rfl rfl HC;by_cases hw:h∈w
  .rw[decide_eq_true hw]at ht;obtain⟨i,hi,ei⟩:=yn hw Θ;have R:=cw.ring hi;refine .inl ⟨ht,.ret (t:=.tl [.str "ring"] ((w.drop i).map dI) []) ?_ (.inr ⟨w.drop i,⟨R.ne,R.nd,λj hj=>(q j).mp (Yl j (R.all j hj)),R.ed,R.turn⟩,by simp;lia,rfl⟩)⟩
   have v1:Qk (vB 5) (ie (bo (f6 dL (vB 5) (aa (vB 6) ae)))) kU [O (.f (MC c s J0)),O (.f (IU b ks)),O (.f (.e (kept.map dI))),O (.f (dW J0)),O (.f (.e (E.map dI))),O (.e (w.map dI)),O (.f (dI h))]=O (.e ((w.drop i).map dI)):=by show(((dL (.e (w.map dI)) [dI h]).bind T.d).bind λd=>(Sk d).map O).bind (λl=>Q9 (.e (w.map dI)) l V)=_;rw[ei,List.map_drop];exact yo
   unfold SD Rk SB;rw[v1];rfl
  .rw[decide_eq_false hw]at ht;obtain⟨j,j1,j2,j3⟩:=A5 hE lE2 (cw.all h Ξ);have c2:=cw.step hw j1 j2;have wl:=bq c2.nd λi hi=>c2.all i (Kj _ hi)
   rw[HZ,Lc]at wl;refine .inr ⟨ht,.seq (.app (l:=w.map dI) rfl rfl (by rw[Hl];lia) (.set (j3 _ rfl rfl rfl) ⟨m-1,Θ,w++[h],j,by rw[IL];rfl,c2,by rw[HZ,Lc];lia⟩))⟩
section
variable{g:De->C Hj}{J:De}{N:De->Prop}{R:T->Prop}{bb:Dt->De->C De}{i j:Nat}{l:Z Dt}{d:Dt}
theorem Rz.pop(h:J[i]?=O (O (.e (l++[d]))))(k:N ((J.set i (O (.e l))).set j (O (.f d)))):Rz (rW j i J) N R:=.inl ⟨_,ES h,k⟩
theorem Rz.forP{α:Type}{f:α->Dt}{L:Z α}{fd:De->C Dt}{Y:Z Dt->C T}(I:Z α->De->Prop)(h:J[i]?=O (O (.e (l++[d]))))(hy:fd J=O y)(hf:Y [y,d]=O (.e (L.map f)))(h0:I [] (J.set i (O (.e l))))(hs:∀p x q J,L=p++x::q->I p J->∃ HP,bb (f x) J=O HP/\Rz (g HP) (I (p++[x])) R)(k:∀ J,I L J->N J):Rz (nj i fd Y bb g J) N R:=by
 have e:nj i fd Y bb g J=fu bb g (L.map f) (J.set i (O (.e l))):=by unfold nj;rw[h];dsimp only;rw[hy,Im,List.getLast?_concat,Im,hf,List.dropLast_concat];rfl
 rw[e];exact(Rz.SY I hs [] L _ rfl h0).mono k λ_ h=>h
end
structure Ym(nx:Nat->List Nat)(n:Nat)(base:List Nat)(P ok:Nat->Prop)(seen lf:List Nat):Prop where
 nd:seen.Nodup
 lt:∀j∈seen,j<n
 ln:lf.length<=seen.length+1
 rc:∀j,j∈base∨j∈seen∨j∈lf->P j
 cl:∀x,x∈base∨x∈seen->x∉lf->ok x/\∀y∈nx x,y∈base∨y∈seen
theorem bX{l:Z Nat}(Y:l.Nodup)(h:∀j∈l,j<n):l.length<=n:=by
 have:=bq Y (m:=HQ n) λx q=>IS.mpr (h x q)
 simpa using this
variable{base:Z Nat}
theorem Ym.pop{nx:Nat->Z Nat}{seen lf X:Z Nat}{P ok:Nat->Prop}{x:Nat}(θ:Ym nx n base P ok seen (lf++[x]))(h:ok x)(nd:(seen++X).Nodup)(q:∀j∈X,j<n/\P j)(Y:∀y∈nx x,y∈base∨y∈seen++X):Ym nx n base P ok (seen++X) (lf++X):=by
 refine⟨nd,λj Y=>(IC.mp Y).elim (θ.lt j) λz=>(q j z).1,by have:=θ.ln;simp only[HZ,Lc]at this ⊢;lia,λj h=>?_,λy hy hn=>?_⟩
 .rcases h with h|h|h
  .exact θ.rc j (.inl h)
  .exact(IC.mp h).elim (λz=>θ.rc j (.inr (.inl z))) λz=>(q j z).2
  .exact(IC.mp h).elim (λz=>θ.rc j (.inr (.inr (Kj _ z)))) λz=>(q j z).2
 .by_cases e:y=x
  .exact e▸⟨h,Y⟩
  .obtain⟨g1,g2⟩:=θ.cl y (hy.imp id λz=>(IC.mp z).elim id λz=>absurd (Lr _ z) hn) λz=>(IC.mp z).elim (λz=>hn (Kj _ z)) λz=>e (HK.mp z)
   exact⟨g1,λw hw=>(g2 w hw).imp id λz=>Kj _ z⟩
theorem yp{x:Nat}(h:x<J0.length):y1 [dR J0,dI x]=O (.e ((cD J0 x).map dI)):=by have q:J0[x]?=O J0[x]:=gQ h;rw[eh q];exact lJ J0 x _ q
inductive Qv(J0:List Rw)(K:List Nat)(st:Nat):Nat->Prop
 |here:Qv J0 K st st
 |on {x j:Nat}:Qv J0 K st x->j∈cD J0 x->j<J0.length->j∉K->Qv J0 K st j
def sC(J0:Z Rw)(K:Z Nat)(st:Nat):Prop:=∃S:Nat->Prop,S st/\∀x,S x->∀j∈cD J0 x,j≠st/\(j∈K∨S j)
def N3(J0:Z Rw)(K:Z Nat):Prop:=∃st x,st<J0.length/\st∉K/\Qv J0 K st x/\st∈cD J0 x
def gS(J0:Z Rw)(K:Z Nat)(st:Nat)(seen Y:Z Nat)(q:C T):De:=[O (.f (dR J0)),O (.f (Mq K)),O (.f (dI st)),O (kT seen),O (.e (Y.map dI)),q]
theorem nG{b:Nat}:Hs ξ (dI a) (dI b)=O (.f (.bl (decide (a=b)))):=by show O (T.f (.bl (decide ((a:Int)=(b:Int)))))=_;rw[decide_eq_decide.mpr zj0]
variable{K:Z Nat}
theorem A7 (hn:J0.length<=400) (hO:∀ (i j:Nat),j∈cD J0 i->j<J0.length) :
  ∃t,z26 [dR J0,Mq K]=O t/\((t=.f (.bl D)/\N3 J0 K)∨(t=.f (.bl ξ)/\∀s,s<J0.length->s∉K->sC J0 K s)):=by
 refine Rz.of (.seq (.for (f:=dI) (l:=HQ J0.length) (λp J=>(∃x2 x3 x4 x5,J=[O (.f (dR J0)),O (.f (Mq K)),x2,x3,x4,x5])/\∀s∈p,s∉K->sC J0 K s) (km (F:=vB 0) (l:=J0.map Rw.d) rfl Ξ Θ) ⟨⟨_,_,_,_,rfl⟩,nofun⟩ ?_ λJ ⟨_,h⟩=>.ret rfl (.inr ⟨rfl,λs hs=>h s (IS.mpr hs)⟩)));rintro p st q J e ⟨⟨x2,x3,x4,x5,rfl⟩,h⟩;have Pu:st<J0.length:=IS.mp (by rw[e];simp)
 have one:∀{S:Prop},(st∉K->sC J0 K st)->∀s∈p++[st],s∉K->sC J0 K s:=λz s hs hk=>(IC.mp hs).elim (λz=>h s z hk) λy=>by rw[HK.mp y]at hk ⊢;exact z hk
 refine⟨_,rfl,.seq (.own (t:=kT []) rfl (.seq (.own (t:=.e [dI st]) rfl (Rz.while (λm J=>∃seen Y x5,J=gS J0 K st seen Y x5/\Ym (λx=>(cD J0 x).filter λj=>!decide (j∈K)) J0.length [st] (Qv J0 K st) (λx=>st∉cD J0 x) seen Y/\m+seen.length=J0.length+Y.length) ?_ 100000 (J0.length+1) _ Θ ⟨[],[st],_,rfl,⟨.nil,nofun,HG _,λj hj=>by
  have:j=st:=by simpa using hj
  exact this▸.here,λx hx hn=>absurd (by simpa using hx) hn⟩,rfl⟩))))⟩
 rintro m J ⟨seen,Y,x5,rfl,θ,hm⟩;have hc:z51 (gS J0 K st seen Y x5)=O (decide (Y.map dI≠[])&&!decide (st∈K)):=iB (sw rfl) λ_=>ao (x:=dI st) rfl rfl (lL D st K)
 by_cases hK:st∈K
 .exact .inl ⟨by rw[hc,decide_eq_true hK,Bool.not_true,Vq],⟨_,_,_,_,rfl⟩,one (S:=True) λz=>absurd hK z⟩
 rw[decide_eq_false hK,zh1,T8]at hc;rcases qv4 Y with rfl|⟨Y,x,rfl⟩
 .refine .inl ⟨hc,⟨_,_,_,_,rfl⟩,one (S:=True) λ_=>⟨λx=>x∈[st]∨x∈seen,.inl (.head _),λx hx j hj=>?_⟩⟩;obtain⟨g1,g2⟩:=θ.cl x hx nofun;refine⟨λe=>g1 (e▸hj),?_⟩;by_cases z:j∈K
  .exact .inl z
  .exact .inr (g2 j (JP.mpr ⟨hj,by simpa using z⟩))
 .rw[qv5]at hc hm θ ⊢;have hs:=bX θ.nd θ.lt;have ln:=θ.ln;rw[HZ,Lc]at ln;have px:=θ.rc x (.inr (.inr Ξ))
  have hx:x<J0.length:=by
   cases px with
   |here=>exact Pu
   |on _ _ h _=>exact h
  rw[HZ,Lc]at hm;refine .inr ⟨by rw[hc,IL];simp,.forP (f:=dI) (L:=cD J0 x) (l:=Y.map dI) (d:=dI x) (λp J=>st∉p/\∃X x5,J=gS J0 K st (seen++X) (Y++X) x5/\(seen++X).Nodup/\(∀j∈X,j∈cD J0 x/\j∉K)/\∀j∈p,j∈K∨j∈seen++X) (by unfold gS;rw[IL];rfl) rfl (yp hx) ⟨nofun,[],x5,by simp[gS],by simpa using θ.nd,nofun,nofun⟩ ?_ ?_⟩
  .rintro p j q J e ⟨h1,X,y5,rfl,nd,h2,h3⟩;have hj:j∈cD J0 x:=by rw[e];simp
   have l1:=bX nd λi hi=>(IC.mp hi).elim (θ.lt i) λz=>hO x i (h2 i z).1
   rw[HZ]at l1;refine⟨_,rfl,.seq (.if (ao (x:=dI j) (y:=dI st) rfl rfl nG) (λz=>.ret rfl (.inl ⟨rfl,st,x,Pu,hK,px,of_decide_eq_true z▸hj⟩)) λz=>.nx (.if (iB (ao (x:=dI j) rfl rfl (lL D j K)) λ_=>ao (x:=dI j) rfl (su (seen++X)) (lL D j (seen++X))) (λw=>?_) λw=>.nx ?_))⟩
   .simp only[if_true,IH,PD,decide_eq_false_iff_not]at w;refine .seq (.put rfl rfl rfl w.2 nd (by rw[HZ];lia) (.app (l:=(Y++X).map dI) rfl rfl (by simp;lia) ⟨λy=>?_,X++[j],_,by rw[<- M7,<- M7];unfold gS;rw[IL (l₁:=Y++X)];rfl,?_,λi hi=>?_,λi hi=>?_⟩))
    .exact(IC.mp y).elim h1 λy=>of_decide_eq_false z (HK.mp y).symm
    .rw[<- M7];exact Mt.mpr ⟨nd,Ξ,λa ha b hb e=>w.2 (by rw[HK.mp hb]at e;exact e▸ha)⟩
    .exact(IC.mp hi).elim (h2 i) λy=>HK.mp y▸⟨hj,w.1⟩
    .rw[<- M7];exact(IC.mp hi).elim (λy=>(h3 i y).imp id λy=>Kj _ y) λy=>.inr (Lr _ y)
   .refine⟨λy=>(IC.mp y).elim h1 λy=>of_decide_eq_false z (HK.mp y).symm,X,_,rfl,nd,h2,λi hi=>(IC.mp hi).elim (h3 i) λy=>?_⟩;rw[HK.mp y];by_cases k:j∈K
    .exact .inl k
    .by_cases k2:j∈seen++X
     .exact .inr k2
     .rw[decide_eq_false k,decide_eq_false k2]at w;cases w
  .rintro J ⟨h1,X,y5,rfl,nd,h2,h3⟩;have l1:=bX nd λi hi=>(IC.mp hi).elim (θ.lt i) λz=>hO x i (h2 i z).1
   rw[HZ]at l1;refine⟨m-1,Θ,seen++X,Y++X,y5,rfl,θ.pop h1 nd (λj hj=>⟨hO x j (h2 j hj).1,.on px (h2 j hj).1 (hO x j (h2 j hj).1) (h2 j hj).2⟩) λy hy=>.inr ?_,by simp only[HZ];lia⟩;obtain⟨k1,k2⟩:=JP.mp hy;exact(h3 y k1).resolve_left (by simpa using k2)
inductive Bk(J0:List Rw)(K:List Nat)(st:Nat):Nat->Prop
 |last {i:Nat}:i<J0.length->i∉K->st∈cD J0 i->Bk J0 K st i
 |on {i j:Nat}:i<J0.length->i∉K->j∈cD J0 i->Bk J0 K st j->Bk J0 K st i
theorem Bk.un{st:Nat}(b:Bk J0 K st i):i<J0.length/\i∉K:=by
 cases b with
 |last a b _=>exact⟨a,b⟩
 |on a b _ _=>exact⟨a,b⟩
theorem Qv.un{st:Nat}(h:st<J0.length)(hk:st∉K)(p:Qv J0 K st i):i<J0.length/\i∉K:=by
 cases p with
 |here=>exact⟨h,hk⟩
 |on _ _ a b=>exact⟨a,b⟩
theorem Qv.bk{st:Nat}(h:st<J0.length)(hk:st∉K)(p:Qv J0 K st i):Bk J0 K st i->Bk J0 K st st:=by
 induction p with
 |here=>exact id
 |on p q _ _ Y=>exactλb=>Y (.on (p.un h hk).1 (p.un h hk).2 q b)
theorem N3.no(g:N3 J0 K)(no:∀ζ:Nat->Prop,(∀i,ζ i->i<J0.length/\i∉K)->(∀i,ζ i->∃j∈cD J0 i,ζ j)->∀i,¬ ζ i):False:=by
 obtain⟨st,x,h,hk,p,e⟩:=g;have bs:=p.bk h hk (.last (p.un h hk).1 (p.un h hk).2 e);refine no (Bk J0 K st) (λi b=>b.un) (λi b=>?_) st bs;cases b with
 |last _ _ e=>exact⟨st,e,bs⟩
 |on _ _ e b=>exact⟨_,e,b⟩
theorem N0.shut{R:Z Nat}(r:N0 J0 (λi=>i<J0.length/\i∉K) R)(Y:∀s,s<J0.length->s∉K->sC J0 K s):False:=by
 have hp:=List.length_pos_iff.mpr r.ne;obtain⟨st,q⟩:∃st,R[0]?=O st:=⟨R[0],by simp[hp]⟩;obtain⟨S,s0,cl⟩:=Y st (r.all st (Ls q)).1 (r.all st (Ls q)).2
 have all:∀(k a:Nat),R[k]?=O a->S a:=by
  intro k;induction k with
  |zero=>intro a h;rw[q]at h;cases h;exact s0
  |succ k ih=>
   intro a h;have hl:=(gX h).1;have h1:R[k]?=O R[k]:=by simp
   rcases(cl _ (ih _ h1) a (r.ed k _ a h1 h)).2 with hk|hk
   .exact absurd hk (r.all a (Ls h)).2
   .exact hk
 have h1:R[R.length-1]?=O R[R.length-1]:=by simp
 exact(cl _ (all _ _ h1) st (r.turn _ _ h1 q)).1 rfl
section
variable{α:Type}[DecidableEq α]
def pN(en:α->Dt):C α->Dt
 |none=>.G8
 |some h=>en h
structure Ops(en:α->Dt)(nw:De->Option T)(put:Nat->(De->Option Dt)->(De->Option Dt)->De->Option Hj)(ni:(De->Option Dt)->(De->Option Dt)->De->Option Bool)(ix:(De->Option Dt)->(De->Option Dt)->De->Option Dt)(dT:CF α->T)(dD:CF α->Dt):Prop where
 nn:∀t,jO (en t)=ξ
 nw:∀ J,nw J=O (dT [])
 d:∀cf,(dT cf).d=O (dD cf)
 put:∀{cf:CF α}{t:α}{q:Option α}{i:Nat}{fk fe:De->Option Dt}{J:De},(ks cf).Nodup->cf.length<=10000->J[i]?=O (O (dT cf))->fk J=O (en t)->fe J=O (pN en q)->(t∈ks cf->∀p∈cf,p.2=q)->put i fk fe J=O (.nx (J.set i (O (dT (if t∈ks cf then cf else cf++[(t,q)])))))
 ni:∀{cf:CF α}{t:α}{fa fb:De->Option Dt}{J:De},fa J=O (en t)->fb J=O (dD cf)->ni fa fb J=O (!decide (t∈ks cf))
 ix:∀{cf:CF α}{t:α}{q:Option α}{fa fb:De->Option Dt}{J:De},fa J=O (dD cf)->fb J=O (en t)->look cf t=O q->ix fa fb J=O (pN en q)
 ls:∀cf,eT [dD cf]=O (.e ((ks cf).map en))
theorem S4(cf:CF α)(t:α)(q:C α):ks (cf++[(t,q)])=ks cf++[t]:=IL
theorem ndA{cf:CF α}{t:α}{q:C α}(nd:(ks cf).Nodup)(h:t∉ks cf):(ks (cf++[(t,q)])).Nodup:=by rw[S4];exact Mt.mpr ⟨nd,Ξ,λa ha b Y e=>h (by rw[HK.mp Y]at e;exact e▸ha)⟩
theorem pf(cf:CF α):(ks cf).length=cf.length:=Hl ..
theorem yq{cf e:CF α}{t:α}{r:Z α}(h:Tr cf t r):Tr (cf++e) t r:=by
 have Y:∀{t q},look cf t=O q->look (cf++e) t=O q:=λ{t q} h=>by unfold look at h ⊢;obtain⟨p,hp,hq⟩:=mS h;rw[List.find?_append,hp];exact congrArg O hq
 induction h with
 |one h=>exact .one (Y h)
 |more h _ ih=>exact .more (Y h) ih
variable{en:α->Dt}{nw:De->C T}{put:Nat->(De->C Dt)->(De->C Dt)->De->C Hj}{ni:(De->C Dt)->(De->C Dt)->De->C Bool}{ix:(De->C Dt)->(De->C Dt)->De->C Dt}{dT:CF α->T}{dD:CF α->Dt}(ς:Ops en nw put ni ix dT dD)
def Pz(ix:(De->C Dt)->(De->C Dt)->De->C Dt):Z Dt->C T:=bf 4 (aj (ar 2 (aX ae)) (aj (ar 3 (G6 (vL 1))) (aj (be (G5 (MU D) (vB 3) (kD .G8)) (aj (z8 2 (vL 3)) (ar 3 (G6 (ix (vB 0) (vB 3))))) 100000) (az (Z8 (vB 2))))))
include ς in
theorem vn{cf:CF α}{t:α}{q:Z α}(Y:Tr cf t q)(hl:q.length<=9001):Pz ix [dD cf,en t]=O (.e (q.reverse.map en)):=by
 obtain⟨_,e,rfl⟩:∃s,Pz ix [dD cf,en t]=O s/\s=.e (q.reverse.map en):=by
  refine Rz.of (.seq (.own (t:=.e []) rfl (.seq (.set rfl (.seq (Rz.while (λm J=>∃(J5:Z α)(x:C α),J=[O (.f (dD cf)),O (.f (en t)),O (.e (J5.map en)),O (.f (pN en x))]/\m+J5.length=q.length/\((x=V/\J5=q)∨∃t r,x=O t/\Tr cf t r/\J5++r=q)) ?_ 100000 q.length _ Θ ⟨[],O t,rfl,rfl,.inr ⟨t,q,rfl,Y,rfl⟩⟩))))));rintro m J ⟨J5,x,rfl,hm,⟨rfl,rfl⟩|⟨t,r,rfl,Y,hr⟩⟩
  .exact .inl ⟨rfl,.ret (t:=.e (J5.map en).reverse) rfl (by rw[List.map_reverse])⟩
  .have l:=congrArg Ld hr;rw[HZ]at l;refine .inr ⟨ao (x:=en t) (y:=.G8) rfl rfl (Ri.trans (by rw[ς.nn];rfl)),.seq (.app (l:=J5.map en) (d:=en t) rfl rfl (by rw[Hl];lia) ?_)⟩;have e2:J5.map en++[en t]=(J5++[t]).map en:=by rw[IL];rfl
   rw[e2];cases Y with
   |one h=>exact .set (ς.ix rfl rfl h) ⟨m-1,by simp at l;lia,J5++[t],V,rfl,by simp at l ⊢;lia,.inl ⟨rfl,hr⟩⟩
   |more h r'=>exact .set (ς.ix rfl rfl h) ⟨m-1,by simp at l;lia,J5++[t],O _,rfl,by simp at l ⊢;lia,.inr ⟨_,_,rfl,r',by rw[M7];exact hr⟩⟩
 exact e
variable(σ:Jz)(TR:Z Dt->C T)
def yr(put:Nat->(De->C Dt)->(De->C Dt)->De->C Hj):De->C Hj:=put 3 (vB 4) (kD .G8)
def yt(put:Nat->(De->C Dt)->(De->C Dt)->De->C Hj)(ni:(De->C Dt)->(De->C Dt)->De->C Bool):De->C Hj:=HD (ni (vB 8) (vB 3)) (aj (put 3 (vB 8) (vL 7)) (z8 5 (vL 8))) aM
def yu(σ:Jz)(put:Nat->(De->C Dt)->(De->C Dt)->De->C Hj)(ni:(De->C Dt)->(De->C Dt)->De->C Bool)(TR:Z Dt->C T):De->C Hj:=aj (ar 7 (G6 (bo (d2 ah (vB 5) (vB 6))))) (aj (uS (λi j=>i+j) 6 (kD (.int 1))) (aj (HD (ca (bo (Re σ 2 (aa (vL 7) ae)))) (lY 3 (az (ag TR (aa (vL 3) (aa (vL 7) ae))))) aM) (cM (HS (bo (Re σ 1 (aa (vL 7) ae)))) (am 8) (yt put ni))))
def yw:De->C Bool:=G5 (eN λi j=>decide (i<j)) (vB 6) (bo (ag bz (aa (vB 5) ae)))
def RTg(σ:Jz)(nw:De->C T)(put:Nat->(De->C Dt)->(De->C Dt)->De->C Hj)(ni:(De->C Dt)->(De->C Dt)->De->C Bool)(TR:Z Dt->C T):Dt->J9->J9->Hp->C T:=uW 9 (aj (ar 3 nw) (aj (cM (HS (vL 0)) (am 4) (yr put)) (aj (ar 5 (ag eT (aa (vB 3) ae))) (aj (ar 6 (G6 (kD (.int 0)))) (aj (be yw (yu σ put ni TR) 100000) (az (G6 (kD .G8))))))))
abbrev Wf:=J9×J9×Hp
def NB(en:α->Dt)(dT:CF α->T)(st:Dt)(w:Wf)(cf:CF α)(x4:C T)(k:Nat)(x7 x8:C T):De:=[O (.f st),O (.fn w.1 w.2.2),O (.fn w.2.1 w.2.2),O (dT cf),x4,O (.e ((ks cf).map en)),O (.f (dI k)),x7,x8]
noncomputable def A8(dT:CF α->T)(st:Dt)(w:Wf)(cf:CF α)(x4:C T):De:=[O (.f st),O (.fn w.1 w.2.2),O (.fn w.2.1 w.2.2),O (dT cf),x4,V,V,V,V]
structure Bf(beh:α->List α)(fit:α->Bool)(J4 U:List α)(cf:CF α)(k:Nat):Prop where
 nd:(ks cf).Nodup
 u:∀t∈ks cf,t∈U
 le:k<=cf.length
 wy:∀i t q,cf[i]?=O (t,q)->∃r,Tr cf t r/\Wy beh fit J4 t r/\r.length<=i+1
 cl:∀i t q,i<k->cf[i]?=O (t,q)->fit t=ξ/\∀u∈beh t,u∈ks cf
 st:∀s∈J4,s∈ks cf
variable{beh:α->Z α}{fit:α->Bool}{J4 U:Z α}{st:Dt}
theorem Bf.len{cf:CF α}(b:Bf beh fit J4 U cf k):cf.length<=U.length:=pf cf▸bq b.nd b.u
theorem Bf.add{cf:CF α}{h u:α}{q:C α}(b:Bf beh fit J4 U cf k)(hj:cf[j]?=O (h,q))(hf:fit h=ξ)(hu:u∈beh h)(hU:u∈U)(hn:u∉ks cf):Bf beh fit J4 U (cf++[(u,O h)]) k:=by
 have old:∀{t},t∈ks cf->t∈ks (cf++[(u,O h)]):=λz=>by rw[S4];exact Kj _ z
 have at_:∀{i t Y},(cf++[(u,O h)])[i]?=O (t,Y)->cf[i]?=O (t,Y)∨(i=cf.length/\t=u):=λ{i t Y} z=>by
  by_cases hi:i<cf.length
  .rw[LF hi]at z;exact .inl z
  .have l:=(gX z).1;rw[HZ,Lc]at l;obtain rfl:i=cf.length:=by lia
   rw[gR (HG _),zj9]at z;cases z;exact .inr ⟨rfl,rfl⟩
 refine⟨ndA b.nd hn,λt ht=>?_,by rw[HZ];have:=b.le;lia,λi t Y z=>?_,λi t Y hi z=>?_,λs hs=>old (b.st s hs)⟩
 .rw[S4]at ht;exact(IC.mp ht).elim (b.u t) λz=>HK.mp z▸hU
 .rcases at_ z with z|⟨rfl,rfl⟩
  .obtain⟨r,h1,h2,h3⟩:=b.wy i t Y z;exact⟨r,(yq h1),h2,h3⟩
  .obtain⟨r,h1,h2,h3⟩:=b.wy j h q hj;have:=(gX hj).1;exact⟨t::r,.more (o4 (ndA b.nd hn) (i:=cf.length) Ξ) (yq h1),.more hu hf h2,by rw[L9];lia⟩
 .rcases at_ z with z|⟨rfl,_⟩
  .exact(b.cl i t Y hi z).imp id λg u hu=>old (g u hu)
  .have:=b.le;lia
include ς in
theorem ua(Qw:U.length<=9000){h:α}{q:C α}(hf:fit h=ξ):∀(ts:Z α)(cf:CF α),(∀u∈ts,u∈U/\u∈beh h)->cf[k]?=O (h,q)->Bf beh fit J4 U cf k->∃Y,Y[k]?=O (h,q)/\Bf beh fit J4 U Y k/\(∀t∈ks cf,t∈ks Y)/\(∀u∈ts,u∈ks Y)/\∀w x4 k' x8,∃y8,fu (am 8) (yt put ni) (ts.map en) (NB en dT st w cf x4 k' (O (.f (en h))) x8)=O (.nx (NB en dT st w Y x4 k' (O (.f (en h))) y8))
 |[],cf,_,hk,b=>⟨cf,hk,b,λ_ h=>h,nofun,λ_ _ _ x8=>⟨x8,rfl⟩⟩
 |t::ts,cf,hu,hk,b=>by
  have cl:=b.len
  have one:∀w x4 k',yt put ni (NB en dT st w cf x4 k' (O (.f (en h))) (O (.f (en t))))=O (.nx (NB en dT st w (if t∈ks cf then cf else cf++[(t,O h)]) x4 k' (O (.f (en h))) (O (.f (en t))))):=λw x4 k'=>by
   refine if_e (ς.ni (cf:=cf) (t:=t) rfl (ς.d cf)) (λz=>?_) λz=>?_
   .have z:t∉ks cf:=by simpa using z
    rw[if_neg z];refine(jA (ς.put (t:=t) (q:=O h) b.nd Θ rfl rfl rfl λy=>absurd y z)).trans ?_;rw[if_neg z];refine(yk (l:=(ks cf).map en) rfl rfl (by rw[Hl,pf];lia)).trans ?_;unfold NB;rw[S4,IL];rfl
   .rw[if_pos (by simpa using z)];rfl
  obtain⟨M0,h1,h2,h3,h4⟩:∃M0,M0=(if t∈ks cf then cf else cf++[(t,O h)])/\M0[k]?=O (h,q)/\Bf beh fit J4 U M0 k/\(∀s∈ks cf,s∈ks M0)/\t∈ks M0:=by
   by_cases z:t∈ks cf
   .exact⟨cf,(if_pos z).symm,hk,b,λ_ h=>h,z⟩
   .refine⟨_,(if_neg z).symm,by rw[LF (gX hk).1];exact hk,b.add hk hf (hu t (.head _)).2 (hu t (.head _)).1 z,λs hs=>?_,?_⟩<;>rw[S4]
    .exact Kj _ hs
    .exact Lr _ (.head _)
  obtain⟨Y,g1,g2,g3,g4,g5⟩:=ua Qw hf ts M0 (λu h=>hu u (.tail _ h)) h2 h3;refine⟨Y,g1,g2,λs hs=>g3 s (h4.1 s hs),λu h=>(HU.mp h).elim (λz=>z▸g3 t h4.2) (g4 u),λw x4 k' x8=>?_⟩;obtain⟨y8,e⟩:=g5 w x4 k' (O (.f (en t)));exact⟨y8,by rw[Ia,ng rfl (one w x4 k'),<- h1];exact e⟩
def Okw(en:α->Dt)(beh:α->Z α)(fit:α->Bool)(U:Z α)(σ:Jz)(w:Wf):Prop:=(∀t∈U,((σ w.1 w.2.2 [en t]).bind T.d).bind Qi=O ((beh t).map en))/\∀t∈U,σ w.2.1 w.2.2 [en t]=O (.f (.bl (fit t)))
def Yk(en:α->Dt)(r:C (Z α))(o:C Hj):Prop:=match r with
 |none=>∃ J,o=O (.nx J)
 |some q=>o=O (.rt (.e (q.reverse.map en)))
include ς in
theorem ub(hU:∀t∈U,∀u∈beh t,u∈U)(Qw:U.length<=9000):∀(n:Nat)(cf:CF α)(k:Nat),Bf beh fit J4 U cf k->U.length<n+k->∃r:C (Z α),(r=V->∀t,K2 beh J4 t->fit t=ξ)/\(∀ws,r=O ws->ws.length<=9001/\∃t,Wy beh fit J4 t ws/\fit t=D)/\∀(σ:Jz)(w:Wf),Okw en beh fit U σ w->∀x4 x7 x8,Yk en r (be yw (yu σ put ni (Pz ix)) n (NB en dT st w cf x4 k x7 x8))
 |0,cf,k,b,hn=>by have:=b.len;have:=b.le;lia
 |n+1,cf,k,b,hn=>by
  have cl:=b.len;have test:∀w x4 x7 x8,yw (NB en dT st w cf x4 k x7 x8)=O (decide ((k:Int)<(cf.length:Nat))):=λw x4 x7 x8=>ao (x:=dI k) (y:=dI cf.length) rfl (cg rfl (by rw[Hl,pf])) rfl
  cases q:cf[k]? with
  |none=>
   have:=Vs.mp q;refine⟨V,λ_ t c=>?_,nofun,λσ w _ x4 x7 x8=>⟨_,t8 ((test w x4 x7 x8).trans (by rw[decide_eq_false Θ]))⟩⟩
   have at_:∀{t},t∈ks cf->fit t=ξ/\∀u∈beh t,u∈ks cf:=λh=>by obtain⟨i,q',e⟩:=vi h;exact b.cl i _ q' (by have:=(gX e).1;lia) e
   have key:t∈ks cf:=by
    induction c with
    |one h=>exact b.st _ h
    |more _ h ih=>exact(at_ ih).2 _ h
   exact(at_ key).1
  |some x=>
   obtain⟨h,pq⟩:=x;have S3:=(gX q).1;have hh:(ks cf)[k]?=O h:=by unfold ks;rw[Je,q];rfl
   have hhU:h∈U:=b.u h (Ls hh);have Y:=λw x4 x7 x8=>(test w x4 x7 x8).trans (congrArg O (decide_eq_true (show(k:Int)<(cf.length:Nat)by lia)))
   have pre:∀(σ:Jz)(w:Wf),Okw en beh fit U σ w->∀{N R x4 x7 x8},((fit h=D->Rz (lY 3 (az (ag (Pz ix) (aa (vL 3) (aa (vL 7) ae)))) (NB en dT st w cf x4 (k+1) (O (.f (en h))) x8)) N R)/\(fit h=ξ->Rz (fu (am 8) (yt put ni) ((beh h).map en) (NB en dT st w cf x4 (k+1) (O (.f (en h))) x8)) N R))->(fit h=D->∀ J,¬ N J)->Rz (yu σ put ni (Pz ix) (NB en dT st w cf x4 k x7 x8)) N R:=λσ w ok N R x4 x7 x8 g nn=>by
    refine .seq (.set (d:=en h) (oD (x:=.e ((ks cf).map en)) (y:=dI k) rfl rfl (by
     unfold dI;rw[d5,aG,Je,hh]
     rfl)) (.seq (.step (HP:=NB en dT st w cf x4 (k+1) (O (.f (en h))) x8) rfl (.seq (.if (b:=fit h) (by show(((σ w.2.1 w.2.2 [en h]).bind T.d).bind wE)=_;rw[ok.2 h hhU];rfl) (λz=>(g.1 z).mono (λJ n=>absurd n (nn z J)) λ_ h=>h) λz=>.nx ?_)))))
    show Rz ((((σ w.1 w.2.2 [en h]).bind T.d).bind Qi).bind λds=>fu (am 8) (yt put ni) ds (NB en dT st w cf x4 (k+1) (O (.f (en h))) x8)) N R;rw[ok.1 h hhU];exact g.2 z
   cases hf:fit h with
   |true=>
    obtain⟨ws,tr,wy,hl⟩:=b.wy k h pq q;refine⟨O ws,nofun,λws' z=>by cases z;exact⟨Θ,h,wy,hf⟩,λσ w ok x4 x7 x8=>?_⟩;rcases pre σ w ok (N:=λ_=>False) (R:=λt=>t=.e (ws.reverse.map en)) (x4:=x4) (x7:=x7) (x8:=x8) ⟨λ_=>.Ii rfl (ς.d cf) (.ret ((dM (x:=dD cf) (y:=en h) rfl rfl).trans (vn ς tr Θ)) rfl),λz=>nomatch hf.symm.trans z⟩ (λ_ _ h=>h)with ⟨_,_,z⟩|⟨t,e,rfl⟩
    .exact z.elim
    .exact qv (Y w x4 x7 x8) e
   |false=>
    obtain⟨cf',g1,g2,g3,g4,g5⟩:=ua ς (st:=st) Qw hf (beh h) cf (λu hu=>⟨hU h hhU u hu,hu⟩) q b
    have b':Bf beh fit J4 U cf' (k+1):=⟨g2.nd,g2.u,(gX g1).1,g2.wy,λi t q' hi z=>by
     by_cases e:i=k
     .rw[e,g1]at z;cases z;exact⟨hf,g4⟩
     .exact g2.cl i t q' Θ z,g2.st⟩
    obtain⟨r,r1,r2,r3⟩:=ub hU Qw n cf' (k+1) b' Θ;refine⟨r,r1,r2,λσ w ok x4 x7 x8=>?_⟩
    rcases pre σ w ok (N:=λJ=>∃y8,J=NB en dT st w cf' x4 (k+1) (O (.f (en h))) y8) (R:=λ_=>False) (x4:=x4) (x7:=x7) (x8:=x8) ⟨λz=>(nomatch hf.symm.trans z),λ_=>by obtain⟨y8,e⟩:=g5 w x4 (k+1) x8;exact .inl ⟨_,e,y8,rfl⟩⟩ (λz=>nomatch hf.symm.trans z)with ⟨_,e,y8,rfl⟩|⟨_,_,z⟩
    .rw[t7 (Y w x4 x7 x8) e];exact r3 σ w ok x4 _ y8
    .exact z.elim
include ς in
theorem qA(Qw:U.length<=9000)(hs:∀t∈J4,t∈U):∀(ss:Z α)(cf:CF α),(∀s∈ss,s∈J4)->(ks cf).Nodup->(∀t∈ks cf,t∈J4)->(∀p∈cf,p.2=V)->∃Y,(ks Y).Nodup/\(∀t∈ks Y,t∈J4)/\(∀p∈Y,p.2=V)/\(∀t,t∈ks cf∨t∈ss->t∈ks Y)/\∀w x4,∃y4,fu (am 4) (yr put) (ss.map en) (A8 dT st w cf x4)=O (.nx (A8 dT st w Y y4))
 |[],cf,_,nd,h,hn=>⟨cf,nd,h,hn,λt z=>z.resolve_right nofun,λ_ x4=>⟨x4,rfl⟩⟩
 |t::ss,cf,Rv,nd,h,hn=>by
  have cl:cf.length<=U.length:=pf cf▸bq nd λt ht=>hs t (h t ht)
  obtain⟨M0,h1,n1,h2,h3,h4⟩:∃M0,M0=(if t∈ks cf then cf else cf++[(t,V)])/\(ks M0).Nodup/\(∀t∈ks M0,t∈J4)/\(∀p∈M0,p.2=V)/\∀s,s∈ks cf∨s=t->s∈ks M0:=by
   by_cases z:t∈ks cf
   .exact⟨cf,(if_pos z).symm,nd,h,hn,λs h=>h.elim id λe=>e▸z⟩
   .refine⟨_,(if_neg z).symm,ndA nd z,λs hs=>?_,λp hp=>(IC.mp hp).elim (hn p) λe=>by rw[HK.mp e],λs hs=>?_⟩
    .rw[S4]at hs;exact(IC.mp hs).elim (h s) λe=>HK.mp e▸Rv t (.head _)
    .rw[S4];exact hs.elim (Kj _) λe=>Lr _ (e▸.head _)
  obtain⟨Y,g1,g2,g3,g4,g5⟩:=qA Qw hs ss M0 (λs h=>Rv s (.tail _ h)) n1 h2 h3;refine⟨Y,g1,g2,g3,λs z=>g4 s (z.elim (λz=>.inl (h4 s (.inl z))) λz=>(HU.mp z).elim (λe=>.inl (h4 s (.inr e))) .inr),λw x4=>?_⟩;obtain⟨y4,e⟩:=g5 w (O (.f (en t)))
  exact⟨y4,by
   have one:yr put (A8 dT st w cf (O (.f (en t))))=_:=ς.put (cf:=cf) (t:=t) (q:=V) nd Θ rfl rfl rfl λ_=>hn
   rw[Ia,ng rfl one,<- h1];exact e⟩
include ς in
theorem yx (hU:∀ t∈U,∀ u∈beh t,u∈U) (Qw:U.length<=9000) (hs:∀ t∈J4,t∈U):∃ r:C (Z α),(r=V->∀ t,K2 beh J4 t->fit t=ξ)/\(∀ ws,r=O ws->ws.length<=9001/\∃ t,Wy beh fit J4 t ws/\fit t=D)∧
  ∀(σ:Jz)(f1 f2:J9)(F0:Hp),Okw en beh fit U σ (f1,f2,F0)->RTg σ nw put ni (Pz ix) (.e (J4.map en)) f1 f2 F0=O (match r with|none=>.f .G8|some ws=>.e (ws.reverse.map en)):=by
 obtain⟨Y,nd,h1,h2,h3,h4⟩:=qA ς (st:=.e (J4.map en)) Qw hs J4 [] (λ_ h=>h) .nil nofun nofun
 have b:Bf beh fit J4 U Y 0:=⟨nd,λt ht=>hs t (h1 t ht),M8 _,λi t q e=>by obtain rfl:q=V:=h2 _ (Ls e);exact⟨[t],.one (o4 nd e),.one (h1 t (nu e)),Ξ⟩,λ_ _ _ h=>absurd h (Uf _),λs hs=>h3 s (.inr hs)⟩
 obtain⟨r,r1,r2,r3⟩:=ub ς (st:=.e (J4.map en)) hU Qw 100000 Y 0 b Θ;refine⟨r,r1,r2,λσ f1 f2 F0 ok=>?_⟩;obtain⟨y4,e⟩:=h4 (f1,f2,F0) V;have w:=r3 σ (f1,f2,F0) ok y4 V V;unfold RTg uW
 have run:∀o,be yw (yu σ put ni (Pz ix)) 100000 (NB en dT (.e (J4.map en)) (f1,f2,F0) Y y4 0 V V)=o->aj (ar 3 nw) (aj (cM (HS (vL 0)) (am 4) (yr put)) (aj (ar 5 (ag eT (aa (vB 3) ae))) (aj (ar 6 (G6 (kD (.int 0)))) (aj (be yw (yu σ put ni (Pz ix)) 100000) (az (G6 (kD .G8))))))) (UM 9 (.e (J4.map en)) f1 f2 F0)=qr o (az (G6 (kD .G8))):=λo ho=>by have e2:cM (HS (vL 0)) (am 4) (yr put) (A8 dT (.e (J4.map en)) (f1,f2,F0) [] V)=_:=e;exact(jA (lI (ς.nw _))).trans ((jA e2).trans ((jA (lI (t:=.e ((ks Y).map en)) ((dj (ς.d Y)).trans (ς.ls Y)))).trans ((jA (lI rfl)).trans (congrArg (qr · _) ho))))
 cases r with
 |none=>obtain⟨J,w⟩:=w;rw[run _ w];rfl
 |some ws=>rw[run _ w];rfl
end
def lM(kept:Z Nat)(J0:Z Rw):Z Dt:=J0.mapIdx λk r=>.e (((r.outs k).filter λw=>!decide (w∈kept)).map dI)
theorem z154(kept outs:Z Nat)(q:outs.length<=10):q77 [O (.f (.t (outs.map dI))),O (.f (.e (kept.map dI)))]=O (.e ((outs.filter λw=>!decide (w∈kept)).map dI)):=aD (aC (ys:=(outs.filter λw=>!decide (w∈kept)).map dI) (ds:=outs.map dI) rfl (aJ λw _=>⟨_,rfl,ao (x:=dI w) rfl rfl HC,λ_=>rfl⟩) (by rw[Hl];exact Iw (K6 _ _) Θ))
theorem yy(c s b:Dt)(J0:Z Rw)(ks:Z (Nat×Z Str))(h:J0.length<=1000)(hk:ks.length<=1000):XQ [.t [c,s,dR J0],.t [b,.t (ks.map Lp)]]=O (.e (lM (ks.map (·.1)) J0)):=by
 obtain⟨t,e,rfl⟩:∃t,XQ [.t [c,s,dR J0],.t [b,.t (ks.map Lp)]]=O t/\t=.e (lM (ks.map (·.1)) J0):=Rz.of (.seq (.set (L7 rfl (ki b ks hk)) (.ret (aC (ys:=lM (ks.map (·.1)) J0) (cz (L7 rfl (kg c s J0 h)) rfl) (by unfold lM;rw[qr8,qr8];exact aR λp hp=>⟨_,rfl,rfl,z154 _ _ (Iw (Rw.Ie _ _) Ω)⟩) (by unfold lM;rw[qz5];lia)) rfl)))
 exact e
noncomputable def ms:Kg->Str
 |.fresh=>"fresh"|.seen=>"seen"|.safe=>"safe"|.Ig=>"spoilt"
theorem yz:∀{a b:Kg},ms a=ms b->a=b:=λ{a b} h=>by cases a<;>cases b<;>first|rfl|(exfalso;revert h;unfold ms;decide +kernel)
theorem yA(a b:Kg):decide (ms a=ms b)=decide (a=b):=by rw[decide_eq_decide];exact⟨yz,λh=>by rw[h]⟩
theorem ph(a b:Kg)(x y:C T):G5 (Hs ξ) (vB 0) (kD (.str (ms b))) [O (.f (.str (ms a))),x,y]=O (decide (a=b)):=by rw[<- yA];rfl
theorem uc(m:Kg)(r:Rw)(nm:Str):UW [.str (ms m),r.d,.str nm]=O (.f (.str (ms (mb m r nm)))):=by
 have q:∀{a:Kg},a=mb m r nm->T.f (.str (ms a))=T.f (.str (ms (mb m r nm))):=λh=>by rw[h]
 obtain⟨t,e,rfl⟩:∃t,UW [.str (ms m),r.d,.str nm]=O t/\t=.f (.str (ms (mb m r nm))):=Rz.of (.seq (.if (iB (ph m .fresh _ _) λ_=>o8 rfl rfl) (λz=>.ret (t:=.f (.str (ms .seen))) rfl (q (by cases m<;>simp_all [mb]))) λY=>.nx (.seq (.if (iB (ph m .fresh _ _) λ_=>vk rfl rfl) (λz=>.ret (t:=.f (.str (ms .safe))) rfl (q (by cases m<;>simp_all [mb]))) λz2=>.nx (.seq (.if (iB (ph m .seen _ _) λ_=>o9 rfl rfl) (λz=>.ret (t:=.f (.str (ms .Ig))) rfl (q (by cases m<;>simp_all [mb]))) λz3=>.nx (.Lq (t:=.f (.str (ms m))) rfl (q (by cases m<;>simp_all [mb])))))))));exact e
section
variable{α κ:Type}[DecidableEq α][DecidableEq κ]{ek:α->κ}(hk:∀a b,ek a=ek b->a=b)(v:C α->Dt)(t:α)
include hk in
theorem lN:∀cf:CF α,cW (cf.map λp=>ek p.1) (cf.map λp=>v p.2) (ek t)=(look cf t).map v
 |[]=>rfl
 |p::cf=>by
  simp only[Ia,cW];unfold look;by_cases h:p.1=t
  .rw[if_pos (by rw[h]),List.find?_cons_of_pos (by simpa using h)];rfl
  .rw[if_neg λz=>h (hk _ _ z),ze3 (by simpa using h),lN cf];rfl
theorem Cp(cf:CF α):(look cf t).isSome=decide (t∈ks cf):=by unfold look ks;rw[Ui,O8,List.find?_isSome];simp
include hk in
theorem yB{q:C α}:∀cf:CF α,(t∈ks cf->∀p∈cf,p.2=q)->jV (cf.map λp=>(ek p.1,v p.2)) (ek t) (v q)=(if t∈ks cf then cf else cf++[(t,q)]).map λp=>(ek p.1,v p.2)
 |[],_=>rfl
 |p::cf,h=>by
  rw[Ia,jV];by_cases e:p.1=t
  .have m:t∈ks (p::cf):=e▸.head _;rw[if_pos (by rw[e]),if_pos m,<- h m p (.head _)];rfl
  .have i:t∈ks (p::cf)↔t∈ks cf:=⟨λz=>(HU.mp z).resolve_left λz=>e z.symm,λz=>.tail _ z⟩;rw[if_neg λz=>e (hk _ _ z),yB cf λm q Y=>h (i.mpr m) q (.tail _ Y)];by_cases m:t∈ks cf
   .rw[if_pos m,if_pos (i.mpr m)];rfl
   .rw[if_neg m,if_neg λz=>m (i.mp z)];rfl
include hk in
theorem Yn{cf:CF α}(h:(ks cf).Nodup):((cf.map λp=>(ek p.1,v p.2)).map (·.1)).Nodup:=by
 have:((ks cf).map ek).Nodup:=by rw[Vr,Vx];exact Y5 (λ{a b}(z:a≠b) e=>z (hk _ _ e)) h
 unfold ks at this;rw[IV]at this ⊢;exact this
end
theorem A9{κ α:Type}{ek:α->κ}{v:C α->Dt}(cf:CF α):(cf.map λp=>(ek p.1,v p.2)).map (·.1)=cf.map (λp=>ek p.1)/\(cf.map λp=>(ek p.1,v p.2)).map (·.2)=cf.map λp=>v p.2:=by rw[IV,IV];exact⟨rfl,rfl⟩
theorem Ba(a b:Nat)(h:kI a=kI b):a=b:=o7 h
theorem opsI:Ops dI kZ hJ (λa b=>G5 (aS D) a b) (λa b=>bo (d2 ah a b)) (λcf=>.IJ (cf.map λp=>(kI p.1,pN dI p.2))) (λcf=>.IJ (cf.map λp=>kI p.1) (cf.map λp=>pN dI p.2)) where
 nn:=λ_=>rfl
 nw:=λ_=>rfl
 d:=λcf=>by unfold T.d;dsimp only;rw[(A9 cf).1,(A9 cf).2]
 put:=λY hl h hf q hq=>(Co h hf rfl q (by rw[Hl];lia) (Yn Ba _ Y)).trans (congrArg (λl=>O (Hj.nx (List.set _ _ (O (T.IJ l))))) (yB Ba _ _ _ hq))
 ni:=λh1 h2=>ao h1 h2 (OR.trans (by rw[show(kI:Nat->Hr)=λj=>kI j from rfl];exact congrArg (λb=>O (T.f (.bl !b))) ((congrArg Option.isSome (lN Ba _ _ _)).trans (Ui.trans (Cp _ _)))))
 ix:=λh1 h2 h=>oD h1 h2 ((congrArg (Option.map T.f) (lN Ba (pN dI) _ _)).trans (by rw[h];rfl))
 ls:=λcf=>by show O (T.e ((cf.map λp=>kI p.1).map p5))=_;unfold ks;rw[IV,IV];rfl
def eX(t:Nat×Kg):Dt:=.t [dI t.1,.str (ms t.2)]
def kN(t:Nat×Kg):Z Hr:=[.inl (t.1:Int),.inr (ms t.2)]
theorem Bb(a b:Nat×Kg)(h:kN a=kN b):a=b:=by unfold kN at h;simp only[List.cons.injEq,Ot.injEq,NG.injEq,and_true]at h;exact Prod.ext Θ (yz h.2)
theorem opsN:Ops eX oS m8 xV (λa b=>bo (d2 xU a b)) (λcf=>.Jt (cf.map λp=>(kN p.1,pN eX p.2))) (λcf=>.Jt (cf.map λp=>kN p.1) (cf.map λp=>pN eX p.2)) where
 nn:=λ_=>rfl
 nw:=λ_=>rfl
 d:=λcf=>by unfold T.d;dsimp only;rw[(A9 cf).1,(A9 cf).2]
 put:=λ{cf t q i fk fe J} nd hl h hf Y hq=>by unfold m8;rw[Y,hf,Im,Im,h];show(O (kN t)).bind _=_;rw[Im,if_pos ⟨by rw[Hl];exact i7 Θ,Yn Bb _ nd⟩,yB Bb _ _ _ hq]
 ni:=λ{cf t fa fb J} h1 h2=>by unfold xV;rw[h1,h2];exact congrArg (λb=>O !b) ((congrArg Option.isSome (lN Bb _ _ _)).trans (Ui.trans (Cp _ _)))
 ix:=λh1 h2 h=>oD h1 h2 ((congrArg (Option.map T.f) (lN Bb (pN eX) _ _)).trans (by rw[h];rfl))
 ls:=λcf=>by show O (T.e ((cf.map λp=>kN p.1).map ll))=_;unfold ks;rw[IV,IV];rfl
theorem i9:∀(q bs:Z La),Kn (q++bs)=Kn q++Kn bs
 |[],_=>rfl
 |.nm x::q,bs=>congrArg (x::·) (i9 q bs)
 |.vl _::q,bs=>i9 q bs
theorem qB(r:Rw):SH [r.d]=O (.e (r.reads.map .str)):=by
 have hl:r.atoms.length<=2:=by cases r<;>simp[Rw.atoms]
 obtain⟨_,e,rfl⟩:∃t,SH [r.d]=O t/\t=.e (r.reads.map .str):=by
  refine Rz.of (.seq (.own (t:=.e []) rfl (.seq (.for (f:=La.d) (l:=r.atoms) (λp J=>∃Y,J=[O (.f r.d),O (.e ((bZ (Kn p)).map .str)),Y]) (cz (LV rfl (ym r)) rfl) ⟨_,rfl⟩ ?_ λJ ⟨Y,e⟩=>.Lq (t:=.e (r.reads.map .str)) (by rw[e];rfl) rfl))));rintro p a q J e ⟨Y,rfl⟩
  have lp:(bZ (Kn p)).length<=2:=by
   have:=bq (gO (Kn p)) λx hx=>Il.mp hx
   have h2:=i8 p;rw[e,HZ]at hl;lia
  have on:∀x,bZ (Kn p++[x])=fS (bZ (Kn p)) x:=λx=>List.foldl_append
  refine⟨_,rfl,?_⟩;cases a with
  |vl i=>exact .if (b:=false) (iB (a:=false) (b:=true) rfl nofun) nofun λ_=>.nx ⟨_,by rw[i9];simp[Kn];rfl⟩
  |nm x=>
   refine .if (iB (a:=true) rfl λ_=>ao (x:=.str x) rfl rfl IG) (λz=>.app (l:=(bZ (Kn p)).map .str) (d:=.str x) rfl rfl (by rw[Hl];lia) ⟨O (.f (.str x)),?_⟩) λz=>.nx ⟨O (.f (.str x)),?_⟩
   .rw[i9];show(_:De)=[O (.f r.d),O (.e ((bZ (Kn p++[x])).map .str)),O (.f (.str x))];rw[on,fS,if_neg (by simpa using z),IL];rfl
   .rw[i9];show(_:De)=[O (.f r.d),O (.e ((bZ (Kn p++[x])).map .str)),O (.f (.str x))];rw[on,fS,if_pos (by simpa using z)];rfl
 exact e
theorem yC(r:Rw)(Y:Z (Z Str))(h:(Y.map Ld).sum<=60):XI [r.d,.e (Y.map dS)]=O (.e ((NA r Y).map .str)):=by
 have hr:=r.NZ
 have hl:∀Y:Z (Z Str),(f9 r Y).length<=(Y.map Ld).sum:=λY=>by
  induction Y with
  |nil=>simp[f9]
  |cons l Y ih=>have hf:=K6 (λb=>decide (r.sets≠O b)) l;unfold f9 at ih ⊢;simp only[List.flatMap_cons,HZ,Ia,RD];lia
 have h1:=hl Y
 obtain⟨_,e,rfl⟩:∃t,XI [r.d,.e (Y.map dS)]=O t/\t=.e ((NA r Y).map .str):=by
  refine Rz.of (.seq (.own ((dj rfl).trans (qB r)) (.seq (.for (f:=dS) (l:=Y) (λp J=>∃x3,J=[O (.f r.d),O (.f (.e (Y.map dS))),O (.e ((r.reads++f9 r p).map .str)),x3]) rfl ⟨_,by rw[show f9 r []=[]from rfl,Pb];rfl⟩ ?_ λJ ⟨x3,e⟩=>e▸.ret ((dj (f:=vB 2) rfl).trans (jR (by rw[HZ];lia))) rfl))));rintro p l q J e ⟨x3,rfl⟩;have hp:=hl (p++[l])
  have hs:((p++[l]).map Ld).sum<=(Y.map Ld).sum:=by rw[e,IL,List.sum_append,IL,List.sum_append,Ia,Ia,RD,RD,QG,List.sum_nil];lia
  have ra:f9 r (p++[l])=f9 r p++l.filter λb=>decide (r.sets≠O b):=by unfold f9;rw[List.flatMap_append];simp
  rw[ra,HZ]at hp;refine⟨_,rfl,.ext (l:=(r.reads++f9 r p).map .str) (m:=(l.filter λb=>decide (r.sets≠O b)).map .str) rfl (aC (ds:=l.map .str) rfl (aJ λb _=>⟨[O (.f (.str b)),O (.f r.d)],rfl,ao (x:=.str b) rfl (LV rfl (qx r)) ?_,λ_=>rfl⟩) (by rw[Hl];lia)) (by simp only[Hl,HZ];lia) ⟨_,by rw[ra,<- M7,IL (l₁:=r.reads++f9 r p)];rfl⟩⟩;cases r.sets with
  |none=>simp;rfl
  |some x=>
   refine Jo.trans ?_;by_cases q:b=x
   .simp[q]
   .have q2:¬ x=b:=λz=>q z.symm
    simp[q,q2]
 exact e
theorem yD{J3:Z (Z Str)}(q:∀l∈J3,l.length<=12):∀js:Z Nat,((js.map λj=>J3.getD j []).map Ld).sum<=12*js.length
 |[]=>M8 _
 |j::js=>by
  have Y:=yD q js
  have:(J3.getD j []).length<=12:=by
   rw[JN];cases h:J3[j]? with
   |none=>simp
   |some l=>exact q l (Ls h)
  simp only[Ia,RD,L9];lia
def sl(P:Dt)(J0:Z Rw)(J3:Z (Z Str))(c:Bool)(q Y:C T):De:=[O (.f P),O (.f (dR J0)),O (.f (dW J0)),O (.e (J3.map dS)),O (.f (.bl c)),q,Y]
theorem sD {B:Z Str} (hB:∀ (i:Nat) (r:Rw) (b:Str),J0[i]?=O r->b∈r.reads->b∈B) (hO:∀ (i:Nat) (r:Rw) (j:Nat),J0[i]?=O r->j∈r.outs i->j<J0.length) (hb:B.length<=12) (hn:J0.length<=1000) :
  ∃J3,XM [MC c s J0]=O (.e (J3.map dS))/\LC J0 B J3/\SX J0 J3:=by
 have hN:J0.length*B.length<=1000*12:=Nat.mul_le_mul hn hb
 obtain⟨_,e,J3,rfl,h⟩:∃t,XM [MC c s J0]=O t/\∃J3,t=.e (J3.map dS)/\LC J0 B J3/\SX J0 J3:=by
  have F0:LC J0 B (J0.map λ_=>[]):=LC.start;have t0:=F0.Ko;refine Rz.of (.seq (.set (d:=dR J0) rfl (.seq (.set (L7 rfl (kg c s J0 hn)) (.seq (.own (t:=.e ((J0.map λ_=>([]:Z Str)).map dS)) (aC (ds:=J0.map Rw.d) rfl (by rw[IV];exact aR λr _=>⟨_,rfl,rfl,rfl⟩) (by simp;lia)) (.seq (.set (d:=.bl D) rfl (.seq (Rz.while (λm J=>∃J3 c' x5 x6,J=sl (MC c s J0) J0 J3 c' x5 x6/\LC J0 B J3/\((c'=D/\m+MB J3=J0.length*B.length+1)∨(c'=ξ/\SX J0 J3))) ?_ 100000 (J0.length*B.length+1-MB (J0.map λ_=>([]:Z Str))) _ Θ ⟨_,D,_,_,rfl,F0,.inl ⟨rfl,Θ⟩⟩))))))))));rintro m J ⟨J3,c',x5,x6,rfl,F,⟨rfl,hm⟩|⟨rfl,hx⟩⟩
  .have ft:=F.Ko;refine .inr ⟨rfl,.seq (.set (d:=.bl ξ) rfl (.for (f:=dI) (l:=(HQ J0.length).map λi=>J0.length-1-i) (λp J=>∃Y c' x5 x6,J=sl (MC c s J0) J0 Y c' x5 x6/\LC J0 B Y/\((c'=D/\MB J3<MB Y)∨(c'=ξ/\Y=J3/\∀j∈p,∀l,J3[j]?=O l->nw J0 J3 j=l))) ?_ ⟨_,ξ,_,_,rfl,F,.inr ⟨rfl,rfl,nofun⟩⟩ ?_ ?_))⟩
   .show u2 [.int (((J0.map Rw.d).length:Int)-1),.int (-1),.int (-1)]=_;rw[Hl,vh hn]
   .rintro p j q J e ⟨f1,c1,y5,y6,rfl,F1,h⟩
    have hj:j<J0.length:=by
     have:j∈(HQ J0.length).map λi=>J0.length-1-i:=by rw[e];simp
     obtain⟨i,hi,rfl⟩:=Jg.mp this;have:=IS.mp hi;lia
    have hr:J0[j]?=O J0[j]:=gQ hj;have Mw:j<f1.length:=by rw[F1.len];exact hj
    have hl:f1[j]?=O f1[j]:=gQ Mw
    have fx:∀{k:Nat}{J:De},k<f1.length->vB 3 J=O (.e (f1.map dS))->∀{g:De->C Dt},g J=O (dI k)->bo (d2 ah (vB 3) g) J=O (dS (f1.getD k [])):=λ{k J} hk h1 {g} h2=>oD h1 h2 (by unfold dI;rw[d5,aG,Je,gQ hk,JN,gQ hk];rfl)
    have ho:=(J0[j]).Ie j;have en:nw J0 f1 j=NA J0[j] (((J0[j]).outs j).map λk=>f1.getD k []):=by unfold nw;rw[hr]
    refine⟨_,rfl,.seq (.set (d:=dS (nw J0 f1 j)) (Oh (oD (x:=dR J0) (y:=dI j) rfl rfl (dG hr)) (y:=.e ((((J0[j]).outs j).map λk=>f1.getD k []).map dS)) (aD (aC (cz (oD (x:=dW J0) (y:=dI j) rfl rfl (kh hr)) rfl) (by
     rw[IV]
     exact aR λk hk=>⟨[O (.f (dI k)),O (.e (f1.map dS))],rfl,rfl,oD (x:=.e (f1.map dS)) (y:=dI k) rfl rfl (by
      have hk:k<f1.length:=by rw[F1.len];exact hO j _ k hr hk
      unfold dI;rw[d5,aG,Je,gQ hk];show _=O (T.f (dS (f1.getD k [])));rw[JN,gQ hk];rfl)⟩) (by rw[Hl,Hl];lia))) (en▸yC _ _ (Iw (yD (λl hl=>by
     obtain⟨i,h⟩:=Vv hl;exact Iw (F1.short h) hb) _) Θ))) (.if (ao (x:=dS (nw J0 f1 j)) rfl (fx (k:=j) Mw rfl rfl) qu) (λz=>.seq (.step (GQ (k:=j) (d:=dS (nw J0 f1 j)) rfl rfl rfl (by rw[Hl];exact Mw)) (.set (d:=.bl D) rfl ⟨f1.set j (nw J0 f1 j),D,_,_,by unfold sl;rw[List.map_set];rfl,F1.step hB hj,.inl ⟨rfl,?_⟩⟩))) λz=>.nx ⟨f1,c1,_,_,rfl,F1,?_⟩))⟩
    all_goals rw[JN,hl]at z
    .have:=F1.more hl (by simpa using z);rcases h with ⟨_,h⟩|⟨_,rfl,_⟩<;>lia
    .rcases h with h|⟨h1,rfl,h2⟩
     .exact .inl h
     .refine .inr ⟨h1,rfl,λk hk l P9=>(IC.mp hk).elim (λhk=>h2 k hk l P9) λhk=>?_⟩;rw[HK.mp hk,hl]at P9;rw[HK.mp hk];cases P9;simpa using z
   .rintro J ⟨f1,c1,y5,y6,rfl,F1,⟨rfl,h⟩|⟨rfl,rfl,h⟩⟩
    .have:=F1.Ko;exact⟨m-(MB f1-MB J3),Θ,f1,D,y5,y6,rfl,F1,.inl ⟨rfl,Θ⟩⟩
    .refine⟨0,Θ,f1,ξ,y5,y6,rfl,F1,.inr ⟨rfl,λi l hl=>h i (Jg.mpr ?_) l hl⟩⟩;have hi:i<J0.length:=by rw[<- F1.len];exact(gX hl).1
     exact⟨J0.length-1-i,IS.mpr Θ,Θ⟩
  .exact .inl ⟨rfl,.Lq (t:=.e (J3.map dS)) rfl ⟨J3,rfl,F,hx⟩⟩
 exact⟨J3,e,h⟩
variable{L:Z Nat}{s0:Nat}
section
variable{J0:Z Rw}{b:Str}
def jF(J0:Z Rw)(b:Str)(t:Nat):Z Nat:=match J0[t]? with
 |some r=>if r.sets=O b then []else r.outs t
 |none=>[]
def sE(J0:Z Rw)(b:Str)(t:Nat):Bool:=match J0[t]? with
 |some r=>decide (b∈r.reads)
 |none=>ξ
theorem kn{t u:Nat}(h:u∈jF J0 b t):∃r,J0[t]?=O r/\r.sets≠O b/\u∈r.outs t:=by
 unfold jF at h;split at h
 .rename_i r e;split at h
  .cases h
  .exact⟨r,e,by assumption,h⟩
 .cases h
theorem vo(h:HE J0 i b):∀s,K2 (jF J0 b) [s] i->∃t,K2 (jF J0 b) [s] t/\sE J0 b t=D:=by
 induction h with
 |here q hb=>intro s Y;refine⟨_,Y,?_⟩;unfold sE;rw[q];exact decide_eq_true hb
 |on q h1 hj _ ih=>intro s Y;refine ih s (.more Y ?_);unfold jF;rw[q];dsimp only;rw[if_neg h1];exact hj
theorem jG{x:Nat}(h:j<L.length):(L++[x]).getD j 0=L.getD j 0:=by rw[JN,JN,LF h]
theorem yE{x:Nat}(h:j=L.length):(L++[x]).getD j 0=x:=by subst h;simp[JN]
structure Way(J0:List Rw)(b:Str)(s0:Nat)(W:List Nat):Prop where
 len:∃n,W.length=n+1/\sE J0 b (W.getD n 0)=D
 hd:W.getD 0 0=s0
 nx:∀k,k+1<W.length->W.getD (k+1) 0∈jF J0 b (W.getD k 0)
theorem EZ{t:Nat}{fit:Nat->Bool}{q:Z Nat}(h:Wy (jF J0 b) fit [s0] t q):(∃n,q.reverse.length=n+1/\q.reverse.getD n 0=t)/\q.reverse.getD 0 0=s0/\∀k,k+1<q.reverse.length->q.reverse.getD (k+1) 0∈jF J0 b (q.reverse.getD k 0):=by
 induction h with
 |@one t h=>rw[HK.mp h];exact⟨⟨0,rfl,rfl⟩,rfl,λk hk=>absurd hk Ξ⟩
 |@more t p r h _ w ih=>
  obtain⟨⟨n,Y,e2⟩,h2,h3⟩:=ih;rw[Ub];generalize r.reverse=L at*
  refine⟨⟨n+1,by simp[Y],yE Y.symm⟩,by rw[jG Θ];exact h2,λk hk=>?_⟩;rw[HZ]at hk;have hk:k+1<L.length+1:=hk;rw[jG (show k<L.length by lia)];by_cases z:k+1=L.length
  .rw[yE z,show k=n by lia,e2];exact h
  .rw[jG Θ];exact h3 k Θ
theorem vp{t:Nat}(h:t<J0.length):((gC 4 ck [.str b,dR J0,dW J0] [dI t]).bind T.d).bind Qi=O ((jF J0 b t).map dI):=by
 have q:J0[t]?=O J0[t]:=gQ h;unfold jF;rw[q];dsimp only
 obtain⟨s,e,h⟩:∃s,gC 4 ck [.str b,dR J0,dW J0] [dI t]=O s/\s.d.bind Qi=O ((if(J0[t]).sets=O b then []else(J0[t]).outs t).map dI):=by
  refine Rz.ofC (.ret (t:=if(J0[t]).sets=O b then .e []else .f (.t (((J0[t]).outs t).map dI))) (pe (ao (LV (oD (x:=dR J0) (y:=dI t) rfl rfl (dG q)) (qx _)) (y:=.str b) rfl OZ) (λz=>?_) λz=>?_) ?_)
  .rw[if_pos (of_decide_eq_true z)];rfl
  .rw[if_neg (of_decide_eq_false z)];exact(eV (x:=dW J0) (y:=dI t) rfl rfl).trans (kh q)
  .split<;>rfl
 rw[e];exact h
theorem Bc{t:Nat}(h:t<J0.length):gC 3 cI [.str b,dR J0] [dI t]=O (.f (.bl (sE J0 b t))):=by have q:J0[t]?=O J0[t]:=gQ h;unfold sE;rw[q];obtain⟨s,e,rfl⟩:=Rz.ofC (R:=λs=>s=.f (.bl (decide (b∈(J0[t]).reads)))) (m:=3) (g:=cI) (caps:=[.str b,dR J0]) (ds:=[dI t]) (.ret ((eV (x:=.str b) rfl (L7 (oD (x:=dR J0) (y:=dI t) rfl rfl (dG q)) (qB _))).trans IG) rfl);exact e
theorem rt_I(σ:Jz):z96 σ=RTg σ kZ hJ (λa b=>G5 (aS D) a b) (Pz λa b=>bo (d2 ah a b)):=rfl
theorem E1 (hn:J0.length<=500) (hs:s0<J0.length) (hO:∀ (i:Nat) (r:Rw) (j:Nat),J0[i]?=O r->j∈r.outs i->j<J0.length) (hN:HE J0 s0 b) :
  ∃W:Z Nat,XN [MC c s J0,dI s0,.str b]=O (.e (W.map dI))/\Way J0 b s0 W/\W.length<=9001:=by
 obtain⟨r,h1,h2,h3⟩:=yx opsI (J4:=[s0]) (U:=HQ J0.length) (beh:=jF J0 b) (fit:=sE J0 b) (λt _ u hu=>by obtain⟨r,e,_,ho⟩:=kn hu;exact IS.mpr (hO t r u e ho)) (by simp;lia) (λt q=>HK.mp q▸IS.mpr hs)
 cases r with
 |none=>obtain⟨t,c,f⟩:=vo hN s0 (.one (.head _));rw[h1 rfl t c]at f;cases f
 |some Y=>
  obtain⟨hl,t,wy,ft⟩:=h2 Y rfl;obtain⟨⟨n,e1,e2⟩,g2,g3⟩:=EZ wy
  obtain⟨s,e,rfl⟩:∃s',XN [MC c s J0,dI s0,.str b]=O s'/\s'=.e (Y.reverse.map dI):=Rz.of (.seq (.set (d:=dR J0) rfl (.seq (.set (L7 rfl (kg c s J0 Θ)) (.ret (xm (d0:=.e [dI s0]) (a:=[.str b,dR J0,dW J0]) (b:=[.str b,dR J0]) rfl rfl rfl λf1 f2 F0 JB=>by rw[rt_I];exact h3 _ f1 f2 F0 ⟨λt q=>by rw[xj];exact vp (IS.mp q),λt q=>by rw[xk JB];exact Bc (IS.mp q)⟩) rfl)))))
  exact⟨Y.reverse,e,⟨⟨n,e1,by rw[e2];exact ft⟩,g2,g3⟩,by rw[List.length_reverse];exact hl⟩
end
theorem yF{g:De->C OS}{d:Dt}{z:OS}(h:f J=O d)(h2:g J=O z):Rk f g J=O (d::z.1,z.2):=by unfold Rk;rw[h,h2];rfl
theorem E2{f:De->C T}{g:De->C (Z Dt)}(h:f J=O (.e l))(h2:g J=O ys):SB f g J=O ([],l,ys):=by unfold SB;rw[h,Im];dsimp only;rw[h2];rfl
theorem E3{g:De->C OS}{z:OS}(h:g J=O z)(q:z.1.length+z.2.2.length<=1000):SD g J=O (.tl z.1 z.2.1 z.2.2):=by unfold SD;rw[h,Im,if_pos (small Θ)]
theorem yG{g:De->C (Z (Hr×Dt))}{l:Z (Hr×Dt)}(h:g J=O l)(k:l.length<=15/\(l.map (·.1)).Nodup):p4 g J=O (.IJ l):=by unfold p4;rw[h,Im,if_pos k]
theorem K3{l:Z Str}{x:Str}:aS neg (.str x) (.t (l.map .str))=O (.f (.bl (if neg then !decide (x∈l)else decide (x∈l)))):=by rw[GC (by rw[d8];rfl),t6]
section
variable{J0:Z Rw}{b:Str}{n x:Nat}{r:Rw}{J:De}{F:De->C Dt}
theorem vq(q:vB 0 J=O (dR J0))(h:F J=O (dI x))(Y:J0[x]?=O r):bo (d2 ah (vB 0) F) J=O r.d:=oD q h (dG Y)
def nS(J0:Z Rw)(n:Nat)(b:Str)(seen Y:Z Nat)(q x6:C T):De:=[O (.f (dR J0)),O (.f (dI n)),O (.f (.str b)),O (kT seen),O (.e (Y.map dI)),q,x6]
theorem pi (hN:J0.length<=400) (hn:n<J0.length) (hO:∀ (i:Nat) (r:Rw) (j:Nat),J0[i]?=O r->j∈r.outs i->j<J0.length) :
  ∃t,Xz [dR J0,dI n,.str b]=O t/\((t=.f (.bl D)/\HE J0 n b)∨(t=.f (.bl ξ)/\¬ HE J0 n b)):=by
 refine Rz.of (.seq (.own (t:=kT [n]) (yG (l:=[(kI n,.bl D)]) rfl ⟨Ξ,Ξ⟩) (.seq (.own (t:=.e [dI n]) rfl (.seq (Rz.while (λm J=>∃seen lf x5 x6,J=nS J0 n b seen lf x5 x6/\n∈seen/\Ym (jF J0 b) J0.length [] (λj=>j<J0.length/\(HE J0 j b->HE J0 n b)) (λx=>∀r,J0[x]?=O r->b∉r.reads) seen lf/\m+seen.length=J0.length+lf.length) ?_ 100000 J0.length _ Θ ⟨[n],[n],_,_,rfl,.head _,⟨Ξ,λj hj=>HK.mp hj▸hn,Ξ,λj hj=>(show n=j by simpa[eq_comm] using hj)▸⟨hn,id⟩,λx hx h=>absurd (by simpa using hx) h⟩,Ξ⟩))))));rintro m J ⟨seen,lf,x5,x6,rfl,hs,θ,hm⟩;have hc:z56 (nS J0 n b seen lf x5 x6)=O (decide (lf.map dI≠[])):=sw rfl;have ls:=bX θ.nd θ.lt;rcases qv4 lf with rfl|⟨lf,x,rfl⟩
 .refine .inl ⟨hc,.ret rfl (.inr ⟨rfl,λh=>?_⟩)⟩
  have key:∀i,HE J0 i b->i∈seen->False:=λi h=>by
   induction h with
   |here Y hb=>exactλhi=>(θ.cl _ (.inr hi) nofun).1 _ Y hb
   |on Y h1 hj _ ih=>exactλhi=>ih θ hc h (((θ.cl _ (.inr hi) nofun).2 _ (by unfold jF;rw[Y];dsimp only;rw[if_neg h1];exact hj)).resolve_left nofun)
  exact key n h hs
 .rw[qv5]at hc hm θ ⊢;have ln:=θ.ln;have px:=θ.rc x (.inr (.inr Ξ));have Y:J0[x]?=O (J0[x]'px.1):=gQ px.1;generalize J0[x]'px.1=r at Y;have rx:∀x6,bo (d2 ah (vB 0) (vB 5)) (nS J0 n b seen lf (O (.f (dI x))) x6)=O r.d:=λx6=>vq (x:=x) rfl rfl Y
  rw[HZ,Lc]at hm ln;refine .inr ⟨by rw[hc,IL];simp,.seq (.pop (l:=lf.map dI) (d:=dI x) (by unfold nS;rw[IL];rfl) (.seq (.if (ao (x:=.str b) rfl (L7 (rx x6) (lK r)) IG) (λz=>.ret rfl (.inl ⟨rfl,px.2 (.here Y (Il.mpr (of_decide_eq_true z)))⟩)) λz=>.nx ?_)))⟩;have nb:b∉r.reads:=λy=>of_decide_eq_false z (Il.mp y)
  have okx:∀r,J0[x]?=O r->b∉r.reads:=λr' h=>by rw[Y]at h;cases h;exact nb
  refine .if (ao (LV (rx x6) (nz r)) (y:=.str b) rfl OZ) (λw=>.for (f:=dI) (l:=r.outs x) (λp J=>∃X x6,J=nS J0 n b (seen++X) (lf++X) (O (.f (dI x))) x6/\(seen++X).Nodup/\(∀j∈X,j∈r.outs x)/\∀j∈p,j∈seen++X) (cz (Oh (x:=dR J0) (y:=dI x) rfl rfl (lJ J0 x r Y)) rfl) ⟨[],x6,by simp[nS],by simpa using θ.nd,nofun,nofun⟩ ?_ ?_) λw=>.nx ⟨m-1,Θ,seen,lf,_,x6,rfl,hs,?_,Θ⟩
  .rintro p j q J e ⟨X,y6,rfl,nd,h2,h3⟩;have hj:j∈r.outs x:=by rw[e];simp
   have l1:=bX nd λi hi=>(IC.mp hi).elim (θ.lt i) λz=>hO x r i Y (h2 i z)
   rw[HZ]at l1;refine⟨_,rfl,.if (ao (x:=dI j) rfl (su (seen++X)) (lL D j (seen++X))) (λk=>?_) λk=>.nx ⟨X,_,rfl,nd,h2,λi hi=>(IC.mp hi).elim (h3 i) λy=>?_⟩⟩
   .have k:j∉seen++X:=by simpa using k
    refine .seq (.put rfl rfl rfl k nd (by rw[HZ];lia) (.app (l:=(lf++X).map dI) rfl rfl (by simp;lia) ⟨X++[j],_,by rw[<- M7,<- M7];unfold nS;rw[IL (l₁:=lf++X)];rfl,?_,λi hi=>?_,λi hi=>?_⟩))
    .rw[<- M7];exact Mt.mpr ⟨nd,Ξ,λa ha b hb e=>k (by rw[HK.mp hb]at e;exact e▸ha)⟩
    .exact(IC.mp hi).elim (h2 i) λy=>HK.mp y▸hj
    .rw[<- M7];exact(IC.mp hi).elim (λy=>Kj _ (h3 i y)) λy=>Lr _ y
   .rw[HK.mp y]
    exact YU λh=>by rw[decide_eq_false h]at k;cases k
  .rintro J ⟨X,y6,rfl,nd,h2,h3⟩;have l1:=bX nd λi hi=>(IC.mp hi).elim (θ.lt i) λz=>hO x r i Y (h2 i z)
   rw[HZ]at l1;refine⟨m-1,Θ,seen++X,lf++X,_,y6,rfl,Kj _ hs,θ.pop okx nd (λj hj=>⟨hO x r j Y (h2 j hj),hO x r j Y (h2 j hj),λz=>px.2 (.on Y (of_decide_eq_true w) (h2 j hj) z)⟩) λy hy=>.inr ?_,by simp only[HZ];lia⟩;obtain⟨r',e,_,h⟩:=kn hy;rw[Y]at e;cases e;exact h3 y h
  .have:=θ.pop (X:=[]) okx (by simpa using θ.nd) nofun λy hy=>by obtain⟨r',e,h,_⟩:=kn hy;rw[Y]at e;cases e;exact absurd h (of_decide_eq_false w)
   simpa using this
end
section
variable{J0:Z Rw}{bg:Z Str}{ks:Z (Nat×Z Str)}{c s:Dt}
def S5(J0:Z Rw)(i:Nat)(b:Str):Bool:=@decide (HE J0 i b) (zd1 _)
theorem KN{b:Str}:S5 J0 i b=D↔HE J0 i b:=@decide_eq_true_iff _ (zd1 _)
theorem GR{b:Str}(Y:J0.length<=400)(hn:n<J0.length)(q:∀(i:Nat)(r:Rw)(j:Nat),J0[i]?=O r->j∈r.outs i->j<J0.length):Xz [dR J0,dI n,.str b]=O (.f (.bl (S5 J0 n b))):=by
 obtain⟨t,e,⟨rfl,h⟩|⟨rfl,h⟩⟩:=pi (b:=b) Y hn q
 .rw[e,KN.mpr h]
 .rw[e,Bool.eq_false_iff.mpr λz=>h (KN.mp z)]
theorem yH {B:Z Str} (hN:J0.length<=400) (h0:0<J0.length) (hO:∀ (i:Nat) (r:Rw) (j:Nat),J0[i]?=O r->j∈r.outs i->j<J0.length) (hB:B.length<=100) (hk:∀ k∈ks,k.1<J0.length) (S3:ks.length<=900) :
  ∃t,UT [dR J0,IU (.t (bg.map .str)) ks,.e (B.map .str)]=O t/\((t=.f (.bl D)/\∃k∈(0,bg)::ks,∃b∈B,b∉k.2/\HE J0 k.1 b)∨(t=.f (.bl ξ)/\∀k∈(0,bg)::ks,∀b∈B,HE J0 k.1 b->b∈k.2)):=by
 refine Rz.of (.seq (.for (f:=Lp) (l:=(0,bg)::ks) (λp J=>(∃x y,J=[O (.f (dR J0)),O (.f (IU (.t (bg.map .str)) ks)),O (.f (.e (B.map .str))),x,y])/\∀k∈p,∀b∈B,HE J0 k.1 b->b∈k.2) (cz (fW (l:=[Lp (0,bg)]) (m:=ks.map Lp) rfl rfl (by simp;lia)) rfl) ⟨⟨_,_,rfl⟩,nofun⟩ ?_ λJ ⟨_,h⟩=>.ret rfl (.inr ⟨rfl,h⟩)));rintro p k q J e ⟨⟨x,y,rfl⟩,h⟩
 have S6:k.1<J0.length:=by
  have:k∈(0,bg)::ks:=by rw[e];simp
  exact(HU.mp this).elim (λz=>z▸h0) (hk k)
 refine⟨_,rfl,.if (b:=!decide (B.filter (λb=>!decide (b∈k.2)&&S5 J0 k.1 b)=[])) (ao (aD (aC (ds:=B.map .str) (ys:=(B.filter λb=>!decide (b∈k.2)&&S5 J0 k.1 b).map .str) rfl (aJ λb _=>⟨_,rfl,iB (ao (x:=.str b) (y:=.t (k.2.map .str)) rfl rfl K3) λ_=>?_,λ_=>rfl⟩) ?_)) (y:=.e (([]:Z Str).map .str)) rfl qu) (λz=>?_) λz=>.nx ⟨⟨_,_,rfl⟩,λw Y b hb n=>(IC.mp Y).elim (λY=>h w Y b hb n) λY=>?_⟩⟩
 .unfold ca;rw[OY (x:=dR J0) (y:=dI k.1) (z:=.str b) rfl rfl rfl (GR hN S6 hO)];rfl
 .rw[Hl];exact Iw (K6 _ _) Θ
 .obtain⟨b,hb⟩:=za1 _ (show B.filter (λb=>!decide (b∈k.2)&&S5 J0 k.1 b)≠[]by simpa using z);obtain⟨h1,h2⟩:=JP.mp hb;rw[IH,KN]at h2;exact .ret rfl (.inl ⟨rfl,k,by rw[e];simp,b,h1,by simpa using h2.1,h2.2⟩)
 .rw[HK.mp Y]at n ⊢;refine YU λy=>?_
  have:b∈B.filter λb=>!decide (b∈k.2)&&S5 J0 k.1 b:=JP.mpr ⟨hb,by rw[KN.mpr n,decide_eq_false y];rfl⟩
  rw[show B.filter (λb=>!decide (b∈k.2)&&S5 J0 k.1 b)=[]by simpa using z]at this;cases this
def Vk(p:Nat×Z Str×Bool):Dt:=.t [dI p.1,.t (p.2.1.map .str),.bl p.2.2]
structure S7(J0:List Rw)(p:Nat×List Str×Bool)(b:Str)(W:List Nat):Prop where
 out:b∉p.2.1
 way:Way J0 b p.1 W
 len:W.length<=9001
noncomputable def jH(bg:Z Str)(ks:Z (Nat×Z Str)):Z (Nat×Z Str×Bool):=(0,bg,D)::ks.map λk=>(k.1,k.2,ξ)
theorem Bd {B:Z Str} (hB:∀ (i:Nat) (r:Rw) (b:Str),J0[i]?=O r->b∈r.reads->b∈B) (hb:B.length<=12) (hn:J0.length<=400) (h0:0<J0.length) (hO:∀ (i:Nat) (r:Rw) (j:Nat),J0[i]?=O r->j∈r.outs i->j<J0.length) (hk:∀ k∈ks,k.1<J0.length) (S3:ks.length<=900) :
  ∃t,q47 [MC c s J0,IU (.t (bg.map .str)) ks]=O t/\((t=.f .G8/\∀p∈jH bg ks,∀b,HE J0 p.1 b->b∈p.2.1)∨∃p∈jH bg ks,∃b W,HE J0 p.1 b/\S7 J0 p b W/\t=.tl [.str "lost",.str b] (W.map dI) [.bl p.2.2]):=by
 obtain⟨J3,en,F,fx⟩:=sD (c:=c) (s:=s) hB hO hb Θ;refine Rz.of (.seq (.set (L7 rfl en) (.seq (.set (d:=.e ((jH bg ks).map Vk)) (fW (l:=[Vk (0,bg,D)]) rfl (aD (aC (ds:=ks.map Lp) (ys:=(ks.map λk=>(k.1,k.2,ξ)).map Vk) rfl (by rw[IV];exact aR λk _=>⟨_,rfl,rfl,rfl⟩) (by simp;lia))) (by simp;lia)) (.seq (.for (f:=Vk) (l:=jH bg ks) (λp J=>(∃x4 x5 x6 x7,J=[O (.f (MC c s J0)),O (.f (IU (.t (bg.map .str)) ks)),O (.f (dF J3)),O (.f (.e ((jH bg ks).map Vk))),x4,x5,x6,x7])/\∀q∈p,∀b,HE J0 q.1 b->b∈q.2.1) rfl ⟨⟨_,_,_,_,rfl⟩,nofun⟩ ?_ λJ ⟨_,h⟩=>.ret rfl (.inl ⟨rfl,h⟩)))))));rintro p k q J e ⟨⟨x4,x5,x6,x7,rfl⟩,h⟩;have hkm:k∈jH bg ks:=by rw[e];simp
 have S6:k.1<J0.length:=by
  rcases HU.mp hkm with rfl|z
  .exact h0
  .obtain⟨k',hk',rfl⟩:=Jg.mp z;exact hk k' hk'
 obtain⟨l,hl⟩:∃l,J3[k.1]?=O l:=⟨J3[k.1]'(by rw[F.len];exact S6),Ξ⟩;have nd:=λb=>F.iff fx hO hl b
 refine⟨_,rfl,.for (f:=.str) (l:=l) (λp J=>(∃x7,J=[O (.f (MC c s J0)),O (.f (IU (.t (bg.map .str)) ks)),O (.f (dF J3)),O (.f (.e ((jH bg ks).map Vk))),O (.f (dI k.1)),O (.f (.t (k.2.1.map .str))),O (.f (.bl k.2.2)),x7])/\∀b∈p,b∈k.2.1) (cz (oD (x:=dF J3) (y:=dI k.1) (d:=dS l) rfl rfl ?_) rfl) ⟨⟨_,rfl⟩,nofun⟩ ?_ λJ ⟨⟨x7,e⟩,z⟩=>⟨⟨_,_,_,_,e⟩,λq hq b n=>(IC.mp hq).elim (λhq=>h q hq b n) λhq=>?_⟩⟩
 .unfold dF dI;rw[d5,aG,Je,hl];rfl
 .rintro p b q J e ⟨⟨y,rfl⟩,h⟩;have Y:HE J0 k.1 b:=(nd b).mp (by rw[e];simp);refine⟨_,rfl,.if (ao (x:=.str b) (y:=.t (k.2.1.map .str)) rfl rfl K3) (λz=>?_) λz=>.nx ⟨⟨_,rfl⟩,λw hw=>(IC.mp hw).elim (h w) λhw=>?_⟩⟩
  .obtain⟨W,ew,wy,hl⟩:=E1 (c:=c) (s:=s) Θ S6 hO Y;exact .ret (E3 (yF rfl (yF (d:=.str b) rfl (E2 ((gU (x:=MC c s J0) (y:=dI k.1) (z:=.str b) rfl rfl rfl).trans ew) (ys:=[.bl k.2.2]) rfl))) Ξ) (.inr ⟨k,hkm,b,W,Y,⟨by simpa using z,wy,hl⟩,rfl⟩)
  .rw[HK.mp hw];simpa using z
 .rw[HK.mp hq]at n ⊢;exact z b ((nd b).mpr n)
end
theorem qC{α:Type}(l:Z α):kW (λbs=>bs.all id) [.e (l.map λ_=>Dt.bl D)]=O (.f (.bl D)):=by have e:=jE (l.map λ_=>D);rw[IV]at e;unfold kW;dsimp only;rw[show(l.map λ_=>Dt.bl D)=l.map (Dt.bl ∘ λ_=>D)from rfl,e];simp
section
variable{F σ:De->C Dt}{J:De}{W:Z Nat}{J0:Z Rw}{n k:Nat}
theorem Yo(h:F J=O (.bl D)):eL (ca F) J=O ξ:=by unfold eL ca;rw[h];rfl
theorem Ki{l:Z Nat}:Hs neg (.e (l.map dI)) (.e [])=O (.f (.bl (if neg then !decide (l=[])else decide (l=[])))):=by rw[qt (qy l) rfl];cases l<;>rfl
theorem Yp(h:F J=O (.e (W.map dI)))(q:W≠[]):G5 (Hs ξ) F (bo (aX ae)) J=O ξ:=ao h (y:=.e []) rfl (Ki.trans (by rw[decide_eq_false q];rfl))
theorem sF(h:F J=O (.e (W.map dI)))(q:W.length<=10000):eL (ca (bo (ag (kW λbs=>bs.all id) (aa (bo (aL [V] (HS F) (am 0) cJ (bo (ag Px (aa (vL 0) ae))))) ae)))) J=O ξ:=Yo (LV (aD (aC (cz h rfl) (aR (h:=λ_=>.bl D) λj _=>⟨_,rfl,rfl,rfl⟩) (by rw[Hl];lia))) (qC W))
theorem LD(h:F J=O (.e (W.map dI)))(q:σ J=O (dI k))(hk:k<W.length):bo (d2 ah F σ) J=O (dI (W.getD k 0)):=oD h q (by unfold dI;rw[d5,aG,Je,gQ hk,JN,gQ hk];rfl)
theorem ud(h:F J=O (.e (W.map dI)))(Y:σ J=O (.int (-1)))(q:W.length=n+1):bo (d2 ah F σ) J=O (dI (W.getD n 0)):=oD h Y (by rw[d5];unfold Ks No;rw[Hl,q,if_neg Θ,if_pos Θ];show(((W.map dI)[(-1+((n+1:Nat):Int)).toNat]?)).map T.f=_;rw[show(-1+((n+1:Nat):Int)).toNat=n by lia,Je,gQ Θ,JN,gQ Θ];rfl)
theorem qD{d:Dt}(h:F J=O (.e (d::l))):bo (d2 ah F (kD (.int 0))) J=O d:=oD h (y:=.int ((0:Nat):Int)) rfl (by rw[d5,aG];rfl)
theorem ue(q:F J=O (dR J0))(h:σ J=O (dI k))(Y:J0[k]?=O r):bo (ag y1 (aa F (aa σ ae))) J=O (.e ((r.outs k).map dI)):=Oh q h (lJ J0 k r Y)
theorem gY(h:F J=O (dI n))(h2:n<=1000000):cH d6 (aa F ae) J=O ((HQ n).map dI):=by unfold cH;rw[ai h aN,Im];exact sr n h2
end
theorem nH:∀l:Z Str,HA (l.map .str)=0
 |[]=>by simp[HA]
 |x::l=>by rw[Ia,HA,nH l];simp[gy]
theorem nI:∀q:Z (Z Str),HA (q.map λl=>.t (l.map .str))<=1
 |[]=>by simp[HA]
 |l::q=>by have:=nI q;rw[Ia,HA];simp only[gy,nH];lia
theorem lO:∀q:Z Hd,HA (q.map HV)<=1
 |[]=>by simp[HA]
 |h::q=>by
  have:=lO q
  have e:gy (HV h)<=1:=by unfold HV;simp[gy,HA]
  rw[Ia,HA];lia
theorem ug(ds:Z Dt)(h:HA ds<=50)(q:ds≠[]):Hs ξ (.e ds) (.e [])=O (.f (.bl ξ)):=by
 cases ds with
 |nil=>exact absurd rfl q
 |cons d ds=>refine r6 (b:=false) ?_;show(if Iq (_::_) []&&decide (HA _<=59)then O (Ib (_::_) [])else V)=_;rw[if_pos (by rw[decide_eq_true Θ];simp[Iq])];simp[Ib]
theorem qE{β:Type}:∀{l:Z (Nat×β)}{a b:Nat×β},(l.map (·.1)).Nodup->a∈l->b∈l->a.1=b.1->a=b
 |[],_,_,_,h,_,_=>nomatch h
 |c::l,a,b,nd,Y,q,e=>by
  rw[Ia,Oj]at nd;rcases HU.mp Y with rfl|Y
  .exact(HU.mp q).elim (·.symm) λq=>absurd (Jg.mpr ⟨b,q,e.symm⟩) nd.1
  .exact(HU.mp q).elim (λz=>absurd (Jg.mpr ⟨a,Y,z▸e⟩) nd.1) λq=>qE nd.2 Y q e
theorem sG{bg:Z Str}{ks:Z (Nat×Z Str)}{p:Nat×Z Str×Bool}{b:Str}{W:Z Nat}(S3:ks.length<=900)(nd:(ks.map (·.1)).Nodup)(hp:p∈jH bg ks)(L:S7 J0 p b W):XC [dR J0,IU (.t (bg.map .str)) ks,.t [.str "lost",.str b,.e (W.map dI),.bl p.2.2]]=O (.f (.bl D)):=by
 obtain⟨n,Y,hf⟩:=L.way.len;have hl:=L.len;have ne:W≠[]:=λz=>by rw[z]at Y;cases Y
 obtain⟨r,hr,hrd⟩:∃r,J0[W.getD n 0]?=O r/\b∈Kn r.atoms:=by
  unfold sE at hf;split at hf
  .rename_i r e;exact⟨r,e,Il.mp (of_decide_eq_true hf)⟩
  .cases hf
 have w0:W.getD 0 0=p.1:=L.way.hd
 have UE:p.2.2=ξ->∃ls,(ks.filter λk=>decide (k.1=p.1)).map (·.2)=p.2.1::ls:=λz=>by
  rcases HU.mp hp with rfl|hp
  .cases z
  .obtain⟨k,hk,rfl⟩:=Jg.mp hp;have hm:k∈ks.filter λq=>decide (q.1=k.1):=JP.mpr ⟨hk,Ξ⟩
   cases e:ks.filter λq=>decide (q.1=k.1)with
   |nil=>rw[e]at hm;cases hm
   |cons q l=>
    have hq:q∈ks.filter λq=>decide (q.1=k.1):=by rw[e];exact .head _
    obtain⟨h1,h2⟩:=JP.mp hq;rw[qE nd h1 hk (of_decide_eq_true h2)];exact⟨_,rfl⟩
 obtain⟨t,e,rfl⟩:∃t,XC [dR J0,IU (.t (bg.map .str)) ks,.t [.str "lost",.str b,.e (W.map dI),.bl p.2.2]]=O t/\t=.f (.bl D):=by
  refine Rz.of (.seq (.if (b:=false) (KH (a:=false) rfl λ_=>KH (a:=false) rfl λ_=>KH (a:=false) rfl λ_=>Yp (W:=W) rfl ne) nofun λ_=>.nx (.seq (.step (HP:=[O (.f (dR J0)),O (.f (IU (.t (bg.map .str)) ks)),O (.f (.t [.str "lost",.str b,.e (W.map dI),.bl p.2.2])),O (.f (.str b)),O (.f (.e (W.map dI))),O (.f (.bl p.2.2)),V,V]) rfl (.seq (.if (b:=false) (KH (a:=false) (sF (W:=W) rfl Θ) λ_=>rfl) nofun λ_=>.nx (.seq (.set (d:=.e (((ks.filter λk=>decide (k.1=p.1)).map (·.2)).map λl=>.t (l.map .str))) (aD (aC (ds:=ks.map Lp) rfl ?_ ?_)) (.seq (.mono (N:=λJ=>∃ls:Z (Z Str),J=[O (.f (dR J0)),O (.f (IU (.t (bg.map .str)) ks)),O (.f (.t [.str "lost",.str b,.e (W.map dI),.bl p.2.2])),O (.f (.str b)),O (.f (.e (W.map dI))),O (.f (.bl p.2.2)),O (.f (.e ((p.2.1::ls).map λl=>.t (l.map .str)))),V]) (.if (b:=p.2.2) rfl (λz=>.set (d:=.e [.t (p.2.1.map .str)]) (aD (aC (ds:=[.t (bg.map .str)]) (ys:=[.t (p.2.1.map .str)]) rfl ?_ Ξ)) ⟨[],rfl⟩) λz=>.nx ?_) ?_ λ_ h=>h))))))))))
  .rw[IV];exact aJ (f:=Lp) λk _=>⟨_,rfl,ao (x:=dI k.1) rfl ((LD (k:=0) (W:=W) rfl rfl Θ).trans (by rw[w0])) nG,λ_=>rfl⟩
  .rw[Hl,Hl];exact Iw (K6 _ _) Θ
  .rcases HU.mp hp with rfl|hp
   .show cO (am 0) q64 (vL 0) _ ([bg].map λl=>.t (l.map .str))=O ([bg].map λl=>.t (l.map .str));exact aR λl _=>⟨[O (.f (.t (l.map .str))),O (.f (.e (W.map dI)))],rfl,ao (x:=dI 0) (y:=dI 0) ((LD (k:=0) (W:=W) rfl rfl Θ).trans (by rw[w0])) rfl nG,rfl⟩
   .obtain⟨k,hk,rfl⟩:=Jg.mp hp;cases z
  .obtain⟨ls,e⟩:=UE z;exact⟨ls,by rw[<- e];rfl⟩
  .rintro J ⟨ls,rfl⟩;refine .seq (.if (b:=false) (KH (a:=false) (ao (y:=.e []) rfl rfl (ug ((p.2.1::ls).map λl=>.t (l.map .str)) (by have:=nI (p.2.1::ls);lia) Ξ)) λ_=>KH (a:=false) (ao (x:=.str b) (y:=.t (p.2.1.map .str)) rfl (qD rfl) (K3.trans (by rw[decide_eq_false L.out];rfl))) λ_=>ao (x:=.str b) rfl (L7 (vq rfl (ud rfl rfl Y) hr) (lK r)) (IG.trans (by rw[decide_eq_true hrd];rfl))) nofun λ_=>.nx (.seq (.for (f:=dI) (l:=HQ n) (λp' J=>∃x7,J=[O (.f (dR J0)),O (.f (IU (.t (bg.map .str)) ks)),O (.f (.t [.str "lost",.str b,.e (W.map dI),.bl p.2.2])),O (.f (.str b)),O (.f (.e (W.map dI))),O (.f (.bl p.2.2)),O (.f (.e ((p.2.1::ls).map λl=>.t (l.map .str)))),x7]) (gY (e8 (a:=n+1) (b:=1) (cg rfl (by rw[Hl,Y])) rfl rfl) Θ) ⟨_,rfl⟩ ?_ λJ _=>.ret rfl rfl)));rintro p' k q J e ⟨x7,rfl⟩;have hk:k<n:=IS.mp (by rw[e];simp);obtain⟨r,hr,hs,ho⟩:=kn (L.way.nx k Θ);refine⟨_,rfl,.if (b:=false) (KH (a:=false) (ao (LD (k:=k+1) rfl (dE (a:=k) (b:=1) rfl rfl rfl) Θ) (ue rfl (LD (k:=k) rfl rfl Θ) hr) (HC.trans (by rw[decide_eq_true ho];rfl))) λ_=>ao (LV (vq rfl (LD (k:=k) rfl rfl Θ) hr) (nz r)) (y:=.str b) rfl (OZ.trans (by rw[decide_eq_false hs];rfl))) nofun λ_=>.nx ⟨_,rfl⟩⟩
 exact e
theorem Be{i j:Int}(q:0<j)(h1:j<10000000000000):cC (.int i) (.int j)=O (.f (.int (i/j))):=if_pos ⟨q,Θ⟩
section
variable{f g:De->C Dt}{J:De}{i:Int}{j:Nat}
theorem ci(h1:f J=O (.int i))(h2:g J=O (dI j))(h:0<j/\j<10000000000000):bo (d2 cC f g) J=O (.int (i/(j:Int))):=oD h1 h2 (Be Θ Θ)
theorem fX(h1:f J=O (.int i))(h2:g J=O (dI j))(h:0<j):∃k:Nat,k<j/\bo (d2 du f g) J=O (dI k):=by obtain⟨k,hk,e⟩:=r9 i h;exact⟨k,hk,oD h1 h2 ((dX Θ).trans (by rw[e];rfl))⟩
end
theorem ja(ns:Z Int)(k:Nat):∃n:Int,y2 [.e (ns.map .int),dI k]=O (.f (.int n)):=by
 obtain⟨t,e,n,rfl⟩:∃t,y2 [.e (ns.map .int),dI k]=O t/\∃n:Int,t=.f (.int n):=Rz.of (.seq (.if (b:=decide ((k:Int)<(ns.length:Nat))) (ao (x:=dI k) (y:=dI ns.length) rfl (cg rfl (Hl ..).symm) rfl) (λz=>.ret (t:=.f (.int (ns.getD k 0))) ((eV (x:=.e (ns.map .int)) (y:=dI k) rfl rfl).trans (by have z:=of_decide_eq_true z;unfold dI;rw[d5,aG,Je,JN,gQ Θ];rfl)) ⟨_,rfl⟩) λz=>.nx (.ret rfl ⟨0,rfl⟩)))
 exact⟨n,e⟩
theorem uh(c:Int)(k:Nat)(hk:k<=1000):∃v:Int,SE [.int c,dI k]=O (.f (.int v)):=by
 have c0:=YW c (show(2147483629:Int)≠0 by decide);have c1:=YV c (show(0:Int)<2147483629 by decide)
 obtain⟨t,e,n,rfl⟩:∃t,SE [.int c,dI k]=O t/\∃n:Int,t=.f (.int n):=by refine Rz.of (.seq (.set (d:=.int 0) rfl (.seq (.set (d:=.int (c%2147483629+48271*(k:Int)+11)) (oD (oD (oD rfl rfl (dX (j:=2147483629) Ω)) (oD (x:=.int 48271) (y:=dI k) rfl rfl (lw Ω Ω)) rfl) rfl rfl) (.seq (.for (f:=dI) (l:=HQ 15) (λp J=>∃f n Y,J=[O (.f (.int c)),O (.f (dI k)),O (.f (.int f)),O (.f (.int n)),Y]/\-1000000000<=n/\n<=10000000000) (gY (n:=15) rfl Ω) ⟨_,_,_,rfl,Θ,Θ⟩ ?_ λJ ⟨f,n,Y,e,_⟩=>.Lq (t:=.f (.int f)) (by rw[e];rfl) ⟨_,rfl⟩))))));rintro p j q J e ⟨f,n,Y,rfl,h0,h1⟩;have b0:=YW ((n*n+69621*n+(j:Int))%2147483629*16807+7919*(j:Int)+(k:Int)) (show(2147483587:Int)≠0 by decide);have b1:=YV ((n*n+69621*n+(j:Int))%2147483629*16807+7919*(j:Int)+(k:Int)) (show(0:Int)<2147483587 by decide);have a0:=YW (n*n+69621*n+(j:Int)) (show(2147483629:Int)≠0 by decide);have a1:=YV (n*n+69621*n+(j:Int)) (show(0:Int)<2147483629 by decide);exact⟨_,rfl,.seq (.set (oD (oD (oD (oD (x:=.int n) rfl rfl (lw Θ Θ)) (oD (x:=.int 69621) (y:=.int n) rfl rfl (lw Ω Ω)) rfl) (y:=dI j) rfl rfl) (y:=.int 2147483629) rfl (dX Ω)) (.seq (.set (oD (oD (oD (oD (y:=.int 16807) rfl rfl (lw Θ Θ)) (oD (x:=.int 7919) (y:=dI j) rfl rfl (lw Ω Ω)) rfl) (y:=dI k) rfl rfl) (y:=.int 2147483587) rfl (dX Ω)) (.set (oD (oD (x:=.int f) (y:=.int 2147483587) rfl rfl (D9 Ω Ω)) rfl rfl) ⟨_,_,_,rfl,Θ,Θ⟩))))⟩
 exact⟨n,e⟩
theorem lP(ns:Z Int)(k:Nat)(hk:k<=1000):∃v:Int,OT [.e (ns.map .int),dI k]=O (.f (.int v)):=by obtain⟨c,Y⟩:=ja ns 0;obtain⟨d,q⟩:=ja ns k;obtain⟨v,ev⟩:=uh d k hk;obtain⟨t,e,n,rfl⟩:∃t,OT [.e (ns.map .int),dI k]=O t/\∃n:Int,t=.f (.int n):=Rz.of (.seq (.if (ao (oD (Lb (y:=dI 0) rfl rfl Y) (y:=.int 2) rfl (dX Ω)) (y:=.int 0) rfl lv) (λ_=>.ret ((dM rfl rfl).trans q) ⟨_,rfl⟩) λ_=>.nx (.ret ((dM (Lb rfl rfl q) rfl).trans ev) ⟨_,rfl⟩)));exact⟨n,e⟩
def NC:Z Nat->Z Nat->Prop
 |[],[]=>True
 |d::ds,z::zs=>d<z/\NC ds zs
 |_,_=>False
theorem NC.snoc:∀{ds zs:Z Nat}{d z:Nat},NC ds zs->d<z->NC (ds++[d]) (zs++[z])
 |[],[],_,_,_,h=>⟨h,trivial⟩
 |_::_,_::_,_,_,h,g=>⟨h.1,NC.snoc h.2 g⟩
theorem NC.len:∀{ds zs:Z Nat},NC ds zs->ds.length=zs.length
 |[],[],_=>rfl
 |_::_,_::_,h=>congrArg (· + 1) (NC.len h.2)
theorem fJ(n:Int)(zs:Z Nat)(hz:∀z∈zs,0<z/\z<10000000000000)(hl:zs.length<=50):∃ds:Z Nat,Of [.int n,.e (zs.map dI)]=O (.e (ds.map dI))/\NC ds zs:=by
 obtain⟨t,e,ds,rfl,h⟩:∃t,Of [.int n,.e (zs.map dI)]=O t/\∃ds:Z Nat,t=.e (ds.map dI)/\NC ds zs:=by refine Rz.of (.seq (.own (t:=.e []) rfl (.seq (.for (f:=dI) (l:=zs) (λp J=>∃n ds x3,J=[O (.f (.int n)),O (.f (.e (zs.map dI))),O (.e (ds.map dI)),x3]/\NC ds p) rfl ⟨n,[],_,rfl,trivial⟩ ?_ λJ ⟨n,ds,x3,e,h⟩=>.Lq (t:=.e (ds.map dI)) (by rw[e];rfl) ⟨ds,rfl,h⟩))));rintro p z q J e ⟨n,ds,x3,rfl,h⟩;have Y:=hz z (by rw[e];simp);have le:=congrArg Ld e;rw[HZ,L9]at le;have:=h.len;obtain⟨d,hd,ed⟩:=fX (f:=vB 0) (g:=vB 3) (J:=[O (.f (.int n)),O (.f (.e (zs.map dI))),O (.e (ds.map dI)),O (.f (dI z))]) (j:=z) rfl rfl Y.1;exact⟨_,rfl,.seq (.app (l:=ds.map dI) rfl ed (by rw[Hl];lia) (.set (ci (j:=z) rfl rfl Y) ⟨_,ds++[d],_,by rw[IL];rfl,h.snoc hd⟩))⟩
 exact⟨ds,e,h⟩
noncomputable def HR:Str:="abcdefghijklmnopqrstuvwxyz"
theorem qF:HR.length=26:=χ
def L8(i:Nat):Nat:=HR.cps.toList.getD i 0
theorem yI(i:Nat)(h1:i<26):ah (.str HR) (.int i)=O (.f (.str ⟨#[L8 i]⟩)):=by
 have q:HR.cps.toList.length=26:=by decide +kernel
 rw[yc (by rw[qF];exact small Ω),aG,gQ Θ];unfold L8;rw[JN,gQ Θ];rfl
theorem Bg:∀i<26,∀j<26,L8 i=L8 j->i=j:=χ
theorem E4:∀i<26,RO HR ⟨#[L8 i]⟩ 0 HR.length 1=[i]:=χ
theorem vv(i:Nat)(h:i<26):e7 (.str HR) [.str ⟨#[L8 i]⟩]=O (.f (.int i)):=by unfold e7;dsimp only;rw[E4 i h];rfl
def wd(base:Z Nat)(e:Nat):Str:=⟨(base++[L8 e]).toArray⟩
theorem sH(base:Z Nat)(e:Nat):(wd base e).length=base.length+1:=by show((base++[L8 e]).toArray).size=_;simp
theorem E5(hi:i<26)(q:j<26)(h:wd base i=wd base j):i=j:=by have e:=congrArg (λs:Str=>s.cps.toList) h;simp only[wd]at e;have e:=List.append_cancel_left e;exact Bg i hi j q (by simpa using e)
theorem qG:∀(l m:Z Nat),(HQ l.length).filterMap (λi=>(l++m)[i]?)=l
 |[],m=>rfl
 |a::l,m=>by rw[L9,qt9,YZ];simp only[Y1,zd0,List.filterMap_map];congr 1;exact qG l m
theorem E6:∀n<10,JR.Str.strSliceIndices V (O (-1)) 1 (n+1)=HQ n:=χ
theorem E7(base:Z Nat)(e:Nat)(h:base.length<10):Q9 (.str (wd base e)) V (O (-1))=O (.f (.str ⟨base.toArray⟩)):=by
 have Y:=sH base e;unfold Q9;dsimp only;rw[if_pos (small Θ)];unfold Txt.slice;rw[Y,E6 _ h,if_neg Ξ];have:=qG base [L8 e]
 have q:(HQ base.length).filterMap (λi=>(wd base e).cps[i]?)=base:=by refine Eq.trans ?_ this;congr 1;funext i;unfold wd;simp
 rw[q]
theorem Bh(base:Z Nat)(e:Nat)(h:base.length<10):ah (.str (wd base e)) (.int (-1))=O (.f (.str ⟨#[L8 e]⟩)):=by
 rw[yc (by rw[sH];exact small Θ)];have:(wd base e).cps.toList=base++[L8 e]:=by unfold wd;simp
 rw[this];unfold Ks No;rw[if_neg Ω,if_pos (by simp;lia)];simp only[Im,HZ,Lc];rw[show((-1:Int)+((base.length+1:Nat):Int)).toNat=base.length by lia];simp
theorem E8(base:Z Nat)(e:Nat)(h:base.length<10):bP (.str ⟨base.toArray⟩) (.str ⟨#[L8 e]⟩)=O (.f (.str (wd base e))):=by rw[D4 (small (by show base.toArray.size+1<=_;simp;lia))];congr 3;show(⟨base.toArray++#[L8 e]⟩:Str)=_;unfold wd;simp
theorem GS(base:Z Nat)(e:Nat):wd base e≠"":=λh=>by have:=congrArg Str.length h;rw[sH]at this;cases this
theorem qH{g:Dt->Z Dt->C T}{fo:De->C Dt}{o:Dt}(h:fo J=O o)(h2:f J=O x):f6 g fo (aa f ae) J=g o [x]:=by unfold f6 aa ae;rw[h,h2];rfl
theorem NC.get:∀{ds zs:Z Nat}{i:Nat},NC ds zs->i<zs.length->ds.getD i 0<zs.getD i 0
 |[],_::_,_,h,_=>h.elim
 |_,[],_,_,h=>absurd h (Uf _)
 |_::_,_::_,0,h,_=>h.1
 |_::_,_::_,i+1,h,g=>NC.get (i:=i) h.2 (Nat.lt_of_succ_lt_succ g)
def Rx(n:Int)(m:Nat)(fd:Z Str)(x4 q:C T):De:=[O (.f (.int n)),O (.f (dI m)),O (.f (.str HR)),O (.e (fd.map .str)),x4,q]
theorem vw(n:Int)(m:Nat)(fd:Z Str)(hf:fd.length<=12)(x4 x5:C T):Rz (y78 (Rx n m fd x4 x5)) (λJ=>∃n' w y4 y5,w∉fd/\w≠""/\J=Rx n' m (fd++[w]) y4 y5) R:=by
 obtain⟨ds,e,h⟩:=fJ n [6,26,26,26,26,26,26] (by intro z hz;simp at hz;lia) Ξ;have hl:ds.length=7:=h.len;have h0:ds.getD 0 0<6:=h.get (i:=0) Ω
 have hd:∀i,i<6->ds.getD (1+i) 0<26:=λi hi=>by
  have:=h.get (i:=1+i) (by show 1+i<7;lia);have q:i=0∨i=1∨i=2∨i=3∨i=4∨i=5:=by lia
  rcases q with rfl|rfl|rfl|rfl|rfl|rfl<;>exact this
 generalize NQ:ds.getD 0 0=d0 at h0;have he0:=hd d0 Θ;generalize Y:(HQ d0).map (λi=>L8 (ds.getD (1+i) 0))=base;have hbl:base.length<10:=by rw[<- Y];simp;lia
 have es:(HQ (d0+1)).map (λi=>Dt.str ⟨#[L8 (ds.getD (1+i) 0)]⟩)=UQ (base++[L8 (ds.getD (1+d0) 0)]):=by rw[<- Y,Y4,IL];unfold UQ;rw[IL,IV];rfl
 generalize ds.getD (1+d0) 0=e0 at he0 es;refine .seq (.set (Oh (x:=.int n) rfl rfl e) (.seq (.set (d:=.str (wd base e0)) (aD (t:=.f (.str (wd base e0))) ((qH rfl (aD (aC (gY (dE (a:=1) rfl (LD (k:=0) (W:=ds) rfl rfl Θ) (show d0+1=1+ds.getD 0 0 by lia)) Θ) (aR (h:=λi=>.str ⟨#[L8 (ds.getD (1+i) 0)]⟩) λi hi=>⟨[O (.f (dI i)),O (.f (.str HR)),O (.f (.e (ds.map dI)))],rfl,rfl,oD rfl (LD (k:=1+i) (W:=ds) rfl (dE (a:=1) (b:=i) rfl rfl rfl) (by have:=IS.mp hi;lia)) (yI _ (hd i (by have:=IS.mp hi;lia)))⟩) (by simp;lia)))).trans ?_)) (.seq (.set (ci (i:=n) (j:=1853494656) rfl (oD (x:=.int 6) (y:=.int 308915776) rfl (oD (x:=.int 26) (y:=.int 6) rfl rfl ((rZ χ).trans (congrArg (λz:Int=>O (T.f (.int z))) (show(26:Int)^(6:Int).toNat=308915776 by decide +kernel)))) (rY χ)) Ω) (.seq (.mono (N:=λJ=>∃e,wd base e∉fd/\J=Rx (n/(1853494656:Nat)) m fd (O (.f (.e (ds.map dI)))) (O (.f (.str (wd base e))))) (Rz.while (λk J=>∃s,k+s=13/\J=Rx (n/(1853494656:Nat)) m fd (O (.f (.e (ds.map dI)))) (O (.f (.str (wd base ((e0+s)%26)))))/\∀t,t<s->wd base ((e0+t)%26)∈fd) ?_ 100000 13 _ Ω ⟨0,rfl,by rw[Nat.add_zero,Nat.mod_eq_of_lt he0];rfl,λt ht=>absurd ht (Uf _)⟩) (λJ ⟨e,hw,h⟩=>h▸.app (l:=fd.map .str) rfl rfl (by rw[Hl];lia) ⟨_,_,_,_,hw,GS _ _,by unfold Rx;rw[IL];rfl⟩) λ_ h=>h)))))))
 .rw[show(HQ (d0+1)).map (λi=>Dt.str ⟨#[L8 (ds.getD (1+i) 0)]⟩)=_ from es];exact ye (by simp;lia)
 .rintro k J ⟨s,hk,rfl,hw⟩;have ht:q79 (Rx (n/(1853494656:Nat)) m fd (O (.f (.e (ds.map dI)))) (O (.f (.str (wd base ((e0+s)%26))))))=O (decide (wd base ((e0+s)%26)∈fd)):=ao (x:=.str (wd base ((e0+s)%26))) rfl rfl IG;by_cases hx:wd base ((e0+s)%26)∈fd
  .rw[decide_eq_true hx]at ht
   have hw2:∀t,t<s+1->wd base ((e0+t)%26)∈fd:=λt ht=>by
    by_cases q:t=s
    .rw[q];exact hx
    .exact hw t Θ
   have hl:=bq (l:=(HQ (s+1)).map λt=>wd base ((e0+t)%26)) (m:=fd) (by
    rw[Vr,Vx];refine qz8.mpr λi j hi hj hij q=>?_
    simp only[RC]at hi hj;simp only[List.getElem_range]at q;have:=E5 (Uh _ Ω) (Uh _ Ω) q;lia) λx hx=>by
    obtain⟨t,ht,rfl⟩:=Jg.mp hx;exact hw2 t (IS.mp ht)
   rw[Hl,RC]at hl;generalize hg:(e0+s)%26=g at*
   have hg26:g<26:=by rw[<- hg];exact Uh _ Ω
   exact .inr ⟨ht,.set (oD (aD (t:=.f (.str ⟨base.toArray⟩)) (E7 base g hbl)) (oD (x:=.str HR) rfl (EU (i:=g+1) (n:=26) (dE (a:=g) (b:=1) (aD (t:=.f (dI g)) ((qH (o:=.str HR) rfl (oD (x:=.str (wd base g)) (y:=.int (-1)) rfl rfl (Bh base g hbl))).trans (vv g hg26))) rfl rfl) rfl Ω) (yI _ (Uh _ Ω))) (E8 _ _ hbl)) ⟨k-1,Θ,s+1,Θ,by rw[show(e0+(s+1))%26=(g+1)%26 by lia];rfl,hw2⟩⟩
  .rw[decide_eq_false hx]at ht;exact .inl ⟨ht,_,hx,rfl⟩
theorem qI(n:Int)(m:Nat)(hm:m<=12):∃B:Z Str,US [.int n,dI m]=O (.e (B.map .str))/\B.length=m/\B.Nodup/\∀w∈B,w≠"":=by
 obtain⟨t,e,B,rfl,h⟩:∃t,US [.int n,dI m]=O t/\∃B:Z Str,t=.e (B.map .str)/\B.length=m/\B.Nodup/\∀w∈B,w≠"":=by
  refine Rz.of (.seq (.set (d:=.str HR) rfl (.seq (.own (t:=.e []) rfl (.seq (Rz.while (λk J=>∃n fd Y x5,k+fd.length=m/\J=Rx n m fd Y x5/\fd.Nodup/\∀w∈fd,w≠"") ?_ 100000 m _ Θ ⟨n,[],_,_,rfl,rfl,.nil,nofun⟩))))));rintro k J ⟨n,fd,Y,x5,hk,rfl,nd,hn⟩;have ht:z78 (Rx n m fd Y x5)=O (decide ((fd.length:Int)<(m:Nat))):=ao (cg (l:=fd.map .str) rfl (Hl ..).symm) (y:=dI m) rfl rfl;by_cases q:fd.length<m
  .rw[decide_eq_true Θ]at ht;refine .inr ⟨ht,(vw n m fd Θ Y x5).mono (λJ ⟨n',w,y4,y5,h1,h2,h⟩=>⟨k-1,Θ,n',fd++[w],y4,y5,by rw[HZ,Lc];lia,h,Mt.mpr ⟨nd,Ξ,λa ha b hb e=>h1 (by rw[HK.mp hb]at e;exact e▸ha)⟩,λv hv=>(IC.mp hv).elim (hn v) λz=>HK.mp z▸h2⟩) λ_ h=>h⟩
  .rw[decide_eq_false Θ]at ht;exact .inl ⟨ht,.Lq (t:=.e (fd.map .str)) rfl ⟨fd,rfl,Θ,nd,hn⟩⟩
 exact⟨B,e,h⟩
theorem lQ{d:Dt}(h:f J=O d)(h2:bb d J=O HP):lZ f bb J=O (.nx HP):=by unfold lZ;rw[h,Im,h2];rfl
theorem pw40:iS (.int 2) (.int 40)=O (.f (.int 1099511627776)):=(rZ χ).trans rfl
theorem Yq(J:De):bo (d2 iS (kD (.int 2)) (kD (.int 40))) J=O (dI 1099511627776):=oD (x:=.int 2) (y:=.int 40) rfl rfl pw40
theorem pw41:iS (.int 2) (.int 41)=O (.f (.int 2199023255552)):=(rZ χ).trans rfl
theorem e41(J:De):bo (d2 iS (kD (.int 2)) (kD (.int 41))) J=O (dI 2199023255552):=oD (x:=.int 2) (y:=.int 41) rfl rfl pw41
section
variable{f g h:De->C Dt}{J:De}{x y z:Dt}{B:Z Str}{k:Nat}{i:Int}
theorem qJ(h1:f J=O x)(h2:g J=O y)(h3:h J=O z):bo (bi (aa f (aa g (aa h ae)))) J=O (.t [x,y,z]):=o6 (ai h1 (ai h2 (ai h3 aN))) Ξ
theorem lS(h1:f J=O (.e (B.map .str)))(h2:g J=O (dI k))(hk:k<B.length):bo (d2 ah f g) J=O (.str (B.getD k "")):=oD h1 h2 (by unfold dI;rw[d5,aG,Je,gQ hk,JN,gQ hk];rfl)
theorem yJ(h1:f J=O (.int i))(h2:g J=O (dI j))(q:0<j/\j<10000000000000):bo (d2 (Hs ξ) (bo (d2 du (bo (d2 cC f g)) (kD (.int 2)))) (kD (.int 1))) J=O (.bl (decide (i/(j:Int)%2=1))):=oD (oD (ci h1 h2 q) (y:=.int 2) rfl (dX Ω)) (y:=.int 1) rfl lv
theorem e9(h:f J=O (.e l)):bo (ag dU (aa f ae)) J=O (.t l):=LV h rfl
end
structure PB(B:List Str)(cs ss:List Hd):Prop where
 b0:0<B.length
 b1:B.length<=12
 c1:cs.length<=8
 s1:ss.length<=4
 hn:((cs++ss).map (·.x)).Nodup
 ne:∀x∈(cs++ss).map (·.x),x≠("":Str)
def wD(B:Z Str)(cs ss:Z Hd)(Hg:Int):Dt:=.t [.e (B.map .str),.t (cs.map HV),.t (ss.map HV),.int Hg]
def woS(ns:Z Int)(num:Int)(a b c:Nat)(th:Z Str)(q x7 x8:C T):De:=[O (.f (.e (ns.map .int))),O (.f (.int num)),O (.f (dI a)),O (.f (dI b)),O (.f (dI c)),O (.f (.e (th.map .str))),q,x7,x8]
theorem yK(ns:Z Int):∃(B:Z Str)(cs ss:Z Hd)(Hg:Int),Og [.e (ns.map .int)]=O (.f (wD B cs ss Hg))/\PB B cs ss:=by
 obtain⟨v3,e3⟩:=lP ns 3 Θ;obtain⟨v2,e2⟩:=lP ns 2 Θ;obtain⟨c0,ec⟩:=ja ns 0;obtain⟨ds,ed,hd⟩:=fJ v3 [9,5,12] (by intro z hz;simp at hz;lia) Ξ
 match ds,hd with
 |[a,b,c],⟨ha,hb,hc,_⟩=>?_
 obtain⟨B,eB,hB,_,_⟩:=qI v2 (1+c) Θ
 obtain⟨t,e,B,cs,ss,Hg,rfl,h⟩:∃t,Og [.e (ns.map .int)]=O t/\∃B cs ss Hg,t=.f (wD B cs ss Hg)/\PB B cs ss:=by
  obtain⟨k,hk,ek⟩:=fX (f:=bo (d2 cC (bo (ag y2 (aa (vL 0) (aa (kD (.int 0)) ae)))) (kD (.int 2)))) (g:=kD (.int 3)) (J:=[O (.f (.e (ns.map .int))),O (.f (.int (v3/(540:Nat)))),O (.f (dI a)),O (.f (dI b)),O (.f (dI c)),V,V,V,V]) (j:=3) (ci (j:=2) (Lb (y:=dI 0) rfl rfl ec) rfl Ω) rfl Ω
  obtain⟨j,hj,ej⟩:∃j:Nat,j<=2/\ah (.e [.int 1,.int 1,.int 2]) (dI k)=O (.f (dI j)):=by
   have q:k=0∨k=1∨k=2:=by lia
   rcases q with rfl|rfl|rfl
   .exact⟨1,Ω,rfl⟩
   .exact⟨1,Ω,rfl⟩
   .exact⟨2,Ω,rfl⟩
  obtain⟨vt,et⟩:=lP ns j Θ;obtain⟨th,en,hth,ndt,net⟩:=qI vt 12 Θ;refine Rz.of (.seq (.set (Lb (y:=dI 3) rfl rfl e3) (.seq (.step (lQ (Oh (x:=.int v3) (y:=.e ([9,5,12].map dI)) rfl rfl ed) rfl) (.seq (.set (ci (i:=v3) (j:=540) rfl rfl Ω) (.seq (.set (d:=.e (th.map .str)) (Oh (y:=dI 12) (Lb rfl (oD rfl ek ej) et) rfl en) (.seq (.own (t:=.e []) rfl (.seq (.for (f:=dI) (l:=HQ a) (λp J=>∃Y cs x7,J=woS ns Y a b c th (O (.e (cs.map HV))) x7 V/\cs.map (·.x)=p.map λk=>th.getD k "") (gY (n:=a) rfl Θ) ⟨_,[],_,rfl,rfl⟩ ?_ λJ ⟨Y,cs,x7,e,Pp⟩=>e▸.seq (.own (t:=.e []) rfl (.seq (.for (f:=dI) (l:=HQ b) (λp J=>∃Y ss x7,J=woS ns Y a b c th (O (.e (cs.map HV))) x7 (O (.e (ss.map HV)))/\ss.map (·.x)=p.map λk=>th.getD (8+k) "") (gY (n:=b) rfl Θ) ⟨_,[],_,rfl,rfl⟩ ?_ λJ ⟨Y,ss,x7,e,Rv⟩=>e▸.ret (eC (ai (Oh (Lb (y:=dI 2) rfl rfl e2) (dE (a:=1) (b:=c) rfl rfl rfl) eB) (ai (e9 rfl) (ai (e9 rfl) (ai (d:=.int Y) rfl aN)))) Ξ) ⟨B,cs,ss,Y,rfl,?_⟩)))))))))))))))
  .rintro p k q J e ⟨Y,cs,x7,rfl,Pp⟩;have hk:k<a:=IS.mp (by rw[e];simp);have l1:=congrArg Ld Pp;have l2:=congrArg Ld e;simp at l1 l2;exact⟨_,rfl,.seq (.app (d:=HV ⟨th.getD k "",Y%1099511627776,decide (Y/(1099511627776:Nat)%2=1)⟩) (l:=cs.map HV) rfl (qJ (lS (k:=k) rfl rfl Θ) (oD (x:=.int Y) rfl (Yq _) (dX Ω)) (yJ rfl (Yq _) Ω)) (by rw[Hl];lia) (.set (ci (i:=Y) rfl (e41 _) Ω) ⟨_,cs++[_],_,by rw[IL];rfl,by rw[IL,IL,Pp];rfl⟩))⟩
  .rintro p k q J e ⟨Y,ss,x7,rfl,Rv⟩;have hk:k<b:=IS.mp (by rw[e];simp);have l1:=congrArg Ld Rv;have l2:=congrArg Ld e;simp at l1 l2;exact⟨_,rfl,.seq (.app (d:=HV ⟨th.getD (8+k) "",1+Y%8,decide (Y/(8:Nat)%2=1)⟩) (l:=ss.map HV) rfl (qJ (lS (k:=8+k) rfl (dE (a:=8) (b:=k) rfl rfl rfl) Θ) (oD (x:=.int 1) rfl (oD (x:=.int Y) (y:=.int 8) rfl rfl (dX Ω)) rfl) (yJ (j:=8) rfl rfl Ω)) (by rw[Hl];lia) (.set (ci (i:=Y) (j:=16) rfl rfl Ω) ⟨_,ss++[_],_,by rw[IL];rfl,by rw[IL,IL,Rv];rfl⟩))⟩
  .have h1:(HQ a).map (λk=>th.getD k "")=th.take a:=Uc (by simp;lia) λi g1 g2=>by simp at g1 g2;simp[show i<th.length by lia]
   have h2:(HQ b).map (λk=>th.getD (8+k) "")=(th.drop 8).take b:=Uc (by simp;lia) λi g1 g2=>by simp at g1 g2;simp[show 8+i<th.length by lia]
   have sub:((cs++ss).map (·.x)).Sublist th:=by
    rw[IL,Pp,Rv,h1,h2];have:=((Vw a (th.take 8))).append (Vw b (th.drop 8))
    rwa [List.take_append_drop,List.take_take,Nat.min_eq_left Θ]at this
   have l1:=congrArg Ld Pp;have l2:=congrArg Ld Rv;simp at l1 l2;exact⟨Θ,Θ,Θ,Θ,ndt.sublist sub,λx hx=>net x (sub.subset hx)⟩
 exact⟨B,cs,ss,Hg,e,h⟩
def Vl(B:Z Str)(a:La):Prop:=∀x,a=.nm x->x∈B
theorem sI{B:Z Str}{v:Nat}(Y:B.length<=900)(hj:j<B.length+1):∃a:La,Vl B a/\∀{f g h:De->C Dt}{J:De},f J=O (.e (B.map .str))->g J=O (dI v)->h J=O (dI j)->bo (d2 ah (bo (d2 bP f (bo (aX (aa g ae))))) h) J=O a.d:=by
 have c:∀{f g:De->C Dt}{J:De},f J=O (.e (B.map .str))->g J=O (dI v)->bo (d2 bP f (bo (aX (aa g ae)))) J=O (.e (B.map .str++[dI v])):=λh1 h2=>fW h1 (fz (ai h2 aN) Ξ) (by simp;lia)
 by_cases z:j<B.length
 .refine⟨.nm (B.getD j ""),λx q=>by cases q;rw[JN,gQ z];exact QF _,λh1 h2 h3=>oD (c h1 h2) h3 ?_⟩;unfold dI;rw[d5,aG,LF (by simpa using z),Je,qn7 z,JN,qn7 z];rfl
 .obtain rfl:j=B.length:=by lia
  refine⟨.vl v,λx q=>(by cases q),λh1 h2 h3=>oD (c h1 h2) h3 ?_⟩;unfold dI;rw[d5,aG,Pa Ξ];simp;rfl
theorem Rz.pick{L:Z Rw}(h1:f J=O (.e (L.map Rw.d)))(h2:g J=O (dI j))(h:j<L.length)(k:∀r∈L,R (.f r.d)):Rz (az (d2 ah f g) J) N R:=.ret ((eV h1 h2).trans (by unfold dI;rw[d5,aG,Je,gQ h];rfl)) (k _ (QF h))
def RwN(cs ss:Z Hd):Rw->Prop
 |.load _ c=>c∈cs.map (·.x)
 |.store c _=>c∈cs.map (·.x)
 |.take _ f _=>f∈ss.map (·.x)
 |.lay f _ _=>f∈ss.map (·.x)
 |_=>True
structure RwB(B:List Str)(cs ss:List Hd)(many:Nat)(r:Rw):Prop where
 n:RwN cs ss r
 g:∀i j,i+1<many->j∈r.outs i->j<many
 b:∀a∈r.atoms,Vl B a
theorem yL(n:Nat):qi [.int 1,dI n]=O (.f (dI (max 1 n))):=by
 show O (T.f (Dt.int (if(1:Int)<n then(n:Int)else 1)))=_;unfold dI;by_cases h:1<n
 .rw[if_pos Θ,Nat.max_eq_right Θ]
 .rw[if_neg Θ,Nat.max_eq_left Θ];rfl
theorem Cq(cs:Z Hd):Hs D (.t (cs.map HV)) (.t [])=O (.f (.bl (!cs.isEmpty))):=by
 rw[r6 (b:=Ib (cs.map HV) []) (Gz (by have:=lO cs;rw[decide_eq_true Θ];cases cs<;>simp[Iq]))]
 cases cs<;>rfl
variable{cs:Z Hd}
theorem yM{c:Nat}(h:c<cs.length):∃x∈cs.map (·.x),∀{f g:De->C Dt}{J:De},f J=O (.t (cs.map HV))->g J=O (dI c)->bo (d2 ah (bo (d2 ah f g)) (kD (.int 0))) J=O (.str x):=⟨(cs[c]).x,Ua (QF h),λh1 h2=>oD (oD (d:=HV cs[c]) h1 h2 (by unfold dI;rw[na,aG,Je,gQ h];rfl)) (y:=.int 0) rfl rfl⟩
def rwS(B:Z Str)(cs ss:Z Hd)(Hg:Int)(q k x c f sg g:Nat)(n:Int)(Yr x15 Y x17 x18:C T):De:=[O (.f (.int n)),O (.f (wD B cs ss Hg)),O (.f (dI q)),O (.f (.e (B.map .str))),O (.f (.t (cs.map HV))),O (.f (.t (ss.map HV))),O (.f (.int Hg)),O (.f (.e ([11,B.length,max 1 cs.length,max 1 ss.length,8,q].map dI))),O (.f (dI k)),O (.f (dI x)),O (.f (dI c)),O (.f (dI f)),O (.f (dI sg)),O (.f (dI g)),Yr,x15,Y,x17,x18]
variable{ss:Z Hd}
theorem E9(n Hg:Int){B:Z Str}{cs:Z Hd}{many:Nat}(W:PB B cs ss)(hm:0<many)(Xc:many<=100):∃r:Rw,XG [.int n,wD B cs ss Hg,dI many]=O (.f r.d)/\RwB B cs ss many r:=by
 have b0:=W.b0;have b1:=W.b1;have c1:=W.c1;have s1:=W.s1;obtain⟨ds,ed,hd⟩:=fJ n [11,B.length,max 1 cs.length,max 1 ss.length,8,many] (by intro z hz;simp at hz;lia) Ξ
 match ds,hd with
 |[k,x,c,f,sg,g],⟨hk,hx,hc,hf,hs,hg,_⟩=>?_
 obtain⟨t,e,r,rfl,h⟩:∃t,XG [.int n,wD B cs ss Hg,dI many]=O t/\∃r:Rw,t=.f r.d/\RwB B cs ss many r:=by
  refine Rz.of (.seq (.step (lQ rfl rfl) (.seq (.set (d:=.e ([11,B.length,max 1 cs.length,max 1 ss.length,8,many].map dI)) (fz (ai rfl (ai (cg (n:=B.length) rfl (Hl ..).symm) (ai (Lb rfl (pd rfl) (by rw[Hl];exact yL _)) (ai (Lb rfl (pd rfl) (by rw[Hl];exact yL _)) (ai rfl (ai rfl aN)))))) Ξ) (.seq (.step (lQ (Oh (x:=.int n) rfl rfl ed) rfl) (.seq (.for (f:=dI) (l:=[11,B.length,max 1 cs.length,max 1 ss.length,8,many]) (λp J=>∃n Yr,J=rwS B cs ss Hg many k x c f sg g n Yr V V V V) rfl ⟨_,_,rfl⟩ ?_ ?_))))))))
  .rintro p z q J e ⟨n,Yr,rfl⟩;have hz:z∈[11,B.length,max 1 cs.length,max 1 ss.length,8,many]:=by rw[e];simp
   exact⟨_,rfl,.set (ci (i:=n) (j:=z) rfl rfl (by simp at hz;lia)) ⟨_,_,rfl⟩⟩
  .rintro J ⟨n,Yr,rfl⟩;obtain⟨ds,ed,hd⟩:=fJ n [B.length+1,1099511627776,B.length+1,1099511627776] (by intro z hz;simp at hz;lia) Ξ
   match ds,hd with
   |[p,q,u,v],⟨hp,_,hu,_⟩=>?_
   obtain⟨one,ho,eo⟩:=sI (B:=B) (v:=q) (j:=p) Θ hp;obtain⟨Su,ht,et⟩:=sI (B:=B) (v:=v) (j:=u) Θ hu;have l1:∀ J,vB 3 J=O (.e (B.map .str))->bo (d2 bP (bo (ag bz (aa (vB 3) ae))) (kD (.int 1))) J=O (dI (B.length+1)):=λJ h=>dE (cg h (Hl ..).symm) (b:=1) rfl rfl
   have ZT:k=0∨k=1∨k=2∨k=3∨k=4∨k=5∨k=6∨k=7∨k=8∨k=9∨k=10:=by lia
   have i23:aS ξ (dI k) (.t [.int 2,.int 3])=O (.f (.bl (decide (k=2∨k=3)))):=by rcases ZT with rfl|rfl|rfl|rfl|rfl|rfl|rfl|rfl|rfl|rfl|rfl<;>rfl
   have i45:aS ξ (dI k) (.t [.int 4,.int 5])=O (.f (.bl (decide (k=4∨k=5)))):=by rcases ZT with rfl|rfl|rfl|rfl|rfl|rfl|rfl|rfl|rfl|rfl|rfl<;>rfl
   obtain⟨sgn,esg,_⟩:=AB (x:=xv "+-*<=&|^") (i:=(sg:Int)) χ Θ (by
    have:(xv "+-*<=&|^").length=8:=by decide +kernel
    lia)
   have bx:∀ J,vB 3 J=O (.e (B.map .str))->vB 9 J=O (dI x)->bo (d2 ah (vB 3) (vB 9)) J=O (.str (B.getD x "")):=λJ h1 h2=>lS h1 h2 hx
   have a1:∀a∈[one],Vl B a:=λa h=>HK.mp h▸ho
   have a2:∀a∈[one,Su],Vl B a:=λa h=>(HU.mp h).elim (λz=>z▸ho) λz=>HK.mp z▸ht
   have up:∀i j,i+1<many->j∈[i+1]->j<many:=λi j h z=>by rw[HK.mp z];exact h
   refine .seq (.set (Oh (x:=.int n) rfl (fz (ai (l1 _ rfl) (ai (Yq _) (ai (l1 _ rfl) (ai (Yq _) aN)))) Ξ) ed) (.seq (.set (eo rfl (LD (W:=[p,q,u,v]) (k:=1) rfl rfl Ξ) (LD (W:=[p,q,u,v]) (k:=0) rfl rfl Ξ)) (.seq (.set (et rfl (LD (W:=[p,q,u,v]) (k:=3) rfl rfl Ξ) (LD (W:=[p,q,u,v]) (k:=2) rfl rfl Ξ)) (.seq (.if (b:=decide (k=2∨k=3)&&!cs.isEmpty) (iB (ao (x:=dI k) rfl rfl i23) λ_=>ao rfl (y:=.t []) rfl (Cq cs)) (λz=>?_) λ_=>.nx (.seq (.if (b:=decide (k=4∨k=5)&&!ss.isEmpty) (iB (ao (x:=dI k) rfl rfl i45) λ_=>ao rfl (y:=.t []) rfl (Cq ss)) (λz=>?_) λ_=>.nx (.seq (.if (ao (x:=dI k) (y:=dI 1) rfl rfl nG) (λ_=>.ret (t:=.f (Rw.op (B.getD x "") ⟨#[sgn]⟩ one Su).d) (eC (ai rfl (ai (bx _ rfl rfl) (ai (oD rfl rfl esg) (ai rfl (ai rfl aN))))) Ξ) ⟨_,rfl,trivial,up,a2⟩) λ_=>.nx (.seq (.set (d:=.e ([.NY (B.getD x ""),.say one,.iff one g,.go g,.fin one].map Rw.d)) (fz (ai (gW rfl (bx _ rfl rfl)) (ai (gW rfl rfl) (ai (qJ rfl rfl rfl) (ai (gW rfl rfl) (ai (gW rfl rfl) aN))))) Ξ) (.seq (.if (b:=decide ((5:Int)<(k:Nat))) (ao (x:=dI k) (y:=.int 5) rfl rfl rfl) (λz=>?_) λ_=>.nx (.ret (t:=.f (Rw.copy (B.getD x "") one).d) (eC (ai rfl (ai (bx _ rfl rfl) (ai rfl aN))) Ξ) ⟨_,rfl,trivial,up,a1⟩))))))))))))))))
   .rw[IH,decide_eq_true_eq]at z;obtain⟨cx,hcx,ecx⟩:=yM (cs:=cs) (c:=c) (by cases cs<;>simp at z hc ⊢;lia);refine .pick (L:=[.load (B.getD x "") cx,.store cx one]) (j:=k-2) (fz (ai (qJ rfl (bx _ rfl rfl) (ecx rfl rfl)) (ai (qJ rfl (ecx rfl rfl) (z:=one.d) rfl) aN)) Ξ) (e8 (a:=k) (b:=2) rfl rfl Θ) (by simp;lia) λr Y=>⟨r,rfl,?_⟩
    rcases HU.mp Y with rfl|Y
    .exact⟨hcx,up,nofun⟩
    .exact HK.mp Y▸⟨hcx,up,a1⟩
   .rw[IH,decide_eq_true_eq]at z;obtain⟨fx,hfx,efx⟩:=yM (cs:=ss) (c:=f) (by cases ss<;>simp at z hf ⊢;lia);refine .pick (L:=[.take (B.getD x "") fx one,.lay fx one Su]) (j:=k-4) (fz (ai (o6 (ai rfl (ai (bx _ rfl rfl) (ai (efx rfl rfl) (ai (d:=one.d) rfl aN)))) Ξ) (ai (o6 (ai rfl (ai (efx rfl rfl) (ai (d:=one.d) rfl (ai (d:=Su.d) rfl aN)))) Ξ) aN)) Ξ) (e8 (a:=k) (b:=4) rfl rfl Θ) (by simp;lia) λr Y=>⟨r,rfl,?_⟩
    rcases HU.mp Y with rfl|Y
    .exact⟨hfx,up,a1⟩
    .exact HK.mp Y▸⟨hfx,up,a2⟩
   .have z:=of_decide_eq_true z;refine .pick (L:=[.NY (B.getD x ""),.say one,.iff one g,.go g,.fin one]) (j:=k-6) rfl (e8 (a:=k) (b:=6) rfl rfl Θ) (by simp;lia) λr Y=>⟨r,rfl,?_⟩
    simp only[HU,QE,or_false]at Y;rcases Y with rfl|rfl|rfl|rfl|rfl
    .exact⟨trivial,up,nofun⟩
    .exact⟨trivial,up,a1⟩
    .exact⟨trivial,λi j h z=>(HU.mp z).elim (λz=>z▸hg) λz=>by rw[HK.mp z];exact h,a1⟩
    .exact⟨trivial,λi j h z=>HK.mp z▸hg,nofun⟩
    .exact⟨trivial,λi j h z=>(nomatch z),a1⟩
 exact⟨r,e,h⟩
theorem nJ{α β:Type}{f:α->Dt}{h:β->Dt}{P:β->Prop}:∀{l:Z α},(∀a∈l,∃ HP y,bb (f a) J=O HP/\fe HP=O (h y)/\P y)->∃ys:Z β,cO bb cJ fe J (l.map f)=O (ys.map h)/\ys.length=l.length/\∀y∈ys,P y
 |[],_=>⟨[],rfl,rfl,nofun⟩
 |a::l,q=>by
  obtain⟨HP,y,h1,h2,h3⟩:=q a N5;obtain⟨ys,e,el,hp⟩:=nJ (l:=l) λe he=>q e (N4 _ he)
  refine⟨y::ys,?_,by simp[el],λz Y=>(HU.mp Y).elim (λz=>z▸h3) (hp z)⟩;rw[Ia];unfold cO;rw[h1,Im];show((fe HP).bind λy=>_)=_;rw[h2,Im,e];rfl
theorem Bi{a:Int}(h:f J=O (.int a)):∃m:Nat,0<m/\m<=41/\∀{g:De->C Dt},g J=O (.int 41)->bo (ag qi (aa (kD (.int 1)) (aa (bo (ag xc (aa f (aa g ae)))) ae))) J=O (dI m):=by
 have e:∀{g:De->C Dt},g J=O (.int 41)->bo (ag qi (aa (kD (.int 1)) (aa (bo (ag xc (aa f (aa g ae)))) ae))) J=O (.int (if(1:Int)<(if(41:Int)<a then 41 else a)then(if(41:Int)<a then 41 else a)else 1)):=λh2=>Lb rfl (Lb h h2 rfl) rfl
 refine⟨(if(1:Int)<(if(41:Int)<a then 41 else a)then(if(41:Int)<a then 41 else a)else 1).toNat,?_,?_,λh2=>(e h2).trans ?_⟩
 .split<;>split<;>lia
 .split<;>split<;>lia
 .unfold dI;congr 2;split<;>split<;>lia
structure Prg(B:List Str)(cs ss:List Hd)(J0:List Rw):Prop where
 l0:0<J0.length
 l1:J0.length<=41
 hN:∀(i:Nat)(r:Rw),J0[i]?=O r->RwN cs ss r
 hO:∀(i:Nat)(r:Rw)(j:Nat),J0[i]?=O r->j∈r.outs i->j<J0.length
 hB:∀(i:Nat)(r:Rw),J0[i]?=O r->∀a∈r.atoms,Vl B a
theorem Bj(ns:Z Int):∃(B:Z Str)(cs ss:Z Hd)(Hg:Int)(J0:Z Rw),Og [.e (ns.map .int)]=O (.f (wD B cs ss Hg))/\XH [.e (ns.map .int),.int 40]=O (.f (Jv cs ss J0))/\PB B cs ss/\Prg B cs ss J0:=by
 obtain⟨B,cs,ss,Hg,ew,W⟩:=yK ns;have b1:=W.b1
 obtain⟨t,e,J0,rfl,h⟩:∃t,XH [.e (ns.map .int),.int 40]=O t/\∃J0,t=.f (Jv cs ss J0)/\Prg B cs ss J0:=by
  obtain⟨m,hm,Xc,em⟩:=Bi (f:=bo (d2 eM (bo (ag bz (aa (vB 0) ae))) (kD (.int 5)))) (J:=[O (.f (.e (ns.map .int))),O (.f (.int 40)),O (.f (wD B cs ss Hg)),V,V,V,V,V,V]) (oD (cg (n:=ns.length) rfl (Hl ..).symm) (y:=.int 5) rfl rfl)
  obtain⟨rs,er,el,hr⟩:=nJ (bb:=am 0) (fe:=z65) (J:=[V,O (.f (.e (ns.map .int))),O (.f (wD B cs ss Hg)),O (.f (dI m))]) (f:=dI) (h:=Rw.d) (P:=RwB B cs ss m) (l:=HQ (m-1)) λk hk=>by have hk:=IS.mp hk;obtain⟨v,ev⟩:=lP ns (6+k) Θ;obtain⟨r,er,hr⟩:=E9 v Hg W hm Θ;exact⟨_,r,rfl,OY (Lb rfl (dE (a:=6) (b:=k) rfl rfl rfl) ev) rfl rfl er,hr⟩
  rw[RC]at el;obtain⟨ds,ed,hd⟩:=fJ Hg [2,m,B.length+1,1099511627776] (by intro z hz;simp at hz;lia) Ξ
  match ds,hd with
  |[la,g,bx,num],⟨hla,hg,hbx,_⟩=>?_
  obtain⟨a,ha,ea⟩:=sI (B:=B) (v:=num) (j:=bx) Θ hbx
  obtain⟨last,hl,K1⟩:∃last:Rw,((∀i j,j∈last.outs i->j<m)/\RwN cs ss last/\∀b∈last.atoms,Vl B b)/\ah (.e [(Rw.fin a).d,(Rw.go g).d]) (dI la)=O (.f last.d):=by
   have q:la=0∨la=1:=by lia
   rcases q with rfl|rfl
   .exact⟨.fin a,⟨λ_ _ z=>(nomatch z),trivial,λb hb=>HK.mp hb▸ha⟩,rfl⟩
   .exact⟨.go g,⟨λ_ _ z=>HK.mp z▸hg,trivial,nofun⟩,rfl⟩
  refine Rz.of (.seq (.set (LV rfl ew) (.seq (.set (em rfl) (.seq (.own (t:=.e (rs.map Rw.d)) (aC (gY (e8 (a:=m) (b:=1) (c:=m-1) rfl rfl Θ) Θ) er (by rw[Hl];lia)) (.seq (.step (lQ (Oh (x:=.int Hg) (oD rfl (y:=.int 3) rfl rfl) (fz (ai rfl (ai (d:=dI m) rfl (ai (dE (a:=B.length) (b:=1) (cg (l:=B.map .str) (oD rfl (y:=.int 0) rfl rfl) (Hl ..).symm) rfl rfl) (ai (Yq _) aN)))) Ξ) ed) rfl) (.seq (.app (l:=rs.map Rw.d) rfl (oD (fz (ai (gW rfl (ea (oD rfl (y:=.int 0) rfl rfl) rfl rfl)) (ai (gW rfl rfl) aN)) Ξ) rfl K1) (by rw[Hl];lia) (.ret (eC (ai (oD rfl (y:=.int 1) rfl rfl) (ai (oD rfl (y:=.int 2) rfl rfl) (ai (e9 rfl) aN))) Ξ) ⟨rs++[last],by unfold Jv dR;rw[IL];rfl,?_⟩)))))))))))
  have Y:∀(i:Nat)(r:Rw),(rs++[last])[i]?=O r->(i+1<m/\RwB B cs ss m r)∨r=last:=λi r h=>by
   by_cases hi:i<rs.length
   .rw[LF hi]at h;exact .inl ⟨Θ,hr r (Ls h)⟩
   .rw[gR Θ]at h;exact .inr (HK.mp (Ls h))
  refine⟨Ξ,by simp;lia,λi r h=>(Y i r h).elim (λz=>z.2.n) λz=>z▸hl.2.1,λi r j h hj=>?_,λi r h=>(Y i r h).elim (λz=>z.2.b) λz=>z▸hl.2.2⟩;rw[HZ,Lc,show rs.length+1=m by lia];exact(Y i r h).elim (λz=>z.2.g i j z.1 hj) λz=>hl.1 i j (z▸hj)
 exact⟨B,cs,ss,Hg,J0,ew,e,W,h⟩
theorem Fa{kept:Z Nat}(h:J0[i]?=O r):ah (.e (lM kept J0)) (dI i)=O (.f (.e (((r.outs i).filter λw=>!decide (w∈kept)).map dI))):=by unfold lM dI;rw[d5,aG,List.getElem?_mapIdx,h];rfl
section
variable{J0:Z Rw}{kept:Z Nat}{nm:Str}{t:Nat×Kg}{J:De}
theorem ui{F:De->C Dt}(h:F J=O (eX t)):bo (d2 ah F (kD (.int 0))) J=O (dI t.1):=oD h (y:=.int 0) rfl rfl
theorem Cr{F:De->C Dt}(h:F J=O (eX t)):bo (d2 ah F (kD (.int 1))) J=O (.str (ms t.2)):=oD h (y:=.int 1) rfl rfl
theorem vz(h:t.1<J0.length):gC 3 dZ [.str nm,dR J0] [eX t]=O (.f (.bl (gi J0 nm t))):=by have q:J0[t.1]?=O J0[t.1]:=gQ h;unfold gi;rw[q];obtain⟨s,e,rfl⟩:=Rz.ofC (R:=λs=>s=.f (.bl (decide (mb t.2 J0[t.1] nm=.Ig)))) (m:=3) (g:=dZ) (caps:=[.str nm,dR J0]) (ds:=[eX t]) (.ret ((eV (OY (Cr rfl) (oD (x:=dR J0) rfl (ui rfl) (dG q)) (z:=.str nm) rfl (uc _ _ _)) (y:=.str (ms .Ig)) rfl).trans (Ic.trans (by rw[yA]))) rfl);exact e
theorem Bl(h:t.1<J0.length):((gC 5 dY [.str nm,dR J0,.e (lM kept J0)] [eX t]).bind T.d).bind Qi=O ((d9 J0 kept nm t).map eX):=by
 have q:J0[t.1]?=O J0[t.1]:=gQ h;unfold d9;rw[q];dsimp only
 obtain⟨s,e,rfl⟩:∃s,gC 5 dY [.str nm,dR J0,.e (lM kept J0)] [eX t]=O s/\s=.e ((if mb t.2 J0[t.1] nm=.safe then []else(((J0[t.1]).outs t.1).filter λw=>!decide (w∈kept)).map λw=>(w,mb t.2 J0[t.1] nm)).map eX):=by
  refine Rz.ofC (.seq (.set (OY (Cr rfl) (oD (x:=dR J0) rfl (ui rfl) (dG q)) (z:=.str nm) rfl (uc _ _ _)) (.ret (pe (ao (x:=.str (ms (mb t.2 J0[t.1] nm))) (y:=.str (ms .safe)) rfl rfl (Ic.trans (by rw[yA]))) (λz=>?_) λz=>?_) rfl)))
  .rw[if_pos (of_decide_eq_true z)];rfl
  .rw[if_neg (of_decide_eq_false z),IV];exact aC (cz (oD (x:=.e (lM kept J0)) rfl (ui rfl) (Fa q)) rfl) (aR λw _=>⟨_,rfl,rfl,gW rfl rfl⟩) (by rw[Hl];exact Iw (K6 _ _) (Iw (Rw.Ie _ _) Ω))
 rw[e];rfl
end
noncomputable def Un(n:Nat):Z (Nat×Kg):=(HQ n).flatMap λk=>[(k,.fresh),(k,.seen),(k,.safe),(k,.Ig)]
theorem LW{t:Nat×Kg}:t∈Un n↔t.1<n:=by
 unfold Un;rw[List.mem_flatMap];constructor
 .rintro⟨k,hk,h⟩;have hk:=IS.mp hk;simp at h;rcases h with rfl|rfl|rfl|rfl<;>exact hk
 .intro h;refine⟨t.1,IS.mpr h,?_⟩;obtain⟨k,m⟩:=t;cases m<;>simp
theorem Fb(n:Nat):(Un n).length=4*n:=by
 unfold Un;induction n with
 |zero=>rfl
 |succ n q=>rw[Y4,List.flatMap_append,HZ,q];simp;lia
noncomputable def HB(kp:Z (Nat×Z Str)):Z Nat:=kp.map (·.1)
noncomputable def plain(cs ss:Z Hd):Z Str:=((cs++ss).filter λh=>!h.b).map (·.x)
theorem rt_N(σ:Jz):q60 σ=RTg σ oS m8 xV (Pz λa b=>bo (d2 xU a b)):=rfl
def Ys:C (Z (Nat×Kg))->T
 |none=>.f .G8
 |some q=>.e ((q.reverse.map (·.1)).map dI)
theorem sJ {b:Dt} {kp:Z (Nat×Z Str)} {nm:Str} (hl:cs.length+ss.length<=1000) (h:nm∈plain cs ss) (hr:J0.length<=1000) (hr0:0<J0.length) (hk:kp.length<=900) (hkr:∀ k∈HB kp,k<J0.length) (hO:∀ (k:Nat) (r:Rw) (w:Nat),J0[k]?=O r->w∈r.outs k->w<J0.length) :
  ∃r:C (Z (Nat×Kg)),XR [Jv cs ss J0,IU b kp,.str nm]=O (Ys r)∧(r=V->∀t,K2 (d9 J0 (HB kp) nm) (bv (HB kp)) t->gi J0 nm t=ξ)/\∀q,r=O q->q.length<=10000/\∃t,Wy (d9 J0 (HB kp) nm) (gi J0 nm) (bv (HB kp)) t q/\gi J0 nm t=D:=by
 obtain⟨r,h1,h2,h3⟩:=yx opsN (U:=Un J0.length) (J4:=bv (HB kp)) (beh:=d9 J0 (HB kp) nm) (fit:=gi J0 nm) (λt Y u hu=>by
     obtain⟨r,e,_,g,_⟩:=sk hu;exact LW.mpr (hO _ r _ e g)) (by rw[Fb];lia) (λt Y=>by
     obtain⟨k,hk',rfl⟩:=Jg.mp Y;exact LW.mpr ((HU.mp hk').elim (λz=>z▸hr0) (hkr k)))
 refine⟨r,?_,h1,λq z=>⟨Iw (h2 q z).1 Ω,(h2 q z).2⟩⟩
 obtain⟨s,e,rfl⟩:∃s,XR [Jv cs ss J0,IU b kp,.str nm]=O s/\s=Ys r:=by
  refine Rz.of (.seq (.if (b:=false) (ao (x:=.str nm) rfl (L7 rfl (qz cs ss _ hl)) (IG.trans (by rw[show(((cs++ss).filter λh=>!h.b).map (·.x))=plain cs ss from rfl,decide_eq_true h];rfl))) nofun λ_=>.nx (.seq (.set (d:=dR J0) rfl (.seq (.set (Oh rfl rfl (yy _ _ b J0 kp hr Θ)) (.seq (.own (xm (d0:=.e ((bv (HB kp)).map eX)) (a:=[.str nm,dR J0,.e (lM (HB kp) J0)]) (b:=[.str nm,dR J0]) (aD (aC (ys:=(bv (HB kp)).map eX) (cz (fW (l:=[dI 0]) (m:=(HB kp).map dI) rfl (L7 rfl (ki b kp Θ)) (by unfold HB;simp;lia)) rfl) (by
   unfold bv;rw[IV];exact aR (l:=0::HB kp) (f:=dI) λk _=>⟨_,rfl,rfl,gW (y:=.str (ms .fresh)) rfl rfl⟩) (by unfold bv HB;simp;lia))) rfl rfl λf1 f2 F0 JB=>by
   rw[rt_N];exact h3 _ f1 f2 F0 ⟨λt Y=>by rw[xj];exact Bl (LW.mp Y),λt Y=>by rw[xk JB];exact vz (LW.mp Y)⟩) ?_))))))))
  cases r with
  |none=>exact .ret (pe (b:=true) rfl (λ_=>rfl) nofun) rfl
  |some q=>exact .ret (pe (b:=false) rfl nofun λ_=>aC (ds:=q.reverse.map eX) (ys:=(q.reverse.map (·.1)).map dI) rfl (by rw[IV];exact aR λt _=>⟨_,rfl,rfl,ui rfl⟩) (by have:=(h2 q rfl).1;simp;lia)) rfl
 exact e
theorem Fc(h:j<=20):0<2^j/\2^j<10000000000000:=⟨Nat.pos_of_ne_zero Ξ,qz0 (Nat.pow_le_pow_right Ω h) Ω⟩
theorem yN(h:g J=O (dI j))(q:j<=20):bo (d2 qm (kD (.int 1)) g) J=O (dI (2^j)):=oD rfl h ((DZ Θ Θ).trans (by rw[Ms,Int.one_mul];unfold dI;simp))
theorem uj(B:Z Str)(n:Int)(Y:B.length<=20):∃m:Z Str,UR [.e (B.map .str),.int n]=O (.f (.t (m.map .str))):=by
 obtain⟨t,e,m,rfl⟩:∃t,UR [.e (B.map .str),.int n]=O t/\∃m:Z Str,t=.f (.t (m.map .str)):=Rz.of (.ret ((dj (aD (aC (ys:=(((HQ B.length).filter λj=>decide (n/(2^j:Nat)%2=1)).map λj=>B.getD j "").map .str) (pb (F:=vB 0) (l:=B.map .str) rfl (Hl ..) Θ) (by
  rw[IV];exact aJ λj q=>⟨[O (.f (dI j)),O (.f (.e (B.map .str))),O (.f (.int n))],rfl,ao (oD (ci (i:=n) rfl (yN rfl (by have:=IS.mp q;lia)) (Fc (by have:=IS.mp q;lia))) (y:=.int 2) rfl (dX Ω)) (y:=.int 1) rfl lv,λ_=>lS (k:=j) rfl rfl (IS.mp q)⟩) (by
  rw[Hl,Hl];exact Iw (K6 _ _) (by simp;lia))))).trans rfl) ⟨_,rfl⟩)
 exact⟨m,e⟩
def Yt(ns:Z Int)(P:Dt)(B:Z Str)(num:Int)(x4:C T)(q:Nat)(done:Z (Nat×Z Str))(x7:C T):De:=[O (.f (.e (ns.map .int))),O (.f P),O (.f (.e (B.map .str))),O (.f (.int num)),x4,O (.f (dI q)),O (.e (done.map Lp)),x7]
variable{ns:Z Int}
theorem sK{B:Z Str}(hB:B.length<=20)(hr:J0.length<=400):∃(bs:Z Str)(kl:Z (Nat×Z Str)),Xv [.e (ns.map .int),Jv cs ss J0,.e (B.map .str)]=O (.f (IU (.t (bs.map .str)) kl))/\(∀k∈HB kl,k<J0.length)/\(HB kl).Nodup:=by
 obtain⟨v,ev⟩:=lP ns 4 Θ;obtain⟨c0,ec⟩:=ja ns 0;obtain⟨bs,eb⟩:=uj B v hB;have lB:∀ J,vB 2 J=O (.e (B.map .str))->bo (d2 qm (kD (.int 1)) (bo (ag bz (aa (vB 2) ae)))) J=O (dI (2^B.length)):=λJ h=>yN (cg h (Hl ..).symm) hB
 obtain⟨t,e,kl,rfl,h⟩:∃t,Xv [.e (ns.map .int),Jv cs ss J0,.e (B.map .str)]=O t/\∃kl,t=.f (IU (.t (bs.map .str)) kl)/\(∀k∈HB kl,k<J0.length)/\(HB kl).Nodup:=by
  refine Rz.of (.seq (.set (Lb (y:=dI 4) rfl rfl ev) (.seq (.set (Lb rfl rfl eb) (.seq (.set (ci (i:=v) rfl (lB _ rfl) (Fc hB)) (.seq (.set (d:=dI 2) rfl (.seq (.own (t:=.e []) rfl (.seq (.for (f:=dI) (l:=HQ J0.length) (λp J=>∃Y sh done x7,J=Yt ns (Jv cs ss J0) B Y (O (.f (.t (bs.map .str)))) sh done x7/\(0<sh/\sh<10)/\(∀k∈HB done,k∈p)/\(HB done).Nodup) (km (F:=bo (d2 ah (vB 1) (kD (.int 2)))) (l:=J0.map Rw.d) rfl (Hl ..) Θ) ⟨_,2,[],_,rfl,Ω,nofun,.nil⟩ ?_ λJ ⟨Y,sh,done,x7,e,_,h1,h2⟩=>e▸.ret (eC (ai rfl (ai (e9 rfl) aN)) Ξ) ⟨done,rfl,λk hk=>IS.mp (h1 k hk),h2⟩))))))))))));rintro p k q J e ⟨Y,sh,done,x7,rfl,hs,h1,h2⟩;have hk:k<J0.length:=IS.mp (by rw[e];simp)
  have hkp:k∉p:=λz=>by have:=zd5 (n:=J0.length);rw[e,Mt]at this;exact this.2.2 k z k (.head _) rfl
  have ln:done.length<=400:=by
   have:=bX h2 λj hj=>IS.mp (by rw[e];exact Kj _ (h1 j hj):j∈HQ J0.length)
   unfold HB at this;rw[Hl]at this;lia
  obtain⟨n1,ev1⟩:=uh Y k Θ;refine⟨_,rfl,.seq (.mono (N:=λJ=>∃Y sh,J=Yt ns (Jv cs ss J0) B Y (O (.f (.t (bs.map .str)))) sh done (O (.f (dI k)))/\0<sh/\sh<10) (.if (ao (oD (Lb (y:=dI 0) rfl rfl ec) (y:=.int 2) rfl (dX Ω)) (y:=.int 1) rfl lv) (λ_=>.seq (.set (Lb (x:=.int Y) (y:=dI k) rfl rfl ev1) ?_)) λ_=>.nx ⟨Y,sh,rfl,hs⟩) ?_ λ_ h=>h)⟩
  .obtain⟨j,hj,ej⟩:=fX (f:=bo (d2 cC (bo (ag y2 (aa (vL 0) (aa (kD (.int 0)) ae)))) (kD (.int 6)))) (g:=kD (.int 3)) (J:=Yt ns (Jv cs ss J0) B n1 (O (.f (.t (bs.map .str)))) sh done (O (.f (dI k)))) (j:=3) (ci (j:=6) (Lb (y:=dI 0) rfl rfl ec) rfl Ω) rfl Ω
   exact .set (LD (W:=[2,4,8]) (k:=j) rfl ej hj) ⟨_,_,rfl,by
    have q:j=0∨j=1∨j=2:=by lia
    rcases q with rfl|rfl|rfl<;>decide⟩
  .rintro J ⟨Y,sh,rfl,hs⟩;have Nu:0<sh/\sh<10000000000000:=by lia
   obtain⟨m,em⟩:=uj B (Y/(sh:Int)) hB;refine .seq (.mono (N:=λJ=>∃Mr,J=Yt ns (Jv cs ss J0) B Y (O (.f (.t (bs.map .str)))) sh Mr (O (.f (dI k)))/\(∀j∈HB Mr,j∈p++[k])/\(HB Mr).Nodup) (.if (ao (oD (x:=.int Y) (y:=dI sh) rfl rfl (dX Θ)) (y:=.int 1) rfl lv) (λ_=>.app (l:=done.map Lp) (d:=Lp (k,m)) rfl (gW rfl (Lb rfl (ci (i:=Y) (j:=sh) rfl rfl Nu) em)) (by rw[Hl];lia) ⟨done++[(k,m)],by unfold Yt;rw[IL];rfl,λj hj=>?_,?_⟩) λ_=>.nx ⟨done,rfl,λj hj=>Kj _ (h1 j hj),h2⟩) (λJ ⟨Mr,h,g1,g2⟩=>h▸.set (ci (ci (i:=Y) (j:=sh) rfl rfl Nu) (lB _ rfl) (Fc hB)) ⟨_,sh,Mr,_,rfl,hs,g1,g2⟩) λ_ h=>h)
   all_goals unfold HB at*
   all_goals rw[IL]at*
   .exact(IC.mp hj).elim (λz=>Kj _ (h1 j z)) λz=>Lr _ z
   .exact Mt.mpr ⟨h2,Ξ,λa ha b hb z=>hkp ((z.trans (HK.mp hb):a=k)▸h1 a ha)⟩
 exact⟨bs,kl,e,h⟩
theorem sl_1(cs:Z Hd):∃c':Z Hd,c'.length<=1/\Ax (.t (cs.map HV)) V (O 1)=O (.f (.t (c'.map HV))):=by
 match cs with
 |[]=>exact⟨[],Ξ,rfl⟩
 |[h]=>exact⟨[h],Ξ,rfl⟩
 |h::h'::r=>
  refine⟨[h],Ξ,?_⟩
  have q:HT.HN ((h::h'::r).map HV).length ((h::h'::r).map HV).length (O 1)=1:=by
   unfold HT.HN;simp
   try lia
  have e0:HT.HN ((h::h'::r).map HV).length 0 V=0:=rfl;show(if HT.HN ((h::h'::r).map HV).length 0 V=0/\HT.HN ((h::h'::r).map HV).length ((h::h'::r).map HV).length (O 1)=((h::h'::r).map HV).length then O (T.f (.t ((h::h'::r).map HV)))else O (T.f (.t (oG ((h::h'::r).map HV) V (O 1)))))=_;rw[if_neg (by rw[q];simp)];unfold oG;rw[q,e0];rfl
theorem Bm{B:Z Str}{Hg:Int}(ew:Og [.e (ns.map .int)]=O (.f (wD B cs ss Hg)))(W:PB B cs ss):∃b:Z Str,Xx [.e (ns.map .int)]=O (.e (b.map .str))/\b.length<=20:=by
 have b1:=W.b1;obtain⟨c',Y,es⟩:=sl_1 cs
 obtain⟨t,e,b,rfl,h⟩:∃t,Xx [.e (ns.map .int)]=O t/\∃b:Z Str,t=.e (b.map .str)/\b.length<=20:=by
  refine Rz.of (.seq (.step (lQ (LV rfl ew) rfl) (.ret ((dj (fW (fW (l:=B.map .str) (m:=(c'.map (·.x)).map .str) rfl (aD (aC (cz (aD (t:=.f (.t (c'.map HV))) es) rfl) (by
   rw[IV];exact aR (f:=HV) (h:=λh=>Dt.str h.x) λh _=>⟨[O (.f (HV h))],rfl,rfl,rfl⟩) (by simp;lia))) (by simp;lia)) (m:=[("zz":Str)].map .str) rfl (by simp;lia))).trans (by
   rw[<- IL,<- IL];exact jR (by simp;lia))) ⟨_,rfl,?_⟩)))
  have:=bq (gO (B++c'.map (·.x)++[("zz":Str)])) (m:=B++c'.map (·.x)++[("zz":Str)]) λx q=>Il.mp q
  rw[(cb _).length_eq];rw[HZ,HZ,Lc,Hl]at this;lia
 exact⟨b,e,h⟩
section
variable{cs ss:Z Hd}{J0:Z Rw}
theorem yO{F:De->C Dt}{N:Z Str}(h:F J=O r.d)(q:vB 2 J=O (.e (N.map .str))):∃b,cU (G5 (aS ξ) (bo (d2 ah F (kD (.int 0)))) (bo (bi (aa (kD (.str "store")) (aa (kD (.str "lay")) ae))))) (G5 (aS ξ) (bo (d2 ah F (kD (.int 1)))) (vB 2)) J=O b:=by rw[oW,ao (SZ h) (y:=.t [.str "store",.str "lay"]) rfl (Ru r)];cases r<;>first|exact⟨_,rfl⟩|exact⟨_,ao (ix1 h rfl) q IG⟩
def plS(P:Dt)(J0:Z Rw)(N:Z Str)(J3:Z Nat)(x4 q:C T):De:=[O (.f P),O (.f (dR J0)),O (.f (.e (N.map .str))),O (.e (J3.map dI)),x4,q]
theorem vA(hn:J0.length<=400)(hl:cs.length+ss.length<=1000):∃ps:Z Nat,Xw [Jv cs ss J0]=O (.e (ps.map dI))/\(∀p∈ps,p<J0.length)/\ps.Nodup:=by
 obtain⟨t,e,ps,rfl,h⟩:∃t,Xw [Jv cs ss J0]=O t/\∃ps:Z Nat,t=.e (ps.map dI)/\(∀p∈ps,p<J0.length)/\ps.Nodup:=by
  refine Rz.of (.seq (.set (d:=dR J0) rfl (.seq (.set (d:=.e ((((cs++ss).filter λh=>!h.b).map (·.x)).map .str)) (aD (aC (cz (aD ((eV rfl rfl).trans (kj HV cs ss hl))) rfl) (by
   rw[IV];exact aJ (f:=HV) (h:=λh=>Dt.str h.x) (p:=λh:Hd=>!h.b) λh _=>⟨[O (.f (HV h))],rfl,rfl,λ_=>rfl⟩) (by
   rw[Hl,Hl];exact Iw (K6 _ _) (by simp;lia)))) (.seq (.own (t:=.e []) rfl (.seq (.for (f:=dI) (l:=HQ J0.length) (λp J=>∃J3 x4 Y,J=plS (Jv cs ss J0) J0 (((cs++ss).filter λh=>!h.b).map (·.x)) J3 x4 Y/\(∀j∈J3,j∈p)/\J3.Nodup) (km (F:=vB 1) (l:=J0.map Rw.d) rfl (Hl ..) Θ) ⟨[],_,_,rfl,nofun,.nil⟩ ?_ λJ ⟨J3,x4,Y,e,h1,h2⟩=>.Lq (t:=.e (J3.map dI)) (by rw[e];rfl) ⟨J3,rfl,λk hk=>IS.mp (h1 k hk),h2⟩))))))))
  rintro p a q J e ⟨J3,x4,Y,rfl,h1,h2⟩;have ha:a<J0.length:=IS.mp (by rw[e];simp)
  have hap:a∉p:=λz=>by have:=zd5 (n:=J0.length);rw[e,Mt]at this;exact this.2.2 a z a (.head _) rfl
  have ln:=bX h2 λj hj=>IS.mp (by rw[e];exact Kj _ (h1 j hj):j∈HQ J0.length)
  have hr:J0[a]?=O J0[a]:=gQ ha;generalize ((cs++ss).filter λh=>!h.b).map (·.x)=N;have ra:∀Y,bo (d2 ah (vB 1) (vB 4)) (plS (Jv cs ss J0) J0 N J3 (O (.f (dI a))) Y)=O (J0[a]).d:=λY=>oD (x:=dR J0) (y:=dI a) rfl rfl (dG hr)
  refine⟨_,rfl,.seq (.set (d:=.e (((RE a (J0.length-a)).filter λk=>decide (a∈cD J0 k)).map dI)) (aD (aC (ds:=(RE a (J0.length-a)).map dI) ?_ (aJ λk hk=>⟨[O (.f (dI k)),O (.f (dR J0)),O (.f (dI a))],rfl,ao (x:=dI a) rfl (Oh (x:=dR J0) (y:=dI k) rfl rfl (yp (by have:=(zb4.mp hk).2;lia))) HC,λ_=>rfl⟩) ?_)) ?_)⟩
  .unfold cH;rw[ai (d:=dI a) rfl (ai (LV (x:=dR J0) (d:=dI J0.length) rfl (by show O (T.f (.int ((J0.map Rw.d).length:Nat)))=_;rw[Hl];rfl)) aN),Im];exact t9 a J0.length Θ Θ
  .rw[Hl];exact Iw (K6 _ _) (by simp;lia)
  .obtain⟨b,hb⟩:=yO (ra (O (.f (.e (((RE a (J0.length-a)).filter λk=>decide (a∈cD J0 k)).map dI))))) rfl;refine .if (KH (sx (ra _)) λ_=>KH (ao (y:=.e []) rfl rfl Ki) λ_=>hb) (λ_=>.app (l:=J3.map dI) rfl rfl (by rw[Hl];lia) ⟨J3++[a],_,_,by unfold plS;rw[IL];rfl,λj hj=>?_,?_⟩) λ_=>.nx ⟨J3,_,_,rfl,λj hj=>Kj _ (h1 j hj),h2⟩
   .exact(IC.mp hj).elim (λz=>Kj _ (h1 j z)) λz=>Lr _ z
   .exact Mt.mpr ⟨h2,Ξ,λc hc b hb z=>hap ((z.trans (HK.mp hb):c=a)▸h1 c hc)⟩
 exact⟨ps,e,h⟩
theorem Cs{W:Z Nat}{num:Int}{N:De->C Dt}(q:f J=O (.e (W.map dI)))(Y:g J=O (.int num))(hW:W≠[]):∃w:Nat,bo (d2 ah f (bo (d2 du g (bo (ag bz (aa f ae)))))) J=O (dI w):=by obtain⟨k,hk,e⟩:=fX Y (cg q (Hl ..).symm) (List.length_pos_iff.mpr hW);exact⟨_,LD q e hk⟩
theorem pj{f:Nat->Z Str}{l:Z Nat}:HB (l.map λa=>(a,f a))=l:=by unfold HB;rw[IV];exact List.map_id _
theorem Ct{f:Nat->Z Str}{l:Z Nat}:(l.map λa=>Lp (a,f a))=(l.map λa=>(a,f a)).map Lp:=by rw[IV];rfl
theorem Bn {ns:Z Int} {B:Z Str} {Hg:Int} (ew:Og [.e (ns.map .int)]=O (.f (wD B cs ss Hg))) (W:PB B cs ss) (hn:J0.length<=400) :
  ∃(bg:Z Str)(ks:Z (Nat×Z Str)),Xy [.e (ns.map .int),Jv cs ss J0,.e (B.map .str)]=O (.f (IU (.t (bg.map .str)) ks))/\(∀k∈HB ks,k<J0.length)/\(HB ks).Nodup:=by
 have b0:=W.b0;have b1:=W.b1;have c1:=W.c1;have s1:=W.s1;obtain⟨pl,ep,lp⟩:=Bm ew W;obtain⟨bs,kl,ec,k1,k2⟩:=sK (ns:=ns) (cs:=cs) (ss:=ss) lp hn;obtain⟨c5,e5⟩:=ja ns 5;obtain⟨ps,eps,p1,p2⟩:=vA (cs:=cs) (ss:=ss) hn Θ;have lps:=bX p2 p1
 obtain⟨t,e,bg,ks,rfl,h⟩:∃t,Xy [.e (ns.map .int),Jv cs ss J0,.e (B.map .str)]=O t/\∃(bg:Z Str)(ks:Z (Nat×Z Str)),t=.f (IU (.t (bg.map .str)) ks)/\(∀k∈HB ks,k<J0.length)/\(HB ks).Nodup:=by
  obtain⟨w,hw,ew⟩:=fX (f:=bo (ag y2 (aa (vL 0) (aa (kD (.int 5)) ae)))) (g:=kD (.int 6)) (J:=[O (.f (.e (ns.map .int))),O (.f (Jv cs ss J0)),O (.f (.e (B.map .str))),O (.f (IU (.t (bs.map .str)) kl)),V,V,V,V,V,V]) (j:=6) (Lb (y:=dI 5) rfl rfl e5) rfl Ω;refine Rz.of (.seq (.set (OY rfl rfl (L7 rfl ep) ec) (.seq (.set ew (.seq (.set (ci (j:=6) (Lb (y:=dI 5) rfl rfl e5) rfl Ω) (.seq (.set (e9 (L7 rfl (sj Θ))) (.seq (.set (L7 rfl eps) ?_))))))))));have lE:(cY B).length=B.length:=(cb B).length_eq;generalize cY B=E at lE;generalize c5/((6:Nat):Int)=num;refine .seq (.if (b:=decide ((w:Int)<2)||decide (ps=[])) (KH (ao (x:=dI w) (y:=.int 2) rfl rfl rfl) λ_=>ao (y:=.e []) rfl rfl Ki) (λ_=>.Lq rfl ⟨bs,kl,rfl,k1,k2⟩) λz=>.nx ?_);have ne:ps≠[]:=λq=>by rw[decide_eq_true q,Bool.or_true]at z;cases z
  refine .seq (.if (ao (x:=dI w) (y:=dI 2) rfl rfl nG) (λ_=>?_) λ_=>.nx (.seq (.mono (N:=λJ=>∃Y,J=[O (.f (.e (ns.map .int))),O (.f (Jv cs ss J0)),O (.f (.e (B.map .str))),O (.f (IU (.t (bs.map .str)) kl)),O (.f (dI w)),O (.f (.int num)),O (.f (.t (E.map .str))),O (.f (.e (Y.map dI))),V,V]/\(∀p∈Y,p∈ps)/\Y.Nodup) (.if (b:=decide ((w:Int)<5)) (ao (x:=dI w) (y:=.int 5) rfl rfl rfl) (λ_=>?_) λ_=>.nx ⟨ps,rfl,λ_ h=>h,p2⟩) ?_ λ_ h=>h)))
  .obtain⟨j,hj,ej⟩:=fX (f:=bo (d2 cC (vB 2) (kD (.int 7)))) (g:=bo (ag bz (aa (vB 1) ae))) (J:=[V,O (.f (.e (B.map .str))),O (.f (.int num))]) (ci (i:=num) (j:=7) rfl rfl Ω) (cg (l:=B.map .str) rfl (Hl ..).symm) b0;refine .seq (.set (d:=.e ((E.filter λb=>!decide (b=B.getD j "")).map .str)) (aD (aC (ds:=E.map .str) rfl (aJ λb _=>⟨[O (.f (.str b)),O (.f (.e (B.map .str))),O (.f (.int num))],rfl,ao (x:=.str b) rfl (lS (k:=j) rfl ej hj) Jo,λ_=>rfl⟩) ?_)) ?_)
   .rw[Hl];exact Iw (K6 _ _) Θ
   .generalize (E.filter λb=>!decide (b=B.getD j ""))=S;obtain⟨v,ev⟩:=Cs (W:=ps) (num:=num) (f:=vB 3) (g:=vB 1) (N:=vB 0) (J:=[V,O (.f (.int num)),O (.f (.t (E.map .str))),O (.f (.e (ps.map dI))),O (.f (.e (S.map .str)))]) rfl rfl ne;obtain⟨i,hi,ei⟩:=fX (f:=vB 5) (g:=kD (.int 2)) (J:=[O (.f (.e (ns.map .int))),O (.f (Jv cs ss J0)),O (.f (.e (B.map .str))),O (.f (IU (.t (bs.map .str)) kl)),O (.f (dI w)),O (.f (.int num)),O (.f (.t (E.map .str))),O (.f (.e (ps.map dI))),O (.f (.e (S.map .str))),O (.f (.e ((ps.map λa=>(a,if a=v then S else E)).map Lp)))]) (i:=num) (j:=2) rfl rfl Ω
    refine .seq (.set (d:=.e ((ps.map λa=>(a,if a=v then S else E)).map Lp)) (aD (aC (ds:=ps.map dI) rfl (by
     rw[<- Ct]
     exact aR λa _=>⟨[O (.f (dI a)),O (.f (.int num)),O (.f (.t (E.map .str))),O (.f (.e (ps.map dI))),O (.f (.e (S.map .str)))],rfl,rfl,gW rfl (oD (fz (ai rfl (ai (e9 rfl) aN)) Ξ) (LV (oD (x:=dI a) rfl ev nG) rfl) (by
      by_cases q:a=v
      .rw[decide_eq_true q,if_pos q];rfl
      .rw[decide_eq_false q,if_neg q];rfl))⟩) (by simp;lia))) (.ret (t:=.f (IU (.t ((if i=0 then E else bs).map .str)) (ps.map λa=>(a,if a=v then S else E)))) (eC (ai (oD (fz (ai (d:=.t (E.map .str)) rfl (ai (d:=.t (bs.map .str)) (oD rfl (y:=.int 0) rfl rfl) aN)) Ξ) ei (by
      have q:i=0∨i=1:=by lia
      rcases q with rfl|rfl<;>rfl)) (ai (e9 rfl) aN)) Ξ) ⟨_,_,rfl,by rw[pj];exact p1,by rw[pj];exact p2⟩))
  .obtain⟨v,ev⟩:=Cs (W:=ps) (num:=num) (f:=vB 2) (g:=vB 1) (N:=vB 0) (J:=[V,O (.f (.int num)),O (.f (.e (ps.map dI)))]) rfl rfl ne;refine .set (d:=.e ((ps.filter λa=>!decide (a=v)).map dI)) (aD (aC (ds:=ps.map dI) rfl (aJ λa _=>⟨[O (.f (dI a)),O (.f (.int num)),O (.f (.e (ps.map dI)))],rfl,ao (x:=dI a) rfl ev (K0.trans (by rw[decide_eq_decide.mpr zj0])),λ_=>rfl⟩) ?_)) ⟨_,rfl,λp h=>(JP.mp h).1,p2.sublist Y0⟩;rw[Hl];exact Iw (K6 _ _) Θ
  .rintro J ⟨Y,rfl,q1,q2⟩;have:=bq q2 q1
   exact .ret (t:=.f (IU (.t (E.map .str)) (Y.map λa=>(a,E)))) (eC (ai rfl (ai (e9 (l:=(Y.map λa=>(a,E)).map Lp) (aD (aC (ds:=Y.map dI) rfl (by rw[<- Ct];exact aR λa _=>⟨[O (.f (dI a)),O (.f (.t (E.map .str)))],rfl,rfl,gW rfl rfl⟩) (by simp;lia)))) aN)) Ξ) ⟨_,_,rfl,by rw[pj];exactλk hk=>p1 k (q1 k hk),by rw[pj];exact q2⟩
 exact⟨bg,ks,e,h⟩
end
theorem Cu(l:Z Nat):eT [Mq l]=O (.e (l.map dI)):=by unfold Mq eT;dsimp only;rw[IV];rfl
section
variable{J0:Z Rw}{K S:Z Nat}{nm:Str}
theorem Fd{F N:De->C Dt}(h:F J=O r.d)(q:N J=O (.str nm)):JJ (G5 (Hs D) (bo (d2 ah F (kD (.int 0)))) (kD (.str "store"))) (G5 (Hs D) (bo (d2 ah F (kD (.int 1)))) N) J=O (!r.stores nm):=by rw[BQ,ao (b:=match r with|.store _ _=>ξ|_=>D) (SZ h) (y:=.str "store") rfl (by cases r<;>unfold Rw.kd<;>walk_at "k")];cases r<;>first|rfl|exact ao (ix1 h rfl) q Jo
inductive Rc(J0:List Rw)(K S:List Nat)(nm:Str):Nat->Prop
 |st {x:Nat}:x∈S->Rc J0 K S nm x
 |on {x y:Nat}:Rc J0 K S nm x->sA J0 nm x=ξ->y∈cD J0 x->y∉K->Rc J0 K S nm y
def rS(J0:Z Rw)(K S:Z Nat)(nm:Str)(seen q:Z Nat)(Y:C T):De:=[O (.f (dR J0)),O (.f (Mq K)),O (.f (.e (S.map dI))),O (.f (.str nm)),O (kT seen),O (.e (q.map dI)),Y]
theorem uk {σ:De->C Dt} {x:Nat} (q:vL 0 J=O (dR J0)) (h:σ J=O (dI x)) (Y:J0[x]?=O r) (hd:dC src J=[V,O (.f (Mq K))]) (hf:ft=G5 (aS D) (vB 0) (vB 1)) :
  aL src (HS (bo (ag y1 (aa (vL 0) (aa σ ae))))) (am 0) ft (vL 0) J=O (.e (((r.outs x).filter λj=>!decide (j∈K)).map dI)):=
 aC (cz (ue q h Y) rfl) (by
  rw[hd,hf];exact aJ λj _=>⟨_,rfl,ao (x:=dI j) rfl rfl (lL D j K),λ_=>rfl⟩) (by
  rw[Hl];exact Iw (K6 _ _) (Iw (Rw.Ie _ _) Ω))
theorem lT (hn:J0.length<=400) (hO:∀ (i:Nat) (r:Rw) (j:Nat),J0[i]?=O r->j∈r.outs i->j<J0.length) (hS:∀ s∈S,s<J0.length) (hSl:S.length<=1000) :
  ∃t,XA [dR J0,Mq K,.e (S.map dI),.str nm]=O t/\∃η:Z Nat,t=.e (η.map dI)/\η.length<=J0.length/\∀z,z∈η↔z<J0.length/\Rc J0 K S nm z:=by
 refine Rz.of (.seq (.own (t:=kT []) rfl (.seq (.own (t:=.e (S.map dI)) rfl (.seq (Rz.while (λm J=>∃seen lf x6,J=rS J0 K S nm seen lf x6/\m=lf.length+3*(J0.length-seen.length)/\lf.length<=1000+2*seen.length/\seen.Nodup/\(∀j,j∈seen∨j∈lf->j<J0.length/\Rc J0 K S nm j)/\(∀s∈S,s∈seen∨s∈lf)/\∀x∈seen,sA J0 nm x=ξ->∀y∈cD J0 x,y∉K->y∈seen∨y∈lf) ?_ 100000 (S.length+3*J0.length) _ Θ ⟨[],S,_,rfl,rfl,by simp;lia,.nil,λj q=>?_,λs hs=>.inr hs,nofun⟩))))))
 .rintro m J ⟨seen,lf,x6,rfl,hm,hl,nd,rc,st,cl⟩;have hc:y63 (rS J0 K S nm seen lf x6)=O (decide (lf.map dI≠[])):=sw rfl;have ls:=bX nd λj q=>(rc j (.inl q)).1
  rcases qv4 lf with rfl|⟨lf,x,rfl⟩
  .refine .inl ⟨hc,.ret ((dj (su seen)).trans (Cu seen)) ⟨seen,rfl,ls,λz=>⟨λh=>rc z (.inl h),λh=>?_⟩⟩⟩;rcases h with ⟨-,h⟩;induction h with
   |st h=>exact(st _ h).resolve_right nofun
   |on _ h1 h2 h3 ih=>exact(cl _ ih h1 _ h2 h3).resolve_right nofun
  .rw[qv5]at hc hm hl rc st cl ⊢;rw[HZ,Lc]at hm hl;obtain⟨hx,px⟩:=rc x (.inr Ξ);have drop:∀{j},j∈seen∨j∈lf++[x]->x∈seen->j∈seen∨j∈lf:=λh hx=>h.elim .inl λh=>(IC.mp h).elim .inr λz=>.inl (HK.mp z▸hx)
   refine .inr ⟨by rw[hc,IL];simp,.seq (.pop (l:=lf.map dI) (d:=dI x) (by unfold rS;rw[IL];rfl) (.if (ao (x:=dI x) rfl (su seen) (lL D x seen)) (λz=>?_) λz=>.nx ?_))⟩
   .have z:x∉seen:=by simpa using z
    have hr:J0[x]?=O J0[x]:=gQ hx;have rx:bo (d2 ah (vB 0) (vB 6)) (rS J0 K S nm (seen++[x]) lf (O (.f (dI x))))=O (J0[x]).d:=vq (x:=x) rfl rfl hr;have nd2:(seen++[x]).Nodup:=Mt.mpr ⟨nd,Ξ,λa ha b hb e=>z (by rw[HK.mp hb]at e;exact e▸ha)⟩;have ls2:=bX nd2 λj q=>(IC.mp q).elim (λh=>(rc j (.inl h)).1) λh=>HK.mp h▸hx
    rw[HZ,Lc]at ls2;have old:∀{j},j∈seen∨j∈lf++[x]->j∈seen++[x]∨j∈lf:=λh=>h.elim (λh=>.inl (Kj _ h)) λh=>(IC.mp h).elim .inr λh=>.inl (Lr _ h)
    have UP:∀j,j∈seen++[x]∨j∈lf->j<J0.length/\Rc J0 K S nm j:=λj h=>h.elim (λh=>(IC.mp h).elim (λh=>rc j (.inl h)) λh=>HK.mp h▸⟨hx,px⟩) λh=>rc j (.inr (Kj _ h))
    refine .seq (.put rfl rfl rfl z nd Θ (.if (Fd rx rfl) (λw=>.ext (l:=lf.map dI) rfl (uk (K:=K) (x:=x) rfl rfl hr rfl rfl) ?_ ⟨_,?_,seen++[x],lf++((J0[x]).outs x).filter λj=>!decide (j∈K),_,by rw[<- IL];rfl,rfl,?_,nd2,λj q=>?_,λs hs=>?_,λy Y sy v hw hk=>?_⟩) λw=>.nx ⟨_,?_,seen++[x],lf,_,rfl,rfl,?_,nd2,UP,λs hs=>old (st s hs),λy Y sy v hw hk=>?_⟩))
    all_goals have lo:=Iw (K6 (λj=>!decide (j∈K)) ((J0[x]).outs x)) (Rw.Ie _ _)
    .rw[Hl,Hl];lia
    .rw[hm,HZ,HZ,Lc];lia
    .rw[HZ,HZ,Lc];lia
    .rcases q with q|q
     .exact UP j (.inl q)
     .rcases IC.mp q with q|q
      .exact UP j (.inr q)
      .obtain⟨h1,h2⟩:=JP.mp q;exact⟨hO x _ j hr h1,.on px (by rw[qw hr];simpa using w) (by rw[eh hr];exact h1) (by simpa using h2)⟩
    .exact(old (st s hs)).imp id λh=>Kj _ h
    .rcases IC.mp Y with Y|Y
     .exact(old (cl y Y sy v hw hk)).imp id λh=>Kj _ h
     .rw[HK.mp Y,eh hr]at hw;exact .inr (Lr _ (JP.mpr ⟨hw,by simpa using hk⟩))
    .rw[hm,HZ,Lc];lia
    .rw[HZ,Lc];lia
    .rcases IC.mp Y with Y|Y
     .exact old (cl y Y sy v hw hk)
     .rw[HK.mp Y,qw hr]at sy;rw[sy]at w;cases w
   .have z:x∈seen:=by simpa using z
    exact⟨_,Θ,seen,lf,_,rfl,rfl,Θ,nd,λj h=>rc j (h.imp id λh=>Kj _ h),λs hs=>drop (st s hs) z,λy Y sy w hw hk=>drop (cl y Y sy w hw hk) z⟩
 .have q:j∈S:=by simpa using q
  exact⟨hS j q,.st q⟩
end
theorem qK{F:Z Dt->C T}{h k:De->C Dt}{z w:Dt}(h1:f J=O x)(h2:g J=O y)(h3:h J=O z)(q:k J=O w):ag F (aa f (aa g (aa h (aa k ae)))) J=F [x,y,z,w]:=congrArg (λo=>o.bind F) (ai h1 (ai h2 (ai h3 (ai q aN))))
theorem c4L{F:Z Dt->C T}{h k:De->C Dt}{z w:Dt}(h1:f J=O x)(h2:g J=O y)(h3:h J=O z)(q:k J=O w)(e:F [x,y,z,w]=O (.e l)):bo (ag F (aa f (aa g (aa h (aa k ae))))) J=O (.e l):=aD (t:=.e l) ((qK h1 h2 h3 q).trans e)
section
variable{J0:Z Rw}{K η:Z Nat}{nm:Str}
def S0(J0:Z Rw)(K:Z Nat)(nm:Str):Prop:=∃t,K2 (d9 J0 K nm) (bv K) t/\gi J0 nm t=D
abbrev AR(J0:Z Rw)(K:Z Nat)(nm:Str)(x:Nat):Prop:=x<J0.length/\Rc J0 K (0::K) nm x
def isZ(J0:Z Rw)(K η:Z Nat)(nm:Str):Prop:=∀y,y∈η↔∃a,AR J0 K nm a/\gA J0 nm a=D/\y∈cD J0 a/\y∉K
theorem jb{x y:Nat}(h:y∈cD J0 x):∃r,J0[x]?=O r/\y∈r.outs x:=by
 unfold cD at h;split at h
 .rename_i r e;exact⟨r,e,h⟩
 .cases h
theorem pk{x y:Nat}(c:K2 (d9 J0 K nm) (bv K) (x,.seen))(q:J0[x]?=O r)(Y:y∈r.outs x)(hk:y∉K):S0 J0 K nm∨K2 (d9 J0 K nm) (bv K) (y,.seen):=by
 cases hp:r.Lo nm with
 |true=>exact .inl ⟨_,c,by unfold gi;rw[q];simp[mb,hp]⟩
 |false=>have:=o5 (m:=.seen) (nm:=nm) q (by simp[mb,hp]) Y hk;simp only[mb,hp,Oi,if_false]at this;exact .inr (.more c this)
theorem toA{x:Nat}(h:Rc J0 K (0::K) nm x):S0 J0 K nm∨K2 (d9 J0 K nm) (bv K) (x,.fresh)∨K2 (d9 J0 K nm) (bv K) (x,.seen):=by
 induction h with
 |st h=>exact .inr (.inl (.one (Jg.mpr ⟨_,h,rfl⟩)))
 |on _ hs q hk ih=>
  obtain⟨r,Y,q⟩:=jb q;rcases ih with h|h|h
  .exact .inl h
  .rw[qw Y]at hs;cases hg:r.Mp nm with
   |true=>have:=o5 (m:=.fresh) (nm:=nm) Y (by simp[mb,hg]) q hk;simp only[mb,hg,if_true]at this;exact .inr (.inr (.more h this))
   |false=>have:=o5 (m:=.fresh) (nm:=nm) Y (by simp[mb,hg,hs]) q hk;simp only[mb,hg,hs,Oi,if_false]at this;exact .inr (.inl (.more h this))
  .exact(pk h Y q hk).imp id .inr
theorem Hu(hZ:isZ J0 K η nm){x:Nat}(h:Rc J0 K η "" x):S0 J0 K nm∨K2 (d9 J0 K nm) (bv K) (x,.seen):=by
 induction h with
 |st h=>
  obtain⟨a,⟨_,ha⟩,hg,q,hk⟩:=(hZ _).mp h;obtain⟨r,Y,q⟩:=jb q;rw[nv Y]at hg;rcases toA ha with h|h|h
  .exact .inl h
  .have:=o5 (m:=.fresh) (nm:=nm) Y (by simp[mb,hg]) q hk;simp only[mb,hg,if_true]at this;exact .inr (.more h this)
  .exact pk h Y q hk
 |on _ _ q hk ih=>obtain⟨r,Y,q⟩:=jb q;exact ih.elim .inl λh=>pk h Y q hk
theorem ofR (hn:0<J0.length) (hK:∀ k∈K,k<J0.length) (hO:∀ (i:Nat) (r:Rw) (j:Nat),J0[i]?=O r->j∈r.outs i->j<J0.length) (he:∀ x,sA J0 "" x=ξ) (hZ:isZ J0 K η nm) {t:Nat×Kg} (h:K2 (d9 J0 K nm) (bv K) t) :
  (t.2=.fresh->AR J0 K nm t.1)/\(t.2=.seen->t.1<J0.length/\Rc J0 K η "" t.1)/\(t.2=.Ig->∃y,(y<J0.length/\Rc J0 K η "" y)/\pA J0 nm y=D):=by
 induction h with
 |one h=>obtain⟨k,hk,rfl⟩:=Jg.mp h;exact⟨λ_=>⟨(HU.mp hk).elim (· ▸ hn) (hK k),.st hk⟩,nofun,nofun⟩
 |@more t p _ h ih=>
  obtain⟨r,hr,hs,ho,hk,hm⟩:=sk h;have Y:t.1∈cD J0 p.1:=by rw[eh hr];exact ho
  have hl:=hO _ r _ hr ho;rw[hm];cases hp:p.2 with
  |fresh=>
   have ha:=ih.1 hp;rw[hp]at hs;cases hg:r.Mp nm with
   |true=>simp only[mb,hg,if_true];exact⟨nofun,λ_=>⟨hl,.st ((hZ _).mpr ⟨_,ha,by rw[nv hr,hg],Y,hk⟩)⟩,nofun⟩
   |false=>
    cases Pu:r.stores nm with
    |true=>simp[mb,hg,Pu]at hs
    |false=>simp only[mb,hg,Pu,Oi,if_false];exact⟨λ_=>⟨hl,.on ha.2 (by rw[qw hr,Pu]) Y hk⟩,nofun,nofun⟩
  |seen=>
   have hb:=ih.2.1 hp;cases q:r.Lo nm with
   |true=>simp only[mb,q,if_true];exact⟨nofun,nofun,λ_=>⟨_,hb,by rw[ny hr,q]⟩⟩
   |false=>simp only[mb,q,Oi,if_false];exact⟨nofun,λ_=>⟨hl,.on hb.2 (he _) Y hk⟩,nofun⟩
  |safe=>rw[hp]at hs;exact absurd rfl hs
  |Ig=>exact⟨nofun,nofun,λ_=>ih.2.2 hp⟩
theorem Fe (hn:J0.length<=400) (h0:0<J0.length) (hK:∀ k∈K,k<J0.length) (hKl:K.length<=900) (hO:∀ (i:Nat) (r:Rw) (j:Nat),J0[i]?=O r->j∈r.outs i->j<J0.length) (he:∀ x,sA J0 "" x=ξ) :
  ∃t,y59 [dR J0,Mq K,.str nm]=O t/\((t=.f (.bl D)/\S0 J0 K nm)∨(t=.f (.bl ξ)/\¬ S0 J0 K nm)):=by
 obtain⟨_,e1,A,rfl,lA,hA⟩:=lT (K:=K) (S:=0::K) (nm:=nm) hn hO (λs hs=>(HU.mp hs).elim (· ▸ h0) (hK s)) (by rw[L9];lia);refine Rz.of (.seq (.own (t:=.e []) rfl (.seq (.for (f:=dI) (l:=A) (λp J=>∃η x4,J=[O (.f (dR J0)),O (.f (Mq K)),O (.f (.str nm)),O (.e (η.map dI)),x4]/\η.length<=2*p.length/\∀y,y∈η↔∃a∈p,gA J0 nm a=D/\y∈cD J0 a/\y∉K) (cz (c4L (x:=dR J0) (y:=Mq K) (z:=.e ((0::K).map dI)) (w:=.str nm) rfl rfl (fW (l:=[dI 0]) rfl (L7 (x:=Mq K) rfl (Cu K)) (by simp;lia)) rfl e1) rfl) ⟨[],_,rfl,Ξ,λy=>⟨nofun,λ⟨_,h,_⟩=>nomatch h⟩⟩ ?_ ?_))))
 .rintro p x q J e ⟨η,x4,rfl,hl,hz⟩;obtain⟨hx,_⟩:=(hA x).mp (by rw[e];simp);have Y:J0[x]?=O J0[x]:=gQ hx
  have lp:p.length<=400:=by have:=congrArg Ld e;rw[HZ,L9]at this;lia
  refine⟨_,rfl,.if (o8 (vq (x:=x) rfl rfl Y) rfl) (λw=>.ext (l:=η.map dI) rfl (uk (K:=K) (x:=x) rfl rfl Y rfl rfl) ?_ ⟨η++((J0[x]).outs x).filter λj=>!decide (j∈K),_,by rw[<- IL];rfl,?_,λy=>?_⟩) λw=>.nx ⟨η,_,rfl,by rw[HZ];lia,λy=>?_⟩⟩
  .have lo:=Iw (K6 (λj=>!decide (j∈K)) ((J0[x]).outs x)) (Rw.Ie _ _);rw[Hl,Hl];lia
  .have lo:=Iw (K6 (λj=>!decide (j∈K)) ((J0[x]).outs x)) (Rw.Ie _ _);rw[HZ,HZ,Lc];lia
  .rw[IC,hz,JP];constructor
   .rintro(⟨a,h,g⟩|⟨h,g⟩)
    .exact⟨a,Kj _ h,g⟩
    .exact⟨x,Ξ,by rw[nv Y,w],by rw[eh Y];exact h,by simpa using g⟩
   .rintro⟨a,h,g1,g2,g3⟩;rcases IC.mp h with h|h
    .exact .inl ⟨a,h,g1,g2,g3⟩
    .rw[HK.mp h,eh Y]at g2;exact .inr ⟨g2,by simpa using g3⟩
  .rw[hz];refine⟨λ⟨a,h,g⟩=>⟨a,Kj _ h,g⟩,λ⟨a,h,g⟩=>(IC.mp h).elim (λh=>⟨a,h,g⟩) λh=>?_⟩;rw[HK.mp h,nv Y,w]at g;exact nomatch g.1
 .rintro J ⟨η,x4,rfl,hl,hz⟩;have iZ:isZ J0 K η nm:=λy=>(hz y).trans ⟨λ⟨a,h,g⟩=>⟨a,(hA a).mp h,g⟩,λ⟨a,h,g⟩=>⟨a,(hA a).mpr h,g⟩⟩
  obtain⟨_,e2,B,rfl,lB,hB⟩:=lT (K:=K) (S:=η) (nm:="") hn hO (λs hs=>by obtain⟨a,_,_,h,_⟩:=(hz s).mp hs;obtain⟨r,Y,h⟩:=jb h;exact hO a r s Y h) Θ
  refine .seq (.Ii (t:=.e (η.map dI)) rfl rfl (.for (f:=dI) (l:=B) (λp J=>(∃x4,J=[O (.f (dR J0)),O (.f (Mq K)),O (.f (.str nm)),O (.f (.e (η.map dI))),x4])/\∀x∈p,pA J0 nm x=ξ) (cz (c4L (x:=dR J0) (y:=Mq K) (z:=.e (η.map dI)) (w:=.str "") rfl rfl rfl rfl e2) rfl) ⟨⟨_,rfl⟩,nofun⟩ ?_ λJ ⟨_,h⟩=>.ret rfl (.inr ⟨rfl,?_⟩)))
  .rintro p x q J e ⟨⟨x4,rfl⟩,h⟩;have hb:=(hB x).mp (by rw[e];simp);have Y:J0[x]?=O (J0[x]'hb.1):=gQ hb.1;refine⟨_,rfl,.if (o9 (vq (x:=x) rfl rfl Y) rfl) (λw=>.ret rfl (.inl ⟨rfl,(Hu iZ hb.2).elim id λc=>⟨_,c,by unfold gi;rw[Y];simp[mb,w]⟩⟩)) λw=>.nx ⟨⟨_,rfl⟩,λy hy=>(IC.mp hy).elim (h y) λz=>by rw[HK.mp z,ny Y,w]⟩⟩
  .rintro⟨t,c,f⟩;obtain⟨_,h2,h3⟩:=ofR h0 hK hO he iZ c
   have:∃y,(y<J0.length/\Rc J0 K η "" y)/\pA J0 nm y=D:=by
    unfold gi at f;split at f
    .cases f
    .rename_i r Y;rcases jC (of_decide_eq_true f)with z|⟨z,z2⟩
     .exact h3 z
     .exact⟨_,h2 z,by rw[ny Y,z2]⟩
   obtain⟨y,h4,h5⟩:=this;rw[h y ((hB y).mpr h4)]at h5;cases h5
end
end P43
namespace L2
open PySem
variable{L:Z Nat}{x j:Nat}
section
variable{J0:Z Rw}{kept:Z Nat}{nm:Str}
theorem jG(h:j<L.length):(L++[x]).getD j 0=L.getD j 0:=by rw[JN,JN,LF h]
theorem yE(h:j=L.length):(L++[x]).getD j 0=x:=by subst h;simp[JN]
structure Vm(J0:List Rw)(kept:List Nat)(nm:Str)(W:List Nat)(m:Kg)(z:Nat):Prop where
 last:∃n,W.length=n+1/\W.getD n 0=z
 hd:W.getD 0 0=0∨W.getD 0 0∈kept
 lt:∀k∈W,k<J0.length
 nx:∀k,k+1<W.length->W.getD (k+1) 0∉kept/\∃r,J0[W.getD k 0]?=O r/\W.getD (k+1) 0∈r.outs (W.getD k 0)
 mks:(m=.fresh/\∀j,j+1<W.length->gA J0 nm (W.getD j 0)=ξ/\sA J0 nm (W.getD j 0)=ξ)∨(m=.seen/\∃g,g+1<W.length/\gA J0 nm (W.getD g 0)=D/\(∀j,j<g->gA J0 nm (W.getD j 0)=ξ/\sA J0 nm (W.getD j 0)=ξ)/\∀j,g<j->j+1<W.length->pA J0 nm (W.getD j 0)=ξ)
theorem Ff (hn:0<J0.length) (hk:∀ k∈kept,k<J0.length) (hO:∀ (i:Nat) (r:Rw) (j:Nat),J0[i]?=O r->j∈r.outs i->j<J0.length) {t:Nat×Kg} {r:Z (Nat×Kg)} (h:Wy (d9 J0 kept nm) (gi J0 nm) (bv kept) t r) :
  Vm J0 kept nm (r.reverse.map (·.1)) t.2 t.1:=by
 induction h with
 |@one t h=>
  obtain⟨k,S6,rfl⟩:=Jg.mp h;refine⟨⟨0,rfl,rfl⟩,?_,λj hj=>?_,λj hj=>absurd hj Ξ,.inl ⟨rfl,λj hj=>absurd hj Ξ⟩⟩
  .rcases HU.mp S6 with rfl|z
   .exact .inl rfl
   .exact .inr z
  .have:j=k:=by simpa using hj
   subst this;rcases HU.mp S6 with rfl|z
   .exact hn
   .exact hk _ z
 |@more t p r h hf w ih=>
  obtain⟨Y,e,g1,g2,g3,g4⟩:=sk h
  have Yu:mb p.2 Y nm≠.Ig:=λz=>by unfold gi at hf;rw[e]at hf;simp[z]at hf
  rw[Ub,IL];show Vm J0 kept nm (r.reverse.map (·.1)++[t.1]) t.2 t.1;obtain⟨⟨n,e1,e2⟩,h2,h3,h4,h5⟩:=ih;generalize r.reverse.map (·.1)=L at*
  have hg:=nv (nm:=nm) e;have hp:=ny (nm:=nm) e;have hs:=qw (nm:=nm) e;refine⟨⟨n+1,by simp[e1],yE e1.symm⟩,by rw[jG Θ];exact h2,λk hk=>?_,λk hk=>?_,?_⟩
  .rcases IC.mp hk with z|z
   .exact h3 k z
   .rw[HK.mp z];exact hO _ Y _ e g2
  .rw[HZ]at hk;have hk:k+1<L.length+1:=hk;rw[jG (show k<L.length by lia)];by_cases z:k+1=L.length
   .rw[yE z];have:k=n:=by lia
    rw[this,e2];exact⟨g3,Y,e,g2⟩
   .rw[jG Θ];exact h4 k Θ
  .have hlen:(L++[t.1]).length=n+2:=by simp[e1]
   rw[hlen];rw[e1]at h5;rcases h5 with ⟨m0,q⟩|⟨m0,g,q1,q2,q3,q4⟩
   .rw[m0]at g1 g4 Yu;cases c1:Y.Mp nm with
    |true=>right;refine⟨by rw[g4];simp[mb,c1],n,Θ,by rw[jG Θ,e2,hg];exact c1,λj hj=>?_,λj h1 h2=>Θ⟩;rw[jG Θ];exact q j Θ
    |false=>
     cases c2:Y.stores nm with
     |true=>exact absurd (by simp[mb,c1,c2]) g1
     |false=>
      left;refine⟨by rw[g4];simp[mb,c1,c2],λj hj=>?_⟩;rw[jG Θ];by_cases z:j=n
      .rw[z,e2,hg,hs];exact⟨c1,c2⟩
      .exact q j Θ
   .rw[m0]at g1 g4 Yu;cases c1:Y.Lo nm with
    |true=>exact absurd (by simp[mb,c1]) Yu
    |false=>
     right;refine⟨by rw[g4];simp[mb,c1],g,Θ,by rw[jG Θ];exact q2,λj hj=>?_,λj h1 h2=>?_⟩
     .rw[jG Θ];exact q3 j hj
     .rw[jG Θ];by_cases z:j=n
      .rw[z,e2,hp];exact c1
      .exact q4 j h1 Θ
theorem Bo {Y:Bool} (K:Kd J0 nm Y) {W:Z Nat} {m:Kg} {z:Nat} (p:Vm J0 kept nm W m z) (hf:gi J0 nm (z,m)=D) :
  ∃n g,W.length=n+1/\g<n/\gA J0 nm (W.getD g 0)=D/\(∀j,j<g->gA J0 nm (W.getD j 0)=ξ)/\pA J0 nm (W.getD n 0)=D/\(Y=ξ->∀j,j<n->pA J0 nm (W.getD j 0)=ξ):=by
 obtain⟨n,e1,e2⟩:=p.last
 have Yu:∃r,J0[z]?=O r/\mb m r nm=.Ig:=by
  unfold gi at hf;split at hf
  .cases hf
  .rename_i r e;exact⟨r,e,of_decide_eq_true hf⟩
 obtain⟨r,e,hm⟩:=Yu;rcases p.mks with ⟨m0,q⟩|⟨m0,g,q1,q2,q3,q4⟩
 .rw[m0]at hm;rcases jC hm with z|⟨z,_⟩<;>cases z
 .rw[m0]at hm;rcases jC hm with z|⟨_,hp⟩
  .cases z
  .refine⟨n,g,e1,Θ,q2,λj hj=>(q3 j hj).1,by rw[e2,ny e];exact hp,λhs j hj=>?_⟩;rcases Nat.lt_trichotomy j g with h|h|h
   .rw[K.c hs];exact(q3 j h).2
   .subst h;exact A1 q2
   .exact q4 j h Θ
def P1(J0:Z Rw)(kept:Z Nat)(nm:Str)(k:Nat):Prop:=K2 (d9 J0 kept nm) (bv kept) (k,.fresh)∨K2 (d9 J0 kept nm) (bv kept) (k,.seen)
def P2(J0:Z Rw)(kept:Z Nat)(nm:Str)(k:Nat):Prop:=K2 (d9 J0 kept nm) (bv kept) (k,.seen)
theorem P1.start{k:Nat}(h:k=0∨k∈kept):P1 J0 kept nm k:=.inl (.one (Jg.mpr ⟨k,HU.mpr h,rfl⟩))
end
end L2
namespace P43
open PySem L2
variable{f:De->C Dt}{J:De}
theorem fg{g:De->C T}{t:T}(h1:f J=O (.bl D))(h2:g J=O t):ir f g J=O t:=by rw[Ea,h1];exact h2
variable{g:De->C Dt}
theorem Cv{a b:Nat}(h1:f J=O (dI a))(h2:g J=O (dI b))(h:a<b):d2 (eN λi j=>decide (i<j)) f g J=O (.f (.bl D)):=(eV h1 h2).trans (by show O (T.f (.bl (decide ((a:Int)<b))))=_;rw[decide_eq_true Θ])
theorem getD_some{l:Z Nat}{k:Nat}(h:k<l.length):l[k]?=O (l.getD k 0):=by rw[JN,gQ h,zd4]
variable{R:Z Nat}
theorem vC(nd:R.Nodup)(hl:R.length<=1000):gH [.e (R.map dI)]=O (.f (dI R.length)):=by
 have e:=lu (R.map λj:Nat=>(j:Int));rw[IV]at e
 have q:(R.map λj:Nat=>(j:Int)).Nodup:=by rw[Vr,Vx];exact(Vr.mp nd).imp λh z=>h Θ
 have l1:=bq (oV (R.map λj:Nat=>(j:Int))) λx Y=>KZ.mp Y
 have l2:=bq q λx Y=>KZ.mpr Y
 unfold gH;dsimp only;rw[show l7 (R.map dI)=_ from e,Im,if_pos (by rw[Hl];lia),Nat.le_antisymm l1 l2,Hl];rfl
theorem Fh{α:Type}{beh:α->Z α}{fit:α->Bool}{J4:Z α}{t:α}{r:Z α}(h:Wy beh fit J4 t r):K2 beh J4 t:=by
 induction h with
 |one h=>exact .one h
 |more h _ _ q=>exact .more q h
section
variable{J0:Z Rw}{K W:Z Nat}{nm:Str}
theorem sL(r:N0 J0 (λi=>i<J0.length/\i∉K) R)(hl:R.length<=500):XE [dR J0,.e (K.map dI),.e (R.map dI)]=O (.f (.bl D)):=by
 obtain⟨t,e,rfl⟩:∃t,XE [dR J0,.e (K.map dI),.e (R.map dI)]=O t/\t=.f (.bl D):=by
  refine Rz.of (.seq (.if (b:=false) (KH (a:=false) rfl λ_=>KH (a:=false) (Yp (W:=R) rfl r.ne) λ_=>sF (W:=R) rfl Θ) nofun λ_=>.nx (.seq (.if (b:=false) (KH (a:=false) (ao (LV (x:=.e (R.map dI)) rfl (vC r.nd Θ)) (cg (l:=R.map dI) rfl (Hl ..).symm) (K0.trans (by rw[decide_eq_true rfl];rfl))) λ_=>ao (aD (aC (ds:=R.map dI) (ys:=[]) rfl ?_ Ξ)) (y:=.e []) rfl rfl) nofun λ_=>.nx (.ret ((dj (aD (aC (ys:=(HQ R.length).map λ_=>.bl D) (pb (F:=vB 2) (l:=R.map dI) rfl (Hl ..) Θ) (aR λk hk=>⟨[O (.f (dI k)),O (.f (dR J0)),O (.f (.e (R.map dI)))],rfl,rfl,?_⟩) (by simp;lia)))).trans (qC _)) rfl)))))
  .have:=aJ (bb:=am 0) (ft:=q62) (fe:=vL 0) (J:=[V,O (.f (.e (K.map dI)))]) (f:=dI) (h:=dI) (p:=λi=>decide (i∈K)) (l:=R) λj _=>⟨_,rfl,ao (x:=dI j) rfl rfl HC,λ_=>rfl⟩
   rw[qu0.mpr λi hi=>by simp[(r.all i hi).2]]at this;exact this
  .have hk:=IS.mp hk
   obtain⟨a,ha,Y,q⟩:∃a,bo (d2 ah (vB 2) (bo (d2 eM (vB 0) (kD (.int 1))))) [O (.f (dI k)),O (.f (dR J0)),O (.f (.e (R.map dI)))]=O (dI a)/\a∈R/\R.getD k 0∈cD J0 a:=by
    cases k with
    |zero=>
     have l1:R.length-1<R.length:=by lia
     exact⟨_,ud (n:=R.length-1) rfl rfl Θ,Ls (getD_some l1),r.turn _ _ (getD_some l1) (getD_some hk)⟩
    |succ k=>exact⟨_,LD (k:=k) rfl (e8 (a:=k+1) (b:=1) rfl rfl rfl) Θ,Ls (getD_some Θ),r.ed k _ _ (getD_some Θ) (getD_some hk)⟩
   have hr:J0[a]?=O (J0[a]'(r.all a Y).1):=gQ (r.all a Y).1;rw[eh hr]at q;exact oD (LD (k:=k) rfl rfl hk) (ue (k:=a) rfl ha hr) (HC.trans (by rw[decide_eq_true q];rfl))
 exact e
theorem yP{m:Kg}{z:Nat}(p:Vm J0 K nm W m z)(hW:W.length<=10000):XD [dR J0,.e (K.map dI),.e (W.map dI)]=O (.f (.bl D)):=by
 obtain⟨n,e1,_⟩:=p.last;have i0:∀Y,bo (d2 ah (vB 2) (kD (.int 0))) [O (.f (dR J0)),O (.f (.e (K.map dI))),O (.f (.e (W.map dI))),Y]=O (dI (W.getD 0 0)):=λY=>LD (k:=0) rfl rfl Θ
 obtain⟨t,e,rfl⟩:∃t,XD [dR J0,.e (K.map dI),.e (W.map dI)]=O t/\t=.f (.bl D):=by
  refine Rz.of (.seq (.if (b:=false) (KH (a:=false) rfl λ_=>KH (a:=false) (Yp (W:=W) rfl λz=>by rw[z]at e1;cases e1) λ_=>sF (W:=W) rfl hW) nofun λ_=>.nx (.seq (.if (b:=!decide (W.getD 0 0=0)&&!decide (W.getD 0 0∈K)) (iB (ao (i0 V) (y:=dI 0) rfl (K0.trans (by rw[decide_eq_decide.mpr zj0]))) λ_=>ao (i0 V) rfl HC) (λz=>?_) λ_=>.nx (.seq (.for (f:=dI) (l:=RE 1 (W.length-1)) (λp J=>∃Y,J=[O (.f (dR J0)),O (.f (.e (K.map dI))),O (.f (.e (W.map dI))),Y]) ?_ ⟨_,rfl⟩ ?_ λJ _=>.ret rfl rfl))))))
  .rw[IH]at z;rcases p.hd with h|h
   .rw[decide_eq_true h]at z;exact nomatch z.1
   .rw[decide_eq_true h]at z;exact nomatch z.2
  .unfold cH;rw[ai (d:=dI 1) rfl (ai (cg (l:=W.map dI) rfl (Hl ..).symm) aN),Im];exact t9 1 W.length Θ Θ
  .rintro p' k q J e ⟨Y,rfl⟩
   obtain⟨k,rfl⟩:∃j,k=j+1:=⟨k-1,by
    have:k∈RE 1 (W.length-1):=by rw[e];simp
    have:=(zb4.mp this).1;lia⟩
   have hk:k+1<W.length:=by
    have:k+1∈RE 1 (W.length-1):=by rw[e];simp
    have:=(zb4.mp this).2;lia
   obtain⟨h1,r,h2,h3⟩:=p.nx k hk;exact⟨_,rfl,.if (b:=false) (KH (a:=false) (ao (LD (k:=k+1) rfl rfl hk) rfl (HC.trans (by rw[decide_eq_false h1];rfl))) λ_=>ao (LD (k:=k+1) rfl rfl hk) (ue rfl (LD (k:=k) rfl (e8 (a:=k+1) (b:=1) rfl rfl rfl) Θ) h2) (HC.trans (by rw[decide_eq_true h3];rfl))) nofun λ_=>.nx ⟨_,rfl⟩⟩
 exact e
theorem vD {q:Bool} {n g:Nat} (hl:∀ k∈W,k<J0.length) (hW:W.length<=10000) (e1:W.length=n+1) (hg:g<n) (h1:gA J0 nm (W.getD g 0)=D) (h2:∀ j,j<g->gA J0 nm (W.getD j 0)=ξ) (h3:pA J0 nm (W.getD n 0)=D) (h4:q=ξ->∀ j,j<n->pA J0 nm (W.getD j 0)=ξ) :
  XF [dR J0,.e (W.map dI),.str nm,.bl q]=O (.f (.bl D)):=by
 obtain⟨σ,eG⟩:=yl (p:=λk=>gA J0 nm (W.getD k 0)) (n:=W.length) (g:=g) Θ h1 h2
 have eP:(HQ W.length).filter (λk=>pA J0 nm (W.getD k 0))=(HQ n).filter (λk=>pA J0 nm (W.getD k 0))++[n]:=by rw[e1,Y4,List.filter_append,zc9 (p:=λk=>pA J0 nm (W.getD k 0)) h3,List.filter_nil]
 have Y:∀k∈HQ W.length,∃r,J0[W.getD k 0]?=O r/\bo (d2 ah (vB 1) (bo (d2 ah (vB 2) (vB 0)))) [O (.f (dI k)),O (.f (dR J0)),O (.f (.e (W.map dI))),O (.f (.str nm))]=O r.d:=λk hk=>by have hk:=IS.mp hk;have hw:W.getD k 0<J0.length:=hl _ (Ls (getD_some hk));exact⟨_,gQ hw,oD (x:=dR J0) rfl (LD (k:=k) rfl rfl hk) (dG (gQ hw))⟩
 have cG:cO (am 0) y67 (vL 0) [V,O (.f (dR J0)),O (.f (.e (W.map dI))),O (.f (.str nm))] ((HQ W.length).map dI)=O ((g::σ).map dI):=by
  rw[<- eG]
  exact aJ λk hk=>by obtain⟨r,hr,h⟩:=Y k hk;exact⟨_,rfl,by rw[nv hr];exact o8 h rfl,λ_=>rfl⟩
 have lG:(g::σ).length<=10000:=by rw[<- eG];exact Iw (K6 _ _) (by simpa using hW)
 have hA:q=ξ->(HQ n).filter (λk=>pA J0 nm (W.getD k 0))=[]:=λz=>qu0.mpr λj hj=>by rw[h4 z j (IS.mp hj)];simp
 have lA:((HQ n).filter (λk=>pA J0 nm (W.getD k 0))).length<=n:=Iw (K6 _ _) Ξ
 have cP:cO (am 0) z67 (vL 0) [V,O (.f (dR J0)),O (.f (.e (W.map dI))),O (.f (.str nm))] ((HQ W.length).map dI)=O (((HQ n).filter (λk=>pA J0 nm (W.getD k 0))++[n]).map dI):=by
  rw[<- eP]
  exact aJ λk hk=>by obtain⟨r,hr,h⟩:=Y k hk;exact⟨_,rfl,by rw[ny hr];exact o9 h rfl,λ_=>rfl⟩
 generalize (HQ n).filter (λk=>pA J0 nm (W.getD k 0))=A at*
 have i5:((A++[n]).getD A.length 0)=n:=by simp
 obtain⟨t,e,rfl⟩:∃t,XF [dR J0,.e (W.map dI),.str nm,.bl q]=O t/\t=.f (.bl D):=by
  refine Rz.of (.seq (.set (aD (aC (gY (cg (l:=W.map dI) rfl (Hl ..).symm) Θ) cG (by rw[Hl];lia))) (.seq (.set (aD (aC (gY (cg (l:=W.map dI) rfl (Hl ..).symm) Θ) cP (by rw[Hl,HZ,Lc];lia))) (.seq (.if (b:=false) (KH (a:=false) (Yp (W:=A++[n]) rfl Ξ) λ_=>KH (a:=false) (ao (x:=dI n) (y:=dI n) ((ud (n:=A.length) (W:=A++[n]) rfl rfl Ξ).trans (by rw[i5])) (e8 (a:=n+1) (b:=1) (cg (l:=W.map dI) rfl (by rw[Hl,e1])) rfl rfl) (K0.trans (by rw[decide_eq_true rfl];rfl))) λ_=>Yp (W:=g::σ) rfl Ξ) nofun λ_=>.nx (.ret (fg (aD (Cv (qD (d:=dI g) rfl) ((ud (n:=A.length) (W:=A++[n]) rfl rfl Ξ).trans (by rw[i5])) hg)) ?_) rfl)))))));rw[GH];cases q with
  |true=>rfl
  |false=>rw[hA rfl];exact Cv (qD (d:=dI g) rfl) (qD (d:=dI n) rfl) hg
 exact e
theorem yQ {cs ss:Z Hd} {b:Dt} {kp:Z (Nat×Z Str)} (hl:cs.length+ss.length<=1000) (hr:J0.length<=1000) (Y:0<J0.length) (hk:kp.length<=900) (hkr:∀ k∈HB kp,k<J0.length) (hO:∀ (k:Nat) (r:Rw) (w:Nat),J0[k]?=O r->w∈r.outs k->w<J0.length) :
  ∃t,z44 [Jv cs ss J0,IU b kp]=O t/\((t=.f .G8/\∀nm∈plain cs ss,∀t,K2 (d9 J0 (HB kp) nm) (bv (HB kp)) t->gi J0 nm t=ξ)∨∃nm∈plain cs ss,∃W m z,W.length<=10000/\Vm J0 (HB kp) nm W m z/\gi J0 nm (z,m)=D/\K2 (d9 J0 (HB kp) nm) (bv (HB kp)) (z,m)/\t=.tl [.str "spoil",.str nm] (W.map dI) []):=by
 refine Rz.of (.seq (.for (f:=.str) (l:=plain cs ss) (λp J=>(∃x2 x3,J=[O (.f (Jv cs ss J0)),O (.f (IU b kp)),x2,x3])/\∀nm∈p,∀t,K2 (d9 J0 (HB kp) nm) (bv (HB kp)) t->gi J0 nm t=ξ) (cz (L7 rfl (qz cs ss _ hl)) rfl) ⟨⟨_,_,rfl⟩,nofun⟩ ?_ λJ ⟨_,h⟩=>.ret rfl (.inl ⟨rfl,h⟩)));rintro p nm q J e ⟨⟨x2,x3,rfl⟩,h⟩;have hp:nm∈plain cs ss:=by rw[e];simp
 obtain⟨r,e1,h1,h2⟩:=sJ (b:=b) hl hp hr Y hk hkr hO;refine⟨_,rfl,.seq (.own ((gU (x:=Jv cs ss J0) (y:=IU b kp) (z:=.str nm) rfl rfl rfl).trans e1) ?_)⟩;cases r with
 |none=>exact .if (b:=false) rfl nofun λ_=>.nx ⟨⟨_,_,rfl⟩,λn hn=>(IC.mp hn).elim (h n) λz=>HK.mp z▸h1 rfl⟩
 |some ws=>obtain⟨hw,t,wy,ft⟩:=h2 ws rfl;exact .if (b:=true) rfl (λ_=>.inr ⟨_,rfl,.inr ⟨nm,hp,ws.reverse.map (·.1),t.2,t.1,by simpa using hw,Ff Y hkr hO wy,ft,Fh wy,rfl⟩⟩) nofun
end
structure Wd(cs ss:List Hd)(J0:List Rw)(ks:List (Nat×List Str))(B:List Str):Prop where
 l0:0<J0.length
 l1:J0.length<=400
 hO:∀(i:Nat)(r:Rw)(j:Nat),J0[i]?=O r->j∈r.outs i->j<J0.length
 hB:∀(i:Nat)(r:Rw)(b:Str),J0[i]?=O r->b∈r.reads->b∈B
 lB:B.length<=12
 kr:∀k∈HB ks,k<J0.length
 kl:ks.length<=900
 nd:(HB ks).Nodup
 lc:cs.length+ss.length<=1000
 he:∀x,sA J0 "" x=ξ
 told:∀h∈cs++ss,∃Kh,ya (HV h) (.t (ss.map HV))=O (.f (.bl Kh))/\Kd J0 h.x Kh
def Yv(J0:Z Rw)(K:Z Nat):Prop:=∀ζ:Nat->Prop,(∀i,ζ i->i<J0.length/\i∉K)->(∀i,ζ i->∃j∈cD J0 i,ζ j)->∀i,¬ ζ i
def Ry(J0:Z Rw)(K:Z Nat):Prop:=∀i,¬ E0 J0 K i
def Vn(cs ss:Z Hd)(J0:Z Rw)(K:Z Nat):Prop:=∀nm∈plain cs ss,¬ S0 J0 K nm
variable{P ζ:Dt}{i:Nat}{b:Str}{h:Hd}
section
variable{cs ss:Z Hd}{J0:Z Rw}{bg B:Z Str}{ks:Z (Nat×Z Str)}
def Flt(cs ss:Z Hd)(J0:Z Rw)(bg:Z Str)(ks:Z (Nat×Z Str))(t:T):Prop:=
 (∃i,E0 J0 (HB ks) i/\t=.f (.t [.str "end",dI i]))∨
 (Ry J0 (HB ks)/\∃R:Z Nat,N0 J0 (λi=>i<J0.length/\i∉HB ks) R/\R.length<=J0.length/\t=.tl [.str "ring"] (R.map dI) [])∨
 ((Ry J0 (HB ks)/\Yv J0 (HB ks))/\∃nm∈plain cs ss,∃W m z,W.length<=10000/\Vm J0 (HB ks) nm W m z/\gi J0 nm (z,m)=D/\K2 (d9 J0 (HB ks) nm) (bv (HB ks)) (z,m)/\t=.tl [.str "spoil",.str nm] (W.map dI) [])∨
 (((Ry J0 (HB ks)/\Yv J0 (HB ks))/\Vn cs ss J0 (HB ks))/\∃p∈jH bg ks,∃b W,HE J0 p.1 b/\S7 J0 p b W/\t=.tl [.str "lost",.str b] (W.map dI) [.bl p.2.2])
theorem lU {F:Z Dt->C T} {N N':Prop} {Q:T->Prop} {R:T->Prop} (Y:∃ t,F [P,ζ]=O t/\((t=.f .G8/\N')∨((∃ u,t.z=O (.t u))/\(N->Q t)))) (hδ:∃ t,J=[O (.f P),O (.f ζ),O t]/\((t=.f .G8/\N)∨((∃ u,t.z=O (.t u))/\Q t))) :
  Rz (HD (Qp 2 (G5 (MU ξ) (vB 2) (kD .G8))) (ar 2 (ag F (aa (vL 0) (aa (vL 1) ae)))) aM J) (λJ=>∃t,J=[O (.f P),O (.f ζ),O t]/\((t=.f .G8/\N/\N')∨((∃u,t.z=O (.t u))/\Q t))) R:=by
 obtain⟨t,rfl,⟨rfl,h⟩|⟨⟨u,q⟩,h⟩⟩:=hδ
 .obtain⟨t,e,g⟩:=Y;exact .if (b:=true) rfl (λ_=>.own e ⟨t,rfl,g.imp (λg=>⟨g.1,h,g.2⟩) λg=>⟨g.1,g.2 h⟩⟩) nofun
 .exact .if (b:=false) (by show(t.z.bind λd=>G5 (MU ξ) (vB 2) (kD .G8) [O (.f P),O (.f ζ),O (.f d)])=_;rw[q];rfl) nofun λ_=>.nx ⟨t,rfl,.inr ⟨⟨u,q⟩,h⟩⟩
theorem Wd.out(A:Wd cs ss J0 ks B)(i j:Nat)(h:j∈cD J0 i):j<J0.length:=
 let ⟨_,e,h⟩:=jb h
 A.hO i _ j e h
theorem Wd.Yw(A:Wd cs ss J0 ks B)(n:HE J0 i b):b∈B:=by
 induction n with
 |here q h=>exact A.hB _ _ _ q h
 |on _ _ _ _ Y=>exact Y
theorem Wd.kr1(A:Wd cs ss J0 ks B)(k:Nat×Z Str)(h:k∈ks):k.1<J0.length:=A.kr _ (Jg.mpr ⟨k,h,rfl⟩)
theorem yR (A:Wd cs ss J0 ks B):∃ t,Qq [Jv cs ss J0,IU (.t (bg.map .str)) ks]=O t∧
  ((t=.f .G8/\((Ry J0 (HB ks)/\Yv J0 (HB ks))/\Vn cs ss J0 (HB ks))/\∀p∈jH bg ks,∀b,HE J0 p.1 b->b∈p.2.1)∨((∃u,t.z=O (.t u))/\Flt cs ss J0 bg ks t)):=by
 have kl:=A.kl;obtain⟨t1,e1,g1⟩:=EX (c:=.t (cs.map HV)) (s:=.t (ss.map HV)) (b:=.t (bg.map .str)) (J0:=J0) (ks:=ks) Θ;refine Rz.of (.seq (.own e1 (.seq ((lU (N:=Ry J0 (HB ks)) (N':=Yv J0 (HB ks)) (Q:=Flt cs ss J0 bg ks) ?_ ⟨t1,rfl,?_⟩).mono (λJ h=>.seq ((lU (N':=Vn cs ss J0 (HB ks)) ?_ h).mono (λJ h=>.seq ((lU (N':=∀p∈jH bg ks,∀b,HE J0 p.1 b->b∈p.2.1) ?_ h).mono (λJ ⟨t,e,h⟩=>e▸.Lq rfl h) λ_ h=>h)) λ_ h=>h)) λ_ h=>h))))
 .obtain⟨t,e,g⟩:=A6 (c:=.t (cs.map HV)) (s:=.t (ss.map HV)) (b:=.t (bg.map .str)) (ks:=ks) (show J0.length<=500 by have:=A.l1;lia) Θ;exact⟨t,e,g.imp id λ⟨R,h1,h2,h3⟩=>⟨⟨_,by rw[h3];rfl⟩,λn=>.inr (.inl ⟨n,R,h1,h2,h3⟩)⟩⟩
 .exact g1.imp id λ⟨i,h1,h2⟩=>⟨⟨_,by rw[h2];rfl⟩,.inl ⟨i,h1,h2⟩⟩
 .obtain⟨t,e,g⟩:=yQ (b:=.t (bg.map .str)) (kp:=ks) A.lc (show J0.length<=1000 by have:=A.l1;lia) A.l0 Θ A.kr A.hO;exact⟨t,e,g.imp (λ⟨h1,h2⟩=>⟨h1,λnm q ⟨t,c,f⟩=>by rw[h2 nm q t c]at f;cases f⟩) λ⟨nm,q,W,m,z,h1,h2,h3,h4,Y⟩=>⟨⟨_,by rw[Y];rfl⟩,λn=>.inr (.inr (.inl ⟨n,nm,q,W,m,z,h1,h2,h3,h4,Y⟩))⟩⟩
 .obtain⟨t,e,g⟩:=Bd (c:=.t (cs.map HV)) (s:=.t (ss.map HV)) (bg:=bg) (ks:=ks) A.hB A.lB A.l1 A.l0 A.hO A.kr1 A.kl;exact⟨t,e,g.imp id λ⟨p,hp,b,W,h1,h2,h3⟩=>⟨⟨_,by rw[h3];rfl⟩,λn=>.inr (.inr (.inr ⟨n,p,hp,b,W,h1,h2,h3⟩))⟩⟩
theorem qL{F:Z Dt->C T}{fs:De->C (Z Dt)}{ds:Z Dt}{b:Bool}(h:fs J=O ds)(e:F ds=O (.f (.bl b))):ca (bo (jr F fs)) J=O b:=by unfold ca bo jr;rw[h,Im,e];rfl
theorem Bp(q:h∈cs++ss)(Y:h.b=ξ):h.x∈plain cs ss:=Jg.mpr ⟨h,JP.mpr ⟨q,by rw[Y];rfl⟩,rfl⟩
theorem Fi (A:Wd cs ss J0 ks B):∃ t,XB [Jv cs ss J0,IU (.t (bg.map .str)) ks,.e (B.map .str)]=O t∧
  ((t=.f (.str "end")/\∃i,E0 J0 (HB ks) i)∨(t=.f (.str "ring")/\Ry J0 (HB ks)/\N3 J0 (HB ks))∨((Ry J0 (HB ks)/\∀s,s<J0.length->s∉HB ks->sC J0 (HB ks) s)/\((t=.f (.str "spoil")/\¬ Vn cs ss J0 (HB ks))∨(Vn cs ss J0 (HB ks)/\((t=.f (.str "lost")/\∃p∈jH bg ks,∃b,HE J0 p.1 b/\b∉p.2.1)∨(t=.f (.str "")/\∀p∈jH bg ks,∀b,HE J0 p.1 b->b∈p.2.1)))))):=by
 have kl:=A.kl;have l1:=A.l1;refine Rz.of (.seq (.set (d:=dR J0) rfl (.seq (.own (t:=kT []) rfl (.seq (.for (f:=Lp) (l:=ks) (λp J=>∃x5 x6,J=[O (.f (Jv cs ss J0)),O (.f (IU (.t (bg.map .str)) ks)),O (.f (.e (B.map .str))),O (.f (dR J0)),O (kT (p.map (·.1))),x5,x6]) rfl ⟨_,_,rfl⟩ ?_ ?_))))))
 .rintro p k q J e ⟨x5,x6,rfl⟩;have nd:=A.nd;unfold HB at nd;rw[e,IL,Ia,Mt]at nd;have lp:=congrArg Ld e;rw[HZ,L9]at lp;exact⟨_,rfl,.put (j:=k.1) rfl rfl rfl (λz=>nd.2.2 _ z _ (.head _) rfl) nd.1 (by rw[Hl];lia) ⟨_,_,by rw[IL];rfl⟩⟩
 .rintro J ⟨x5,x6,rfl⟩;refine .seq (.if (b:=!decide ((HQ J0.length).filter (λi=>(match J0[i]? with|some r=>Rw.JD r|none=>ξ)&&!decide (i∈HB ks))=[])) (ao (aD (aC (km (F:=vB 3) (l:=J0.map Rw.d) rfl Ξ Θ) (aJ (h:=dI) λi hi=>⟨[O (.f (dI i)),O (.f (dR J0)),O (kT (HB ks))],rfl,?_,λ_=>rfl⟩) ?_)) (y:=.e []) rfl Ki) (λz=>?_) λz=>.nx ?_)
  .have hr:=gQ (IS.mp hi);rw[hr];exact iB (sx (oD (x:=dR J0) (y:=dI i) rfl rfl (dG hr))) λ_=>ao (x:=dI i) rfl (su _) (lL D i (HB ks))
  .rw[Hl];exact Iw (K6 _ _) (by simp;lia)
  .obtain⟨i,hi⟩:=za1 _ (show(HQ J0.length).filter (λi=>(match J0[i]? with|some r=>Rw.JD r|none=>ξ)&&!decide (i∈HB ks))≠[]by simpa using z);obtain⟨h1,h2⟩:=JP.mp hi;rw[gQ (IS.mp h1),IH]at h2;exact .ret rfl (.inl ⟨rfl,i,by simpa using h2.2,_,qn7 (IS.mp h1),h2.1⟩)
  .have nE:Ry J0 (HB ks):=λi ⟨h1,r,h2,h3⟩=>by
    have:i∈(HQ J0.length).filter λi=>(match J0[i]? with|some r=>Rw.JD r|none=>ξ)&&!decide (i∈HB ks):=JP.mpr ⟨IS.mpr (gX h2).1,by rw[h2,decide_eq_false h1];simp[h3]⟩
    rw[show(HQ J0.length).filter (λi=>(match J0[i]? with|some r=>Rw.JD r|none=>ξ)&&!decide (i∈HB ks))=[]by simpa using z]at this;cases this
   obtain⟨t,e,g⟩:=A7 (K:=HB ks) l1 A.out
   obtain⟨Y,rfl,g1,g2⟩:∃Y,t=.f (.bl Y)/\(Y=D->N3 J0 (HB ks))/\(Y=ξ->∀s,s<J0.length->s∉HB ks->sC J0 (HB ks) s):=by
    rcases g with ⟨rfl,g⟩|⟨rfl,g⟩
    .exact⟨_,rfl,λ_=>g,nofun⟩
    .exact⟨_,rfl,nofun,λ_=>g⟩
   refine .seq (.if (qL (ai rfl (ai (su _) aN)) e) (λz=>.ret rfl (.inr (.inl ⟨rfl,nE,g1 z⟩))) λz=>.nx (.seq (.for (f:=HV) (l:=cs++ss) (λp J=>(∃x5 x6,J=[O (.f (Jv cs ss J0)),O (.f (IU (.t (bg.map .str)) ks)),O (.f (.e (B.map .str))),O (.f (dR J0)),O (kT (HB ks)),x5,x6])/\∀h∈p,h.b=ξ->¬ S0 J0 (HB ks) h.x) (cz (aD ((eV rfl rfl).trans (kj HV cs ss A.lc))) rfl) ⟨⟨_,_,rfl⟩,nofun⟩ ?_ ?_)))
   .rintro p h q J e ⟨⟨x5,x6,rfl⟩,hp⟩;obtain⟨t,em,gm⟩:=Fe (nm:=h.x) l1 A.l0 A.kr (by unfold HB;rw[Hl];lia) A.hO A.he
    obtain⟨Y,rfl,m1⟩:∃Y,t=.f (.bl Y)/\(Y=D↔S0 J0 (HB ks) h.x):=by
     rcases gm with ⟨rfl,g⟩|⟨rfl,g⟩
     .exact⟨_,rfl,λ_=>g,λ_=>rfl⟩
     .exact⟨_,rfl,nofun,λz=>absurd z g⟩
    refine⟨_,rfl,.if (b:=!h.b&&Y) (iB rfl λ_=>qL (ai rfl (ai (su _) (ai (d:=.str h.x) rfl aN))) em) (λw=>?_) λw=>.nx ⟨⟨_,_,rfl⟩,λk hk hb=>(IC.mp hk).elim (λhk=>hp k hk hb) λhk=>?_⟩⟩
    .rw[IH]at w;exact .ret rfl (.inr (.inr ⟨⟨nE,g2 z⟩,.inl ⟨rfl,λn=>n h.x (Bp (by rw[e];simp) (by simpa using w.1)) (m1.mp w.2)⟩⟩))
    .rw[HK.mp hk]at hb ⊢;rw[hb,zh1,RB]at w;exactλs=>by rw[m1.mpr s]at w;cases w
   .rintro J ⟨⟨x5,x6,rfl⟩,hp⟩
    have nS:Vn cs ss J0 (HB ks):=λnm hm=>by obtain⟨h,hh,rfl⟩:=Jg.mp hm;obtain⟨h1,h2⟩:=JP.mp hh;exact hp h h1 (by simpa using h2)
    obtain⟨t,el,gl⟩:=yH (bg:=bg) (ks:=ks) (B:=B) l1 A.l0 A.hO (by have:=A.lB;lia) A.kr1 A.kl
    have tru:∀{b:Bool},UT [dR J0,IU (.t (bg.map .str)) ks,.e (B.map .str)]=O (.f (.bl b))->ca (bo (ag UT (aa (vL 3) (aa (vL 1) (aa (vL 2) ae))))) [O (.f (Jv cs ss J0)),O (.f (IU (.t (bg.map .str)) ks)),O (.f (.e (B.map .str))),O (.f (dR J0)),O (kT (HB ks)),x5,x6]=O b:=λe=>by unfold ca;rw[OY (x:=dR J0) rfl rfl rfl e];rfl
    rcases gl with ⟨rfl,k,hk,b,hb,h1,h2⟩|⟨rfl,g⟩
    .exact .seq (.if (tru el) (λ_=>.ret rfl (.inr (.inr ⟨⟨nE,g2 z⟩,.inr ⟨nS,.inl ⟨rfl,by
      rcases HU.mp hk with rfl|hk
      .exact⟨_,.head _,b,h2,h1⟩
      .exact⟨_,.tail _ (Jg.mpr ⟨k,hk,rfl⟩),b,h2,h1⟩⟩⟩⟩))) nofun)
    .exact .seq (.if (tru el) nofun λ_=>.nx (.ret rfl (.inr (.inr ⟨⟨nE,g2 z⟩,.inr ⟨nS,.inr ⟨rfl,λp hp b n=>by
      have hb:b∈B:=A.Yw n;rcases HU.mp hp with rfl|hp
      .exact g _ (.head _) b hb n
      .obtain⟨k,hk,rfl⟩:=Jg.mp hp;exact g k (.tail _ hk) b hb n⟩⟩⟩))))
end
variable{u:Z Dt}{n:Nat}
section
variable{F:De->C Dt}{J:De}
theorem jc{a s:Str}(h:F J=O (.t (.str a::u))):G5 (Hs ξ) (bo (d2 ah F (kD (.int 0)))) (kD (.str s)) J=O (decide (a=s)):=ao (oD h (y:=.int ((0:Nat):Int)) rfl (by rw[na,aG];rfl)) (y:=.str s) rfl Ic
theorem yS(h1:f J=O (dI i))(h2:g J=O (dI n))(h:i<n):jq (eN λi j=>decide (i<=j)) (eN λi j=>decide (i<j)) (kD (.int 0)) f g J=O (.f (.bl D)):=by unfold jq;rw[h1,h2];show((Sf (.f (.bl (decide ((0:Int)<=i))))).bind λk=>if k then O (T.f (.bl (decide ((i:Int)<n))))else O (.f (.bl ξ)))=_;rw[decide_eq_true Θ,decide_eq_true Θ];rfl
end
section
variable{cs ss:Z Hd}{J0:Z Rw}{bg B:Z Str}{ks:Z (Nat×Z Str)}
theorem qM(A:Wd cs ss J0 ks B){t:T}(hz:t.z=O (.t u))(h:Flt cs ss J0 bg ks t):UU [Jv cs ss J0,IU (.t (bg.map .str)) ks,.t u]=O (.f (.bl D)):=by
 have kl:=A.kl;have l1:=A.l1
 obtain⟨kd,x,r,rfl⟩:∃kd x r,u=.str kd::x::r:=by rcases h with ⟨i,_,rfl⟩|⟨_,R,_,_,rfl⟩|⟨_,nm,_,W,m,z,_,_,_,_,rfl⟩|⟨_,p,_,b,W,_,_,rfl⟩<;>(cases hz;exact⟨_,_,_,rfl⟩)
 obtain⟨t',e,rfl⟩:∃t,UU [Jv cs ss J0,IU (.t (bg.map .str)) ks,.t (.str kd::x::r)]=O t/\t=.f (.bl D):=by
  refine Rz.of (.seq (.set (d:=dR J0) rfl (.seq (.set (d:=.e ((HB ks).map dI)) (aD (aC (ds:=ks.map Lp) rfl (by unfold HB;rw[IV];exact aR λk _=>⟨_,rfl,rfl,rfl⟩) (by unfold HB;simp;lia))) (.seq (.if (b:=false) (KH (a:=false) rfl λ_=>KH (a:=false) ?_ λ_=>?_) nofun λ_=>.nx ?_))))))
  .refine ao (pd rfl) (y:=.int 2) rfl ?_;show O (T.f (.bl (decide (((r.length+1+1:Nat):Int)<2))))=_;rw[decide_eq_false Θ]
  .unfold eL ca;rw[c1I (oD (x:=.t (.str kd::x::r)) rfl (y:=.int ((0:Nat):Int)) (d:=.str kd) rfl (by rw[na,aG];rfl))];rfl
  .rcases h with ⟨i,⟨h1,r,h2,h3⟩,rfl⟩|⟨_,R,hR,lR,rfl⟩|⟨_,nm,hm,W,m,z,h1,h2,h3,_,rfl⟩|⟨_,p,hp,b,W,_,h2,rfl⟩<;>cases hz
   .have hi:i<J0.length:=(gX h2).1;exact .seq (.if (b:=true) ((jc rfl).trans χ) (λ_=>.seq (.set (d:=.bl D) (aD (fg rfl (fg rfl (yS (i:=i) rfl (LV (x:=dR J0) (d:=dI J0.length) rfl (by show O (T.f (.int ((J0.map Rw.d).length:Nat)))=_;rw[Hl];rfl)) hi)))) (.ret (fg rfl (fg (oD (SZ (oD (x:=dR J0) (y:=dI i) rfl rfl (dG h2))) (y:=.str "end") rfl ((Rr r).trans (by rw[h3]))) ((eV (x:=dI i) rfl rfl).trans (HC.trans (by rw[decide_eq_false h1];rfl))))) rfl))) nofun)
   .exact .seq (.if (b:=false) ((jc rfl).trans χ) nofun λ_=>.nx (.seq (.if (b:=true) ((jc rfl).trans χ) (λ_=>.ret (fg rfl ((gU (x:=dR J0) (z:=.e (R.map dI)) rfl rfl rfl).trans (sL hR Θ))) rfl) nofun)))
   .obtain⟨q,hh,rfl⟩:=Jg.mp hm;obtain⟨hh,hb⟩:=JP.mp hh;have hf:q∈(cs++ss).filter λh=>decide (h.x=q.x)&&!h.b:=JP.mpr ⟨hh,by simpa using hb⟩
    cases Y:(cs++ss).filter λh=>decide (h.x=q.x)&&!h.b with
    |nil=>rw[Y]at hf;cases hf
    |cons h' l=>obtain⟨m1,m2⟩:=JP.mp (show h'∈(cs++ss).filter λh=>decide (h.x=q.x)&&!h.b by rw[Y];exact .head _);rw[IH,decide_eq_true_eq]at m2;obtain⟨Kh,eS,K⟩:=A.told h' m1;rw[m2.1]at K;obtain⟨n,g,q1,q2,q3,q4,q5,q6⟩:=Bo K h2 h3;have lf:=K6 (λh=>decide (h.x=q.x)&&!h.b) (cs++ss);have lc:=A.lc;rw[Y,HZ]at lf;refine .seq (.if (b:=false) ((jc rfl).trans χ) nofun λ_=>.nx (.seq (.if (b:=false) ((jc rfl).trans χ) nofun λ_=>.nx (.seq (.if (b:=false) ((jc rfl).trans χ) nofun λ_=>.nx (.seq (.set (d:=.e ((h'::l).map HV)) (aD (aC (cz (aD ((eV rfl rfl).trans (kj HV cs ss A.lc))) rfl) ?_ (by rw[Hl];lia))) (.seq (.if (b:=false) (KH (a:=false) rfl λ_=>KH (a:=false) rfl λ_=>ao (y:=.e []) rfl rfl (ug (h'::l |>.map HV) (by have:=lO (h'::l);lia) Ξ)) nofun λ_=>.nx (.ret (fg (OY (x:=dR J0) (z:=.e (W.map dI)) rfl rfl rfl (yP h2 h1)) ((qK (x:=dR J0) (y:=.e (W.map dI)) (z:=.str q.x) rfl rfl rfl (oD (qD (d:=HV h') rfl) rfl eS)).trans (vD h2.lt h1 q1 q2 q3 q4 q5 q6))) rfl))))))))));rw[<- Y];exact aJ λh _=>⟨_,rfl,iB (ao (x:=.str h.x) (y:=.str q.x) rfl rfl Ic) λ_=>rfl,λ_=>rfl⟩
   .exact .seq (.if (b:=false) ((jc rfl).trans χ) nofun λ_=>.nx (.seq (.if (b:=false) ((jc rfl).trans χ) nofun λ_=>.nx (.seq (.if (b:=true) ((jc rfl).trans χ) (λ_=>.ret ((gU (x:=dR J0) rfl rfl rfl).trans (sG A.kl A.nd hp h2)) rfl) nofun)))))
 exact e
end
section
variable{B:Z Str}{cs ss:Z Hd}{J0:Z Rw}{ks:Z (Nat×Z Str)}
theorem sM:∀{q:Z La},b∈Kn q->La.nm b∈q
 |.nm x::q,h=>(HU.mp h).elim (λz=>z▸.head _) λz=>.tail _ (sM z)
 |.vl _::_,h=>.tail _ (sM h)
theorem PB.ne2(W:PB B cs ss){x:Str}(h1:x∈cs.map (·.x))(h2:x∈ss.map (·.x)):False:=by have:=W.hn;rw[IL,Mt]at this;exact this.2.2 x h1 x h2 rfl
noncomputable def hk3(h:Hd):Oe:=(h.x,h.n,h.b)
theorem yT:∀l:Z Hd,(l.map HV).mapM oU=O (l.map hk3)
 |[]=>rfl
 |h::l=>by rw[Ia,List.mapM_cons,yT l];rfl
theorem Bq(W:PB B cs ss)(P:Prg B cs ss J0)(hh:h∈cs++ss):∃Kh,ya (HV h) (.t (ss.map HV))=O (.f (.bl Kh))/\Kd J0 h.x Kh:=by
 refine⟨decide (hk3 h∈ss.map hk3),?_,λz k=>?_,λz k=>?_⟩
 .show((oU (HV h)).bind λks=>((ss.map HV).mapM oU).map λkss=>T.f (.bl (decide (ks∈kss))))=_;rw[show oU (HV h)=O (hk3 h)from rfl,Im,yT];rfl
 .have hc:h.x∈cs.map (·.x):=(IC.mp hh).elim (λz=>Ua z) λw=>absurd (Ua w) (of_decide_eq_false z)
  unfold pA sA;cases e:J0[k]? with
  |none=>rfl
  |some r=>have Y:=P.hN k r e;cases r<;>first|rfl|exact decide_eq_false λz=>W.ne2 hc (z▸Y)
 .obtain⟨h',h1,h2⟩:=Jg.mp (of_decide_eq_true z);have hs:h.x∈ss.map (·.x):=(congrArg (·.1) h2:h'.x=h.x)▸Ua h1;unfold sA;cases e:J0[k]? with
  |none=>rfl
  |some r=>have Y:=P.hN k r e;cases r<;>first|rfl|exact decide_eq_false λz=>W.ne2 (z▸Y) hs
theorem GT(W:PB B cs ss)(P:Prg B cs ss J0)(Y:∀k∈HB ks,k<J0.length)(nd:(HB ks).Nodup):Wd cs ss J0 ks B:=by
 have l1:=P.l1;have c1:=W.c1;have s1:=W.s1;have q:=bX nd Y;refine⟨P.l0,Θ,P.hO,λi r b h hb=>P.hB i r h _ (sM (Il.mp hb)) b rfl,W.b1,Y,?_,nd,Θ,λx=>?_,λh hh=>Bq W P hh⟩
 .unfold HB at q;rw[Hl]at q;lia
 .unfold sA;cases e:J0[x]? with
  |none=>rfl
  |some r=>have hN:=P.hN x r e;cases r<;>first|rfl|exact decide_eq_false (W.ne _ (by rw[IL];exact Kj _ hN))
variable{bg:Z Str}
def Du(d:Str)(t:T):Prop:=(∃i:Nat,d="end"/\t=.f (.t [.str "end",dI i]))∨(∃l,d="ring"/\l.length<=10000/\t=.tl [.str "ring"] l [])∨(∃x l ys,(d="spoil"∨d="lost")/\l.length<=10000/\t=.tl [.str d,x] l ys)
theorem yU(A:Wd cs ss J0 ks B):∃(t:T)(d:Str),Qq [Jv cs ss J0,IU (.t (bg.map .str)) ks]=O t/\XB [Jv cs ss J0,IU (.t (bg.map .str)) ks,.e (B.map .str)]=O (.f (.str d))/\((d=""/\t=.f .G8)∨(Flt cs ss J0 bg ks t/\Du d t)):=by
 obtain⟨t,e,h⟩:=yR (bg:=bg) A;obtain⟨_,e2,h2⟩:=Fi (bg:=bg) A;have l1:=A.l1;have gn:∀{p:Prop},Yv J0 (HB ks)->N3 J0 (HB ks)->p:=λn g=>(g.no n).elim
 rcases h with ⟨rfl,⟨⟨q,Y⟩,nS⟩,nL⟩|⟨_,h⟩
 .rcases h2 with ⟨rfl,i,h⟩|⟨rfl,_,g⟩|⟨_,⟨rfl,h⟩|⟨_,⟨rfl,p,hp,b,n,h⟩|⟨rfl,_⟩⟩⟩
  .exact absurd h (q i)
  .exact gn Y g
  .exact absurd nS h
  .exact absurd (nL p hp b n) h
  .exact⟨_,_,e,e2,.inl ⟨rfl,rfl⟩⟩
 .have hF:=h;rcases h with ⟨i,hi,rfl⟩|⟨q,R,hR,lR,rfl⟩|⟨⟨q,Y⟩,nm,hm,W,m,z,hW,_,hf,c,rfl⟩|⟨⟨⟨q,Y⟩,nS⟩,p,hp,b,W,n,L,rfl⟩
  .rcases h2 with ⟨rfl,_⟩|⟨_,q,_⟩|⟨⟨q,_⟩,_⟩
   .exact⟨_,_,e,e2,.inr ⟨hF,.inl ⟨i,rfl,rfl⟩⟩⟩
   .exact absurd hi (q i)
   .exact absurd hi (q i)
  .rcases h2 with ⟨_,i,hi⟩|⟨rfl,_⟩|⟨⟨_,sh⟩,_⟩
   .exact absurd hi (q i)
   .exact⟨_,_,e,e2,.inr ⟨hF,.inr (.inl ⟨_,rfl,by rw[Hl];lia,rfl⟩)⟩⟩
   .exact(hR.shut sh).elim
  .rcases h2 with ⟨_,i,hi⟩|⟨_,_,g⟩|⟨_,⟨rfl,_⟩|⟨nS,_⟩⟩
   .exact absurd hi (q i)
   .exact gn Y g
   .exact⟨_,_,e,e2,.inr ⟨hF,.inr (.inr ⟨_,_,_,.inl rfl,by rw[Hl];exact hW,rfl⟩)⟩⟩
   .exact absurd ⟨_,c,hf⟩ (nS nm hm)
  .rcases h2 with ⟨_,i,hi⟩|⟨_,_,g⟩|⟨_,⟨_,h⟩|⟨_,⟨rfl,_⟩|⟨_,h⟩⟩⟩
   .exact absurd hi (q i)
   .exact gn Y g
   .exact absurd nS h
   .exact⟨_,_,e,e2,.inr ⟨hF,.inr (.inr ⟨_,_,_,.inr rfl,by rw[Hl];exact Iw L.len Ω,rfl⟩)⟩⟩
   .exact absurd (h p hp b n) L.out
end
theorem yV{t:T}{z:Dt}(e:Qq [P,ζ]=O t)(q:t.z=O z):XS [P,ζ]=O (.f (.bl (jO z))):=by
 obtain⟨_,e,rfl⟩:∃t,XS [P,ζ]=O t/\t=.f (.bl (jO z)):=Rz.of (.ret (eV (x:=z) (y:=.G8) (by unfold Rj;rw[dM (x:=P) (y:=ζ) rfl rfl,e];exact q) rfl) rfl)
 exact e
theorem Fj{c:De->C Bool}{t:T}{d:Dt}{b:Bool}(h:J[i]?=O (O t))(q:t.z=O d)(Y:c (J.set i (O (.f d)))=O b):Qp i c J=O b:=by unfold Qp;rw[h];dsimp only;rw[q];exact Y
theorem yW{fe fd:De->C Dt}{xs l ys:Z Dt}{d:Dt}{N:De->Prop}{R:T->Prop}(h:J[i]?=O (O (.tl xs l ys)))(Y:fe J=O (dI xs.length))(q:fd J=O d)(hl:l.length<=10000)(k:N (J.set i V)):Rz (yg i fe fd J) N R:=.inl ⟨_,by unfold yg;rw[h];dsimp only;rw[Y,q,Im,Im];exact if_pos ⟨rfl,i7 Θ⟩,k⟩
theorem main(ns:Z Int)(_h:ns.length<=63):t3 [.e (ns.map .int)]=O (.f (.bl D)):=by
 obtain⟨B,cs,ss,Hg,J0,ew,ep,W,P⟩:=Bj ns;obtain⟨bg,ks,ec,kr,nd⟩:=Bn (ns:=ns) (J0:=J0) ew W (by have:=P.l1;lia);have A:=GT W P kr nd;obtain⟨t,d,ef,ed,h⟩:=yU (bg:=bg) A
 obtain⟨z,hz⟩:∃z,t.z=O z:=by rcases h with ⟨_,rfl⟩|⟨_,⟨i,_,rfl⟩|⟨l,_,_,rfl⟩|⟨x,l,ys,_,_,rfl⟩⟩<;>exact⟨_,rfl⟩
 obtain⟨_,e,rfl⟩:∃t,t3 [.e (ns.map .int)]=O t/\t=.f (.bl D):=by
  refine Rz.of (.seq (.set (Lb rfl (y:=.int 40) rfl ep) (.seq (.set (d:=.e (B.map .str)) (oD (LV rfl ew) (y:=.int 0) rfl rfl) (.seq (.set (OY rfl rfl rfl ec) (.seq (.set (OY rfl rfl rfl ed) (.seq (.own ((dM rfl rfl).trans ef) (.seq (.set (Lb rfl rfl (yV ef hz)) ?_))))))))))));rcases h with ⟨rfl,rfl⟩|⟨hF,hD⟩
  .cases hz;exact .seq (.if (b:=false) (KH (a:=false) rfl λ_=>ao (x:=.bl D) (y:=.bl D) rfl (oD (x:=.str "") (y:=.str "") rfl rfl (Ic.trans (by rw[decide_eq_true rfl]))) rfl) nofun λ_=>.nx (.seq (.if (b:=true) (ao (x:=.str "") (y:=.str "") rfl rfl (Ic.trans (by rw[decide_eq_true rfl]))) (λ_=>.ret rfl rfl) nofun)))
  .obtain ⟨u,rfl,dn⟩:∃u,z=.t (.str d::u)/\d≠"":=by
    rcases hD with ⟨i,rfl,rfl⟩|⟨l,rfl,_,rfl⟩|⟨x,l,ys,hd,_,rfl⟩<;>cases hz
    .exact⟨_,rfl,χ⟩
    .exact⟨_,rfl,χ⟩
    .exact⟨_,rfl,by rcases hd with rfl|rfl<;>decide +kernel⟩
   have isf:=qM A hz hF;have i0:∀{f:De->C Dt}{J:De},f J=O (.t (.str d::u))->bo (d2 ah f (kD (.int 0))) J=O (.str d):=λh=>oD h (y:=.int ((0:Nat):Int)) rfl (by rw[na,aG];rfl)
   refine .seq (.if (b:=false) (KH (a:=false) rfl λ_=>ao (x:=.bl ξ) (y:=.bl ξ) rfl (oD (x:=.str d) (y:=.str "") rfl rfl (Ic.trans (by rw[decide_eq_false dn]))) rfl) nofun λ_=>.nx (.seq (.if (b:=false) (ao (x:=.str d) (y:=.str "") rfl rfl (Ic.trans (by rw[decide_eq_false dn]))) nofun λ_=>.nx (.seq (.if (b:=false) (Fj rfl hz (KH (a:=false) (Yo (OY rfl rfl rfl isf)) λ_=>ao (y:=.str d) (i0 rfl) rfl (Jo.trans (by rw[decide_eq_true rfl];rfl)))) nofun λ_=>.nx (.seq (.mono (N:=λJ=>∃x5,J=[O (.f (.e (ns.map .int))),O (.f (Jv cs ss J0)),O (.f (.e (B.map .str))),O (.f (IU (.t (bg.map .str)) ks)),O (.f (.str d)),x5,O (.f (.bl ξ))]) (.if (b:=!decide (d="end")) (ao (x:=.str d) (y:=.str "end") rfl rfl Jo) (λg=>?_) λ_=>.nx ⟨_,rfl⟩) ?_ λ_ h=>h)))))))
   .have r2:∀{n:Nat}{J:De},vB 4 J=O (.str d)->(n=if d="ring" then 1 else 2)->bo (d2 bP (kD (.int 1)) (bo (ag wT (aa (bo (d2 (Hs D) (vB 4) (kD (.str "ring")))) ae)))) J=O (dI n):=λh hn=>dE (a:=1) (b:=if d="ring" then 0 else 1) rfl (LV (oD h (y:=.str "ring") rfl Jo) (by
     by_cases q:d="ring"
     .rw[decide_eq_true q,if_pos q];rfl
     .rw[decide_eq_false q,if_neg q];rfl)) (by rw[hn];split<;>rfl)
    rcases hD with ⟨i,rfl,rfl⟩|⟨l,rfl,hl,rfl⟩|⟨x,l,ys,hd,hl,rfl⟩
    .rw[decide_eq_true rfl]at g;cases g
    .exact yW rfl (r2 rfl (by rw[if_pos rfl];rfl)) (d:=.int 0) rfl hl ⟨_,rfl⟩
    .exact yW rfl (r2 rfl (by rw[if_neg (by rcases hd with rfl|rfl<;>decide +kernel)];rfl)) (d:=.int 0) rfl hl ⟨_,rfl⟩
   .rintro J ⟨x5,rfl⟩
    exact .seq (.set (d:=.t (.str d::u)) (by unfold Rj;rw[dM (x:=Jv cs ss J0) (y:=IU (.t (bg.map .str)) ks) rfl rfl,ef];exact hz) (.ret (fg (OY rfl rfl rfl isf) ((eV (y:=.str d) (i0 rfl) rfl).trans (Ic.trans (by rw[decide_eq_true rfl])))) rfl))
 exact e
def pp(K:Hk):Sp:=λvs H Q _=>∃(a:J9)(ns:Z Int),vs=[.ref a]/\Io K H a (ns.map ψ.int)/\ns.length<=63/\tJ H/\∀H',Q (.bl D) H'
variable{K:Hk}
theorem Fk{vs:Z ψ}{H:Hp}{Q:VK}{E:XK}(h:pp K vs H Q E):Ha K 1 t3 vs H Q E:=by
 obtain⟨a,ns,rfl,hS,Y,hO,q⟩:=h;refine⟨H,[.e (ns.map .int)],.f (.bl D),zz.refl H,rfl,?_,main ns Y,λv H' F' S st o _=>?_⟩
 .simp only[hX,G3];exact⟨_,[],rfl,⟨a,_,rfl,hS,hX.map (λ_=>fN) ns⟩,rfl⟩
 .have o:G3 K F' (.bl D) v:=o;simp only[G3]at o;subst o;exact q H'
variable{l:PySem.W.OpenLaw}
theorem all_mk{w:Ja}{h:Heap}{mg:Str->C Value}{fa:J9}(X:K.In h)(σ:h.Ns ID mg)(hfa:mg "law"=O (.ref fa))
 (a0:Ik K "_law_cell_at" z53)
 (a1:Ik K "_law_rich" XU)
 (a2:Ik K "_law_big" y79)
 (a3:Ik K "_law_some" XV)
 (a4:Ik K "_law_cutting" XW)
 (a5:Ik K "_law_exits" z64)
 (a6:Ik K "_law_places" SL)
 (a7:Ik K "_law_digits" z45)
 (a8:Ik K "_law_names" XX)
 (a9:Ik K "_law_world" XY)
 (a10:Ik K "_law_pool" U0)
 (a11:Ik K "_law_code" U1)
 (a12:Ik K "_law_goes_round" U2)
 (a13:Ik K "_law_read_by" X2)
 (a14:Ik K "_law_set_by" q59)
 (a15:Ik K "_law_is_needed" y32)
 (a16:Ik K "_law_lacks" X4)
 (a17:Ik K "_law_reached" X5)
 (a18:Ik K "_law_may" U3)
 (a19:Ik K "_law_due" SO)
 (a20:Ik K "_law_whole" U5)
 (a21:Ik K "_law_is_lost" z7)
 (a22:Ik K "_law_is_piece" Rn)
 (a23:Ik K "_law_is_ring" Qs)
 (a24:Ik K "_law_spoils" SR)
 (a25:Ik K "_law_is_fault" y9)
 (a26:Ik K "_law_row" U7)
 (a27:Ik K "_law_program" Qt)
 (a28:Ik K "kept_rows" z71)
 (a29:Ik K "end_fault" X8)
 (a30:Ik K "gives" Ej)
 (a31:Ik K "atoms" X9)
 (a32:Ik K "reads" U8)
 (a33:Ik K "needed_ahead" U9)
 (a34:Ik K "ways_of" z94)
 (a35:Ik K "ways" jB)
 (a36:Ik K "needed" Va)
 (a37:Ik K "traced" Vb)
 (a38:Ik K "route" Vc)
 {Yx S8:J9} (a39:Qo K "way_to_reading" y3 Yx S8) (S9:QS K Yx S8=D) (Ta:nK K "way_to_reading"=O (S8,kt "way_to_reading" (aH y3)))
 (a40:Ik K "lost_fault" q49)
 (a41:Ik K "endless_rows" SV)
 (a42:Ik K "ring_fault" Ve)
 (a43:Ik K "plain_names" z59)
 (a44:Ik K "inner_ways" Yd)
 (a45:Ik K "mark_behind" y43)
 (a46:Ik K "traced" Vg)
 (a47:Ik K "route" Vh)
 {Yy Tb:J9} (a48:Qo K "spoilt" NW Yy Tb) (Tc:QS K Yy Tb=D) (Td:nK K "spoilt"=O (Tb,kt "spoilt" (aH NW)))
 (a49:Ik K "spoil_fault" q44)
 (a50:Ik K "fault" q96)
 (a51:Ik K "holds" y96)
 (Yz:Ik K "law" il)
 (O0:JT K ID "all"=O V)
 (O1:JT K ID "any"=O V)
 (M2:JT K ID "bool"=O V)
 (Jr:JT K ID "enumerate"=O V)
 (O2:JT K ID "int"=O V)
 (I0:JT K ID "isinstance"=O V)
 (O3:JT K ID "len"=O V)
 (M3:JT K ID "list"=O V)
 (O4:JT K ID "max"=O V)
 (O5:JT K ID "min"=O V)
 (LX:JT K ID "range"=O V)
 (JM:JT K ID "reversed"=O V)
 (O6:JT K ID "set"=O V)
 (K4:JT K ID "sorted"=O V)
 (O7:JT K ID "str"=O V)
 (LY:JT K ID "tuple"=O V)
 {d_A:J9} {o_A:Obj} {m_A:Nat} {YA:Tok} {YB:Tok} {YC:Tok} {YD:Tok} {YE:Tok} {YF:Tok} {YG:Tok} {YH:Tok} {Qx:J9} {Qy:J9} {Qz:J9} {QA:J9} {q:J9} {QB:J9} {Y:J9} {QC:J9} (b_A:JT K ID "ATOM_PLACES"=O (O (.ref d_A))) (l_A:K.lookup d_A=O o_A) (e_A:o_A.ExactDict) (f_A:o_A.data=.dict #[⟨PX w.params "copy",.str "copy" YA,.ref Qx⟩,⟨PX w.params "op",.str "op" YB,.ref Qy⟩,⟨PX w.params "store",.str "store" YC,.ref Qz⟩,⟨PX w.params "take",.str "take" YD,.ref QA⟩,⟨PX w.params "lay",.str "lay" YE,.ref q⟩,⟨PX w.params "say",.str "say" YF,.ref QB⟩,⟨PX w.params "if",.str "if" YG,.ref Y⟩,⟨PX w.params "end",.str "end" YH,.ref QC⟩] m_A) (z_A:(d_A==L4)=ξ)
 {Te:Obj} {YI:Array Value} {m0_A:Nat} (Tf:K.lookup Qx=O Te) (Tg:Te.cls=.type "tuple") (Th:Te.data=.seq YI m0_A) (Ti:Da [ψ.int 2,ψ.int 3] YI.toList)
 {Tj:Obj} {YJ:Array Value} {m1_A:Nat} (Tk:K.lookup Qy=O Tj) (Tl:Tj.cls=.type "tuple") (Tn:Tj.data=.seq YJ m1_A) (To:Da [ψ.int 3,ψ.int 5] YJ.toList)
 {Tp:Obj} {YK:Array Value} {m2_A:Nat} (Tq:K.lookup Qz=O Tp) (Ts:Tp.cls=.type "tuple") (Tt:Tp.data=.seq YK m2_A) (Tu:Da [ψ.int 2,ψ.int 3] YK.toList)
 {Tv:Obj} {YL:Array Value} {m3_A:Nat} (Tw:K.lookup QA=O Tv) (Tz:Tv.cls=.type "tuple") (TB:Tv.data=.seq YL m3_A) (TC:Da [ψ.int 3,ψ.int 4] YL.toList)
 {TD:Obj} {YM:Array Value} {m4_A:Nat} (TF:K.lookup q=O TD) (TH:TD.cls=.type "tuple") (TJ:TD.data=.seq YM m4_A) (TK:Da [ψ.int 2,ψ.int 4] YM.toList)
 {TL:Obj} {YN:Array Value} {m5_A:Nat} (TN:K.lookup QB=O TL) (TQ:TL.cls=.type "tuple") (TU:TL.data=.seq YN m5_A) (TV:Da [ψ.int 1,ψ.int 2] YN.toList)
 {TW:Obj} {YO:Array Value} {m6_A:Nat} (TX:K.lookup Y=O TW) (TY:TW.cls=.type "tuple") (TZ:TW.data=.seq YO m6_A) (T0:Da [ψ.int 1,ψ.int 2] YO.toList)
 {T3:Obj} {YQ:Array Value} {m7_A:Nat} (T4:K.lookup QC=O T3) (T5:T3.cls=.type "tuple") (T6:T3.data=.seq YQ m7_A) (T7:Da [ψ.int 1,ψ.int 2] YQ.toList)
 {u_D:Value} (b_D:JT K ID "FRESH"=O (O u_D)) (r_D:BI (.str "fresh") u_D)
 {u_F:Value} (b_F:JT K ID "SAFE"=O (O u_F)) (r_F:BI (.str "safe") u_F)
 {u_E:Value} (b_E:JT K ID "SEEN"=O (O u_E)) (r_E:BI (.str "seen") u_E)
 {d_B:J9} {o_B:Obj} {i_B:Array Value} {m_B:Nat} (b_B:JT K ID "SETTING"=O (O (.ref d_B))) (l_B:K.lookup d_B=O o_B) (e_B:o_B.cls=.type "tuple") (f_B:o_B.data=.seq i_B m_B) (r_B:Da [ψ.str "copy",ψ.str "op",ψ.str "load",ψ.str "take",ψ.str "hear"] i_B.toList)
 {u_C:Value} (b_C:JT K ID "SPOILT"=O (O u_C)) (r_C:BI (.str "spoilt") u_C)
 (zIS:rT K=D)
 (M4:eO K "str")
 (LZ:eO K "bool")
 (M5:eO K "int")
 (kd_list:eO K "list")
 (K5:eO K "tuple")
 : ∃fd:Nd,(∀(s:t2)(v:Value),Pf s fd ⟨[v],[]⟩ [("_law_script",v)])/\∀base:Heap,K.In base->base.Ns ID mg->rE mg base->JG l.prog w K mg base Lk 9 fa fd ["_law_script"] (pp K):=by
 obtain⟨f52,oc52,od52,an52,sl52,kV52,dc52,pm52,cd52,ct52,Yz,l52,c52,k52⟩:=Yz;have e:=hfa.symm.trans (PZ X σ Yz);cases e;have T:Txt l.prog w K mg:={LB:=Mv X σ O0,OV:=Mv X σ O1,LR:=Mv X σ M2,Jp:=Mv X σ Jr,OW:=Mv X σ O2,He:=Mv X σ I0,OX:=Mv X σ O3,Iy:=Mv X σ M3,Nx:=Mv X σ O4,Rl:=Mv X σ O5,Hy:=Mv X σ LX,JL:=Mv X σ JM,Ny:=Mv X σ O6,Ke:=Mv X σ K4,Mn:=Mv X σ O7,Kf:=Mv X σ LY,g_A:=Af [("copy",YA,.ref Qx,.ref Qx),("op",YB,.ref Qy,.ref Qy),("store",YC,.ref Qz,.ref Qz),("take",YD,.ref QA,.ref QA),("lay",YE,.ref q,.ref q),("say",YF,.ref QB,.ref QB),("if",YG,.ref Y,.ref Y),("end",YH,.ref QC,.ref QC)] (PZ X σ b_A) l_A e_A f_A z_A (show(["copy","op","store","take","lay","say","if","end"]:Z Str).Nodup by decide +kernel) (by simp[BI]) (λF=>Ag (.cons (de Tf Tg Th Ti Ω (by simp[hX,G3])) (.cons (de Tk Tl Tn To Ω (by simp[hX,G3])) (.cons (de Tq Ts Tt Tu Ω (by simp[hX,G3])) (.cons (de Tw Tz TB TC Ω (by simp[hX,G3])) (.cons (de TF TH TJ TK Ω (by simp[hX,G3])) (.cons (de TN TQ TU TV Ω (by simp[hX,G3])) (.cons (de TX TY TZ T0 Ω (by simp[hX,G3])) (.cons (de T4 T5 T6 T7 Ω (by simp[hX,G3])) .nil))))))))),g_D:=iV ⟨_,PZ X σ b_D,r_D⟩,g_F:=iV ⟨_,PZ X σ b_F,r_F⟩,g_E:=iV ⟨_,PZ X σ b_E,r_E⟩,g_B:=w8 (PZ X σ b_B) l_B e_B f_B r_B Ω (λF=>by simp[hX,G3]),g_C:=iV ⟨_,PZ X σ b_C,r_C⟩,is:=zIS,Mo:=M4,LS:=LZ,Rm:=M5,LU:=kd_list,Nz:=K5};refine⟨LJ "law" "law" (bY il) (aH il) (ab il) .none kV52 dc52 pm52 an52 cd52 ct52,λs v=>.of_eq rfl,λbase kb _ bm=>?_⟩;have UY:=z113 (base:=base) T (a0.df X σ λ_ _ _ _ _ _=>K1 λ_ _=>rfl);have q56:=q141 (base:=base) T (a1.df X σ λ_ _ _ _ _ _=>K1 λ_ _=>rfl);have UX:=q142 T (a2.df X σ λ_ _ _ _ _ _=>K1 λ_ _=>rfl) UY q56;have y101:=q140 (base:=base) T (a3.df X σ λ_ _ _ _ _ _=>K1 λ_ _=>rfl);have q78:=y116 T (a4.df X σ λ_ _ _ _ _ _=>MA λ_ _ _=>rfl) UX UY q56 y101;have z5:=y127 (base:=base) T (a5.df X σ λ_ _ _ _ _ _=>K1 λ_ _=>rfl);have z83:=z118 T (a6.df X σ λ_ _ _ _ _ _=>NV λ_=>rfl) z5;have XZ:=z125 (base:=base) T (a7.df X σ λ_ _ _ _ _ _=>K1 λ_ _=>rfl);have q91:=y128 T (a8.df X σ λ_ _ _ _ _ _=>K1 λ_ _=>rfl) XZ;have X7:=z132 T (a9.df X σ λ_ _ _ _ _ _=>NV λ_=>rfl) UX UY XZ q91;have z102:=z133 T (a10.df X σ λ_ _ _ _ _ _=>NV λ_=>rfl) X7;have z101:=y133 T (a11.df X σ λ_ _ _ _ _ _=>MA λ_ _ _=>rfl) UY q78 z83 z102;have y41:=q90 T (a12.df X σ λ_ _ _ _ _ _=>K1 λ_ _=>rfl) z5;have q39:=z110 (base:=base) T (a13.df X σ λ_ _ _ _ _ _=>NV λ_=>rfl);have y44:=z119 (base:=base) T (a14.df X σ λ_ _ _ _ _ _=>NV λ_=>rfl)
 have y62:=q98 T (a15.df X σ λ_ _ _ _ _ _=>MA λ_ _ _=>rfl) z5 q39 y44;have y89:=q130 T (a16.df X σ λ_ _ _ _ _ _=>MA λ_ _ _=>rfl) y62;have z40:=q112 T (a17.df X σ λ_ _ _ _ _ _=>el4 λ_ _ _ _=>rfl) z5;have q81:=z143 T (a18.df X σ λ_ _ _ _ _ _=>MA λ_ _ _=>rfl) z5 z40;have Yg:=y142 T (a19.df X σ λ_ _ _ _ _ _=>MA λ_ _ _=>rfl) y41 y89 q81;have U6:=z127 (base:=base) T (a20.df X σ λ_ _ _ _ _ _=>NV λ_=>rfl);have q74:=y114 T (a21.df X σ λ_ _ _ _ _ _=>MA λ_ _ _=>rfl) z5 q39 y44 U6;have q68:=q104 T (a22.df X σ λ_ _ _ _ _ _=>MA λ_ _ _=>rfl) z5 U6;have y76:=y112 T (a23.df X σ λ_ _ _ _ _ _=>MA λ_ _ _=>rfl) z5 U6;have y57:=q121 (base:=base) T (a24.df X σ λ_ _ _ _ _ _=>el4 λ_ _ _ _=>rfl);have z68:=q107 T (a25.df X σ λ_ _ _ _ _ _=>MA λ_ _ _=>rfl) q74 q68 y76 y57 U6;have z112:=y141 T (a26.df X σ λ_ _ _ _ _ _=>MA λ_ _ _=>rfl) XZ;have z73:=z111 T (a27.df X σ λ_ _ _ _ _ _=>K1 λ_ _=>rfl) UX XZ z112 X7;have Vf:=z137 (base:=base) T (a28.df X σ λ_ _ _ _ _ _=>NV λ_=>rfl);have q102:=y137 T (a29.df X σ λ_ _ _ _ _ _=>K1 λ_ _=>rfl) Vf;have q97:=y153 (base:=base) T (a30.df X σ λ_ _ _ _ _ _=>NV λ_=>rfl);have q144:=z151 (base:=base) T (a31.df X σ λ_ _ _ _ _ _=>NV λ_=>rfl);have z97:=y152 T (a32.df X σ λ_ _ _ _ _ _=>NV λ_=>rfl) q144;have z52:=q115 T (a33.df X σ λ_ _ _ _ _ _=>K1 λ_ _=>rfl) q97 z97;have y125:=y145 (base:=base) T (a34.df X σ λ_ _ _ _ _ _=>K1 λ_ _=>rfl);have L0:=y154 T (a35.df X σ λ_ _ _ _ _ _=>NV λ_=>rfl) y125;have q134:=q150 T (a36.df X σ λ_ _ _ _ _ _=>NV λ_=>rfl) z52 L0;have z108:=z149 (base:=base) T (a37.df X σ λ_ _ _ _ _ _=>K1 λ_ _=>rfl);have y118:=z153 T (a38.df X σ λ_ _ _ _ _ _=>MA λ_ _ _=>rfl) z108;have y64:=y100 T (a39.df X σ λ_ _ _ _ _ _=>MA λ_ _ _=>rfl) (Ll.mk' kb S9 bm) (tT rfl Ta) q97 z97 y118 L0;have z90:=z126 T (a40.df X σ λ_ _ _ _ _ _=>K1 λ_ _=>rfl) q134 y64;have q55:=q110 (base:=base) T (a41.df X σ λ_ _ _ _ _ _=>K1 λ_ _=>rfl);have q89:=q132 T (a42.df X σ λ_ _ _ _ _ _=>K1 λ_ _=>rfl) q55 Vf L0;have q45:=y124 (base:=base) T (a43.df X σ λ_ _ _ _ _ _=>NV λ_=>rfl);have y93:=y129 T (a44.df X σ λ_ _ _ _ _ _=>K1 λ_ _=>rfl) Vf L0;have q83:=z117 (base:=base) T (a45.df X σ λ_ _ _ _ _ _=>MA λ_ _ _=>rfl);have q71:=z140 (base:=base) T (a46.df X σ λ_ _ _ _ _ _=>K1 λ_ _=>rfl);have z80:=y143 T (a47.df X σ λ_ _ _ _ _ _=>MA λ_ _ _=>rfl) q71;have z134:=y149 T (a48.df X σ λ_ _ _ _ _ _=>MA λ_ _ _=>rfl) (Ll.mk' kb Tc bm) (tT rfl Td) y93 Vf q83 q45 z80;have q84:=z121 T (a49.df X σ λ_ _ _ _ _ _=>K1 λ_ _=>rfl) q45 z134;have y77:=q152 T (a50.df X σ λ_ _ _ _ _ _=>K1 λ_ _=>rfl) q102 z90 q89 q84;have z144:=y151 T (a51.df X σ λ_ _ _ _ _ _=>K1 λ_ _=>rfl) y77;exact(Ek T (n6 (st:=il) l52 c52 k52) z101 Yg z68 z73 X7 y77 z144).imp λvs H Q E z=>Fk z
theorem G2{h:Heap}{ts:Z J9}(X:K.In h)(Y:∀P∈ts,h.get? P=O (QT #[])){cc0 Vo:J9}(a0:Qo K "way_to_reading" y3 cc0 Vo)(NQ:QS K cc0 Vo=D)(n0:K.lookup Vo=V)(m0:Vo∈ts){cc1 q:J9}(a1:Qo K "spoilt" NW cc1 q)(hd1:QS K cc1 q=D)(n1:K.lookup q=V)(m1:q∈ts)(e:c6 K=[(Vo,kt "way_to_reading" (aH y3)),(q,kt "spoilt" (aH NW))])(ne:Vo≠q):IF K h:=IF.two X e ne n0 n1 NQ hd1 (Y _ m0) (Y _ m1)
theorem walk{q:HL}{loose:Z Str}{XP:(Str->C Value)->Heap->Prop}{YP:Ja->Heap->Prop}{d:DefRec}{K:Params->Hk}(hn:l.most=O 63)(Y:d.params.defaults=[])
 (hY:∀(w:Ja)(h:Heap),YP w h->(K w.params).In h) (hT:∀(w:Ja)(h:Heap),YP w h->IF (K w.params) h)
 (F:∀(w:Ja)(mg:Str->C Value)(fa:J9)(h:Heap),(K w.params).In h->h.Ns ID mg->mg d.name=O (.ref fa)→
 ∃fd:Nd,(∀(s:t2)(u:Value),Pf s fd ⟨[u],[]⟩ [("_law_script",u)])/\∀base:Heap,(K w.params).In base->base.Ns ID mg->rE mg base->JG l.prog w (K w.params) mg base Lk 9 fa fd ["_law_script"] (pp (K w.params))) :
  PySem.W.WalkO q loose XP YP l.row.toRowW d [] (λf vs=>PySem.call f vs):=
 L2.Gu (n:=63) (k:=9) (x:="_law_script") (CX:=λ_=>Lk) (sp:=λw=>pp (K w.params)) hn Ω Y ⟨rfl,Ω,Ω⟩ hY hT F (λ_ _ a ns hl hO hS=>⟨a,ns,rfl,hS,hl,hO,λ_=>rfl⟩) λ_ _ _ _ _ z=>z
end P43
open PySem PySem.W PyProof.Rows
local macro_rules | `(tactic| walk_at "f") => `(tactic| (refine' L2.Ik.mk ?za ?zl ?zc ?zk; (case za => k_is); (case zl => k_is); (case zc => k_is); (case zk => k_is)))
local macro_rules | `(tactic| walk_at "c") => `(tactic| (refine' L2.Qo.mk ?za ?zl ?zc ?zk ?zx ?zp; (case za => k_is); (case zl => k_is); (case zc => k_is); (case zk => k_is); (case zx => k_is); (case zp => exact rfl)))
set_option maxRecDepth 100000 in
set_option maxHeartbeats 0 in
theorem PySem.Challenge.cw_dimhouse_k43_whole_the_first_fault_holds : PySem.Challenge.rw_dimhouse_k43_whole_the_first_fault.Holds := by
 w_on;o_law
 refine holds_open (q:=P43.seen) (loose:=[PySem.Str.ofString "ATOM_PLACES"]) (Xt:=λs=>xlAt P43.seen [] s&&recOk (zj5 (zg7 PySem.Challenge.rw_dimhouse_k43_whole_the_first_fault.row)) s) (XP:=XL P43.seen []) (Yf:=Hook.obs P43.hook) (Ya:=Hook.val P43.hook) (YP:=Hook.says P43.hook) (N:=3616) ?hl (Hook.of P43.hook) (Hook.keeps P43.hook) (λs e=>xl_of s (qw2.mp e).1) XL.keeps (by rfl) (by rfl) (by rfl) (λs e=>recFacts_of (qw2.mp e).2) (by rfl) (by first | assumption | decide +kernel) (by decide +kernel) ⟨rfl,rfl,rfl,rfl,rfl,by decide +kernel⟩ ?hw ?hc
 case hl=>exact LeftO.of_split "special-get-raises" λw=>P43.map_two (P43.run_false w) (P43.run_true w)
 case hw=>w_witness2
 delta P43.hook
 k_fill
 refine P43.walk (l:=PySem.Challenge.rw_dimhouse_k43_whole_the_first_fault) rfl rfl (λw h Y=>PySem.W.km_in_of Y) ?T ?F
 case T =>
  intro w h Y;refine' P43.G2 (PySem.W.km_in_of Y) (PySem.W.km_tabs_of Y) ?a0 ?NQ ?n0 ?m0 ?a1 ?hd1 ?n1 ?m1 ?e ?ne
  (case a0=>walk_at "c")
  (case NQ=>kernel_rfl)
  (case n0=>kernel_rfl)
  (case m0=>simp)
  (case a1=>walk_at "c")
  (case hd1=>kernel_rfl)
  (case n1=>kernel_rfl)
  (case m1=>simp)
  (case e=>kernel_rfl)
  (case ne=>decide)
 case F =>
  intro w mg fa h KX σ Wt;refine' P43.all_mk KX σ Wt ?a0 ?a1 ?a2 ?a3 ?a4 ?a5 ?a6 ?a7 ?a8 ?a9 ?a10 ?a11 ?a12 ?a13 ?a14 ?a15 ?a16 ?a17 ?a18 ?a19 ?a20 ?a21 ?a22 ?a23 ?a24 ?a25 ?a26 ?a27 ?a28 ?a29 ?a30 ?a31 ?a32 ?a33 ?a34 ?a35 ?a36 ?a37 ?a38 ?a39 ?S9 ?Ta ?a40 ?a41 ?a42 ?a43 ?a44 ?a45 ?a46 ?a47 ?a48 ?Tc ?Td ?a49 ?a50 ?a51 ?Yz ?O0 ?O1 ?M2 ?Jr ?O2 ?I0 ?O3 ?M3 ?O4 ?O5 ?LX ?JM ?O6 ?K4 ?O7 ?LY ?b_A ?l_A ?e_A ?f_A ?z_A ?Tf ?Tg ?Th ?Ti ?Tk ?Tl ?Tn ?To ?Tq ?Ts ?Tt ?Tu ?Tw ?Tz ?TB ?TC ?TF ?TH ?TJ ?TK ?TN ?TQ ?TU ?TV ?TX ?TY ?TZ ?T0 ?T4 ?T5 ?T6 ?T7 ?b_D ?r_D ?b_F ?r_F ?b_E ?r_E ?b_B ?l_B ?e_B ?f_B ?r_B ?b_C ?r_C ?zIS ?M4 ?LZ ?M5 ?kd_list ?K5
  (case a0=>walk_at "f")
  (case a1=>walk_at "f")
  (case a2=>walk_at "f")
  (case a3=>walk_at "f")
  (case a4=>walk_at "f")
  (case a5=>walk_at "f")
  (case a6=>walk_at "f")
  (case a7=>walk_at "f")
  (case a8=>walk_at "f")
  (case a9=>walk_at "f")
  (case a10=>walk_at "f")
  (case a11=>walk_at "f")
  (case a12=>walk_at "f")
  (case a13=>walk_at "f")
  (case a14=>walk_at "f")
  (case a15=>walk_at "f")
  (case a16=>walk_at "f")
  (case a17=>walk_at "f")
  (case a18=>walk_at "f")
  (case a19=>walk_at "f")
  (case a20=>walk_at "f")
  (case a21=>walk_at "f")
  (case a22=>walk_at "f")
  (case a23=>walk_at "f")
  (case a24=>walk_at "f")
  (case a25=>walk_at "f")
  (case a26=>walk_at "f")
  (case a27=>walk_at "f")
  (case a28=>walk_at "f")
  (case a29=>walk_at "f")
  (case a30=>walk_at "f")
  (case a31=>walk_at "f")
  (case a32=>walk_at "f")
  (case a33=>walk_at "f")
  (case a34=>walk_at "f")
  (case a35=>walk_at "f")
  (case a36=>walk_at "f")
  (case a37=>walk_at "f")
  (case a38=>walk_at "f")
  (case a39=>walk_at "c")
  (case S9=>kernel_rfl)
  (case Ta=>kernel_rfl)
  (case a40=>walk_at "f")
  (case a41=>walk_at "f")
  (case a42=>walk_at "f")
  (case a43=>walk_at "f")
  (case a44=>walk_at "f")
  (case a45=>walk_at "f")
  (case a46=>walk_at "f")
  (case a47=>walk_at "f")
  (case a48=>walk_at "c")
  (case Tc=>kernel_rfl)
  (case Td=>kernel_rfl)
  (case a49=>walk_at "f")
  (case a50=>walk_at "f")
  (case a51=>walk_at "f")
  (case Yz=>walk_at "f")
  (case O0 | O1 | M2 | Jr | O2 | I0 | O3 | M3 | O4 | O5 | LX | JM | O6 | K4 | O7 | LY | b_A | l_A=>k_is)
  (case e_A=>exact ⟨rfl,rfl,rfl⟩)
  (case f_A=>rfl)
  (case z_A=>rfl)
  (case Tf=>k_is)
  (case Tg=>rfl)
  (case Th=>rfl)
  (case Ti=>exact (.cons ⟨_,rfl⟩ (.cons ⟨_,rfl⟩ .nil)))
  (case Tk=>k_is)
  (case Tl=>rfl)
  (case Tn=>rfl)
  (case To=>exact (.cons ⟨_,rfl⟩ (.cons ⟨_,rfl⟩ .nil)))
  (case Tq=>k_is)
  (case Ts=>rfl)
  (case Tt=>rfl)
  (case Tu=>exact (.cons ⟨_,rfl⟩ (.cons ⟨_,rfl⟩ .nil)))
  (case Tw=>k_is)
  (case Tz=>rfl)
  (case TB=>rfl)
  (case TC=>exact (.cons ⟨_,rfl⟩ (.cons ⟨_,rfl⟩ .nil)))
  (case TF=>k_is)
  (case TH=>rfl)
  (case TJ=>rfl)
  (case TK=>exact (.cons ⟨_,rfl⟩ (.cons ⟨_,rfl⟩ .nil)))
  (case TN=>k_is)
  (case TQ=>rfl)
  (case TU=>rfl)
  (case TV=>exact (.cons ⟨_,rfl⟩ (.cons ⟨_,rfl⟩ .nil)))
  (case TX=>k_is)
  (case TY=>rfl)
  (case TZ=>rfl)
  (case T0=>exact (.cons ⟨_,rfl⟩ (.cons ⟨_,rfl⟩ .nil)))
  (case T4=>k_is)
  (case T5=>rfl)
  (case T6=>rfl)
  (case T7=>exact (.cons ⟨_,rfl⟩ (.cons ⟨_,rfl⟩ .nil)))
  (case b_D=>k_is)
  (case r_D=>exact ⟨_,rfl⟩)
  (case b_F=>k_is)
  (case r_F=>exact ⟨_,rfl⟩)
  (case b_E=>k_is)
  (case r_E=>exact ⟨_,rfl⟩)
  (case b_B | l_B=>k_is)
  (case e_B=>rfl)
  (case f_B=>rfl)
  (case r_B=>exact (.cons ⟨_,rfl⟩ (.cons ⟨_,rfl⟩ (.cons ⟨_,rfl⟩ (.cons ⟨_,rfl⟩ (.cons ⟨_,rfl⟩ .nil))))))
  (case b_C=>k_is)
  (case r_C=>exact ⟨_,rfl⟩)
  (case zIS=>kernel_rfl)
  (case M4=>exactλd hd=>by cases d<;>first | (cases hd;done) | k_is | rfl)
  (case LZ=>exactλd hd=>by cases d<;>first | (cases hd;done) | k_is | rfl)
  (case M5=>exactλd hd=>by cases d<;>first | (cases hd;done) | k_is | rfl)
  (case kd_list=>exactλd hd=>by cases d<;>first | (cases hd;done) | k_is | rfl)
  (case K5=>exactλd hd=>by cases d<;>first | (cases hd;done) | k_is | rfl)
