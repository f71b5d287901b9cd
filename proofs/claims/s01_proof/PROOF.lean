import PyProof.Rows.All
import PySem.Challenge.RW_pricebook_s01_answers
import KE.BitLaws
import KE.IntTextLaws
import KE.KDictOf
import KE.KItemsList
import KE.KLam
import KE.KMinKey
import KE.KNestM
import KE.KSortTupG
import KE.OsGo
import Open.SpecLaws
import OpenK.AllK
import PyProof.EqAt
import PyProof.EqKinds
import PyProof.ExcAttrAll.Exception
import PyProof.ExcBaseAll.Exception
import PyProof.ExcInit
import PyProof.InstStoreFacts
import PyProof.ListRange
import PyProof.NsDelKeeps
import PyProof.P3In
import PyProof.TupleCall
import PyProof.WalkInts
import PyProof.ZipIter
import Wide.All
import Wide.FinOn
set_option linter.all false
set_option Elab.async false
set_option maxRecDepth 100000
set_option maxHeartbeats 1000000
set_option hygiene false
open Array renaming getElem?_eq_some_iff→Ju,length_toList→Uz,getElem?_toList→UA,toList→ai0,getElem?_eq_none→ajy,getElem?_eq_getElem→akc,size_push→akk,toArray_toList→aks
open BEq renaming rfl→CC
open Bool renaming true→ae,false→af,and_eq_true→aF,false_eq_true→dj,eq_iff_iff→gZ,false_ne_true→iN,true_and→kM,or_eq_true→kP,and_self→lI,false_and→nF,and_true→yX,eq_false_iff→yY,false_or→CI,not_true→Ip,not_eq_true'→Iw,and_false→SZ,true_or→aiJ,true_eq_false→aiL,and_eq_true_iff→akv
open Char renaming toNat→SG
open Classical renaming byContradiction→CJ
open Decidable renaming decide→ao
open Except.ok renaming injEq→qy
open False renaming elim→et
open ForInStep renaming yield→Ji
open Function renaming comp→jJ
open Int renaming ofNat_le→Ib,natCast_add→Ic,ofNat_zero→IB,ofNat→SH,ofNat_lt→SJ,toNat_natCast→Ux,ofNat_sub→aii,lt_irrefl→aiH
open LT renaming lt→uV
open LawfulBEq renaming eq_of_beq→gq
open List renaming length_map→aR,range→br,map_cons→bT,mem_cons→bX,mem_map→b0,length_cons→b7,all_eq_true→ck,map_map→cq,mem_append→cs,mem_of_getElem?→cG,length_append→cO,getElem?_eq_getElem→cQ,map_append→de,getElem?_eq_some_iff→dC,mem_singleton→dL,getElem?_map→dQ,not_mem_nil→dR,append_assoc→em,all_cons→e8,replicate→fH,getElem?_set_ne→gm,take_of_length_le→gI,length_nil→gL,length_range→gY,nodup_append→g8,drop_zero→g',getD_eq_getElem?_getD→hY,flatMap_cons→ir,append_nil→iu,map_congr_left→iL,mem_range→ja,foldr_cons→jH,take_succ→jK,length_set→jM,of_mem_zip→kb,mem_flatMap→kc,drop_succ_cons→kf,pairwise_cons→kO,getElem?_of_mem→kQ,mem_cons_of_mem→lF,getElem?_append_left→lK,length→mw,nodup_cons→mx,ext_getElem?→my,getElem?_eq_none→mz,length_zip→mD,drop_eq_getElem_cons→mG,foldl_cons→nE,take_length→nK,mem_filter→nN,getElem?_append_right→nT,any_cons→n3,length_take→o5,drop_of_length_le→o6,mem_append_right→pc,size_toArray→ph,lookup_cons→pi,mem_cons_self→qv,mem_iff_getElem→qD,getElem?_cons_zero→rL,flatMap_append→rN,filterMap_cons→rO,contains_iff_mem→rQ,any_map→rR,zip_cons_cons→rS,length_drop→rW,getElem?_set_self→rZ,filter_cons→ud,range_succ→ue,getElem_range→uf,length_eq_zero_iff→uh,mem_filterMap→uk,map_nil→uq,head?_cons→uu,lookup→uI,map_id→v6,getElem?_eq_none_iff→v7,getElem?_inj→v9,all_map→wa,nil_append→wc,foldl_append→yR,range_succ_eq_map→yU,flatMap_nil→yV,filter_append→yW,map_drop→yZ,drop_drop→y6,filter_eq_nil_iff→Cy,map_take→CA,getElem?_zip_eq_some→CD,any_eq_true→CF,take_append_of_le_length→CL,range'→CO,getElem?_replicate→C8,mem_iff_getElem?→Dq,toArray→Dr,mem_of_mem_take→Ii,cons_append→Ik,pairwise_map→Il,getElem?_take→Im,all_nil→Iu,contains_eq_any_beq→Iv,filter_map→Ix,getElem?_append→Iy,map→IA,head?_nil→IC,mem_or_eq_of_mem_set→ID,getElem?_cons_succ→IE,find?_cons→IH,mem_append_left→IQ,drop_length→Jo,getElem_map→JP,nodup_range→SO,map_set→SQ,zip_map_left→SR,getElem_mem→SS,length_filterMap_le→SU,foldl_map→SV,filter_congr→SW,length_filter_le→SX,any_eq_false→SY,flatMap_map→S0,map_flatMap→S4,length_pos_iff→S6,isEmpty_cons→S_,mem_of_mem_drop→Ta,set_comm→Tc,perm_append_comm→Td,filterMap_append→Te,perm_middle→Tf,contains_cons→Uc,filter→aif,isEmpty_nil→aig,sum_cons→aih,take_succ_cons→ail,getElem?_set→aip,filterMap_map→air,take_zero→ait,getElem?_range→aiu,pairwise_iff_getElem→aiw,pairwise_append→aiz,Nodup→aiA,map_eq_nil_iff→aiG,getLast?_eq_some_getLast→aiI,find?_nil→aiN,nodup_nil→aiO,length_singleton→aiP,mem_replicate→aiQ,countP_map→aiR,countP_congr→aiS,getElem_inj→aiW,getElem?_take_of_lt→aja,zip_nil_left→ajf,length_dropLast→ajm,eq_nil_of_length_eq_zero→ajP,getElem?_zipIdx→ajU,getElem?_mapIdx→ajW,getElem?_toArray→aj7,isEmpty_iff→aku
open List.Pairwise renaming nil→Ig,imp_of_mem→aqm
open List.Perm renaming append_left→y8,refl→SN,cons_inv→ajR
open List.cons renaming injEq→S9
open Max renaming max→fk
open Min renaming min→ek
open MonadExcept renaming tryCatch→uU
open Nat renaming le_trans→c9,ne_of_lt→di,le_refl→dz,zero_le→fU,ne_of_gt→gk,lt_of_lt_of_le→hc,zero_add→kN,mul_le_mul_right→mC,mul_comm→nG,lt_irrefl→qw,mul_le_mul_left→rJ,mul_le_mul→uj,le_of_eq→uQ,le_succ_of_le→v8,lt_succ_of_lt→wu,le_of_lt→yQ,succ_mul→yT,lt_trans→y4,toDigits→y5,div_add_mod→Cw,succ→CB,mul_add→Ih,div_le_of_le_mul→Ij,add_le_add_right→Iq,sub_self→JB,div_le_self→SI,add_assoc→SK,add_zero→SL,toList_repr→S8,le_of_succ_le→T2,add_sub_cancel_left→UB,mod_eq_of_lt→aij,add_comm→aik,mul_div_le→aim,le_of_mul_le_mul_right→ain,mul_pos→aio,mod_lt→aiq,sub_le→ais,lt_trichotomy→aiv,testBit_lt_two_pow→aix,pow_succ→aiy,pow_le_pow_right→aiB,min_def→aiC,add_le_add→aiD,lt_or_ge→aiE,le_antisymm→aiF,min_self→aiM,succ_ne_self→ajB,log2_lt→ajO,lt_succ_self→ajY,lt_of_succ_lt→aj9,sub_zero→akn
open Ne renaming symm→dt
open Option renaming some→aa,none→ag,map_some→g6,map_eq_some_iff→lG,getD_some→nJ,isSome_none→nQ,isSome_some→o8,map_none→qu,bind_some→ub,isSome_map→wd,toList_none→IF,toList_some→IG,map_eq_none_iff→aiK
open Option.some renaming injEq→cX,inj→uC
open Or renaming inl→e6,inr→kT
open Prod.mk renaming injEq→gQ
open Pure renaming pure→bx
open PyFlat renaming calls→we,rows→CT,told→IJ,played→IK,row→Tg,call→Ti
open PyProof.Rows renaming seqObj→d5,envOfC→k4,IntsAre→mI,arrOf→sr,AllBare→uB,IsTup→wj,callWith_type1→C0,slot_tuple_getitem→Jb,tail_any→Jc,kws_cons→JI,kws_nil→JJ,listUpdate_at→JM,callWith_kw→Ur,get?_update_seq→UC,SortedToK→UD,iadd_int→ai2,lt_int→ai3,slicePart_none→ajg,subscriptTail_builtinR→ajh,boot_enumerate→ajA,lexLt→akr,callWith_builtin1→aqM,sorted_ints→aqS,sortedAll_at→aqT,sortedAll_old→aqU,split_le→aqW,join_list→aqY,join_tuple→aqZ,evalArgs_kwB→aq3
open PyProof.Rows.G renaming tupKeyC→zx,tupKindC→JN
open PyProof.Rows.IsTup renaming new→TY
open PySem renaming Addr→ai,wpAny_bind→am,Value→aq,Str→au,Shared→aD,wpAny→aE,model→aK,eval→aM,starEach→bb,wpAny_pure→bg,Obj→bn,Heap→bP,Expr→bQ,sizeLine→bS,World→cz,Program→cP,Around→dc,backTo→dE,cLine→dM,compEnvC→dN,Pos→eo,attributeBase→eF,compareOp→eU,argBest→fb,Scope→fo,cellsFrom→fq,wpAny_field→fu,rawInt→fv,wpAny_mono→gR,call→gS,bootBuiltins→hl,Tok→iz,sysModules→iA,mainGlobals→iB,holding→iC,typeLookup→iO,Env→jf,pyNext→jg,codeAny→jh,backToKw→jl,keywordEach→jm,swapsWith→jP,mem_of_lookup→jQ,wpAny_holding→kh,Stmt→kY,sizeLine_eq→kZ,IsPair→k6,wpAny_seqItems→k7,wpAny_letGo→mK,wpAny_truthy_bool→nW,foldedSetIterable→nX,wpAny_Call_Name_kw→nY,Keyword→nZ,wpAny_setField_rec→n8,plainId_quiet→n9,builtinsNs→pa,standAt→pb,binaryOp→pd,wpAny_newObj_type→pf,DictEntry→pj,codeAny_builtin→pp,pushCells→qC,wpAny_tryCatch→qE,wpAny_updateSeq→qF,behindInMarks→r_,PassesOwn→sd,wpAny_pyIter_list→sf,bindL→si,wpAny_call_entry→sm,Arguments→so,isTrue→uD,assign→uE,assignEach→uF,setItem→uG,recursionLimit→uJ,FuncData→uK,bindC→uL,IsPart→uN,wpAny_callSpecial?_slot→uO,atKey→uR,IsZip→uS,wpAny_loadPart_at→uT,Paired→wg,wpAny_standAt→wm,getItem→wo,wpAny_passesOwn→wp,codeAny_mono→wq,PyData→wt,notedBy→wv,compPost→ww,wpAny_rule→wz,seqItems?→wB,tupleKind→zb,release→zd,pyIter→ze,getMethod→zf,setAttr→zg,callWith→zh,Result→zi,Meets→zk,call_meets→zn,NameKind→zp,valueAt→zq,wpAny_setField→zt,wpAny_attempt→zv,updateSeq→zw,wpAny_Name→CY,wpAny_execs_nil→CZ,getAttr→C2,wpAny_call→C6,sliceBounds→C9,typeIs_str→C_,typeOf→C',evalArgs_none→Da,closureFor→Db,pushCells_keeps→Dc,tupleKind_room_in1→Dd,IsEnum→Df,wpAny_typeLookup_exc→Di,field→Dl,wpAny_of_eq→Dm,Within→IN,wpAny_loadName_local→IR,wpAny_Constant_int→IS,truthy→IT,wpAny_execs_cons→IU,swapsWithSole→IV,swappedStores→IW,augStore→IX,BindsTo→I_,bindArgs→Ja,seqIndex_of→Jd,seqIndex_neg→Je,cellOf→Jh,wpAny_Call_method→Jj,wpAny_pyIter_enum→Jl,ZipApart→Jm,wpAny_pyIter_zip→Jn,frameOf→Js,noteFrame→Jt,codeAny_call_builtin→Jw,wpAny_isSubtype_exc→Jx,checkBuiltinCall→Jy,wpAny_onRaise→JE,wpAny_newTuple→JF,argsOk→JH,wpAny_typeNameOfWhole_itemiter→JK,storeName→Tq,inplaceOp→Tr,letOwnedTupleGo→Tt,wpAny_load→Tu,lastMarks→Tv,richCompare→TK,concat_meets→TM,noFill_tuple_add→TN,seq_tuple_add→TQ,call_meetsIn→T3,strValues→T6,setField→T9,setFlight→T',StoreFacts→Ub,ExceptHandler→Ud,wpAny_throw→Ue,handedOut→Ug,wpAny_nextOf_list_item→Ui,wpAny_updateSeq_pair→Uj,wpAny_nextOf_list_end→Uk,wpAny_isInstance→Ul,isSubtype_stop→Um,wpAny_dictEntries→Uv,wpAny_dictEpoch→Uw,wpAny_isOneOf_itemiter→Uy,typeLookup_type→UE,builtinLookup_eq_fast→UF,wpAny_loadName_cell→aiX,wpAny_isTrue_Compare1→aiZ,wpAny_assign_Name→ai1,wpAny_lookBehind→ai6,pastItsLine_dict→ai7,plainObj_wpAny_Assign_Attribute→ai9,codeAny_call_function→ajb,wpAny_newFunctionEnv_cells→ajd,slot_list_getitem→aji,wpAny_getItem_list_neg→ajj,newFunctionEnv→ajp,wpAny_comprehension_free→ajq,codeAny_compStart_list→ajr,wpAny_getItem_of→ajt,wpAny_notIn_of→aju,wpAny_Dict_empty→ajv,wpAny_letOwnedTupleGo_enum→ajz,wpAny_letOwnedTupleGo_zip→ajC,wpAny_handleBy_cons→ajM,codeAny_handlers_test→ajN,methodCallForm→ajT,wpAny_pyIter_tuple→ajV,firstArgMember→aj2,wpAny_fieldsOf→akb,method_meetsIn→akg
open PySem.Around renaming under_plainId→sq,frames_deeper→ai'
open PySem.Builtin renaming sorted→aq6
open PySem.Builtin.Builtins renaming bindParams→Up
open PySem.Builtin.Dict renaming showsAll→aq4
open PySem.Builtin.Dict_items renaming pairFromOwner→Ut,ownsTuple→Uu,ownedTupleFields→ake
open PySem.Builtin.List renaming listTooLong→TZ,listExtendWith→akm,listSameRef→ako,listUpdate→aq5
open PySem.Builtin.ObjectAttr renaming inDict→aq1
open PySem.Builtin.Range renaming rangeSize→aqo
open PySem.Builtin.Slice renaming sliceAdjust→TW,slicePlaces→TX,slicePartIndex→aqO,sliceApplied→aqP
open PySem.Builtin.SmallTypes renaming nextOf→ajZ
open PySem.Builtin.Str renaming strKind→pk,occurrences→Dg,partsBetween→aqX
open PySem.Builtin.Tuple renaming tupleCompareSizes→aqN,tupleItemsOf→aqQ
open PySem.Calls renaming callWith_builtin→zl,spliced_cons→C5,spliced_nil→I0,evalArgs_plain→Jf,Name_function_global→aiY
open PySem.Challenge renaming rw_pricebook_s01_answers→aq7
open PySem.EntryCells renaming newEntry→ajH
open PySem.EqMixed renaming eq_bool_str→aqu,eq_int_str→aqw,eq_str_bool→aqy,eq_str_int→aqz,ne_bool_str→aqF,ne_int_str→aqH,ne_str_bool→aqJ,ne_str_int→aqK
open PySem.EqNone renaming eq_none_none→aqp,eq_none_bool→aqq,eq_none_int→aqr,eq_none_str→aqs,eq_bool_none→aqt,eq_int_none→aqv,eq_str_none→aqx,ne_none_none→aqA,ne_none_bool→aqB,ne_none_int→aqC,ne_none_str→aqD,ne_bool_none→aqE,ne_int_none→aqG,ne_str_none→aqI
open PySem.F renaming plain_max_loop→wA,plain_min_loop→wC,slot_dict_get→De,slot_dict_itemiterator_next→Dn,plain_extend_loop→Do,plainAttrs_dict→Jk,slot_str_split→Jq,plainAttrs_list→JC,slot_tuple_iterator_next→JD,slot_zip_next→JG,slot_dict_items→JL,slot_tuple_add→TR,entry_tuple_add→TU,args_tuple_add_2→TV,slot_list_append→T1,entry_dict_get→T4,entry_str_split→T7,args_str_split_2→T8,attrBase_Exception→Uf,entry_max_loop→Uo,entry_min_loop→Uq,called_enumerate→Us,slot_list_extend→ajk,slot_list_pop→ajl,args_dict_get_3→ajw,type_dict_get→ajx,plainAttrs_str→ajG,excBase_Exception→ajJ,store_Exception→ajL,slot_dict_getitem→ajQ,type_list_append→ajX,entry_tuple_iterator_next→aj0,args_tuple_iterator_next_1→aj1,entry_zip_next→aj4,args_zip_next_1→aj5,slot_enumerate_next→aj8,entry_dict_itemiterator_next→aj',args_dict_itemiterator_next_1→aka,slot_dict_items_iter→akd,type_dict_items→akf,entry_dict_items→akh,args_dict_items_1→aki,entry_extend_loop→akj,plain_list_iadd→akp
open PySem.Heap renaming get?_push_of_some→bA,lt_size→bF,get?_push_size→cZ,size_push→gp,get?_update_other→h8,get?_update_self→mJ,SameBut→wk,get?_none_of_le→IP,ExtBut→Uh,get?_update_ne→ajK,size_update→akl
open PySem.Heap.DictOf renaming new→aqV
open PySem.Heap.IsSliceOf renaming new→aqR
open PySem.Heap.IsTuple renaming push→aq2
open PySem.Heap.Ns1 renaming of_empty→ai8
open PySem.Heap.SameBut renaming update→zu
open PySem.NameKind renaming free→ajo
open PySem.NumText renaming digitsVal→ajS
open PySem.Obj renaming mapSeq→lL,data_mapFields→Dh,mapFields→Jr,isFreed_of_fields→T_,cls_mapFields→ajI
open PySem.Paired renaming length→IM,nil→ajn,snoc→ajs
open PySem.PyData renaming eqv→uP,depthAll→wy,canLayAll0→Dk,canLay0→Jz,depth→JA
open PySem.SeqAt renaming shaped→zo,EqAt→TJ
open PySem.SeqAt.EqAt renaming int_str→aiU,str_int→aiV,int_int→aje
open PySem.Shared renaming heap→aj3,TypeIs→aj_
open PySem.Str renaming ofString→iP,join→T5
open PySem.Txt renaming split→zr,join→Jp,isdigit→ajD,isalpha→ajE,isalnum→ajF
open PySem.Value renaming ref→da,int→o_,none→qB,bool→r9,type→uA,str→CW,builtin→Dj,isInt→Tl,isStrOf→Tn,bytes→To,float→Tp
open PySem.W renaming Frag→aQ,nsIn→gu,keepIn→ji,findIn→mH,codeIn→sj,isFn→uH,kla_obj→uW,instObj→zc,fnOf→zj,mg_of→zy,plainGet→C1,emptyDict→C4,callWith_K→C7,codeHdIn→Ds,lookIn→IY,hasDictIn→IZ,nsOkIn→Jv,tabObj→JO,plainGet_of→Tw,plainOver→Tx,takerIn→Tz,makesIn→TD,methodCall_KW→TF,callWith_K0→TH,isNs_of_in→Ua,handedIn→ai4,cellsFrom_some→ai_,codeRec_of→ajc,ktu_apart→aj6,CodeHd→akq,codeHd_of_K→akt
open PySem.W.Codec renaming encList→aq8,inNat_iff→aq9
open PySem.W.KIN renaming call_text→aq0
open PySem.W.Looks renaming here→aqL
open PySem.W.WData renaming int→JQ
open PySem.Walks renaming list→Jg
open PySem.Within renaming cons→ai5
open PyVbmoad renaming shape→fa,answers_asked→IL,whole→Th,answers→Tk
open Sum renaming inl→CU,inr→CV
open ToString renaming toString→kK
open Vbmoad renaming asc→ay,sumOf→aH,bind_→aZ,Book→a7,numberText→bJ,number→bN,Words→bO,inRange→b3,int→b_,taxAt→cj,isKey→cn,oldName→cu,nats→cy,itemAt→cC,Text→cK,sortedIn→cY,namesOf→c_,itemNames→df,MONEY→dy,step→dD,linesOf→dJ,isName→dS,Item→dY,couponNames→d0,taxNames→d3,COUNT→el,bundleNames→en,Got→eT,countAt→e7,leastFor→e9,TOP→e_,isDigit→fm,addGroup→fJ,indexOf→fK,setOf→fT,floors→gj,taxesOf→gJ,mayGo→gK,members→gM,isLetter→gN,itemName→gO,bareOf→g7,groupsOf→g9,rowsUpTo→g_,newName→hZ,Head→h7,Bundle→io,shares→iq,grossOf→iv,itemLines→iw,headLine→iy,couponName→iM,isFree→i_,rounded→jb,heldTax→jc,roundWords→jd,wordsFrom→je,paidPieces→jG,cashOf→jI,isBasket→jL,blank→jO,Coupon→j_,room→ke,costOf→kL,remainder→kR,Line→kU,itemNumbers→kW,inRates→kX,isText→lH,key→lJ,usedOf→mB,billOf→mE,numberOf→mF,roundingOf→nH,amounts→nM,wayOf→nO,taxWords→nP,linesFrom→nR,onBook→nU,Rounding→o0,allApart→o4,headLines→o7,stepNumbers→o9,stepPrice→qo,taxTotals→qp,USES→qr,couponWords→qt,roundingIn→qx,isHead→qz,firstUnlike→qA,volumePrice→rK,bundleLines→rM,discounted→rP,dueOf→rT,onTop→rV,pick→rX,bookLines→rY,lastFrom→r8,Scale→uc,couponAt→ui,touches→uo,waysOf→up,billLines→ur,KEYS→ut,taxList→uw,readFrom→ux,«ints»→uy,paidOf→v_,taxName→wb,before→yS,rising→y3,SCALES→y9,lineOf→y_,headFrom→y',roundTo→Cz,bestOf→CG,couponRest→CK,partList→CM,State→CP,onItem→CQ,cheapest→Ie,topTotal→Io,priceOf→Iz,readBook→II,pieceRow→SM,lineText→S7
open Vbmoad.isHead renaming isKeyWord→CN
open VbmoadNeutral renaming asked1→CS,step→Tj,row→aiT,asked→aqn
def Y:=@rfl
def aw:=@if_neg
def aJ:=@if_pos
def bz:=@of_decide_eq_true
def bI:=@if_true
def b8:=@if_false
def dZ:=@decide_eq_true_eq
def d4:=@or_false
def ip:=@beq_iff_eq
def iK:=@decide_true
def jN:=@congrArg
def ka:=@decide_false
def nV:=@decide_eq_false
def ug:=@not_or
def uv:=@beq_eq_false_iff_ne
def uz:=@beq_self_eq_true
def uM:=@decide_eq_true
def wx:=@beq_false_of_ne
def zm:=@trivial
def CH:=@and_true
abbrev Q0:=∀{k:Lean.SyntaxNodeKinds},Lean.TSyntax k
abbrev M0:=Array Lean.Syntax→Lean.MacroM Lean.Syntax
abbrev L0:=List (Lean.Name×M0)
def Z0(α:Type):=Lean.Syntax→α
instance:Monad Z0:={pure:=λx _=>x,bind:=λx f r=>f (x r) r}
instance:Lean.MonadQuotation Z0:={getRef:=λr=>r,withRef:=λ_ x=>x,getCurrMacroScope:=λ_=>0,getContext:=λ_=>`x,withFreshMacroScope:=λx=>x}
def f_0(f:Z0 Lean.Term):M0:=λx=>do return (f (←Lean.getRef)).raw
def f_1(f:Q0→Z0 Lean.Term):M0:=λx=>do return (f ⟨x[0]!⟩ (←Lean.getRef)).raw
def f_2(f:Q0→Q0→Z0 Lean.Term):M0:=λx=>do return (f ⟨x[0]!⟩ ⟨x[1]!⟩ (←Lean.getRef)).raw
def f_3(f:Q0→Q0→Q0→Z0 Lean.Term):M0:=λx=>do return (f ⟨x[0]!⟩ ⟨x[1]!⟩ ⟨x[2]!⟩ (←Lean.getRef)).raw
def f_4(f:Q0→Q0→Q0→Q0→Z0 Lean.Term):M0:=λx=>do return (f ⟨x[0]!⟩ ⟨x[1]!⟩ ⟨x[2]!⟩ ⟨x[3]!⟩ (←Lean.getRef)).raw
def f_5(f:Q0→Q0→Q0→Q0→Q0→Z0 Lean.Term):M0:=λx=>do return (f ⟨x[0]!⟩ ⟨x[1]!⟩ ⟨x[2]!⟩ ⟨x[3]!⟩ ⟨x[4]!⟩ (←Lean.getRef)).raw
def f_6(f:Q0→Q0→Q0→Q0→Q0→Q0→Z0 Lean.Term):M0:=λx=>do return (f ⟨x[0]!⟩ ⟨x[1]!⟩ ⟨x[2]!⟩ ⟨x[3]!⟩ ⟨x[4]!⟩ ⟨x[5]!⟩ (←Lean.getRef)).raw
def f_7(f:Q0→Q0→Q0→Q0→Q0→Q0→Q0→Z0 Lean.Term):M0:=λx=>do return (f ⟨x[0]!⟩ ⟨x[1]!⟩ ⟨x[2]!⟩ ⟨x[3]!⟩ ⟨x[4]!⟩ ⟨x[5]!⟩ ⟨x[6]!⟩ (←Lean.getRef)).raw
def f_8(f:Q0→Q0→Q0→Q0→Q0→Q0→Q0→Q0→Z0 Lean.Term):M0:=λx=>do return (f ⟨x[0]!⟩ ⟨x[1]!⟩ ⟨x[2]!⟩ ⟨x[3]!⟩ ⟨x[4]!⟩ ⟨x[5]!⟩ ⟨x[6]!⟩ ⟨x[7]!⟩ (←Lean.getRef)).raw
def f_9(f:Q0→Q0→Q0→Q0→Q0→Q0→Q0→Q0→Q0→Z0 Lean.Term):M0:=λx=>do return (f ⟨x[0]!⟩ ⟨x[1]!⟩ ⟨x[2]!⟩ ⟨x[3]!⟩ ⟨x[4]!⟩ ⟨x[5]!⟩ ⟨x[6]!⟩ ⟨x[7]!⟩ ⟨x[8]!⟩ (←Lean.getRef)).raw
def T_0:L0:=[(`A,f_3 λa b c=>`(if$a then$b else$c)),
(`A',f_0 `(λi h st b J=>by have e:=[aD,J];rw[ag,o,e,c,d,st];grind)),
(`A0,f_0 `((show False by(have:[oB]=Ir.bad:=[Y,Ir.dh,q]);rw[ae,this,h,h]).elim)),
(`A1,f_1 λa=>`([zE,$a,[bm,[bw,[da,[g9]]]],[ay,g.2],[bm,[cf,F]],Z])),
(`A2,f_1 λa=>`([Eb,$a,x,[CC,#[i,j,Y,Y,[dO,c,h,[eO]]]]])),
(`A3,f_2 λa b=>`([kW,xa $a x.pe J.pe,z,[CC,#[i,j,Y,Y,$b,[vg,h.ite.2]]]])),
(`A4,f_0 `([aF,[gO b [L],bJ [Z]]])),
(`A5,f_1 λa=>`(∀d r F H S v Q,[Lv,[hd,X.K,Ir.dk o d S,j,C,$a]])),
(`A6,f_1 λa=>`(λσ H Q=>∃env O S r F,[bB]/\[iJ]/\$a)),
(`A7,f_4 λa b c d=>`(IU (G_ $a L [Ea] [Ea] [q,p,$b] g0 $c ($d) ([af]) (x.FN _ (by simp))))),
(`A8,f_0 `(cut l [mT,lo.map (clip [E])] [D0,clip [E]])),
(`A9,f_2 λa b=>`([v8,$a,[[lH],$b,bJ ($a)]])),
(`AA,f_1 λa=>`(al.pure c a v $a)),
(`AB,f_1 λa=>`([rY,t,iG b $a t])),
(`AC,f_0 `(.proj _ _)),
(`AD,f_0 `([aR,r,n,a])),
(`AF,f_2 λa b=>`(vJ b ($a) I h λd r F H S v Q c hd g=>by cases d with|lst l=>rw[bR,p,B,rfl,m,q];rw[K,ns,e,g,al.iQ [wY]];rw[ae,$b:term,m,#[p,ns,Y,[cL,m],[qP]]]|_=>rw[aL])),
(`AG,f_2 λa b=>`(λb J=>#[[cQ,$(a).2],[ak,$b],[pl,$b],[aE,[eQ,$a]]])),
(`AH,f_2 λa b=>`([hR,[i7,$a,.fields $b]])),
(`AI,f_7 λa b c d e f g=>`(∀$a:ident tk N c,([di,$b,$c])->$d=aa (yy N c)->([CV,[fx],$e +1])->(∀j P,es[j]?=aa P->$f=aa (xN P))->$g)),
(`AJ,f_4 λa b c d=>`([cZ,$a,.error e,∃p,$b=[f9,e.1,e.2,[cM,p]],[fX],[dY]=[fi,[ak,x]]/\$b=[lO,[d7,[dm,a,[dv,$c,$d]],[ak,x]]]])),
(`AK,f_5 λa b c d e=>`(bD r1 F1 H1 r F $a/\[pp,F,$a]/\A∉r/\F A=ag/\$b=[ls,B]/\[fr,$c,B]/\$d<=$e/\(do let l←[uq,ds.drop $e];[b1,[ih,$c ++l]]) S=X)),
(`AL,f_0 `(b≠X.env.locals/\[ur,b]/\[x9,b])),
(`AM,f_4 λa b c d=>`(BO hr hw [ay $a,ay $b] (by intro c O;rw[cf,O];rw[d_,O,rfl,rfl,[BS],[BS]]) $c (k+$d))),
(`AN,f_0 `([K,[97,98,99,100,101,102,103,104,105,106,107,108,109,110,111,112,113,114,115,116,117,118,119,120,121,122]])),
(`AO,f_1 λa=>`(X.fn $a=ae\/[jW,$a]=aa .local)),
(`AP,f_4 λa b c d=>`([a3,[nB,dE $a $b,λx=>! [S]]&&[nB,jl $a (jm [] $c),λx=>[es,[S]]]&&ao ([Q,$d]+[Q,([]:List nZ)]+[A,[tA,([]:List nZ)],0,1]<30)])),
(`AQ,f_0 `(["enumerate","zip","dict_itemiterator","dict_reverseitemiterator","odict_iterator","itertools.zip_longest","itertools.pairwise"])),
(`AR,f_0 `([mL,Ir.M.bind (fW Z I t ej [pZ] d) λy=>Ir.M.bind (Ir.eJ _ [sU]) λys=>[gg],S2])),
(`AS,f_0 `([q,hH hrn,I.pr])),
(`AT,f_0 `([aF,ao (J=[nn])])),
(`AU,f_0 `([ay "item",x.name,bJ [ea]]++[wf,wb b])),
(`AW,f_0 `([[fC,[qB,[hP]]],[zS,[a6],[av]],.d_ 4 [a6]])),
(`AX,f_0 `([cp,cp G S k [Z],x,([L],x)])),
(`AY,f_0 `(.Call [dx] [e] [#[aa "default",.Constant [iZ] j f,kp]] pos)),
(`AZ,f_0 `([[hD],.int 0 0])),
(`A_,f_3 λa b c=>`(aa {cls:=[m,$a],dict:=$b,data:=.fields [ff,[[m,$c],[a0],[a0],[a0],[mR],[a0]]]})),
(`Aa,f_0 `(j _ J.2)),
(`Ab,f_0 `([X,[mu,eh]])),
(`Ac,f_0 `(#[_,Y,?_]))]
def T_1:L0:=[(`Ad,f_0 `(g<=10000000)),
(`Ae,f_0 `(I.ie x c e)),
(`Af,f_0 `([X,[kj,pD]])),
(`Ag,f_2 λa b=>`(ao ($a<=c)&&ao (c<=$b))),
(`Ah,f_2 λa b=>`(∀G,[aR,[cM,G],$a,$b])),
(`Ai,f_2 λa b=>`(run prog _ $a $b [gm]=_)),
(`Aj,f_0 `(G b o e L)),
(`Ak,f_0 `([cw,O i,ob])),
(`Al,f_0 `(l.toList[i])),
(`Am,f_0 `([eE,o,name])),
(`An,f_0 `(λa h=>?_)),
(`Ao,f_2 λa b=>`(BS $a (λ_ _=>$b) [bL])),
(`Ap,f_2 λa b=>`([me,[bX,$a],.ee 2 $b])),
(`Aq,f_1 λa=>`(.aW 4 (ei $a))),
(`Ar,f_1 λa=>`([t3,E,$a])),
(`As,f_0 `([aJ,JE ?_])),
(`At,f_0 `([dS,jg [gS]])),
(`Au,f_0 `(b6 σ [k6])),
(`Av,f_0 `(Gl X "range")),
(`Aw,f_0 `([k0,[hg,[]]])),
(`Ax,f_0 `(Q () [cv,h'])),
(`Ay,f_0 `([lz,1,[go]])),
(`Az,f_0 `(#[[g],[g]])),
(`B',f_1 λa=>`([A,[bW]+b.length<=lim,[ci,$a],bad])),
(`B0,f_2 λa b=>`(λi=>[v8,$a,F $b $a])),
(`B1,f_0 `(.ex (.lh [c1] [[aK],[V],[a6]]))),
(`B2,f_2 λa b=>`(($a=[]/\$b=[])\/∃s,$a=[[db]]/\$b=[[K,[g7]]])),
(`B3,f_4 λa b c d=>`(oK $a $b $c $d _ _ _ 0 _ [g] [g] (by simp) (by simp) [g])),
(`B4,f_0 `(GY I hr hra (line:=line) hw k 1)),
(`B5,f_1 λa=>`([aT,Ir.Slot.val]++fH $a Ir.Slot.un)),
(`B6,f_1 λa=>`([mn,[dP]]++([hc].take $a).flatMap f)),
(`B7,f_0 `([d7,S1.set A.aB [ax,d],[i3]])),
(`B8,f_0 `([ei,[l,e.1],[ak,e],[aE,e]])),
(`B9,f_0 `(∃sl,[md,{o with slots:=sl}])),
(`BA,f_0 `(I.laid [Fe] (by simp) ?_)),
(`BB,f_1 λa=>`(λσ H Q#[env,O,S,r,F,$a,G,c,P,h]p n=>?_)),
(`BC,f_0 `(aa (.fL [ff,[fv T.tl,fv T.tc,[l2]]]))),
(`BD,f_0 `([fC,.new 13 [(.av [V] 31),[av]]])),
(`BE,f_3 λa b c=>`(.Assign [.Attribute (.Name $a _) $b _] (.Name $c _) _)),
(`BF,f_0 `(cM (cp G S k) l))]
def T_2:L0:=[(`BG,f_0 `([d7,S1.set A.aI [dv,[rF],[mf]],[fD]])),
(`BH,f_0 `((tx [cI]==[48])||!([[c5]]==[48]))),
(`BI,f_0 `(.lD [ib] [g3])),
(`BJ,f_0 `(λs H C z l=>vc hN L [H,U] [aC,U])),
(`BK,f_0 `(λc v O q=>k c v ?_ q)),
(`BL,f_1 λa=>`(λb o _ _ O e _=>#[o.slots,k b o $a e])),
(`BM,f_0 `(Dj "BaseException.__getattribute__")),
(`BN,f_0 `(if _ then _ else _)),
(`BO,f_0 `(λx L=>aO x (by rw[e];simp[L]))),
(`BQ,f_0 `([[b8],[hK],[X,[ju]],[X,[f5,nD]]])),
(`BR,f_4 λa b c d=>`(oK $a $b $c $d _ _ 30 0 _ [g] [g] (by simp) (by simp) [g])),
(`BS,f_0 `(#[(hO ([af])).2,[af]])),
(`BT,f_0 `(o4 b a&&a.all λi=>wh b [ge] i)),
(`BU,f_1 λa=>`(∀d x v,f d=aa x->([cN])->aG T K $a Q x v)),
(`BV,f_0 `([en,[s'],"items",yC,[],kJ])),
(`BW,f_1 λa=>`(.Dict [aa (.Tuple [] $a A)] [[dx]] pos)),
(`BX,f_0 `(tf b ts a [aa]=[jk])),
(`BY,f_0 `(λc=>a9 (qt b c))),
(`BZ,f_0 `(#[Y,[af],Y,[bL],[g],[g]])),
(`B_,f_5 λa b c d e=>`(#[[a5,jM,jM,$a:term],λj s x$b:ident$c:ident=>?_,λj k C$d:ident$b:ident$c:ident$e:ident=>?_])),
(`Ba,f_0 `([Q,[mE]]==[cu]&&[hV,[mE],n,[q5,qr]])),
(`Bb,f_0 `([mu,[DR]]++[jP,[C6]])),
(`Bd,f_0 `([p0,"enumerate",[[a0],[mR],[fs],fv 1,[a0],[a0]]])),
(`Be,f_1 λa=>`($a∈X.ex\/X.eA.heap.objs.size<=$a)),
(`Bf,f_3 λa b c=>`([jU,λ$a:ident$b:ident J L#[j,I,z,m]u B q=>#[by rw[q.length,<-lP];grind,λp n=>$c]])),
(`Bg,f_0 `(.app [a8,20] (.lS 3 [[V],[ai],[av],[a6],[c1],[fT]]))),
(`Bh,f_0 `([.ee 2 [ax,[[qY,18,[ai]],[Eg]]]])),
(`Bi,f_0 `([iP,iE f v _=[A,k=f,(k,v)::r,(k,x)::iE f v r]])),
(`Bj,f_2 λa b=>`(Q (.int ($a) s.toks) [tK,s,s.toks+1]->aE [c6] X.A ($b) Q E s)),
(`Bk,f_2 λa b=>`((b.bundles++[$a]).zip (A.bs++[aa $b]))),
(`Bl,f_6 λa b c d e f=>`(R.bd (bj [gd,5] $a [[c8,A.nb],[c8,r],[bm,sD [S]],[bm,[wM,$b]],[ay,$c],$d,$e,$f] [cM,G]) oW)),
(`Bm,f_0 `([AH,"range",[ff,[J4]]])),
(`Bn,f_4 λa b c d=>`(λB H Q=>∃(a:ai)($a:ident :$b),B=[V.ref a]/\[lT,$c]/\$d)),
(`Bo,f_4 λa b c d=>`(match$a:term with|$b=>$c|[iX,$d]=>[iX,$d]|[aX]=>[aX])),
(`Bp,f_2 λa b=>`(wK [jo,6,$a,[dd,[m,n0],[bA]],1] n0 P [ad] r line ws ht $b)),
(`Bq,f_0 `([aF,[d6,[Z].cls,[bT,n],!(n=="list"),ae]])),
(`Br,f_0 `([nB,ay s,λc=>[Ag,97,122]])),
(`Bs,f_2 λa b=>`([i6,[.ex [fJ,50,[aS,$a]],.put [lM] [aS,$a] $b]])),
(`Bt,f_0 `([K,[48,49,50,51,52,53,54,55,56,57]])),
(`Bu,f_1 λa=>`(@uV Nat _ t $a/\@uV Nat _ $a (t+1+gG.length)))]
def T_3:L0:=[(`Bv,f_0 `(S.aO.fresh (by simp))),
(`Bw,f_0 `([[g5],q,[c8,G],j,I,[c8,r],[bm,[pz]]])),
(`By,f_0 `([cE,6,.ix (.g 22) (.bG 13 [a6] 29 [])])),
(`Bz,f_5 λa b c d e=>`(FE $a $b $c W B J (λs h=>by unfold$d:ident;rw[FK,Et h $e]) λd=>[bz,d])),
(`C',f_1 λa=>`(IV $a e pos.line X.env=bx af)),
(`C0,f_2 λa b=>`(cp G S [ao] $a=[R,cM [aF,[AX]] l,$b])),
(`C1,f_3 λa b c=>`(#[[q,$a,q.it],[q,$b,q.vo],[q,$c,q.st]])),
(`C2,f_0 `((kK n).toList=y5 _ n)),
(`C3,f_3 λa b c=>`(.Subscript a (.Slice $a $b ag $c) pos)),
(`C4,f_1 λa=>`([hF,st,py [t3,$a,e] (lg i)])),
(`C5,f_0 `(.UnaryOp .Not a pos)),
(`C6,f_0 `(b.items.flatMap (iw b))),
(`C7,f_1 λa=>`(sI P w K mg base $a outer s H)),
(`C8,f_2 λa b=>`([aq,[en,e,$a,S,[],pos],.b1 $b a])),
(`C9,f_0 `([cy,[ld,a],Z b o z e])),
(`CA,f_0 `([et,.dK e]/\[hk]/\[lm,e])),
(`CB,f_0 `([p0,"dict_items",[[m,d]]])),
(`CC,f_1 λa=>`(sK [bL] (λi j r F H S Q c h=>$a) z)),
(`CD,f_0 `(.ex (.bG 13 [a6] 34 []))),
(`CE,f_0 `([.app [av] [fJ,46,[av]]])),
(`CF,f_0 `(Uu "dict_itemiterator"=ae)),
(`CG,f_0 `(λn c=>10*n+(c-48))),
(`CH,f_0 `([5,6,7,8,10,11,12])),
(`CI,f_4 λa b c d=>`([[eg,$a,[am]],[eg,$b,[V]],[eg,$c,$d]])),
(`CJ,f_0 `(I.base.free b o e n L)),
(`CK,f_3 λa b c=>`([Fy,$a,m,apos,$b,X.env,$c,apos.atName,pl])),
(`CL,f_7 λa b c d e f g=>`(∃$a:ident j d$b:ident,$c=[lO,[d7,$a,$d]]/\ak $a j $e d $b n0 P/\r<$f/\r∉j.all/\j.nb=$g)),
(`CM,f_0 `([ln]<=bS/\[wN,kvs,P,w])),
(`CN,f_2 λa b=>`(xW G (xV (vm T X.K Z E $a) $b) σ H Q)),
(`CO,f_4 λa b c d=>`(dH [lg,[ei,[bA],$a,$b]] _ line _ _ (bN $a $c $d _))),
(`CP,f_0 `(∀f,hE [lt,f] (mA f))),
(`CQ,f_0 `([di,[r5]=aa o,b≠[gE]])),
(`CR,f_2 λa b=>`(∀{l}{B}{ns},([cg])->$a=aa ns->B=$b)),
(`CS,f_6 λa b c d e f=>`(C7 I.ok.mod.tF $a [eU,$b,us,$c,B,$d,S,r,$e,#[S.dW,?_]] $f N)),
(`CT,f_2 λa b=>`(λy r2 F2 H2#[S2,$a,$b,u]C hu=>?_)),
(`CU,f_0 `([.ee 1 [eo,114,[V]]])),
(`CV,f_2 λa b=>`(N.toList=[R,br $a,λj=>da ($b +j)])),
(`CW,f_1 λa=>`(λT=>by rw[sD,$a:term,hd];rfl)),
(`CX,f_0 `([et,[ax,B]]/\[hk]/\[cg])),
(`CY,f_0 `(f _ _ q (a _ _ q [r0])))]
def T_4:L0:=[(`CZ,f_0 `([pI,[ig]]=[FD,a,[b]])),
(`C_,f_0 `(λi=>bs.getD i af)),
(`Ca,f_2 λa b=>`(bj (cf (k+6)) mo [qb,[oY],$a,$b,Z] S)),
(`Cb,f_0 `(∀σ H Q,t' σ H Q->t σ H Q)),
(`Cc,f_1 λa=>`(jZ 3 ((i6 3 i).take $a))),
(`Cd,f_2 λa b=>`(l.Pairwise $a->$(b).Pairwise $a)),
(`Ce,f_0 `([AG,[M,f3 b J],[M,f3 b J]])),
(`Cf,f_1 λa=>`(#[[b3],Y,m,u,xc,ns,tl,Y,z _ $a])),
(`Cg,f_1 λa=>`(λxs H Q=>∃p ys,xs=[[dq]]/\$a)),
(`Ch,f_0 `([ay "line",gO b [S],bJ [bG]])),
(`Ci,f_0 `([k7].taxes.any λt=>[my])),
(`Cj,f_0 `(["self","line","place","why"])),
(`Ck,f_4 λa b c d=>`(∀a o,$a=[a']->$b=[a']\/$c=ag\/∃B,o=[bw,B]/\$d)),
(`Cl,f_0 `(gl (gJ b [g9] g.2) (t+1))),
(`Cm,f_0 `(s.2.2 _ q _ (by simp))),
(`Cn,f_2 λa b=>`(Ul (T:="StopIteration") (b:=ae) $a $b ?_)),
(`Co,f_2 λa b=>`(λz=>by have:=$a;rw[gH,z,$b:term,this])),
(`Cp,f_2 λa b=>`(λs H C z l=>DL (X:=$a) L [H,U] hd $b)),
(`Cq,f_0 `(s.heap.IsSliceOf sl z N [a0])),
(`Cr,f_0 `(_p ["desk","numbers","rows"])),
(`Cs,f_1 λa=>`(ww [c6] X.A X.xe oZ Qf [kT] $a)),
(`Ct,f_0 `(B.toArray.zip vs.toArray)),
(`Cu,f_2 λa b=>`(λσ H Q#[env,$a,S,r,F,c,P,$b]=>?_)),
(`Cv,f_0 `(Ts b [L]/\cY [cD] [L]=[L])),
(`Cw,f_1 λa=>`(∀y,$a=.ok y->cW b [b7] (O+1))),
(`Cx,f_1 λa=>`([R,br [cD],iG b ([h6].take $a)])),
(`Cy,f_0 `(λi=>[A9,e7 c i,gO b i])),
(`Cz,f_0 `((S.length,[ad]+1,[ad]+2))),
(`D',f_0 `(G _ (by simp))),
(`D0,f_1 λa=>`((q.map $a).getD [E])),
(`D1,f_1 λa=>`(λy=>[fc,y,nm,v,$a])),
(`D2,f_0 `(tY ([ba,oB]))),
(`D3,f_0 `(b0.mpr #[g,a,Y])),
(`D4,f_4 λa b c d=>`(uW "<lambda>" T.tq params $a scope $b $c c $d)),
(`D5,f_0 `(.bG 13 [aK] 29 [])),
(`D6,f_0 `(ak S A b nm st G P)),
(`D7,f_0 `(X.base.get? b=[a'])),
(`D8,f_0 `(this _ (by simp))),
(`D9,f_0 `(λs H C z l=>zM)),
(`DA,f_1 λa=>`([xu,$a].all=A.all++[$a]))]
def T_5:L0:=[(`DB,f_1 λa=>`(Rw.tp (hO Y) (j4 ($a)) [fq])),
(`DC,f_0 `(c9 (Es _ _ _) U)),
(`DD,f_2 λa b=>`([dj,$a]=[fe,[oQ],o,fV o S,l,$b])),
(`DE,f_0 `([Bk,([wR]:io),[ad]])),
(`DF,f_0 `(c3 _ (by simp))),
(`DG,f_0 `(X.bY G H3 scope N W)),
(`DH,f_0 `(cW X.prog X.w H' h')),
(`DI,f_0 `(dO G.size G.size hi)),
(`DJ,f_0 `(sR s.heap x dx C mA)),
(`DK,f_0 `(s'.heap.get? b=[a'])),
(`DL,f_0 `(f [sp] (.int j u))),
(`DM,f_0 `(w (by rw[e5,ev]))),
(`DN,f_1 λa=>`(A7.all [aF,xG $a [L] [Z]])),
(`DO,f_0 `(tx [cI]=[c5]::tx r)),
(`DP,f_0 `(λ_ e=>nomatch e)),
(`DQ,f_0 `(λp q=>I.eI p [f])),
(`DR,f_0 `(λx=>a9 (nP b x))),
(`DS,f_0 `(BA.l9 ([rJ]))),
(`DT,f_1 λa=>`([d7,[pX,[R,$a,pD]],[bM]])),
(`DU,f_1 λa=>`([R,Ir.fns[$a]?,(·.np)])),
(`DV,f_0 `([iz,[dN,[aF,[n1]]]])),
(`DW,f_1 λa=>`($a=[kf]\/$a=aa [ec])),
(`DX,f_0 `(.cb lo [dN,V.int])),
(`DY,f_0 `(λc a L=>by simp)),
(`DZ,f_0 `(.Tuple vY kk t)),
(`D_,f_0 `(A.deeper [t6,O])),
(`Da,f_0 `(Ub "Exception" BM sa i)),
(`Db,f_1 λa=>`(λb J=>[ga,[aA,b∈$a,J]])),
(`Dc,f_1 λa=>`(jP $a (aa [sm]) S.line X.env)),
(`Dd,f_1 λa=>`(run prog [g0] _ [xG,$a] _=_)),
(`De,f_0 `(S.ju (by simp) [Bv])),
(`Df,f_0 `(Ir.St S r line ws n)),
(`Dg,f_1 λa=>`(I.turned $a f0 f1 f3 f4 f5)),
(`Dh,f_0 `(λc q=>[bO])),
(`Di,f_0 `(t.map λc=>[[c5]])),
(`Dj,f_0 `([ev,ch,[Be,b]/\[AL]])),
(`Dk,f_2 λa b=>`(.Subscript (.Name x $a) ($b) d)),
(`Dl,f_0 `(.Attribute e f pos)),
(`Dm,f_3 λa b c=>`([fe,bo $a S,$a,bH x S,x,gE x $b $c S])),
(`Dn,f_0 `([[b8],[b9],[b9],[b9]]))]
def T_6:L0:=[(`Do,f_0 `(x.2 b (lo b o e))),
(`Dp,f_0 `([[aK],[am],[V],[ai]])),
(`Dq,f_0 `([119,105,116,104])),
(`Dr,f_1 λa=>`(aE _ A.in1 ($a>>=_) _ _ s)),
(`Ds,f_0 `([xc,I.ok.vr x c G O])),
(`Dt,f_0 `(bD r0 F0 H0 r1 F1 H1)),
(`Du,f_1 λa=>`([b5,4,[[bs,[iq]],[qG,$a]]])),
(`Dv,f_0 `(e=x\/H e=aa [bn,x])),
(`Dx,f_1 λa=>`(H b=[hN,$a]->H' b=[hN,$a])),
(`Dy,f_0 `(h r F H a c _ O P A)),
(`Dz,f_0 `(cY [cD] [k7].taxes)),
(`E,f_0 `(l.length)),
(`E',f_0 `(.ix [av] [a9])),
(`E0,f_0 `([sH].lookup n)),
(`E1,f_0 `([[V],[ai],[av]])),
(`E2,f_0 `([mb,[[sY],[b9]]])),
(`E3,f_0 `(Gw n (k+9) [d2])),
(`E4,f_0 `([ay "line",[sS]])),
(`E5,f_0 `(.Name x pos')),
(`E6,f_0 `(#[m,g,d,t,os])),
(`E7,f_1 λa=>`(sO T X.K Z E [vi] $a)),
(`E8,f_0 `(j7 _ [g] [g])),
(`E9,f_0 `(.add [V] [a9])),
(`EA,f_0 `(hf it (by simp))),
(`EB,f_0 `(.lq [aK] 24 [a9])),
(`EC,f_3 λa b c=>`($a=0\/tl r $b ([bd,2*$c]-d)=ae)),
(`ED,f_1 λa=>`([bq,x.na $a (by simp)])),
(`EE,f_1 λa=>`($(a).2 b ([aD,J]))),
(`EF,f_0 `(D.tup [[L],[Z]])),
(`EG,f_0 `([ay "in",ay "on"])),
(`EH,f_0 `(di [ee] (dL.mp z))),
(`EI,f_1 λa=>`(pL (gu K (jq K 269) $a))),
(`EJ,f_0 `(.add [ai] [a9])),
(`EK,f_0 `(bN 0 dy [bM] [dY])),
(`EL,f_0 `([iv,[hO,[ld,J]]])),
(`EM,f_0 `(λ_ _ _=>False)),
(`EN,f_0 `(#[_,_,_,_,Y])),
(`EO,f_0 `([(iP "start",v)])),
(`EP,f_0 `(A.frames=aa [gs])),
(`EQ,f_0 `(own.getLast U))]
def T_7:L0:=[(`ER,f_6 λa b c d e f=>`(Fe JC $a $b $c $d (iZ $e jp (fE $f)) J (BJ $f) U (fE $f) Y)),
(`ES,f_0 `(([BN]:M _) S=_)),
(`ET,f_2 λa b=>`([rP,[jh],ag,.seq $a $b,[cd]])),
(`EU,f_0 `(k=[qU]\/k=[s_])),
(`EV,f_0 `(l.lookup x=aa b)),
(`EW,f_0 `([ez,ts,[jO]=af])),
(`EX,f_1 λa=>`([A,i=0,[W],[ay,$a]])),
(`EY,f_2 λa b=>`([A6,[jV,K,$a,λd j x q=>$b]])),
(`EZ,f_0 `([bT,"enumerate"])),
(`E_,f_0 `(.ix [av] [iW])),
(`Ea,f_0 `(a _ (by simp))),
(`Eb,f_3 λa b c=>`(vi $a $b J (rj _) [f] λσ H Q z=>$c)),
(`Ec,f_1 λa=>`(upd H1 A [X,ws.take $a])),
(`Ed,f_1 λa=>`(λo q=>[oA,sb.2 _ $a])),
(`Ee,f_0 `(#[[eO],H1,S,Y,q])),
(`Ef,f_0 `(.aW 14 [(27,v)])),
(`Eg,f_0 `(.b1 .str [av])),
(`Eh,f_1 λa=>`([jA,[hj,b-a],[l,a+$a]])),
(`Ei,f_0 `(I.base.l7 b _ e)),
(`Ej,f_1 λa=>`(aE [c6] X.A [eN,$a] Q E s)),
(`Ek,f_1 λa=>`(.ex 9 [ei,[dn],p,w] $a)),
(`El,f_0 `(h _ s _ H _ I W)),
(`Em,f_0 `(∃u,[i1,e]=aa u)),
(`En,f_0 `([R,[f5,[t8]],tx])),
(`Eo,f_0 `([fb,a.zip b,[n1]])),
(`Ep,f_0 `(wpAny_loadPart' U)),
(`Eq,f_0 `(b.rounding.isSome)),
(`Er,f_0 `(bD r1 F1 H0 r F H)),
(`Es,f_0 `(O b _ q λz=>z)),
(`Et,f_0 `(St S r line ws)),
(`Eu,f_1 λa=>`(-(2^64)<$a/\$a<2^64)),
(`Ev,f_0 `(D0 B c w W [fB] _)),
(`Ew,f_1 λa=>`([pV,∃c,x=[bj,c]/\$a])),
(`Ex,f_0 `(λ_ _ z=>z.elim)),
(`Ey,f_0 `({A with az:=[rF]})),
(`Ez,f_0 `(.lq [V] 31 [a9])),
(`F',f_1 λa=>`([z6,∃xs x,$a/\[cT,xs],x,H',H'=H/\∀xs,$a->[cT,xs],∃xs,$a/\[cF]<=i])),
(`F0,f_1 λa=>`([IF,C,z,u,[h],[h],S,$a])),
(`F1,f_1 λa=>`([bV,[ap,[r_],R.ok (.nx [xm]) S,R.ok (.rt [l,$a +1]) S],f,vL [fg,1,rl] [2] [l9,CO (p+1) G,i,[cC,[an,i]]] f S])),
(`F2,f_0 `([ff,[[a0],[mR],[m,d],.int 0 0,.int [fx] 0,.int ep 0,[a0],[a0]]]))]
def T_8:L0:=[(`F3,f_0 `([.hd 5 ag [nD,1],.hd 6 ag [nD,2],.hd 7 ag [nD,3],.hd 8 ag [nD,4],.hd 9 ag [nD,5],.hd 10 ag [nD,6],.hd 11 ag [nD,7],.hd 12 ag [nD,8]])),
(`F4,f_1 λa=>`([wg,[bn,$a]])),
(`F5,f_4 λa b c d=>`([z6,∃($a:ident :[cR])(x:V),[lT,$a]/\[cT,$a],v,$b,∃T x,v=[m,T]/\H T=ag/\$b=[cw,T,[bk,[l,$c],x]]/\∀$a:ident,([lT,$a])->[cT,$a],∃$a:ident :[cR],[lT,$a]/\$d<=i])),
(`F7,f_1 λa=>`(∀G B,G.get? x=aa {ob with dict:=aa [c9]}->G.Ns1 [c9] [D1,ag]->([h9,x,[kx],G.get? b=[a']])->Q $a #[G,g,d,B,os])),
(`F8,f_0 `(cV [fg,1,[HE]] [4] [oF] [[cr],[fH,[vM]],[kl],[ay,lo],h] S)),
(`F9,f_3 λa b c=>`(#[$(a).Bo _,[Mb],I.nm.add _ B s _ ($b) ?_,?_,[Mc],?_,I.ge,[a5,jr [g9],jr [cQ,$c],I.pr],I.sl,I.sv])),
(`FA,f_1 λa=>`($a +1+1+1+1+1+1)),
(`FD,f_2 λa b=>`((af,[eN,$a])::bb $b X.env)),
(`FE,f_2 λa b=>`(xT h λG r F H S B c e g=>by match G,e,g with|[d],e,g=>(cases d with|lst l=>rw[ab,v,ws,rfl,m,u,e.dP];rw[u.fY];rw[am,q,B,rfl,L,U,$a:term,m];exact#[q,B,Y,[cL,[fk,L]],al.pure c g ([bb]) _ ($b)]|_=>rw[aL])|[],e,g=>rw[aL]|[_,_],e,g=>rw[aL]|[os],e,g=>rw[aL])),
(`FF,f_3 λa b c=>`([du,Px hN C L U.pe $a q,Q,n,o,O,c,by have b:[hU,$b]=(do let d←[vv];let x←[eh,d];let z←Ir.ah Z J _;let y←[eh,z];[b1,$c]):=rfl;rw[aM,d,hd,m,h.PZ,k,rfl,u,m.f_];rw[ab,G,ex,v,rfl,B,P.slot hd];refine#[v,ex,gh (m:=λ_=>[b1,()]) a c P u λd r1 l H1 S1 w t I f s W g=>?_];rw[bx,j,rfl,g2,g.f_,#[k,j,B.cg,W.cg,g2 _ _ _ I f _ O (s.set Y) A.set]]])),
(`FG,f_0 `([.set 4 (.ix [aK] [ai]),.set 5 (.add [EJ] [ft,142,[av]]),.set 6 (.ko [aK] [EJ] [a6]),.set 7 [fh,145,[a6],[ft,143,[av]]],.set 8 [bZ,144,[[am],[av],[c1],[fT]]],.d_ 2 [e5,[hy]],.ee 2 [hy],.set 3 (.add [a6] (.b1 .sum [df,.add [a9] [e5,[f8,9]],9,[fT]]))])),
(`FH,f_2 λa b=>`([cZ,aZ (jE b h ($a)) nl,[th],∃p w o,[Ca,s4,s5]=.ex 9 [ei,[l,$b],p,w] o/\o.take G=X,[fX],∃I F d o,[Ca,s4,s5]=[dA,[qb,[oY],I,F,d],o]/\HS o G X [S] [e0]])),
(`FI,f_0 `(∃w b I F d u m i,jT [wb,cf (k+13),.lt [ai] [tF]] [fg,13,yi] fuel [[tD],[c8,0],[kl],[ay,q],P,Q,Z,W,S,T] [d2]=[dA,[[tD],[c8,0],[i0,[R,IJ (IK Tj s a),D.int]],w,I,F,d,u,m,i],bw b])),
(`FK,f_2 λa b=>`([Ca,$a,$b])),
(`FN,f_5 λa b c d e=>`(∃i H',ak (X.bY $a H3 $b $c $d) [] [Au] H' s'/\tn i [jI]/\[ev,$d,[iO]]/\S i $e H')),
(`FO,f_3 λa b c=>`([jj,FU (oy.or Fl FT) L.pr $a $b,h,by have e:$c :=rfl;rw[ai,[gD,s,q,n,B,f,I,W],[ip,B,s,q,f,I,[st,G,o,A,U,j,z,hu]]];rw[aK,i,rfl,g2,u.f_,#[i,hu.cg,?_]];rw[bx,d,hd,g,al.kn j (W.step z) g2,E7 j hd g]])),
(`FP,f_6 λa b c d e f=>`([z6,∃($a:ident$b:ident :[cR])(x y:V),[lT,$a]/\$c/\[cT,$a]/\[aZ,$b,y],v,$d,∃T x y,v=[m,T]/\H T=ag/\$d=[cw,T,[kz]]/\(∀$a:ident,([lT,$a])->[cT,$a])/\∀$b:ident,$c->[aZ,$b,y],∃$a:ident$b:ident :[cR],[lT,$a]/\$c/\($e<=i\/$f<=i)])),
(`FQ,f_0 `([n0,xs,∃a p,∃ys:[h],[rf]/\xs=[[dq]]/\[ya,X.K,ys.map V.str]/\(ys.map (·.length)).sum+[m0]*a.length<=16777216/\Q [K,Jp a ys] H])),
(`FS,f_0 `(∃i j l,Dp X.K H x [yj]/\Dp X.K H y (.list l)/\Dk l=ae/\wy l<=8/\[iS,[A,neg,!(l.any λy=>uP y [yj]),l.any λy=>uP y [yj]]])),
(`FU,f_0 `(cV [fg,8,[[yR],[bC,.gt [e5,[av]] [bf],[Ki]]]] [2,3] [IP] [[c8,nb],.val a,r,i,Z] S)),
(`FV,f_0 `(∀(pins:[eH])(s:aD)(σ:St)(H:Hp)(x:V)(xs:[cR])(v:aq)(us:[dW])(Q:VK),([ah])->bB x v->([iK])->r x xs H Q->[hI,[s0,id,v::us],[jl]])),
(`FW,f_0 `([[cE,9,[ik,17,[hy]]],[bC,.av [f8,9] 2,.jS 7 [hy] [ef,59,[ai],.mul (.add [f8,6] (.iU [fT] (.av [f8,9] 3) [bf])) (.av [f8,9] 1),[fd,10000]]]])),
(`FX,f_1 λa=>`([fe,[oQ],o,fV o S,l,[eW,a,k,bo k S,k,[fe,[gX,place [E] k],j,[gX,l[j]?],x,[fe,bo x S,x,[co,b],y,[bV,bo y S,y,[wg,[bn,[wi,[l,$a]]]]]]]]])),
(`FY,f_0 `([[cE,6,[eo,74,[a6]]],[ph,.kE [V],.lt [bk,[f8,6],[e5,[av]]] [bk,[tC],[e5,.ix [V] [iW]]],[dZ,[bw,[[f8,6],[ai],[av]]]]]])),
(`FZ,f_1 λa=>`([wO,by show tW _ _=_;rw[a_,g.sc],[Ik],λ_=>$a,λ_=>g.cm hh,λ_ z=>by cases z,[u5],λ_ z=>by cases z])),
(`F_,f_4 λa b c d=>`([kW,E4 ($a) bt.gl bt.mg bt.bt (iZ h.pr (iZ J.pe jp u) m) bt.nm bt.db m q,z,Nv $b (λi j r F H S Q c g=>#[i,j,Y,by have e:[A,$c,j,i]=$d :=[f];rw[V,e,[qP]]]) z])),
(`Fa,f_0 `(λb u q=>[kI])),
(`Fb,f_0 `(x4 _ _ _ i m u)),
(`Fc,f_0 `(λny n sb=>?_)),
(`Fd,f_0 `(AE n _ _ q [g])),
(`Fe,f_0 `(λb ob q=>[kI])),
(`Ff,f_0 `(λG=>by simp)),
(`Fg,f_1 λa=>`(λ(j:Nat)=>V.int $a)),
(`Fh,f_1 λa=>`({b with byLine:=aa $a})),
(`Fi,f_3 λa b c=>`(oY fuel $a ([ac,seval,$b:term,$c:term]))),
(`Fj,f_0 `(0<[an,c.least])),
(`Fk,f_0 `([an,own.length])),
(`Fl,f_0 `(b.byLine.isSome)),
(`Fm,f_1 λa=>`([nX,fl (vP h hh) $a T])),
(`Fn,f_0 `([[K,[hP]],[K,[s9]],[K,[mN]],[K,[ut]],[K,[ha]],[K,[uw]],[K,[uv]],[K,[uu]],[K,[mF]],[K,[mc]],[K,[hJ]],[K,[j2]],[K,[pM]],[K,[qw]],[K,[p6]],[K,[x6]],[K,[i']],[K,[im]],[rn],[K,[nW]],[K,[p2]]]))]
def T_9:L0:=[(`Fo,f_2 λa b=>`([Eb,cI.or $a ($b),l,zN [bL] (λx y r F H S v C Q c q W h=>by rcases K0 h with⟨i,j,rfl,rfl,g⟩|⟨i,j,rfl,rfl,g⟩|⟨i,j,rfl,rfl,f1,f2,g⟩;{rw[a5,q.cg,W.cg,[H,#[Y,[q,zS,[dO,c,g,[eO]]]]]]};{rw[a5,q.gb,W.gb,[H,#[Y,[q,Pj,[dO,c,g,[eO]]]]]]};{obtain⟨p,B,rfl,m,_,u⟩:=q;obtain⟨n,I,rfl,f,_,U⟩:=W;rw[ag,A,s,L,N,zG f1 u];rw[dH,P,d,O,w2,zG f2 U,[aC,#[_,_,.lst [cL,[fk,m]] s,.lst [cL,[fk,f]] d,L,O,[q,O_ N w2,[qP]]]]]}) z])),
(`Fq,f_1 λa=>`(a_ T $a r F H S)),
(`Fr,f_0 `([[hS,[hP],38],[hS,[105,116,101,109],39],[hS,[uw],42],[hS,[uv],43],[hS,[uu],44],[hS,[mc],45],[hS,[LD],47],[hS,[x6],49],[hS,[114,111,117,110,100],52],[hS,[im],53],[hS,[jm],54]])),
(`Ft,f_1 λa=>`([hR,[i7,"list_iterator",.fields $a]])),
(`Fu,f_0 `([[e2,0,122,0,1],[e2,1,123,0,1],[e2,2,124,0,0],[e2,3,125,0,0],[e2,4,126,2,0],[e2,5,127,2,0],[e2,6,128,0,2],[e2,7,129,0,2],[e2,8,130,0,2],[e2,9,131,0,1],[e2,10,132,0,1],[e2,11,133,1,1],[e2,12,134,4,0],[e2,13,135,2,0],[e2,14,136,2,0],[e2,15,137,0,1],[e2,16,138,0,0],[e2,17,139,2,0],[e2,18,140,0,2],[e2,19,141,0,1]])),
(`Fv,f_0 `([p0,"list_iterator",[AZ]])),
(`Fw,f_1 λa=>`(∀(k j:Nat)(s:aD)(x:aq)(c:Nat),n-[cU]=k->[cU]<=n->St [cU] s.heap->P (fb bt j) x->([bJ,S,[ET,[ff,[x,x]],c]])->(∀v G tk,P (fb bt (n-1)) v->([di,b∉wr,b≠S->([gl])->G.get? b=[a']])->R [iB,v] [cS,G])->[o4,.builtin $a #[[[m,I],[a0],[l4]],[uL]],s])),
(`Fy,f_8 λa b c d e f g h=>`(aM [en,$a,$b,$c,$d,pos] $e=(do let$f←aM $a $e;pb $g;let(f,z)←iC [$f] (zf $f $b $h);zh pos f z (dE pos (bb $d $e)) (jl pos (jm [] $e))))),
(`G',f_0 `([A,0<=i,[A,i<n,aa i.toNat,ag],[A,-[kO]<=i,aa [hj,i+n],ag]])),
(`G0,f_0 `([jP,[AU]::x.volume.map λs=>[[qU],x.name,bJ [gt],bJ [nt]]])),
(`G1,f_0 `([.iff [fJ,4,[a6]] [.d_ 3 [bf]] [.d_ 3 (.ix [V] [av]),.inc 4 [a9]]])),
(`G2,f_0 `(∀{G:R D}{a c p},G=.ex 9 _ [cM,p]->∃x,G=[f9,a,c,x]/\x.take _=P)),
(`G3,f_3 λa b c=>`([du,Pz [y5] hk.pe OM he.pe $a Ep ha,Q,F0,H0,b,c,by have e1:[hU,$b]=$c :=rfl;rw[fJ]])),
(`G4,f_0 `([ln]<=bS/\[wm]/\∃xs,[vG]/\h.DictOfH (zb [m9]) a xs)),
(`G5,f_1 λa=>`($a&&l.closure.isEmpty&&Ac l.defaults&&(l.builtins==pa)&&sj K l.code l.qualname)),
(`G6,f_1 λa=>`(.Call (.Name "enumerate" p) [$a] [#[aa "start",.Constant [l,1] j f,kp]] pos)),
(`G7,f_1 λa=>`(∀v x tk,0<G.size->([aR,G,fb [n5,$a] (G.size-1),v])->([mz,x.get? b])->Q v [cS,x])),
(`G8,f_0 `(∀v u q x y H2,([c7,H2,q])->bB x v->([hA])->R x y H2->[gc,f v u,Q,q])),
(`G9,f_2 λa b=>`(∀{mu}{H'}{s'},ak $a [] mu H' s'->([ev,$b,[iO]])->[ev,$b,hC $a [] H' b])),
(`GA,f_0 `([[ph,.not [fh,77,.l8 [ai] [a6],[c1]],.not [fh,78,[av],[c1]],[s2,af]]])),
(`GB,f_0 `([[hS,[zq],105],[hS,[yl],106],[hS,[Dq],107]])),
(`GD,f_1 λa=>`(λi h st c O=>by obtain⟨$a:ident,j,⟨x,y,n⟩,⟨o1,e1,_,d1⟩,⟨o2,e2,_,d2⟩⟩:=st;grind)),
(`GE,f_0 `([n0,xs,∃a b,[rf]/\xs=[[K,b]]/\[bH,b.length,0]/\[bW]+2<=bS/\Hr (zr a b) H Q])),
(`GF,f_2 λa b=>`(∀{l}{B}{x}{j},$a->$b=aa j->(∀d,Ir.bK l x=aa d->[z0,fP B j])/\(Ir.bK l x=ag->fP B j=ag))),
(`GG,f_0 `([.jS 2 [ai] [fh,67,.ix [V] (.l8 [ai] [z4]),[ik,20,.ix [ai] [z4]]]])),
(`GH,f_2 λa b=>`(([qX])->Q [kT] H'->s'.heap.Ns $a $b->hC X pins H' $a->ww [c6] X.A X.xe oZ Qf [kT] $a (.ok .next) s')),
(`GI,f_0 `(λb ob J q=>[cy,sb.2 b [u0],hk b ob [u0] [u0] q])),
(`GJ,f_0 `(a8 (h _ _ s _ H _ I L) λus j#[xs,H1,S,r,z,q]=>#[[bD,r.length,z],?_])),
(`GK,f_3 λa b c=>`(∀x dx,$a=ag->$b=ag->dx≠x->sp ([eA]::(B++dvs)) (upd $c x (.aW C dx [])) (λv H2=>v=[aY]/\Q [eA] H2) E)),
(`GL,f_1 λa=>`([A,b.fresh=ae/\[m5],[bV,iI d S,c,[dA,e,(S++[c]).set $a (.aW k (dV l f [hh]))]],[aX]])),
(`GM,f_2 λa b=>`([(0,[je]),(4,[l,[ea]]),(5,[X,[wf,nD]]),(6,[jg,mr [jJ]]),(7,$a),(8,$b),(9,[vW])])),
(`GO,f_1 λa=>`([d9,10,[[cE,1,.new 14 []],.own 2 [bI],[bs,[bf]],.mh (.lt [ai] [tF]) $a,[ql]]])),
(`GP,f_2 λa b=>`(λi h=>uS h z TI TO [a0]/\k6 h TI [m,i1] [m,$a]/\(∃x y,k6 h TO x y)/\[wA,i1,a]/\$b)),
(`GQ,f_1 λa=>`([cn,[AY],λσ H Q=>[nj,v,z,∃(a:ai)(ns:[a4]),v=[aL]/\bp X.K z a [ji]/\Q [l,$a] z]])),
(`GR,f_0 `([v8,[bG],[[m6],[S],bJ [bG]]])),
(`GT,f_0 `((G.toList.drop [u6]).take ([DI]-[u6]))),
(`GU,f_0 `([D4,body,clos,(X.mg "__name__").getD [a0],U])),
(`GV,f_6 λa b c d e f=>`(ak ([dm,$a,[dv,$b ++[t],$c]].set A.aN [cf,cB nm [K,tx t.name] (lv ($d,$e +1))]) A $f (cB nm [K,tx t.name] (lv ($d,$e +1))) st n0 P)),
(`GW,f_0 `(jT [wb,[gd,4],[g',28,[]]] [fg,4,[AW]] fuel [xg,[t1,[eD,nD]],j] [dl])),
(`GX,f_3 λa b c=>`(InCallC s [ar] (si [t6,$a].kindOf $b [mY]) (fq [bN] [jn] []) (uL [t6,$a].kindOf $b [mY]) $c))]
def T_10:L0:=[(`GY,f_0 `([.ee 4 (.comp (.add [a6] [bw,[[c1]]]) [6] 1 [(.add (.g 19) [a9])] [])])),
(`GZ,f_4 λa b c d=>`([A,qA (p+1) $a $b=0,∃s,$c=[dy,[[fH,[kq]],[fH,c.map sD],s]],$d=[iz,[l,qA (p+1) $a $b]]])),
(`G_,f_1 λa=>`([ix,bN [tc] el n $a,G,[jc,bN 0 dy n C,p,own++[{from_:=G,price:=p}]]])),
(`Ga,f_7 λa b c d e f g=>`(I.step [AG,$a,$a] [Lk] [BL,O] ($b) [Ls] ($c) ($d) (λb ps e=>#[[cd],$e]) (λ$f:ident U=>?_) (λb$g:ident e=>?_) I.bare)),
(`Gb,f_1 λa=>`([Jj,$a])),
(`Gd,f_1 λa=>`(#[$a,$a,$a])),
(`Gf,f_0 `([.iff [fJ,78,[ai]] [[dZ,.add [V] [kJ,.add [av] [bw,[[ai]]],[4],[V],[[fh,77,[av],[ai]]]]]] []])),
(`Gg,f_0 `(λI' hn b J=>#[hn b J,[M,I'.ok.tP b J],I'.ok.sT b J,[H,J],λx c e=>(I'.ok.tP b J).2 x c e,λp hp=>[ga,[aA,p∈[]++[],hp]]])),
(`Gi,f_1 λa=>`(([di,[bJ,b,o],$a->b∉i4 [s4]->[md,o]])->([di,[bJ,b,o],$a->[B9]])->[Ax])),
(`Gj,f_0 `([(0,[je]),(11,[wM,x.share]),(12,[l,x.value]),(13,[l,x.item]),(14,[l,x.cap.getD 0]),(15,[l,x.least])])),
(`Gk,f_0 `(∃a e k,y=[aL]/\x=kV k/\[LI,e]/\[iS,[A,neg,! [es,fP e k],[es,fP e k]]])),
(`Gl,f_0 `(([h9,kS,b≠a,[l',x.get? b]])->x.get? a=aa [jF,[hY,sr st],c]->P (.done [bl,[a0]]) [cv,x])),
(`Gm,f_0 `([.jS 7 [hy] [ef,59,[ai],.mul [am] (.av [ik,17,[hy]] 1),[a6]],.dec 6 (.ix [fT] [hy])])),
(`Gn,f_3 λa b c=>`([ap,i_ x n $a,($b,$(c).2++[0]),($b +1,$(c).2++[[ap,[u2],rK x [kH],qo x ($b +1)]])])),
(`Go,f_0 `([[fC,.add [y3] (.ix [aK] [am])],.d_ 3 (.ko [aK] [y3] [a6]),[cE,1,[a6]]])),
(`Gp,f_1 λa=>`(∀(E:XK)(xe:[em])(pn:[h]),gz [z1] E->([sv,xe])->([rG,X.ex,pn])->fO [z1] body ($a))),
(`Gq,f_2 λa b=>`(hk c o (λ$a:ident=>$b) (λ$a:ident=>[pT,$a]) (λ$a:ident=>[pT,$a]) (λ$a:ident=>[pT,$a]) q)),
(`Gr,f_1 λa=>`([[bC,.ne (.ko [aK] [V] ($a)) (.ko [am] [V] ($a)),[b4,$a]]])),
(`Gs,f_0 `([[fC,.ix [fh,69,[av],[ai]] [a9]],[ew,[6],[ai],[LC]]])),
(`Gt,f_0 `(jT [wb,[gd,5],[g',28,[]]] [fg,5,[CE]] fuel [w1] [d7,[qs],n])),
(`Gu,f_0 `(.ListComp (.Subscript (.Name x r) (.Constant [l,k] n P) t) [#[.Name x a,F,[],0]] e pos)),
(`Gv,f_0 `(aZ (eZ "cap" n ws) λx n ws=>aZ (eZ "when" n ws) λy n ws=>[iN,[kV,nm,sh,v,i,mf x,y],ws])),
(`Gw,f_3 λa b c=>`([k8,$a,$b,[ax,[rM]]]=[A,jL b c=af,[kF,5],[cZ,nO b w,ag,[kF,5],aa x,[A,gK b (cy c) x=af,[kF,8],[ab,$c]]]])),
(`Gx,f_0 `([[fC,.mT (.add [av] [ai]) [iW]],.iff (.ge [fJ,75,[a6]] [V]) [[bs,[a6]]] [[ct,.add [a6] [a9]]]])),
(`Gy,f_1 λa=>`([lU,5,[[ct,[gk,.ix (.g 26) [am]]],.tr [[m4,[ax,[[bf]]],.lh [av] [[aK],[V],[ai]]]] $a]])),
(`Gz,f_1 λa=>`(Dm [iP,Up $a ["key","default"] 0 #[[],[uL]]=bx [ag,aa d]] [aJ,bg [aJ,sf U ?_]])),
(`H,f_1 λa=>`(.inl $a)),
(`H',f_4 λa b c d=>`(#[λ$a:ident$b:ident=>[q,$c,I.nm.get $a $b],[q,$d,I.nm.nd],λ$a:ident$b:ident=>I.nm.ok $a ($d▸$b),[q,$d,I.nm.len],I.nm.val])),
(`H0,f_2 λa b=>`(∀k,k<[gL]->fb [n5,$a] k<=k/\[mg,fb [n5,$a] k]=$b)),
(`H1,f_1 λa=>`([b5,4,[[xy,89],[bl,[rl,$a,[bZ,93,[[iq],[rh]]]]]]])),
(`H2,f_2 λa b=>`([jM,[Z],[rm],[A,$a,[dA,e,[dm,[L],.aW k (dV l f $b)]],[aX]]])),
(`H3,f_2 λa b=>`([ix,eZ "cap" $a $b,c,[jc,eZ "when" n C,y,[jY,[kV,[S],sh,v,i,mf c,y]]]])),
(`H4,f_1 λa=>`(λx L=>by have:=ck.mp $a x L;rw[aI,b3,this];exact [nc])),
(`H5,f_1 λa=>`(zv (uO (name:=iP "__next__") hT JG (sm JG hT aj4 ($a) (aj5 _))))),
(`H6,f_0 `([[aK],(.av [ai] 28),(.av [ai] 29),(.av [ai] 30)])),
(`H7,f_2 λa b=>`(∀{l G:$a},l.Perm G->l.Pairwise $b->G.Pairwise $b->l=G)),
(`H8,f_1 λa=>`(∀b C,H' b=aa C->H b=aa C\/($a/\c7 X.prog X.w H' h' b C))),
(`H9,f_0 `(#[_,x,Y,[tE],Y,λys hy=>[q,I.ve hy hq,L]])),
(`HA,f_0 `(aa (iS i N (nm,qn,bs,sn,sub,ab,col,j) (k0,k1,k2,k3,Z)))),
(`HB,f_0 `([Ey].all.Perm [K']))]
def T_11:L0:=[(`HC,f_0 `([hI,[eN,a],λv W=>[gc,[eN,b],λu S=>[gc,f v u,Q,S],W]])),
(`HD,f_0 `(#[p,B,Y,bW,U,[m',[f],λa o e=>[nm,e],h]])),
(`HE,f_0 `([.d_ 2 [ef,86,[av],[ai],[jX,20]],[bs,.add [av] [a9]]])),
(`HF,f_1 λa=>`(∃a C dx fs v,[gA,H1 a=[nZ],kH K C/\oH K C f/\[lt,f]=[cX]/\$a])),
(`HG,f_1 λa=>`([o4,.builtin "list.extend.loop" #[[[l4],$a,X],[]],[cS,h]])),
(`HH,f_1 λa=>`([d4,∃d e,Dp K H x d/\Dp K H y e/\zo d=ae/\zo e=ae/\[iS,$a]])),
(`HI,f_2 λa b=>`([bV,bC (eQ l) S,rs,[A,n=$a/\[fM]<64,[ab,[dv,iH rs,λ(j:Nat)=>$b]],[aX]]])),
(`HJ,f_1 λa=>`([cx,3,[.cS [2] 1 [(.b2 .max [tF] [ri])] $a,[bl,[bf]]]])),
(`HK,f_1 λa=>`(∀y∈[("__getattribute__":au),"__getattr__",f],gu $a N y=aa ag)),
(`HL,f_0 `(λj C m=>by rw[aE,i=j];rw[ar];{rw[gm q]at m;grind})),
(`HM,f_0 `([me,[ri],[bs,.add [gk,.ix [am] [z4]] [a9]]])),
(`HN,f_1 λa=>`([fe,bo x S,k,bC (place [E] k) S,j,[dA,e,[dm,$a,[wi,d]]]])),
(`HO,f_1 λa=>`([fe,gv e i S,x,bo x S,x,[eW,a,y,bo y S,y,[wg,[ay,$a]]]])),
(`HP,f_0 `([[me,[a6],.d_ 3 [bk,[av],[bZ,3,[[ik,18,[av]],[a6]]]]]])),
(`HQ,f_0 `([c7,H',{s with heap:=h',gens:=W,drawn:=d',toks:=t'}])),
(`HR,f_0 `([ml,y]=aa [ec]/\[DW,gH.kindOf y])),
(`HS,f_1 λa=>`(#["str",_,ajG,slot,ty,C_ _ _ _,[DP],zl Y ($a)])),
(`HT,f_1 λa=>`(Gp $a J I h λv u W x y H2 S z N q=>L _ _ _ _ x y v u Q S z N q)),
(`HU,f_5 λa b c d e=>`(aE [g_] A.in1 ($a) (λ$b:ident$c:ident=>[cZ,$b,.done f,R (.ok f) $c,.again $d,$e=ae/\[o4,$d,$c]]) (λe$c:ident=>R [kZ] $c) s)),
(`HV,f_2 λa b=>`([qu,let#[#[S,$a],hi,$b]:=st;#[#[S,k e (by simp) _ $a],hi.at [ue,it],$b]])),
(`HW,f_1 λa=>`(show False by(have:[qm,$a]=[aX]:=by(rw[w3]));rw[ae,this,h,h])),
(`HX,f_3 λa b c=>`(∀(j:Nat)(k:[iH])(v:V)(q:ai),([ce,$a,(k,v)])->([ce,$b,q])->$c=[ok]/\k.length<=bS)),
(`HY,f_0 `([L]=[cV]/\H [ak,q]=[hN,[R,[L],kV]]/\bB [Z] [aE,q])),
(`HZ,f_0 `([.ee 7 [ax,[[hy],(.ix (.ix [c1] [a9]) [hy])]]])),
(`H_,f_3 λa b c=>`(∃l b xs zs,x=[hD]/\$a=$b/\[m_,l]/\H b=[ls,zs]/\[cF]+zs.length<=bS/\$c)),
(`Ha,f_2 λa b=>`([eU,J _ _ _ _ _ I1 q1,u,s2,y,H2,I2,q,q2,a8 ($a) λd s3#[z,H3,S,$b,k,e,U]=>?_])),
(`Hb,f_0 `([zT].update x λo=>[rP,o.cls,aa [c9],o.data,o.slots])),
(`Hc,f_0 `([ct,[g',32,[[a9],(.ite (.eq [ai] [aS,[j2]]) (.g 16) (.g 15))]]])),
(`Hd,f_0 `([eU,G _ _ s _ H _ I h,us,F,B,H1,S,Z,z,O _ _ _ _ _ _ Q S Z z])),
(`He,f_2 λa b=>`(s'.os=s.os/\uB s'.gens/\Un (i4 outer) [] H H' s.heap [jI]/\cW P w H' [jI]/\$a/\$b)),
(`Hf,f_0 `(∃a o,y=[aL]/\qd H a x o/\[iS,[A,neg,! o.isSome,o.isSome]])),
(`Hg,f_0 `([[fC,[eo,3,[av]]],.iff (.lt [a6] [ai]) [[dZ,[av]],[bs,[a6]]] []])),
(`Hh,f_1 λa=>`(cV [fg,1,rl] [2] [l9,CO p G,i,D.int $a] [[fH,[f5,sD]],[fH,c.map sD],z] S)),
(`Hi,f_0 `([(0,[je]),(1,[l,x.rate]),(2,[bj,! x.within]),(3,[l,x.over])])),
(`Hj,f_1 λa=>`(#[w.nt,$a,w.nb,w.nc,w.rate,w.qZ,w.over,?_,?_,?_,w.apart,w.ro,w.ca])),
(`Hk,f_1 λa=>`(λy hy e=>[d_,ok.free y hy e,k,k,I.ok.has _ [H,k],I.ok.has _ $a])),
(`Hl,f_2 λa b=>`(λx L=>by rw[K,y,q,rfl,b0.mp L];have:=lA.mp ($(a).2 y q);have e:$b :=rfl;omega)),
(`Hm,f_0 `([y9,B,∃q,k=[jT]/\H q=aa [iw,0-[fK,j],j]])),
(`Hn,f_2 λa b=>`(bD r F H j Q z->bD r0 F0 H0 j Q z->a_ T X.K j Q z p->cJ T X.K j Q z σ env O->$a->$b)),
(`Ho,f_0 `(h r F _ [bn,n] [xw] p n [rp] (c.hG n) #[[],bW,[f7],by rfl]))]
def T_12:L0:=[(`Hp,f_1 λa=>`(λi h st b J=>by obtain⟨⟨S,$a:ident⟩,⟨o,ho,O,hd⟩,_⟩:=st;grind)),
(`Hq,f_0 `([ph,.eq [e5,[av]] [bf],.ot [gk,[av]] (.g 22),.brk])),
(`Hr,f_0 `(λa b=>let z:=g.lam a b;#[z.code,z.blt,z.gP,z.qual,z.room])),
(`Hs,f_1 λa=>`([[dv,iT [cH] $a,[mf]],[vs],[X,[ka,ec]],[X,[oq,pD]],[cf,st]])),
(`Ht,f_0 `(T.keep _ _ _ v1 λb _ o e=>[bD,HE,Dc _ _ _ _ [gU]])),
(`Hu,f_0 `(k b o (λz=>O (by simp[z])) e)),
(`Hv,f_1 λa=>`(λD cls W H=>∃j y h,cls=[m,j]/\XC K j y h/\[A,j=C,$a,l D cls W H])),
(`Hw,f_0 `(GL X A (envX T.tq scope [ar] f [l2] [rd]) [p,x] s H)),
(`Hx,f_0 `(tI.all [aF,[g1,Ir.dI[[Z]]?,aa [jH],B4 T0 K [L] l]])),
(`Hy,f_4 λa b c d=>`(mX $a w K (.Tuple vY kk $b) ($c) [e,it] e (λi h=>(∃S,Df h e it $d S)/\[wA,it,a]/\e≠it))),
(`Hz,f_2 λa b=>`(dF nD (λw=>[cC,[bd,$a]]) ws (λi O=>[au,seval,nD,jC whole i _ [g],$b:term]))),
(`I',f_3 λa b c=>`([b5,3,[.ex [bZ,104,[[V],[fh,37,[V],[aS,$a]],[bX,$b],(.g $c)]]]])),
(`I0,f_3 λa b c=>`([ap,cn $a ws,aZ (bN 1 dy [aw] [go]) λx G r=>.ok ($b,G,r),[iN,$c,ws]])),
(`I1,f_0 `(aX (λz=>by rw[z,h]at q;rw[aU,q,U]))),
(`I2,f_0 `(B.update S (lL (·.push (da h.objs.size))))),
(`I3,f_0 `(#[r0,F0,H0,env,O,B,j,q,I,z,s,A,g2])),
(`I4,f_0 `([dL,J _ _ _ _ _ j z,u,q,y,H2,B,G,O])),
(`I5,f_1 λa=>`(jD [nr] [eV,t] [K,[$a]] S=[ab,[dv,eY $a t,sD]])),
(`I6,f_0 `(ao ([b7]∈own.map (·.1))||ao ([b7]∉N))),
(`I7,f_0 `(.ListComp l [#[tg,F,ej,0]] c8 pos)),
(`I8,f_2 λa b=>`(N0 $a λN σ H#[r0,F0,H0,env,O,S,r,F,a,c,P,A,h]=>$b)),
(`I9,f_2 λa b=>`(PE X $a [fl,$b]/\[uE,$a,$b])),
(`IA,f_0 `(jV #[run P n,P.init,P.fw,P.fuel,P.ar] F l)),
(`IB,f_0 `(G.size=0->∀x tk,([mz,x.get? b])->Q d [cS,x])),
(`ID,f_1 λa=>`(λxs H Q=>∃i j,xs=[[aQ],[c2]]/\Q [l,[A,$a,j,i]] H)),
(`IE,f_0 `(.app [a8,17] (.lS 0 [[V],[ai],[av],[a6]]))),
(`IF,f_7 λa b c d e f g=>`(∀(s:aD)(H:Hp)($a:ident :ai)($b:ident :[fy,ai])($c:ident :$d)(xe:[em])(pn:$e),([rG,$c,pn])->gz [xv,$f,$b,$a,$c] E->PE [xv,$f,$b,$a,$c] l $g)),
(`IG,f_0 `((I.aO b u e).jR [BK] (by simp) (by simp))),
(`IH,f_0 `([.aW 1 (d9 x ([ad]+1) ([ad]+2)),[bI],[bI]])),
(`II,f_0 `([A,5<=k/\k<=12,ag,Ir.vS[k]?].bind zO)),
(`IJ,f_0 `([A,Z.ar f=n,[bV,k S,y,Z.call f y S],[aX]])),
(`IK,f_3 λa b c=>`(#[Y,I.BV (t':=s.toks) (ch:=[z,TI,TO,i1,$a]) (λc o J q=>[Gq,$b,$c]) hf])),
(`IL,f_4 λa b c d=>`(s5.extBut _ _ $a (s4.extBut _ _ $b (N.extBut _ _ $a (Z.extBut _ _ $c $d))))),
(`IM,f_7 λa b c d e f g=>`(ak ((List.set $a $b (aP.lst $c)).set A.aN (aP.aV (cB nm [je] (lv ($d,$e +1))))) $f $g (cB nm [je] (lv ($d,$e +1))) st n0 P)),
(`IN,f_0 `(y.2=[ec]->∃c,env.cells.lookup [b7]=aa c)),
(`IP,f_0 `([fb,l.zipIdx n,D.tup [[l,[Z]+1],sD [L]]])),
(`IQ,f_1 λa=>`([k2,xs,[cF]<=bS/\∀p,H1 p=ag->Q [dq] (upd H1 p $a)])),
(`IR,f_0 `(.sub [c1] [a9])),
(`IT,f_1 λa=>`([vS,[mm,$a]]=[uE (.Subscript $a k t) X.env])),
(`IU,f_4 λa b c d=>`(#[c.len,c.nd,[zP],$a,λ$b:ident k a m u=>(c.rep $b k a m u).step [f] $c [dw],$d]))]
def T_13:L0:=[(`IV,f_2 λa b=>`([cx,3,[[mo,40],.ex [ef,41,[am],.av [V] $a,.av [V] $b]]])),
(`IW,f_0 `(ns.take ([ao]+1)=ns.take [ao]++[[mg,[ao]]])),
(`IX,f_0 `(cV [fg,6,mo] [3] [aT,sD] [qb,Q,W,O,Z] S)),
(`IY,f_1 λa=>`([A,[jt]/\[lw],[dA,e,[dm,$a,[cf,cB l x d]]],[aX]])),
(`IZ,f_2 λa b=>`([om,.and (.le [tF] [fd,8]) (.and (.b1 $a [aK]) ($b))])),
(`I_,f_0 `(DX.all [aF,Bc T0 K [L].1 [L].2 [Z]])),
(`Ia,f_0 `(ao ([fK,i]<[fK,j])||([fK,i]==[fK,j]&&ao (j<i)))),
(`Ib,f_1 λa=>`(i=0\/i=1\/i=2\/i=3\/i=4\/i=5\/i=6\/i=7\/i=8\/$a)),
(`Ic,f_2 λa b=>`(Ui (m.extBut $a D.i1z) (rE.extBut $a D.l1z) L λJ i$b:ident=>[cA])),
(`Id,f_0 `(∃z,fX (E a) t (C x)=aa z/\b z S=[dy,E (f a x)])),
(`Ie,f_2 λa b=>`(λj d e=>by rcases ki e with⟨rfl,_,_⟩|⟨_,e⟩;rw[aq,$a:term,$b:term])),
(`If,f_0 `([f6]≠[ak,t]/\[f6]≠[aE,t]/\[ak,t]≠[aE,t])),
(`Ig,f_0 `(o.data=.seq az n/\az.size<=bS/\bq xs az.toList)),
(`Ih,f_4 λa b c d=>`({X with eA:=s,sX:=H,env:=G,outer:=X.stack,ex:=$a,fn:=λx=>$b==[kf],pn:=$c,xe:=$d})),
(`Ii,f_2 λa b=>`(∀{P:[h]}{B}{i:Nat}{m},P.Nodup->([cT,P])->([aZ,B,v])->$a->$b=[cX])),
(`Ik,f_0 `(λ_ f np h=>let z:=g.fx hh f _ h;#[z.ex,z.kp])),
(`Il,f_1 λa=>`([d4,∃p xs i v,x=[dq]/\y=[aQ]/\$a/\oF xs i=[cX]/\Q v H])),
(`Im,f_1 λa=>`(#[2,7,ae,[[dZ,.new 15 [[aK]]],[ew,[3],[am],$a],[ql]]])),
(`In,f_2 λa b=>`(C.get? [ar]=aa $a->C.objs.size=[bN]->([di,b≠it,[l',C.get? b]])->$b)),
(`Io,f_1 λa=>`(T.done $a Y Y Y O i [] s5 _ H5 [qf] I5 (nz I5 n5) qm stop)),
(`Ip,f_1 λa=>`([cZ,[ds],x::_,[ap,$a,[be,sD x,[cM,[aw]]],[w_]],[],[w_]])),
(`Iq,f_0 `([.jS 3 [av] (.add (.iU [ai] [av] [bf]) [a6])])),
(`Ir,f_0 `(.xd (yz "line" "place" "why" [aQ] [c2] [l,k]))),
(`Is,f_2 λa b=>`(λ(n,k)=>[A,k==$a&&sc.kind==[km]&&[n_,n]==[kf],(n,$b),(n,k)])),
(`It,f_1 λa=>`(λa e z q T=>[aV,dF $a _ _ (λx _=>by rfl),Oc])),
(`Iu,f_0 `([ap,pre S _,acc::gA S _ _ r,gA S 0 _ r]=_)),
(`Iv,f_2 λa b=>`(fj ([dp]+1) [uc,[S],[b7],$a,0] Y Y $b [f7] (λh=>[c_,Y,h]))),
(`Iw,f_2 λa b=>`(wz [aJ,fu $a Y (x:=[m,TO]) Y [aJ,n8 $a (by simp) λha T$b:ident=>[hZ]]])),
(`Ix,f_1 λa=>`(#[[aY],_,I.EJ O e (by simp) (r.append $a) ?_,Y,q])),
(`Iy,f_0 `([bC,.ge [ri] (.g 14),[rD,[aK],27,9]])),
(`J,f_2 λa b=>`(pg $a (.fn $b))),
(`J',f_0 `(#[c.nd,by simp,λb J l L e=>?_])),
(`J0,f_3 λa b c=>`(∀a e z q T,eJ (turn (cf k) $a [$b] [] [a,e,z,q]) _ T=[be,$c,T])),
(`J1,f_0 `(aa ((e.set i [cb,x]).set j [cb,y]))),
(`J2,f_1 λa=>`([uZ,h,ajv #[[dQ],_,[uH,[uk],$a],Y,h _ [mt]]])),
(`J3,f_0 `([bk,.sub [bf] (.ix [am] [aK]),[aK]])),
(`J4,f_0 `([.int lo t,.int hi u,.int 1 v])),
(`J5,f_3 λa b c=>`(Rd H a $a\/∃(o:bn)(az:[lB])(n:Nat),[e8,a]=[a']/\o.cls=$b/\$c)),
(`J6,f_0 `(ur b (cy c) [l8,x.uses,x.coupons])),
(`J7,f_0 `([k9,X.K,r0,F0,H0,([bt,J]>>=f) S]))]
def T_14:L0:=[(`J8,f_0 `(eu [eV,[cI]] [iZ] S=[ab,[K,[[c5]]]])),
(`J9,f_0 `(λx=>[A,[bG]=0,[],rM b [S] [bG]])),
(`JA,f_2 λa b=>`(($a).Pairwise (lp rs)/\($a).Perm $b)),
(`JC,f_1 λa=>`(let [iu,O,a]:=h;#[env,O,S,r,F,_,$a,c,P,a])),
(`JD,f_0 `([A,v<0,[hj,v+[kO]],ek v.toNat n])),
(`JE,f_0 `(λb u e z=>[az,[M,W b z],e,e])),
(`JG,f_0 `(tj (line:=line) (ws:=ws) (n:=n) hr)),
(`JH,f_0 `(∀e,fO [m2] (s::A) (l6 T X.K Z EF b))),
(`JI,f_0 `((l.any [qr,x])=B.any [aF,ao ([L]=j)])),
(`JJ,f_0 `(.app [am] [bk,[av],[p',[bf],.g 15]])),
(`JK,f_0 `(λa=>D.tup [tD a,[iY,m9 b [ge] a]])),
(`JL,f_1 λa=>`(let#[m,u]:=$a;#[#[m,u.pt,mO m [f]],λ_=>u])),
(`JM,f_0 `([[gb]+4,[gb]+2,[gb]+3,[gb],[gb]+1])),
(`JN,f_1 λa=>`(g σ H λx e=>∃d o B,x=[m,d]/\e d=[uh]/\$a)),
(`JO,f_0 `([[me,[fT],.ee 3 [fh,63,[c1],[fT]]]])),
(`JP,f_0 `(∀l:[kh],[Q,l.flatMap [A4]]=[E]*2)),
(`JQ,f_0 `([[cb,bk],[oL],[cb,q],[kl],h,j,[W]])),
(`JR,f_0 `(∀c,t.cap=aa c->[eP,c,10000000])),
(`JS,f_1 λa=>`(#[Y,I.turned (t':=s.toks) $a f0 f1 f3 f4 f5])),
(`JT,f_0 `(noStar a&&rz B&&c.bt S r "enumerate")),
(`JU,f_1 λa=>`(λA i s Q E st h=>let#[#[_,$a],_]:=st;Jl $a h)),
(`JV,f_1 λa=>`([nX,gE [rS] (aa [bd,q+1]) (aa [bd,q+1+$a]) T])),
(`JW,f_1 λa=>`([R,b.bundles.zip A.bs,$a]++[hU [wR] (aa [ad])])),
(`JX,f_0 `(λa e=>[aU,e,#[o,f,[ak,L]]])),
(`JZ,f_0 `(λh' tk k=>#[_,H,I.kept k,?_,q])),
(`J_,f_2 λa b=>`(ajM (ajN (p9 g.inv $a $b ?_ hd)) (by intro z;cases z))),
(`Ja,f_6 λa b c d e f=>`(#[[q,$a,$b],[q,$a,$c],[q,$a,$d],[q,$a,$e],$f])),
(`Jb,f_1 λa=>`(λT=>by rw[Kf _ _ _ [g] ([bE]),<-yZ,g2,<-CA,[gf,q+1+$a-(q+1)=$a]])),
(`Jc,f_2 λa b=>`((∃o,$a=[a']/\o.cls=[bT,"StopIteration"])->E [m,e] [cv,$b])),
(`Jd,f_0 `(λpins st σ H N I z=>h _ _ _ H N I [u4])),
(`Je,f_0 `([ap,c.share,[uJ,base*c.value],c.value])),
(`Jf,f_1 λa=>`([bG]*aH [fb,[S].parts.filter [aF,[L]==$a],[Z]])),
(`Jg,f_3 λa b c=>`([bC,.pC [fd,$a] [aK] [fd,$b],[b4,.ix (.g $c) (.sub [aK] [fd,$a])]])),
(`Jh,f_1 λa=>`(s0 (d1:=$a) jF n G A B #[_,bW,?_,q.put u y] g2)),
(`Ji,f_0 `(x.volume.length<=5/\x.steps.length<=5)),
(`Jj,f_1 λa=>`(λl T q p u=>U l T q p λb o z a e=>u b o z a $a)),
(`Jk,f_0 `([bC,[g',33,[[aS,[mF]]]],[fC,[qB,[ha]]]])),
(`Jl,f_2 λa b=>`([aA,c7 X.prog X.w H s.heap $a (.ext _),I.aO $a _ $b].1)),
(`Jm,f_0 `([A,[jt]/\[jv,D.atom],[ci,jX x l],bad])),
(`Jn,f_0 `(((zu ..).extBut.push _).push _))]
def T_15:L0:=[(`Jo,f_0 `(a8 (J _ s _ H Q I h) λc j e=>?_)),
(`Jq,f_0 `(∀a o,([jS])->a≠T.tab->H' a=[a'])),
(`Jr,f_0 `([pI,[ig]]=[(af,[eN,a]),(af,[eN,b])])),
(`Js,f_0 `(Builtin.«zip.__next__» #[[[m,z]],[]])),
(`Jt,f_0 `(upd [cw,c,.ext j] P (.fL (ps++B)))),
(`Ju,f_0 `(∀i v,([aZ,G,v])->∃t,v=o_ (val i) t)),
(`Jv,f_0 `(λt' k=>#[[dE],H,I.tok k,#[t',Y],h])),
(`Jx,f_0 `(λ(m:Nat)=>xs[[hj,i+[an,m]*1]]?)),
(`Jy,f_0 `(nY (oV I b.gl b.mg b.bt ?_ b.nm b.db))),
(`Jz,f_0 `(.Tuple [.Name x _,.Name y _] _ _)),
(`K,f_1 λa=>`(.str $a)),
(`K',f_0 `(A.all++[[ad],[ad]+1,[ad]+2])),
(`K0,f_0 `(aa (T,d.elim [a0] λf=>fv f))),
(`K1,f_1 λa=>`(.Compare a [$a] [.Constant [a0] j f] pos)),
(`K2,f_0 `(λx=>G9 x ag _ (by simp))),
(`K3,f_0 `([A,x=y,lexLt xs ys,ao (x<y)])),
(`K4,f_0 `([cZ,G S,.ex _ _ _,[aX],r,r])),
(`K5,f_0 `([gp,S[n]?,c,[ab,(n,c)],[aX]])),
(`K6,f_1 λa=>`(((en b).zip $a).filterMap λx=>[GR])),
(`K8,f_0 `(∀name,IY name j=aa (mA name))),
(`K9,f_2 λa b=>`([[cr],[jd],[fH,[ju]],[fH,[f5,nD]],[lv,[ge],pD],$a,$b])),
(`KA,f_0 `([eD,[aF,[A,[L]=j,([L],v),p]]])),
(`KB,f_0 `(Walks prog w A.in1 I fp wr n P St)),
(`KC,f_0 `([cY,5,28,[[bA]],[d7,[qs],n]]=_)),
(`KD,f_0 `(λn a e=>y.pre n a (x.pre n a e))),
(`KE,f_3 λa b c=>`([gc,comprehension $a $b X.env $c (newList []) af [eN,F] oZ,Qf,s])),
(`KF,f_0 `(c_ b=d3 b++(df b++(en b++[e1])))),
(`KG,f_4 λa b c d=>`(a8 (U pins s σ H _ I h) λC$a:ident#[x,$b,$c,N,d,o,$d,ex,hd,q]=>?_)),
(`KH,f_1 λa=>`([A,x=c,[]::$a,[yi,$a,[x],x::w]])),
(`KI,f_0 `(λv I=>(mx.mp nd).1 [M,kb I])),
(`KJ,f_0 `(s.heap.IsCell c v->h'.IsCell c v)),
(`KK,f_2 λa b=>`(∀(i j:Int)(t u:iz)(s:aD)(Q:[em])(E:[em]),$a->$b)),
(`KL,f_1 λa=>`(∀b,b≠T->[sw,T,Jr $a].get? b=[wD,b])),
(`KM,f_0 `([a9 [AU]]++x.volume.map [tb,[qU]])),
(`KN,f_0 `([jU,λx j q N#[B,W,z,m]=>?_])),
(`KO,f_1 λa=>`(LQ (X:=$a) HG HI HJ HH λs11 HK=>fj HK nx)),
(`KP,f_1 λa=>`([A,[lw],[dA,e,[dm,$a,[X,l++[d]]]],[aX]])),
(`KQ,f_1 λa=>`(Q [fs] [cv,[hR,[i7,"tuple",.seq [hg,$a]]]])),
(`KR,f_1 λa=>`(I.bk.St (line:=line) (ws:=ws) (n:=$a) hra)),
(`KS,f_2 λa b=>`([hL,$a,[nl,b],y,[fe,bH y S,y,gx x y S,r,[dU,$b]]]))]
def T_16:L0:=[(`KT,f_0 `(λs o=>by cases o<;>simp[jd])),
(`KU,f_0 `(kv (BB X.K) (Fs i) (tC [l,k]))),
(`KW,f_0 `(Qa U.isList λS G st j=>?_)),
(`KX,f_0 `(bK _ [K,[i']]=b.rounding.map _)),
(`KY,f_1 λa=>`((x,c)∈$a->(y,c)∈$a->x=y)),
(`KZ,f_0 `({D with nx:=N,ct:=N,bk:=D.nx})),
(`K_,f_0 `(λz=>[aE,j c z].1 x c e Y)),
(`Ka,f_0 `(#[[b3],H,[hp],#[s.toks+1,[f]],q])),
(`Kb,f_0 `(∃o,[gl]/\∀v,o.data≠.cell v)),
(`Kc,f_0 `([A,[L]=f,(f,v)::r,p::dV r f v])),
(`Kd,f_1 λa=>`(∀i,(S++$a)[[ad]+i]?=($a)[i]?)),
(`Ke,f_1 λa=>`(#[_,Y,ajC (s:=[cv,$a]) z' λny HP sb=>?_])),
(`Kf,f_1 λa=>`([qA,.set i _]=(do let d←Ir.jz $a _;[gg]))),
(`Kg,f_2 λa b=>`(match f with|.nx $a=>$b|.bk $a=>[dy,$a]|.rt x=>[iz,x])),
(`Kh,f_0 `(ajr yM (T.self X.A 0 _ _ _ yL yM))),
(`Ki,f_0 `(.ex [eo,55,.new 13 [[V],[av]]])),
(`Kj,f_0 `([hf][i]?=ag\/t5.toArray[i]?=ag)),
(`Kk,f_0 `({[ov]with free:=aa (f.1,G.1)})),
(`Kl,f_0 `(λh' G=>#[Y,[tT,o,e,G b o J e]])),
(`Km,f_0 `(λh' Z=>#[Y,[tT,o,e,Z b o J e]])),
(`Kn,f_1 λa=>`(b9 (yf (pos:=pos) (Bz hu $a) x.pe J.pr q) st)),
(`Ko,f_0 `(c9 (lW _ _ 100000000000 ?_) ?_)),
(`Kp,f_0 `(a8 [r9] λc j#[H1,S,q]=>?_)),
(`Kq,f_0 `(a8 [r4] λd j#[H1,S,q]=>?_)),
(`Kr,f_0 `([xP].push [k0,[hg,([]:[dW])]])),
(`Ks,f_5 λa b c d e=>`(∀($a:ident :$b)(pins:[eH])(s:aD)(σ:St)(H:Hp)(Q:$c->[dM]),([ah])->t σ H Q->[hI,$d,$e])),
(`Kt,f_0 `(.ListComp l [#[a,F,d,0]] f pos)),
(`Ku,f_2 λa b=>`(λN cls W H#[c,B,Q,$a,$b,r,F,S,e,a,G,x,h]=>?_)),
(`Kv,f_1 λa=>`(∀(s:aD)(H:Hp)(iJ:ai)(cl:[fy,ai])(fp:[bc]),$a)),
(`Kw,f_0 `([[ct,[fh,67,[av],[ik,20,[a6]]]]])),
(`Kx,f_3 λa b c=>`([g1,[e8,$a],aa #[_,_,.func l,_],[g1,l.body,.stmts $b,$c]])),
(`Ky,f_0 `(∀x,Uh it s.heap x->Q ag [cv,x])),
(`Kz,f_0 `([ap,x.atom,[ci,[es,bK l x]],bad])),
(`L,f_0 `(p.1)),
(`L',f_0 `([en,[dx],"extend",t,[e],k])),
(`L0,f_0 `(#[λd q=>([bO]),[bL]])),
(`L1,f_1 λa=>`(∀{B}{m},(∀v,(x,v)∉B)->$a=m x)),
(`L2,f_0 `([op,dq b l i,a,gw b a [aa]])),
(`L3,f_1 λa=>`(ajj [mS] [g] [f] [g] ([bb]) $a)),
(`L4,f_1 λa=>`(g.bt z $a ([af]) ([af])))]
def T_17:L0:=[(`L5,f_0 `(.ex (.lh [V] [[aK],[am]]))),
(`L6,f_0 `([iv,W b o J [hO,u.2 b J]])),
(`L7,f_0 `([5,6,7,8,9,10,11,12])),
(`L8,f_0 `(Dj "object.__getattribute__")),
(`L9,f_1 λa=>`(∀S s',([c7,H,s'])->bB $a S->Q S s')),
(`LA,f_0 `([et,.aW (T.eB c) p fs]/\[sc])),
(`LB,f_0 `(∀N σ H,t' N σ H->t N σ H)),
(`LC,f_0 `([.mS 2 [IR] (.ix [a6] [c1])])),
(`LD,f_0 `([99,111,117,112,111,110])),
(`LE,f_0 `((S++[c]).set [ad] a=S++[a])),
(`LF,f_1 λa=>`(m.St (line:=line) (ws:=ws) (n:=$a) hra)),
(`LH,f_1 λa=>`(w=[fZ]/\t b=[hN,us]/\[aR,us,k,C]/\$a)),
(`LI,f_1 λa=>`(∀h,X.K.In h->[wN,$a,X.prog,X.w])),
(`LJ,f_3 λa b c=>`(λσ H R=>[nj,B,$a,∃a$b:ident,B=[[aL]]/\bp K $a a $b/\R ($c) $a])),
(`LK,f_0 `(a=[f6]\/a=[ak,t]\/a=[aE,t])),
(`LL,f_0 `(KdxSt s.heap it d S i [fx] ep)),
(`LM,f_0 `([AH,"dict_itemiterator",[F2]])),
(`LN,f_2 λa b=>`(Aj T X pins σ r S F0 H0 rs a kS f c e1 [wH] $a $b)),
(`LO,f_0 `(λA i s Q E st h=>Jn st.1 h)),
(`LP,f_0 `([ap,k.atom,bC (bK l k),bad])),
(`LQ,f_1 λa=>`(λb ps q=>#[[cd],by rw[$a:term,q];simp])),
(`LR,f_1 λa=>`([Bn,bs,List Bool,bs.map V.bl,[iS,$a]])),
(`LS,f_0 `(G=[be,[X,[f5,D.int]],bw x])),
(`LT,f_0 `(λσ H Q z=>st _ H _ (qX z))),
(`LU,f_0 `(q.extBut b o J (c b o J e))),
(`LV,f_0 `(Al Y u B.nd.1 B.nc.1)),
(`LW,f_0 `(xx [nO]||(! c.bY&&xH [nO]))),
(`LX,f_1 λa=>`([jD,6,[zk],.cS [4] 1 [[V]] $a,[ai]])),
(`LY,f_1 λa=>`(∀a∈[lx],rise a/\[b',a,[eP,x,$a]])),
(`LZ,f_0 `(bK _ [K,[im]]=b.cash.map _)),
(`L_,f_0 `(Gd.jn λw W=>[bq,g.it w W])),
(`La,f_0 `(hJ r2 F2 H2 a2.pre a2.fr c2.sub)),
(`Lb,f_0 `(λO=>z x L x (by simp[O]) Y)),
(`Lc,f_1 λa=>`(zn Jq (C_ _ _ _) T7 (T8 _ _) $a ?_)),
(`Ld,f_0 `(.Compare a [j,n] [b,c] pos)),
(`Le,f_0 `([dZ,.qO (.g 18) [g',29,[]]])),
(`Lf,f_2 λa b=>`([ej,.AugAssign (.Subscript [dx] k t) $a e pos,$b])),
(`Lg,f_0 `(Ir.run Ir.prog 40 146 [[rS]] [])),
(`Lh,f_1 λa=>`([Bo,[qL,$a],[be,y,S'],[be,aa y,S'],S'])),
(`Li,f_0 `([H,#[_,_,Y,Y,[dO,c,h,Y]]]))]
def T_18:L0:=[(`Lj,f_0 `(X.lB s3 H3 c8 ce fp xb [yM])),
(`Lk,f_0 `(λb o _ _ O e _=>k b o O e)),
(`Ll,f_0 `(kK "min"++kK ".loop"="min.loop")),
(`Lm,f_0 `([me,[e5,[V]],[rD,[aK],27,6]])),
(`Ln,f_0 `([.pB 3 [IR] (.mul [a6] [fT])])),
(`Lo,f_0 `([cv,[hR,C4].push (zc C [ar])])),
(`Lp,f_0 `(kK "max"++kK ".loop"="max.loop")),
(`Lq,f_2 λa b=>`([b4,.comp [bk,[gk,[fT]],$a] [7,8] 5 [$b,[av]] []])),
(`Lr,f_0 `(t.over≠0->[t0,t.over]=af)),
(`Ls,f_0 `(λb o O e=>#[o,k b o O e])),
(`Lt,f_0 `([oh,a,D,env,[bn,a],O j≠p])),
(`Lv,f_1 λa=>`(([gR])->jt T X.K r F H d v->$a->G [v] H Q)),
(`Lw,f_1 λa=>`(iy b h $a=ib (aZ (jE b h $a) nl))),
(`Lx,f_0 `(PE X (.Compare a _ _ pos) _)),
(`Ly,f_2 λa b=>`(Tf (a:=x.name) (l₁:=[mu,[qq]]++$a) (l₂:=$b))),
(`Lz,f_1 λa=>`(J1 he.pe (K7 $a hk.pe (Kj hu) ha) hs W m)),
(`M,f_1 λa=>`($(a).1)),
(`Ma,f_0 `([A,v<0,[hj,v+n],ek _ n])),
(`Mb,f_0 `(#[I.se.ro,I.se.ca,I.se.lz])),
(`Mc,f_0 `(#[I.w2.f',I.w2.ap,I.w2.qV])),
(`Md,f_0 `([("line":au),"place","why"])),
(`Me,f_1 λa=>`(kH K $a/\∀f∈j2,oH K $a f)),
(`Mf,f_0 `(Ir.M.bind (Ir.iI d) _ _=_)),
(`Mg,f_0 `([([aa],kL (cC b [aa]) [rZ])])),
(`Mh,f_0 `(#[j,v,[],Y,L,q,by rfl])),
(`Mi,f_0 `([es,Ir.bK l x]=[es,fP f k])),
(`Mj,f_0 `([fF]=j.1\/[uR,[xd]]=ae)),
(`Mk,f_0 `(λj=>[A,j=i,p,O j])),
(`Ml,f_1 λa=>`(λ{s' H'}I' nx=>by rw[K,m',hm,w',HF H' nx];rw[a0,yO,[ev,$a,∀o,s7.heap.get? b=[a']->[DK]/\[iO]],λb J o e=>let z:=I'.eI (b,o) [x5];#[[cK],[fD]],U,[Q,[Au]]=nB.length,by rw[<-yN,rA],#[m',hm,i+1,H',(I'.uX (pins:=[])).weak U (λj v e=>?_),T.keep _ _ _ rH λb J o e=>[M,yO b J o e],[fo],w']];{rw[aP,yN,e];exact [M,BI e]};{obtain⟨o,e,_⟩:=T.obj _ _ rH b J;exact [bq,yO b J o e]})),
(`Mm,f_2 λa b=>`((jB.find? [aF,ao (J=[nn])])=aa ($a,$b))),
(`Mn,f_0 `(hd _ ([rJ]))),
(`Mo,f_0 `(x=[aL])),
(`P,f_0 `(Prop)),
(`Q,f_1 λa=>`($(a).length)),
(`R,f_2 λa b=>`($(a).map $b)),
(`S,f_0 `(x.1)),
(`V,f_0 `([f8,2])),
(`W,f_0 `(.un)),
(`X,f_1 λa=>`([ax,$a])),
(`Z,f_0 `(p.2))]
def T_19:L0:=[(`a',f_0 `(aa o)),
(`a0,f_0 `(.none)),
(`a3,f_1 λa=>`($a=ae)),
(`a4,f_0 `(List Int)),
(`a6,f_0 `([f8,5])),
(`a8,f_1 λa=>`(.av [aK] $a)),
(`a9,f_0 `([fd,1])),
(`aA,f_2 λa b=>`(show$a from$b)),
(`aC,f_1 λa=>`(.inr $a)),
(`aE,f_1 λa=>`($(a).2.2)),
(`aF,f_1 λa=>`(λp=>$a)),
(`aH,f_0 `(Type)),
(`aJ,f_1 λa=>`(am $a)),
(`aK,f_0 `([f8,0])),
(`aL,f_0 `([m,a])),
(`aM,f_0 `(.nil)),
(`aO,f_2 λa b=>`([Q,$a]<=$b)),
(`aP,f_0 `(Wf b)),
(`aQ,f_0 `([l,i])),
(`aR,f_3 λa b c=>`($(a)[$b]?=aa $c)),
(`aS,f_1 λa=>`(.c [K,$a])),
(`aT,f_1 λa=>`(l.map $a)),
(`aW,f_0 `([ax,l])),
(`aX,f_0 `(.bad)),
(`aY,f_0 `(.a0)),
(`aZ,f_2 λa b=>`([aR,$a,i,$b])),
(`aa,f_0 `(i+1)),
(`ab,f_1 λa=>`([be,$a,S])),
(`ad,f_0 `(S.length)),
(`ah,f_0 `([c7,H,s])),
(`ai,f_0 `([f8,3])),
(`aj,f_0 `(List Nat)),
(`ak,f_1 λa=>`($(a).2.1)),
(`al,f_0 `(List D)),
(`am,f_0 `([f8,1])),
(`an,f_1 λa=>`(($a :Int))),
(`ao,f_0 `(k+1)),
(`ap,f_3 λa b c=>`([A,$a=ae,$b,$c])),
(`aq,f_2 λa b=>`(SE T Z E X $a $b)),
(`ar,f_0 `(s.heap.objs.size))]
def T_20:L0:=[(`av,f_0 `([f8,4])),
(`aw,f_0 `(n+1)),
(`ax,f_1 λa=>`(.lst $a)),
(`ay,f_1 λa=>`([bm,[l,$a]])),
(`b',f_2 λa b=>`(∀x∈$a,$b)),
(`b1,f_1 λa=>`(Ir.M.pure $a)),
(`b3,f_0 `(.int _)),
(`b4,f_1 λa=>`([bl,$a])),
(`b5,f_2 λa b=>`(#[3,$a,af,$b])),
(`b6,f_0 `([cf,l])),
(`b7,f_0 `(y.1)),
(`b8,f_0 `(ax nm st b)),
(`b9,f_0 `(.lst _)),
(`bA,f_0 `([m,r])),
(`bB,f_0 `([Fq,K])),
(`bC,f_2 λa b=>`(.iff ($a) [$b] [])),
(`bF,f_2 λa b=>`(.cons $a $b)),
(`bG,f_0 `(x.2)),
(`bH,f_2 λa b=>`(($a==$b)=af)),
(`bI,f_0 `([ax,[]])),
(`bJ,f_2 λa b=>`(s.heap.get? $a=aa $b)),
(`bK,f_0 `(b.coupons.length)),
(`bL,f_0 `(λ_=>rfl)),
(`bM,f_0 `([ak,x])),
(`bN,f_0 `([ar]+1)),
(`bP,f_1 λa=>`([a_,$a:term])),
(`bQ,f_0 `(aU _ _ Y Y Y)),
(`bR,f_0 `(b.items.length)),
(`bS,f_1 λa=>`([be,[l,$a],S])),
(`bT,f_1 λa=>`(.type $a)),
(`bU,f_3 λa b c=>`([q,bR (h.ne $a $b Y Y Y),$c])),
(`bV,f_3 λa b c=>`($(a).bd λ$b:ident S=>$c)),
(`bW,f_0 `(a.length)),
(`bX,f_1 λa=>`(.av [am] $a)),
(`bY,f_2 λa b=>`($(a).trans $b)),
(`bZ,f_2 λa b=>`(.call $a $b)),
(`bc,f_0 `(List ai)),
(`bd,f_1 λa=>`(($a :Nat))),
(`be,f_2 λa b=>`(.ok $a $b)),
(`bf,f_0 `([fd,0]))]
def T_21:L0:=[(`bg,f_1 λa=>`(Option $a)),
(`bj,f_1 λa=>`(.bl $a)),
(`bk,f_2 λa b=>`([bw,[$a,$b]])),
(`bl,f_1 λa=>`(.ret $a)),
(`bm,f_1 λa=>`([cb,$a])),
(`bn,f_1 λa=>`(.own $a)),
(`bo,f_0 `(bV hr)),
(`bp,f_0 `(x::r)),
(`bq,f_1 λa=>`($(a).2)),
(`bs,f_1 λa=>`([cE,3,$a])),
(`bt,f_1 λa=>`(Ir.ah Z $a env)),
(`bu,f_0 `(B.length)),
(`bw,f_1 λa=>`(.tup $a)),
(`c',f_2 λa b=>`(pg $a (.dg $b))),
(`c0,f_0 `(λ_ _ e=>e)),
(`c1,f_0 `([f8,6])),
(`c2,f_0 `([l,j])),
(`c4,f_1 λa=>`(bX.mp $a)),
(`c5,f_0 `(sg c)),
(`c6,f_0 `(aK X.prog X.w)),
(`c7,f_2 λa b=>`(ak X pins σ $a $b)),
(`c8,f_1 λa=>`([bm,[m,$a]])),
(`c9,f_0 `(h.objs.size)),
(`cA,f_0 `(bg ?_)),
(`cB,f_0 `(i-1)),
(`cC,f_1 λa=>`(D.int $a)),
(`cD,f_0 `(b.taxes.length)),
(`cE,f_2 λa b=>`(.set $a $b)),
(`cF,f_0 `(xs.length)),
(`cG,f_0 `(X.ci=ae)),
(`cH,f_0 `(b.items)),
(`cI,f_0 `(c::r)),
(`cK,f_0 `(z.1)),
(`cL,f_1 λa=>`(bp.of $a)),
(`cM,f_1 λa=>`([d7,S,$a])),
(`cN,f_0 `([h7,d,v])),
(`cO,f_4 λa b c d=>`([cY,$a,$b,$c,S]=[ab,$d])),
(`cP,f_1 λa=>`([an,($a :Nat)])),
(`cQ,f_1 λa=>`([aE,$a].1)),
(`cR,f_0 `(List V))]
def T_22:L0:=[(`cS,f_1 λa=>`([l7,$a,tk])),
(`cT,f_1 λa=>`([aZ,$a,x])),
(`cU,f_0 `(j+1)),
(`cV,f_0 `(q.1)),
(`cW,f_0 `(h.2)),
(`cX,f_0 `(aa v)),
(`cY,f_4 λa b c d=>`(run prog (k+$a) $b $c $d)),
(`cZ,f_5 λa b c d e=>`(match$a:term with|$b=>$c|$d=>$e)),
(`c_,f_2 λa b=>`(absurd $a $b)),
(`ca,f_1 λa=>`(Ir.ah Z $a _)),
(`cb,f_1 λa=>`(.val $a)),
(`cc,f_0 `(.val _)),
(`cd,f_0 `([ff,[]])),
(`ce,f_2 λa b=>`([aR,$a,j,$b])),
(`cf,f_1 λa=>`(.aV $a)),
(`cg,f_0 `([fr,l,B])),
(`ci,f_1 λa=>`(M.pure $a)),
(`cj,f_0 `(aa _)),
(`ck,f_0 `(aU _ S Y Y Y)),
(`cl,f_0 `([cT,X.N])),
(`cn,f_2 λa b=>`(PE X $a ($b))),
(`co,f_1 λa=>`(ah Z $a e S)),
(`cp,f_3 λa b c=>`([R,$a,λ$b:ident=>$c])),
(`cq,f_0 `([bH,x,"__debug__"])),
(`cr,f_0 `([cb,[b8]])),
(`cs,f_0 `(cZ _ Y)),
(`ct,f_1 λa=>`([cE,4,$a])),
(`cu,f_0 `(b.bundles.length)),
(`cv,f_1 λa=>`([mO,s,$a])),
(`cw,f_2 λa b=>`(upd H $a $b)),
(`cx,f_2 λa b=>`(#[2,$a,af,$b])),
(`cy,f_2 λa b=>`([bY,$a,$b])),
(`d',f_0 `([aq,e,a])),
(`d0,f_1 λa=>`([[b8],$a])),
(`d2,f_0 `(bw v)),
(`d3,f_1 λa=>`(tx (ay $a))),
(`d4,f_1 λa=>`([n0,y,$a])),
(`d5,f_0 `(_::_)),
(`d6,f_4 λa b c d=>`(match$a:term with|$b=>$c|_=>$d)),
(`d7,f_2 λa b=>`(St $a r line ws $b))]
def T_23:L0:=[(`d9,f_2 λa b=>`(#[1,$a,af,$b])),
(`dA,f_2 λa b=>`([be,.nx $a,$b])),
(`dB,f_1 λa=>`([M,dC.mp $a])),
(`dC,f_1 λa=>`(λb o e=>$a)),
(`dD,f_2 λa b=>`(cI X (eU $a) $b)),
(`dE,f_0 `(.str _)),
(`dF,f_0 `(List au)),
(`dG,f_0 `(Rel s v)),
(`dI,f_1 λa=>`($(a).symm)),
(`dJ,f_0 `(Gl X x)),
(`dK,f_0 `(h.1)),
(`dL,f_8 λa b c d e f g h=>`(a8 $a λ$b:ident$c:ident#[$d,$e,$f,$g,$h]=>?_)),
(`dM,f_0 `(Hp->[P])),
(`dN,f_1 λa=>`([X,[aT,$a]])),
(`dO,f_3 λa b c=>`(al.pure $a $b _ $c)),
(`dP,f_0 `(c.length)),
(`dQ,f_0 `(.ref _)),
(`dR,f_1 λa=>`(bA _ $a)),
(`dS,f_1 λa=>`([eF,[g_],$a])),
(`dT,f_0 `([pD,e,e])),
(`dU,f_1 λa=>`([ab,[bj,$a]])),
(`dW,f_0 `(List aq)),
(`dX,f_5 λa b c d e=>`([cO,$a,$b,$c,[dv,$d,$e]])),
(`dY,f_0 `([aE,x])),
(`dZ,f_1 λa=>`([cE,2,$a])),
(`da,f_1 λa=>`([R,$a,nD])),
(`db,f_0 `([K,s])),
(`dc,f_0 `(aH ws)),
(`dd,f_2 λa b=>`([[b8],$a,$b])),
(`de,f_2 λa b=>`(h.get? $a=aa $b)),
(`df,f_3 λa b c=>`([kJ,$a,[$b],$c,[]])),
(`dh,f_1 λa=>`($(a).objs.size)),
(`di,f_2 λa b=>`(∀b o,$a->$b)),
(`dj,f_1 λa=>`(bE Z $a e S)),
(`dk,f_0 `([f_,D,D])),
(`dl,f_0 `([cM,n])),
(`dm,f_2 λa b=>`(S.set $a $b)),
(`dn,f_0 `([l,n])),
(`dp,f_0 `([ak,y])),
(`dq,f_0 `([m,p]))]
def T_24:L0:=[(`dr,f_0 `(dz _)),
(`ds,f_0 `([fi,n])),
(`dt,f_0 `(k+2)),
(`du,f_7 λa b c d e f g=>`(eK $a λN σ H#[$b,$c,$d,env,$e,S,r,F,a,$f,P,A,h]=>$g)),
(`dv,f_2 λa b=>`([X,[R,$a,$b]])),
(`dw,f_0 `(aX [f])),
(`dx,f_0 `(.Name x p)),
(`dy,f_1 λa=>`([ab,.nx $a])),
(`e',f_0 `(fh b l)),
(`e0,f_0 `(Q+1)),
(`e1,f_0 `(d0 b)),
(`e2,f_4 λa b c d=>`(([l,$a],(.b4 [(.fn $b),[l,$c],[l,$d]])))),
(`e3,f_4 λa b c d=>`(bh [cY,12,$a,[[m,0],.lst $b,.lst $c],[d2]] s v (dD s $d))),
(`e4,f_0 `(I.ok.hd O)),
(`e5,f_1 λa=>`(.b1 .len $a)),
(`e6,f_1 λa=>`([aC,[H,$a]])),
(`e7,f_2 λa b=>`([aR,dI,$a,[l,$b]])),
(`e8,f_1 λa=>`(K.lookup $a)),
(`e9,f_1 λa=>`($(a).Nodup)),
(`eA,f_0 `([m,x])),
(`eB,f_0 `([bw,l])),
(`eC,f_1 λa=>`(I.list $a)),
(`eD,f_1 λa=>`(B.map $a)),
(`eE,f_2 λa b=>`(eF $a $b X.env [eN,$a]=[eN,$a])),
(`eF,f_2 λa b=>`(aE $a A ($b) Q E s)),
(`eH,f_0 `([f_,ai,bn])),
(`eI,f_0 `(S ([af]))),
(`eJ,f_1 λa=>`([aC,$a])),
(`eL,f_0 `(aU k S Y Y Y)),
(`eM,f_3 λa b c=>`(aG.mono $a $b _ _ $c)),
(`eN,f_1 λa=>`(aM $a X.env)),
(`eO,f_0 `(.bl _)),
(`eP,f_2 λa b=>`(1<=$a/\$a<=$b)),
(`eQ,f_1 λa=>`([aE,$(a).2])),
(`eS,f_0 `(x.length)),
(`eU,f_9 λa b c d e f g h i=>`(a8 $a λ$b:ident$c:ident#[$d,$e,$f,$g,$h]=>$i)),
(`eV,f_1 λa=>`([K,tx $a])),
(`eW,f_5 λa b c d e=>`([fe,[co,$a],$b,$c,$d,$e])),
(`eX,f_0 `(J::E)),
(`eY,f_1 λa=>`([cw,p,$a]))]
def T_25:L0:=[(`eZ,f_0 `(p::r)),
(`e_,f_1 λa=>`(I.tuple $a)),
(`ea,f_0 `(x.price)),
(`eb,f_1 λa=>`([aq,a,$a])),
(`ec,f_0 `(.free)),
(`ed,f_1 λa=>`(l.drop $a)),
(`ee,f_0 `(bF e)),
(`ef,f_4 λa b c d=>`([bZ,$a,[$b,$c,$d]])),
(`eg,f_2 λa b=>`(.dv [aK] $a $b)),
(`eh,f_1 λa=>`(Ir.bo $a)),
(`ei,f_3 λa b c=>`([$a,[l,$b],[l,$c]])),
(`ej,f_2 λa b=>`([hF,$a,dX T X.K Z E $b])),
(`el,f_0 `([ne,by simp])),
(`em,f_0 `(aq->aD->[P])),
(`en,f_5 λa b c d e=>`(.Call (.Attribute $a $b $c) $d [] $e)),
(`eo,f_2 λa b=>`([bZ,$a,[[aK],$b]])),
(`ep,f_0 `(Gx T Z W c X E)),
(`er,f_1 λa=>`(aa [m,$a])),
(`es,f_1 λa=>`($(a).isSome)),
(`et,f_1 λa=>`(H a=aa $a)),
(`eu,f_0 `(N.length)),
(`ev,f_2 λa b=>`(∀b∈$a,$b)),
(`ew,f_3 λa b c=>`(.cS $a 0 [$b] $c)),
(`ez,f_2 λa b=>`(∀t∈$a,$b)),
(`f,f_0 `(by grind)),
(`f',f_0 `([bH,x,"__classdict__"])),
(`f1,f_0 `([aE,y])),
(`f2,f_0 `(k+3)),
(`f3,f_1 λa=>`([cw,a,$a])),
(`f4,f_1 λa=>`(G.map $a)),
(`f5,f_1 λa=>`(a.map $a)),
(`f6,f_0 `(t.1)),
(`f7,f_0 `(fU _)),
(`f8,f_1 λa=>`(.v $a)),
(`f9,f_3 λa b c=>`(.ex 9 [ei,[l,line],$a,$b] $c)),
(`fA,f_1 λa=>`(P.step $a)),
(`fB,f_0 `(k+4)),
(`fC,f_1 λa=>`([cE,5,$a])),
(`fD,f_0 `([ak,z])),
(`fE,f_1 λa=>`([kU,x,$a]))]
def T_26:L0:=[(`fF,f_0 `(i.1)),
(`fG,f_0 `(hK hr)),
(`fH,f_1 λa=>`([cb,[X,$a]])),
(`fI,f_0 `([X,t.map D.int])),
(`fJ,f_2 λa b=>`([fh,$a,[am],$b])),
(`fK,f_1 λa=>`(rs.getD $a 0)),
(`fL,f_0 `([l8,C,a])),
(`fM,f_0 `(rs.length)),
(`fO,f_1 λa=>`($(a).map _)),
(`fP,f_0 `(Option _)),
(`fQ,f_0 `(gf [i_] x)),
(`fR,f_1 λa=>`([aR,S,a,$a])),
(`fS,f_1 λa=>`(gU $a _ [g])),
(`fT,f_0 `([f8,7])),
(`fU,f_0 `(gF b st)),
(`fV,f_0 `(List Sm)),
(`fW,f_0 `(J::G)),
(`fX,f_0 `(.ok x)),
(`fY,f_1 λa=>`((k,$a)::l)),
(`fZ,f_0 `([m,b])),
(`f_,f_2 λa b=>`(List ($a×$b))),
(`fa,f_0 `([H,Y])),
(`fb,f_2 λa b=>`([cp,$a,p,$b])),
(`fc,f_4 λa b c d=>`([A,$a=$b,aa $c,$d])),
(`fd,f_1 λa=>`(.c [l,$a])),
(`fe,f_5 λa b c d e=>`([bV,$a,$b,[bV,$c,$d,$e]])),
(`ff,f_1 λa=>`(List.toArray $a)),
(`fg,f_2 λa b=>`([oJ,[gd,$a],$b])),
(`fh,f_3 λa b c=>`([ef,$a,[aK],$b,$c])),
(`fi,f_1 λa=>`(ws.drop $a)),
(`fj,f_0 `(aa .local)),
(`fk,f_1 λa=>`(c.sub _ _ $a)),
(`fl,f_1 λa=>`(cT T X.K Z E $a)),
(`fm,f_1 λa=>`(X.mg x=aa [m,$a])),
(`fo,f_0 `(λb J=>?_)),
(`fq,f_0 `(fM _ [g])),
(`fr,f_2 λa b=>`(aY T K r F $a $b)),
(`fs,f_0 `([m,[ar]])),
(`ft,f_2 λa b=>`([bZ,$a,[$b]])),
(`fv,f_3 λa b c=>`(fl $a $b S=[ab,$c]))]
def T_27:L0:=[(`fw,f_0 `(n.toNat)),
(`fx,f_0 `(es.size)),
(`fy,f_1 λa=>`([f_,au,$a])),
(`fz,f_0 `(H b=ag)),
(`g,f_0 `(by omega)),
(`g',f_2 λa b=>`(.bG 13 [am] $a $b)),
(`g0,f_0 `(k+5)),
(`g1,f_3 λa b c=>`([d6,$a,$b,$c,af])),
(`g2,f_0 `([aT,f])),
(`g3,f_0 `([f8,i])),
(`g4,f_2 λa b=>`(∀p∈$a,$b)),
(`g5,f_0 `([cb,d])),
(`g6,f_2 λa b=>`(l.foldl $a $b)),
(`g7,f_0 `(sv s)),
(`g8,f_1 λa=>`(pg $a [vH])),
(`g9,f_0 `(g.1)),
(`gA,f_2 λa b=>`([Mo]/\$a/\$b)),
(`gB,f_0 `(x::l)),
(`gC,f_1 λa=>`(PE X e $a)),
(`gD,f_7 λa b c d e f g=>`([jU,λx$a:ident$b:ident$c:ident#[$d,$e,$f,m]v$g:ident=>?_])),
(`gE,f_0 `(X.env.locals)),
(`gF,f_1 λa=>`(aa (.builtin $a))),
(`gG,f_0 `(ws.length)),
(`gI,f_1 λa=>`(h $a (by simp))),
(`gJ,f_0 `(λx L=>?_)),
(`gK,f_0 `(Le.refl _)),
(`gL,f_0 `(ns.length)),
(`gN,f_0 `(Nat->Bool)),
(`gO,f_0 `([ad]+10)),
(`gP,f_0 `([bg,aq])),
(`gQ,f_3 λa b c=>`(cp G S $a $b=aa $c)),
(`gR,f_0 `([Fq,X.K])),
(`gS,f_0 `([m,it])),
(`gT,f_0 `(T.cU f)),
(`gU,f_0 `([dR,e])),
(`gV,f_0 `(#[_,Y])),
(`gW,f_0 `(Ts b ts)),
(`gX,f_1 λa=>`(bC $a S)),
(`gY,f_0 `(T.eB k)),
(`gZ,f_0 `(H p=ag))]
def T_28:L0:=[(`g_,f_0 `(aK prog w)),
(`ga,f_1 λa=>`([c_,$a,by simp])),
(`gb,f_0 `(L.heap.objs.size)),
(`gc,f_3 λa b c=>`(aE [c6] X.A ($a) $b X.xe $c)),
(`gd,f_1 λa=>`(cf (k+$a))),
(`ge,f_0 `(dJ b c C)),
(`gf,f_1 λa=>`(show$a by omega)),
(`gg,f_0 `(Ir.M.pure _)),
(`gh,f_6 λa b c d e f=>`(match$a:term with|$b=>$c|$d=>$e|_=>$f)),
(`gi,f_0 `(A.handled=ag)),
(`gj,f_0 `(Nat×Nat)),
(`gk,f_1 λa=>`(.ix $a [bf])),
(`gl,f_0 `([bJ,b,o])),
(`gm,f_0 `(bw [b8])),
(`gn,f_0 `(r.length)),
(`go,f_0 `([fi,1])),
(`gp,f_4 λa b c d=>`([cZ,$a,aa $b,$c,ag,$d])),
(`gq,f_0 `(G.length)),
(`gs,f_0 `(X.stack)),
(`gt,f_0 `(s.from_)),
(`gu,f_0 `([4,5])),
(`gw,f_0 `(List U)),
(`gx,f_0 `(f.2)),
(`gy,f_1 λa=>`([b',l,$a])),
(`gz,f_3 λa b c=>`([cp,br $a,$b,$c])),
(`h,f_0 `(List _)),
(`h',f_0 `(List kU)),
(`h0,f_0 `([gC,te])),
(`h1,f_0 `(ds.length)),
(`h2,f_0 `(λ_=>0)),
(`h3,f_0 `([dP]=[bR])),
(`h4,f_5 λa b c d e=>`(∀($a:ident :[h])($b:ident :$c),$d->$e)),
(`h6,f_0 `(g9 b l)),
(`h7,f_2 λa b=>`(aG T K r F $a $b)),
(`h9,f_3 λa b c=>`([di,b≠$a,$b->$c])),
(`hA,f_0 `(bB y u)),
(`hB,f_0 `([eb,l])),
(`hC,f_0 `([m,f])),
(`hD,f_0 `([m,l])),
(`hE,f_1 λa=>`(not_of $a))]
def T_29:L0:=[(`hF,f_2 λa b=>`(PS X $a ($b))),
(`hH,f_1 λa=>`([bF,$a,[aM]])),
(`hI,f_2 λa b=>`([gc,$a,$b,s])),
(`hJ,f_0 `([LD])),
(`hK,f_0 `([X,c.map nD])),
(`hL,f_4 λa b c d=>`([co,$a]=[eW,a,x,$b,$c,$d])),
(`hM,f_0 `(λc=>gN c||fm c)),
(`hN,f_1 λa=>`(aa [bw,$a])),
(`hO,f_1 λa=>`([bY,$a,e])),
(`hP,f_0 `([116,97,120])),
(`hQ,f_1 λa=>`([a3,$a==pos.line])),
(`hR,f_1 λa=>`(s.heap.push $a)),
(`hS,f_2 λa b=>`(([K,$a],(.fn $b)))),
(`hT,f_1 λa=>`([pR,($a>>=f) S])),
(`hU,f_1 λa=>`(Ir.bE Z ($a) _)),
(`hV,f_3 λa b c=>`($(a).all λ$b:ident=>$c)),
(`hW,f_2 λa b=>`(∀{l}{B},$a->$b)),
(`hY,f_1 λa=>`([R,$a,(·.2)])),
(`hZ,f_0 `(am ?_)),
(`ha,f_0 `([105,116,101,109])),
(`hb,f_0 `(iW T X.prog X.w X.K)),
(`hc,f_0 `(b.bundles.zip C)),
(`hd,f_5 λa b c d e=>`([jV,$a,$b,λd$c:ident$d:ident$e:ident=>[tQ,$a,$c,$d,$e]])),
(`he,f_1 λa=>`(bH ($a) S=[ab,$a])),
(`hf,f_0 `(az.toArray)),
(`hg,f_1 λa=>`($(a).toArray)),
(`hh,f_0 `([m,[ad]])),
(`hi,f_0 `(eM b [fW])),
(`hj,f_1 λa=>`($(a).toNat)),
(`hk,f_0 `([E]<=lim)),
(`hl,f_2 λa b=>`([q,aX $a,$b])),
(`hm,f_2 λa b=>`(_p ["book",$a,$b])),
(`hn,f_2 λa b=>`(.error ($a,$b))),
(`ho,f_0 `(σ.length)),
(`hp,f_0 `(I.tok _)),
(`hq,f_0 `(fA b ts)),
(`hs,f_1 λa=>`([pR,f $a S])),
(`ht,f_0 `(cC b i)),
(`hu,f_1 λa=>`([dv,$a,nD])),
(`hv,f_0 `(.bZ l))]
def T_30:L0:=[(`hw,f_0 `(b.taxes)),
(`hx,f_0 `(b∉ch)),
(`hy,f_0 `([f8,8])),
(`hz,f_1 λa=>`(ws.map $a)),
(`i',f_0 `([114,111,117,110,100])),
(`i0,f_1 λa=>`([t1,N++$a])),
(`i1,f_1 λa=>`(h'.get? $a)),
(`i2,f_0 `(bB v u)),
(`i3,f_0 `([ak,o])),
(`i4,f_0 `(R Flow)),
(`i5,f_0 `([co,a])),
(`i6,f_1 λa=>`([cx,2,$a])),
(`i7,f_2 λa b=>`({cls:=[bT,$a],data:=$b})),
(`i8,f_6 λa b c d e f=>`(dH [jo,$a,$b,$c,$d] [Et] line ws $e ($f))),
(`i9,f_4 λa b c d=>`([vf,[jo,$a,$b,[[jy],[bA]],$c],ws,$d])),
(`iA,f_0 `([bT,T])),
(`iB,f_1 λa=>`(.ok [bl,$a])),
(`iC,f_0 `(cW P w H h)),
(`iD,f_0 `(pre++[n])),
(`iE,f_1 λa=>`([aT,λx=>$a])),
(`iF,f_0 `(PE X a ta)),
(`iG,f_4 λa b c d=>`([cY,$a,$b,$c,S]=[bS,$d])),
(`iH,f_0 `(List dG)),
(`iI,f_2 λa b=>`(fa $a=aa (0,$b))),
(`iJ,f_0 `([nG,env])),
(`iK,f_0 `(bq xs us)),
(`iL,f_0 `(C.length)),
(`iM,f_1 λa=>`(a.trans $a)),
(`iN,f_2 λa b=>`(.ok ($a,n,$b))),
(`iO,f_0 `(H' b=ag)),
(`iP,f_1 λa=>`([aA,$a,rfl])),
(`iQ,f_1 λa=>`([Q,$a]<lim)),
(`iR,f_0 `([m,C])),
(`iS,f_1 λa=>`(Q [bj,$a] H)),
(`iU,f_0 `([dN,pD])),
(`iV,f_0 `(List Ex)),
(`iW,f_0 `([fd,2])),
(`iX,f_1 λa=>`(.ex c B $a)),
(`iY,f_1 λa=>`([dv,$a,pD])),
(`iZ,f_0 `([l,0]))]
def T_31:L0:=[(`i_,f_0 `(X.env.scope)),
(`ib,f_0 `([bw,[]])),
(`ic,f_0 `([ab,()])),
(`id,f_0 `([ab,d])),
(`ie,f_0 `([bn,d])),
(`ig,f_0 `([a,b])),
(`ih,f_1 λa=>`(D.lst $a)),
(`ii,f_1 λa=>`([wP,$a,l])),
(`ij,f_0 `(cy l)),
(`ik,f_2 λa b=>`(.ix [a8,$a] (.sub $b [a9]))),
(`il,f_1 λa=>`(bb (e::$a) X.env=(af,[eN,e])::bb $a X.env)),
(`im,f_0 `([99,97,115,104])),
(`io,f_1 λa=>`(Bt X x (.builtin $a))),
(`ip,f_6 λa b c d e f=>`(#[env,O,$a,$b,$c,$d,[fA,$e],$f])),
(`iq,f_0 `([nk,92])),
(`ir,f_1 λa=>`($(a).getD i 0)),
(`iu,f_2 λa b=>`(#[env,$a,S,r,F,c,P,$b])),
(`iv,f_1 λa=>`(λb o J e=>$a)),
(`iw,f_2 λa b=>`([bk,[l,$a],[l,$b]])),
(`ix,f_3 λa b c=>`(aZ ($a) λ$b:ident n C=>$c)),
(`iy,f_0 `(b.bundles)),
(`iz,f_1 λa=>`([ab,.rt $a])),
(`j',f_6 λa b c d e f=>`([cY,$a,$b,$c,S]=[ap,$d,$e,[kF,$f]])),
(`j0,f_2 λa b=>`(∀$a:ident,H $a=ag->Q [m,$a] [cw,$a,$b])),
(`j1,f_0 `([bH,x,("__debug__":au)])),
(`j2,f_0 `([111,102,102])),
(`j3,f_1 λa=>`(I.aO.fresh $a)),
(`j4,f_9 λa b c d e f g h i=>`(km (S:=S) (t:=$a) (b:=[fg,$b,$c]) $d $e $f $g $h $i)),
(`j5,f_1 λa=>`([aq,[fE,[e]],.b1 $a a])),
(`j6,f_2 λa b=>`(jP $a $b pos.line X.env=bx af)),
(`j7,f_1 λa=>`(∀S,$a=.ok _ S)),
(`j8,f_0 `([de,C,iS C N p k])),
(`j9,f_0 `(λb o e=>?_)),
(`jA,f_2 λa b=>`([l9,br $a,i,$b])),
(`jB,f_1 λa=>`(cx.of [fk,$a])),
(`jC,f_0 `([aq,b,l])),
(`jD,f_4 λa b c d=>`([b5,$a,[$b,$c,[bl,$d]]])),
(`jE,f_0 `(e::es)),
(`jF,f_2 λa b=>`(d5 "list" $a $b)),
(`jG,f_1 λa=>`([wG,pos,$a]))]
def T_32:L0:=[(`jH,f_0 `(.du l)),
(`jI,f_0 `(s'.heap)),
(`jJ,f_0 `(x.taxes)),
(`jK,f_1 λa=>`(L.drop $a)),
(`jM,f_3 λa b c=>`([d6,$a,$b,$c,[aX]])),
(`jO,f_0 `(cR b t)),
(`jP,f_1 λa=>`([R,$a,a9])),
(`jQ,f_1 λa=>`([f_,$a,Nat])),
(`jR,f_0 `([bj,b])),
(`jS,f_0 `([et,o])),
(`jT,f_0 `([m,q])),
(`jU,f_1 λa=>`([iu,O,[tr,$a]])),
(`jV,f_3 λa b c=>`(al T $a r F H ($b) $c E)),
(`jW,f_1 λa=>`(X.env.scope.names.lookup $a)),
(`jX,f_1 λa=>`([e5,[a8,$a]])),
(`jY,f_1 λa=>`({b with coupons:=[jz]++[$a]})),
(`jZ,f_4 λa b c d=>`(∀(s:aD)(H:Hp)(C:ai)($a:ident :[fy,ai])($b:ident :$c),$d)),
(`j_,f_0 `(s3.heap.objs.size)),
(`ja,f_0 `((fT b x.1,[bG]))),
(`jb,f_3 λa b c=>`(λ$a:ident=>[gH,$a:term,$b:term,$c:term])),
(`jc,f_3 λa b c=>`([ix,$a,$b,[iN,$c,C]])),
(`jd,f_0 `([fH,c.map nD])),
(`je,f_0 `([eV,x.name])),
(`jf,f_1 λa=>`(.Compare a [$a] [b] pos)),
(`jg,f_1 λa=>`([bw,[da,$a]])),
(`jh,f_0 `([bT,"list"])),
(`ji,f_0 `(ns.map V.int)),
(`jj,f_3 λa b c=>`(.of [pE,$a,$b,$c] [bL] [f])),
(`jk,f_0 `(tf b ts a i)),
(`jl,f_0 `(EP X pins σ Q)),
(`jm,f_0 `([98,121])),
(`jn,f_0 `(scope.names)),
(`jo,f_4 λa b c d=>`([cY,$a,$b,$c,[cM,$d]])),
(`jp,f_0 `([rN].rate)),
(`jr,f_4 λa b c d=>`([cZ,$a,[kZ],$b,.ok $c,$d])),
(`js,f_1 λa=>`([q,gm [g],$a])),
(`jt,f_0 `(x.atom=ae)),
(`ju,f_0 `(C.map nD)),
(`jv,f_1 λa=>`(l.all $a=ae)),
(`jw,f_0 `(.yes B))]
def T_33:L0:=[(`jx,f_1 λa=>`(([bg,$a])->Bool)),
(`jy,f_0 `([m,A.nb])),
(`jz,f_0 `(b.coupons)),
(`k',f_1 λa=>`(ak $a A b nm st n0 P)),
(`k0,f_1 λa=>`([i7,"list",.seq $a])),
(`k1,f_2 λa b=>`(.BoolOp .And ($a ::$b) pos)),
(`k2,f_2 λa b=>`(λσ H Q=>t σ H λ$a:ident H1=>$b)),
(`k3,f_0 `(∀x,nX F X.env x=bx x)),
(`k4,f_2 λa b=>`(.BoolOp .Or ($a ::$b) pos)),
(`k5,f_0 `(#[h,g,d,t,os])),
(`k6,f_0 `(own.map (·.2))),
(`k7,f_0 `(cC b i.toNat)),
(`k8,f_3 λa b c=>`([cY,$a,$b,[d0,$c],S])),
(`k9,f_5 λa b c d e=>`(al T $a $b $c $d ($e) (gy T $a $d N) E)),
(`kA,f_0 `(env[i]?)),
(`kB,f_0 `(je [] t)),
(`kC,f_0 `(p.isList)),
(`kD,f_0 `([bg,Nat])),
(`kE,f_0 `(5*[bR])),
(`kF,f_1 λa=>`(.ex $a [] S)),
(`kG,f_3 λa b c=>`(c.rep n _ $a $b $c)),
(`kH,f_0 `(jG x n)),
(`kI,f_0 `([dR,q])),
(`kJ,f_4 λa b c d=>`(.comp $a $b 0 [$c] $d)),
(`kK,f_0 `([bg,ai])),
(`kL,f_0 `(T.eW f)),
(`kM,f_0 `([tV,1])),
(`kN,f_0 `([gd,6])),
(`kO,f_0 `([an,n])),
(`kP,f_0 `([ak,i])),
(`kQ,f_0 `([mg,i])),
(`kR,f_0 `([l,a])),
(`kT,f_0 `([m,D])),
(`kU,f_2 λa b=>`(.Call (.Name $a p) $b [] pos)),
(`kV,f_6 λa b c d e f=>`({name:=$a,share:=$b,value:=$c,item:=$d,cap:=$e,least:=$f})),
(`kW,f_3 λa b c=>`(.of (b9 $a λσ H Q$b:ident=>$c) [bL] [f])),
(`kX,f_0 `([i7,"dict",.dict [cd]])),
(`kY,f_2 λa b=>`(lj (r1:=r) (F1:=F) (H1:=H) $a $b)),
(`kZ,f_0 `(.error e)),
(`k_,f_1 λa=>`(#[.bl _,H,$a,Y,q]))]
def T_34:L0:=[(`ka,f_1 λa=>`(b.coupons.map $a)),
(`kb,f_2 λa b=>`(fy X (.builtin $a) $b)),
(`kc,f_1 λa=>`([c7,$a,[l7,h',t']])),
(`kd,f_4 λa b c d=>`(PI X $a $b (j5 T X.K Z E $c $d))),
(`ke,f_0 `([rG,X.ex,X.pn])),
(`kf,f_0 `(aa [lZ])),
(`kg,f_2 λa b=>`([Q,$a]+[Q,$b]<=lim)),
(`kh,f_0 `([jQ,Nat])),
(`ki,f_0 `(gd L s.heap)),
(`kj,f_1 λa=>`(x.parts.map $a)),
(`kk,f_1 λa=>`((cf n).ar $a=2)),
(`kl,f_0 `([bn,[ax,N]])),
(`km,f_0 `(.function)),
(`kn,f_0 `(cf [ao])),
(`ko,f_0 `(2^62)),
(`kp,f_2 λa b=>`($(a).all $b=ae)),
(`kq,f_0 `([f5,sD])),
(`kr,f_2 λa b=>`([bZ,$a,[[ai],$b]])),
(`ks,f_0 `(B.toArray)),
(`kt,f_3 λa b c=>`([co,$a]=[bV,$b,x,$c])),
(`ku,f_5 λa b c d e=>`([dL,$a,v,$b,x,H1,$c,$d,$e])),
(`kv,f_0 `([aq,b,e])),
(`kw,f_0 `([rH,k,v])),
(`kx,f_0 `([de,b,o])),
(`ky,f_0 `([dm,a,c])),
(`kz,f_0 `([bk,x,y])),
(`l,f_1 λa=>`(.int $a)),
(`l',f_1 λa=>`(([gl])->$a=[a'])),
(`l0,f_0 `(.list)),
(`l1,f_0 `([l,t])),
(`l2,f_0 `([m,c])),
(`l3,f_0 `(gz X E)),
(`l4,f_0 `([m,S])),
(`l5,f_0 `([AO,x])),
(`l6,f_2 λa b=>`(PE X $a [Ar,$b])),
(`l7,f_2 λa b=>`({s with heap:=$a,toks:=$b})),
(`l8,f_2 λa b=>`({uses:=$a,coupons:=$b})),
(`l9,f_3 λa b c=>`([R,$a,λ($b :Nat)=>$c])),
(`lA,f_0 `(J.val k)),
(`lB,f_0 `(Array aq))]
def T_35:L0:=[(`lC,f_0 `(List [aj])),
(`lE,f_0 `(T.length)),
(`lF,f_1 λa=>`(eG n $a=ae)),
(`lG,f_1 λa=>`(l.getD $a 0)),
(`lH,f_0 `(ay "has")),
(`lI,f_1 λa=>`([eo,$a,[am]])),
(`lJ,f_1 λa=>`([eJ,[aC,$a]])),
(`lK,f_2 λa b=>`(cI X (pd $a) $b)),
(`lL,f_1 λa=>`(Ir.ez k $a)),
(`lM,f_0 `([a8,22])),
(`lN,f_4 λa b c d=>`(_p ["book",$a,$b,$c,$d])),
(`lO,f_1 λa=>`([be,[aY],$a])),
(`lP,f_4 λa b c d=>`([jo,$a,$b,[[bA],$c],$d])),
(`lQ,f_0 `(ob.dict)),
(`lR,f_0 `(c.least)),
(`lS,f_1 λa=>`([R,$a,(·.1)])),
(`lT,f_1 λa=>`(bp K H a $a)),
(`lU,f_2 λa b=>`(#[4,$a,af,$b])),
(`lV,f_0 `(n/[gx])),
(`lW,f_0 `(n<[gG])),
(`lX,f_1 λa=>`([wD,$a]=ag)),
(`lY,f_5 λa b c d e=>`(∀($a:ident :Nat)($b:ident :$c),$d->$e)),
(`lZ,f_0 `(.cell)),
(`l_,f_2 λa b=>`(X.env.cells.lookup $a=aa $b)),
(`la,f_0 `(k _ _ [fa] e)),
(`lb,f_4 λa b c d=>`(c7 X.prog X.w [cw,$a,$b] $c $a $d)),
(`lc,f_0 `([bt,[g3]])),
(`ld,f_1 λa=>`(h8 _ _ (dt $a))),
(`le,f_1 λa=>`($(a).get? b=[a'])),
(`lf,f_0 `([b',c,x<=40])),
(`lg,f_1 λa=>`(run _ _ _ $a _)),
(`lh,f_0 `((lo+q)/2)),
(`li,f_1 λa=>`(l_ X.N [i_] $a own)),
(`lj,f_1 λa=>`(fZ T K r F H $a d)),
(`lk,f_0 `([b',C,x<=3])),
(`ll,f_0 `(aU k _ Y Y Y)),
(`lm,f_1 λa=>`(cE T K r F l $a)),
(`ln,f_0 `(kvs.length)),
(`lo,f_0 `(λz=>?_)),
(`lp,f_1 λa=>`($(a).low n=ae))]
def T_36:L0:=[(`lq,f_0 `(hU [L] [Z])),
(`lr,f_1 λa=>`(cw T K r F l $a)),
(`ls,f_1 λa=>`(aa [ax,$a])),
(`lt,f_1 λa=>`(fs.lookup $a)),
(`lu,f_0 `(cD Z l e S)),
(`lv,f_2 λa b=>`([cb,[dv,$a,$b]])),
(`lw,f_0 `([E]<lim)),
(`lx,f_0 `(dq b l k)),
(`ly,f_3 λa b c=>`(1<=$a/\$a<=$b/\$c)),
(`lz,f_2 λa b=>`(cu (df b) $a $b)),
(`m,f_1 λa=>`(.ref $a)),
(`m',f_3 λa b c=>`(aY.mono $a $b _ _ $c)),
(`m0,f_0 `(ys.length)),
(`m1,f_0 `(PE X b tb)),
(`m2,f_0 `(X.bU e)),
(`m3,f_1 λa=>`(hx line ws $a)),
(`m4,f_2 λa b=>`([b4,.add $a $b])),
(`m5,f_0 `([E]<100)),
(`m6,f_0 `(ay "uses")),
(`m7,f_0 `(ay "with")),
(`m8,f_2 λa b=>`(bg #[n9 $a _,$b])),
(`m9,f_0 `(gB P w)),
(`mA,f_2 λa b=>`($(a).contains $b=ae)),
(`mB,f_0 `(ob.cls=[iR])),
(`mC,f_0 `(cY [cD] ts=ts)),
(`mD,f_3 λa b c=>`(aE [g_] A ($a) $b E $c)),
(`mE,f_0 `(w.take [cu])),
(`mF,f_0 `([111,102])),
(`mG,f_0 `(jc b ts a t)),
(`mH,f_0 `(ps.length)),
(`mI,f_2 λa b=>`(s.heap.IsTuple $a $b)),
(`mJ,f_0 `(iq whole ws)),
(`mK,f_1 λa=>`(dB $a A b nm st)),
(`mL,f_2 λa b=>`(Ir.M.bind $a _ $b)),
(`mM,f_0 `([f_,Nat,D])),
(`mN,f_0 `([111,110])),
(`mO,f_2 λa b=>`({$a with heap:=$b})),
(`mP,f_0 `(oS b nm st)),
(`mQ,f_0 `(b.rounding)),
(`mR,f_0 `(.bool af))]
def T_37:L0:=[(`mS,f_0 `(pl.isList)),
(`mT,f_1 λa=>`($(a).getD 0)),
(`mU,f_0 `(.dK kvs)),
(`mV,f_0 `([de,x,ob])),
(`mW,f_1 λa=>`([aE,[aE,$a]])),
(`mX,f_2 λa b=>`(j6 T K ($a) r F $b)),
(`mY,f_0 `(λ_=>ag)),
(`mZ,f_0 `(b3 n lo q)),
(`m_,f_1 λa=>`(H $a=[ls,xs])),
(`ma,f_0 `(gj whole [dc] ws)),
(`mb,f_1 λa=>`(run _ _ _ $a [gm]=_)),
(`mc,f_0 `([98,117,110,100,108,101])),
(`md,f_1 λa=>`([i1,b]=aa $a)),
(`me,f_2 λa b=>`([bC,.gt $a [bf],$b])),
(`mf,f_0 `(λt=>D.ref [f6])),
(`mg,f_1 λa=>`(ns.getD $a 0)),
(`mh,f_0 `(cY [cD] [jJ])),
(`mi,f_0 `(od.data=.dict es ep)),
(`mj,f_1 λa=>`(b.bundles.map $a)),
(`mk,f_0 `(10000+kX b ts)),
(`ml,f_1 λa=>`(scope.names.lookup $a)),
(`mm,f_1 λa=>`([.Subscript $a k t])),
(`mn,f_1 λa=>`((br $a).flatMap g)),
(`mo,f_1 λa=>`([dZ,[lI,$a]])),
(`mp,f_3 λa b c=>`(XI X pins σ H $a $b cls W $c)),
(`mq,f_1 λa=>`(e9 b ts $a 30 0 e_)),
(`mr,f_0 `([fH,[aT,pD]])),
(`ms,f_0 `([na]<=2000)),
(`mt,f_0 `([j3,by simp])),
(`mu,f_1 λa=>`(b.taxes.map $a)),
(`mv,f_0 `(#[_,[cs],Y,Y])),
(`mw,f_0 `(λ_ e=>[H,e])),
(`mx,f_4 λa b c d=>`(PE X [en,o,$a,apos,$b,$c] ($d))),
(`my,f_0 `([rN].within)),
(`mz,f_1 λa=>`(∀b o,[l',$a])),
(`n',f_0 `(g+(jI b).unit)),
(`n0,f_2 λa b=>`(λx$a:ident H Q=>$b)),
(`n1,f_0 `([bk,[L],[Z]])),
(`n2,f_0 `(this _ ([rJ]))),
(`n3,f_0 `(λh=>#[_,h,[AS]]))]
def T_38:L0:=[(`n4,f_0 `(#[?_,?_,?_])),
(`n5,f_1 λa=>`(λi j=>ao ($a))),
(`n6,f_0 `(J _ s _ H _ I h)),
(`n7,f_0 `(bD r0 F0 H0 r F H)),
(`n8,f_0 `(bD r F H r1 F1 H1)),
(`n9,f_0 `(gJ b ts a)),
(`nA,f_0 `(k+8)),
(`nB,f_2 λa b=>`($(a).all $b)),
(`nC,f_2 λa b=>`(kt _ _ $a $b)),
(`nD,f_1 λa=>`([[qG,[(.neg [fd,$a])]]])),
(`nE,f_0 `(Hp->VK->[P])),
(`nF,f_1 λa=>`([eW,a,x,bo x S,x,[eW,b,y,bo y S,y,$a]])),
(`nG,f_1 λa=>`(cJ T K r F H σ $a O)),
(`nH,f_0 `(lN X.prog X.w X.K X.mg X.base CX k f fd ps sp)),
(`nI,f_7 λa b c d e f g=>`([i8,$a,32,[ei,[bA],$b,$c],$d,nD,bN $e $f $g [fi,$d]])),
(`nJ,f_2 λa b=>`([[l,$a],[l,$b]])),
(`nK,f_1 λa=>`({b with bundles:=[iy]++[$a]})),
(`nL,f_2 λa b=>`(fq ($a) $b (fg X.env.cells $b []))),
(`nM,f_0 `(I.ge _ [DS])),
(`nN,f_1 λa=>`(_p ["desk","numbers","rows",$a])),
(`nO,f_0 `(c.sc.names.lookup x)),
(`nP,f_1 λa=>`([nl,$a]=[co,$a])),
(`nQ,f_1 λa=>`({b with items:=[cH]++[$a]})),
(`nR,f_1 λa=>`({b with taxes:=[hw]++[$a]})),
(`nS,f_0 `(∀c,ob.data≠.cls c)),
(`nU,f_2 λa b=>`(cT T X.K Z E $a σ H $b)),
(`nV,f_0 `(n<1000000000000000000)),
(`nW,f_0 `([108,105,110,101])),
(`nX,f_1 λa=>`(∀T,$a=.ok _ T)),
(`nY,f_5 λa b c d e=>`([[cr],[jd],[cb,v],[bn,$a],$b,$c,$d,$e])),
(`nZ,f_0 `(aa (.aW C dx fs))),
(`n_,f_1 λa=>`(sc.names.lookup $a)),
(`na,f_0 `(t.length)),
(`nb,f_0 `([bg,Int])),
(`nc,f_0 `(this.1)),
(`nd,f_2 λa b=>`([pG,scope,$a,C,$b])),
(`ne,f_1 λa=>`(d8 I q $a)),
(`nf,f_0 `([bM]+1)),
(`ng,f_0 `(lH t=ae)),
(`nh,f_0 `(dS x=ae))]
def T_39:L0:=[(`ni,f_1 λa=>`([ft,$a,[am]])),
(`nj,f_3 λa b c=>`(ta σ H λ$a:ident$b:ident=>$c)),
(`nk,f_1 λa=>`([ft,$a,[aK]])),
(`nl,f_1 λa=>`(gW Z $a e S)),
(`nm,f_1 λa=>`([q,[dw],$a])),
(`nn,f_0 `(ay [L])),
(`no,f_1 λa=>`(d7 $(a).bk)),
(`np,f_3 λa b c=>`(ez $a [$b] S=[ab,$c])),
(`nq,f_0 `([aT,nD])),
(`nr,f_0 `(.split)),
(`ns,f_0 `(V->[p3])),
(`nt,f_0 `(s.price)),
(`nu,f_0 `(b.apart)),
(`nv,f_0 `([L]-1)),
(`nw,f_0 `(aw [f])),
(`nx,f_2 λa b=>`([ap,$a,$b,[aX]])),
(`ny,f_2 λa b=>`([hl,iF $a $b,$a])),
(`nz,f_0 `(H a=ag)),
(`o',f_0 `([wV,[b3]])),
(`o0,f_0 `(az.length)),
(`o1,f_0 `(PE X o to)),
(`o2,f_0 `(I.ok.kind)),
(`o3,f_0 `(lF _ L)),
(`o4,f_2 λa b=>`(jh [g_] A $a R $b)),
(`o5,f_0 `(bQ->Bool)),
(`o6,f_0 `(mN nm=ag)),
(`o7,f_1 λa=>`(Int->Int->$a)),
(`o8,f_0 `([bl,[am]])),
(`o9,f_0 `(ay "less")),
(`oA,f_1 λa=>`([bY,$a,q])),
(`oB,f_0 `(Ir.dh env i)),
(`oC,f_1 λa=>`(jC $a _ _ [g])),
(`oD,f_0 `([bF,r,t])),
(`oE,f_0 `(eN A [fF])),
(`oF,f_0 `([aT,D.int])),
(`oG,f_0 `(I.ok.above)),
(`oH,f_0 `([rN].over)),
(`oI,f_0 `(.obj c l)),
(`oJ,f_2 λa b=>`(λe=>bj $a $b e)),
(`oK,f_0 `(aa (T,fl)))]
def T_40:L0:=[(`oL,f_0 `([bm,cH x])),
(`oM,f_0 `([bJ,d,od])),
(`oN,f_0 `(λT=>rfl)),
(`oO,f_0 `([aq,e,e'])),
(`oP,f_0 `(.dT kvs)),
(`oQ,f_0 `(ow e i S)),
(`oR,f_0 `(ts.take i)),
(`oS,f_0 `(.aW c l)),
(`oT,f_1 λa=>`(eX _ n ($a) _)),
(`oU,f_0 `([d0,[b9]])),
(`oV,f_0 `(h.Ns N mN)),
(`oW,f_0 `(Nat×[gj])),
(`oX,f_0 `(ly CX X E)),
(`oY,f_0 `([bm,sD t])),
(`oZ,f_0 `(bq dvs ds)),
(`o_,f_0 `(lr [i_] x)),
(`oa,f_0 `(z _ ([rJ]))),
(`ob,f_0 `(G.heap.objs.size)),
(`oc,f_4 λa b c d=>`(n8 $a (by simp) λ$b:ident$c:ident$d:ident=>?_)),
(`od,f_1 λa=>`(λ($a :Nat)=>[an,$a])),
(`oe,f_4 λa b c d=>`(dF _ (λ$a:ident=>$b) _ (λ$a:ident$c:ident=>$d))),
(`og,f_0 `(lE X.K fd ps ds)),
(`oh,f_5 λa b c d e=>`([lY,j,$a,$b,[ce,$c,$d],$e])),
(`oi,f_0 `([bT,"tuple"])),
(`oj,f_1 λa=>`(run _ _ _ _ $a=_)),
(`ok,f_0 `([hN,k.map kV])),
(`ol,f_0 `(s.heap.push _)),
(`om,f_1 λa=>`([d9,1,[[b4,$a]]])),
(`oo,f_1 λa=>`(σ.set i (aa $a))),
(`op,f_3 λa b c=>`($(a).filter λ$b:ident=>$c)),
(`oq,f_1 λa=>`(b.apart.map $a)),
(`os,f_0 `(_::_::[d5])),
(`ot,f_2 λa b=>`(qY ($a) λσ H R h=>$b)),
(`ou,f_0 `(.Name x pos)),
(`ov,f_0 `(cC b [fF])),
(`ow,f_1 λa=>`([aZ,env,[bn,$a]])),
(`ox,f_0 `(λa e=>?_)),
(`oy,f_0 `(w.drop [cu])),
(`oz,f_1 λa=>`([rD,[aK],26,$a])),
(`p',f_2 λa b=>`(.bG 13 [aK] 32 [$a,$b]))]
def T_41:L0:=[(`p0,f_2 λa b=>`([i7,$a,.fields [ff,$b]])),
(`p1,f_2 λa b=>`([[cr],$a,$b,[W],[W],[W],[W]])),
(`p2,f_0 `([116,111,116,97,108])),
(`p3,f_0 `(List V->[nE])),
(`p5,f_1 λa=>`([ay $a,[L].name,bJ [Z]])),
(`p6,f_0 `([119,104,101,110])),
(`p7,f_0 `(a.getD i 0)),
(`p8,f_0 `(I.base.there b o e L)),
(`p9,f_1 λa=>`(run _ _ _ $a S)),
(`pA,f_0 `(ay "of")),
(`pB,f_0 `(cY n l)),
(`pC,f_3 λa b c=>`(fl ($a) $b S=[bS,$c])),
(`pD,f_2 λa b=>`([pI,[$a]]=[(af,[eN,$b])])),
(`pE,f_3 λa b c=>`(b9 $a λσ H Q#[env,O,S,r,F,c,P,$b]=>$c)),
(`pF,f_0 `(h3.push (d5 "tuple" N.toList.toArray.toList.toArray 0))),
(`pG,f_4 λa b c d=>`(X.bY s H $a (dN $a $b $c X.env) $d)),
(`pH,f_1 λa=>`(iO [bT,"Exception"] $a=bx ag)),
(`pI,f_1 λa=>`(bb $a X.env)),
(`pJ,f_1 λa=>`([aP.aW 1 (d9 $a ([ad]+1) ([ad]+2)),aP.lst [],aP.lst []])),
(`pK,f_0 `([yk])),
(`pL,f_5 λa b c d e=>`(∀(pins:[f_,ai,bn])(s:aD)(σ:St)(H:Hp)($a:ident :$b),([ah])->$c->[hI,$d,$e])),
(`pM,f_0 `([108,101,115,115])),
(`pN,f_0 `(h'.push [jF,N.toList.toArray,0])),
(`pO,f_0 `([hz,kR whole [dc]])),
(`pP,f_2 λa b=>`(.put [a8,16] [V] [bk,[aS,$a],[jX,$b]])),
(`pQ,f_0 `(λ_=>[b1,()])),
(`pR,f_1 λa=>`([jV,K,$a,ok])),
(`pS,f_0 `(.ext λh=>h.CodeRec [l2] T.tq)),
(`pT,f_1 λa=>`(J (by simp[$a:term]))),
(`pU,f_1 λa=>`([pb,[bn,$a]])),
(`pV,f_1 λa=>`(λσ H Q=>[nj,x,H1,$a])),
(`pW,f_2 λa b=>`(($a>>=$b) S=Ir.M.bind _ $b S)),
(`pX,f_1 λa=>`(S++[aP.lst $a])),
(`pY,f_0 `([sG,az.toArray,n])),
(`pZ,f_0 `(Ir.b6 env t)),
(`p_,f_0 `(S++lT b nm st [ad])),
(`pa,f_0 `(au->[gP])),
(`pb,f_1 λa=>`(env.set i $a)),
(`pc,f_1 λa=>`($(a).get? _)),
(`pd,f_0 `(kI b c C))]
def T_42:L0:=[(`pe,f_0 `(j1 x n i)),
(`pf,f_0 `(h.basket)),
(`pg,f_0 `(.own _)),
(`ph,f_3 λa b c=>`([bC,.or $a $b,$c])),
(`pi,f_0 `([tV,64])),
(`pj,f_1 λa=>`([be,[hh],$a])),
(`pk,f_1 λa=>`([j7,[p9,$a]])),
(`pl,f_1 λa=>`([cQ,[aE,$a]])),
(`pm,f_3 λa b c=>`(_p ["book",$a,$b,$c])),
(`pn,f_1 λa=>`([aT,[aF,$a]])),
(`po,f_1 λa=>`([q,[Mn],$a])),
(`pp,f_2 λa b=>`(a_ T K r $a $b S)),
(`pq,f_1 λa=>`(.eO [aK] $a [bI])),
(`pr,f_3 λa b c=>`([cx,$a,[$b,$c,[ql]]])),
(`ps,f_0 `(.rt d)),
(`pt,f_0 `(T.dr 9)),
(`pu,f_2 λa b=>`(pg $a (.exc $b))),
(`pv,f_5 λa b c d e=>`(gR $a (λ$b:ident$c:ident$d:ident=>?_) $e)),
(`pw,f_0 `(fuel-1)),
(`px,f_0 `([pH,nm])),
(`py,f_2 λa b=>`(pg $a (.cls $b))),
(`pz,f_0 `(.fn f)),
(`q,f_2 λa b=>`(by rw[$a:term];exact$b)),
(`q',f_0 `(f.1+1)),
(`q0,f_1 λa=>`(λi j=>[l,$a])),
(`q2,f_1 λa=>`([pG,$a,z,C,u])),
(`q3,f_0 `(gl [n9] t)),
(`q4,f_1 λa=>`([dR,[dR,$a]])),
(`q5,f_1 λa=>`(b3 n 0 (b_ $a))),
(`q6,f_0 `([cF]<=bS)),
(`q7,f_0 `(c.low [ad])),
(`q8,f_2 λa b=>`(∀T,$a=[be,$b,T])),
(`q9,f_0 `(T0.cU 17)),
(`qA,f_1 λa=>`(Ir.bE Z ($a) env)),
(`qB,f_1 λa=>`([fJ,37,[aS,$a]])),
(`qC,f_0 `(rs.map D.int)),
(`qD,f_1 λa=>`([b1,.nx [pU,$a]])),
(`qE,f_1 λa=>`(Ir.M.bind _ _ $a)),
(`qF,f_3 λa b c=>`(∀A v,dV $a $b _=ei $c)),
(`qG,f_1 λa=>`([bl,[ax,$a]]))]
def T_43:L0:=[(`qH,f_1 λa=>`(aG T X.K r F $a v)),
(`qI,f_1 λa=>`(Ex.fresh $a=ae)),
(`qJ,f_0 `(noStar e=ae)),
(`qK,f_0 `(bN 1 _ _ _)),
(`qL,f_1 λa=>`(Ir.ah Z I e2 $a)),
(`qM,f_0 `(g.map (·.1))),
(`qN,f_0 `(L2.b6 σ t)),
(`qO,f_0 `(jy kvs k v)),
(`qP,f_0 `([dO,c,g,Y])),
(`qQ,f_0 `(λA v=>rfl)),
(`qR,f_0 `(C.take [aa])),
(`qS,f_2 λa b=>`(eV (ei A) $a=[er,$b])),
(`qT,f_0 `(K.In s.heap)),
(`qU,f_0 `(ay "from")),
(`qV,f_0 `(.head _)),
(`qW,f_0 `(V->V->[nE])),
(`qX,f_0 `([c7,H',s'])),
(`qY,f_2 λa b=>`(.av [ik,$a,$b] 0)),
(`qZ,f_1 λa=>`(#[$a,by simp])),
(`q_,f_0 `(g7 b ts a)),
(`qa,f_0 `(λg x=>fJ [ja] g)),
(`qb,f_4 λa b c d=>`([[cr],[cb,a],[c8,G],$a,$b,$c,$d])),
(`qc,f_1 λa=>`([[aQ],[l,$a]])),
(`qd,f_0 `(λb o e n J L=>?_)),
(`qe,f_0 `(([de,b,u])->[md,u])),
(`qf,f_0 `(λ_ _=>False)),
(`qg,f_2 λa b=>`(qc _ _ _ _ λ$a:ident _=>$b)),
(`qh,f_2 λa b=>`(fO X $a (l6 T X.K Z E $b))),
(`qi,f_0 `(e.set i [g5])),
(`qj,f_1 λa=>`(∀b C,H b=aa C->$a)),
(`qk,f_1 λa=>`(Ir.ah Z $a env S)),
(`ql,f_0 `([bl,[V]])),
(`qm,f_1 λa=>`(Ir.bE Z $a env S)),
(`qn,f_0 `(w.length<=2000)),
(`qo,f_0 `(mE b (cy c) x)),
(`qp,f_0 `(mU _ _ _ [g])),
(`qq,f_0 `(λx=>x.name)),
(`qr,f_1 λa=>`([aF,[L].beq $a])),
(`qs,f_0 `([pX,[eD,pD]])),
(`qt,f_0 `(oi line ws n))]
def T_44:L0:=[(`qu,f_1 λa=>`(λi h h' st k=>$a)),
(`qw,f_0 `([99,97,112])),
(`qx,f_1 λa=>`(s.heap.IsList l $a)),
(`qy,f_2 λa b=>`([ev,$a,hC X pins $b b])),
(`qz,f_0 `([ir,[tx]])),
(`r',f_0 `(jl pos (jm b env))),
(`r0,f_0 `(λ_ z=>nomatch z)),
(`r1,f_0 `(.tail _ [qV])),
(`r2,f_3 λa b c=>`([nx,$a,[ab,(bK $b y).getD $c]])),
(`r3,f_0 `([tM,[S],[b7],[cK]])),
(`r4,f_0 `(O _ s _ H _ I h)),
(`r5,f_0 `(X.eA.heap.get? b)),
(`r6,f_1 λa=>`(($(a).drop p).take 1)),
(`r7,f_0 `(fW Z I t ej [pZ] d S2)),
(`r8,f_1 λa=>`(St->Hp->($a->[dM])->[P])),
(`r9,f_0 `(L _ s _ H _ I h)),
(`rA,f_1 λa=>`([bq,o9 s $a])),
(`rB,f_0 `(ay "off")),
(`rC,f_1 λa=>`(mH K [iR] $a)),
(`rD,f_3 λa b c=>`(.ex (.bG 13 $a $b [(.g $c)]))),
(`rE,f_1 λa=>`(dX T X.K Z E $a)),
(`rF,f_0 `(A.az++[[Cz]])),
(`rG,f_2 λa b=>`([ev,$a,∃o,(b,o)∈$b])),
(`rH,f_2 λa b=>`([i7,"tuple",.seq [ff,[$a,$b]]])),
(`rI,f_0 `([dm,G,.aW 15 (gg G [e0])])),
(`rK,f_3 λa b c=>`(∀{G:R D}{a c p},G=[f9,a,c,[cM,p]]->∃$a:ident,G=[f9,$b,c,$a]/\$c=P)),
(`rL,f_0 `((97<=c/\c<=122)\/(48<=c/\c<=57)\/c=32\/c=10)),
(`rM,f_0 `([[za],[X,[vM]]])),
(`rN,f_0 `(cj b t)),
(`rO,f_0 `([[f6],[ak,t],[aE,t]])),
(`rP,f_4 λa b c d=>`({cls:=$a,dict:=$b,data:=$c,slots:=$d})),
(`rQ,f_2 λa b=>`(.ListComp elt [#[$a,F,$b,0]] scope pos)),
(`rR,f_0 `(wv [g_] A env λe s'=>R [kZ] s')),
(`rS,f_0 `(.dU [oF])),
(`rT,f_1 λa=>`(l.zipIdx.map [aF,[bk,[l,$a],[L]]])),
(`rU,f_1 λa=>`(.ListComp l [#[B,F,$a,0]] S pos)),
(`rV,f_1 λa=>`(.ext λh=>h.IsItemsView m $a)),
(`rW,f_0 `([rI]++[hx [e0] [eX] 0])),
(`rX,f_2 λa b=>`([aF,[ap,[L].beq $a,([L],$b),p]])),
(`rY,f_2 λa b=>`([ap,cR b ($a +1),0,$b]))]
def T_45:L0:=[(`rZ,f_0 `(e7 c [aa]-mB b C [aa])),
(`r_,f_0 `(same a[p]? c[p]?)),
(`ra,f_1 λa=>`(g<=iv b ts $a)),
(`rb,f_0 `(le _ _ q)),
(`rc,f_0 `(at_ l i)),
(`rd,f_0 `([(x,cr)])),
(`re,f_0 `([de,a,o])),
(`rf,f_0 `(x=[K,a])),
(`rg,f_0 `([pD,b,b])),
(`rh,f_0 `([gk,[am]])),
(`ri,f_0 `([e5,[am]])),
(`rj,f_0 `([dC,[gU]])),
(`rk,f_0 `(b_ [bK])),
(`rl,f_2 λa b=>`([bZ,$a,[$b,[ai]]])),
(`rm,f_0 `(.aW k l)),
(`rn,f_0 `([K,[jm]])),
(`ro,f_0 `([ab,[aW]])),
(`rp,f_0 `(c.hV n)),
(`rq,f_2 λa b=>`([d6,d,$a,$b,bad])),
(`rr,f_0 `(Ir.iH rs)),
(`rs,f_0 `(ij T F H)),
(`rt,f_0 `(St->[dM])),
(`ru,f_0 `(k+10)),
(`rv,f_0 `(Nat×aP)),
(`rx,f_2 λa b=>`(cn $a ($b ::q)=af)),
(`ry,f_0 `([t4]=ae)),
(`rz,f_0 `(D->Bool)),
(`s',f_0 `(.Name x C)),
(`s0,f_2 λa b=>`(gS (.builtin $a) $b)),
(`s2,f_1 λa=>`([b4,.c [bj,$a]])),
(`s3,f_0 `(λ_=>[cd])),
(`s4,f_0 `(w::outer)),
(`s5,f_0 `(h.Ns1 dx mA)),
(`s6,f_0 `(fc H0 env O)),
(`s7,f_1 λa=>`(Ir.M.pure $a S)),
(`s8,f_0 `(vw b [ge] a)),
(`s9,f_0 `([105,110])),
(`sA,f_1 λa=>`(aE _ _ ($a) _ _ s)),
(`sB,f_3 λa b c=>`([gD,r1,$a,H1,S1,c1,$b,$c])),
(`sC,f_0 `(λx S=>rfl))]
def T_46:L0:=[(`sD,f_0 `(t.name∉c_ b)),
(`sE,f_0 `([Ft,[ff,[AZ]]])),
(`sF,f_2 λa b=>`([g',32,[$a,(.g $b)]])),
(`sG,f_2 λa b=>`([i7,"list",.seq $a $b])),
(`sH,f_0 `(ps.zip us)),
(`sI,f_0 `(λa o e=>?_)),
(`sJ,f_1 λa=>`(∀a,$a->[nz])),
(`sK,f_0 `(Ir.cB l x d)),
(`sL,f_1 λa=>`(([bJ,b,$a])->[md,$a])),
(`sM,f_3 λa b c=>`(fy X $a (λ$b:ident H Q=>$c))),
(`sN,f_0 `(aH (jo c l))),
(`sO,f_0 `(ox W.heap H)),
(`sP,f_0 `([aZ,σ,[cX]])),
(`sQ,f_0 `(w.frame=aa L)),
(`sR,f_0 `(dS x.name=ae)),
(`sS,f_0 `(ay "total")),
(`sT,f_0 `(.str nm tk)),
(`sU,f_0 `(ds.drop [aa])),
(`sV,f_2 λa b=>`(λ($a :Nat)=>[cC,$b])),
(`sW,f_0 `(apos.endLine)),
(`sX,f_0 `(I.cell x c e)),
(`sY,f_0 `(ax nm _ b)),
(`sZ,f_3 λa b c=>`(λz=>$(a).elim $b $c)),
(`s_,f_0 `(ay "step")),
(`sa,f_1 λa=>`(.aW k (Ir.dV l f $a))),
(`sb,f_0 `([b',a,[eP,x,[bK]]])),
(`sc,f_0 `(dA T K r F l fs)),
(`sd,f_1 λa=>`(λj=>ao ($a))),
(`se,f_1 λa=>`(.b1 [l0] [a8,$a])),
(`sf,f_1 λa=>`([aA,∃t,$a,r])),
(`sg,f_1 λa=>`([rD,[am],26,$a])),
(`sh,f_0 `(_p ["book","row"])),
(`si,f_0 `(j.heap.objs.size)),
(`sj,f_0 `((p::q)::rows)),
(`sk,f_0 `(λr=>a9 r.1)),
(`sl,f_0 `(hZ b 1 [go])),
(`sm,f_0 `(.Name y G)),
(`sn,f_5 λa b c d e=>`([hF,.Assign [$a] $b $c,py $d $e])),
(`so,f_0 `(b.items.map cH)),
(`sp,f_0 `(.int i t))]
def T_47:L0:=[(`sq,f_0 `(X.A.handled=ag)),
(`sr,f_0 `(PA X (e::es) t)),
(`ss,f_0 `(jL b c=ae)),
(`st,f_7 λa b c d e f g=>`(m.bind.mono λy$a:ident$b:ident$c:ident#[$d,$e,$f,u]C$g:ident=>?_)),
(`su,f_1 λa=>`(aE _ _ $a _ _ _)),
(`sv,f_1 λa=>`(sd [c6] X.A X.env $a)),
(`sw,f_2 λa b=>`(s.heap.update $a $b)),
(`sx,f_0 `(λi d hd=>?_)),
(`sy,f_1 λa=>`(oa λi j=>[bj,$a])),
(`t',f_2 λa b=>`([ax,[$a,(.b1 .str $b)]])),
(`t0,f_1 λa=>`((cj b $a).within)),
(`t1,f_1 λa=>`([bn,[X,$a]])),
(`t2,f_0 `([kj,[aF,[Z]*[yN]]])),
(`t3,f_2 λa b=>`(fB T X.K Z $a $b)),
(`t4,f_0 `(b3 i 1 (b_ [bR]))),
(`t5,f_1 λa=>`([jP,(b.items.take $a).flatMap (iw b)])),
(`t6,f_1 λa=>`(k4 qual scope [ar] f $a)),
(`t7,f_1 λa=>`(cn "off" $a=af/\cn "less" $a=af)),
(`t8,f_0 `(λt=>t++[10])),
(`t9,f_3 λa b c=>`(∀(s:aD)(H:Hp)(C:ai)($a:ident :[h])($b:ident :[h]),$c)),
(`tA,f_1 λa=>`($(a).isEmpty)),
(`tB,f_0 `(T0.dr k)),
(`tC,f_0 `([gk,[V]])),
(`tD,f_0 `([bm,[rS]])),
(`tE,f_0 `([j3,[dr]])),
(`tF,f_0 `([e5,[aK]])),
(`tG,f_0 `(whole*w)),
(`tH,f_0 `(aM e env)),
(`tI,f_0 `(i_ x n)),
(`tJ,f_0 `(.c [aY])),
(`tK,f_2 λa b=>`({$a with toks:=$b})),
(`tL,f_1 λa=>`([aA,False,$a].elim)),
(`tM,f_3 λa b c=>`({name:=$a,price:=$b,taxes:=$c,volume:=[],steps:=[],free:=ag})),
(`tO,f_1 λa=>`(g7 b ts $a +gl (tf b ts $a i) [oH])),
(`tP,f_5 λa b c d e=>`(#[by show 2<=bS;rw[af],[$a,$b],[bF,$c,[hH,$d]],#[_,[bY,sb.2 _ (gk $e),hT],Y,_,Y]])),
(`tQ,f_4 λa b c d=>`(∀v,aG T $a $b $c d v->Q v $d)),
(`tR,f_0 `(I.bk.St (line:=line) (ws:=ws) (n:=n) hra)),
(`tS,f_2 λa b=>`([vo,$a,I.base,I.loc,I.cell,$b,I.aO,I.len])),
(`tT,f_3 λa b c=>`([Dg,λb$a:ident J$b:ident=>$c])),
(`tU,f_2 λa b=>`([gp,find b x,p,[fc,[L],$a,[Z],ag],ag]=fK $b x))]
def T_48:L0:=[(`tV,f_1 λa=>`(X.A.units+$a<dM)),
(`tW,f_0 `(C' (.builtin id)=bx [bT,"method_descriptor"])),
(`tX,f_1 λa=>`([R,(ps.take $a).flatMap [aF,[gO b [L],bJ [Z]]],sD])),
(`tY,f_1 λa=>`(A.under (.builtin "type.__call__" #[[iR]::$a,J]))),
(`tZ,f_0 `([ay "apart",iM b [L],iM b [Z]])),
(`t_,f_1 λa=>`(dE pos (bb $a env))),
(`ta,f_1 λa=>`(Ir.j3 nc.1 $a)),
(`tb,f_1 λa=>`(λs=>[wJ,$a])),
(`tc,f_0 `(r8 own+1)),
(`td,f_2 λa b=>`([jo,$a,$b,[[bA]],n])),
(`te,f_0 `(x.cps.size)),
(`tf,f_1 λa=>`(c7 P w H h a $a)),
(`th,f_0 `(.error _)),
(`ti,f_1 λa=>`(Ir.cD Z $a env)),
(`tj,f_2 λa b=>`($(a).contains $b=af)),
(`tk,f_1 λa=>`([mD,$a,Q,[k5]])),
(`tl,f_0 `([d0,[aQ]])),
(`tm,f_0 `(Ir.dh _ i)),
(`tn,f_0 `(q.get L)),
(`to,f_1 λa=>`(HT.dO $a 0 lo)),
(`tp,f_0 `(cu _ 1 _)),
(`tq,f_1 λa=>`([aA,af=ae,$a])),
(`tr,f_1 λa=>`(h.bind.mono $a)),
(`ts,f_0 `([h]×Nat)),
(`tt,f_0 `([bm,dn x])),
(`tu,f_0 `(al.bC N g)),
(`tv,f_0 `(fs.length)),
(`tw,f_0 `(di [ee])),
(`tx,f_0 `(ky b c C)),
(`ty,f_3 λa b c=>`(λi e=>∃$a:ident$b:ident,e=$c)),
(`tz,f_0 `([aq,e,J])),
(`u',f_0 `([jv,Ir.D.atom])),
(`u0,f_0 `(λz=>[pT,z])),
(`u1,f_0 `(az.toArray.size)),
(`u2,f_0 `(x.steps.isEmpty)),
(`u3,f_0 `(a.flatMap [t8])),
(`u4,f_0 `(q _ _ _ z)),
(`u5,f_0 `(λz=>by cases z)),
(`u6,f_0 `(dO G.size 0 lo)),
(`u7,f_0 `(λb o e L=>?_))]
def T_49:L0:=[(`u9,f_0 `([q,g.hN,g.nd])),
(`uA,f_0 `(h.basket.getD [cB] 0)),
(`uB,f_1 λa=>`(I.base.keep b o e $a J L)),
(`uC,f_0 `([R,br (2^k),gM k])),
(`uD,f_1 λa=>`(hl $a=aa [bT,$a])),
(`uE,f_2 λa b=>`(PW X $a (kx T X.K Z E $b))),
(`uF,f_1 λa=>`((bf a c _ $a X E g).se)),
(`uG,f_1 λa=>`(I.base.slot b o e $a J L)),
(`uH,f_2 λa b=>`(I.laid $a (by simp) $b)),
(`uJ,f_1 λa=>`(jb (nH b) ($a) 10000)),
(`uK,f_0 `(λx=>a9 (p_ b x))),
(`uL,f_0 `([(iP "default",d)])),
(`uM,f_0 `(.comp I t k it e)),
(`uN,f_0 `(h.uses.getD [cB] 0)),
(`uO,f_0 `(U _ s _ H _ I h)),
(`uP,f_9 λa b c d e f g h i=>`(gh (m:=[pQ]) $a c1 $b $c λ$d:ident r2 F2 H2 S2$e:ident$f:ident jF$g:ident i9$h:ident$i:ident=>?_)),
(`uQ,f_1 λa=>`(al.pure c g [f] _ ($a))),
(`uR,f_1 λa=>`(b.apart.contains $a)),
(`uS,f_2 λa b=>`(∀s',([c7,$a,s'])->Q $b s')),
(`uT,f_0 `(ak X pins B H' s')),
(`uU,f_2 λa b=>`(cV b t [aT,C] $a S=[dy,$b])),
(`uV,f_1 λa=>`(λz=>[bq,$a].1 Y)),
(`uW,f_0 `(gK b (cy c) x=ae)),
(`uX,f_2 λa b=>`([aq,.BinOp a $a b pos,$b])),
(`uY,f_0 `(λz=>nomatch z)),
(`uZ,f_2 λa b=>`(λpins s σ H Q I$a:ident=>$b)),
(`u_,f_0 `(.dT [([],v)])),
(`ua,f_0 `(V->([nb])->([nb])->[nE])),
(`ub,f_0 `([tM,x.name,x.price,x.taxes])),
(`uc,f_4 λa b c d=>`({name:=$a,rate:=$b,within:=$c,over:=$d})),
(`ud,f_2 λa b=>`(.ex [ef,35,[am],[a8,$a],.g $b])),
(`ue,f_1 λa=>`(λo q=>k $a (by simp) o q)),
(`uf,f_1 λa=>`([pF].push [jF,[hg,$a],0])),
(`ug,f_2 λa b=>`(∀($a:ident M:[h]),($b ++$a)++M=$b ++($a ++M))),
(`uh,f_0 `(aa (.cb o (.dT B)))),
(`ui,f_4 λa b c d=>`(oY fuel $a ([aB,seval,bV $b,g,$c:term,$d:term]))),
(`uj,f_0 `((up b).filter (gK b c))),
(`uk,f_0 `(λ_ _ q=>[kI])),
(`ul,f_0 `(λr=>[X,r.map D.int])),
(`um,f_4 λa b c d=>`(∀l:$a,([gy,$b])->[aO,l.flatMap $c,$d]))]
def T_50:L0:=[(`un,f_0 `([A,neg,.NotIn,.In])),
(`uo,f_0 `(λr=>! ao (r.2=0))),
(`up,f_1 λa=>`(gu K (jq K $a) "__init__")),
(`uq,f_1 λa=>`(Ir.eJ (fW Z I t ej [pZ]) $a)),
(`ur,f_1 λa=>`(∀x c,([l_,x,c])->c≠$a)),
(`us,f_0 `(Ir.rd [g3] env [lc])),
(`ut,f_0 `([111,118,101,114])),
(`uu,f_0 `([102,114,101,101])),
(`uv,f_0 `([115,116,101,112])),
(`uw,f_0 `([102,114,111,109])),
(`ux,f_1 λa=>`([wK,$a,d,F1,w,a1,c1,W])),
(`uy,f_0 `(λx=>ao (x≠0))),
(`uz,f_1 λa=>`(-(2^62)<=$a/\$a<2^62)),
(`v',f_0 `(l.dropLast)),
(`v0,f_0 `(eL [ao] X.A)),
(`v1,f_0 `([eD,(·.1)])),
(`v2,f_0 `(_p ["self"])),
(`v3,f_1 λa=>`(qL T Z X E f $a)),
(`v4,f_0 `(g.map gP)),
(`v5,f_0 `(a+10000)),
(`v6,f_0 `(#[_,_,Y])),
(`v7,f_0 `(n+10+[kE])),
(`v8,f_2 λa b=>`([A,$a=0,ag,aa $b])),
(`v9,f_0 `(d9 x f s)),
(`vA,f_0 `([tO,a]*[jp])),
(`vB,f_0 `(λt=>[rO])),
(`vC,f_1 λa=>`(eX _ _ $a _)),
(`vD,f_2 λa b=>`(s.heap.FunFrames $a $b)),
(`vE,f_0 `(U->aj->R J)),
(`vF,f_1 λa=>`(S++[.aW c $a])),
(`vG,f_0 `(KT H kvs xs)),
(`vH,f_0 `(.blt)),
(`vI,f_0 `(gu K iB x)),
(`vJ,f_0 `(cx K H a xs)),
(`vK,f_0 `([jW,x]=[kf])),
(`vL,f_0 `([f_,[iH],V])),
(`vM,f_0 `(w.map D.int)),
(`vN,f_0 `([cH x,[dn]])),
(`vO,f_0 `(mJ _ H Y)),
(`vP,f_4 λa b c d=>`(let#[o,$a,$b]:=$c;#[o,$d,$b]))]
def T_51:L0:=[(`vQ,f_2 λa b=>`(J.rate _ (sB t $a $b))),
(`vR,f_1 λa=>`(fa $a=aa (2,0))),
(`vS,f_1 λa=>`([hY,uF $a X.env])),
(`vT,f_0 `(F a=[ls,B])),
(`vU,f_2 λa b=>`(q.extBut _ _ $a $b)),
(`vV,f_0 `([bN]+1+j)),
(`vW,f_0 `(fD x.free)),
(`vX,f_0 `(B++[[S]])),
(`vY,f_0 `(Ir.bK l y)),
(`vZ,f_0 `(Ir.b6 e t)),
(`v_,f_0 `(oC t t1 t2)),
(`va,f_0 `(HS S n0 P h ht)),
(`vb,f_1 λa=>`([a3,t.endLine==$a])),
(`vc,f_1 λa=>`(al.ite [aA,[pK],$a])),
(`vd,f_1 λa=>`([b1,Ir.Flow.nx $a])),
(`ve,f_0 `(A.units+1<dM)),
(`vf,f_3 λa b c=>`(iX $a n0 P A.nb r line $b $c)),
(`vg,f_1 λa=>`(al.pure c $a _ [b3])),
(`vh,f_0 `([dY]=[fi,[bM]])),
(`vi,f_0 `(X.N.length)),
(`vj,f_2 λa b=>`(∀σ H Q,([nU,$a,Q])->$b)),
(`vk,f_0 `(.Name r _)),
(`vl,f_0 `(λb C e=>?_)),
(`vm,f_0 `(λp hp=>?_)),
(`vn,f_0 `(dq b [ge] [bK])),
(`vo,f_7 λa b c d e f g=>`(#[$a,I.os,I.bare,$b,$c,$d,I.free,I.ie,$e,$f,$g])),
(`vp,f_2 λa b=>`(dk .len $a S=[bS,$b])),
(`vq,f_1 λa=>`(h.coupons.map $a)),
(`vr,f_0 `(PI X tg F wi)),
(`vs,f_0 `([X,[mj,dn]])),
(`vt,f_0 `(pU I.nm.nd x)),
(`vu,f_0 `(Ir.M Ir.Flow)),
(`vv,f_0 `(Ir.ah Z _ _)),
(`vw,f_2 λa b=>`(_p ["desk","numbers","rows",$a,$b])),
(`vx,f_0 `(λ_ _ z=>z)),
(`vy,f_0 `([aZ,A.az,t])),
(`vz,f_1 λa=>`(Ir.place [E] $a)),
(`w',f_0 `([Mb])),
(`w0,f_1 λa=>`([nj,x,H1,$a])),
(`w1,f_0 `([[c8,A.nb],[c8,r],[cb,T],[g5],[c8,[ad]]]))]
def T_52:L0:=[(`w2,f_0 `(d9 [ov] [ak,[oE]] [aE,[oE]])),
(`w4,f_1 λa=>`(#[pe,px ($a) [LT],mO pe [f]])),
(`w5,f_3 λa b c=>`(∀c o,c≠z->c≠TO->c≠$a->c≠$b->([bJ,c,o])->$c=[a'])),
(`w6,f_1 λa=>`([ad]+[FA,[kE]+$a +1+1+1+1]=[gO]+[kE]+$a)),
(`w7,f_0 `(ao ([E]<=20)&&l.all λx=>b3 x 0 (b_ dy))),
(`w8,f_4 λa b c d=>`(PH X (.ExceptHandler (aa (.Name x np)) $a ($b ::A) pos::$c) ($d))),
(`w9,f_2 λa b=>`(PH X $a [E7,$b])),
(`wA,f_2 λa b=>`(h.IsListIter $a $b i)),
(`wB,f_1 λa=>`([kp,$a,D.atom])),
(`wC,f_0 `((m,k)::r)),
(`wD,f_1 λa=>`(s.heap.get? $a)),
(`wE,f_6 λa b c d e f=>`([[cr],[ay,a],[bm,[bw,ts.map nD]],[bm,ii [mQ]],[cb,[hu,[hq]]],[ay,($a :$b)],[ay,$c],[bn,[cf,$d]],$e,$f])),
(`wF,f_1 λa=>`([Cu,$a,h])),
(`wG,f_2 λa b=>`((dE $a (bb $b X.env)).any (·.1)=af)),
(`wH,f_0 `([D4,pH p x jj kk p0 p1 p2 p3 p4 p5 p6,[rd],pm,ctv])),
(`wI,f_1 λa=>`([gz,[cD],t,iG b ([h6].take i) t+[A,t+1∈[g9].take $a,[Cl],0]])),
(`wJ,f_1 λa=>`(a9 [$a,x.name,bJ [gt],bJ [nt]])),
(`wK,f_7 λa b c d e f g=>`(gh (m:=λ_=>[b1,()]) a c P $a λ$b:ident r1$c:ident H1 S1$d:ident$e:ident I$f:ident s$g:ident g=>?_)),
(`wL,f_0 `([BS])),
(`wM,f_1 λa=>`([K,[ap,$a,[111,102,102],[108,101,115,115]]])),
(`wN,f_3 λa b c=>`([wm]/\∃B,KV $a B/\h.DictOf (gB $b $c) a B)),
(`wO,f_7 λa b c d e f g=>`(#[g.ft,g.hu,g.hN,g.nd,$a,g.gv,g.mt,$b,g.m4,g.za,g.wf,g.wn,g.wl,$c,$d,$e,$f,$g,g.xe])),
(`wP,f_2 λa b=>`(PA X $a (h_ T X.K Z E $b))),
(`wQ,f_6 λa b c d e f=>`(nq $a P w K mg base N qual $b $c $d A outer $e $f E)),
(`wR,f_0 `({name:=[S],price:=[b7],parts:=o.1})),
(`wS,f_0 `(∀whole,uD e X.env whole=(do let v←whole;pb e.pos;iC [v] (IT v)))),
(`wT,f_1 λa=>`([.d_ 3 [ax,[[aS,$a],[bX,0],[Eg],(.b1 .str [a6])]]])),
(`wU,f_6 λa b c d e f=>`(∀(pins:[eH])(s:aD)(σ:St)(H:Hp)($a:ident$b:ident :V)($c:ident$d:ident :aq)(Q:VK),([ah])->bB $a $c->bB $b $d->$e->[hI,$f,[jl]])),
(`wV,f_1 λa=>`(#[$a,H,[hp],[gV],q])),
(`wW,f_0 `([yj])),
(`wX,f_2 λa b=>`(IX $a $b O new=(do iC [new,$b,O] (uG $b O new);zd [new,$b,O] [];bx .next))),
(`wY,f_0 `([aA,al T _ r F H _ _ E,g])),
(`wZ,f_0 `([wt].foldl [qa] ([]:[jQ,[aj]]))),
(`w_,f_0 `([f9,[bd,n+1],1,[cM,n+1]])),
(`wa,f_0 `([dp]+1+1)),
(`wb,f_2 λa b=>`(λe=>ah $a $b e)),
(`wc,f_2 λa b=>`([A,$a,[F4,$b],[aX]])),
(`wd,f_2 λa b=>`($(a).bd λ_ S=>$b)),
(`we,f_1 λa=>`(lo<=$a/\$a<=q)),
(`wf,f_1 λa=>`(x.taxes.map $a))]
def T_53:L0:=[(`wg,f_1 λa=>`([dy,e.set i $a])),
(`wh,f_1 λa=>`(X.env.kindOf $a)),
(`wi,f_1 λa=>`([X,l.set j $a])),
(`wj,f_0 `([t_,e::l])),
(`wk,f_0 `(#[_,e,Y])),
(`wl,f_0 `([f_,κ,V])),
(`wm,f_0 `([bH,a,iA])),
(`wn,f_0 `(λs=>rfl)),
(`wo,f_0 `(r_ j b=af)),
(`wp,f_0 `([l_,x,cr])),
(`wq,f_0 `(X.mg x=ag)),
(`wr,f_2 λa b=>`(W.extBut _ _ $a $b)),
(`ws,f_2 λa b=>`(te σ H λ$a:ident H1=>$b)),
(`wt,f_0 `(l.take i)),
(`wu,f_0 `(C [ak,j])),
(`wv,f_0 `(g.bY hh)),
(`ww,f_0 `(S b o e)),
(`wx,f_0 `([L]==[S])),
(`wy,f_0 `([hn,1,2])),
(`wz,f_0 `(C.drop 1)),
(`x',f_0 `(gH.cells.lookup y=aa c)),
(`x1,f_1 λa=>`(h.coupons.all (λj=>ao (j<$a)))),
(`x2,f_2 λa b=>`(mX P w K tg ($a) [it] it (λi h=>$b))),
(`x3,f_2 λa b=>`(λσ H Q=>to σ H λx H1=>$a/\$b)),
(`x4,f_0 `([wQ,kA P w,S,f,G,L,I])),
(`x5,f_0 `(pc _ (pc _ (vM J e)))),
(`x6,f_0 `([97,112,97,114,116])),
(`x7,f_0 `(X.tr xe (X.pn++pins))),
(`x8,f_0 `(cJ T X.K r F H σ env O)),
(`x9,f_1 λa=>`([g4,X.pn++pins,[L]≠$a])),
(`xA,f_3 λa b c=>`(xm $a b.gl b.mg b.bt (iZ $b jp $c) b.nm b.db $c)),
(`xB,f_3 λa b c=>`(find $a y=[fc,y,t.name,($b,$c +1),find b y])),
(`xC,f_3 λa b c=>`(upd [cw,$a,[bn,$b]] $b (.aW $c $a []))),
(`xD,f_7 λa b c d e f g=>`([cM,$a].set $b [X,$c ++[$d]]=[d7,S.set $b [dv,$e ++[$f],$g],$a])),
(`xE,f_0 `([pc,z5 s.heap l C]=[cj])),
(`xF,f_0 `((g_ [cu] 3).filter (kI b c))),
(`xG,f_1 λa=>`([ax _ _ b,[bA],[K,$a]])),
(`xH,f_0 `([X,[wf,nD]])),
(`xI,f_0 `(λw W=>yt G fx r fs w [f])),
(`xJ,f_1 λa=>`([(0,[je]),(4,[l,[ea]]),(10,$a)]))]
def T_54:L0:=[(`xK,f_1 λa=>`(λG=>[A,G.1=k,(G.1,$a),G])),
(`xL,f_0 `([A,F a≠ag\/P a,H' a,ag])),
(`xM,f_0 `(#[p,[],Y,bW,[f7],by rfl])),
(`xN,f_2 λa b=>`([co,$a]=[fe,[nl,a],x,[co,b],y,$b])),
(`xO,f_1 λa=>`([d4,∃i j,x=[aQ]/\y=[c2]/\$a])),
(`xP,f_0 `([Ft,List.toArray [AZ]])),
(`xQ,f_0 `(X.bY s3 H3 c8 ce fp)),
(`xR,f_0 `(.Attribute o [kL] Cu)),
(`xS,f_0 `([R,cM (cp G S k) l,.lst])),
(`xT,f_0 `([f4,λr=>1+[gn]].sum)),
(`xU,f_0 `(a x _ _ _ _ U.rule U.unit)),
(`xV,f_0 `(a z _ _ _ _ C.rule C.unit)),
(`xW,f_4 λa b c d=>`([cY,1,$a,$b,S++[.aW $c []]]=[lO,S++$d])),
(`xX,f_0 `([[sY],[b9],[b9],[b9]])),
(`xY,f_0 `(x==("__classdict__":au))),
(`xZ,f_1 λa=>`({b with items:=b.items.set i $a})),
(`x_,f_0 `(h.ok _ ([b2,c_]))),
(`xa,f_2 λa b=>`(.Raise (aa (.Call (.Name x np) $a [] $b)) ag pos)),
(`xb,f_2 λa b=>`(∀(c$a:ident :aP)($b:ident :[h]),(S++c::$b).set [ad] $a=S++$a ::$b)),
(`xc,f_1 λa=>`(hs.2 b (di (hc [ee] $a)))),
(`xd,f_0 `((ek [fF] j.1,fk [fF] j.1))),
(`xe,f_3 λa b c=>`(mV X $a [n0,$b,∃a,[rf]/\$b=[]/\True/\[iS,$c]])),
(`xf,f_5 λa b c d e=>`([i8,$a,37,[[jy],[bA],[K,$b]],$c,nD,cu $d $e [fi,$c]])),
(`xg,f_2 λa b=>`([[c8,A.nb],[c8,r],[cb,f],[g5],$a,$b])),
(`xh,f_3 λa b c=>`(#[$a,$b,I.base.free,$c,I.base.l7,I.base.k_,I.base.mj])),
(`xi,f_3 λa b c=>`([[cr],[jd],[lv,i6 3 $a,tD],[tt],$b,$c,[W]])),
(`xk,f_0 `(λb r o e=>[hO,h8 _ _ (λh=>g [f])])),
(`xl,f_1 λa=>`((iH [l9,[pO],n,$a]).take [zs])),
(`xm,f_0 `([[fH,[kq]],[fH,c.map sD],[ay,p]])),
(`xn,f_0 `(h r _ _ (.lay c n) (c.lay n) _ ?_)),
(`xo,f_5 λa b c d e=>`(pI hr hw I.nm [zG] $a ([af]) ($b) (λx=>$c) $d $e)),
(`xp,f_2 λa b=>`(zj name qual $a body scope F kV $b pm an O ct)),
(`xq,f_0 `(Ir.cM [aF,[cp,f [Z],x,([L],x)]] l)),
(`xr,f_1 λa=>`(∀(c:aP)($a:ident :[h]),[aR,S++c::$a,[ad],c])),
(`xs,f_0 `(λG=>ao (G.1=k))),
(`xt,f_9 λa b c d e f g h i=>`(∀(pins:[eH])(s:aD)(σ:St)(H:Hp)($a:ident :$b)($c:ident :$d)(Q:$e),([ah])->$f->$g->[hI,$h,$i])),
(`xu,f_1 λa=>`({A with bs:=A.bs++[aa $a]})),
(`xv,f_4 λa b c d=>`(X.lB s H $a (dN $a $b $c X.env) $d xe pn)),
(`xw,f_0 `(c.own (c.hG n) [rp])),
(`xy,f_1 λa=>`([bs,[bZ,$a,[[zB]]]]))]
def T_55:L0:=[(`xz,f_1 λa=>`(aH [R,[hq].take $a,jc b ts a])),
(`y',f_0 `(.b4 [nJ,4,1])),
(`y0,f_0 `([bG].uses.length)),
(`y1,f_0 `([an,x.length]<=8)),
(`y2,f_0 `((tl x).drop i)),
(`y3,f_0 `(.add [am] [a9])),
(`y4,f_0 `(λc L=>by simp)),
(`y5,f_0 `(ls hi hv hd gi)),
(`y6,f_0 `(s _ _ (f _ _ h))),
(`y7,f_0 `(X.env.frame=aa L)),
(`y8,f_0 `(λ_ _ e=>[H,e])),
(`y9,f_2 λa b=>`(∀(j:Nat)k,([ce,$a,k])->$b)),
(`yA,f_0 `([ip,B,j,q,W,z,u])),
(`yB,f_0 `([ap,uo c x,[bG],0])),
(`yC,f_0 `(vd p x scope params)),
(`yD,f_0 `(X.mg "enumerate"=ag)),
(`yE,f_0 `(Reads T K r F H d v)),
(`yF,f_1 λa=>`([iv,[hO,$(a).2 b J]])),
(`yG,f_0 `(((ae,ae),(ae,ae)))),
(`yH,f_0 `(λb z=>[c_,z,Z b])),
(`yI,f_0 `(.comp I t k it d)),
(`yJ,f_0 `([pX,[R,o.1,pD]])),
(`yK,f_0 `(.comp _ _ _ _ _)),
(`yL,f_0 `(bh.ok ?_ ?_ [jw])),
(`yM,f_0 `(om fp s7.heap)),
(`yN,f_0 `((cC b [L]).price)),
(`yO,f_0 `(x.taxes.length<64)),
(`yP,f_0 `([q,e,True.intro])),
(`yQ,f_0 `(#[hp,g,d,tk,os])),
(`yR,f_0 `([ct,[ft,20,[ai]]])),
(`yS,f_2 λa b=>`(ke (ao $a) [ix,[sl],nm,$b])),
(`yT,f_0 `([ft,88,[tC]])),
(`yU,f_0 `(whole*ws[i]/[dc])),
(`yV,f_0 `(.Dict [] [] pos)),
(`yW,f_0 `(qC [hR,[kX]] [jn])),
(`yX,f_1 λa=>`([bZ,48,[[am],[aS,$a]]])),
(`yY,f_1 λa=>`(s.heap.IsItemsView $a d)),
(`yZ,f_0 `([q,jr [g],H.pr])),
(`y_,f_0 `(.b1 .sum [ai])),
(`ya,f_2 λa b=>`(bp $a H p $b\/cx $a H p $b))]
def T_56:L0:=[(`yb,f_1 λa=>`(eu $a [aQ] S=bC [rc] S)),
(`yc,f_0 `(B.any [aF,[wx]])),
(`yd,f_0 `(upd F p (.cb od u))),
(`ye,f_0 `([bT,"BaseException"])),
(`yf,f_2 λa b=>`([bJ,it,rh $a $b d i n ep ok ov])),
(`yg,f_0 `([aA,h.get? a=[cj],x])),
(`yh,f_3 λa b c=>`([wE,[bd,[mk]],Int,[q_],$a,$b,$c])),
(`yi,f_3 λa b c=>`([cZ,$a,[],[$b],w::ws,($c)::ws])),
(`yj,f_0 `(.tuple [[aQ],[c2]])),
(`yk,f_0 `(al T _ _ _ _ _ _ E)),
(`yl,f_0 `([117,115,101,115])),
(`ym,f_1 λa=>`(cM (λ(p:$a×D)=>[AX]) l)),
(`yn,f_1 λa=>`(kp _ _ (G.keeps _ _ $a))),
(`yo,f_0 `(o.data=.dict es ep)),
(`yp,f_1 λa=>`([en,$a,"append",t,[e],j])),
(`yq,f_0 `(.cb od (.dT gG))),
(`yr,f_2 λa b=>`([cn,.Constant $a j pos,tC $b])),
(`ys,f_2 λa b=>`([g',30,[[bk,[aS,$a],[aS,$b]]]])),
(`yt,f_1 λa=>`(Ca λ_ _ _ _ _ _ _ q=>$a)),
(`yu,f_0 `(I.mod.fw.keeps I.bk)),
(`yv,f_0 `(gw b (a.take i) [p7])),
(`yw,f_0 `(#[[eO],H,I,Y,?_])),
(`yx,f_1 λa=>`([wQ,CX,scope,f,$a,s,H])),
(`yy,f_1 λa=>`(∀env,[bt,.i5 $a]=[gg])),
(`yz,f_1 λa=>`([[bA],nD _,[dQ],[l,$a]])),
(`z',f_1 λa=>`(env.kindOf $a=[fj])),
(`z0,f_1 λa=>`(∃v,$a=[cX]/\[cN])),
(`z1,f_0 `(X.tr xe pn)),
(`z2,f_0 `(Unit->Ir.M J)),
(`z3,f_0 `((k8 o).unit)),
(`z4,f_0 `(.neg [a9])),
(`z5,f_0 `(mE b c [fL])),
(`z6,f_5 λa b c d e=>`(#[λi H=>$a,λi H$b:ident$c:ident=>$d,λi H=>$e])),
(`z7,f_1 λa=>`(mz ([cz,$a:term]))),
(`z8,f_1 λa=>`(h _ s _ H Q I $a)),
(`z9,f_2 λa b=>`([dI,I.bk.ne $a $b Y Y Y])),
(`zA,f_0 `(λ_ _=>rfl)),
(`zB,f_0 `(.ix [am] [a9])),
(`zC,f_0 `(Ir.ah Z _ _ S)),
(`zD,f_0 `(fs.map (·.1)))]
def T_57:L0:=[(`zE,f_5 λa b c d e=>`([[cr],[mr],[bn,[hu,$a]],$b,$c,$d,$e,[W]])),
(`zF,f_1 λa=>`([rY,t,gl $a (t+1)])),
(`zG,f_0 `(I.bk.mM hra)),
(`zH,f_0 `(λL M=>em ..)),
(`zI,f_0 `(nT (by simp))),
(`zJ,f_2 λa b=>`([bC,.eq [aK] [fd,$a],$b])),
(`zK,f_2 λa b=>`(eu $a $b S=[gX,bK l $b])),
(`zL,f_3 λa b c=>`(dk $a [aW] S=[bV,[gX,$b],x,$c])),
(`zM,f_0 `(kvs.any [xs])),
(`zN,f_0 `(cB st [db] v)),
(`zO,f_1 λa=>`(λe=>hra (e▸$a))),
(`zP,f_0 `(λa C e=>?_)),
(`zQ,f_0 `(λx c e=>?_)),
(`zR,f_0 `(λy c e=>?_)),
(`zS,f_2 λa b=>`([bC,.mem $a $b,[sg,6]])),
(`zT,f_0 `(h.push [kX])),
(`zU,f_0 `(I.ok.bs b o e)),
(`zV,f_0 `([aO,ay s,20])),
(`zW,f_2 λa b=>`([cp,fK $a x,i,($b,i)])),
(`zX,f_0 `(λz q=>?_)),
(`zY,f_0 `(wh b [ge] [p7])),
(`zZ,f_0 `(iv b [mh] [lh])),
(`z_,f_2 λa b=>`([ef,86,$a,[bf],.g $b])),
(`za,f_0 `([X,c.map D.int])),
(`zb,f_0 `(C.map (eS b l))),
(`zc,f_1 λa=>`(P.at_ i _ _ q (cQ $a))),
(`zd,f_3 λa b c=>`(newD [kn] $a $b S=[pj,S++$c])),
(`ze,f_0 `(λa o e=>[H,e])),
(`zf,f_0 `(bad ([w3]))),
(`zg,f_0 `(cT T _ Z E _)),
(`zh,f_0 `(Gl X "enumerate")),
(`zi,f_0 `(Cc t [nA] [d2])),
(`zj,f_0 `((BL B).zip t)),
(`zk,f_0 `(.own 3 [bI])),
(`zl,f_1 λa=>`(.b1 .str [bX,$a])),
(`zm,f_0 `(X.mg "range"=ag)),
(`zn,f_3 λa b c=>`(pH p x k $a J p1 p2 p3 $b a $c)),
(`zo,f_1 λa=>`(.av [ik,17,$a] 2)),
(`zp,f_3 λa b c=>`([jo,$a,35,[[bA],[m,$b],[l,$c]],1]=_)),
(`zq,f_0 `([104,97,115]))]
def T_58:L0:=[(`zr,f_0 `(c7 P w H h a _)),
(`zs,f_0 `(whole-aH [ma])),
(`zt,f_1 λa=>`([H,#[Y,B,[cL,$a]]])),
(`zu,f_1 λa=>`(tb σ H1 λy H2=>$a)),
(`zv,f_2 λa b=>`([ej,.Assign $a e pos,$b])),
(`zw,f_0 `(Ir.clip [E])),
(`zx,f_0 `(us.length=[mH])),
(`zy,f_0 `(x≠"__name__")),
(`zz,f_0 `(x.steps.map eR))]
def T_59:L0:=[(`D,f_6 λa b c d e f=>`(by have$a:ident :$b :=$c;have$d:ident :$e :=$f)),
(`K,f_4 λa b c d=>`(by obtain⟨$a:ident,$b:ident,$c:ident⟩:=$d)),
(`M,f_3 λa b c=>`(by obtain⟨$a:ident,$b:ident⟩:=$c)),
(`R,f_4 λa b c d=>`(by have$a:ident :=$b;have$c:ident :=$d)),
(`V,f_2 λa b=>`(by rw[$a:term];exact$b)),
(`a',f_2 λa b=>`(by (refine bL λ$a:ident S=>?_);(refine bL λ$b:ident S=>?_))),
(`a0,f_7 λa b c d e f g=>`(by rw[D,$a:term,$b:term,$c:term,$d:term,$e:term,$f:term];refine$g)),
(`a1,f_8 λa b c d e f g h=>`(by have$a:ident :=$b;rw[D,$c:term,$d:term,$e:term,$f:term,$g:term,$h:term])),
(`a2,f_0 `(by rw[aA,h])),
(`a3,f_2 λa b=>`(by refine#[$a,$b])),
(`a4,f_3 λa b c=>`(by obtain⟨$a:ident,$b:ident,_⟩:=$c)),
(`a6,f_3 λa b c=>`(by apply$a;intro$b$c)),
(`a8,f_0 `(by constructor)),
(`a9,f_4 λa b c d=>`(by rw[$a:term];have$b:ident :$c :=$d)),
(`aA,f_1 λa=>`(by split at$a:term)),
(`aC,f_2 λa b=>`(by rw[al,$a:term,$b:term];rw[aA,$b:term])),
(`aE,f_1 λa=>`(by rw[b,q,$a:term])),
(`aH,f_5 λa b c d e=>`(by have$a:ident :$b :=$c;rw[$d:term]at$e:term)),
(`aJ,f_3 λa b c=>`(by rcases$a:term with$b:ident|$c:ident)),
(`aK,f_5 λa b c d e=>`(by rw[K,$a:term,$b:term,$c:term,$d:term];refine$e)),
(`aL,f_0 `(by rw[av,g])),
(`aM,f_8 λa b c d e f g h=>`(by rw[K,$a:term,$b:term,$c:term,$d:term];rw[K,$e:term,$f:term,$g:term,$h:term])),
(`aO,f_3 λa b c=>`(by simp only[$a:term,$b:term]at$c:term)),
(`aP,f_2 λa b=>`(by rw[<-$a:term]at$b:term)),
(`aQ,f_2 λa b=>`(by exact#[$a,$b])),
(`aS,f_3 λa b c=>`(by intro pins s σ H$a I$b;refine$c)),
(`aT,f_2 λa b=>`(by rw[ai,am $a,am $b])),
(`aW,f_1 λa=>`(by rw[aQ,$a:term,Y])),
(`aX,f_7 λa b c d e f g=>`(by simp only[$a:term,$b:term,$c:term,$d:term,$e:term,$f:term,$g:term])),
(`aY,f_3 λa b c=>`(by have$a:ident :=$b;refine$c)),
(`aZ,f_4 λa b c d=>`(by rw[aJ,$a:term,$b:term,$c:term];{exact$d})),
(`aa,f_1 λa=>`(by simp only[$a:term])),
(`ab,f_6 λa b c d e f=>`(by obtain⟨$a:ident,$b:ident,$c:ident,$d:ident,$e:ident⟩:=$f)),
(`ad,f_4 λa b c d=>`(by have$a:ident :$b :=$c;refine$d)),
(`ag,f_5 λa b c d e=>`(by obtain⟨$a:ident,$b:ident,$c:ident,$d:ident⟩:=$e)),
(`ah,f_5 λa b c d e=>`(by have$a:ident :=$b;have$c:ident :$d :=$e)),
(`ai,f_2 λa b=>`(by refine$a;refine$b)),
(`aj,f_9 λa b c d e f g h i=>`(by rw[D,$a:term,$b:term,$c:term,$d:term,$e:term,$f:term];have$g:ident :$h :=$i)),
(`ak,f_4 λa b c d=>`(by have$a:ident :$b :=$c;rw[$d:term])),
(`al,f_2 λa b=>`(by unfold$a:ident at$b:term))]
def T_60:L0:=[(`am,f_7 λa b c d e f g=>`(by obtain⟨$a:ident,$b:ident,$c:ident,$d:ident,$e:ident,$f:ident⟩:=$g)),
(`an,f_1 λa=>`(by refine am $a)),
(`ao,f_2 λa b=>`(by simp only[$a:term]at$b:term)),
(`ap,f_5 λa b c d e=>`(by rw[$a:term]at$b:term;rw[M,$c:term,$d:term,$e:term])),
(`aq,f_2 λa b=>`(by ({exact$a});{exact$b})),
(`ar,f_0 `(by ({grind}))),
(`av,f_1 λa=>`(by rw[bF,[aA,False,$a]])),
(`ax,f_1 λa=>`(by rename_i$a:ident)),
(`ay,f_5 λa b c d e=>`(by have$a:ident :$b :=$c;have$d:ident :=$e)),
(`b,f_2 λa b=>`(by by_cases$a:ident :$b)),
(`b',f_4 λa b c d=>`(by rw[$a:term];rw[au,seval,$b:term,$c:term,$d:term])),
(`b1,f_2 λa b=>`(by rw[dq,$a:term,$b:term];subst N W B)),
(`b3,f_0 `(by rw[aU,e,h.elim (λh=>#[h,Y]) λ#[_,_,_,_,q]=>et q])),
(`b4,f_1 λa=>`(by exact bh.ok (by simp) Y $a)),
(`b5,f_2 λa b=>`(by simp[jY $a];rw[bl,$b:term])),
(`b6,f_3 λa b c=>`(by rw[aq,$a:term,$b:term];{exact$c})),
(`b8,f_3 λa b c=>`(by subst$a;rw[az,$b:term,$c:term,$c:term])),
(`b9,f_2 λa b=>`(by rw[$a:term];rw[Y,seval,$b:term])),
(`bA,f_4 λa b c d=>`(by rw[M,$a:term,$b:term,$c:term];refine$d)),
(`bB,f_3 λa b c=>`(by have$a:ident :=[aD,$b:term];simp[$a:term];rw[bl,$c:term])),
(`bC,f_5 λa b c d e=>`(by intro pins s σ H x$a v$b Q I$c$d$e)),
(`bF,f_1 λa=>`(by exact$(a).elim)),
(`bG,f_2 λa b=>`(by have:$a :=$b;grind)),
(`bH,f_0 `(by intro pins s σ H Q I h)),
(`bI,f_2 λa b=>`(by with_reducible refine$a;rw[$b:term])),
(`bJ,f_1 λa=>`(by show$a;unfold Ir.M.bind)),
(`bK,f_4 λa b c d=>`(by have$a:ident :$b :=$c;simp[seval,$d:term,$a:term])),
(`bL,f_8 λa b c d e f g h=>`(by obtain⟨$a:ident,$b:ident,$c:ident,_⟩:=$d;obtain⟨$e:ident,$f:ident,$g:ident,_⟩:=$h)),
(`bM,f_2 λa b=>`(by obtain⟨$a:ident,_,rfl⟩:=b0.mp $b)),
(`bN,f_9 λa b c d e f g h i=>`(by rw[D,$a:term,[Mm,$b,$c],[bP,$d],$e:term,$f:term,$g:term];rw[V,$a:term,go $c $h $i])),
(`bP,f_5 λa b c d e=>`(by rw[aS,$a:term,h,$b:term];subst$c;obtain rfl:$d :=$e)),
(`bQ,f_1 λa=>`(by rw[M,t,rfl,$a:term];rfl)),
(`bR,f_5 λa b c d e=>`(by obtain⟨$a:ident,$b:ident,$c:ident,$d:ident,_,$e:ident⟩:=hd)),
(`bS,f_1 λa=>`(by ({exact$a});grind)),
(`bU,f_8 λa b c d e f g h=>`(by obtain⟨$a:ident,$b:ident,$c:ident,$d:ident,$e:ident,$f:ident,$g:ident,$h:ident⟩:=h)),
(`bV,f_1 λa=>`(by simp[$a:term];split)),
(`bX,f_4 λa b c d=>`(by rcases$a:term with$b:ident|⟨$c:ident,$d:ident⟩)),
(`bY,f_0 `(by rw[bn,q,h])),
(`bZ,f_0 `(by exact this)),
(`bc,f_0 `(by exact er Y))]
def T_61:L0:=[(`bd,f_3 λa b c=>`(by have$a:ident :=$b;exact$c)),
(`be,f_2 λa b=>`(by exact absurd $a $b)),
(`bf,f_2 λa b=>`(by generalize$a=$b:ident at*)),
(`bg,f_1 λa=>`(by (rw[fI,$a:term]))),
(`bj,f_6 λa b c d e f=>`(by rw[M,$a:term,$b:term,$c:term];have$d:ident :$e :=$f)),
(`bk,f_4 λa b c d=>`(by have$a:ident :=$b;rw[$c:term]at$d:term)),
(`bl,f_1 λa=>`(by exact bh.er $a [g] [g] Y)),
(`bm,f_2 λa b=>`(by refine#[$a,$b,?_])),
(`bn,f_2 λa b=>`(by rw[$a:term]at$b:term;rw[av,$b:term])),
(`bo,f_2 λa b=>`(by rw[b,$a:term,$b:term];rw[ar])),
(`bp,f_0 `(by simp only)),
(`bq,f_0 `(by rw[ao,aF,h])),
(`bs,f_0 `(by split<;>rfl)),
(`bt,f_1 λa=>`(by rw[d2];exact$a)),
(`bu,f_0 `(by congr 1)),
(`bv,f_0 `(by rw[bl,2])),
(`bw,f_2 λa b=>`(by rw[$a:term]at$b:term;simp only at$b:term)),
(`c',f_7 λa b c d e f g=>`(by simp only[seval,$a:term,[no,$b],$c:term,X,$d:term,ke,$e:term];rw[b,hf,$f<=$g];{rw[au,seval,hf,iK,bI];rw[bc]})),
(`c0,f_1 λa=>`(by rw[M,i,g,g.ite];rw[M,k,L,$a:term])),
(`c1,f_0 `(by intro pins s σ H B us Q I r h)),
(`c2,f_0 `(by rw[a4,B,q,h];rw[jq,q])),
(`c3,f_0 `(by rw[M,U,g,al.ite [wY]])),
(`c4,f_0 `(by rw[R,g,I.sF,w,I.wf])),
(`c5,f_0 `(by (rw[bI,uT L ?_,O]))),
(`c6,f_2 λa b=>`(by rw[aH,e,$a:term,[Y,$b:term,q],e,a])),
(`c7,f_0 `(by rw[bC,y,C,d,N,h])),
(`c8,f_1 λa=>`(by cases$a:term<;>first|rw[a7]|skip)),
(`c9,f_2 λa b=>`(by rw[aB,seval,hf,ka,dj,b8];have f:[i8,$a,36,[[jy],[bA]],1,sD,[sl]]:=zJ hr hw I.nm [zG] 1 $b)),
(`cA,f_4 λa b c d=>`(by rw[[bQ]];have$a:ident :=$b;rw[bi,$c:term,$a:term,dD];rw[aE,$d:term])),
(`cB,f_1 λa=>`(by exact#[_,_,_,Y,($a).pr])),
(`cD,f_3 λa b c=>`(by rw[$a:term]at$b:term;rw[ao,$c:term,$b:term];subst$b)),
(`cE,f_4 λa b c d=>`(by rw[ap,$a:term,$b:term,$c:term,$d:term,$b:term];simp[seval,$d:term])),
(`cF,f_1 λa=>`(by cases$a:term<;>try rfl)),
(`cG,f_1 λa=>`(by rw[ai,[hZ],[aJ,$a]])),
(`cH,f_8 λa b c d e f g h=>`(by ({rw[dv,$a:term,$b:term]});rw[b,$c:term,$d:term];{rw[dv,$c:term,$e:term]};rw[b,$f:term,$g:term];{rw[dv,$f:term,$h:term]})),
(`cI,f_0 `(by repeat(any_goals(first|rw[h5]|wp_step)))),
(`cK,f_0 `(by obtain⟨_,_,_,_,o,_,_,e,_⟩:=x)),
(`cM,f_0 `(by rw[M,n,c,p];rw[cF,c])),
(`cN,f_3 λa b c=>`(by rw[ap,$a:term,$b:term,p,$c:term,$b:term];rw[ac,seval,$c:term,aZ];rw[bc])),
(`cP,f_0 `(by rw[M,t,rfl,z]))]
def T_62:L0:=[(`cQ,f_1 λa=>`(by have e:=[aD,J];rw[bh,e,$a:term])),
(`cR,f_0 `(by rw[aU,e,aG.eH kr _ _ h Y])),
(`cS,f_1 λa=>`(by by_cases h:$a<;>simp[seval,h])),
(`cT,f_3 λa b c=>`(by rw[aE,$a=$b];rw[ar];{rw[ae,aX q,e,$c:term]})),
(`cU,f_1 λa=>`(by rw[Y,seval,$a:term];grind)),
(`cV,f_3 λa b c=>`(by rw[cf,$a:term];rw[d_,$a:term,rfl,rfl,$b:term,$c:term])),
(`cW,f_0 `(by first|exact [fa]|exact [aC,Y]|rw[h5])),
(`cX,f_1 λa=>`(by show aE _ A.in1 ($a>>=_) _ _ _)),
(`cY,f_1 λa=>`(by rw[dH,B,q,n,z,h,#[B,e.trans q,n,$a]])),
(`cZ,f_6 λa b c d e f=>`(by rw[bq];obtain⟨⟨⟨⟨⟨$a:ident,$b:ident⟩,$c:ident⟩,$d:ident⟩,$e:ident⟩,$f:ident⟩:=h)),
(`c_,f_0 `(by rw[am,f0,f1,f2,f3,f4,f5,q it (by simp)])),
(`ca,f_1 λa=>`(by rw[bu];funext$a)),
(`cb,f_9 λa b c d e f g h i=>`(by cases$a:term with|a0=>cases$b:term;exact$c|bl$d:ident=>cases$b:term;exact$e|int$d:ident=>rw[aG,$f:term,rfl,$b:term,$g:term]|str$d:ident=>rw[aG,$f:term,rfl,$b:term,$h:term]|_=>rw[be,show af=ae from$i,iN])),
(`cc,f_3 λa b c=>`(by obtain⟨fuel,rfl⟩:∃$a:ident,$b :=#[$c,[g]])),
(`cd,f_4 λa b c d=>`(by rw[aH,$a:term,$b:term,$c:term,$a:term,$d:term];rw[al,Ir.M.bind,$d:term])),
(`ce,f_0 `(by rw[bC,y,u,z,N,h])),
(`cf,f_1 λa=>`(by simp only[bX,dR,d4]at$a:term)),
(`cg,f_3 λa b c=>`(by rw[am,p,B,rfl,$a:term,U,q,$b:term];exact$c)),
(`ci,f_0 `(by intro pins s σ H D I h)),
(`cl,f_0 `(by exact#[_,Y,[AS]])),
(`cn,f_0 `(by rw[bU,env,O,S,r,F,c,P,h])),
(`co,f_6 λa b c d e f=>`(by obtain⟨⟨⟨⟨$a:ident,$b:ident⟩,$c:ident⟩,$d:ident⟩,$e:ident⟩:=$f)),
(`cp,f_0 `(by ({grind});grind)),
(`cr,f_1 λa=>`(by rw[al,$a:term,h];rw[bq])),
(`cs,f_2 λa b=>`(by refine .of (b9 $a [Cu,$b,h]) [bL] [f])),
(`ct,f_2 λa b=>`(by have e:$a=Ir.bad:=[Y,$b:term,q];rw[ae,e,a,a.bad.elim])),
(`cu,f_0 `(by intro pins s σ H xs us Q I r h)),
(`cv,f_0 `(by rw[ab,v,us,rfl,a,b,h.dP])),
(`cw,f_3 λa b c=>`(by rw[M,t,rfl,$a:term];rw[aG,t',rfl,$b:term,$c:term])),
(`cx,f_3 λa b c=>`(by rw[ap,$a:term,$b:term,p,$c:term,$b:term];rw[Y,seval,$c:term];rw[bc])),
(`d',f_2 λa b=>`(by rw[ap,l,f,L,q,f];rw[R,j,Kv l,O,[KR,[ak,x]]];rw[ay,U,$a:term,by have:=I.sl;have:=EG b;rw[fu],z,[mW,[eQ,re hra]]];simp[seval,q,d7 O.bk,wD,O.se,U,jw z];refine#[L,_,A,nm,cB st [K,$b] (me [S]),Y,?_,[f],hra,Y])),
(`d0,f_9 λa b c d e f g h i=>`(by rw[aj,sz,[ev,$a,$b],λb J=>by rw[a4,o,e,T.obj _ _ t_ b J];exact [ee],f3,[ev,$a,hC X pins (upd H2 D ($c)) b/\$d],λb J=>by rw[aY,eE,sz b J,#[#[?_,[bq,f2 b J]],[a5,h3,gp,wu eE]]];rw[V,aX ([bD,hD,di eE]),[M,f2 b J]],v1,tn 0 $e,T.keep _ _ _ t_ λb _ o e=>[q,h3,[gU]]];rw[R,I4,R1 I3 ok hN f3,pg,hg $f (upd H2 D ($c)) $g [nL,$h,$i] $a];rw[R,pt,ht $f (upd H2 D ($c)) $g [nL,$h,$i] $a,pe,he $f (upd H2 D ($c)) $g [nL,$h,$i] $a])),
(`d1,f_8 λa b c d e f g h=>`(by rw[aY,I1,I.wQ (t':=s.toks) (ch:=[z,TI,TO,i1,$a]) (λc o J q=>[cy,sb.2 c (λ$b:ident=>[pT,$b]),[Gq,$b,[pT,$b]]]) hf [dr] new,#[[fs],_,I1,Y,#[_,x,y,Y,[tE],Y,λl U=>$c,λl U=>[q,$d,hy]],#[HP,?_,#[$e,u2,?_],?_,?_],λc t6=>?_]];rw[aq,[cy,sb.2 _ D.TIz,hk _ _ D.TIz D.TITO D.TIi1 D.TIi2 j],[bY,sb.2 _ D.TOz,HN]];rw[aq,G.at [Ed,D.i1z],$f:term];{(have eE:c<[ar]:=by have e':=[aD,t6];rcases e' with q|q|q|q|q;rw[ar];{rw[V,q,bF j]};{rw[V,q,bF n]};{rw[q];rw[p4,e1,$g:term]};{rw[q];rw[p4,e2,$h:term]});rw[V,aX (di eE),[M,hf c t6]]})),
(`d2,f_0 `(by obtain⟨⟨rfl,rfl⟩,rfl⟩:=u)),
(`d3,f_5 λa b c d e=>`(by intro j s x c hk t Q f L U;rw[ad,$a:term,$b:term,[g],pp $c ?_];rw[sq $d _];show [Dr,wB [l4]];rw[an,k7 L Y [aA,[Dr,uU (jg [m,I]) _],[aJ,qE ($e)]]])),
(`d4,f_8 λa b c d e f g h=>`(by show jh _ _ (.compStart (.ListComp $a [#[tg,F,ej,0]] $b pos) 0 [gS] [kT] (dN $b [nL,$c,$d] $e X.env)) [Cs,$e] [mO,$f,qC ($g) $d];have yK:=λb J=>[M,f3 b J].1;generalize Cn:dN $b [nL,$c,$d] $e X.env=$h:ident at I4 pg pt pe|-)),
(`d5,f_8 λa b c d e f g h=>`(by refine m6 (T.item (X.bY $a H3 $b $c $d) Y Y Y O i [] s5 _ H5 [qf] I5 (nz I5 n5) qm go) λr Z#[$e,hr,h6]=>?_;subst hr;rw[ai,m6 h6 λ_ s7#[x,H7,I7,r7,y7,rH,n7]=>?_,m6 (pg _ s7 _ H7 x $e _ (I7.pinned (nz I7 n7) (T.obj _ _ rH)) r7 (step x H7 y7)) λ_ s8#[nB,H8,I8,yN,q8]=>?_];refine m6 (pt _ s8 nB H8 _ I8 q8) λb s9#[H9,I9,q9]=>?_;have fj:∀{s'}{H'},ak (X.bY $a H3 $b $c $d) ([]++om $d s7.heap) nB H' s'->Nx H'->∃$f:ident,$g/\∃i H',ak (X.bY $a H3 $b $c $d) [] [Au] H' s'/\tn i [jI]/\[ev,$d,$h]/\S i $f H':=[Ml,$d])),
(`d6,f_6 λa b c d e f=>`(by obtain⟨it,$a:ident,tn,$b:ident,H2,e,I2,T,t_,f2,q⟩:=$c;subst e;refine pf (Ml ?_) (by show 0<=bS;rw[af]);generalize hD:s2.heap.objs.size=D;obtain⟨S,⟨m0,w0⟩,turn⟩:=q D (I2.aO.fresh (uQ hD));generalize yF:[mO,s2,s2.heap.push [i7,"list",$d]]=$e:ident;rw[D,I3,[c7,upd H2 D [bI],$e],by rw[<-yF];refine I2.laid (t':=s2.toks) [rj] (uQ hD) #[[f7],[],0,[aM],?_];rw[bD,hD,[cs]],h3,$f:term,by rw[<-yF]])),
(`d7,f_1 λa=>`(by have e:=[y6];rw[a3,#[B,[cL,e],by simp[q.length]],[sx]];rw[dQ,ajU]at hd;cases z:l[i]? with|none=>grind|some C=>rw[az,z,hd,hd];rw[aK,v,m,u,q.get z,#[#[B,v,[cL,e],m],λx$a:ident#[t,j,L,n,I,W]=>?_]];subst L I;have:=W _ [cL,e];rw[az,m,this,this];rw[aa,kN];exact wM s n Y [eM,p,f,u])),
(`d9,f_9 λa b c d e f g h i=>`(by rw[a4,T,$a:term,mi J];have B:=[gr,df,$a:term];rw[aM,d,E,z,Ea I.bk T B,t,F,n,BA.qf d];rw[D,o,[M,eN A _]≠r,[zO,t],Z,[ak,eN A _]≠r,[zO,F]];rw[D,$b:term,[aE,eN A _]≠r,[zO,n],$c:term,[aR,[cM,[kP]],[M,[oE]],.aW 1 [w2]],[q,ig o,z.it]];rw[R,j,[M,I.wf.item _ (j7 _ T B)],W,PM hr (line:=line) hw $d $e $f $g (λs H=>[M,$h]) [kP] ($i)]))]
def T_63:L0:=[(`dA,f_1 λa=>`(by rw[bR,p,B,rfl,W,q];rw[z.cg];rw[aM,x,j,I,[tu],w,f,G,q.at j];exact [H,$a])),
(`dB,f_7 λa b c d e f g=>`(by rw[b,h0,0<=$a];{rw[bd,$b:term,[ae,Jd h0 $c,$d:term,uC $d],$e:term]};{rw[br,$b:term,($a +[u1]).toNat=j,by rw[Je [g] $f]at$d:term;grind,$g:term]})),
(`dC,f_0 `(by rw[R,L,wW j,W,[M,B.wf.item _ L]];have q:=jU q;simp[b_,el]at q)),
(`dD,f_1 λa=>`(by rw[ag,B,e,U,z,ow];rw[az,m,e,e];rw[h8,aG,#[p,B,Y,bW,U,$a]])),
(`dE,f_1 λa=>`(by rw[ag,B,m,u,U,z];rw[h8,aG,#[O i,B,Y,w.trans m,u,$a]])),
(`dF,f_0 `(by wp_walk using[Ep],sf z;exact#[_,Y,h])),
(`dG,f_0 `(by cases h:e[i]? with|none=>rfl|some s=>rw[bz,s])),
(`dI,f_1 λa=>`(by rcases g with⟨kvs,k,e,$a:ident,l⟩|⟨kvs,k,b,e,$a:ident,G,l⟩)),
(`dJ,f_2 λa b=>`(by rw[bR,p,B,rfl,m,q];exact [H,#[p,B,Y,$a,[q,q.length,$b]]])),
(`dK,f_1 λa=>`(by rw[ah,U,v7.mp $a,e,[BX],by simp[tf,gI U,gI (v8 U)]])),
(`dL,f_1 λa=>`(by cases [aA,$a,N];rw[ab,z,hd,xs,J,j,sH I.aO e])),
(`dM,f_1 λa=>`(by rw[aE,$a:term];{subst q;rw[bW]at e|-;exact e})),
(`dN,f_2 λa b=>`(by subst$a;rw[aH,e,$b:term,[af],e,h];rw[aO,cX,gQ,h])),
(`dO,f_0 `(by obtain⟨o,_,_,_,e,_⟩:=x)),
(`dP,f_0 `(by rw[R,hB,λn=>[tR],hR,re hra])),
(`dR,f_0 `(by rw[ab,e,n,ne,nf,d,I.eI p hp])),
(`dS,f_0 `(by rw[ab,z,hd,B,J,j,sC I.aO e])),
(`dT,f_0 `(by obtain⟨_,_,_,_,e⟩:=x)),
(`dU,f_0 `(by obtain⟨_,_,_,e,_⟩:=x)),
(`dW,f_0 `(by simp[bT,cV,m,fF,l3,fC,u])),
(`dX,f_0 `(by simp[bE,fF,pW];rw[a',o,l])),
(`dY,f_0 `(by rw[a4,B,q,I];rw[az,q,m,m])),
(`dZ,f_3 λa b c=>`(by rw[a1,S,Jg (prog:=prog) (w:=w) (A:=A.in1) (hh) [ar] l (di lt) G,c,[xP].IsListIter [ar] l 0,[mv],T,[Kr].IsListIter [ar] l 0/\[Kr].IsList l G,#[c.at λo e=>[gU],(U.push _).push _]];(have C:=by have:=cZ [xP] (o:=[Aw]) Y;rwa [gp]at this);rw[aj,f,[di,s.heap.get? b=[a'],[le,[xP].push [Aw]]],[dC,[dR,[gU]]],g,[bN]∉[[ar],l],[f],y,[bN]∉[[ar]],by simp];rw[cm,gp,[m8,$a,pp $b ?_]];rw[sq $a _];rw[cX,wB [m,[bN]]];refine [aJ,k7 C Y ?_];rw[cX,uU (jg [fs]) _];by_cases L:0<G.size;{refine [aJ,qE (S.item 0 _ _ _ L T λv x tk N O Z=>?_)];have H:=Z _ _ y C;rw[cX,zw [bN] (λ_=>(List.toArray [v,v]))];refine [aJ,qF H Y ?_];rw[cm,B,[m8,$a,$c]];refine m W X q L p [dC,u b o [lo] [lo] [cy,h8 _ _ [lo],Z b o [lo] (f b o e)]];rw[aq,[EH],di (wu [ee]) z];rw[aq,gk (wu [ee]) z,[EH]]};{have J:G.size=0:=[g];refine [aJ,qE (S.done _ _ _ [f] λx tk Z=>?_)];rw[d8,[aJ,wz [cA]],h0 J x tk [dC,Z b o (λz=>[EH]) (f b o e)]]})),
(`da,f_2 λa b=>`(by rw[aH,e,[pW,$a,f],rfl,e,a];unfold Ir.M.bind$b:ident at a)),
(`db,f_0 `(by rw[be,[tq,O],iN])),
(`dc,f_1 λa=>`(by rw[M,t,e,[aA,∃t,u=$a,r]];cases e;rfl)),
(`dd,f_0 `(by rw[O]at q;obtain⟨_,q,_⟩:=q)),
(`df,f_2 λa b=>`(by refine#[$a,$b,j,d,j9,?_,f2,f3,f4];rw[<-f1])),
(`dh,f_3 λa b c=>`(by rw[ap,O,u,$a:term,u,u];have u:$b :=u;rw[b0,$c:term,W,hd,z,u])),
(`di,f_0 `(by rw[am,z,az,n,r,U,e,I.vU O])),
(`dj,f_3 λa b c=>`(by rw[aZ,cs.mp $a,$a:term,$a:term,$b:term];{rw[aI,dL,$a:term];rw[bh,$a:term,$c:term]})),
(`dk,f_4 λa b c d=>`(by have$a:ident :$b :=$c;simp[seval,$d:term,js,dD,onWay,nU,$a:term];rw[b,J,[ss]])),
(`dl,f_0 `(by simp[bT,aH,jH]at*;omega)),
(`dm,f_0 `(by rw[ab,w,ws,rfl,m,u,h.dP])),
(`dn,f_0 `(by rw[K,h0,m,u,J.iR x L])),
(`dp,f_0 `(by rw[K,J,L,rfl,lG.mp e])),
(`dq,f_2 λa b=>`(by intro X N W B O i pins s σ H E I$a st$b)),
(`dr,f_1 λa=>`(by rw[d2];rw[ao,aF,J];exact$a)),
(`ds,f_5 λa b c d e=>`(by rw[D,q,t.name∉d3 b/\t.name∉df b/\t.name∉en b/\t.name∉[e1],by simp only[c_,cs,ug]at s;exact s,e,$a:term,by simp[$b:term]];rw[aj,z,$c:term,rfl,u,$d:term,rfl,h,$e:term,rfl])),
(`dt,f_1 λa=>`(by rw[dp];unfold aG at h|-;rw[am,a,B,rfl,m,j,u,h];rw[aG,z1,z2,$a:term,#[a,B,Y,kr _ _ m,[q,z2,j],z1]]))]
def T_64:L0:=[(`du,f_3 λa b c=>`(by rw[[bQ]];rw[ah,W,pI hr (line:=line) hw B (E_ _ st b _) _ ([af]) _ (λx=>$a) 1 [ao],$b:term,∀G,HS [cM,G] _ P h _,λG=>H.St hr0];rw[aa,$c:term])),
(`dv,f_2 λa b=>`(by rw[dN,$a:term,$b:term];obtain⟨rfl,rfl⟩:=h;exact [BZ])),
(`dx,f_3 λa b c=>`(by cases$a:term with|lst l=>rw[a4,B,q,$b:term];grind|aV l=>rw[a4,B,q,$b:term];grind|bZ l=>rw[a4,B,q,$b:term];rw[az,q,$c:term,$c:term]|_=>exact et $b)),
(`dy,f_6 λa b c d e f=>`(by rw[ap,$a:term,f,L,$b:term,f];rw[bj,B,s,Ao $a,N,[nI,$c,0,$d,[bM],0,$e,[bM]],kj hr hw 0 $d [bM] $f];rw[aP,L,N];rw[au,seval,$b:term,aZ,[bo]])),
(`e',f_2 λa b=>`(by cases q:Ir.jx $a $b with|nil=>(cases$b:term with|nil=>rw[bO]|cons y r=>rw[al,Ir.jx,q];grind)|cons w ws=>simp)),
(`e3,f_1 λa=>`(by apply eC.set;{exact I.lo.set _ _ [vC,$a]};{have q:=cG I.bk.na;rw[V,jM,Au Y (I.lo _ q)]})),
(`e4,f_8 λa b c d e f g h=>`(by rw[D,$a:term,[kg,$b,$c],by rw[aR];rw[ek],$d:term,[Q,$e ++$c]<=$f,by rw[cO,aR];omega];generalize$c=$g:ident at$a:term$d:term|-;generalize$b=$h:ident at$a:term$d:term|-)),
(`e6,f_1 λa=>`(by cases [lz,1,r]with|error e=>rfl|ok i=>rw[Y,aZ,p8];rw[b,I,$a=af];{rw[Y,I,bI]};grind)),
(`e7,f_0 `(by obtain⟨F3,l1,l2,n,l4,l5,v3⟩:=yl x H3 L;rw[M,a3,c3,j6.N7 c2 l1 l2 n l4 l5])),
(`e9,f_3 λa b c=>`(by rw[b1,hf,hg];obtain⟨⟨S,$a:ident⟩,nu,$b:ident⟩:=st;rw[ag,xs,x,hq,L,hg];rw[ag,az,rv,p,hz,[eC,hq]];rw[K,$c:term,hu,ru,rv.get L])),
(`eA,f_2 λa b=>`(by show [su,Dl [m,z] 2>>=_];rw[aT,fu $a Y (x:=$b) Y ?_,fu $a Y (x:=[m,TI]) Y [aJ,k7 j Y ?_]];rw[cG,fu $a Y (x:=[a0]) Y [cA]])),
(`eB,f_2 λa b=>`(by have C:$a :=[g];obtain⟨d,hd⟩:∃d,[aZ,ds,d]:=#[_,cQ C];rw[M,go,yl,y2 i d hd];rw[aH,HU,$b:term,by rw[mG C];rw[az,cQ C,hd,hd];rfl,HU,u])),
(`eC,f_4 λa b c d=>`(by cases q:[zC]with|ok d p=>rw[ae,q,h,λj$a:ident$b:ident$c:ident$d:ident=>k d _ _ _ _ $c [iM,$c] $d [fA,$c] h]|ex c B p=>rw[ae,q,h,λj$a:ident$b:ident W$c:ident$d:ident x=>h _ _ _ _ [iM,$c] $d x]|bad=>rw[bY])),
(`eD,f_0 `(by refine [ip,G,U,d,J,W,L.bind.mono λy A F2 H2#[t,N,n,u]=>?_];rw[aM,j,rfl,g2,u.kG,b,o,q,al.pure N g2];grind)),
(`eE,f_0 `(by refine [ip,G,U,d,J,W,L.bind.mono λy A F2 H2#[t,N,n,u]C hu=>?_];rw[bx,j,rfl,g2,u.kG,[dO,N,g2,hu]])),
(`eF,f_2 λa b=>`(by rw[ap,q,W,U,f,W];rw[am,C,q2,s,N,q4,L,Qg q];simp[f];rw[aK,$a:term,$b:term,y,FH I.bk.nd d,#[U,_,A,nm,st,Y,?_,[aD,hr],hra,Y]])),
(`eH,f_0 `(by rw[a3,by simp,λw h=>?_];rw[cf,h];rcases h with rfl|rfl|rfl|rfl;rw[aq,[eI],B];rw[aq,[fq],[fq]])),
(`eI,f_0 `(by refine [n4];{rw[Eb,li,aw ([af])];exact I.se.ro};{rw[Hc,li,aw ([af])];exact I.se.ca})),
(`eJ,f_0 `(by refine#[j.typeIs,λb q=>?_,hd];rw[bO];obtain⟨ob,_,_,h1,h2,_⟩:=j;exact#[ob,h1,[ak,h2]])),
(`eL,f_2 λa b=>`(by obtain⟨⟨S,$a:ident⟩,nu,$b:ident⟩:=st;rw[K,xs,hq,L,hg];rw[ag,az,rv,p,hz,[eC,hq]];rw[am,f0,f1,f2,f3,f4,f5,[EA]])),
(`eM,f_4 λa b c d=>`(by rw[b1,hf,hg];obtain⟨$a:ident,j,⟨x0,y0,n⟩,$b:ident,$c:ident⟩:=st;rw[ab,xs,ys,qk,ql,Sa,hg];rw[bL,az,rv,p,[eC,qk],t5,t8,p2,$d:term];rw[R,l1,rv.length,l2,t8.length])),
(`eO,f_0 `(by have e:Ir.ah Z (.lD [ib] [g3]) env S=[aX]:=[gv,Ir.ah,Ir.cD,U];rw[ae,e,h,h.elim])),
(`eP,f_1 λa=>`(by rw[aS,Q,L,$a:term];rw[aY,O,S.aO.fresh (dz _),#[[dQ],upd _ _ _,S.laid (λb u e=>[gU]) (by simp) ?_,Y,q _ O]])),
(`eQ,f_2 λa b=>`(by rw[an,akb $a Y ?_];(have e:$b :=by rfl);rw[aT,[cA],Uv l z ?_];rw[[nw]];rw[aT,[cA],Uw l z ?_];rw[cm,aw (by simp),[cA]])),
(`eS,f_2 λa b=>`(by rw[ah,m,a.pre i x $a,u,[aR,h,[gn]+j,x],[f]];rw[aN,(v9 (by obtain⟨w,_⟩:=dC.mp m;exact w) $b).mp (m.trans u.symm)])),
(`eU,f_0 `(by cases e:i.lookup c with|none=>rw[ao,e,h];rw[a7]|some o=>rw[ao,e,h];rw[aa,s _ _ e];exact h)),
(`eV,f_0 `(by rw[az,e,J,J];rw[d]at q;injection q with G _;have:=[aD,jN ai0 G];rw[bh,this,r.inj z])),
(`eW,f_1 λa=>`(by intro wh pins s σ H Q I [iu,O,h];rw[ai,$a:term,[jU,λx U d k#[G,J,W,m]=>?_]];rw[aK,i,rfl,L,m.kG,#[i,Y,?_]])),
(`eX,f_2 λa b=>`(by rw[b,J,b=a];{subst J;rw[bW]at e;grind};{rw[ae,aX J,e,($a).jR [f] (λc q=>[nm,q]) λc$b:ident q=>[nm,q]]})),
(`eY,f_0 `(by rw[M,y,c,p];rw[pi]at h;rw[a2];{rw[ax,q];rw[a7];rw[V,gq q,qv]};{exact lF _ (e h)})),
(`eZ,f_1 λa=>`(by rw[aC,aL,h];{rw[bq];obtain⟨⟨m,u⟩,z⟩:=h;exact$a};{rw[bq];cases [cW]};{rw[bq];cases [cW]};{rw[a7]})),
(`e_,f_2 λa b=>`(by intro value O pins s σ H x y v u Q I$a N h J;obtain⟨p,xs,i,z,rfl,rfl,W,$b:ident,q⟩:=h;cases$a:term;rw[M,t,rfl,N])),
(`ec,f_0 `(by rw[Y,jn,cO];rw[ah,m,[M,h.it w (by simp)],u,[um,bO,[eS]<=20,λx=>32::x,[E]*21],λl=>by induction l with|nil=>simp|cons a t e=>grind];have q:=u r λx L=>[M,h.it x [o3]];rw[aI,b7,U];omega)),
(`ee,f_9 λa b c d e f g h i=>`(by rw[D,eE,[iQ,$a],[qv],F,$b:term,[aV,jw [aE,$c].1,de]];rw[R,E,($d).St (line:=line) (ws:=ws) (n:=G) hra,yG,$e:term];rw[ad,fS,$f:term,by simp,#[_,A,_,st,?_,yG,[aD,hr],hra,Y]];simp only[seval,[no,hB G],$g:term,oo $h,sD,hT,$h:term,eE,F,d7 E.bk,ic $i,AA,E.na,Br I.wf I.nm,fS,m,jw [ak,hR]];rfl)),
(`ef,f_4 λa b c d=>`(by rw[ad,yJ,∀y∈$a,$b->∃c,[l_,[b7],c],[Hk,$c],ajq (use:=oZ) Y hs (Nd yJ) ok.kind (λy hy e=>by rw[ok.uniq y hy,e]) (a8 (hi pins s σ H _ I h) λxv s1 L=>a8 L λSe s2$d:ident=>?_)])),
(`eg,f_2 λa b=>`(by rw[d3,C,[cU]=n,$a:term,$b:term,W.done s _ _ (C▸Q) λG tk Z=>?_];show aE _ A.in1 (zw S (λ_=>[ff,[]])>>=_) _ _ _;exact [aJ,qF (Z S _ y L) Y [aJ,mK (bg (U x _ tk [f] λb o z a e=>[C9]))]])),
(`eh,f_2 λa b=>`(by rw[b,J,ao $a=ae];{rw[au,ke,J,bI,aZ]};{rw[au,ke,J,b8,dj];cases hZ b 1 r with|error e=>rfl|ok x=>rw[aa,aZ];cases [EK]with|error e=>rfl|ok y=>rw[bp];rw[bz,$b:term]})),
(`ei,f_5 λa b c d e=>`(by rw[aw q]at h;rw[b,z,5<=c/\c<=12];{rw[aJ z]at h;rw[aK,p,rk,I,xt.xc c [cK] z.2,#[T.dr c,p,rk,e,I,?_]];rw[V,aw (λw=>q [dI,xt.inj c $a [cK] z.2 $b $c w]),#[c,B,Q,$d,$e,r,F,S,e,a,G,x,h]]};{rw[bn,aw z,h]})),
(`ej,f_1 λa=>`(by rw[Y,dj,b8];rw[an,mK ?_];rw[V,B,[m8,$a,X [cU] _ x c [g] m O (by rw[au,fb,J,dj,b8];grind) H [Jj,Z b o z e]]])),
(`el,f_2 λa b=>`(by obtain⟨a,g,_,h,f⟩:=m;rw[an,uO $a JD (sm JD $a aj0 ?_ (aj1 _))];show [sA,Dl _ 0>>=_];rw[aT,fu $b hd Y ?_,fu $b hd Y ?_];rw[an,k7 g f ?_];simp[L]))]
def T_65:L0:=[(`em,f_3 λa b c=>`(by rw[b,e,[L]=k];{(have b:$a=aa q.2:=by simp[$b:term,(h1.symm.trans e)]);rw[a5,yx e,b,h2]};{rw[D,J,¬[cV]=k,λz=>e (h1.trans z),b,$a=$c,by simp[$b:term,J]];rw[ba,wZ e]})),
(`en,f_9 λa b c d e f g h i=>`(by rintro n s5⟨i,H5,I5,qm,n5,w5⟩;rcases turn i n H5 w5 with⟨stop,qq⟩|⟨go,Nx,HF,step⟩;{refine m6 $a λ$b:ident$c:ident#[hr,I6]=>?_;subst hr;have nC:=[hr,$d:term,I6.free,cL,$d:term];rw[a4,$e:term,hn,I6.loc];rw[hr,hn,hn,cL,HD $f $g $c $e H5 $h qq hn $i]})),
(`eo,f_0 `(by cases e:[vY]with|none=>rw[[tn].2 e];rw[ae,e,f,f _ W]|some x=>rw[K,w',N,n,[tn].1 x e];rw[N];rw[ae,e,f,f _ n])),
(`ep,f_1 λa=>`(by obtain⟨$a:ident,j,d,I,m,u,U,L⟩:=z;rw[bk,f,Ax u,L,f];refine#[d,I,?_,#[u.se,u.nm,u.wf,u.w2,u.sl,u.sv]];simp[gc,y,m,fC,f,u.pr,q.all,bI])),
(`er,f_3 λa b c=>`(by cases J:bN 1 $a [nf] q with|error e=>rw[ap,J,N,p,fG,N];rw[aX,seval,wX,O,sD,he,[bo],fG];rw[bc]|ok y=>rw[ap,J,N,hy,fG,N];rw[R,hv,kD J,hm,Sg $b [b7] [dp] $c];rw[aP,hy,hm];simp only[seval,wX,O,sD,he,[bo],fG,nD];exact hm)),
(`es,f_5 λa b c d e=>`(by rw[ap,q,W,L,W,W];rw[ay,W,$a:term,W,a,vN q];simp[$b:term,aR]at a;have u:=JX hr (line:=line) hw [g] $c a.1 [g] $d [bM] [ao];rw[aP,L,u];rw[ah,hd,d7 (j [bM]).ob,z,[nX,fl (.obj 15 (gg n0 ht)) $e T],[oN]];rw[aa,aZ])),
(`et,f_5 λa b c d e=>`(by rw[d3,m,$a:term,$b:term,$c:term,W.item ($d) s _ _ m Q λv G tk N O Z=>?_];have H:=Z S _ y L;rw[cX,uU (iC [v,v] (TK $e v x>>=_)) _];rw[an,qE (kh [aJ,i ($d) (fb bt j) v x _ _ _ N f [aJ,kh (nW [aJ,mK [cA]])]])])),
(`eu,f_2 λa b=>`(by rw[b,q,[jt]/\[u']];{rw[ae,aJ q,g,[H,#[p,B,Y,[eJ,$a],Cb [cV] I,AI q.2 z,[q,Bm [cV] I q.2 z,[dO,a,g,$b]]]]]};{rw[bn,aw q,g]})),
(`ex,f_5 λa b c d e=>`(by rw[b1,hf,hg];obtain⟨$a:ident,j,⟨x0,y0,n⟩,$b:ident,$c:ident⟩:=st;obtain⟨xs,ys,x,y,qk,ql,L,hy⟩:=hg;rw[bL,az,rv,p,[eC,qk],t5,t8,p2,$d:term];rw[aM,$e:term,hu,ru,rv.get L,u2,Sc,HM,t8.get hy];have Cs:=bF $a)),
(`ez,f_2 λa b=>`(by refine#[by simp[a],_,A,nm,cB st [rn] (sD $a),Y,?_,[f],hra,Y];apply I.setting [jm] (sD $a) [Fh,$b] [bL] Y Y Y Y Y Y)),
(`fA,f_1 λa=>`(by rw[aT,zv (uO $a Dn (sm Dn $a aj' ?_ (aka _))),[cA]];rw[ai,[hZ],[hZ]])),
(`fB,f_0 `(by have t4:b<[ar]:=[f];rw[V,aX (di t4),[M,hf b J]])),
(`fC,f_7 λa b c d e f g=>`(by have I:=Qi u;rw[cD,u,q,qy];rw[aY,N,NY $a ([cK]-1) v.1 ([aN,$b:term]) [g] [g],#[$c,$d,$e,$f,H.cm,H.cr,[ch,H.ct]]];rw[d_,ID L,L,rfl,$g:term,I.2])),
(`fD,f_0 `(by rw[cJ];rw[ag,B,q,n,z,q];rw[aW,#[a,B,Y,q,n,z]])),
(`fE,f_0 `(by intro x L;simp[cq,b0,jJ]at L;rw[K,w,W,rfl,L])),
(`fF,f_2 λa b=>`(by obtain⟨z,y,$a:ident,r,ob,es,ep,e,c⟩:=x;exact#[z,y,$a,$b,ob,es,ep,[la],c])),
(`fG,f_0 `(by have e:[mb,[tl]]:=yc i [ru] _;rw[eR,js,CQ,nU,e];rw[b,j,[ry]])),
(`fH,f_1 λa=>`(by have g:[mb,[oU]]:=Du c [nA] _;simp[seval,$a:term,js,dD,nU,g];rw[b,J,[ss]])),
(`fI,f_1 λa=>`(by refine bL λ$a:ident S=>?_)),
(`fJ,f_0 `(by rw[aM,o,ho,m,h.u4,l,rfl,u,m.tu];obtain⟨es,_⟩:=[kY,P,ho];refine#[_,es,[ux,u]];rw[aM,G,rfl,g1,g.f_,j,hj,g2,g1.iQ];rw[aM,xd,n,g3,g2.iQ,xi,rfl,g4,g3.f_];obtain⟨_,f,mv,rE,z⟩:=[kY,s,ho];obtain⟨v,rD,hv,_⟩:=zY z hj n;refine#[b i,f,G,v,Y,W.cg,[cL,mv],rD,[uP,I,s,g4,d,C,a2,c2,hu,g]];rw[K,U,rfl,g5,g.f_];obtain⟨_,L,fG,qj,q⟩:=[kY,i9,ho];obtain⟨v2,_,_,J⟩:=zY q hj n;exact#[xi,U,hv.cg,hu.cg,b i,L,G,j,Y,W.cg,fG,J,s0 (d1:=D.lst _) jF c2 i9 A ho #[L.set j _,bW,[q,jM,qj],q.set [b3]] g5])),
(`fK,f_6 λa b c d e f=>`(by rw[bH];rw[ai,[Jy],Ur [dL,(iZ g jp N) pos pins s σ H (w3 _) I h,us,G,B,z,F,c,r] ([a_,N]) ([a_,N])];obtain⟨v,rfl,a,ns,rfl,l,q⟩:=FX r;rw[K,C,rfl,n,lQ c];cases n;refine JI (IS (JJ ?_));rw[ag,az,J,pl,w,F.list l];rw[bk,U,J.length,aR,U];rw[ad,S,[c7,z,[tK,G,$a]],F.tok _,$b:term];{have d:$c :=[f];rw[K,y,W,L,J.get (show$d by rw[aV,dQ,cQ d])];rw[gH,show$e by simp,W,m];rw[iT,t,e,[aA,∃t,$f,L]]};{have:=uh.mp (by rw[U];rw[aD,h0]);rw[bh,this,#[[iZ],z,S.kept u,[gV],q]]})),
(`fL,f_1 λa=>`(by rw[[gf,[gL]-1+1=[gL]],nK]at P;rw[show [u1]=[gL]by simp[U]]at m;have d:fb [n5,$a] ([gL]-1)<[gL]:=[g];rw[K,y,W,L,J.get (QU d)];rw[gH,[aA,[hf][fb _ _]?=az[fb _ _]?,aj7 ..],W,m];rw[ae,P,L,#[_,z,S.kept u,L,q]])),
(`fa,f_2 λa b=>`(by rw[ad,e,$a:term,rfl,[jU,λi y C n#[t,I,N,m]u B z x o a G W=>?_]];rw[V,iu,al.newD I $b z (by rw[u]) a G])),
(`fb,f_0 `(by simp[dQ,lG]at hd;rw[K,j,z,rfl,hd];rw[M,u,rfl,dC.mp z];rw[aI,gY,u])),
(`fc,f_2 λa b=>`(by rw[R,m,m5 st [K,$a] (me [S]),u,I.sl];have B:$b=ag:=[bb];simp[pZ,B,IF,IG,b7]at u|-;omega)),
(`fd,f_2 λa b=>`(by cases y<;>simp only[seval,qu,g6,nQ,o8,iV,q5,j,e,s,m,u,q,jd,vI,$a:term,lim,a9,sD,$b:term,z_,zR,x9,sP])),
(`fe,f_3 λa b c=>`(by ({rw[aJ $a,aJ $a];rw[ac,$b:term,kf,g'];rw[b,I,$c:term];{rw[ac,I,bI,aZ]};{rw[ac,I,b8,dj];rw[bz,qx 1 r]}});rw[aw $a,aw $a])),
(`ff,f_0 `(by obtain⟨hs,f,L,_,S,U,G,i8,y⟩:=wU I hd;rw[M,rfl,rfl,LI l G])),
(`fg,f_0 `(by rw[gm (dt hj)]at e2;rw[aK,N,r',q,U j y v' e1 e2 e3,#[N,r',?_]])),
(`fh,f_2 λa b=>`(by rw[ai,[aJ,$a],[hZ]];rw[ai,am (m:=aj2 _ _) ($b),pf ?_ (by size_fits)];rw[an,wpAny_handled ?_])),
(`fi,f_1 λa=>`(by rw[AC _ _ i $a x u [g]]at this;rw[ae,[gf,[gO]+(5*i+$a)=[gO]+5*i+$a],this,this])),
(`fj,f_1 λa=>`(by rw[ai,b9 ($a) [wF,O],[gD,U,d,k,G,J,W,w]];rw[aK,i,rfl,L,m.kG,#[i,w.xh,?_]])),
(`fk,f_0 `(by rw[ag,z,B,I,q4,u p q];have:=[M,J.item _ (j7 [L] z B)].price)),
(`fl,f_2 λa b=>`(by obtain⟨i,v,ws,rfl,O,I,L⟩:=h;rw[M,m,g2,$a:term];have b:=$b;unfold Ir.bK at m g2|-;rw[IH])),
(`fm,f_0 `(by refine#[env,O,S,r,F,c,P,?_];rw[cd,e,[pW,[bt,J],f],rfl,h])),
(`fo,f_4 λa b c d=>`(by rw[D,e,c-$a=[hj,c-$a],[g],h,[c5]=$a +[hj,c-$a],by rw[aa,sg];rw[cz,aJ [g]]];rw[ac,seval,$b:term,$c:term];rw[e,$d:term,h];rw[eq])),
(`fq,f_3 λa b c=>`(by rw[cP];cases y with|a0=>rw[aU,N,$a:term]|int j=>rw[aG,t',rfl,N,$b:term]|str j=>rw[aG,t',rfl,N,$c:term]|_=>rw[db])),
(`fr,f_0 `(by rcases Gh k i _ h with m|⟨pre,n,m,u,q,z⟩;rw[bS,e6 m])),
(`fs,f_0 `(by rw[aJ,[c4,(tK x r).mem_iff.mp q],rfl,q];{omega};grind)),
(`ft,f_3 λa b c=>`(by generalize hH3:upd H2 D [bI]=H3 at I3 I4 pg pt pe w0 yK f3;generalize HE:[mO,$a,qC $b $c]=s4 at I4|-))]
def T_66:L0:=[(`fv,f_3 λa b c=>`(by cases z;cases y with|a0=>rw[aU,N,$a:term]|bl j=>rw[aU,N,$b:term]|str j=>rw[aG,t',rfl,N,$c:term]|_=>rw[db])),
(`fw,f_1 λa=>`(by intro s' O;rw[N]at O;rw[aZ,cs.mp O,O,O,$a:term];{rw[aI,dL,O];grind})),
(`fx,f_0 `(by obtain⟨_,_,_,_,o,_,_,e,ex,_⟩:=I.aO p _ q)),
(`fy,f_1 λa=>`(by rw[a2];{rw[ax,q];rw[a7];rw[bh,q,#[Y,by simp[qa,$a:term]]]};{rw[a7]})),
(`fz,f_1 λa=>`(by rw[m]at q;rw[ao,aZ,q];rw[b,h0,$a:term];{rw[aO,h0,bI,q];simp at q}))]
def T_67:L0:=[(`AE,f_3 λa b c=>`(by cases f with|next=>rw[dH,a,b,c,d,$a:term,$b:term]|brk=>rw[dH,a,b,c,d,$a:term,$b:term]|cont=>rw[dH,a,b,c,d,$a:term,$b:term]|ret C=>rw[am,v,a,b,c,r,d,$a:term];exact$c)),
(`AV,f_0 `(by rw[h_,(if a<G then _ else match S[a]? with|aa [oS]=>_|aa [aW]=>_|aa [b6]=>_|ag=>_)=_])),
(`BP,f_2 λa b=>`(by cases ws with|nil=>rw[aI,$a:term,h]|cons$b:ident r=>rw[aI,$a:term,h];grind)),
(`Bc,f_6 λa b c d e f=>`(by rw[ck];intro y$a;have m:sg y∈tx $b :=$c▸b0.mpr [f];rw[K,z,$d:term,$e:term,b0.mp m];have u:=ck.mp $f z $d;rw[<-BQ]at u|-;grind)),
(`Bx,f_3 λa b c=>`(by intro wh pins s σ H Q I h;refine$a;cases c with|true=>exact$b|false=>exact$c)),
(`Dw,f_2 λa b=>`(by cases neg with|false=>exact$a|true=>exact$b)),
(`F6,f_6 λa b c d e f=>`(by refine#[c.len,c.nd,λb o e=>?_,[fo],λn$a:ident b$b:ident$c:ident=>[kG,b,$b,$c].step [c0] $d Y,c.tab.fr [hl,c.tab.ne $e,c.tab.1]];{rw[b,z,b=p];{subst z;rw[dg,bW,e,$f:term]};{rw[ae,aX z,e,c.sub b o e]}};{rw[V,aX (λz=>nr ([bD,z,J])),c.off b J]})),
(`FB,f_8 λa b c d e f g h=>`(by refine [jU,λx$a:ident$b:ident H1#[$c,$d,$e,m]v I=>?_];rw[ag,s,rfl,rfl,$f:term,m.D5 [fa] I];refine#[[gV],env,O,$c,$a,$b,$d,[fA,$e],$g];have g:=[aA,[yk],u];cases y with|str t=>(match t,hu,g with|[k],hu,g=>rw[M,U,g,al.ite [aA,[yk],g]];rw[cm,hu.gb,#[_,_,Y,Y,Y,by rw[tR,<-lP];grind,λp n=>?_]];rw[cm,LL k s U.1,$h:term];rw[aR];rw[aN,DK k s]|[],hu,g=>rw[aL]|_::[d5],hu,g=>rw[aL])|_=>rw[aL])),
(`FC,f_2 λa b=>`(by rw[bU,env,I,S,r,F,c,P,h];rw[ad,e,[bt,.b1 _ a]=(do Ir.dk $a ($b)),rfl,[iu,I,[tr,λx s C G#[i,z,U,m]v W=>?_]]];rw[K,d,hd,g,al.kn z W m];cases d with|lst l=>rw[bR,p,B,rfl,L,q];rw[K,ns,e,g,al.iQ [aA,[yk],g]];rw[ae,q.«ints» e,L,#[p,ns,Y,[cL,L],[dO,z,g,Y]]]|_=>rw[aL])),
(`FJ,f_2 λa b=>`(by rw[dI,O];{subst O;rw[dS];refine$a;rw[<-[lA].tV,<-l];exact h _ [hp]};{subst O;rw[dL,u=da b];refine$b;rw[bk,q,[lA].tV,wd,q];rw[<-q,<-l];exact h _ [hp]})),
(`FL,f_2 λa b=>`(by rw[bC,y,u,G,N,h];obtain⟨p,xs,rfl,z,fx,fs,q⟩:=h;cases N;rw[aJ,z,z,z];{rw[ag,az,r,pl,L,[eC,z]];refine$a;rw[a5,show az.toArray.any _=az.any (qg x)by simp,wH r fs,q]};{rw[ag,az,r,pl,L,[e_,z]];refine$b;rw[a5,show az.toArray.any (qg x)=az.any (qg x)by simp,wH r fs,q]})),
(`FM,f_3 λa b c=>`(by rw[b1,q,j];rw[ag,xs,x,z,L,j];rw[ag,az,G,p,n,$a:term];rw[K,u,hu,ru,G.get L];rw[c_];refine$b;rw[dH,o,e,c,d,id S,#[u,Y,Ar e c d Y #[x,H,[Dg,[yF,sb]],ru,#[Y,λys F=>[ba,$c:term]],S,λb J=>[M,q b J]]]])),
(`FR,f_1 λa=>`(by intro j C W p f s;rw[aY,e,[y6],#[#[B,$a,[ba,q.length]],[sx]]];rw[aK,v,z,u,q.get hd,#[#[B,v,$a,z],λx m#[L,I]=>?_]];subst L;have:=I _ ($a);rw[dg,z,this,#[C,[gK],s,[gK],[ze],λ_ e=>e,[eM,p,f,u]]])),
(`FT,f_1 λa=>`(by cases d with|lst l=>rw[cg,m,hd,#[p,B,Y,[H,[cL,m]],λo n=>$a]]|tup l=>rw[cg,m,hd,#[p,B,Y,[eJ,[jB,m]],λo n=>$a]]|_=>rw[av,g])),
(`Fp,f_1 λa=>`(by intro g P y p f s;rw[R,e,[y6],G,s _ _ (f _ _ U)];rw[a3,#[B,ws,[cL,e],$a,?_],[sx]];{rw[aR,mD,q.length,O.length];omega};{rw[dQ]at hd;cases I:(l.zip z)[i]? with|none=>grind|some J=>rw[az,I,hd,hd];rw[M,z1,z2,CD.mp I];rw[K,v,m,N,q.get z1];rw[aK,w,f1,f2,O.get z2,#[#[B,ws,v,w,[cL,e],$a,m,f1],λx A#[t,Q,j,u,n,L,W,C]=>?_]];subst u L;rw[R,z3,W _ [cL,e],z4,C _ ($a)];rw[m]at z3;rw[az,f1,z4,z3];rw[aU,z4,wM s n [eM,p,f,N] [eM,p,f,f2]]})),
(`Fs,f_7 λa b c d e f g=>`(by rw[D,st,[vj,$a,kv [d4,y=[aY]/\Q ($b) H] [zg] (tC _) _ H Q],λσ H Q#[env,O,S,r,F,c,P,h]=>by rw[ad,e,$c=(do match$d:term with|[aY]=>[gg]|_=>[gg]),rfl,[jU,λx s C d#[p,B,L,m]v q=>#[Y,?_]]];rcases Qq q with⟨rfl,rfl⟩|⟨U,u⟩;{exact [dO,B,m,$e]};{rw[nV u];rw[aA,m];rw[ar];{exact [dO,B,m,$f]}},pe,PE X (.Compare a _ [.Constant _ j f] pos) _,b9 (yf $g J.pe wT Y) st];exact [w4,yB $g J.pe wT (rj _)])),
(`Fx,f_2 λa b=>`(by rw[c1];rw[ab,a,bs,rfl,L,q,h];obtain⟨az,F,U,_⟩:=[eC,L];rw[bq.AU r];rw[aY,J,F.sQ,$a:term];subst G;rw[ai,#[_,_,_,_,_,_,_,Y,Jg (A:=X.A.in1) [e4] _ a j _,st,Mi J,λh' tk W=>?_],#[[eO],H,I.kept λb o n=>W b o [lo] [dR,n],?_,q]];{rw[aJ,[c4,z],N,z];{rw[be,N▸bF n,by simp]};grind};{show r9 _=r9 _;rw[<-$b:term,J,ph,aR]})),
(`Fz,f_0 `(by rw[R,h,wP U,q,xI U];(have m:Io b l<=40*1000000000000:=by refine c9 (lW _ _ _ ?_) (mC _ q.len);intro g a;rw[M,m,u,q.ts g a];have N:=c9 (yq [D3]) q.le;simp[rV];rw[<-tm b _ _ (vH m u _)];refine [Ko];{intro t _;rw[jN,e,c9 (Cf J m u _ (t+1)) (rJ 4 (Iq N _))]};{rw[gY];rw[aN,J.nt]});simp[rT];omega)),
(`GC,f_0 `(by show(match prog.fns[f]? with|aa F=>_|ag=>_:M D) S=_;rw[ak,i,[aR,prog.fns,f,F],h,i];simp[U,x];rfl)),
(`GN,f_0 `(by cases e:Ir.bK l x with|none=>rw[a_,(z.get L).2 e]|some d=>rw[a4,w,s,(z.get L).1 d e];rw[a_,s])),
(`GS,f_1 λa=>`(by rw[ce];obtain⟨d,e,hd,O,W,se,q⟩:=h;rw[M,L,J,Dp.reads I d x v hd z];rw[aG,bs,j,Dp.reads I e y u O N,$a:term])),
(`Gc,f_2 λa b=>`(by have m:($a<128/\[Q,tx t]+2<=lim):=#[[g],by rw[nh];rw[fu]];rw[aa,jD];rw[aJ m];have:=D' _ ($b) t;rw[aH,e,[an,$a].toNat=$a,rfl,e,this];rw[aV,this,cq])),
(`Ge,f_2 λa b=>`(by rw[cu];rw[ag,i,j,rfl,q,h];obtain⟨u,B,rfl,⟨t,rfl⟩,⟨t',rfl⟩⟩:=Go r;refine$a;rw[b,L,$b:term];{rw[a5,aJ L,aJ L,[gV]]};{rw[a5,aw L,aw L,[gV]]})),
(`Gh,f_0 `(by refine#[a.keep,[j9],[j9],a.pre,a.nr,a.fR];{rw[V,aX [jb,z,g,e],a.fr b o e]};{rw[b,z,b=p];rw[ar];{rw[ae,aX z,e,a.nf b o e]}})),
(`IC,f_0 `(by rw[aX,BA.all,BA.hd,rN,ir,yV,iu,em];rw[d8,y8 _ (y8 _ ?_),Td])),
(`IO,f_0 `(by unfold Ir.cB jy;rw[h.any L];split;rw[aq,h.map L q,h.snoc L q])),
(`IS,f_1 λa=>`(by rw[ce];rw[M,rfl,q,h];cases N;refine$a;cases x<;>first|rfl|(rw[bQ,z]))),
(`Ij,f_4 λa b c d=>`(by rw[cv];rw[aC,$a:term,q];rw[ar];{rename_i i _ z;cases z;cases e:$b:term with|none=>grind|some I=>rw[az,e,q,q];rw[aV,$c:term,$d:term]};grind)),
(`Iz,f_4 λa b c d=>`(by rw[fK,G.toks+1,$a:term,i<[gL],[ji][i]?=[cj],[hf][i]?=az[i]?,v=o_ ns[i] t];{have o:0<[gL]:=$b;rw[M,r,P,$c:term];rw[fL,$d:term]})),
(`JB,f_1 λa=>`(by rw[aa,eM];rw[aw T,aw F,aw w,aw h,aw Z,aw q,aw g,aw z,aw k9,aw B,$a:term])),
(`JF,f_0 `(by cases q:F p with|none=>rfl|some C=>rw[az,[fk,q],n,n])),
(`JY,f_3 λa b c=>`(by rw[aS,Q,h,$a:term];rw[am,f0,f1,f2,f3,f4,f5,f];exact#[[kT],$b,Z.turned [yF,$c] f0 f1 f3 f4 f5,Y,q])),
(`Jp,f_2 λa b=>`(by rw[aS,$a:term,h,$b:term];cases d with|true=>exact L _ _ _ _ $a S q|false=>exact J _ _ _ _ $a S q)),
(`Jw,f_1 λa=>`(by rw[bC,y,u,G,J,h];rw[ab,i,j,z,L,q,h];subst z;subst L;rw[cw,G,J,$a:term])),
(`K7,f_5 λa b c d e=>`(by obtain⟨$a:ident,j,⟨x,y,n⟩,$b:ident,$c:ident⟩:=st;exact#[k z (by simp) _ $a,k TI (by simp) _ j,#[x,y,k TO (by simp) _ n],$d,$e])),
(`KV,f_1 λa=>`(by rw[ce];rw[ab,i,j,rfl,rfl,q,h];rw[cw,z,N,rule i j t _ s _ _ $a])),
(`LG,f_0 `(by cases ns with|nil=>rw[a7]|cons x r=>rw[aW,[dr]])),
(`Lu,f_2 λa b=>`(by rw[b1,q,j];rw[K,xs,z,L,j];rw[ag,az,G,p,n,$a:term];rw[c_];rw[bd,U,G.length,$b:term])),
(`Y,f_2 λa b=>`(by simp only[$a:term,$b:term])),
(`a5,f_3 λa b c=>`(by rw[$a:term,$b:term];exact$c))]
def T_68:L0:=[(`a7,f_0 `(by cases h)),
(`aB,f_5 λa b c d e=>`(by simp only[$a:term,$b:term,$c:term,$d:term,$e:term])),
(`aD,f_1 λa=>`(by simpa using$a)),
(`aG,f_4 λa b c d=>`(by rw[M,$a:term,$b:term,$c:term];exact$d)),
(`aI,f_2 λa b=>`(by simp[$a:term]at$b:term)),
(`aN,f_1 λa=>`(by have:=$a;omega)),
(`aU,f_2 λa b=>`(by cases$a:term;exact$b)),
(`aV,f_2 λa b=>`(by rw[$a:term,$b:term];rfl)),
(`a_,f_1 λa=>`(by rw[$a:term];rfl)),
(`ac,f_3 λa b c=>`(by simp only[$a:term,$b:term,$c:term])),
(`ae,f_3 λa b c=>`(by rw[$a:term]at$b:term;exact$c)),
(`af,f_0 `(by decide)),
(`au,f_4 λa b c d=>`(by simp only[$a:term,$b:term,$c:term,$d:term])),
(`az,f_3 λa b c=>`(by rw[$a:term]at$b:term;cases$c:term)),
(`b0,f_5 λa b c d e=>`(by simp only[seval,$a:term,$b:term,$c:term,$d:term,$e:term])),
(`b2,f_1 λa=>`(by simp[$a:term];grind)),
(`bD,f_2 λa b=>`(by rw[<-$a:term];exact$b)),
(`bE,f_0 `(by simp;omega)),
(`bO,f_0 `(by cases q)),
(`b_,f_1 λa=>`(by unfold$a:ident;grind)),
(`ba,f_1 λa=>`(by rw[$a:term];grind)),
(`bb,f_0 `(by simp_all)),
(`bh,f_2 λa b=>`(by subst$a;exact$b)),
(`bi,f_3 λa b c=>`(by simp[seval,$a:term,$b:term,$c:term])),
(`br,f_4 λa b c d=>`(by have$a:ident :$b :=$c;exact$d)),
(`bx,f_5 λa b c d e=>`(by rw[K,$a:term,$b:term,$c:term,$d:term];exact$e)),
(`bz,f_1 λa=>`(by cases$a:term<;>rfl)),
(`cJ,f_0 `(by cases e)),
(`ch,f_1 λa=>`(by have:=$a;grind)),
(`cm,f_2 λa b=>`(by rw[$a:term];refine$b)),
(`cz,f_1 λa=>`(by rw[$a:term];omega)),
(`d8,f_2 λa b=>`(by refine$a;exact$b)),
(`dH,f_6 λa b c d e f=>`(by rw[ag,$a:term,$b:term,$c:term,$d:term,$e:term];exact$f)),
(`dV,f_2 λa b=>`(by unfold$a:ident;rw[$b:term])),
(`d_,f_5 λa b c d e=>`(by rw[aJ,$a:term,$b:term,$c:term];rw[aq,$d:term,$e:term])),
(`dg,f_3 λa b c=>`(by rw[az,$a:term,$b:term,$b:term];exact$c)),
(`dz,f_0 `(by decide+kernel)),
(`eG,f_1 λa=>`(by simp[$a:term];omega)),
(`eK,f_2 λa b=>`(by rw[$a:term]at$b:term;simp at$b:term)),
(`eR,f_4 λa b c d=>`(by simp[seval,$a:term,$b:term,$c:term,$d:term]))]
def T_69:L0:=[(`eT,f_3 λa b c=>`(by have$a:ident :$b :=$c;grind)),
(`ek,f_0 `(by rw[aa,lim];omega)),
(`eq,f_0 `(by rw[aa,seval])),
(`ey,f_1 λa=>`(by rw[$a:term];simp)),
(`fN,f_2 λa b=>`(by simp[$a:term,$b:term];grind)),
(`fn,f_1 λa=>`(by rw[al,$a:term,h];grind)),
(`fp,f_3 λa b c=>`(by rw[$a:term]at$b:term;rw[aI,$c:term,$b:term])),
(`fu,f_0 `(by rw[eG,lim])),
(`gH,f_3 λa b c=>`(by rw[$a:term,$b:term]at$c:term;cases$c:term)),
(`gM,f_1 λa=>`(by refine$a;grind)),
(`gr,f_2 λa b=>`(by simpa[$a:term]using$b)),
(`gv,f_3 λa b c=>`(by rw[ac,$a:term,$b:term,$c:term];rfl)),
(`h5,f_0 `(by assumption)),
(`h8,f_2 λa b=>`(by unfold$a:ident;exact$b)),
(`hG,f_0 `(by simp at h)),
(`hX,f_1 λa=>`(by rw[aa,$a:term];grind)),
(`h_,f_1 λa=>`(by show$a;grind)),
(`hr,f_4 λa b c d=>`(by have$a:ident :=$b;rw[ae,$c:term,$a:term,$d:term])),
(`iT,f_3 λa b c=>`(by rw[M,$a:term,$b:term,$c:term];grind)),
(`ia,f_0 `(by simp[jO])),
(`jL,f_1 λa=>`(by rw[<-$a:term];rfl)),
(`jN,f_2 λa b=>`(by have$a:ident :=$b;grind)),
(`jq,f_1 λa=>`(by rw[$a:term];trivial)),
(`lD,f_1 λa=>`(by simp[$a:term];rw[bs])),
(`nT,f_1 λa=>`(by cases$a:term<;>first|rfl|rw[a7])),
(`p4,f_2 λa b=>`(by obtain⟨_,$a:ident,_⟩:=$b;exact bF $a)),
(`qv,f_0 `(by rw[aR];rw[ek])),
(`rJ,f_0 `(by simp[BA.hd])),
(`sz,f_2 λa b=>`(by rw[aZ,cs.mp $a,$a:term,$a:term,$b:term];grind)),
(`tN,f_7 λa b c d e f g=>`(by rw[aG,C,j,h.tX $a (by simp[BA.hd]) _,#[h.nd,[bU,0,$b,h.bk],$c,$d,[bU,3,$b,h.it],[bU,4,$b,h.bu],$e,$f,$g,h.il,λi t x a b=>C t x i a b,h.bl,j]])),
(`u8,f_2 λa b=>`(by rcases$a:term with rfl|rfl<;>exact$b)),
(`uI,f_2 λa b=>`(by have:=jN $a $b;simp at this;omega)),
(`w3,f_0 `(by rw[gv,Ir.bE,Ir.dh,q])),
(`xj,f_1 λa=>`(by induction l with|nil=>rfl|cons x r q=>simp[$a:term,q])),
(`xx,f_1 λa=>`(by rw[bD,hm,vy (i:=$a) x.nd Y Y [Ea]]))]
def TA(s:String):L0:=if s<"hF"then if s<"J8"then if s<"ER"then if s<"Bv"then if s<"Ad"then T_0 else if s<"BG"then T_1 else T_2 else if s<"DB"then if s<"CZ"then T_3 else T_4 else if s<"Do"then T_5 else T_6 else if s<"GY"then if s<"F3"then T_7 else if s<"Fo"then T_8 else T_9 else if s<"Hp"then if s<"HC"then T_10 else T_11 else if s<"IV"then T_12 else T_13 else if s<"bg"then if s<"L5"then if s<"Jo"then T_14 else if s<"KT"then T_15 else T_16 else if s<"a'"then if s<"Lj"then T_17 else T_18 else if s<"av"then T_19 else T_20 else if s<"eZ"then if s<"d9"then if s<"cS"then T_21 else T_22 else if s<"dr"then T_23 else T_24 else if s<"fw"then if s<"fF"then T_25 else T_26 else if s<"g_"then T_27 else T_28 else if s<"qu"then if s<"lq"then if s<"jH"then if s<"hw"then T_29 else if s<"i_"then T_30 else T_31 else if s<"ka"then if s<"jx"then T_32 else T_33 else if s<"lC"then T_34 else T_35 else if s<"oL"then if s<"n4"then if s<"mS"then T_36 else T_37 else if s<"ni"then T_38 else T_39 else if s<"pe"then if s<"p0"then T_40 else T_41 else if s<"qH"then T_42 else T_43 else if s<"vQ"then if s<"sq"then if s<"rZ"then T_44 else if s<"sD"then T_45 else T_46 else if s<"u9"then if s<"tV"then T_47 else T_48 else if s<"un"then T_49 else T_50 else if s<"xz"then if s<"wg"then if s<"w2"then T_51 else T_52 else if s<"xK"then T_53 else T_54 else if s<"zE"then if s<"yb"then T_55 else T_56 else if s<"zr"then T_57 else T_58
def TB(s:String):L0:=if s<"dA"then if s<"bd"then if s<"am"then T_59 else T_60 else if s<"cQ"then T_61 else T_62 else if s<"em"then if s<"du"then T_63 else T_64 else if s<"fv"then T_65 else T_66
def TC(s:String):L0:=if s<"a7"then T_67 else if s<"eT"then T_68 else T_69
def sL:List Lean.Name:=[`fC,`yh,`an9,`fF,`AY,`l3,`alu,`aft,`aly,`amc,`akP,`aoy,`ao8,`aom,`amv,`alC,`akw,`alf,`alH,`al6,`ao7,`pW,`alS,`aoo,`ak_,`alt,`anq,`aov,`ald,`amt,`amG,`aox,`aob,`e_c,`Kn,`e_g,`aos,`anJ,`apw,`apA,`anZ,`amI,`amD,`alj,`apy,`alP,`aoe,`al8,`alg,`amM,`aoL,`ank,`alm,`akN,`alp,`amm,`amT,`ao1,`am1,`al2,`aoX,`anA,`aoG,`apR,`aoK,`akF,`ao_,`apb,`an7,`ao5,`ano,`an',`anp,`apd,`anB,`aln,`apx,`apm,`anF,`amn,`an0,`anY,`ao',`apr,`aoZ,`apC,`anS,`ape,`anD,`aoC,`anL,`aoV,`ak9,`al9,`anb,`amL,`aof,`amf,`al3,`anV,`amx,`anR,`ao6,`ao9,`anM,`aoh,`ame,`amU,`anI,`akM,`al7,`anE,`aoW,`amX,`akB,`amw,`amj,`apk,`alY,`ama,`an1,`als,`akY,`anO,`akW,`aoP,`am2,`ale,`apz,`apj,`amW,`P',`Pr,`anz,`amK,`apg,`anv,`apc,`alM,`apG,`apI,`aps,`alb,`anP,`akD,`amq,`alN,`wJ,`am',`anC,`amz,`amY,`ans,`alw,`aow,`ami,`alZ,`aog,`amp,`aoD,`apa,`alR,`al',`akJ,`anj,`ak4,`an4,`anW,`ao2,`ak',`am5,`amC,`anf,`anw,`anx,`ak5,`ak1,`alx,`aoR,`an5,`anr,`amb,`akX,`alO,`aol,`akz,`alG,`apB,`an2,`apS,`ant,`ak8,`aoY,`akO,`aoi,`an6,`am6,`alq,`amo,`amA,`alV,`apo,`akC,`amy,`al4,`aon,`ams,`alD,`anT,`aoH,`aoS,`akQ,`ak2,`alE,`GS,`alI,`anN,`apF,`akx,`an_,`apE,`apM,`anH,`aoJ,`aoq,`aoB,`al_,`amZ,`aop,`akV,`ao3,`alU,`anG,`alA,`apK,`alJ,`al1,`amg,`aph,`apQ,`anl,`alo,`akK,`alz,`apq,`aoE,`getD_some,`getD_none,`OU,`apn,`amd,`apl,`AG,`Rm,`api,`L4,`alc,`al5,`al0,`anU,`amr,`amH,`alK,`apP,`anX,`amR,`aoa,`ao0,`am8,`apL,`akI,`aor,`am7,`ang,`amk,`amu,`akE,`amF,`alk,`amh,`aou,`alF,`ak3,`aot,`ak0,`aoN,`akT,`aoT,`aoF,`ala,`aoO,`anh,`aoU,`akA,`aky,`am_,`an3,`alT,`alW,`ane,`aoz,`akL,`apv,`akG,`amN,`apt,`apf,`amV,`V9,`ana,`amO,`apD,`aoA,`amB,`akH,`aoI,`alX,`am0,`aod,`alv,`Ki,`aoM,`afZ,`aok,`alB,`alL,`Qt,`akS,`aoQ,`ani,`am9,`alh,`anm,`alQ,`apH,`ak7,`an8,`am3,`ak6,`aml,`anQ,`amP,`WT,`KZ,`alr,`apN,`apO,`akZ]
def sE(x:Array Lean.Syntax):Lean.MacroM (Array Lean.Syntax):=do
  if x.size>0&&x[0]![2].getId==`seval then
    let mut r:Array Lean.Syntax:=#[]
    for n in sL do
      if !(←Lean.Macro.resolveGlobalName n).isEmpty then r:=(r.push (.node .none ``Lean.Parser.Tactic.simpLemma #[Lean.mkNullNode,Lean.mkNullNode,Lean.mkIdent n])).push (.atom .none ",")
    return r++x
  Lean.Macro.throwUnsupported
section
local macro_rules
|`([$xs,*])=>do
  let e:=xs.getElems.map (·.raw)
  if e.size>0&&e[0]!.isIdent then let n:=e[0]!.getId; if let some f:=((TA n.toString).lookup n).orElse λ_=>(TC n.toString).lookup n then return ←f (e.extract 1 e.size)
  Lean.Macro.throwUnsupported
|`(tactic|rw[$xs,*])=>do
  let e:=xs.getElems.map (·.raw[1])
  if e.size>0&&e[0]!.isIdent then let n:=e[0]!.getId; if let some f:=((TB n.toString).lookup n).orElse λ_=>(TC n.toString).lookup n then
    let b:=(←f (e.extract 1 e.size))[1]
    return ←`(tactic|($(⟨b⟩):tacticSeq))
  Lean.Macro.throwUnsupported
|`(#[$a,*])=>`(⟨$a,*⟩)
local macro_rules|`(tactic|simp $[only%$o]?[$x,*]$[$l]?)=>do let y:=⟨←sE x.elemsAndSeps⟩;`(tactic|simp $[only%$o]?[$y,*]$[$l]?)
namespace Ir
inductive D where|a0|bl(b:Bool)|int(i:Int)|str(s:[aj])|tup(l:[al])|lst(l:[al])|aV(l:[dk])|obj(c:Nat)(l:[mM])|ref(n:Nat)|fn(k:Nat)|dU(l:[al])|b4(l:[al])|bZ(l:[dk])|iY(l:[dk])|du(l:[dk])deriving Inhabited
inductive aP where|aW(c:Nat)(l:[mM])|lst(l:[al])|aV(l:[dk])deriving Inhabited
abbrev aj:=List aP
inductive R(α:[aH])where|ok(a:α)(S:aj)|ex(c:Nat)(vs:[al])(S:aj)|bad
@[reducible]def M(U:[aH]):=aj->R U
def M.pure{U:[aH]}(a:U):M U:=λS=>[ab,a]
def M.bind{U J:[aH]}(G:M U)(f:U->M J):M J:=λS=>[Bo,G S,[be,a,e],f a e,e]
instance : Monad M where
 pure := M.pure
 bind := M.bind
def bad{U:[aH]}:M U:=λ_=>[aX]
def bC{U:[aH]}:([bg,U])->M U|aa a=>λS=>[ab,a]|ag=>λ_=>[aX]
def ci{U:[aH]}(G:M U):M U:=λS=>[K4]
def tJ(b:Bool):M Unit:=λS=>[nx,b,[ic]]
def D.atom:[rz]|[b3]=>ae|[dE]=>ae|_=>af
def D.pair:[rz]|[bk,[b3],[b3]]=>ae|_=>af
mutual
def D.beq:D→D→Bool|.int a,.int b=>a==b|.str a,.str b=>a==b|.tup l,.tup G=>lm l G|.lst l,.lst G=>lm l G|_,_=>af
def lm:List D→List D→Bool|[],[]=>ae|x::r,y::s=>x.beq y&&lm r s|_,_=>af
end
mutual
def D.flat:D→Bool|.a0=>ae|.bl _=>ae|.int _=>ae|.str _=>ae|.tup l=>Dx l|_=>af
def Dx:List D→Bool|[]=>ae|x::r=>x.flat&&Dx r
end
def jX(x:D)(l:[al]):Bool:=l.any λy=>y.beq x
def plain(s:[aj]):Bool:=s.all λc=>ao (c<128)
def kz(l:[al]):Bool:=[gh,l,[],ae,[[db]],plain s,af]
def mQ:D->D->M Bool|[kR],[l,b]=>[ci,a==b]|[K,a],[K,b]=>[ci,a==b]|[ax,a],[ax,b]=>[A,kz a=ae/\kz b=ae,[ci,lm a b],bad]|_,_=>bad
def D.jv:[rz]|[eB]=>l.all D.atom|_=>af
def bK(l:[dk])(k:D):[bg,D]:=[hY,l.find? [qr,k]]
def cB(l:[dk])(k v:D):[dk]:=[ap,l.any [qr,k],[aT,[rX,k,v]],l++[(k,v)]]
def eV(l:[mM])(f:Nat):[bg,D]:=[cZ,l,[],ag,[eZ],[fc,[L],f,[Z],eV r f]]
def dV(l:[mM])(f:Nat)(v:D):[mM]:=[cZ,l,[],[(f,v)],[eZ],[Kc]]
def eQ:([al])->[bg,[a4]]|[]=>aa []|[aQ]::r=>[R,eQ r,(i::·)]|[d5]=>ag
def pF:([al])->[bg,[lC]]|[]=>aa []|[K,i]::r=>[R,pF r,(i::·)]|[d5]=>ag
def oR:([al])->[bg,List Bool]|[]=>aa []|[bj,i]::r=>[R,oR r,(i::·)]|[d5]=>ag
def place(n:Nat)(i:Int):[kD]:=[G']
def at_{U:[aH]}(l:[gw])(i:Int):[bg,U]:=(place [E] i).bind λj=>l[j]?
def clip(n:Nat)(v:Int):Nat:=[JD]
def cut{U:[aH]}(l:[gw])(lo q:Nat):[gw]:=[ed,lo].take (q-lo)
def lexLt:([a4])->([a4])->Bool|[],[]=>af|[],[d5]=>ae|[d5],[]=>af|x::G,y::B=>[A,x=y,lexLt G B,ao (x<y)]
def jx(c:Nat):([aj])->[lC]|[]=>[[]]|[bp]=>[KH,jx c r]
def lY(a:[aj]):([lC])->[aj]|[]=>[]|[w]=>w|w::ws=>w++a++lY a ws
def lc(c:Nat):Bool:=[Ag,48,57]
def pR(c:Nat):Bool:=[Ag,97,122]
def pS(c:Nat):Bool:=[Ag,65,90]
def digits(n:Nat):[aj]:=(kK n).toList.map SG
def ali(i:Int):[aj]:=[A,i<0,45::digits i.natAbs,digits i.natAbs]
def yw(s:[aj]):Nat:=s.foldl [CG] 0
def l0(x:Int):([a4])->[a4]|[]=>[x]|y::r=>[A,x<=y,x::y::r,y::l0 x r]
def pq:([a4])->[a4]|[]=>[]|[bp]=>l0 x (pq r)
def lb(rs:[a4])(i:Nat):([aj])->[aj]|[]=>[i]|j::r=>[A,[fK,j]<[fK,i]\/([fK,j]=[fK,i]/\i<=j),i::j::r,j::lb rs i r]
def iH(rs:[a4]):[aj]:=(br [fM]).foldr (lb rs) []
inductive B1 where|len|sum|any|all|int|str|ord|list|tuple|dict|sorted|vz|vR|isalnum|isalpha|isdigit
inductive B2 where|min|max|split|join
inductive Ex where|c(d:D)|v(i:Nat)|g(k:Nat)|add(a b:Ex)|sub(a b:Ex)|mul(a b:Ex)|mT(a b:Ex)|mod(a b:Ex)|neg(a:Ex)|lt(a b:Ex)|le(a b:Ex)|gt(a b:Ex)|ge(a b:Ex)|eq(a b:Ex)|ne(a b:Ex)|kE(a:Ex)|pV(a:Ex)|mem(a b:Ex)|ot(a b:Ex)|pC(a b c:Ex)|and(a b:Ex)|or(a b:Ex)|not(a:Ex)|ite(t a b:Ex)|tup(l:[iV])|lst(l:[iV])|i5(t:Bool)|lD(a b:Ex)|ix(a i:Ex)|ko(a lo hi:Ex)|qI(a lo:Ex)|l8(a hi:Ex)|av(a:Ex)(f:Nat)|m7(i k:Nat)|call(f:Nat)(l:[iV])|lS(c:Nat)(l:[iV])|lh(e:Ex)(l:[iV])|new(c:Nat)(l:[iV])|bG(c:Nat)(a:Ex)(f:Nat)(l:[iV])|b1(o:B1)(a:Ex)|b2(o:B2)(a b:Ex)|iU(a b c:Ex)|qO(a b:Ex)|comp(e:Ex)(t:[aj])(k:Nat)(it:[iV])(ifs:[iV])|qS(a:Ex)(i:Nat)|proj(a:Ex)(k:Nat)
inductive Sm where|set(i:Nat)(e:Ex)|own(i:Nat)(e:Ex)|mY(i:Nat)(e:Ex)|fz(i:Nat)(s:Sm)|dv(a:Ex)(f:Nat)(e:Ex)|eO(a:Ex)(f:Nat)(e:Ex)|lq(a:Ex)(f:Nat)(e:Ex)|inc(i:Nat)(e:Ex)|dec(i:Nat)(e:Ex)|mS(i:Nat)(k e:Ex)|pB(i:Nat)(k e:Ex)|jS(i:Nat)(k e:Ex)|put(a k e:Ex)|d_(i:Nat)(e:Ex)|app(a e:Ex)|ee(i:Nat)(e:Ex)|qP(i:Nat)|ex(e:Ex)|ret(e:Ex)|pP(i:Nat)|oD(i:Nat)|iff(t:Ex)(a b:[fV])|cS(t:[aj])(k:Nat)(it:[iV])(b:[fV])|mh(t:Ex)(b:[fV])|brk|hW(c:Nat)(l:[iV])|tr(b h:[fV])|hd(c:Nat)(i:[kD])(b:[fV])
inductive Slot where|un|val(d:D)|own(d:D)|exc(vs:[al])deriving Inhabited
abbrev Env:=List Slot
inductive Flow where|nx(e:Env)|rt(d:D)|bk(e:Env)
def Slot.cb:Slot->Slot|[ie]=>[g5]|s=>s
def bH(d:D):M D:=λS=>[cZ,d,[m,n],match S[n]? with|aa [aW]=>[ro]|aa [b6]=>[ab,[b6]]|aa [oS]=>[ab,[oI]]|ag=>[aX],d,[id]]
def lC(d:D):M Unit:=λS=>[gh,bH d S,.ok (.aV _) _,[ic],.ok (.bZ _) _,[ic],[aX]]
def rc(d:D):M Unit:=λS=>[jM,bH d S,.ok [b9] _,[ic]]
def lw(c:Nat)(d:D):M Unit:=λS=>[jM,bH d S,.ok (.obj k _) _,[A,k=c,[ic],[aX]]]
def bo:D->M Int|[aQ]=>[ci,i]|_=>bad
def eP:D->M Bool|[jR]=>[ci,b]|_=>bad
def fV:D->M [al]|[aW]=>[ci,l]|_=>bad
def apJ:D->M [aj]|[K,l]=>[ci,l]|_=>bad
def lim:Nat:=16777216
def oz:D->D->M D|[aQ],[c2]=>[ci,[l,i+j]]|[K,a],[K,b]=>[B',[K,a++b]]|[ax,a],[ax,b]=>[B',[X,a++b]]|[bw,a],[bw,b]=>[B',[bw,a++b]]|_,_=>bad
def xO : D → D → M D
 | .int i, .int j => M.pure (.bl (ao (i < j)))
 | .tup a, .tup b => do
  let x ← bC (eQ a)
  let y ← bC (eQ b)
  M.pure (.bl (lexLt x y))
 | _, _ => bad
def gx(x:D):D->M Bool|[b6]=>[Kz]|[jH]=>[Kz]|[aW]=>[A,([jt]/\[jv,D.atom])\/(x.pair=ae/\[jv,D.pair]),[ci,jX x l],bad]|[eB]=>[Jm]|.b4 l=>[Jm]|_=>bad
def eu:D->D->M D|[aW],[aQ]=>bC [rc]|[eB],[aQ]=>bC [rc]|.b4 l,[aQ]=>bC [rc]|.dU l,[aQ]=>bC [rc]|[K,l],[aQ]=>[A,[hk],bC [cp,[rc],c,[K,[c]]],bad]|[b6],k=>[LP]|[hv],k=>[ap,k.jv,bC (bK l k),bad]|[jH],k=>[LP]|_,_=>bad
def gE:D->([nb])->([nb])->M D|.dU l,lo,q=>[ci,[X,[A8]]]|[aW],lo,q=>[ci,[X,[A8]]]|[eB],lo,q=>[A,[mT,lo.map (clip [E])]=0/\[D0,clip [E]]=[E],bad,[ci,[bw,[A8]]]]|_,_,_=>bad
def j0:([a4])->Int|[]=>0|[x]=>x|[bp]=>fk x (j0 r)
def oO:([a4])->Int|[]=>0|[x]=>x|[bp]=>ek x (oO r)
def dk : B1 → D → M D
 | .len, .lst l => M.pure (.int l.length)
 | .len, .dU l => M.pure (.int l.length)
 | .len, .tup l => M.pure (.int l.length)
 | .len, .str l => if l.length ≤ lim then M.pure (.int l.length) else bad
 | .sum, .lst l => do M.pure (.int (← bC (eQ l)).sum)
 | .any, .lst l => do M.pure (.bl ((← bC (oR l)).any id))
 | .all, .lst l => do M.pure (.bl ((← bC (oR l)).all id))
 | .int, .str s => if s.all lc = ae ∧ s.length ≤ 8 ∧ 0 < s.length then M.pure (.int (yw s)) else bad
 | .str, .int i => if 0 ≤ i ∧ i < 10 ^ 18 then M.pure (.str (digits i.toNat)) else bad
 | .ord, .str [c] => M.pure (.int c)
 | .list, .lst l => M.pure (.lst l)
 | .list, .tup l => M.pure (.lst l)
 | .tuple, .lst l => M.pure (.tup l)
 | .dict, .aV l => M.pure (.aV l)
 | .sorted, .lst l => do
  let x ← bC (eQ l)
  if x.length < 64 then M.pure (.lst ((pq x).map .int)) else bad
 | .vz, .lst l => do M.pure (.int (oO (← bC (eQ l))))
 | .vR, .lst l => do M.pure (.int (j0 (← bC (eQ l))))
 | .isalnum, .str s => if plain s = ae then M.pure (.bl (!s.isEmpty && s.all fun c => lc c || (pR c || pS c))) else bad
 | .isalpha, .str s => if plain s = ae then M.pure (.bl (!s.isEmpty && s.all fun c => pR c || pS c)) else bad
 | .isdigit, .str s => if plain s = ae then M.pure (.bl (!s.isEmpty && s.all lc)) else bad
 | _, _ => bad
def jD : B2 → D → D → M D
 | .min, .int i, .int j => M.pure (.int (ek i j))
 | .max, .int i, .int j => M.pure (.int (fk i j))
 | .split, .str s, .str [c] => if c < 128 ∧ s.length + 2 ≤ lim then M.pure (.lst ((jx c s).map .str)) else bad
 | .join, .str s, .lst l => do
  let ws ← bC (pF l)
  if (ws.map mw).sum + ws.length * s.length ≤ lim then M.pure (.str (lY s ws)) else bad
 | _, _, _ => bad
def tZ:B2->D->M Unit|.min,_=>[ci,()]|.max,_=>[ci,()]|_,[dE]=>[ci,()]|_,_=>bad
def cM{U J:[aH]}(f:U->[bg,J]):([gw])->[bg,List J]|[]=>aa []|[bp]=>(f x).bind λy=>[R,cM f r,(y::·)]
def sM(k:Nat):D->[bg,D]|[eB]=>l[k]?|_=>ag
def acw(k:Nat)(d:D):M [al]:=match k with|0=>[gh,d,[aW],[ci,l],[eB],[ci,l],bad]|1=>[rq,[dn],[A,-[ko]<=n/\n<=lim,[ci,[jA,[fw],[l,[an,i]]]],bad]]|3=>[rq,[aW],[ci,[rT,[an,[Z]]]]]|4=>[rq,[aW],[ci,[rT,[an,[Z]]+1]]]|6=>[rq,.iY l,[ci,[pn,[n1]]]]|7=>[rq,[db],[A,s.length<=lim,[ci,s.map λc=>[K,[c]]],bad]]|_=>bad
def af1(k:Nat)(d e:D):M [al]:=[gh,k,2,[rq,[kR],[d6,e,[l,b],[A,[uz,a]/\[uz,b]/\b-a<=lim,[ci,[Eh,[an,i]]],bad],bad]],5,[rq,[ax,a],[gh,e,[ax,b],[ci,[Eo]],[bw,b],[ci,[Eo]],bad]],bad]
def ez(k:Nat)(l:[al]):M [al]:=[gh,l,[d],acw k d,[d,e],af1 k d e,bad]
def fX(e:Env)(t:[aj])(d:D):[bg,Env]:=[gh,t,[i],aa [qi],[i,j],[d6,d,[kz],[J1],ag],ag]
def b6(e:Env):([aj])->Env|[]=>e|i::r=>(b6 e r).set i [W]
def UM {U J : Type} (f : U → M J) : List U → M (List J)
 | [] => M.pure []
 | x :: r => do
  let y ← f x
  let B ← UM f r
  M.pure (y :: B)
def eJ {U J : Type} (f : U → M (Option J)) : List U → M (List J)
 | [] => M.pure []
 | x :: r => do
  let y ← f x
  let B ← eJ f r
  M.pure (match y with | aa z => z :: B | ag => B)
structure bM where
 call : Nat → List D → M D
 init : Nat → Nat
 fw : Nat → Option D
 fuel : Nat
 ar : Nat → Nat
def cp(G:Nat)(S:aj):Nat->D->[bg,D]|0,_=>ag|[ao],d=>match d with|[m,n]=>[A,n<G,[er,n],match S[n]? with|aa [oS]=>[R,[ym,Nat],.obj c]|aa [aW]=>[xS]|aa [b6]=>[R,[ym,D],.aV]|ag=>ag]|[eB]=>[R,[BF],.tup]|[aW]=>[xS]|[b6]=>[R,[ym,D],.aV]|[oI]=>[R,[ym,Nat],.obj c]|.bZ _=>ag|.iY _=>ag|.dU _=>ag|.b4 _=>ag|d=>aa d
mutual
def D.low(G:Nat):D→Bool|.ref n=>ao (n<G)|.tup l=>eG G l|.lst l=>eG G l|.dU l=>eG G l|.b4 l=>eG G l|.aV l=>lowP G l|.bZ l=>lowP G l|.iY l=>lowP G l|.obj _ l=>i7 G l|_=>ae
def eG(G:Nat):List D→Bool|[]=>ae|x::r=>x.low G&&eG G r
def lowP(G:Nat):List (D×D)→Bool|[]=>ae|(_,x)::r=>x.low G&&lowP G r
def i7(G:Nat):List (Nat×D)→Bool|[]=>ae|(_,x)::r=>x.low G&&i7 G r
end
def aP.low(G:Nat):aP->Bool|.aW _ l=>i7 G l|[aW]=>eG G l|[b6]=>lowP G l
def gc(G:M D):M D:=λS=>match G S with|[be,d,e]=>[gp,cp [ad] e 8 d,x,[nx,[hV,e.take [ad],c,[q7]],[be,x,e.take [ad]]],[aX]]|[iX,e]=>[A,[hV,e.take [ad],c,[q7]]=ae/\Dx B=ae,[iX,e.take [ad]],[aX]]|[aX]=>[aX]
def newD(Z:bM)(c:Nat)(l:[al]):M D:=λS=>match Z.call (Z.init c) ([hh]::l) [vF,[]]with|[lO,e]=>[pj,e]|.ok _ _=>[aX]|.ex _ _ _=>[aX]|[aX]=>[aX]
def rd(a:Ex)(e:Env)(G:M D):M D:=[d6,a,[g3],[gh,e[i]?,aa [g5],[ci,d],aa [ie],[ci,d],bad],G]
mutual
def ah(Z:bM):Ex→Env→M D|.c d,_=>M.pure d|.v i,e=>(match e[i]? with|aa (.val d)=>M.pure d|_=>bad)|.g k,_=>bC (Z.fw k)|.add a b,e=>do oz (←ah Z a e) (←ah Z b e)|.sub a b,e=>do let x←bo (←ah Z a e);let y←bo (←ah Z b e);M.pure (.int (x-y))|.mul a b,e=>do let x←bo (←ah Z a e);let y←bo (←ah Z b e);if-(2^64)<x∧x<2^64 then M.pure (.int (x*y))else bad|.mT a b,e=>do let x←bo (←ah Z a e);let y←bo (←ah Z b e);if 0<y∧y<2^64 then M.pure (.int (x/y))else bad|.mod a b,e=>do let x←bo (←ah Z a e);let y←bo (←ah Z b e);if 0<y then M.pure (.int (x%y))else bad|.neg a,e=>do let x←bo (←ah Z a e);M.pure (.int (-x))|.lt a b,e=>do xO (←ah Z a e) (←ah Z b e)|.le a b,e=>do let x←bo (←ah Z a e);let y←bo (←ah Z b e);M.pure (.bl (ao (x≤y)))|.gt a b,e=>do let x←bo (←ah Z a e);let y←bo (←ah Z b e);M.pure (.bl (ao (y<x)))|.ge a b,e=>do let x←bo (←ah Z a e);let y←bo (←ah Z b e);M.pure (.bl (ao (y≤x)))|.eq a b,e=>do let x←ah Z a e;let y←ah Z b e;M.pure (.bl (←mQ x y))|.ne a b,e=>do let x←ah Z a e;let y←ah Z b e;M.pure (.bl (!(←mQ x y)))|.kE a,e=>(do match←ah Z a e with|.a0=>M.pure (.bl ae)|_=>M.pure (.bl af))|.pV a,e=>(do match←ah Z a e with|.a0=>M.pure (.bl af)|_=>M.pure (.bl ae))|.mem a b,e=>do let x←ah Z a e;let y←bH (←rd b e (ah Z b e));M.pure (.bl (←gx x y))|.ot a b,e=>do let x←ah Z a e;let y←bH (←rd b e (ah Z b e));M.pure (.bl (!(←gx x y)))|.pC a b c,e=>do let x←bo (←ah Z a e);let y←bo (←ah Z b e);if x≤y then do let z←bo (←ah Z c e);M.pure (.bl (ao (y≤z)))else M.pure (.bl af)|.and a b,e=>do let x←eP (←ah Z a e);if x=ae then do M.pure (.bl (←eP (←ah Z b e)))else M.pure (.bl af)|.or a b,e=>do let x←eP (←ah Z a e);if x=ae then M.pure (.bl ae)else do M.pure (.bl (←eP (←ah Z b e)))|.not a,e=>do let x←eP (←ah Z a e);M.pure (.bl (! x))|.ite t a b,e=>do let x←eP (←ah Z t e);if x=ae then ah Z a e else ah Z b e|.tup l,e=>do M.pure (.tup (←cD Z l e))|.lst l,e=>do M.pure (.lst (←cD Z l e))|.i5 t,_=>M.pure (if t=ae then .bZ []else .aV [])|.lD a b,e=>do let x←ah Z a e;let y←ah Z b e;if x.jv=ae then M.pure (.bZ [(x,y)])else bad|.ix a i,e=>do let x←rd a e (ah Z a e);let y←ah Z i e;eu (←bH x) y|.ko a lo h,e=>do let x←rd a e (ah Z a e);let y←bo (←ah Z lo e);let z←bo (←ah Z h e);gE (←bH x) (aa y) (aa z)|.qI a lo,e=>do let x←rd a e (ah Z a e);let y←bo (←ah Z lo e);gE (←bH x) (aa y) ag|.l8 a h,e=>do let x←rd a e (ah Z a e);let z←bo (←ah Z h e);gE (←bH x) ag (aa z)|.av a f,e=>(do match←bH (←ah Z a e)with|.obj _ l=>bC (eV l f)|_=>bad)|.m7 i k,e=>(match e[i]? with|aa (.exc B)=>bC B[k]?|_=>bad)|.call f l,e=>do Z.call f (←cD Z l e)|.lh a l,e=>(do match←ah Z a e with|.fn f=>if Z.ar f=l.length then do Z.call f (←cD Z l e)else bad|_=>bad)|.new c l,e=>do newD Z c (←cD Z l e)|.lS c l,e=>do let G←cD Z l e;gc (newD Z c G)|.bG c a f l,e=>do let x←ah Z a e;lw c x;let y←cD Z l e;Z.call f (x::y)|.b1 o a,e=>do dk o (←bH (←rd a e (ah Z a e)))|.b2 o a b,e=>do let x←rd a e (ah Z a e);tZ o x;let y←ah Z b e;jD o (←bH x) y|.iU a b c,e=>(do let x←rd a e (ah Z a e);lC x;let y←ah Z b e;let z←ah Z c e;match←bH x with|.aV l=>if y.atom=ae then M.pure ((bK l y).getD z)else bad|.bZ l=>if y.jv=ae then M.pure ((bK l y).getD z)else bad|_=>bad)|.qO a b,e=>(do match←ah Z a e with|.du l=>do let y←ah Z b e;if y.atom=ae then M.pure ((bK l y).getD .a0)else bad|_=>bad)|.comp I t k it S,e=>do let G←ez k (←cD Z it e);let w:=b6 e t;let l←eJ (fun d=>do let q←bC (fX w t d);match S with|[]=>do M.pure (aa (←ah Z I q))|c::_=>do let b←eP (←ci (ah Z c q));if b=ae then do M.pure (aa (←ah Z I q))else M.pure ag) G;M.pure (.lst l)|.proj a k,e=>do let x←ah Z a e;let l←fV (←bH x);M.pure (.lst (←bC (cM (sM k) l)))|.qS a i,e=>do let n←bo (←ah Z a e);match e[i]? with|aa (.val (.lst l))=>do let rs←bC (eQ l);if n=(rs.length:Int)∧rs.length<64 then M.pure (.lst ((iH rs).map fun(j:Nat)=>.int (j:Int)))else bad|_=>bad
def cD(Z:bM):List Ex→Env→M (List D)|[],_=>M.pure []|a::r,e=>do let x←ah Z a e;let s←cD Z r e;M.pure (x::s)
end
def Ex.fresh:Ex->Bool|[b9]=>ae|.i5 _=>ae|.lD _ _=>ae|[yK]=>ae|[AC]=>ae|.b1 [l0] _=>ae|.b1 .dict _=>ae|.b2 [nr] _ _=>ae|_=>af
def cV (b : Env → M Flow) (t : List Nat) : List D → Env → M Flow
 | [], e => M.pure (.nx e)
 | d :: r, e => do
  let q ← bC (fX e t d)
  match ← b q with
  | .nx z => cV b t r z
  | .bk z => M.pure (.nx z)
  | .rt x => M.pure (.rt x)
def jT (t : Env → M D) (b : Env → M Flow) : Nat → Env → M Flow
 | 0, _ => bad
 | n + 1, e => do
  let c ← eP (← t e)
  if c = ae then do
   match ← b e with
   | .nx z => jT t b n z
   | .bk z => M.pure (.nx z)
   | .rt x => M.pure (.rt x)
  else M.pure (.nx e)
def dh(e:Env)(i:Nat):M D:=[d6,e[i]?,aa [ie],[ci,d],bad]
def fQ:D->M [rv]|[m,n]=>λS=>[K5]|_=>bad
def j3(n:Nat)(c:aP):M Unit:=λS=>[be,(),[dm,n,c]]
def qM(c:aP):M D:=λS=>[pj,S++[c]]
def iI:D->M aP|[aW]=>[ci,[aW]]|[b6]=>[ci,[b6]]|_=>bad
def u7:[rz]|[b9]=>ae|.aV _=>ae|.bZ _=>ae|_=>af
def kB(c:Nat)(B:[al]):Bool:=[gh,B,[],ao (5<=c/\c<=12/\c≠9),[[b3],[b3],[b3]],ao (c=9),af]
def jz(e:Ex)(G:M D):M D:=[gh,e,[yK],ci G,[AC],ci G,G]
mutual
def bE(Z:bM):Sm→Env→M Flow|.set i e,env=>do let d←jz e (ah Z e env);M.pure (.nx (env.set i (.val d)))|.own i e,env=>do let d←jz e (ah Z e env);if e.fresh=ae∧u7 d=ae then M.pure (.nx (env.set i (.own d)))else bad|.mY i e,env=>do let d←ah Z e env;if e.fresh=ae then do let r←qM (←iI d);M.pure (.nx (env.set i (.val r)))else bad|.fz i s,env=>do let d←dh env i;bE Z s (env.set i (.val d))|.dv a f e,env=>(do let d←ah Z e env;let(n,c)←fQ (←ah Z a env);match c with|.aW k l=>do tJ (ao (l.length<100));j3 n (.aW k (dV l f d));M.pure (.nx env)|_=>bad)|.eO a f e,env=>(do let d←ah Z e env;let(n,c)←fQ (←ah Z a env);match c with|.aW k l=>do if e.fresh=ae∧l.length<100 then do let r←qM (←iI d);j3 n (.aW k (dV l f r));M.pure (.nx env)else bad|_=>bad)|.lq a f e,env=>(do let x←ah Z a env;let(n,c)←fQ x;match c with|.aW T l=>(do let y←bo (←bC (eV l f));let z←bo (←ah Z e env);let(n,c)←fQ x;match c with|.aW k l=>do tJ (ao (l.length<100∧k=T));j3 n (.aW k (dV l f (.int (y+z))));M.pure (.nx env)|_=>bad)|_=>bad)|.inc i e,env=>do let x←bo (←ah Z (.v i) env);let y←bo (←ah Z e env);M.pure (.nx (env.set i (.val (.int (x+y)))))|.dec i e,env=>do let x←bo (←ah Z (.v i) env);let y←bo (←ah Z e env);M.pure (.nx (env.set i (.val (.int (x-y)))))|.mS i k e,env=>do let l←fV (←dh env i);let j←bC (place l.length (←bo (←ah Z k env)));let x←bo (←bC l[j]?);let y←bo (←ah Z e env);M.pure (.nx (env.set i (.own (.lst (l.set j (.int (x+y)))))))|.pB i k e,env=>do let l←fV (←dh env i);let j←bC (place l.length (←bo (←ah Z k env)));let x←bo (←bC l[j]?);let y←bo (←ah Z e env);M.pure (.nx (env.set i (.own (.lst (l.set j (.int (x-y)))))))|.jS i k e,env=>(do let d←ah Z e env;let o←dh env i;let x←ah Z k env;match o with|.aV l=>if x.atom=ae∧l.length<lim then M.pure (.nx (env.set i (.own (.aV (cB l x d)))))else bad|.bZ l=>if x.jv=ae∧l.length<lim then M.pure (.nx (env.set i (.own (.bZ (cB l x d)))))else bad|_=>bad)|.put a k e,env=>(do let d←ah Z e env;let r←ah Z a env;let x←ah Z k env;let(n,c)←fQ r;match c with|.aV l=>(if x.atom=ae∧l.length<lim then(do j3 n (.aV (cB l x d));M.pure (.nx env))else bad)|.lst l=>do let j←bC (place l.length (←bo x));j3 n (.lst (l.set j d));M.pure (.nx env)|_=>bad)|.d_ i e,env=>do let l←fV (←dh env i);let d←ah Z e env;if l.length<lim then M.pure (.nx (env.set i (.own (.lst (l++[d])))))else bad|.app a e,env=>(do let r←ah Z a env;rc r;let d←ah Z e env;let(n,c)←fQ r;match c with|.lst l=>(if l.length<lim then(do j3 n (.lst (l++[d]));M.pure (.nx env))else bad)|_=>bad)|.ee i e,env=>do let l←fV (←dh env i);let x←fV (←ah Z e env);if l.length+x.length≤lim then M.pure (.nx (env.set i (.own (.lst (l++x)))))else bad|.qP i,env=>do let l←fV (←dh env i);if l.isEmpty=ae then bad else M.pure (.nx (env.set i (.own (.lst l.dropLast))))|.ex e,env=>do let _←ah Z e env;M.pure (.nx env)|.ret e,env=>do let d←ah Z e (env.map Slot.cb);M.pure (.rt d)|.pP i,env=>(do match←dh env i with|.bZ l=>M.pure (.rt (.iY l))|_=>bad)|.oD i,env=>(do match←dh env i with|.bZ l=>M.pure (.rt (.lst (l.map fun p=>.tup [p.1,p.2])))|_=>bad)|.iff t a b,env=>do let c←eP (←ah Z t env);if c=ae then bj Z a env else bj Z b env|.cS t k it b,env=>do let G←ez k (←cD Z it env);cV (fun e=>bj Z b e) t G env|.mh t b,env=>jT (fun e=>ah Z t e) (fun e=>bj Z b e) Z.fuel env|.brk,env=>M.pure (.bk env)|.hW c l,env=>do let B←cD Z l env;fun S=>if kB c B=ae then .ex c B S else .bad|.tr b h,env=>(fun S=>match bj Z b env S with|.ex c B q=>pO Z h c B (env.map fun _=>Slot.un) q|r=>r)|.hd _ _ _,_=>bad
def bj(Z:bM):List Sm→Env→M Flow|[],e=>M.pure (.nx e)|s::r,e=>do match←bE Z s e with|.nx u=>bj Z r u|f=>M.pure f
def pO(Z:bM):List Sm→Nat→List D→Env→M Flow|[],c,B,_=>fun S=>.ex c B S|.hd k i b::r,c,B,e=>if k=c then(do tJ (i.isNone||(k==9&&B.length==3));match←ci (bj Z b (match i with|aa i=>e.set i (.exc B)|ag=>e))with|.rt d=>M.pure (.rt d)|_=>bad)else(if 5≤c∧c≤12 then pO Z r c B e else bad)|_::_,_,_,_=>bad
end
structure Fn where
 np : Nat
 ns : Nat
 sc : Bool
 body : List Sm
structure qJ where
 fns : List Fn
 init : Nat → Nat
 fw : Nat → Option D
 fuel : Nat
def qJ.ar(P:qJ)(k:Nat):Nat:=[gp,P.fns[k]?,F,F.np,0]
def jV (Z : bM) (F : Fn) (l : List D) : M D := do
 match ← bj Z F.body (l.map Slot.val ++ fH (F.ns - F.np) Slot.un) with
 | .rt d => M.pure d
 | .nx _ => M.pure .a0
 | .bk _ => bad
def run(P:qJ):Nat->Nat->([al])->M D|0,_,_=>bad|[aw],f,l=>[gp,P.fns[f]?,F,[A,[E]=F.np,[ap,F.sc,gc [IA],[IA]],bad],bad]
def f0:Fn:=[i6,[[bC,.kE [a8,9],[o8]],[b4,.sub [am] (.mul (.mT [am] (.ix [a8,9] [a9])) [gk,[a8,9]])]]]
def f1:Fn:=[jD,6,[bs,[a8,4]],[ew,[gu],[am],[[bC,.le [av] [V],[bs,[a6]]]]],[ai]]
def f2:Fn:=[cx,4,[[me,[jX,8],[b4,.comp [fh,1,[a8,8],[ai]] [3] 2 [[a9],[y3]] []]],[dZ,[fh,1,[a8,7],[am]]],[b4,.comp [V] [3] 1 [[am]] []]]]
def f3:Fn:=[i6,[[b4,.b1 .sum [eo,2,[lI,0]]]]]
def f4:Fn:=[b5,4,[[bC,.kE [a8,9],[s2,af]],[bs,.ix [a8,9] [a9]],[b4,.and (.lt [V] (.mul (.mT [am] [ai]) [ai])) (.ge (.mod [V] [ai]) (.sub [ai] [gk,[a8,9]]))]]]
def f5:Fn:=[cx,6,[[dZ,[eo,2,[lI,0]]],[zk],[ct,[bf]],.cS [5] 1 [[am]] [G1],[bl,[ai]]]]
def f6:Fn:=[cx,6,[[dZ,[am]],[bs,[lI,3]],.cS [4] 2 [[y3],(.add (.g 0) [a9])] [Hg],[qG,[[V],[ai]]]]]
def f7:Fn:=#[5,5,af,[[eg,0,[am]],[eg,1,[V]],[eg,2,[ai]],[eg,3,[av]]]]
def f8:Fn:=[lU,4,[[eg,0,[am]],[eg,4,[V]],[eg,5,[ai]],[eg,6,.b1 .tuple (.b1 .sorted [ai])],[pq,7],[pq,8],[eg,9,[tJ]]]]
def f9:Fn:=[lU,4,[CI,0,4,10,[ai]]]
def ON:Fn:=#[7,7,af,[[eg,0,[am]],[eg,11,[V]],[eg,12,[ai]],[eg,13,[av]],[eg,14,[a6]],[eg,15,[c1]]]]
def Lj:Fn:=[d9,1,[.eO [aK] 16 (.i5 af),[pq,17],[pq,18],[pq,19],[pq,20],[pq,21],.eO [aK] 22 (.i5 af)]]
def MA:Fn:=[d9,2,[[cE,1,.new 1 [[a8,0],[a8,4],[a8,5]]],.eO [am] 7 [se,7],.eO [am] 8 [se,8],.dv [am] 9 [a8,9],[o8]]]
def Qd:Fn:=[d9,3,[[cE,1,.new 4 []],.eO [am] 16 (.b1 .dict [a8,16]),.eO [am] 17 [se,17],.eO [am] 18 [df,[ft,12,[V]],2,[a8,18]],.eO [am] 19 [se,19],.eO [am] 20 [se,20],.eO [am] 21 [se,21],.eO [am] 22 (.b1 .dict [lM]),[o8]]]
def KM:Fn:=[om,.iU [lM] [aS,[i']] (.g 1)]
def Nb:Fn:=[om,.iU [lM] [aS,[im]] (.g 1)]
def Nt:Fn:=[om,.eq (.iU [lM] [aS,[jm]] [aS,[p2]]) [aS,[nW]]]
def Vi:Fn:=[lU,4,[CI,23,24,25,[ai]]]
def Gr:Fn:=[d9,1,[[Jg,97,122,2],[Jg,48,57,3],[zJ,32,[bl,[aS,[32]]]],[zJ,10,[bl,[aS,[10]]]],[bl,[aS,[63]]]]]
def P6:Fn:=[d9,3,[.own 1 (.b2 [nr] (.b2 .join [aS,[]] [df,[ft,18,[V]],2,[aK]]) [aS,[10]]),[bC,.eq (.ix [am] [z4]) [aS,[]],.qP 1],[o8]]]
def RF:Fn:=[d9,2,[[b4,[kJ,[am],[1],.b2 [nr] [aK] [aS,[32]],[(.ne [am] [aS,[]])]]]]]
def Qh:Fn:=[om,.b2 .join [aS,[32]] [aK]]
def Mj:Fn:=[d9,3,[[b4,.comp (.b1 .ord [V]) [2] 7 [(.b2 .join [aS,[]] [df,.add [am] [aS,[10]],1,[aK]])] []]]]
def LV:Fn:=[IZ,.isalnum,.and (.b1 .isalpha [gk,[aK]]) (.ot [aK] (.g 4))]
def Eh:Fn:=[IZ,.isdigit,.or (.eq [aK] [aS,[48]]) (.ne [gk,[aK]] [aS,[48]])]
def M8:Fn:=[b5,3,[CI,23,26,24,[bf]]]
def Oe:Fn:=[i6,[.hW 9 [[a8,23],[a8,24],[am]]]]
def Ln:Fn:=[i6,[.hW 9 [[a8,23],[a9],[am]]]]
def xg:Fn:=[om,.lt [a8,24] [jX,26]]
def wE:Fn:=[d9,1,[[EB],[bC,.gt [a8,24] [jX,26],[oz,5]],[bl,[ik,26,[a8,24]]]]]
def xC:Fn:=[pr,3,[dZ,[D5]],[bC,.ot [V] [am],[oz,5]]]
def Lb:Fn:=[d9,2,[[cE,1,[D5]],[bC,.not [ni,23],[oz,5]],[o8]]]
def LC:Fn:=[b5,5,[[bs,[D5]],[bC,.not [ft,24,[ai]],[oz,5]],[ct,.b1 .int [ai]],[ph,.lt [av] [am],.gt [av] [V],[oz,8]],[bl,[av]]]]
def Mt:Fn:=[i6,[.iff (.and (.bG 13 [aK] 28 []) (.eq (.ix [a8,26] [a8,24]) [am])) [[EB],[s2,ae]] [],[s2,af]]]
def K6:Fn:=[d9,1,[.iff (.bG 13 [aK] 28 []) [[EB],[oz,5]] []]]
def K8:Fn:=[b5,3,[[bC,.ge [ri] [V],[oz,9]]]]
def QO:Fn:=[pr,3,[dZ,[g',31,[]]],[zS,[V],[a8,16]]]
def OY:Fn:=[b5,4,[[bs,.iU [a8,16] [g',31,[]] [bk,[aS,[]],[bf]]],[bC,.ne [gk,[ai]] [V],[sg,7]],[b4,.ix [ai] [a9]]]]
def GN:Fn:=[cx,6,[[ud,17,10],[mo,36],[bs,[sF,[bf],16]],[ct,.eq [ys,[s9],[mN]] [aS,[mN]]],[fC,[bf]],.iff (.and [av] [g',33,[[aS,[ut]]]]) [[fC,[qB,[hP]]],[bC,.not [zo,[a6]],[sg,7]]] [],[IE],[pP,[hP],17]]]
def Gn:Fn:=[cx,6,[[ud,18,11],[mo,36],[bs,[sF,[bf],15]],.own 4 [bI],.mh [g',28,[]] [AW],.fz 4 (.app [a8,18] (.new 1 [E1])),[pP,[ha],18]]]
def Op:Fn:=[i6,[[b4,.ix [a8,18] (.sub [qB,[ha]] [a9])]]]
def He:Fn:=[b5,5,[[Lm],[Iy],[bs,[iW]],[HM],[ct,[p',[ai],.g 0]],[JJ]]]
def Ri:Fn:=[IV,7,8]
def P1:Fn:=[IV,8,7]
def GR:Fn:=[cx,4,[[mo,40],[bC,.pV (.av [V] 9),[rD,[am],27,6]],[bs,[sF,[a9],0]],.ex [g',30,[[bw,[[aS,[mF]]]]]],.dv [V] 9 [bk,[ai],[sF,[EJ],0]]]]
def F8:Fn:=[cx,5,[[ud,19,12],[mo,36],[bs,[sF,[bf],15]],.mY 4 [ax,[[fJ,46,[bI]]]],.mh [g',28,[]] [CE],.app [a8,19] (.lS 2 [E1]),[pP,[mc],19]]]
def Rf:Fn:=[jD,5,[bs,[qB,[ha]]],[zS,[ai],.proj [V] 0],[bk,[ai],[sF,[a9],0]]]
def Fm:Fn:=[cx,8,[[ud,20,13],[mo,36],[bs,[ys,[j2],[pM]]],[Hc],[fC,[bf]],[Jk],[cE,6,[yX,[qw]]],[cE,7,[yX,[p6]]],[Bg],[pP,[hJ],20]]]
def Ld:Fn:=[i6,[[bC,.bG 13 [aK] 33 [[am]],[b4,[p',[a9],.g 15]]],[bl,[bf]]]]
def EL:Fn:=[cx,5,[[dZ,[qB,[hJ]]],[bs,[qB,[hJ]]],[ct,[bk,.b2 .min [V] [ai],.b2 .max [V] [ai]]],[ph,.eq [V] [ai],.mem [av] [a8,21],[sg,6]],.app [a8,21] [av]]]
def OK:Fn:=[b5,3,[[zS,[V],[lM]]]]
def PU:Fn:=[d9,2,[[cE,1,[p',[bf],[fd,9]]],[bl,[bk,[am],[p',[a9],.g 17]]]]]
def Kr:Fn:=[Bs,[i'],[ni,51]]
def ME:Fn:=[Bs,[im],[ni,51]]
def EI:Fn:=[Bs,[jm],[ys,[nW],[p2]]]
def DA:Fn:=[cx,3,[[Le],[bC,.kE [V],[sg,5]],[L5],.ex [g',34,[]]]]
def M6:Fn:=[cx,5,[.cS [2,3] 4 [[ni,19]] [[yR],[me,[e5,[av]],[Ki]]]]]
def FD:Fn:=#[1,2,ae,[[cE,1,.new 4 []],.ex [bZ,56,[[am],[aK]]],[o8]]]
def D1:Fn:=#[2,3,ae,[[dZ,[nk,13]],.ex [bZ,56,[[V],[am]]],[ql]]]
def KU:Fn:=[b5,8,[[bs,[gk,[aK]]],[ct,.ix [aK] [a9]],[fC,.mul [V] [av]],[cE,6,.mT [am] [a6]],[cE,7,.mod [am] [a6]],[ph,.eq [fT] [bf],[ef,60,[ai],[c1],.sub (.mul [iW] [fT]) [a6]],[b4,.mul [c1] [av]]],[b4,.mul (.add [c1] [a9]) [av]]]]
def O7:Fn:=[b5,3,[[bC,.lt [aK] [fd,4],[b4,.mem [aK] [bk,[bf],[iW]]]],[bC,.ne [V] [bf],[b4,.lt [V] [bf]]],[zJ,8,[b4,.eq (.mod [am] [iW]) [bf]]],[zJ,9,[b4,.eq (.mod [am] [iW]) [a9]]],[b4,.mem [aK] [bk,[fd,5],[fd,6]]]]]
def A9:Fn:=[cx,8,[[dZ,.b1 .sum [am]],[bC,.eq [V] [bf],[bl,[df,[bf],7,[am]]]],.own 3 [df,.mT (.mul [aK] [fT]) [V],7,[am]],[ct,[df,.mod (.mul [aK] [fT]) [V],7,[am]]],[fC,.qS [ri] 4],[ew,[6],.l8 [a6] (.sub [aK] [y_]),[.mS 3 [c1] [a9]]],[bl,[ai]]]]
def JT:Fn:=[jD,8,.own 3 (.b1 [l0] [am]),.cS [gu] 5 [[a8,19],[V]] [[ew,[6,7],.av [av] 10,[Ln]]],[ai]]
def FB:Fn:=[b5,9,[[bs,[kJ,.mul (.av [ik,18,[a6]] 4) [c1],[5,6],[bX,10],[]]],[bC,.eq [y_] [bf],[bs,.proj [bX,10] 1]],[ct,[rl,61,.mul [bX,4] [V]]],[Lq,[hy],[bX,10]]]]
def Ge:Fn:=[b5,8,[[zk],.cS [gu] 4 [[fJ,62,[V]]] [HP],.cS [6,7] 5 [[a8,19],[V]] [JO],[bl,[ai]]]]
def Rj:Fn:=[d9,2,[[b4,.b1 .sum (.proj [aK] 1)]]]
def Od:Fn:=[b5,4,[[bs,[bX,12]],[bC,.eq [bX,11] [aS,[j2]],[bs,[ef,59,[nk,14],.mul [V] [bX,12],[fd,10000]]]],[me,[bX,14],[bs,.b2 .min [ai] [bX,14]]],[b4,.b2 .min [ai] [V]]]]
def M9:Fn:=[b5,9,[[bs,[kJ,.ite (.mem (.av [V] 13) [bk,[bf],[a6]]) [c1] [bf],[5,6],[am],[]]],[ct,[rl,61,[fh,66,[V],[y_]]]],[Lq,.sub (.ix [fT] [a9]) [hy],[am]]]]
def MI:Fn:=[lU,6,[[ct,[fJ,64,[V]]],[ew,[5],[ai],[Kw]],[bl,[av]]]]
def GJ:Fn:=[b5,10,[[bs,[nk,14]],[ct,[kJ,[hy],[8],[V],[(.not [zo,[hy]])]]],[fC,.add [fd,10000] (.b1 .sum [df,.av [ik,17,[hy]] 1,8,[av]])],[cE,6,[am]],.own 7 (.i5 af),[ew,[8],[av],[Gm]],[cE,6,.b2 .max [c1] [bf]],[ew,[8],[V],[FW]],[bl,[bk,[c1],[fT]]]]]
def Hk:Fn:=[cx,7,[[dZ,[kJ,[bk,.av [ik,18,[c1]] 6,[a6]],[6,5],[am],[]]],.iff [nk,16] [[ql]] [],.own 3 (.i5 ae),[ew,[gu],[V],[Iq]],.oD 3]]
def Fg:Fn:=[pr,8,.own 2 [df,[bf],7,[a8,17]],[ew,[3,4],[lI,70],[Gs]]]
def QD:Fn:=[b5,6,[[bs,.comp [a6] [gu] 5 [[a8,17],[V]] [(.av [av] 2)]],[m4,[ni,65],[y_]]]]
def P7:Fn:=[i6,[[bl,[ef,59,[nk,15],[am],[a9]]]]]
def NP:Fn:=[i6,[[bl,[eo,73,[fJ,72,[lI,71]]]]]]
def EZ:Fn:=[jD,6,[bs,.ix [fh,69,[V],[bX,6]] [a9]],[ct,[kJ,.ix [ai] [a6],[5],[bX,6],[[zo,[a6]]]]],[eo,73,.add [V] (.b1 .sum [av])]]
def Mo:Fn:=[b5,3,[[b4,.ge (.b1 .vz [fJ,62,[V]]) [bf]]]]
def Oo:Fn:=[b5,4,[[b4,.not (.b1 .any [df,.mem [bk,[ai],[V]] [a8,21],3,[am]])]]]
def O8:Fn:=[b5,3,[[b4,.ge [ni,65] (.av [ik,20,[V]] 15)]]]
def GD:Fn:=[lU,7,[[bC,.not [fJ,76,[V]],[s2,af]],[ct,[fJ,64,[V]]],.cS [5,6] 3 [[ai]] [GA],[s2,ae]]]
def E3:Fn:=[cx,7,[[dZ,[ax,[[ib]]]],[ew,[3],[a8,19],[.own 4 [bI],[ew,[5],[V],[GY]],.fz 4 [dZ,[av]]]],[b4,[kJ,[a6],[5],[V],[[fJ,76,[a6]]]]]]]
def Lu:Fn:=[pr,5,[dZ,[ax,[[ib]]]],.cS [3] 2 [[a9],(.add [jX,20] [a9])] [Gf]]
def D9:Fn:=[cx,4,[.own 2 (.lD [ib] [am]),[ew,[3],.qI [lI,81] [a9],[GG]],.pP 2]]
def O6:Fn:=[cx,5,[[dZ,[df,[fJ,64,[ai]],3,[lI,80]]],[b4,.b1 .sum [df,[e5,[eo,81,[av]]],4,[V]]]]]
def E5:Fn:=[pr,7,[dZ,[tJ]],[ew,[3],[lI,80],[.cS [gu] 6 [[eo,82,[fJ,64,[ai]]]] [FY]]]]
def f85:Fn:=[d9,1,[[eg,27,[tJ]]]]
def Ny:Fn:=[b5,3,[[ph,.lt [aK] [am],.gt [aK] [V],.hW 5 []],[bl,[aK]]]]
def Kk:Fn:=[b5,4,[[bl,[df,[ef,86,[ai],[am],[V]],3,[aK]]]]]
def Mf:Fn:=[d9,1,[.ex [z_,[tF],20],[bl,[fh,87,[bf],[fd,255]]]]]
def RT:Fn:=[d9,1,[[bl,[fh,86,[bf],.g 0]]]]
def J2:Fn:=[d9,1,[[bl,[fh,86,[bf],.g 15]]]]
def OP:Fn:=[d9,2,[.ex [z_,[tF],21],[cE,1,[fh,87,[bf],.g 15]],[bC,.eq (.b1 .sum [am]) [bf],.hW 12 []],[o8]]]
def f92:Fn:=[d9,1,[[bC,.kE [a8,27],.hW 6 []],[b4,[a8,27]]]]
def OV:Fn:=[i6,[[ph,.lt [am] [a9],.gt [am] [jX,18],.hW 7 []],[bl,[ik,18,[am]]]]]
def O3:Fn:=[pr,4,[mo,93],[bC,.not (.b1 .all [df,[zo,[ai]],3,.av [V] 6]),.hW 10 []]]
def QN:Fn:=[i6,[[bC,.ne [ri] [jX,18],.hW 5 []],[bl,[ef,87,[am],[bf],.g 0]]]]
def P_:Fn:=[i6,[[bC,.lt [ri] [jX,19],.hW 5 []],[bl,[ef,87,.l8 [am] [jX,19],[bf],.g 19]]]]
def Kb:Fn:=[cx,5,[.own 2 [bI],[bs,[a9]],[ew,[4],.qI [am] [jX,19],[HE]],[ql]]]
def N9:Fn:=[cx,5,[[dZ,[eo,95,[rh]]],[bs,[eo,96,[zB]]],[ct,[eo,97,[zB]]],[bC,.not [bZ,79,[[aK],[V],[ai],[av]]],.hW 8 []],[b4,[bw,[E1]]]]]
def JY:Fn:=[b5,5,[[b4,.comp [ax,[[aK],(.av [ai] 0),[Eg]]] [3,4] 5 [[am],[V]] []]]]
def Ff:Fn:=[lU,8,[[ct,.add [ef,99,[aS,[zq]],[a8,18],[am]] [ef,99,[aS,[yl]],[a8,19],[V]]],[fC,[kJ,[c1],[6],[av],[(.ne (.ix [c1] [iW]) [aS,[48]])]]],[m4,[a6],[df,[ax,[[aS,[Dq]],[qY,20,[fT]]]],7,[ai]]]]]
def Lr:Fn:=[cx,7,[.own 2 [kJ,[ax,[[aS,[nW]],[qY,18,[a6]],(.b1 .str [c1])]],[5,6],[am],[]],[bs,[lI,71]],[ct,[fJ,72,[ai]]],.ee 2 [ef,99,[aS,[hP]],[a8,17],[ai]],[m4,[V],[ax,[[t',[aS,[115,117,109]],[ni,65]],[t',[aS,[100,117,101]],[av]],[t',[aS,[112,97,121]],[eo,73,[av]]]]]]]]
def Kh:Fn:=[lU,6,[[ct,[bZ,68,[Dp]]],[bl,[df,[ft,21,[a6]],5,.add [bZ,100,[Dp]] [eo,101,[av]]]]]]
def N5:Fn:=[cx,4,[.eO [aK] 28 [df,[bf],2,[bX,18]],.eO [aK] 29 [df,[bf],3,[bX,19]],[pq,30],[eg,31,[bf]]]]
def K9:Fn:=[lU,4,[[me,.ix [V] (.sub [am] [a9]),[oz,6]],.put [V] (.sub [am] [a9]) [p',[a9],[ai]]]]
def Bx:Fn:=[I',[ha],28,0]
def B6:Fn:=[I',[mc],29,19]
def Bl:Fn:=[b5,4,[[bs,[fh,37,[V],[aS,[hJ]]]],[bC,.le [ai] (.b1 .vR [bX,30]),[rD,[V],26,6]],.app [bX,30] [ai]]]
def BW:Fn:=[Im,[[yR],[Hq],[Ez],[BD],[By],[B1],[CD]]]
def L_:Fn:=[HJ,[Gr,[E9]]]
def zC:Fn:=[cx,5,[[dZ,[ni,19]],.tr [[bs,[eo,108,[V]]]] [.hd 9 (aa 4) [[b4,.m7 4 0]]],[bC,.not [bZ,79,[H6]],[m4,.av [ai] 31,[a9]]],[bl,[bZ,109,[[V],[bZ,102,[H6]]]]]]]
def D8:Fn:=[lU,6,[[ct,[bf]],.mh (.lt [av] [ai]) [Gx],[bl,[av]]]]
def Rq:Fn:=[b5,6,[[bs,.add [V] (.ix [nk,15] [a9])],[ct,[bZ,111,[Dp]]],[fC,[bZ,111,[[aK],[am],[E9],[ai]]]],[qG,[[av],(.sub [a6] [av])]]]]
def P3:Fn:=[pr,3,.own 2 [ax,[[aS,[hP]],[bX,0],[zl,1],(.ite [bX,2] [aS,[mN]] [aS,[s9]])]],[Ap,3,[ax,[[aS,[ut]],[qY,17,[bX,3]]]]]]
def KS:Fn:=[cx,7,[[dZ,[df,[qY,17,[c1]],6,[bX,5]]],.own 3 [ax,[(.add [ax,[[aS,[ha]],[bX,0],[zl,4]]] [V])]],[ew,[gu],[bX,7],[wT,[uw]]],[ew,[gu],[bX,8],[wT,[uv]]],[bC,.pV [bX,9],.d_ 3 [ax,[[aS,[uu]],[bX,0],(.b1 .str [gk,[bX,9]]),[aS,[mF]],(.b1 .str (.ix [bX,9] [a9]))]]],[bl,[ai]]]]
def KE:Fn:=[pr,5,.own 2 [ax,[[aS,[mc]],[bX,0],[zl,4]]],[ew,[3,4],[bX,10],[Bh]]]
def E9:Fn:=[cx,3,[.own 2 [ax,[[aS,[hJ]],[bX,0],[bX,11],[zl,12]]],[Ap,13,[ax,[[aS,[mF]],[qY,18,[bX,13]]]]],[Ap,14,[t',[aS,[qw]],[bX,14]]],[Ap,15,[t',[aS,[p6]],[bX,15]]],[ql]]]
def Nn:Fn:=[cx,3,[[m4,[ax,[[aS,[x6]]]],[df,[qY,20,[V]],2,[am]]]]]
def DJ:Fn:=[d9,4,[.own 1 [bI],[ew,[2],[bk,[aS,[i']],[aS,[im]]],[[bC,.mem [V] [lM],.d_ 1 (.add [ax,[[V]]] [df,.b1 .str [ai],3,.ix [lM] [V]])]]],[bC,.mem [aS,[jm]] [lM],.d_ 1 [ax,[[aS,[jm]],(.ix [lM] [aS,[jm]])]]],[o8]]]
def Hn:Fn:=[d9,7,[.own 1 [df,[eo,113,[ai]],3,[a8,17]],[ew,[2],[a8,18],[CU]],.ee 1 [df,[eo,115,[av]],4,[a8,19]],.ee 1 [df,[eo,116,[a6]],5,[a8,20]],.ee 1 [df,[eo,117,[c1]],6,[a8,21]],[m4,[am],[nk,118]]]]
def OI:Fn:=[d9,2,[[bl,[ft,22,[df,[ni,21],1,[nk,119]]]]]]
def R8:Fn:=[cx,3,[[mo,98],[bl,[bZ,68,[[aK],[tC],(.ix [V] [a9]),(.ix [V] [iW])]]]]]
def NG:Fn:=[b5,3,[[eg,27,[ft,57,[yT]]],[qG,[[e5,.av [a8,27] 18]]]]]
def QQ:Fn:=[jD,5,[bs,[yT]],.tr [.ex [ft,57,[ai]]] [.hd 9 (aa 4) [[qG,[(.m7 4 0),(.m7 4 1),(.m7 4 2)]]]],[ax,[[bf],[bf],[bf]]]]
def O9:Fn:=[b5,3,[[bl,[ft,120,[iq]]]]]
def Rl:Fn:=[Du,[[e5,.av [ai] 17],[e5,.av [ai] 18],[e5,.av [ai] 19],[e5,.av [ai] 20]]]
def MP:Fn:=[jD,5,[xy,89],[ct,[bZ,93,[[iq],[rh]]]],[ax,[[rl,3,[av]],[rl,0,[av]]]]]
def Rc:Fn:=[H1,6]
def Qk:Fn:=[jD,6,[zk],[ew,[gu],[bZ,121,[[iq],[V]]],[.ee 3 [ax,[[av],[a6]]]]],[ai]]
def Lq:Fn:=[b5,7,[[bs,[iq]],[ct,[kr,121,[V]]],[fC,[kr,71,[av]]],[cE,6,[ef,72,[ai],[av],[a6]]],[m4,[a6],[ax,[[ft,65,[av]],[c1],[kr,73,[c1]]]]]]]
def Ph:Fn:=[Du,[[kr,74,[kr,121,[V]]]]]
def Ob:Fn:=[b5,5,[[bs,[iq]],[ct,[kr,84,[kr,95,[tC]]]],[m4,.add (.add [ax,[[gk,[av]],[e5,[E']]]] (.b1 [l0] [E'])) [ax,[[e5,[E_]]]],.b1 [l0] [E_]]]]
def MK:Fn:=[Du,[[kr,83,[kr,95,[tC]]]]]
def Ku:Fn:=[b5,4,[[bs,[ft,90,[rh]]],[bl,[kr,61,[ft,91,[tC]]]]]]
def Qp:Fn:=[jD,5,[bs,[bk,[z_,[rh],23],[ef,86,[zB],[a9],.g 17]]],[ct,[z_,.ix [am] [iW],24]],[ax,[[ef,59,[ai],[av],[ef,86,.ix [am] [fd,3],[a9],.g 25]]]]]
def Qy:Fn:=[b5,6,[[xy,90],[ct,[iq]],[fC,[ef,112,[av],[bZ,94,[[av],[rh]]],[ai]]],[bC,.eq (.ix [a6] [a9]) [bf],.hW 11 []],[bl,[a6]]]]
def OC:Fn:=[b5,9,[[xy,90],[ct,[iq]],[fC,[bZ,93,[[av],[rh]]]],[cE,6,[ef,69,[av],[ai],.av [a6] 6]],.own 7 [ax,[[gk,[c1]],[ef,75,[av],[a6],[ai]]]],[ew,[8],.av [a6] 6,[HZ]],[bl,[fT]]]]
def M5:Fn:=[jD,4,[bs,[yT]],[eg,27,[rl,58,[iq]]],[ax,[[e5,.av [a8,27] 18]]]]
def act:Fn:=[jD,3,.ex [iq],[eg,27,[tJ]],[bI]]
def PP:Fn:=[H1,5]
def Ra:Fn:=[jD,5,[bs,[iq]],[ct,[kr,98,[V]]],[ft,22,[bZ,102,[[ai],[gk,[av]],[E'],[E_]]]]]
def MV:Fn:=[b5,4,[[bs,[yT]],[qG,[[rl,110,[iq]]]]]]
def MC:Fn:=[om,.ix (.ix (.g 26) [aK]) [a9]]
def Kp:Fn:=[om,.ix (.ix (.g 26) [aK]) [iW]]
def NS:Fn:=[Gy,[F3]]
def LY:Fn:=[LX,[Go]]
def Cg:Fn:=[GO,[FG]]
def fns:List Fn:=[f0,f1,f2,f3,f4,f5,f6,f7,f8,f9,ON,Lj,MA,Qd,KM,Nb,Nt,Vi,Gr,P6,RF,Qh,Mj,LV,Eh,M8,Oe,Ln,xg,wE,xC,Lb,LC,Mt,K6,K8,QO,OY,GN,Gn,Op,He,Ri,P1,GR,F8,Rf,Fm,Ld,EL,OK,PU,Kr,ME,EI,DA,M6,FD,D1,KU,O7,A9,JT,FB,Ge,Rj,Od,M9,MI,GJ,Hk,Fg,QD,P7,NP,EZ,Mo,Oo,O8,GD,E3,Lu,D9,O6,E5,f85,Ny,Kk,Mf,RT,J2,OP,f92,OV,O3,QN,P_,Kb,N9,JY,Ff,Lr,Kh,N5,K9,Bx,B6,Bl,BW,L_,zC,D8,Rq,P3,KS,KE,E9,Nn,DJ,Hn,OI,R8,NG,QQ,O9,Rl,MP,Rc,Qk,Lq,Ph,Ob,MK,Ku,Qp,Qy,OC,M5,act,PP,Ra,MV,MC,Kp,NS,LY,Cg]
def dI:[al]:=[[l,40],[y'],[AN],[Bt],(.b4 [Fn]),[l,1],[l,2],[l,3],[l,4],[l,5],[l,4],[l,8],[l,3],[l,5],[l,5],[l,10000000],[l,10000],[l,10000],(.du [Fr]),[l,3],[l,2000],[l,20],(.du [GB]),[l,9],[l,1000000000000],[l,1000000],(.du [Fu])]
def vS:[aj]:=[7,8,9,10,11,999,999,999,999,17,999,999,999,25,85,103]
def prog:qJ:=#[fns,λc=>vS.getD c 999,λk=>dI[k]?,20000]
end Ir
namespace L2
open PySem PySem.Spec PyProof.Rows
abbrev dG:=Sum Int au
def BC(w:cz):dG->Int|[H,k]=>hashInt k|[aC,x]=>hashStr w x
end L2
namespace HT
open PySem PyProof.Rows
end HT
namespace L2
open PySem PySem.Spec PyProof.Rows
def tW(scope sc:fo):fo:={scope with names:=scope.names.map [Is,[ec],[lZ]]}
def Hh(N:[dF])(sc scope:fo)(own:[fy,Nat]):Bool:=[g1,scope.kind,[km],ae]&&(scope.names.all λy=>ao ([ml,[b7]]=aa y.2))&&(own.all [aF,ao [aR,N,[Z],[L]]])&&(scope.names.all λy=>match y.2 with|[ec]=>[gh,[n_,[b7]],[kf],ae,aa [ec],ae,af]|.local=>[I6]|[lZ]=>[I6]|_=>ae)
end L2
namespace L2
open PySem PySem.Spec PyProof.Rows
end L2
namespace Att
open PySem PySem.W PySem.Calls PyProof.Rows
end Att
namespace L2
open PySem PySem.Spec PyProof.Rows
end L2
namespace Snd
open PySem PySem.Spec PyProof.Rows L2
open Ir(D aP aj lim)
structure Tb where
 cU : Nat → ai
 eB : Nat → ai
 dr : Nat → ai
 nf : Nat
 eW : Nat → au
 du : ai → List (D × D) → Prop
 tab : ai
 tl : Nat
 tc : Nat
 tq : au
abbrev sv(s:[aj]):au:=#[s.toArray]
def gX:D->[bg,dG]|[aQ]=>aa [H,i]|[db]=>aa [eJ,[g7]]|_=>ag
open Ir(Ex)
def noStar:[o5]|.Starred _ _=>af|_=>ae
open Ir(Sm)
def oG(a:so):[bg,[dF]]:=[d6,a,#[[],j,ag,[],[],ag,[]],aa (j.map (·.arg)),ag]
def Hx(p x:au)(sc:fo):Bool:=ao (sc.names=[(p,.local),(x,[ec])])&&[g1,sc.kind,[km],ae]&&! sc.isGenerator&&! sc.isCoroutine&&!(p==x)
inductive GV where|fn(k:Nat)|cls(k:Nat)|exc(k:Nat)|dg(k:Nat)|blt
structure gC where
 gn : au → Option GV
 mt : Nat → au → Option Nat
 ar : Nat → Option Nat
 eD : Nat → Option Nat
 fn : Nat → au
 nf : Nat
 tl : Nat
 tc : Nat
 lf : Nat
structure Ck where
 N : List au
 sc : fo
 bY : Bool
 bU : Bool
 lam : Bool
def DE:[jx,zp]|[fj]=>ae|[kf]=>ae|aa [ec]=>ae|_=>af
def xH:[jx,zp]|[fj]=>ae|[kf]=>ae|_=>af
def AN:[jx,zp]|aa .globalImplicit=>ae|_=>af
def sw(x:au):Bool:=!(x==("__debug__":au))
def Ck.var(c:Ck)(i:Nat)(x:au):Bool:=ao [cT,c.N]&&DE [nO]&&sw x&&! [xY]
def xx:[jx,zp]|[fj]=>ae|_=>af
def Ck.loc(c:Ck)(i:Nat)(x:au):Bool:=ao [cT,c.N]&&[LW]
def Ck.dg(c:Ck)(x:au):Bool:=AN [nO]&&sw x
def Re:[jx,GV]|aa [vH]=>ae|_=>af
def Ck.bt(S:gC)(c:Ck)(x y:au):Bool:=ao (x=y)&&AN [nO]&&Re (S.gn x)
def isFn(k:Nat):[jx,GV]|aa (.fn j)=>ao (j=k)|_=>af
def Ad(k:Nat):[jx,GV]|aa (.cls j)=>ao (j=k)|_=>af
def Ei(k:Nat):[jx,GV]|aa (.dg j)=>ao (j=k)|_=>af
def zE(k:Nat):[jx,GV]|aa (.exc j)=>ao (j=k)|_=>af
def qG:[o5]|.Set _ _ _=>af|_=>ae
def rr:[o5]|.Slice _ _ _ _=>af|_=>ae
def pE:[o5]|.Call (.Name _ _) [] [] _=>af|_=>ae
def xD:[o5]|.ListComp _ _ _ _=>af|.SetComp _ _ _ _=>af|.DictComp _ _ _ _ _=>af|_=>ae
def BL:bQ->[dF]|.Name x _=>[x]|[Jz]=>[x,y]|_=>[]
def BE(c:Ck):([aj])->[o5]|[i],.Name x _=>c.loc i x|[i,j],[Jz]=>c.loc i x&&c.loc j y|_,_=>af
def Ck.wI(c:Ck)(S:fo):Ck:={c with sc:=tW S c.sc,bY:=ae}
def Ap(c:Ck)(S:fo)(B:bQ)(t:[aj]):Bool:=Hh c.N c.sc S [zj]&&ao ([hY,[zj]]=t)
def rz:[o5]|.Tuple _ _ _=>ae|_=>af
def Ak(S:gC)(c:Ck)(k:Nat)(B F:bQ)(L:List bQ->Bool):Bool:=match k,F with|0,_=>L [F]|7,_=>L [F]|1,.Call [vk] [a] [] _=>noStar a&&c.bt S r "range"&&L [a]|2,.Call [vk] [ig] [] _=>noStar a&&noStar b&&c.bt S r "range"&&L [ig]|3,.Call [vk] [a] [] _=>[JT]&&L [a]|4,.Call [vk] [a] [#[aa J,.Constant [c2] _ _,_]] _=>[JT]&&ao (J="start")&&ao (j=1)&&L [a]|5,.Call [vk] [ig] [] _=>noStar a&&noStar b&&rz B&&c.bt S r "zip"&&L [ig]|6,[en,a,G,ap,[],q]=>rz B&&pE a&&(ap.endLine==q.line)&&ao (G="items")&&L [a]|_,_=>af
def BR:Ex->Bool|[ib]=>ae|_=>af
def AK:Ex->[kD]|[g3]=>aa i|_=>ag
def Nl(S:gC)(c:Ck)(i:Nat)(p x:au)(ps:so)(sc:fo)(lp:eo):Bool:=ao (oG ps=aa [p])&&Hx p x sc&&ao [cT,c.N]&&ao ([nO]=[kf])&&sw p&&sw x&&!(p==("__classdict__":au))&&! [xY]&&ao (lp.line=S.tl)&&ao (lp.col=S.tc)
mutual
def aL(S:gC):Ex→Ck→bQ→Bool|.c d,_,e=>(match e with|.Constant (.int i) _ _=>(match d with|.int j=>ao (i=j)|_=>af)|.Constant (.str s) _ _=>(match d with|.str l=>ao (s.cps.toList=l)|_=>af)|.Constant (.bool b) _ _=>(match d with|.bl j=>b==j|_=>af)|.Constant .none _ _=>(match d with|.a0=>ae|_=>af)|_=>af)|.v i,c,e=>(match e with|.Name x _=>c.var i x|_=>af)|.g k,c,e=>(match e with|.Name x _=>c.dg x&&Ei k (S.gn x)|_=>af)|.add a b,c,e=>(match e with|.BinOp l .Add r _=>aL S a c l&&aL S b c r|_=>af)|.sub a b,c,e=>(match e with|.BinOp l .Sub r _=>aL S a c l&&aL S b c r|_=>af)|.mul a b,c,e=>(match e with|.BinOp l .Mult r _=>aL S a c l&&aL S b c r|_=>af)|.mT a b,c,e=>(match e with|.BinOp l .FloorDiv r _=>aL S a c l&&aL S b c r|_=>af)|.mod a b,c,e=>(match e with|.BinOp l .Mod r _=>aL S a c l&&aL S b c r|_=>af)|.neg a,c,e=>(match e with|.UnaryOp .USub l _=>aL S a c l|_=>af)|.lt a b,c,e=>(match e with|.Compare l [.Lt] [r] _=>aL S a c l&&aL S b c r|_=>af)|.le a b,c,e=>(match e with|.Compare l [.LtE] [r] _=>aL S a c l&&aL S b c r|_=>af)|.gt a b,c,e=>(match e with|.Compare l [.Gt] [r] _=>aL S a c l&&aL S b c r|_=>af)|.ge a b,c,e=>(match e with|.Compare l [.GtE] [r] _=>aL S a c l&&aL S b c r|_=>af)|.eq a b,c,e=>(match e with|.Compare l [.Eq] [r] _=>aL S a c l&&aL S b c r|_=>af)|.ne a b,c,e=>(match e with|.Compare l [.NotEq] [r] _=>aL S a c l&&aL S b c r|_=>af)|.kE a,c,e=>(match e with|.Compare l [.Is] [.Constant .none _ _] _=>aL S a c l|_=>af)|.pV a,c,e=>(match e with|.Compare l [.IsNot] [.Constant .none _ _] _=>aL S a c l|_=>af)|.mem a b,c,e=>(match e with|.Compare l [.In] [r] _=>qG r&&aL S a c l&&aL S b c r|_=>af)|.ot a b,c,e=>(match e with|.Compare l [.NotIn] [r] _=>qG r&&aL S a c l&&aL S b c r|_=>af)|.pC a b d,c,e=>(match e with|.Compare l [.LtE,.LtE] [r,s] _=>qG s&&aL S a c l&&aL S b c r&&aL S d c s|_=>af)|.and a b,c,e=>(match e with|.BoolOp .And [x,y] _=>aL S a c x&&aL S b c y|.BoolOp .And (x::y::z::r) p=>aL S a c x&&aL S b c (.BoolOp .And (y::z::r) p)|_=>af)|.or a b,c,e=>(match e with|.BoolOp .Or [x,y] _=>aL S a c x&&aL S b c y|.BoolOp .Or (x::y::z::r) p=>aL S a c x&&aL S b c (.BoolOp .Or (y::z::r) p)|_=>af)|.not a,c,e=>(match e with|.UnaryOp .Not l _=>aL S a c l|_=>af)|.ite t a b,c,e=>(match e with|.IfExp x y z _=>aL S t c x&&aL S a c y&&aL S b c z|_=>af)|.tup l,c,e=>(match e with|.Tuple B _ _=>fN S l c B&&ao (l.length≤100)|_=>af)|.lst l,c,e=>(match e with|.List B _=>fN S l c B&&ao (l.length≤100)|_=>af)|.i5 _,_,e=>(match e with|.Dict [] [] _=>ae|_=>af)|.lD a b,c,e=>(match e with|.Dict [aa (.Tuple [] _ _)] [.Name x _] _=>BR a&&(match AK b with|aa i=>c.var i x|ag=>af)|_=>af)|.ix a i,c,e=>(match e with|.Subscript l r _=>rr r&&aL S a c l&&aL S i c r|_=>af)|.ko a lo m,c,e=>(match e with|.Subscript l (.Slice (aa x) (aa y) ag _) _=>aL S a c l&&aL S lo c x&&aL S m c y|_=>af)|.qI a lo,c,e=>(match e with|.Subscript l (.Slice (aa x) ag ag _) _=>aL S a c l&&aL S lo c x|_=>af)|.l8 a m,c,e=>(match e with|.Subscript l (.Slice ag (aa y) ag _) _=>aL S a c l&&aL S m c y|_=>af)|.av a f,c,e=>(match e with|.Attribute l n _=>pE l&&ao (f<S.nf)&&ao (n=S.fn f)&&aL S a c l|_=>af)|.m7 i k,c,e=>(match e with|.Attribute (.Name x _) n _=>c.var i x&&((ao (k=0)&&ao (n="line"))||(ao (k=1)&&ao (n="place"))||(ao (k=2)&&ao (n="why")))|_=>af)|.call f l,c,e=>(match e with|.Call (.Name x _) B [] _=>! c.bU&&c.dg x&&isFn f (S.gn x)&&ao (S.ar f=aa l.length)&&B.all noStar&&fN S l c B|_=>af)|.lS k l,c,e=>(match e with|.Call (.Name x _) (y::B) [] _=>! c.bU&&c.dg x&&Ad k (S.gn x)&&ao (S.eD k=aa (l.length+1))&&(y::B).all noStar&&fN S l c (y::B)|_=>af)|.lh a l,c,e=>(match e with|.Call (.Name x p) (y::B) [] _=>! c.bU&&(y::B).all noStar&&fN S l c (y::B)&&aL S a c (.Name x p)|_=>af)|.new k l,c,e=>(match e with|.Call (.Name x _) B [] _=>! c.bU&&c.dg x&&Ad k (S.gn x)&&ao (S.eD k=aa (l.length+1))&&B.all noStar&&fN S l c B|_=>af)|.bG k a f l,c,e=>(match e with|.Call (.Attribute (.Name x p) G ap) B [] q=>! c.bU&&ao (S.mt k G=aa f)&&ao (S.ar f=aa (l.length+1))&&B.all noStar&&ao (B.length<30)&&(ap.endLine==q.line)&&aL S a c (.Name x p)&&fN S l c B|_=>af)|.b1 o a,c,e=>(match e with|.Call (.Name x _) [y] [] _=>noStar y&&aL S a c y&&(match o with|.len=>c.bt S x "len"|.sum=>! c.bU&&c.bt S x "sum"|.any=>! c.bU&&c.bt S x "any"|.all=>! c.bU&&c.bt S x "all"|.int=>c.bt S x "int"|.str=>c.bt S x "str"|.ord=>c.bt S x "ord"|.list=>c.bt S x "list"|.tuple=>c.bt S x "tuple"|.dict=>c.bt S x "dict"|.sorted=>c.bt S x "sorted"|_=>af)|.Call (.Attribute y G ap) [] [] q=>pE y&&(ap.endLine==q.line)&&aL S a c y&&(match o with|.isalnum=>ao (G="isalnum")|.isalpha=>ao (G="isalpha")|.isdigit=>ao (G="isdigit")|_=>af)|.Call (.Name x _) [y] [⟨aa J,.Constant (.int j) _ _,_⟩] _=>! c.bU&&noStar y&&aL S a c y&&ao (J="default")&&ao (j=0)&&(match o with|.vz=>c.bt S x "min"|.vR=>c.bt S x "max"|_=>af)|_=>af)|.b2 o a b,c,e=>(match e with|.Call (.Name x _) [y,z] [] _=>! c.bU&&noStar y&&noStar z&&aL S a c y&&aL S b c z&&(match o with|.min=>c.bt S x "min"|.max=>c.bt S x "max"|_=>af)|.Call (.Attribute y G ap) [z] [] q=>pE y&&noStar z&&(ap.endLine==q.line)&&aL S a c y&&aL S b c z&&(match o with|.split=>ao (G="split")|.join=>ao (G="join")|_=>af)|_=>af)|.iU a b d,c,e=>(match e with|.Call (.Attribute y G ap) [z,w] [] q=>pE y&&noStar z&&noStar w&&(ap.endLine==q.line)&&ao (G="get")&&aL S a c y&&aL S b c z&&aL S d c w|_=>af)|.qO a b,c,e=>(match e with|.Call (.Attribute y G ap) [z] [] q=>pE y&&noStar z&&(ap.endLine==q.line)&&ao (G="get")&&aL S a c y&&aL S b c z|_=>af)|.comp I t k it O,c,e=>(match e with|.ListComp x [⟨h,F,C,0⟩] U _=>! c.bY&&! c.bU&&qG F&&Ap c U h t&&BE (c.wI U) t h&&aL S I (c.wI U) x&&zX S O (c.wI U) C&&Ak S c k h F (fN S it c)|_=>af)|.qS a i,c,e=>(match e with|.Call (.Name y _) [.Call (.Name N _) [ex] [] _] [⟨aa J,.Lambda ps (.Tuple [.BinOp (.Constant (.int z) _ _) .Sub (.Subscript (.Name x _) (.Name p _) _) _,.Name L _] _ _) sc lp,_⟩] _=>! c.bU&&! c.bY&&c.lam&&ao (J="key")&&ao (z=0)&&ao (L=p)&&c.bt S y "sorted"&&c.bt S N "range"&&noStar ex&&aL S a c ex&&Nl S c i p x ps sc lp|_=>af)|.proj a k,c,e=>(match e with|.ListComp (.Subscript (.Name x _) (.Constant (.int j) _ _) _) [⟨.Name y _,F,[],0⟩] U _=>! c.bU&&qG F&&ao (x=y)&&ao (j=(k:Int))&&aL S a c F&&(match c.N.findIdx? (fun z=>ao (z=x))with|aa i=>Ap c U (.Name x default) [i]&&ao ((tW U c.sc).names.lookup x=aa .local)&&ao (c.N[i]?=aa x)&&sw x&&!(x==("__classdict__":au))|ag=>af)|_=>af)
def fN(S:gC):List Ex→Ck→List bQ→Bool|[],_,B=>(match B with|[]=>ae|_=>af)|a::l,c,B=>(match B with|e::r=>noStar e&&aL S a c e&&fN S l c r|_=>af)
def zX(S:gC):List Ex→Ck→List bQ→Bool|[],_,B=>(match B with|[]=>ae|_=>af)|a::l,c,B=>(match B with|[e]=>aL S a c e&&l.isEmpty|_=>af)
end
open Ir(Sm)
def ry:Ex->Bool|[yK]=>ae|[AC]=>ae|_=>af
mutual
def eg(S:gC):Sm→Ck→kY→Bool|.set i e,c,s=>(match s with|.Assign [.Name x _] v _=>c.loc i x&&aL S e c v&&(ry e||xD v)|_=>af)|.own i e,c,s=>(match s with|.Assign [.Name x _] v _=>c.loc i x&&aL S e c v&&(ry e||xD v)&&e.fresh|_=>af)|.mY i e,c,s=>(match s with|.Assign [.Name x _] v _=>c.loc i x&&aL S e c v&&xD v&&! ry e&&e.fresh|_=>af)|.fz _ d,c,s=>eg S d c s|.dv a f e,c,s=>(match s with|.Assign [.Attribute o n _] v _=>ao (f<S.nf)&&ao (n=S.fn f)&&aL S a c o&&aL S e c v|_=>af)|.eO a f e,c,s=>(match s with|.Assign [.Attribute o n _] v _=>ao (f<S.nf)&&ao (n=S.fn f)&&aL S a c o&&aL S e c v&&e.fresh|_=>af)|.lq a f e,c,s=>(match s with|.AugAssign (.Attribute o n _) .Add v _=>ao (f<S.nf)&&ao (n=S.fn f)&&aL S a c o&&aL S e c v|_=>af)|.inc i e,c,s=>(match s with|.AugAssign (.Name x _) .Add v _=>c.loc i x&&aL S e c v|_=>af)|.dec i e,c,s=>(match s with|.AugAssign (.Name x _) .Sub v _=>c.loc i x&&aL S e c v|_=>af)|.mS i k e,c,s=>(match s with|.AugAssign (.Subscript (.Name x _) y _) .Add v _=>c.var i x&&rr y&&aL S k c y&&aL S e c v|_=>af)|.pB i k e,c,s=>(match s with|.AugAssign (.Subscript (.Name x _) y _) .Sub v _=>c.var i x&&rr y&&aL S k c y&&aL S e c v|_=>af)|.jS i k e,c,s=>(match s with|.Assign [.Subscript (.Name x _) y _] v _=>c.var i x&&aL S k c y&&aL S e c v&&rr y|_=>af)|.put a k e,c,s=>(match s with|.Assign [.Subscript o y _] v _=>aL S a c o&&aL S k c y&&aL S e c v&&rr y|_=>af)|.d_ i e,c,s=>(match s with|.Expr (.Call (.Attribute (.Name x _) G ap) [y] [] q) _=>ao (G="append")&&c.var i x&&noStar y&&(ap.endLine==q.line)&&aL S e c y|_=>af)|.app a e,c,s=>(match s with|.Expr (.Call (.Attribute o G ap) [y] [] q) _=>ao (G="append")&&pE o&&noStar y&&(ap.endLine==q.line)&&aL S a c o&&aL S e c y|_=>af)|.ee i e,c,s=>(match s with|.Expr (.Call (.Attribute (.Name x _) G ap) [y] [] q) _=>ao (G="extend")&&c.var i x&&noStar y&&(ap.endLine==q.line)&&aL S e c y|_=>af)|.qP i,c,s=>(match s with|.Expr (.Call (.Attribute (.Name x _) G ap) [] [] q) _=>ao (G="pop")&&c.var i x&&(ap.endLine==q.line)|_=>af)|.ex e,c,s=>(match s with|.Expr x _=>aL S e c x&&xD x|.Pass _=>(match e with|.c .a0=>ae|_=>af)|_=>af)|.ret e,c,s=>(match s with|.Return (aa x) _=>aL S e c x|_=>af)|.pP i,c,s=>(match s with|.Return (aa (.Name x _)) _=>c.var i x|_=>af)|.oD i,c,s=>(match s with|.Return (aa (.Call (.Name y _) [.Call (.Attribute (.Name x _) G ap) [] [] q] [] _)) _=>! c.bU&&ao (G="items")&&(ap.endLine==q.line)&&c.bt S y "list"&&c.var i x|_=>af)|.iff t a b,c,s=>(match s with|.If x y z _=>aL S t c x&&l' S a c y&&l' S b c z|_=>af)|.cS t k it b,c,s=>(match s with|.For B F body [] _=>! c.bU&&! c.bY&&qG F&&BE c t B&&Ak S c k B F (fN S it c)&&l' S b c body|_=>af)|.mh t b,c,s=>(match s with|.While x body [] _=>! c.bU&&! c.bY&&aL S t c x&&l' S b c body|_=>af)|.brk,_,s=>(match s with|.Break _=>ae|_=>af)|.hW k l,c,s=>(match s with|.Raise (aa (.Call (.Name x _) J [] _)) ag _=>! c.bU&&! c.bY&&c.dg x&&zE k (S.gn x)&&ao (5≤k∧k≤12)&&(match J with|[]=>ao (k≠9)&&l.isEmpty|y::r=>ao (k=9)&&ao (l.length=3)&&(y::r).all noStar&&fN S l c (y::r))|_=>af)|.tr b h,c,s=>(match s with|.Try body (h0::O) [] [] _=>! c.bU&&! c.bY&&l' S b c body&&d6 S h c (h0::O)|_=>af)|.hd _ _ _,_,_=>af
def l'(S:gC):List Sm→Ck→List kY→Bool|[],_,C=>(match C with|[]=>ae|_=>af)|a::l,c,C=>(match C with|s::r=>eg S a c s&&l' S l c r|_=>af)
def d6(S:gC):List Sm→Ck→List Ud→Bool|[],_,O=>(match O with|[]=>ae|_=>af)|.hd k i b::l,c,O=>(match O with|.ExceptHandler (aa (.Name x _)) nm (s::A) _::r=>ao (5≤k∧k≤12)&&c.dg x&&zE k (S.gn x)&&l' S b {c with bU:=ae} (s::A)&&d6 S l c r&&(match i,nm with|ag,ag=>ae|aa j,aa n=>ao (k=9)&&ao (c.N[j]?=aa n)&&ao (c.sc.names.lookup n=aa .local)|_,_=>af)|_=>af)|_::_,_,_=>af
end
def pg(s:au)(g:GV):au×GV:=(s,g)
def _m(k:Nat)(s:au)(f:Nat):(Nat×au)×Nat:=((k,s),f)
def A7:[fy,GV]:=[[J,"how_many_paid",0],[J,"price_at",1],[J,"paid_costs",2],[J,"cost_of",3],[J,"is_free",4],[J,"piece_costs",5],[J,"cheapest_from",6],[J,"copied_item",12],[J,"copied_book",13],[J,"percent_rounding",14],[J,"cash_rounding",15],[J,"taxed_by_line",16],[J,"sign_of",18],[J,"text_lines",19],[J,"words_of",20],[J,"line_of",21],[J,"bytes_of_lines",22],[J,"is_name",23],[J,"is_number",24],[J,"refuse_one_more",35],[J,"take_new_name",36],[J,"take_told",37],[J,"read_tax",38],[J,"read_item",39],[J,"take_item",40],[J,"read_price_line",41],[J,"read_from",42],[J,"read_step",43],[J,"read_free",44],[J,"read_bundle",45],[J,"take_part",46],[J,"read_coupon",47],[J,"take_money_behind",48],[J,"read_apart",49],[J,"refuse_second",50],[J,"take_rounding",51],[J,"read_round",52],[J,"read_cash",53],[J,"read_by",54],[J,"read_line",55],[J,"read_lines",56],[J,"read_book",57],[J,"book_with",58],[J,"rounded",59],[J,"takes_lesser",60],[J,"share_out",61],[J,"pieces_left",62],[J,"bundle_lines",63],[J,"lines_before_coupons",64],[J,"total_of",65],[J,"discount_of",66],[J,"lines_after_coupon",67],[J,"lines_at_end",68],[J,"taxes_of_amount",69],[J,"taxed_amounts",70],[J,"taxes_of_lines",71],[J,"due_of",72],[J,"paid_for",73],[J,"price_of_lines",74],[J,"paid_for_amount",75],[J,"bundles_fit",76],[J,"goes_with",77],[J,"when_holds",78],[J,"may_be_gone",79],[J,"bundle_counts",80],[J,"coupon_sets",81],[J,"lines_by_coupons",82],[J,"how_many_ways",83],[J,"best_way",84],[J,"in_range",86],[J,"all_in_range",87],[J,"text_asked",88],[J,"pieces_asked",89],[J,"money_asked",90],[J,"weights_asked",91],[J,"book_asked",92],[J,"item_asked",93],[J,"item_without_held_tax",94],[J,"basket_asked",95],[J,"counts_asked",96],[J,"coupons_asked",97],[J,"order_asked",98],[J,"named_rows",99],[J,"head_rows",100],[J,"end_rows",101],[J,"bill_lines",102],[J,"take_count",104],[J,"read_has",105],[J,"read_uses",106],[J,"read_with",107],[J,"read_head",108],[J,"first_unlike",109],[J,"first_wrong_line",110],[J,"least_amount",111],[J,"amounts_paid_with",112],[J,"tax_words",113],[J,"item_rows",114],[J,"bundle_words",115],[J,"coupon_words",116],[J,"apart_words",117],[J,"setting_rows",118],[J,"form_rows",119],[J,"one_form",120],[J,"lines_asked",121],[J,"call_read",122],[J,"call_check",123],[J,"call_print",124],[J,"call_names",125],[J,"call_cost",126],[J,"call_cheap",127],[J,"call_bill",128],[J,"call_taxes",129],[J,"call_price",130],[J,"call_best",131],[J,"call_all",132],[J,"call_shares",133],[J,"call_round",134],[J,"call_nets",135],[J,"call_parts",136],[J,"call_add",137],[J,"call_drop",138],[J,"call_pieces",139],[J,"call_show",140],[J,"call_look",141],[J,"how_many_numbers",142],[J,"how_many_rows",143],[J,"answer_call",144],[J,"rows_at",145],[J,"answers",146],[py,"Tax",0],[py,"Item",1],[py,"Bundle",2],[py,"Coupon",3],[py,"Book",4],[pu,"OutOfRange",5],[pu,"NoBook",6],[pu,"NoItem",7],[pu,"NotToBeGone",8],[pu,"WrongPlace",9],[pu,"TaxHeld",10],[pu,"NoAmount",11],[pu,"NoWeight",12],[py,"Row",13],[py,"Desk",14],[py,"Head",15],[c',"MOST_PIECES",0],[c',"USUAL_ROUNDING",1],[c',"LETTERS",2],[c',"DIGITS",3],[c',"QUOTED",4],[c',"CANNOT_STAND",5],[c',"TOLD_ALREADY",6],[c',"NOT_TOLD",7],[c',"NOT_IN_RANGE",8],[c',"TOO_MANY",9],[c',"MOST_TAXES",10],[c',"MOST_ITEMS",11],[c',"MOST_BUNDLES",12],[c',"MOST_COUPONS",13],[c',"MOST_PRICE_LINES",14],[c',"MOST_MONEY",15],[c',"MOST_RATE",16],[c',"MOST_UNIT",17],[c',"READERS",18],[c',"MOST_TIMES",19],[c',"MOST_BYTES",20],[c',"MOST_WEIGHTS",21],[c',"HEAD_READERS",22],[c',"MOST_RULE",23],[c',"MOST_ROUNDED",24],[c',"MOST_DIVISOR",25],[c',"CALLS",26],[g8,"len"],[g8,"sum"],[g8,"any"],[g8,"all"],[g8,"int"],[g8,"str"],[g8,"ord"],[g8,"list"],[g8,"tuple"],[g8,"dict"],[g8,"sorted"],[g8,"min"],[g8,"max"],[g8,"range"],[g8,"enumerate"],[g8,"zip"]]
def DX:[jQ,Nat×au]:=[_m 13 "fail" 26,_m 13 "fail_at_first" 27,_m 13 "has_more" 28,_m 13 "take_word" 29,_m 13 "take_choice" 30,_m 13 "take_name" 31,_m 13 "take_number" 32,_m 13 "skip_word" 33,_m 13 "finish" 34]
def j2:[dF]:=["name","rate","on","over","price","taxes","tax_set","from_lines","step_lines","free","parts","kind","amount","item","cap","when","names","tax_list","item_list","bundle_list","coupon_list","apart_pairs","settings","line","place","why","words","book","basket","counts","coupons","height"]
def oh(f:Nat):au:=[gp,j2[f]?,x,x,#[[ff,[2000000+f]]]]
def zO(k:Nat):[kD]:=[DU,k]
def Aa(k:Nat):[kD]:=[II]
def W0:gC:=#[λx=>A7.lookup x,λk n=>DX.lookup (k,n),zO,Aa,oh,32,389,44,61]
def _p(l:[dF]):[dF]:=l
def nsL:List [dF]:=[_p ["item","pieces"],_p ["item","price_lines","pieces","price","least","line_price"],_p ["item","paid","price","place"],_p ["item","pieces"],_p ["item","pieces","place","size"],_p ["item","pieces","paid","costs","used","place"],_p ["item","pieces","best","least","more","cost"],_p ["self","name","rate","on","over"],_p ["self","name","price","taxes"],_p ["self","name","price","parts"],_p ["self","name","kind","amount","item","cap","when"],[v2],_p ["item","twin"],[hm,"twin","item"],_p ["book"],_p ["book"],_p ["book"],_p [Cj],_p ["byte"],_p ["text","rows","byte"],_p ["row","word"],_p ["words"],_p ["lines","line","sign"],_p ["word"],_p ["word"],_p ["self","line","words"],_p ["self","why"],_p ["self","why"],[v2],[v2],_p ["self","choices","word"],_p ["self","word"],_p ["self","least","most","word","number"],_p ["self","word"],[v2],_p ["row","told","most"],[hm,"row","name"],[pm,"row","kind","entry"],_p ["book","row","name","rate","on","over"],_p ["book","row","name","price","taxes","tax"],[sh],_p ["row","own","others","least","pieces"],[hm,"row","item"],[hm,"row","item"],[pm,"row","item","free"],[lN,"row","name","price","parts"],[lN,"row","parts","item","part"],_p ["book","row","name","kind","amount","item","cap","when"],_p ["row","word"],[lN,"row","first","second","pair"],[hm,"row","setting"],_p ["row","rule"],[sh],[sh],[sh],[hm,"row","reader"],[lN,"text","line","signs","words"],_p ["text","book"],[hm,"text","longer"],_p ["rounding","number","divisor","rule","unit","step","times","rest"],_p ["rule","times","beyond_half"],_p ["whole","weights","total","parts","remainders","order","place","weight"],_p ["book","basket","counts","left","bundle","times","number","pieces"],_p ["book","bundle","times","weights","amounts","number","pieces","part","amount"],_p ["book","basket","counts","lines","number","pieces","bundle","times"],_p ["lines","line"],[pm,"coupon","base","discount"],_p ["book","lines","coupon","weights","discounts","number","amount","line","discount"],_p ["book","basket","counts","coupons","lines","number"],_p ["book","amount","tax_set","rounding","held","whole","bare","found","number","tax"],_p ["book","lines","pairs","together","tax_set","amount","number"],_p ["book","lines","totals","tax_set","amount","found","number","tax"],_p ["book","lines","totals","on_top","tax","total"],_p ["book","due"],_p ["book","lines"],_p ["book","item","amount","found","on_top","number"],[hm,"basket","counts"],[pm,"coupons","number","earlier"],[hm,"before","number"],_p ["book","basket","counts","coupons","before","place","number"],_p ["book","basket","found","bundle","longer","counts","times"],[lN,"before","found","number","coupons"],[pm,"before","found","coupons"],[lN,"basket","befores","counts","before"],_p ["book","basket","best","counts","coupons","lines","paid"],[v2],_p ["number","least","most"],_p ["row","least","most","number"],_p ["row"],_p ["number"],_p ["number"],_p ["row","weights"],_p ["desk"],_p ["book","number"],[pm,"number","item","tax"],[sh],[sh],[lN,"row","coupons","least","number"],[lN,"rows","basket","counts","coupons"],_p ["word","told","numbers","one","number"],_p ["book","basket","counts","coupons","rows","taken","row","number"],_p ["book","lines","rows","totals","due","number","amount"],_p ["book","basket","counts","coupons","lines","words"],_p ["self","book","item","bundle"],_p ["row","number","numbers","most"],[hm,"head","row"],[hm,"head","row"],[pm,"head","row","number"],_p ["book","lines","head","line","words","row","reader"],_p ["lines","right","place"],[lN,"text","lines","head","e"],_p ["book","item","paid","most","least","middle"],_p ["book","item","gross","most","first","behind"],[hm,"tax","words"],_p ["book","item","taxes","rows","pieces","price","number"],[lN,"bundle","words","number","pieces"],[hm,"coupon","words"],[hm,"pair","number"],[pm,"rows","word","number"],_p ["book","rows","item","tax","bundle","coupon","pair"],_p ["book","words"],[hm,"rows","order"],[Cr],[vw,"text","e"],[Cr],[nN,"book"],[vw,"pieces","item"],[nN,"pieces"],_p ["desk","numbers","rows","answer","number","amount"],_p ["desk","numbers","rows","book","lines","totals","due"],[nN,"book"],[vw,"book","best"],[nN,"book"],[nN,"whole"],[vw,"rounding","number"],_p ["desk","numbers","rows","gross","book","found"],_p ["desk","numbers","rows","amount","book","item","parts","answer","number"],[nN,"text"],[Cr],[nN,"pieces"],[vw,"book","order"],[nN,"text"],_p ["call"],_p ["call"],_p ["desk","call","numbers","rows","answerer"],_p ["calls","place","how_many","rows","turn","end"],_p ["calls","desk","told","place","call","behind_numbers","numbers","rows","answer","row"]]
section
variable{T:Tb}{W:gC}{K:aQ}
def Ac:aq->Bool|[a0]=>ae|_=>af
def Hq(N ps:[dF])(sc:fo):Bool:=[g1,sc.kind,[km],ae]&&! sc.isCoroutine&&! sc.isGenerator&&ao N.Nodup&&ao (N.take [mH]=ps)&&(ps.all λx=>xH [n_,x])&&sc.names.all λy=>[d6,y.2,[ec],af,ae]
def vn(T:Tb)(W:gC)(K:aQ)(f:Nat)(F:Ir.Fn)(N:[dF]):Bool:=[Kx,[gT],body,[gp,oG l.params,ps,[G5,l.globals==iB]&&Hq N ps l.scope&&ao ([eu]=F.ns)&&ao ([mH]=F.np)&&ao ps.Nodup&&ji K [m,[gT]]&&(!(f==W.lf)||[g1,l.code,[l2],Ds K c T.tab&&ao ((l.qualname++(".<locals>.":au))++("<lambda>":au)=T.tq)])&&l' W F.body #[N,l.scope,af,af,f==W.lf] body,af]]
mutual
def vA(T:Tb)(K:aQ):Nat→D→aq→Bool|0,_,_=>af|n+1,d,C=>match d with|.a0=>Ac C|.bl b=>(match C with|.bool c=>b==c|_=>af)|.int i=>(match C with|.int j _=>ao (i=j)|_=>af)|.str s=>(match C with|.str x _=>ao (x=sv s)|_=>af)|.fn k=>(match C with|.ref a=>a==T.cU k|_=>af)|.b4 l=>(match C with|.ref a=>(match K.lookup a with|aa ⟨.type c,ag,.seq G _,_⟩=>(c=="tuple")&&ao (G.size≤1000)&&vT T K n l G.toList|_=>af)|_=>af)|_=>af
def vT(T:Tb)(K:aQ):Nat→List D→List aq→Bool|_,[],[]=>ae|n,d::B,C::us=>vA T K n d C&&vT T K n B us|_,_,_=>af
end
def n_(a:ai):[jx,[gP]]|aa [er,b]=>b==a|_=>af
def pL:[jx,[gP]]|aa ag=>ae|_=>af
def Hs(n:String):[jx,[gP]]|aa [gF,G]=>G==n|_=>af
def lV(K:aQ)(C:ai):Bool:=C1 K C Str.empty&&IZ K C&&Tx K C&&Hs "object.__setattr__" [rC,"__setattr__"]&&j2.all λf=>pL [rC,f]
def Bc(T:Tb)(K:aQ)(k:Nat)(G:au)(f:Nat):Bool:=n_ [gT] (mH K [m,[gY]] G)&&uH K [m,[gT]]&&ji K [m,[gT]]&&j2.all (λx=>!(x==G))&&ao (G.cps.size≠1)
def Hg(T:Tb)(K:aQ)(k f:Nat):Bool:=TD K [gY]&&n_ [gT] (mH K [m,[gY]] "__init__")&&uH K [m,[gT]]&&ji K [m,[gY]]
def By:D->aq->[bg,dG]|[aQ],.int j _=>[fc,i,j,[H,i],ag]|[db],.str x _=>[fc,x,[g7],[aC,x],ag]|_,_=>ag
def qR(T:Tb)(K:aQ):([dk])->List pj->[bg,[iH]]|[],[]=>aa []|[fY,d],e::q=>[ap,vA T K 5 d e.val,(By k e.key).bind λj=>[R,qR T K l q,(j::·)],ag]|_,_=>ag
def x8(K:aQ)(a:ai):[a4]:=[d6,[e8,a],aa #[_,_,.dict l _,_],l.toList.map (·.hash),[]]
def BX(l:[dk]):[iH]:=l.filterMap [aF,gX [L]]
def B4(T:Tb)(K:aQ)(a:ai)(l:[dk]):Bool:=[g1,[e8,a],aa #[[bT,t],ag,.dict q _,sl],(t=="dict")&&sl.isEmpty&&[gp,qR T K l q.toList,B,ao B.Nodup&&ao (B=BX l),af]&&!(a==iA)]
def jq(K:aQ)(C:ai):ai:=[d6,[e8,C],aa #[_,_,.cls G,_],G.ns,0]
def sA(K:aQ)(C:ai):Bool:=[g1,[e8,C],aa #[[bT,t],_,.cls G,sl],(t=="type")&&G.hasDict&&! G.hasDel&&[g1,G.mro,[[aL],[bT,x],[bT,y],[bT,z]],(a==C)&&(x=="Exception")&&(y=="BaseException")&&(z=="object")]&&[g1,sl.toList,[_,_,_,_,[gF,n],_],n=="Exception.__new__"]&&Jv K G.ns]
end
def We:[bc]:=[21,28,33,40,47,54,61,76,97,118,139,160,174,179,186,193,200,266,319,324,329,336,341,348,355,369,376,383,390,397,404,411,418,425,432,446,453,460,467,474,481,488,495,502,509,516,521,528,535,542,549,556,563,570,577,585,592,599,606,613,620,625,632,637,644,649,656,661,668,673,678,683,688,695,702,707,714,719,726,733,738,743,750,755,762,776,790,795,802,809,816,823,830,837,842,849,856,863,870,875,880,885,890,902,916,923,930,937,945,952,959,966,973,980,985,992,999,1004,1009,1014,1019,1026,1033,1040,1047,1054,1061,1068,1075,1082,1089,1096,1103,1110,1117,1124,1131,1138,1145,1152,1159,1166,1195,1202,1209,1216,1221]
def Bs:[bc]:=[79,100,121,142,163,79,79,79,79,79,79,79,79,435,779,905]
def xaL:[bc]:=[79,100,121,142,163,210,223,236,249,269,282,295,308,435,779,905]
def tI:[jQ,ai]:=[(578,18),(938,22),(1167,26)]
def T0 : Tb where
 cU := fun k => We.getD k 0
 eB := fun k => Bs.getD k 79
 dr := fun k => xaL.getD k 0
 nf := 32
 eW := oh
 du := fun a l => ∃ k, (a, k) ∈ tI ∧ Ir.dI[k]? = aa (.du l)
 tab := 622
 tl := 389
 tc := 44
 tq := "share_out.<locals>.<lambda>"
section
variable{K:aQ}
def oq(a b:au):Bool:=ao (a=b)
def G2(K:aQ):Bool:=[Kx,[q9],[[BE,j,e,q],[BE,C,z,u],[BE,s,h,I]],[G5,oq j "self"&&oq C "self"&&oq s "self"&&oq e "line"&&oq z "place"&&oq h "why"&&oq q "line"&&oq u "place"&&oq I "why"&&oq l.name "__init__"&&(l.globals==iB)]&&ji K [m,[q9]]&&uH K [m,[q9]]&&ao (oG l.params=aa ([Cj]:[dF]))&&[g1,l.scope.kind,[km],ae]&&! l.scope.isCoroutine&&! l.scope.isGenerator&&[nB,([Cj]:[dF]),λx=>xx (l.scope.names.lookup x)]]
def xG(K:aQ)(x:au):GV->Bool|.fn k=>n_ (T0.cU k) [vI]|.cls k=>n_ (T0.eB k) [vI]|.exc k=>n_ [tB] [vI]|.dg k=>(match [vI],Ir.dI[k]? with|aa (aa C),aa (.du _)=>[g1,C,[aL],tI.contains (a,k)]|aa (aa C),aa d=>vA T0 K 5 d C|_,_=>af)|[vH]=>pL [vI]
def zZ(K:aQ):Bool:=[g1,gu K iB "__builtins__",aa [er,bm],!(bm==pa)&&!(bm==iB)&&!(bm==622)&&[g1,[e8,bm],aa #[[bT,t],aa d,.plain,_],(t=="module")&&(d==pa)]]
def tE(K:aQ)(k:Nat):Bool:=match Ir.fns[k]?,nsL[k]? with|aa F,aa N=>vn T0 W0 K k F N|_,_=>af
def DQ(K:aQ)(k:Nat):Bool:=! [es,Aa k]||Hg T0 K k (Ir.prog.init k)
def Gu(K:aQ):Bool:=sA K 269&&n_ [q9] [up,269]&&[hV,[("line":au),"place","why","__setattr__","__getattribute__","__getattr__"],x,[EI,x]]&&G2 K&&ji K [m,269]
def FQ(K:aQ)(k:Nat):Bool:=sA K [tB]&&pL [up,[tB]]
def Av(K:aQ):Bool:=[nB,br 147,tE K]&&[DN,K]&&[I_]&&Bs.all (lV K)&&[nB,br 16,DQ K]&&Gu K&&[nB,[CH],FQ K]&&[Hx]&&zZ K
def DN(w:cz)(K:aQ):[P]:=[g4,tI,∀l,([aR,Ir.dI,[Z],[jH]])->x8 K [L]=[R,BX l,BC w]]
end
open PySem.W(tabObj WellAll Well WData ReadsW ReadsAllW)
def zA{l:aQ}{x:ai}{b:bn}(h:[EV]):(x,b)∈l:=by induction l with|nil=>rw[a7]|cons p l e=>rw[eY]
def yn(K:aQ):Bool:=Av K&&(K.all [Bq])&&[e8,622].isNone
def AF(w:cz)(h:bP):[P]:=(∃K:aQ,K.In h/\yn K=ae/\DN w K)/\[de,622,JO [cd]]
def isLs(o:bn):Bool:=[d6,o.cls,[bT,n],!(n=="list"),ae]
def gd(L:[bc])(h:bP):aQ:=L.filterMap λa=>[A,a=622,ag,(h.get? a).bind λo=>[ap,isLs o,aa (a,o),ag]]
def KOf_mem{L:[bc]}{h:bP}{a:ai}{o:bn}(e:(a,o)∈gd L h):a∈L/\a≠622/\[re]/\isLs o=ae:=by rw[aO,gd,uk,e];rw[K,b,G,e,e];rw[aA,e];{rw[cJ]};{rw[ax,n];cases q:h.get? b with|none=>rw[az,q,e,e]|some c=>rw[q]at e;rw[ao,ub,e];rw[aA,e];{rw[ax,z];rw[aU,e,#[G,n,q,z]]};{rw[cJ]}}
def W9(L:[bc])(h:bP):(gd L h).In h:=λa o e=>[cQ,KOf_mem (zA e)]
def Kl(k:Nat)(w:cz):[a4]:=[d6,Ir.dI[k]?,aa [jH],[R,BX l,BC w],[]]
def Sub(i K:aQ):[P]:=∀a o,i.lookup a=[a']->[e8,a]=[a']
def afs{i K:aQ}(s:Sub i K){v q}(h:sj i v q=ae):sj K v q=ae:=by unfold sj at h|-;cases v with|ref c=>rw[eU]|_=>rw[a7]
def acU{i K:aQ}(s:Sub i K){c p}(h:Ds i c p=ae):Ds K c p=ae:=by unfold Ds at h|-;rw[eU]
def Y5{i K:aQ}(s:Sub i K){T S f F N}(h:vn T S i f F N=ae):vn T S K f F N=ae:=by unfold vn at h|-;cases e:i.lookup [gT]with|none=>rw[ao,e,h];rw[a7]|some o=>rw[ao,e,h];rw[aa,s _ _ e];rw[ag,C,p,L,sl,o];cases L with|func x=>(cases J:x.body with|stmts body=>(simp only[J]at h|-;cases q:oG x.params with|some ps=>simp only[q,aF]at h|-;obtain⟨⟨⟨⟨⟨⟨⟨⟨⟨⟨⟨I,u⟩,U⟩,W⟩,H⟩,B⟩,P⟩,j⟩,l⟩,d⟩,a⟩,m⟩:=h;rw[a3,#[#[#[#[#[#[#[#[#[#[I,u],U],W],afs s H],B],P],j],l],?_],?_],m];{rw[Y,ji,s _ _ e]};{simp only[kP]at a|-;rw[aZ,a,z,z,[H,z]];{refine .inr ?_;rw[aA,z];{rename_i c O;simp only[aF]at z|-;rw[aQ,acU s [cK],z.2]};{cases z}}}|none=>rw[ao,q,h];rw[a7])|_=>rw[ao,J,h];rw[a7])|_=>rw[a7]
def Xk{L:[bc]}{h:bP}{a:ai}{o:bn}(G:a∈L)(n:a≠622)(e:[re])(z:isLs o=ae):(gd L h).lookup a=[a']:=by induction L with|nil=>cases G|cons b L m=>unfold gd at m|-;rw[b,J,a=b];{subst J;rw[rO,aw n,e];simp[z]};{rw[ak,G,a∈L,[c4,G].resolve_left J,rO];split;{exact m G};{rename_i c q;rw[aA,q];{rw[bO]};{cases u:h.get? b with|none=>rw[az,u,q,q]|some I=>rw[u]at q;rw[ao,ub,q];rw[aA,q];{rw[bO];rw[a5,pi,wx J,m G]};{rw[bO]}}}}
def Yf{l L:[bc]}{h:bP}(G:∀a∈l,a∈L):Sub (gd l h) (gd L h):=λa o e=>[dH,m,u,q,z,KOf_mem (zA e),Xk (G _ m) u q z]
def q_(i:Nat)(h:bP):Bool:=[hV,CO (21*i) 21,k,tE (gd [T0.cU k,T0.cU k-1] h) k]
def Oh(L:[bc]):Bool:=[hV,br 147,k,L.contains (T0.cU k)&&L.contains (T0.cU k-1)]
def ahp{i K:aQ}(s:Sub i K){k:Nat}(h:tE i k=ae):tE K k=ae:=by unfold tE at h|-;rw[a2];{exact Y5 s h};{rw[a7]}
def rB(K:aQ):[gN]|0=>[I_]|1=>lV K 79&&lV K 100|2=>lV K 121&&lV K 142|3=>lV K 163&&lV K 435|4=>lV K 779&&lV K 905|5=>[nB,br 16,DQ K]|6=>Gu K&&[nB,[CH],FQ K]|_=>[Hx]&&zZ K
def XT{as:[bc]}{h:bP}:[a3,(gd as h).all [Bq]]/\((gd as h).lookup 622).isNone=ae:=by refine#[ck.mpr λp q=>[eQ,KOf_mem q],?_];cases e:(gd as h).lookup 622 with|none=>rfl|some o=>rw[be,Y,[ak,KOf_mem (zA e)]]
def agx{L:[bc]}{q:bP}{K:aQ}(B:K=gd L q)(W:Oh L=ae)(h:∀i<7,q_ i q=ae)(g:[DN,K]=ae)(a:∀i<8,rB K i=ae):yn K=ae:=by(have z:[kp,br 147,tE K]:=by refine ck.mpr λk O=>?_;have r:=ck.mp W k O;rw[aO,aF,rQ,r];rw[R,O,ja.mp O,z,ck.mp (h (k/21) [g]) k (List.mem_range'_1.mpr [g])];refine ahp ?_ z;rw[cm,B,Yf λa G=>?_];rw[cV,G,r.1,r.2]);rw[R,Z,a 0 [g],S,a 1 [g]];rw[R,u,a 2 [g],f,a 3 [g]];rw[R,m,a 4 [g],H,a 5 [g]];rw[R,e,a 6 [g],P,a 7 [g]];simp only[rB,aF]at Z S u f m H e P;rw[ay,j,Bs.all (lV K)=ae,by simp[Bs,S,u,f,m],b,XT (as:=L) (h:=q)];rw[aP,B,b];unfold yn Av;rw[aa,aF];rw[aQ,#[#[#[#[#[#[#[#[#[z,g],Z],j],H],e.1],e.2],P.1],P.2],b.1],b.2]
def anK(L:[bc])(W:Oh L=ae)(w:cz)(s:aD)(x:((((q_ 0 s.heap,q_ 1 s.heap),(q_ 2 s.heap,q_ 3 s.heap)),((q_ 4 s.heap,q_ 5 s.heap),(q_ 6 s.heap,[DN,[ki]]))),((((rB [ki] 0,rB [ki] 1),(rB [ki] 2,rB [ki] 3)),((rB [ki] 4,rB [ki] 5),(rB [ki] 6,rB [ki] 7))),(tI.map [aF,x8 [ki] [L]],[wD,622])))=(([yG],[yG]),(([yG],[yG]),(tI.map [aF,Kl [Z] w],aa (JO [cd]))))):AF w s.heap:=by rw[ao,gQ,x];obtain⟨⟨⟨⟨Z,S⟩,z,j⟩,⟨O,u⟩,U,P⟩,⟨⟨⟨a,b1⟩,b2,v⟩,⟨t,B⟩,d,H⟩,J,x3⟩:=x;rw[a3,#[[ki],W9 _ _,agx Y W (λi q=>?_) P λi q=>?_,λp m l e=>?_],x3];{match i,q with|0,_=>exact Z|1,_=>exact S|2,_=>exact z|3,_=>exact j|4,_=>exact O|5,_=>exact u|6,_=>exact U|n+7,h=>omega};{match i,q with|0,_=>exact a|1,_=>exact b1|2,_=>exact b2|3,_=>exact v|4,_=>exact t|5,_=>exact B|6,_=>exact d|7,_=>exact H|n+8,h=>omega};{rw[List.map_inj_left.mp J p m];rw[dV,Kl,e]}
def ann(w:cz)(h i:bP)(x:AF w h)(k:[di,[kx],i.get? b=[a']]):AF w i:=#[let#[#[K,a,b],_]:=x;#[K,λc o e=>k _ _ (a c o e),b],k _ _ [bG]]
open PySem.W(Codec OpenSpec)
abbrev AL:OpenSpec:=aq7
end Snd
end
set_option hygiene true
set_option maxHeartbeats 0
namespace Snd
open PySem PySem.W
abbrev Pw : Program := PySem.Challenge.pw_pricebook_s01_answers
theorem hWa1 : (sreFenced Pw.main) = true := by decide +kernel
theorem hWa2 : ((moduleNames Pw.main.body).isEmpty || lookedIntoSs (moduleNames Pw.main.body) Pw.main.body) = true := by decide +kernel
theorem hWa3 : namesResolve Pw = true := by decide +kernel
theorem hWa4 : (Pw.boundNames.all fun n => !worldNames.contains n) = true := by decide +kernel
theorem hWa5 : noRoadLSs { strict := !(importedModules Pw.main.body).all cThrough.contains, foot := none, bare := List.filter (readsOut Pw Pw.main.body) [Str.ofString "vars", Str.ofString "dir", Str.ofString "locals"] } Pw.main.body = true := by decide +kernel
theorem hWa6 : (namesMeet Pw Pw.main.body fun x n => attrL n) = true := by decide +kernel
theorem hWa7 : looksOpen Pw = true := by
  unfold looksOpen
  rw [hWa1, hWa2, hWa3, hWa4, hWa5, hWa6]
  rfl
theorem hWa8 : (Pw.boundNames.contains AL.name) = true := by decide +kernel
theorem hWa9 : (specDef Pw AL.name AL.args.length) = true := by decide +kernel
theorem wS : AL.wellSaid = true := by
  show (looksOpen Pw && Pw.boundNames.contains AL.name && !startupNames.contains AL.name && specDef Pw AL.name AL.args.length && AL.args.all Codec.fits && AL.ret.ok) = true
  rw [hWa7, hWa8, hWa9]
  decide +kernel
def myas : List Addr := [3,4,2,79,70,100,91,121,112,142,133,163,154,435,363,779,770,905,898,76,97,118,139,160,369,776,902,376,383,390,397,404,411,418,425,432,260,266,265,269,267,268,270,210,208,209,211,223,221,222,224,236,234,235,237,249,247,248,250,282,280,281,283,295,293,294,296,308,306,307,309,578,938,1167,1168,1169,1170,1171,1172,1173,1174,1175,1176,1177,1178,1179,1180,1181,1182,1183,1184,1186,1187,1188,1189,78,77,80,81,99,98,101,102,120,119,122,123,141,140,143,144,162,161,164,165,434,433,436,437,778,777,780,781,904,903,906,907,15,17,18,20,21,22,24,25,27,28,29,32,33,34,36,37,39,40,41,43,44,46,47,48,50,51,53,54,55,57,58,60,61,62,72,73,75,93,94,96,114,115,117,135,136,138,156,157,159,168,170,171,173,174,175,178,179,180,182,183,185,186,187,189,190,192,193,194,196,197,199,200,201,214,227,240,253,262,263,273,286,299,312,313,315,316,318,319,320,323,324,325,328,329,330,332,333,335,336,337,340,341,342,344,345,347,348,349,351,352,354,355,365,366,368,370,372,373,375,377,379,380,382,384,386,387,389,391,393,394,396,398,400,401,403,405,407,408,410,412,414,415,417,419,421,422,424,426,428,429,431,440,442,443,445,446,447,449,450,452,453,454,456,457,459,460,461,463,464,466,467,468,470,471,473,474,475,477,478,480,481,482,484,485,487,488,489,491,492,494,495,496,498,499,501,502,503,505,506,508,509,510,512,513,515,516,517,520,521,522,524,525,527,528,529,531,532,534,535,536,538,539,541,542,543,545,546,548,549,550,552,553,555,556,557,559,560,562,563,564,566,567,569,570,571,573,574,576,577,579,581,582,584,585,586,588,589,591,592,593,595,596,598,599,600,602,603,605,606,607,609,610,612,613,614,616,617,619,620,621,624,625,626,628,629,631,632,633,636,637,638,640,641,643,644,645,648,649,650,652,653,655,656,657,660,661,662,664,665,667,668,669,672,673,674,677,678,679,682,683,684,687,688,689,691,692,694,695,696,698,699,701,702,703,706,707,708,710,711,713,714,715,718,719,720,722,723,725,726,727,729,730,732,733,734,737,738,739,742,743,744,746,747,749,750,751,754,755,756,758,759,761,762,772,773,775,784,786,787,789,790,791,794,795,796,798,799,801,802,803,805,806,808,809,810,812,813,815,816,817,819,820,822,823,824,826,827,829,830,831,833,834,836,837,838,841,842,843,845,846,848,849,850,852,853,855,856,857,859,860,862,863,864,866,867,869,870,871,874,875,876,879,880,881,884,885,886,889,890,901,910,912,913,915,916,917,919,920,922,923,924,926,927,929,930,931,933,934,936,937,939,941,942,944,945,946,948,949,951,952,953,955,956,958,959,960,962,963,965,966,967,969,970,972,973,974,976,977,979,980,981,984,985,986,988,989,991,992,993,995,996,998,999,1000,1003,1004,1005,1008,1009,1010,1013,1014,1015,1018,1019,1020,1022,1023,1025,1026,1027,1029,1030,1032,1033,1034,1036,1037,1039,1040,1041,1043,1044,1046,1047,1048,1050,1051,1053,1054,1055,1057,1058,1060,1061,1062,1064,1065,1067,1068,1069,1071,1072,1074,1075,1076,1078,1079,1081,1082,1083,1085,1086,1088,1089,1090,1092,1093,1095,1096,1097,1099,1100,1102,1103,1104,1106,1107,1109,1110,1111,1113,1114,1116,1117,1118,1120,1121,1123,1124,1125,1127,1128,1130,1131,1132,1134,1135,1137,1138,1139,1141,1142,1144,1145,1146,1148,1149,1151,1152,1153,1155,1156,1158,1159,1160,1162,1163,1165,1166,1191,1192,1194,1195,1196,1198,1199,1201,1202,1203,1205,1206,1208,1209,1210,1212,1213,1215,1216,1217,1220,1221]
def myq : Program := { Pw with main := { Pw.main with body := Pw.main.body.drop 188 } }
def myl : List Str := Pw.boundNames.filter fun n => !(n == "answers") && !(n == "__name__")
theorem my_hdef {o : Option (DefRec × List (Str × Expr))} (h : o.isSome = true) : o = some ((o.get h).1, (o.get h).2) := by
  cases o with
  | none => cases h
  | some x => rfl
def k_p {α β} (a : α) (_ : β) := a
theorem inA : Oh myas = true := by decide +kernel
local macro_rules | `(tactic| refine $h:ident (q := $q) (loose := $l) (Xt := $x) (XP := $xp) (Yf := $yf) (Ya := $ya) (YP := $yp) (N := $n) $a $b $c $rest*) => `(tactic| refine' $h:ident (q := myq) (loose := myl) (Xt := fun s => xlAt myq [] s && recOk [] s) (XP := XL myq []) (YP := k_p AF @$(Lean.mkIdent `h_c)) (N := $n) $a (anK myas inA) ann $rest*)
local macro_rules | `(tactic| rfl) => `(tactic| first | exact my_hdef (by decide +kernel) | kernel_rfl)
theorem top (h_c : ∀ {q : Program} {loose : List Str} {XP : (Str → Option Value) → Heap → Prop} {d : DefRec} {kwd : List (Str × Expr)}, d.name = "answers" → WalkOS q loose XP AF AL d kwd (fun f vs => PySem.call f vs)) : AL.Holds := by
  have k1 := wS
  o_headS Hook.none
  case hw => exact ⟨[.list [.int 2]], by decide +kernel, by decide +kernel⟩
  case hc => refine h_c ?_; decide +kernel
end Snd
set_option hygiene false
set_option maxHeartbeats 1000000
section
local macro_rules
|`([$xs,*])=>do
  let e:=xs.getElems.map (·.raw)
  if e.size>0&&e[0]!.isIdent then let n:=e[0]!.getId; if let some f:=((TA n.toString).lookup n).orElse λ_=>(TC n.toString).lookup n then return ←f (e.extract 1 e.size)
  Lean.Macro.throwUnsupported
|`(tactic|rw[$xs,*])=>do
  let e:=xs.getElems.map (·.raw[1])
  if e.size>0&&e[0]!.isIdent then let n:=e[0]!.getId; if let some f:=((TB n.toString).lookup n).orElse λ_=>(TC n.toString).lookup n then
    let b:=(←f (e.extract 1 e.size))[1]
    return ←`(tactic|($(⟨b⟩):tacticSeq))
  Lean.Macro.throwUnsupported
|`(#[$a,*])=>`(⟨$a,*⟩)
local macro_rules|`(tactic|simp $[only%$o]?[$x,*]$[$l]?)=>do let y:=⟨←sE x.elemsAndSeps⟩;`(tactic|simp $[only%$o]?[$y,*]$[$l]?)
namespace Ir
def R.bd{U J:[aH]}(r:R U)(f:[vE]):R J:=[Bo,r,[ab,a],f a S,S]
def fC(a:U)(S:aj)(f:[vE]):(R.ok a S).bd f=f a S:=(rfl)
def yh(c:Nat)(B:[al])(S:aj)(f:[vE]):(R.ex c B S).bd f=[iX,S]:=(rfl)
def an9(f:[vE]):R.bad.bd f=[aX]:=(rfl)
def bL{r:R _}{f g:[vE]}(h:∀a S,f a S=g a S):r.bd f=r.bd g:=by cases r<;>simp[R.bd,h]
def fF(G:M _)(f:U->M J)(S:aj):(G>>=f) S=[bV,G S,a,f a S]:=(rfl)
def AY(a:U)(S:aj):([ci,a]) S=[ab,a]:=(rfl)
def l3(a:U)(S:aj):[gX,aa a]=[ab,a]:=(rfl)
def alu(i:Int)(S:aj):bo [aQ] S=[ab,i]:=(rfl)
def aft(i:Bool)(S:aj):eP [bj,i] S=[ab,i]:=(rfl)
def aly(l:[al])(S:aj):fV [aW] S=[ab,l]:=(rfl)
def amc(S:aj):bH [aY] S=[ab,[aY]]:=(rfl)
def akP(i:Int)(S:aj):bH [aQ] S=[bS,i]:=(rfl)
def aoy(i:[h])(S:aj):bH [K,i] S=[ab,[K,i]]:=(rfl)
def ao8(l:[al])(S:aj):bH [aW] S=[ro]:=(rfl)
def aom(l:[al])(S:aj):[he,[eB]]:=(rfl)
def amv(l:[al])(S:aj):[he,.dU l]:=(rfl)
def alC(l:[al])(S:aj):[he,.b4 l]:=(rfl)
def akw(l:[h])(S:aj):[he,[b6]]:=(rfl)
def alf(l:[h])(S:aj):[he,[hv]]:=(rfl)
def alH(l:[h])(S:aj):[he,[jH]]:=(rfl)
def ow(e:Env)(i:Nat)(S:aj):R D:=[jM,e[i]?,aa [ie],[id]]
def al6(d:D)(e:Env)(S:aj):ow ([ie]::e) 0 S=[id]:=(rfl)
def ao7(d:Slot)(e:Env)(i:Nat)(S:aj):ow (d::e) [aa] S=[oQ]:=(rfl)
def pW(e:Env)(i:Nat)(S:aj):dh e i S=[oQ]:=by simp[dh,ow];rw[dG]
def gv(e:Env)(i:Nat)(S:aj):R D:=[jM,e[i]?,aa [g5],[id]]
def gr(e:Env)(i:Nat)(S:aj):R D:=[gh,e[i]?,aa [g5],[id],aa [ie],[id],[aX]]
def alS(d:D)(e:Env)(S:aj):gv ([g5]::e) 0 S=[id]:=(rfl)
def aoo(d:Slot)(e:Env)(i:Nat)(S:aj):gv (d::e) [aa] S=gv e i S:=(rfl)
def ak_(d:D)(e:Env)(S:aj):gr ([g5]::e) 0 S=[id]:=(rfl)
def alt(d:D)(e:Env)(S:aj):gr ([ie]::e) 0 S=[id]:=(rfl)
def anq(d:Slot)(e:Env)(i:Nat)(S:aj):gr (d::e) [aa] S=gr e i S:=(rfl)
def fl(d:D)(f:Nat)(S:aj):R D:=[jM,d,.obj _ l,[gX,eV l f]]
def aov(c:Nat)(l:[h])(f:Nat)(S:aj):fl [oI] f S=[gX,eV l f]:=(rfl)
def ald(p:Nat×D)(r:[h])(f:Nat):eV [eZ] f=[fc,[L],f,[Z],eV r f]:=(rfl)
def amt(f:Nat)(v:D):dV [] f v=[(f,v)]:=(rfl)
def amG(p:Nat×D)(r:[h])(f:Nat)(v:D):dV [eZ] f v=[Kc]:=(rfl)
def D.vh:[rz]|[aY]=>ae|_=>af
def aox:D.vh [aY]=ae:=(rfl)
def aob(i:[al]):D.vh [bw,i]=af:=(rfl)
section
variable(Z:bM)(a b c:Ex)(e:Env)(S:aj)(l:List Ex)
theorem e_c(d:D):[co,.c d]=[id]:=(rfl)
theorem Kn(i:Nat):[co,[g3]]=gv e i S:=by simp[ah,gv];rw[dG]
theorem e_g(k:Nat):[co,.g k]=[gX,Z.fw k]:=(rfl)
theorem aos:[hL,.add a b,[co,b],y,oz x y S]:=(rfl)
theorem anJ:[co,.sub a b]=[nF,[bS,x-y]]:=(rfl)
def mulR(x y:Int)(S:aj):R D:=[A,[Eu,x],[bS,x*y],[aX]]
def yd(x y:Int)(S:aj):R D:=[A,0<y/\y<2^64,[bS,x/y],[aX]]
def wR(x y:Int)(S:aj):R D:=[A,0<y,[bS,x%y],[aX]]
theorem apw:[co,.mul a b]=[nF,mulR x y S]:=by simp[ah];rw[a',x,x];rw[lD,mulR]
theorem apA:[co,.mT a b]=[nF,yd x y S]:=by simp[ah];rw[a',x,x];rw[a',y,y];rw[lD,yd]
theorem anZ:[co,.mod a b]=[nF,wR x y S]:=by rw[a',x,x];rw[a',y,y];rw[lD,wR]
theorem amI:[hL,.neg a,bo x S,x,[bS,-x]]:=(rfl)
theorem amD:[hL,.lt a b,[co,b],y,xO x y S]:=(rfl)
theorem alj:[co,.le a b]=[nF,[dU,ao (x<=y)]]:=(rfl)
theorem apy:[co,.gt a b]=[nF,[dU,ao (y<x)]]:=(rfl)
theorem alP:[co,.ge a b]=[nF,[dU,ao (y<=x)]]:=(rfl)
theorem aoe:[hL,.eq a b,[co,b],y,[bV,mQ x y S,r,[dU,r]]]:=(rfl)
theorem al8:[hL,.ne a b,[co,b],y,[bV,mQ x y S,r,[dU,! r]]]:=(rfl)
theorem alg:[kt,.kE a,[i5],[dU,x.vh]]:=by rw[bg,x];rw[bz,x]
theorem amM:[kt,.pV a,[i5],[dU,! x.vh]]:=by rw[bg,x];rw[bz,x]
def gW(Z:bM)(a:Ex)(e:Env)(S:aj):R D:=rd a e (ah Z a e) S
theorem aoL(i:Nat):[nl,[g3]]=gr e i S:=by simp[gW,rd,gr];rw[dG]
theorem ank(d:D):[nl,.c d]=[id]:=(rfl)
theorem alm(k:Nat):[nP,.g k]:=(rfl)
theorem akN(k:Nat):[nP,.av a k]:=(rfl)
theorem alp:[nP,.ix a b]:=(rfl)
theorem amm(f:Nat):[nl,[bZ,f,l]]=ah Z [bZ,f,l] e S:=(rfl)
theorem amT:[nP,[eB]]:=(rfl)
theorem ao1(I:Ex)(t:[h])(k:Nat)(it d:[h]):[nP,[yI]]:=(rfl)
theorem am1(k:Nat):[nP,.proj a k]:=(rfl)
theorem al2(o:B1):[nP,.b1 o a]:=(rfl)
theorem aoX(o:B2):[nP,.b2 o a b]:=(rfl)
theorem anA:[KS,.mem a b,r]:=(rfl)
theorem aoG:[KS,.ot a b,! r]:=(rfl)
theorem apR:[co,.pC a b c]=[nF,[A,x<=y,[eW,c,z,bo z S,z,[dU,ao (y<=z)]],[dU,af]]]:=by rw[a',x,x];rw[a',y,y];rw[bs]
theorem aoK:[hL,.and a b,eP x S,x,[ap,x,[eW,b,y,eP y S,y,[dU,y]],[dU,af]]]:=by rw[a',x,x];rw[bs]
theorem akF:[hL,.or a b,eP x S,x,[ap,x,[dU,ae],[eW,b,y,eP y S,y,[dU,y]]]]:=by rw[a',x,x];rw[bs]
theorem ao_:[hL,.not a,eP x S,x,[dU,! x]]:=(rfl)
theorem apb:[hL,.ite a b c,eP x S,x,[ap,x,[co,b],[co,c]]]:=[fN,ah,fF]
theorem an7:[kt,[eB],[lu],[ab,[bw,x]]]:=(rfl)
theorem ao5:[kt,[aW],[lu],[ab,[ax,x]]]:=(rfl)
theorem ano(t:Bool):[co,.i5 t]=[ab,[ap,t,.bZ [],[cf,[]]]]:=(rfl)
theorem an':[hL,.lD a b,[co,b],y,[nx,x.jv,[ab,.bZ [(x,y)]]]]:=by rw[bg,x];rw[bs]
theorem anp:[xN,.ix a b,[bV,bH x S,x,eu x y S]]:=(rfl)
theorem apd:[xN,.ko a b c,[fe,bo y S,y,[co,c],z,[Dm,z,aa y,aa z]]]:=(rfl)
theorem anB:[xN,.qI a b,[Dm,y,aa y,ag]]:=(rfl)
theorem aln:[xN,.l8 a b,[Dm,y,ag,aa y]]:=(rfl)
theorem apx(f:Nat):[hL,.av a f,bH x S,x,fl x f S]:=by rw[a',x,x];rw[bz,x]
theorem apm(f:Nat):ah Z [bZ,f,l] e S=[bV,[lu],x,Z.call f x S]:=(rfl)
def cv(Z:bM)(n:Nat)(x:D)(k:aj->R [al])(S:aj):R D:=[jM,x,[pz],[IJ]]
theorem anF(n f:Nat)(k:aj->R _):cv Z n [pz] k S=[IJ]:=(rfl)
theorem amn:[kt,.lh a l,[i5],cv Z [E] x (λS=>[lu]) S]:=by rw[bg,x];rw[cF,x];rw[lD,cv]
theorem an0(c:Nat):[kt,.new c l,[lu],newD Z c x S]:=(rfl)
theorem anY(c:Nat):[kt,.lS c l,[lu],gc (newD Z c x) S]:=(rfl)
theorem ao'(c f:Nat):[kt,.bG c a f l,[i5],[wd,lw c x S,[bV,[lu],y,Z.call f (x::y) S]]]:=(rfl)
theorem apr(o:B1):[co,.b1 o a]=[fe,[nl,a],x,bH x S,x,dk o x S]:=(rfl)
theorem aoZ(o:B2):[kt,.b2 o a b,[nl,a],[wd,tZ o x S,[eW,b,y,bH x S,x,jD o x y S]]]:=(rfl)
def g2(x y z:D)(S:aj):R D:=[gh,x,[b6],[r2,y.atom,l,z],[hv],[r2,y.jv,l,z],[aX]]
theorem apC(G:[h])(y z:D):g2 [cf,G] y z S=[r2,y.atom,G,z]:=(rfl)
theorem anS(G:[h])(y z:D):g2 (.bZ G) y z S=[r2,y.jv,G,z]:=(rfl)
theorem ape:[kt,.iU a b c,[nl,a],[wd,lC x S,[eW,b,y,[co,c],z,[bV,bH x S,x,g2 x y z S]]]]:=by rw[bg,x];(refine bL λ_ S=>?_);rw[a',y,z];rw[bg,x];rw[cF,x];all_goals(rw[lD,g2])
def kg(x:D)(k:aj->R D)(S:aj):R D:=[jM,x,[jH],[bV,k S,y,[r2,y.atom,l,[aY]]]]
theorem anD(G:[h])(k:aj->R D):kg (.du G) k S=[bV,k S,y,[r2,y.atom,G,[aY]]]:=(rfl)
theorem aoC:[kt,.qO a b,[i5],kg x (λS=>[co,b]) S]:=by rw[bg,x];rw[cF,x];rw[bg,y];rw[bs]
def turn (Z : bM) (I : Ex) (t : List Nat) (j : List Ex) (w : Env) (d : D) : M (Option D) := do
 let z ← bC (fX w t d)
 match j with
 | [] => do M.pure (aa (← ah Z I z))
 | c :: _ => do
  let b ← eP (← ci (ah Z c z))
  if b = ae then do M.pure (aa (← ah Z I z)) else M.pure ag
theorem anL(I:Ex)(t:[h])(k:Nat)(it d:[h]):[co,[yI]]=[fe,cD Z it e S,x,ez k x S,B,[bV,eJ (turn Z I t d (b6 e t)) B S,l,[ro]]]:=by simp[ah];rfl
theorem aoV(I:Ex)(t:[h])(w:Env)(d:D):turn Z I t [] w d S=[fe,[gX,fX w t d],z,ah Z I z S,x,[ab,aa x]]:=(rfl)
theorem ak9(I c:Ex)(t:[h])(w:Env)(d:D):turn Z I t [c] w d S=[fe,[gX,fX w t d],z,ci (ah Z c z) S,b,[bV,eP b S,b,[ap,b,[bV,ah Z I z S,x,[ab,aa x]],[ab,ag]]]]:=by rw[a',z,b];rw[bg,b];rw[bs]
theorem al9(k:Nat):[hL,.proj a k,bH x S,x,[fe,fV x S,l,[gX,cM (sM k) l],l,[ro]]]:=(rfl)
def sk(e:Env)(i:Nat)(n:Int)(S:aj):R D:=[jM,e[i]?,aa [bm,[aW]],[HI,[an,rs.length],[l,[an,j]]]]
theorem anb(i:Nat):[hL,.qS a i,bo x S,n,sk e i n S]:=by rw[a',x,n];simp[sk];cases h:e[i]? with|none=>rfl|some s=>rw[cF,s];rw[ax,d];rw[cF,d];rw[bg,rs];rw[bs]
theorem amL:cD Z [] e S=[ab,[]]:=(rfl)
theorem aof:cD Z (a::l) e S=[eW,a,x,[lu],G,[ab,x::G]]:=(rfl)
end
def amf(G:M U)(S:aj):ci G S=[K4]:=(rfl)
def al3(l:[h])(S:aj):lC [b6] S=[ic]:=(rfl)
def anV(l:[h])(S:aj):lC [hv] S=[ic]:=(rfl)
def zz(f:Flow)(k:Env->aj->[i4])(S:aj):[i4]:=[cZ,f,.nx e,k e S,f,[ab,f]]
def amx(e:Env)(k:Env->aj->R _)(S:aj):zz (.nx e) k S=k e S:=(rfl)
def anR(d:D)(k:Env->aj->R _)(S:aj):zz [ps] k S=[iz,d]:=(rfl)
def ao6(e:Env)(k:Env->aj->R _)(S:aj):zz (.bk e) k S=[ab,.bk e]:=(rfl)
section
variable(Z:bM)(a b c:Ex)(e:Env)(S:aj)(l:List Ex)
theorem ao9(G:M D):jz a G S=[gh,a,[yK],ci G S,[AC],ci G S,G S]:=[bz,a]
theorem anM(i:Nat):[dj,[cE,i,a]]=[bV,jz a (ah Z a e) S,d,[dy,[qi]]]:=(rfl)
theorem aoh(i:Nat):[dj,.own i a]=[bV,jz a (ah Z a e) S,d,[wc,a.fresh=ae/\u7 d=ae,d]]:=by rw[bg,d];rw[bs]
theorem ame(i:Nat)(s:Sm):[dj,.fz i s]=[bV,[oQ],d,bE Z s [qi] S]:=by simp[bE,fF,pW]
theorem amU(i:Nat):[dj,.inc i a]=[HO,x+y]:=[jL,Kn Z e S i]
theorem anI(i:Nat):[dj,.dec i a]=[HO,x-y]:=[jL,Kn Z e S i]
theorem akM(i:Nat):[dj,.mS i a b]=[FX,x+y]:=[jL,pW]
theorem al7(i:Nat):[dj,.pB i a b]=[FX,x-y]:=[jL,pW]
def po(e:Env)(i:Nat)(o x d:D)(S:aj):[i4]:=[gh,o,[b6],[wc,[jt]/\[lw],[cf,cB l x d]],[hv],[wc,x.jv=ae/\[lw],.bZ (cB l x d)],[aX]]
theorem anE(i:Nat)(G:[h])(x d:D):po e i [cf,G] x d S=[wc,[jt]/\[gq]<lim,[cf,cB G x d]]:=(rfl)
theorem aoW(i:Nat)(G:[h])(x d:D):po e i (.bZ G) x d S=[wc,x.jv=ae/\[gq]<lim,.bZ (cB G x d)]:=(rfl)
theorem amX(i:Nat):[dj,.jS i a b]=[eW,b,d,[oQ],o,[bV,[i5],x,po e i o x d S]]:=by simp[bE,fF,pW];rw[a',d,o];rw[bg,x];rw[cF,o];all_goals(rw[lD,po])
theorem akB(i:Nat):[DD,.d_ i a,[bV,[i5],d,[A,[lw],[wg,[t1,l++[d]]],[aX]]]]:=by rw[dX];(try rfl);rw[bs]
theorem amw(i:Nat):[DD,.ee i a,[eW,a,d,fV d S,x,[A,[E]+[eS]<=lim,[wg,[t1,l++x]],[aX]]]]:=by rw[dX];rw[a',d,x];rw[bs]
theorem amj(i:Nat):[DD,.qP i,[ap,l.isEmpty,[aX],[F4,[ax,[v']]]]]:=by rw[dX];rw[bs]
theorem apk:[dj,.ex a]=[wd,[i5],[dy,e]]:=(rfl)
theorem alY:[dj,[bl,a]]=[bV,ah Z a (e.map Slot.cb) S,d,[iz,d]]:=(rfl)
def NW:D->aj->[i4]|[hv],S=>[iz,.iY l]|_,_=>[aX]
theorem ama(l:[dk])(S:aj):NW [hv] S=[iz,.iY l]:=(rfl)
theorem an1(i:Nat):[dj,.pP i]=[bV,[oQ],o,NW o S]:=by rw[ac,bE,fF,pW];rw[bg,o];rw[bz,o]
def LP:D->aj->[i4]|[hv],S=>[DV]|_,_=>[aX]
theorem als(l:[dk])(S:aj):LP [hv] S=[DV]:=(rfl)
theorem akY(i:Nat):[dj,.oD i]=[bV,[oQ],o,LP o S]:=by rw[ac,bE,fF,pW];rw[bg,o];rw[bz,o]
theorem anO(x y:[h]):[dj,.iff a x y]=[eW,a,b,eP b S,b,[ap,b,bj Z x e S,bj Z y e S]]:=[fN,bE,fF]
theorem akW(t:[h])(k:Nat)(x:[h]):[dj,.cS t k l x]=[fe,[lu],B,ez k B S,B,cV [oJ,Z,x] t B e S]:=(rfl)
theorem aoP(x:[h]):[dj,.mh a x]=jT [wb,Z,a] [oJ,Z,x] Z.fuel e S:=(rfl)
theorem am2:[dj,.brk]=[ab,.bk e]:=(rfl)
theorem ale(c:Nat):[dj,.hW c l]=[bV,[lu],B,[nx,kB c B,[iX,S]]]:=(rfl)
def FO(Z:bM)(h:[fV])(e:Env)(r:[i4]):[i4]:=[cZ,r,[iX,p],pO Z h c B (e.map λ_=>Slot.un) p,r,r]
theorem apz(h:[h])(f:Flow):FO Z h e [ab,f]=[ab,f]:=(rfl)
theorem apj(h:[h])(k:Nat)(B:[al]):FO Z h e (.ex k B S)=pO Z h k B (e.map λ_=>Slot.un) S:=(rfl)
theorem amW(x h:[h]):[dj,.tr x h]=FO Z h e (bj Z x e S):=(rfl)
theorem P':bj Z [] e S=[dy,e]:=(rfl)
theorem Pr(s:Sm)(r:[h]):bj Z (s::r) e S=[bV,[dj,s],f,zz f (λe S=>bj Z r e S) S]:=by rw[bg,f];rw[bz,f]
theorem anz(n:Nat):fQ [m,n] S=[K5]:=(rfl)
theorem amK(l:[al]):iI [aW] S=[ro]:=(rfl)
theorem apg(l:[h]):iI [b6] S=[ab,[b6]]:=(rfl)
theorem anv(i:Nat):[dj,.mY i a]=[bV,[i5],d,[nx,a.fresh,[bV,iI d S,c,[dA,e.set i [c8,[ad]],S++[c]]]]]:=[lD,bE]
def fs(e:Env)(f:Nat)(d:D)(p:[rv])(S:aj):[i4]:=[H2,[m5],d]
theorem apc(f:Nat)(d:D)(n k:Nat)(l:[h]):fs e f d (n,[rm]) S=[A,[m5],[dA,e,[dm,n,.aW k (dV l f d)]],[aX]]:=(rfl)
theorem alM(f:Nat):[dj,.dv a f b]=[eW,b,d,[i5],x,[bV,fQ x S,p,fs e f d p S]]:=by rw[a',d,x];rw[bg,p];rw[cM];rename_i k l;simp[fs];rw[b,h,[m5]];{simp[h];rfl};{simp[h];rfl}
def Fk(e:Env)(f:Nat)(b:Ex)(d:D)(p:[rv])(S:aj):[i4]:=[jM,[Z],[rm],[GL,[L]]]
theorem apG(f:Nat)(d:D)(n k:Nat)(l:[h]):Fk e f b d (n,[rm]) S=[GL,n]:=(rfl)
theorem apI(f:Nat):[dj,.eO a f b]=[eW,b,d,[i5],x,[bV,fQ x S,p,Fk e f b d p S]]:=by rw[a',d,x];rw[bg,p];rw[cM];rw[lD,Fk]
def fi(Z:bM)(b:Ex)(e:Env)(f:Nat)(x:D)(p:[rv])(S:aj):[i4]:=[jM,[Z],.aW j l,[fe,[gX,eV l f],y,bo y S,y,[eW,b,z,bo z S,z,[bV,fQ x S,p,[H2,[m5]/\k=j,[l,y+z]]]]]]
theorem aps(f:Nat):[dj,.lq a f b]=[eW,a,x,fQ x S,p,fi Z b e f x p S]:=by rw[a',x,p];rw[cM];rename_i k l;rw[a',y,y];rw[a',z,z];rw[bg,p];rw[cM];rename_i q l;rw[b,h,[m5]/\q=k];{simp[h];rfl};{simp[h];rfl}
def pt(e:Env)(d x:D)(p:[rv])(S:aj):[i4]:=[gh,[Z],[b6],[IY,[L]],[aW],[HN,[L]],[aX]]
theorem alb(d x:D)(n:Nat)(l:[h]):pt e d x (n,[b6]) S=[IY,n]:=(rfl)
theorem anP(d x:D)(n:Nat)(l:[al]):pt e d x (n,[aW]) S=[HN,n]:=(rfl)
theorem akD:[dj,.put a b c]=[eW,c,d,[i5],r,[eW,b,x,fQ r S,p,pt e d x p S]]:=by rw[a',d,r];rw[a',x,p];rw[cM];rw[lD,pt]
def ap(e:Env)(d:D)(p:[rv])(S:aj):[i4]:=[jM,[Z],[aW],[KP,[L]]]
theorem amq(d:D)(n:Nat)(l:[al]):ap e d (n,[aW]) S=[KP,n]:=(rfl)
theorem alN:[dj,.app a b]=[bV,[i5],r,[wd,rc r S,[eW,b,d,fQ r S,p,ap e d p S]]]:=by rw[bg,r];(refine bL λ_ S=>?_);rw[a',d,p];rw[cM];rw[lD,ap]
end
def cf(n:Nat):bM:=#[run prog n,prog.init,prog.fw,prog.fuel,prog.ar]
def wJ(n f:Nat)(B:[al]):(cf n).call f B=run prog n f B:=(rfl)
def am'(n k:Nat):(cf n).fw k=dI[k]?:=(rfl)
def anC(n:Nat):(cf n).fuel=20000:=(rfl)
def amz:[e7,0,40]:=(rfl)
def amY:[aR,dI,1,[y']]:=(rfl)
def ans:[aR,dI,2,[AN]]:=(rfl)
def alw:[aR,dI,3,[Bt]]:=(rfl)
def yu:[al]:=[Fn]
def aow:[aR,dI,4,.b4 yu]:=(rfl)
def ami:[e7,5,1]:=(rfl)
def alZ:[e7,6,2]:=(rfl)
def aog:[e7,7,3]:=(rfl)
def amp:[e7,8,4]:=(rfl)
def aoD:[e7,9,5]:=(rfl)
def apa:[e7,10,4]:=(rfl)
def alR:[e7,11,8]:=(rfl)
def al':[e7,12,3]:=(rfl)
def akJ:[e7,13,5]:=(rfl)
def anj:[e7,14,5]:=(rfl)
def ak4:[e7,15,10000000]:=(rfl)
def an4:[e7,16,10000]:=(rfl)
def anW:[e7,17,10000]:=(rfl)
def Pe:[dk]:=[Fr]
def ao2:[aR,dI,18,.du Pe]:=(rfl)
def ak':[e7,19,3]:=(rfl)
def am5:[e7,20,2000]:=(rfl)
def amC:[e7,21,20]:=(rfl)
def Aw:[dk]:=[GB]
def anf:[aR,dI,22,.du Aw]:=(rfl)
def anw:[e7,23,9]:=(rfl)
def anx:[e7,24,1000000000000]:=(rfl)
def ak5:[e7,25,1000000]:=(rfl)
def JW:[dk]:=[Fu]
def ak1:[aR,dI,26,.du JW]:=(rfl)
def aU(n:Nat)(S:aj)(h:[aR,fns,f,F])(x:F.sc=af)(U:[bu]=F.np):run prog [aw] f B S=jV (cf n) F B S:=[GC]
def GA(n:Nat)(S:aj)(h:[aR,fns,f,F])(x:F.sc=ae)(U:[bu]=F.np):run prog [aw] f B S=gc (jV (cf n) F B) S:=[GC]
def oW(f:Flow)(S:aj):R D:=match f with|[ps]=>[id]|.nx _=>[ab,[aY]]|.bk _=>[aX]
def alx(d:D)(S:aj):oW [ps] S=[id]:=(rfl)
def aoR(e:Env)(S:aj):oW (.nx e) S=[ab,[aY]]:=(rfl)
def an5(Z:bM)(F:Fn)(B:[al])(S:aj):jV Z F B S=(bj Z F.body ([eD,Slot.val]++fH (F.ns-F.np) Slot.un) S).bd oW:=by rw[bg,f];rw[bz,f]
def anr(d:D):Slot.cb [g5]=[g5]:=(rfl)
def amb(d:D):Slot.cb [ie]=[g5]:=(rfl)
def akX:Slot.cb [W]=[W]:=(rfl)
def alO(e:Env)(i:Nat)(d:D):fX e [i] d=aa [qi]:=(rfl)
def aol(e:Env)(i j:Nat)(x y:D):fX e [i,j] [kz]=[J1]:=(rfl)
def akz(e:Env):b6 e []=e:=(rfl)
def alG(e:Env)(i:Nat)(r:[h]):b6 e (i::r)=(b6 e r).set i [W]:=(rfl)
def apB(i j:Int)(S:aj):oz [aQ] [c2] S=[bS,i+j]:=(rfl)
def an2(i j:Int)(S:aj):xO [aQ] [c2] S=[dU,ao (i<j)]:=(rfl)
def apS(i j:Int)(S:aj):mQ [aQ] [c2] S=[ab,i==j]:=(rfl)
def ant(i j:[h])(S:aj):mQ [K,i] [K,j] S=[ab,i==j]:=(rfl)
def ak8(l:[al])(i:Int)(S:aj):[yb,[aW]]:=(rfl)
def aoY(l:[al])(i:Int)(S:aj):[yb,[eB]]:=(rfl)
def akO(l:[al])(i:Int)(S:aj):[yb,.b4 l]:=(rfl)
def aoi(l:[al])(i:Int)(S:aj):[yb,.dU l]:=(rfl)
def an6(l:[al])(S:aj):[vp,[aW],[E]]:=(rfl)
def am6(l:[al])(S:aj):[vp,.dU l,[E]]:=(rfl)
def alq(l:[al])(S:aj):dk [l0] [aW] S=[ro]:=(rfl)
def amo(l:[al])(S:aj):dk .tuple [aW] S=[ab,[eB]]:=(rfl)
def amA(l:[h])(S:aj):dk .dict [b6] S=[ab,[b6]]:=(rfl)
def alV(l:[al])(S:aj):[zL,.sum,eQ l,[bS,x.sum]]:=(rfl)
def apo(l:[al])(S:aj):[zL,.any,oR l,[dU,x.any id]]:=(rfl)
def akC(l:[al])(S:aj):[zL,.all,oR l,[dU,x.all id]]:=(rfl)
def amy(i j:Int)(S:aj):jD .min [aQ] [c2] S=[bS,ek i j]:=(rfl)
def al4(i j:Int)(S:aj):jD .max [aQ] [c2] S=[bS,fk i j]:=(rfl)
def aon(d:D)(S:aj):tZ .min d S=[ic]:=(rfl)
def ams(d:D)(S:aj):tZ .max d S=[ic]:=(rfl)
def alD(s:[h])(S:aj):tZ [nr] [db] S=[ic]:=(rfl)
def anT(s:[h])(S:aj):tZ .join [db] S=[ic]:=(rfl)
def aoH(l:[al])(S:aj):[np,0,[aW],l]:=(rfl)
def aoS(l:[al])(S:aj):[np,0,[eB],l]:=(rfl)
def xn(n:Int)(S:aj):R [al]:=[A,-[ko]<=n/\n<=lim,[ab,[jA,[fw],[l,[an,i]]]],[aX]]
def akQ(n:Int)(S:aj):ez 1 [[dn]] S=xn n S:=by show [ES];unfold xn;rw[bs]
def vp(n:Nat)(S:aj)(h:n<=16777216):xn n S=[ab,[jA,n,[aQ]]]:=by unfold xn;rw[a_,aJ #[[g],[fu]]]
def ak2(l:[al])(S:aj):[np,3,[aW],[rT,[Z]]]:=(rfl)
def alE(l:[al])(S:aj):[np,4,[aW],[rT,[Z]+1]]:=(rfl)
def GS(l:[dk])(S:aj):[np,6,.iY l,[pn,[n1]]]:=(rfl)
def A3(a b:Int)(S:aj):R [al]:=[A,[uz,a]/\[uz,b]/\b-a<=lim,[ab,[Eh,[an,i]]],[aX]]
def alI(a b:Int)(S:aj):ez 2 [nJ,a,b] S=A3 a b S:=by show [ES];unfold A3;rw[bs]
def Fi(a b:Int)(S:aj)(h0:-1000<=a)(m:a<=16777216)(u:-1000<=b)(q:b<=16776000):A3 a b S=[ab,[Eh,i]]:=[dV,A3,aJ #[[Az],[Az],[fu]]]
def anN(a b:[al])(S:aj):ez 5 [[ax,a],[ax,b]] S=[ab,[Eo]]:=(rfl)
def afV{U:[aH]}(E:U->Env){J:[aH]}(C:J->D)(f:U->J->U)(l:[h])(a:U)(H:∀a x,x∈l->[Id]):[uU,E a,E [g6,f,a]]:=by induction l generalizing a with|nil=>rfl|cons x r q=>rw[K,z,m,u,H a x (by simp)];rw[dW];rw[bb]
def XX{U:[aH]}(P:U->[P])(E:U->Env){J:[aH]}(C:J->D)(f:U->J->U)(l:[h])(a:U)(h0:P a)(H:∀a x,P a->x∈l->P (f a x)/\[Id]):[uU,E a,E [g6,f,a]]:=by induction l generalizing a with|nil=>rfl|cons x r O=>rw[ag,q,z,m,u,H a x h0 (by simp)];rw[dW];exact O _ q λa y h L=>H a y h [o3]
def yb{U:[aH]}(E:U->Env->[P]){J:[aH]}(C:J->D)(f:U->J->U)(l:[h])(a:U)(e:Env)(h0:E a e)(H:∀a x e,E a e->x∈l->∃q z,fX e t (C x)=aa q/\b q S=[dy,z]/\E (f a x) z):∃d,[uU,e,d]/\E [g6,f,a] d:=by induction l generalizing a e with|nil=>exact#[e,Y,h0]|cons x r O=>rw[ab,q,z,m,u,h,H a x e h0 (by simp)];rw[aX,bT,cV,m,fF,l3,fC,u];exact O _ _ h λa y e L W=>H a y e L [f]
def km{J:[aH]}(C:J->D)(l:[h])(E:Nat->Env->[P])(e:Env)(h0:E 0 e)(H:∀i x e,([cT,l])->E i e->∃z q,fX e t (C x)=aa z/\b z S=[dy,q]/\E [aa] q):∃d,[uU,e,d]/\E [E] d:=by induction l generalizing E e with|nil=>exact#[e,Y,h0]|cons x r U=>rw[ab,z,q,m,u,h,H 0 x e Y h0];rw[dW];exact U _ _ h λi y e L O=>H [aa] y e L O
def dF{J:[aH]}(C:J->D)(g:J->D)(l:[h])(H:[gy,f (C x) S=[ab,aa (g x)]]):eJ f [aT,C] S=[ab,[aT,g]]:=by induction l with|nil=>rfl|cons x r q=>simp[bT,eJ,fF,H x (by simp),fC,q [f],AY]
def sS{J:[aH]}(C:J->D)(p:J->Bool)(g:J->D)(l:[h])(H:[gy,f (C x) S=[ab,[ap,p x,aa (g x),ag]]]):eJ f [aT,C] S=[ab,[R,l.filter p,g]]:=by induction l with|nil=>rfl|cons x r q=>simp[bT,eJ,fF,H x (by simp),fC,q [f],AY];grind
def pK(l:[gw])(i:Nat):[rc]=l[i]?:=[fN,at_,place]
def jC(a b:Nat)(S:aj)(h:a<1152921504606846976):mulR a b S=[bS,[bd,a*b]]:=[b_,mulR]
def AE(a b:Nat)(S:aj)(h0:0<b)(h:b<1152921504606846976):yd a b S=[bS,[bd,a/b]]:=[b_,yd]
def B_(a b:Nat)(S:aj)(h0:0<b):wR a b S=[bS,[bd,a%b]]:=[b_,wR]
def apF(p:[P]) [Decidable p]:(ao p=ae)=p:=by simp
def akx{U:[aH]}(a b:U)(l:[h]):(a::l).set 0 b=b::l:=(rfl)
def an_{U:[aH]}(a b:U)(l:[h])(n:Nat):(a::l).set [aw] b=a::l.set n b:=(rfl)
def apE{U J:[aH]}(f:U->J)(a:U)(l:[h]):[R,a::l,f]=f a::[g2]:=(rfl)
def apM{U J:[aH]}(f:U->J):[R,[],f]=[]:=(rfl)
def anH{U:[aH]}(a:U)(l G:[h]):(a::l)++G=a::(l++G):=(rfl)
def aoJ{U:[aH]}(l:[gw]):[]++l=l:=(rfl)
def aoq{U:[aH]}(n:Nat)(a:U):fH [aw] a=a::fH n a:=(rfl)
def aoB{U:[aH]}(a:U):fH 0 a=[]:=(rfl)
def al_{U:[aH]}(a:U)(l:[h]):[Q,a::l]=[E]+1:=(rfl)
def amZ{U:[aH]}:[Q,([]:[gw])]=0:=(rfl)
def aop:(af=ae)=False:=by simp
def akV:(! ae)=af:=(rfl)
def ao3:[a3,! af]:=(rfl)
def alU(l:[h]):[qI,[aW]]:=(rfl)
def anG(l:Bool):[qI,.i5 l]:=(rfl)
def alA(a b:Ex):[qI,.lD a b]:=(rfl)
def apK(I:Ex)(t:[h])(k:Nat)(it d:[h]):[qI,[yI]]:=(rfl)
def alJ(a:Ex):[qI,.b1 [l0] a]:=(rfl)
def al1(a:Ex):[qI,.b1 .dict a]:=(rfl)
def amg(a b:Ex):[qI,.b2 [nr] a b]:=(rfl)
def aph(l:[al]):u7 [aW]=ae:=(rfl)
def apQ(l:[h]):u7 [b6]=ae:=(rfl)
def anl(l:[h]):u7 [hv]=ae:=(rfl)
def alo(p:[P]):(True/\p)=p:=by simp
def akK(p:[P]):(p/\True)=p:=by simp
def alz(i:Int):D.atom [aQ]=ae:=(rfl)
def apq(i:[h]):D.atom [K,i]=ae:=(rfl)
def aoE(l:[al]):D.jv [eB]=l.all D.atom:=(rfl)
def getD_some{U:[aH]}(a b:U):(aa a).getD b=a:=(rfl)
def getD_none{U:[aH]}(b:U):ag.getD b=b:=(rfl)
def OU(x:U)(l:[h]):at_ [gB] 0=aa x:=pK _ 0
def apn(x y:U)(l:[h]):at_ (x::y::l) 1=aa y:=pK _ 1
def amd(x y z:U)(l:[h]):at_ (x::y::z::l) 2=aa z:=pK _ 2
def apl(x y z w:U)(l:[h]):at_ (x::y::z::w::l) 3=aa w:=pK _ 3
def GW(l:[gw]):at_ l (-1)=l.getLast?:=by rw[Y,at_,place];cases l with|nil=>rfl|cons x r=>have h:-[an,[Q,[bp]]]<=-1:=[f];rw[aw [g],aJ h];rw[Y,ub,List.getLast?_eq_getElem?];rw[bu];omega
def AG(l:[h]):eQ [oF]=aa l:=[xj,eQ]
def Rm{U:[aH]}(f:U->Int)(l:[h]):eQ [iE,[l,f x]]=aa [g2]:=[xj,eQ]
def api{U:[aH]}(f:U->Bool)(l:[h]):oR [iE,[bj,f x]]=aa [g2]:=[xj,oR]
def L4{U:[aH]}(f:U->[h])(l:[h]):pF [iE,[K,f x]]=aa [g2]:=[xj,pF]
open Vbmoad
def sg(c:Int):Nat:=[A,[rL],c.toNat,63]
def tx(t:cK):[aj]:=t.map sg
def nD(n:Nat):D:=[l,[kO]]
def pD(p:[gj]):D:=[iw,[L],[Z]]
def eR(s:uc):D:=[iw,[gt],[nt]]
def fD:([bg,[gj]])->D|ag=>[aY]|aa p=>pD p
def mr(l:[aj]):[aj]:=[R,pq [aT,SH],Int.toNat]
def me(x:o0):D:=[iw,x.rule,x.unit]
def eh(x:Tax):D:=.obj 0 [Hi]
def cH(x:dY):D:=.obj 1 [GM,[X,x.volume.map eR],[X,[zz]]]
def dn(x:io):D:=.obj 2 [xJ,[Af]]
def ec(x:j_):D:=.obj 3 [Gj]
def ax(nm st:[dk])(b:a7):D:=.obj 4 [(16,[cf,nm]),(17,[Ab]),(18,[X,[so]]),(19,[vs]),(20,[X,[ka,ec]]),(21,[X,[oq,pD]]),(22,[cf,st])]
section
variable(S:aj)(x:Tax)(y:dY)(z:io)(c:j_)(nm st:List (D×D))(b:a7)
theorem alc:[he,eh x]:=(rfl)
theorem al5:[he,cH y]:=(rfl)
theorem al0:[he,dn z]:=(rfl)
theorem anU:[he,ec c]:=(rfl)
theorem amr:bH [b8] S=[ab,[b8]]:=(rfl)
theorem amH:[fv,eh x,0,[je]]:=(rfl)
theorem alK:[pC,eh x,1,x.rate]:=(rfl)
theorem apP:fl (eh x) 2 S=[dU,! x.within]:=(rfl)
theorem anX:[pC,eh x,3,x.over]:=(rfl)
theorem amR:[fv,cH y,0,[eV,y.name]]:=(rfl)
theorem aoa:[pC,cH y,4,y.price]:=(rfl)
theorem ao0:[fv,cH y,5,[X,y.taxes.map nD]]:=(rfl)
theorem am8:[fv,cH y,6,[jg,mr y.taxes]]:=(rfl)
theorem apL:[fv,cH y,7,[X,y.volume.map eR]]:=(rfl)
theorem akI:[fv,cH y,8,[X,y.steps.map eR]]:=(rfl)
theorem aor:[fv,cH y,9,fD y.free]:=(rfl)
theorem am7:[fv,dn z,0,[eV,z.name]]:=(rfl)
theorem ang:[pC,dn z,4,z.price]:=(rfl)
theorem amk:[fv,dn z,10,[X,z.parts.map pD]]:=(rfl)
theorem amu:[fv,ec c,0,[eV,c.name]]:=(rfl)
theorem akE:[fv,ec c,11,[wM,c.share]]:=(rfl)
theorem amF:[pC,ec c,12,c.value]:=(rfl)
theorem alk:[pC,ec c,13,c.item]:=(rfl)
theorem amh:[pC,ec c,14,c.cap.getD 0]:=(rfl)
theorem aou:[pC,ec c,15,[lR]]:=(rfl)
theorem alF:[fv,[b8],16,[cf,nm]]:=(rfl)
theorem ak3:[fv,[b8],17,[Ab]]:=(rfl)
theorem aot:[fv,[b8],18,[X,[so]]]:=(rfl)
theorem ak0:[fv,[b8],19,[vs]]:=(rfl)
theorem aoN:[fv,[b8],20,[X,[ka,ec]]]:=(rfl)
theorem akT:[fv,[b8],21,[X,[oq,pD]]]:=(rfl)
theorem aoT:[fv,[b8],22,[cf,st]]:=(rfl)
end
structure m2 (x : dY) : Prop where
 price : x.price ≤ 10000000
 f' : ∀ s ∈ x.volume, s.from_ ≤ 40 ∧ s.price ≤ 10000000
 step : ∀ s ∈ x.steps, s.from_ ≤ 40 ∧ s.price ≤ 10000000
 one : x.volume = [] ∨ x.steps = []
 free : ∀ f, x.free = aa f → 1 ≤ f.1 ∧ f.1 < f.2 ∧ f.2 ≤ 40
def Dt(x:dY)(n:Nat):[kH]<=n:=[b2,jG]
def aev(h:a<=b)(J:0<b):n/b*a<=n:=by rw[ah,m,Nat.div_mul_le_self n b,u,n/b*a<=n/b*b,rJ _ h];omega
def G7(L:m2 x)(n k:Nat)(U:n<=40)(S:aj):[iG,1,0,[vN],[kH]]:=by rw[[eL]];simp[f0];cases h:x.free with|none=>rw[bi,fD,jG,h]|some f=>rw[K,m,u,e,L.free f h];have q:0<[gx]:=[g];rw[ah,O,aev (n:=n) (yQ u) q,W,[lV]<=n,SI _ _];rw[aX,seval,fD,pD,jG,h,[Fd],[oC,[lV]]];grind
def sZ(p n:Nat)(l:List uc):Nat:=[g6,λp s=>[A,[gt]<=n,s.price,p],p]
def Ly(p n:Nat)(l:[h]):sZ p n l=[gp,(l.filter λs=>ao ([gt]<=n)).getLast?,s,s.price,p]:=by induction l generalizing p with|nil=>rfl|cons s r q=>simp only[sZ,nE]at*;rw[q];rw[b,h,[gt]<=n];{rw[aB,h,ud,List.getLast?_cons,iK,bI];rw[bz,(aif _ r).getLast?]};{simp[h]}
def ae8(x:dY)(n:Nat):sZ [ea] n x.volume=rK x n:=Ly ..
def UZ(x:dY)(n:Nat):sZ [ea] n x.steps=qo x n:=Ly ..
def Ko(l:[h])(n k:Nat)(S:aj):[iG,1,1,[cH x,[dN,eR],[dn]],sZ [ea] n l]:=by rw[[eL]];simp[seval,f1];rw[afV [aF,[[cc],[cc],[cc],[ay,[L]],[ak,p],[aE,p]]] _ (λp s=>([A,[gt]<=n,s.price,[L]],[ay,[gt]],[ay,[nt]])) l (x.price,[W],[W]) (λa s e=>#[_,Y,by simp[seval,Ib];rw[cS,[gt]<=n]])];simp[seval];rw[bG,∀(l:[h])(a:Nat×Slot×Slot),[M,[g6,λp s=>([A,[gt]<=n,s.price,[L]],Slot.val [cC,[gt]],Slot.val [cC,[nt]]),a]]=sZ a.1 n l,by intro l;induction l with|nil=>intro a;rfl|cons s r q=>intro a;simp[nE,q,sZ]]
def qK(x:dY)(p:Nat):[aj]:=[ap,[u2],fH p (rK x p),[gz,p,i,qo x [aa]]]
def MD(n k:Nat)(U:n<=40)(S:aj):[dX,2,2,[vN],qK x n,nD]:=by rw[[ck]];simp[f2];rw[b,h,x.steps=[]];{rw[b0,h,qK,aig,Ko,vp n S [g]];rw[dF _ (λ_=>[cC,rK x n]) _ (λi e=>by simp[seval,ae8])];rw[eq];congr 2;rw[List.map_replicate,List.eq_replicate_iff];simp[nD]};{rw[aj,m,¬[Q,[zz]]=0,[f],u,[an,0]<[Q,[zz]],[g],q,[u2]=af,[f]];rw[aB,seval,u,qK,q,Fi 1 [aw] S _ _ [g] [g]];have L:[hj,[kO]+1-1]=n:=[g];rw[L,[oe,i,nD (qo x [aa]),e,by have:1+i=[cP,[aa]]:=[g];rw[b',this,Ko,UZ,nD]]];simp[cq];rfl}
def oU(l:[h]):eQ [nq]=aa [aT,[od,n]]:=by exact Rm ..
def mP(l:[h]):[aT,[od,n]].sum=aH l:=by induction l with|nil=>rfl|cons a r q=>simp[bT,aih,q,aH,jH,Ic]
def WZ(n a:Nat):aH (fH n a)=n*a:=by induction n with|zero=>simp[aH]|succ n q=>simp[aH]at*;grind
def YL(x:dY)(p:Nat):aH (qK x p)=[ap,[u2],p*rK x p,aH [gz,p,i,qo x [aa]]]:=by unfold qK;split;{exact WZ ..};rfl
def Af(L:m2 x)(n k:Nat)(q:n<=40)(S:aj):[iG,3,3,[vN],kL x n]:=by rw[[ck]];have h:=Dt x n;rw[aX,seval,f3,G7 L n _ q,MD [kH] k [g],oU,mP,YL];rfl
def ZI(L:m2 x)(n j k:Nat)(z:n<=40)(J:j<=40)(S:aj):[cO,1,4,[ei,cH x,n,j],[bj,i_ x n j]]:=by rw[[eL]];simp[f4];cases h:x.free with|none=>rw[bi,fD,i_,h]|some f=>rw[K,m,u,e,L.free f h];rw[D,q,0<[gx],[g],O,[lV]<=n,SI _ _];simp only[seval,fD,pD,i_,h,[Fd],[oC,[lV]],B_ j _ _ q,SJ];rw[b,P,j<[lV]*[gx]];{rw[au,seval,P,iK,kM];rw[<-aii [f]];rw[aa,Ib]};{rw[bi,P,ka,nF]}
def adx(x:dY)(p i:Nat)(h:i<p):[aZ,qK x p,[ap,[u2],rK x p,qo x [aa]]]:=[b_,qK]
def cnt(p:[gN]):Nat->Nat|0=>0|[aw]=>cnt p n+[ap,p n,1,0]
def Vq(p:[gN])(h:i<=n):cnt p i<=cnt p n:=by induction n with|zero=>grind|succ n q=>rw[bo,m,i=[aw]];{rw[eG,cnt]}
def Qs(h:∀i<n,p i=q i):cnt p n=cnt q n:=by induction n with|zero=>rfl|succ n e=>simp[cnt,e [f],h n [g]]
def Y0(G f:Nat)(h:f<=G)(q b:Nat)(J:b<=G):cnt [sd,G-f<=j%G] (q*G+b)=q*f+(b-(G-f)):=by induction q generalizing b with|zero=>(induction b with|zero=>simp[cnt]|succ b m=>have:=m [g];(have e:(0*G+b)%G=b:=by rw[Nat.zero_mul,kN,aij [g]]);rw[<-SK];rw[b2,cnt])|succ q a=>induction b with|zero=>rw[ch,a G (by simp)]|succ b m=>have:=m [g];(have e:((q+1)*G+b)%G=b:=by rw[aik,Nat.add_mul_mod_self_right,aij [g]]);rw[hX,cnt]
def Ro(p:[gN])(a b:Nat)(h:∀i,a<=i->p i=af):cnt p (a+b)=cnt p a:=by induction b with|zero=>rfl|succ b q=>rw[<-SK];rw[gv,cnt,q,h (a+b) [g]]
def UV(L:m2 x)(n:Nat):n-cnt [tI] n=[kH]:=by cases h:x.free with|none=>(have:cnt [tI] n=cnt (λ_=>af) n:=Qs λi _=>by simp[i_,h]);rw[bk,u,Ro (λ_=>af) 0 n (by simp),kN,u];rw[this,u];simp[jG,h,cnt]|some f=>rw[K,m,u,e,L.free f h];rw[aj,z,n=[lV]*[gx]+n% [gx],[q,nG,[dI,Cw n _]],a,cnt [tI] ([lV]*[gx]+n% [gx])=cnt _ _,Ro _ _ _ λi q=>[b2,i_],B,cnt [tI] ([lV]*[gx])=cnt [sd,[gx]-f.1<=j% [gx]] _,Qs λi q=>by simp[i_,h,q,iK,kM]];rw[ah,d,Y0 [gx] f.1 [g] [lV] 0 [g],I,cnt [tI] n=[lV]*f.1,[f]];rw[I];simp[jG,h]
def abD(p:[gN])(n:Nat):cnt (λi=>! p i) n+cnt p n=n:=by induction n with|zero=>rfl|succ n q=>rw[b2,cnt]
def En(E:Nat->Env):∀(l:[al])(k:Nat),(∀i d,([aZ,l,d])->∃e,fX (E (k+i)) t d=aa e/\b e S=[dy,E (k+i+1)])->cV b t l (E k) S=[dy,E (k+[E])]|[],k,_=>rfl|d::r,k,H=>by rw[K,e,m,u,H 0 d Y];rw[SL]at m u;simp[cV,m,fF,l3,fC,u];rw[ch,En (b:=b) (t:=t) (S:=S) E r [ao] λi d hd=>[ch,H [aa] d hd]]
def j1(x:dY)(n i:Nat):Nat×[aj]:=(br i).foldl (λ(a:Nat×[aj])j=>[Gn,j,a.1,a]) (0,[])
def GO(x:dY)(n i:Nat):j1 x n [aa]=[Gn,i,[M,[pe]],[pe]]:=by unfold j1;rw[aV,ue,yR]
def aau(x:dY)(n i:Nat):[M,[pe]]=cnt (λj=>! i_ x n j) i/\[Q,[bq,[pe]]]=i:=by induction i with|zero=>rw[aW,Y]|succ i q=>rw[GO];cases h:i_ x n i<;>simp[cnt,q,h]
def Zp(L:m2 x)(n k:Nat)(m:n<=40)(S:aj):[dX,3,5,[vN],SM x n,nD]:=by rw[[ck]];have h:=Dt x n;rw[eR,f5,G7 L n _ m,MD [kH] k [g],vp n S [g]];have:=En (b:=[fg,2,[G1]]) (t:=[5]) (S:=S) (λi=>[[oL],[ay,n],[cb,[hu,qK x [kH]]],[bn,[hu,[bq,[pe]]]],[ay,[M,[pe]]],[EX,[bd,[cB]]]]) [jA,n,[cC,i]] 0 (λi d hd=>by rw[fb];simp[uf,kN];refine [Ac];rw[bj,O,U,aau x n i,q,[iQ,[da,[bq,[pe]]]],by rw[aR];rw[fu]];rw[Y,seval,ZI L n i _ m [g]];cases J:i_ x n i with|true=>rw[b0,q,GO,J,de,nD]|false=>rw[R,B,abD [tI] n,I,UV L n];have a:=Vq (λj=>! i_ x n j) [gf,[aa]<=n];rw[aI,cnt,a];have hu:[M,[pe]]<[kH]:=[f];simp only[seval,q,GO,J,de,pK,dQ,adx x _ _ hu];rfl);simp[kN,aR,gY]at this;rw[[iP,[M,j1 x n 0]=0],[iP,[bq,j1 x n 0]=[]]]at this;rw[aI,seval,this];rw[a_,this]
def X8(L:m2 x)(n k:Nat)(q:n<=40)(S:aj):[cO,4,6,[vN],[ax,[nJ,Ie x n,kL x (Ie x n)]]]:=by rw[[ck]];rw[bi,f6,Af L n k q,Fi [aw] _ S [g] [g] _ _];let B:=λj=>(br j).foldl (λp i=>[A,kL x (n+i)<kL x p,n+i,p]) n;rw[aj,f,∀j,B [cU]=[A,kL x (n+j)<kL x (B j),n+j,B j],λj=>by simp[B,ue,yR,nE,List.foldl_nil],m,B 1=n,[f],O,[hj,41-([kO]+1)]=40-n,[g]];rw[O];have:=En (b:=[fg,3,[Hg]]) (t:=[4]) (S:=S) (λi=>[[oL],[ay,n],[ay,B [aa]],[ay,kL x (B [aa])],[EX,[bd,n+i]],[EX,kL x (n+i)]]) [jA,40-n,[cC,[aw]+i]] 0 (λi d hd=>by rw[fb];rw[Y,uf,kN];refine [Ac];rw[ak,e,[aw]+i=[cP,n+[aa]],[g],e];rw[au,seval,Af L (n+[aa]) k [g],SJ,f [aa]];rw[cS,kL x (n+[aa])<kL x (B [aa])]);simp[seval,kN,aR,gY,m]at this;rw[this];rw[eq];rw[ak,e,B (40-n+1)=Ie x n,[fN,Ie,el],e]
def lp(rs:[a4])(i j:Nat):[P]:=[fK,j]<[fK,i]\/([fK,j]=[fK,i]/\i<j)
instance(rs:[a4])(i j:Nat):Decidable (lp rs i j):=by unfold lp;infer_instance
def Gz{rs:[a4]}{i j k:Nat}(h:lp rs i j)(x:lp rs j k):lp rs i k:=by unfold lp at*;omega
def GI{rs:[a4]}{i:Nat}:¬lp rs i i:=by unfold lp;omega
def Q7{rs:[a4]}{i x:Nat}:∀{L:[aj]},x∈lb rs i L↔x=i\/x∈L|[]=>by simp[lb]|j::r=>by rw[aa,lb];split;{simp};{rw[Y,bX,Q7 (L:=r)];rw[a8];{rintro(h|h|h)<;>simp[h]};{rintro(h|h|h)<;>simp[h]}}
def RR{rs:[a4]}{i:Nat}:∀(L:[aj]),(lb rs i L).Perm (i::L)|[]=>by simp[lb]|j::r=>by rw[aa,lb];split;rw[aq,SN _,[cy,(RR r).cons j,List.Perm.swap ..]]
def MG{rs:[a4]}{i:Nat}:∀{l:[aj]},i∉l->[Cd,lp rs,lb rs i l]|[],_,_=>by simp[lb]|j::r,q,h=>by rw[aO,bX,ug,q];rw[kO]at h;rw[aa,lb];split;{rw[ax,O];rw[ak,H,lp rs i j,by unfold lp;omega,kO];rw[a3,[gJ],kO.mpr h];rw[d_,[c4,L],rfl,L,H,Gz H (h.1 x L)]};{rw[ax,O];rw[cm,kO,#[[gJ],MG q.2 [cW]]];rw[aJ,Q7.mp L,rfl,L];{unfold lp;omega};{exact h.1 x L}}
def Pq(rs:[a4]):∀(l:[aj]),l.Nodup->[JA,l.foldr (lb rs) [],l]|[],_=>#[Ig,SN _]|i::r,h=>by rw[ap,mx,h,m,u,Pq rs r [cW]];rw[aa,jH];rw[aQ,MG (λq=>h.1 (u.mem_iff.mp q)) m,[cy,RR _,u.cons i]]
def xU(rs:[a4]):[JA,iH rs,br [fM]]:=Pq rs _ SO
def PX:∀{l:[h]},l.Pairwise (lp rs)->∀{k i},([aR,l,k,i])->[Q,l.filter [sd,lp rs j i]]=k|[],_,_,_,h=>[f]|a::t,q,0,i,h=>by simp[rL,cX]at h;subst h;rw[kO]at q;rw[uh,Cy];intro x L;simp[dZ];rw[d_,[c4,L],rfl,L,GI,λO=>GI (Gz O (q.1 x L))]|a::t,q,[ao],i,h=>by rw[kO]at q;have:=q.1 i (cG h);simp[ud,this,iK,bI,b7,PX q.2 h]
def Kq:∀{L:[aj]},L.Nodup->∀{k i}(G:Nat),([aR,L,k,i])->(L.take G).count i=[A,k<G,1,0]|[],_,_,_,_,h=>[f]|a::t,q,k,i,0,h=>rfl|a::t,q,0,i,G+1,h=>by rw[aI,rL,h];rw[mx]at q;rw[bG,(t.take G).count a=0,List.count_eq_zero.mpr [f]]|a::t,q,[ao],i,G+1,h=>by rw[mx]at q;have u:¬a=i:=λe=>q.1 (e▸cG h);simp[ail,List.count_cons,Kq q.2 G h,ip,u,b8,SL,Nat.add_lt_add_iff_right]
def WB(rs:[h])(i j:Nat):ao (lp (rs.map [od,n]) j i)=[Ia]:=by rw[ak,e,∀k,(rs.map [od,n]).getD k 0=[fK,k],λk=>[f],gZ];simp only[lp,e,dZ,kP,aF,ip];omega
def Vt(rs:[h])(i G:Nat)(a:i<[fM]):((iH (rs.map λ(n:Nat)=>n)).take G).count i=[A,yS rs i<G,1,0]:=by rw[M,m,u,xU _];rw[aR]at u;have h:=u.mem_iff.mpr (ja.mpr a);rw[M,k,q,kQ h];have bU:=u.nodup_iff.mpr SO;rw[Kq bU G q];rw[ah,H,PX m q,e,yS rs i=k,by rw[<-H,(u.filter _).length_eq];rw[aa,yS];congr 2;funext j;rw[WB]];rw[e]
def m_(p:[aj])(j:Nat):[aj]:=p.set j (p.getD j 0+1)
def EQ(p:[h])(j:Nat):[Q,m_ p j]=p.length:=by simp[m_]
def PD:∀(l:[h])(p:[h])(i:Nat),i<p.length->[ir,[g6,m_,p]]=p.getD i 0+l.count i|[],p,i,h=>rfl|j::r,p,i,h=>by rw[aa,nE];rw[PD r _ i [q,EQ,h]];rw[b2,m_]
def Ev:∀(l:[h])(p:[h]),[Q,[g6,m_,p]]=p.length|[],p=>rfl|j::r,p=>by simp[nE];rw[Ev r,EQ]
def adg(whole x:Nat)(q:0<x)(ws:[h]):x*aH (gj whole x ws)<=whole*[dc]:=by induction ws with|nil=>simp[aH,gj]|cons w r e=>simp[gj,bT,aH,jH,Ih]at*;rw[aN,aim [tG] x]
def adP(whole:Nat)(ws:[h])(q:0<[dc]):aH [ma]<=whole:=by have:=adg whole _ q ws;rw[ae,nG,this,ain this q]
def YI(whole:Nat)(ws:[h])(q:0<[dc]):[xl,n].foldl m_ [ma]=[mJ]:=by(have U:[Q,[ma]]=[gG]:=by simp[gj]);simp[iq,aw (gk q)];apply my;intro i;rw[b,h,i<[gG]];{rw[bk,m,PD [xl,n] [ma] i ([bb]),Vt _ _ _ [q,aR,h],m];have u:i<[Q,[xl,[kO]]|>.foldl m_ [ma]]:=[a5,Ev,U,h];rw[bb]};{rw[[z7,Ev],mz [f]]}
def tl(rule x:Nat)(a:Int):Bool:=[A,rule<4,rule==0||rule==2,[A,a≠0,ao (a<0),[A,rule=8,x%2==0,[A,rule=9,x%2==1,rule==5||rule==6]]]]
def aoF(r a b:Int)(S:aj):gx [l,r] [iw,a,b] S=[ab,a==r||b==r]:=by simp[gx,jX,D.atom,D.beq,M.pure]
def ala(b:Nat)(S:aj):mulR 2 b S=[bS,[bd,2*b]]:=jC 2 b S ([af])
def aoO(b:Nat)(S:aj):wR b 2 S=[bS,[bd,b%2]]:=B_ b 2 S ([af])
def adI(rule x:Nat)(a:Int)(O:rule<=9)(k:Nat)(S:aj):[cO,1,60,[ei,[l,rule],x,a],[bj,tl rule x a]]:=by rw[[eL]];simp[O7];rw[b,h,rule<4];{have m:[an,rule]<4:=[g];rw[au,seval,m,tl,h];congr 2;grind};{have m:¬[an,rule]<4:=[g];rw[au,seval,m,tl,h];rw[b,u,a=0];{have e:(!(a==0))=af:=[f];simp[u];rw[aE,rule=8];{have z:[a3,rule==8]:=[f];rw[Y,seval,q];congr 2;grind};{have z:[bH,[an,rule],8]:=[f];rw[ac,seval,z,q];rw[b,L,rule=9];{have I:[a3,rule==9]:=[f];rw[Y,seval,L];congr 2;grind};{have I:[bH,[an,rule],9]:=[f];rw[ac,seval,I,L];congr 2;grind}}};{have e:[a3,!(a==0)]:=[f];rw[eR,e,u,ne_eq,not_false_eq_true]}}
def ym(r n d:Nat)(L:r<=9):Cz r n d=[A,[EC,n%d,n/d,n%d],n/d,n/d+1]:=by rw[aa,Cz];rw[bo,h0,n%d=0];{rw[b,m,r<4];{rw[fN,tl,m]};{rw[aa,tl];rw[D,e,¬(r=0\/r=2),[g],z,¬(r=1\/r=3),[g]];generalize h:n%d=G at*;rw[bo,u,2*G<d];{rw[aw u];rw[bo,q,d<2*G];{rw[ak,b1,[cP,2*G]-d=0,[g],aw q];rw[aa,b1];simp[nearUp];have:r=4\/r=5\/r=6\/r=7\/r=8\/r=9:=[g];rcases this with rfl|rfl|rfl|rfl|rfl|rfl<;>simp;rw[cp]}}}}
def ii:([bg,o0])->D|aa x=>me x|ag=>[y']
def k8(o:[bg,o0]):o0:=o.getD {rule:=4,unit:=1}
def anh(o:[fP])(S:aj):[he,ii o]:=[bz,o]
def aoU(o:[fP])(S:aj):eu (ii o) [iZ] S=[bS,(k8 o).rule]:=[bz,o]
def akA(o:[fP])(S:aj):eu (ii o) [l,1] S=[bS,[z3]]:=[bz,o]
structure n' (x : o0) : Prop where
 rule : x.rule ≤ 9
 one : 1 ≤ x.unit
 unit : x.unit ≤ 10000
def xk(o:[fP])(h:n' (k8 o))(n d:Nat)(U:[nV])(hd:0<d)(L:d<10000000000)(k:Nat)(S:aj):[iG,2,59,[ei,ii o,n,d],jb (k8 o) n d]:=by rw[[ck]];rw[ah,m,h.unit,u,d*[z3]<=d*10000,rJ _ m];rw[ah,q,aio hd h.one,B,n/(d*[z3])<=n,SI _ _];rw[aB,seval,KU,[oC,d],[Fd],B_ n _ _ q];generalize x:d*[z3]=s at*;rw[ay,e,([cP,n%s]==0)=ao (n%s=0),[f],er,ym _ n s h.rule];rw[aa,e];rw[b,h0,n%s=0];{rw[aJ (e6 h0)]at er;rw[aX,seval,h0,[oC,n/s],jb,x,er,nG]};{rw[Y,h0,adI _ _ _ h.rule];cases j:tl _ _ _ with|true=>rw[aJ (kT j)]at er;rw[b0,[oC,n/s],jb,x,er,nG]|false=>rw[[nw]]at er;have z:[bd,n/s]+1=[cP,n/s+1]:=rfl;rw[aX,seval,z,[oC,n/s+1],jb,x,er,nG]}
def D3(h:[dc]=0):[mJ]=[hz,[h2]]:=by simp[iq,h]
def abr(l:[h])(G:Nat)(h:[gy,x<=G]):aH l<=[E]*G:=by induction l with|nil=>simp[aH]|cons a r q=>rw[R,m,q [f],u,[gI,a]];simp[aH,jH,b7,yT]at*;omega
def yq(h:x∈l):x<=aH l:=by induction l with|nil=>grind|cons a r q=>simp[aH]at*;grind
def Be(n i:Nat)(h:i<n):place n i=aa i:=[b2,place]
def DZ(n i:Nat):clip n i=ek i n:=rfl
def aky(l:[al])(e:Env)(n:Int)(S:aj):sk ([bm,[aW]]::e) 0 n S=[HI,[fM],[c2]]:=(rfl)
def am_(d:Slot)(e:Env)(i:Nat)(n:Int)(S:aj):sk (d::e) [aa] n S=sk e i n S:=(rfl)
def yk(l:[al])(i:Nat)(S:aj):gE [aW] ag (aa i) S=[ab,[X,[wt]]]:=by show R.ok [ih,cut l 0 (clip _ i)] S=_;rw[DZ];rw[hX,cut]
def Bg(whole:Nat)(ws:[aj])(W:whole<1000000000000)(U:[gG]<64)(G:[dc]<1000000000000)(k:Nat)(S:aj):[dX,1,61,[[l,whole],[X,[hz,nD]]],[mJ],nD]:=by rw[b',aU k S (F:=A9) Y Y Y,A9,oU,mP];rw[b,h0,[dc]=0];{(have e:[a3,[an,[dc]]==0]:=by simp[h0]);rw[aa,e];rw[dF nD (λ_=>[cC,0]) ws (λi O=>by rfl)];rw[Y,D3 h0,cq];rfl};{rw[D,e,[bH,[an,[dc]],0],by simp[h0],c,0<[dc],[g]];rw[Y,seval,e];rw[[Hz,[tG]/[dc],AE _ _ _ c [g]]];rw[ak,L,[hz,λw=>[cC,[bd,[tG]/[dc]]]]=[da,[ma]],by simp[gj,nD],L];rw[eq];rw[[Hz,[tG]% [dc],B_ _ _ _ c]];rw[ay,f,[hz,λw=>[cP,[tG]% [dc]]]=[l9,[pO],n,[kO]],by simp[kR],N,adP whole ws c];rw[au,seval,aR,U,f];simp only[seval,oU,mP,<-aii N];rw[yk,CA.symm];rw[eq];rw[ak,z,∀j,j∈[xl,[kO]]->j<[gG],λj q=>[ch,[bq,xU _].mem_iff.mp (Ii q)],XX [aF,[Q,[L]]=[gG]] [aF,[[ay,whole],[fH,[hz,nD]],[ay,[dc]],[bn,[hu,[L]]],[cc],[cc],[Z],[W]]] [sV,j,j] (λp j=>(m_ [L] j,[ay,j])) _ ([ma],[W]) (by simp[gj]) (λa j h q=>#[[q,EQ,h],_,Y,by rw[a1,C,z j q,m,j<[Q,[da,a.1]],[f],u,[ce,[da,a.1],[cC,a.1.getD j 0]],by simp[h,C,nD]];rw[aB,seval,Be _ _ m,u,m_,SQ];rfl])];rw[eq];(have:∀(l:[aj])(a:[aj]×Slot),[M,[g6,λp j=>(m_ [L] j,Slot.val [cC,j]),a]]=[g6,m_,a.1]:=by intro l;induction l with|nil=>grind|cons j r B=>grind);rw[this,YI whole ws c]}
structure Wf (b : a7) : Prop where
 nt : b.taxes.length ≤ 4
 ni : b.items.length ≤ 8
 nb : b.bundles.length ≤ 3
 nc : b.coupons.length ≤ 5
 rate : ∀ x ∈ b.taxes, x.rate ≤ 10000
 qZ : ∀ x ∈ b.taxes, x.within = ae → x.over = 0
 over : ∀ (i : Nat) (x : Tax), b.taxes[i]? = aa x → x.over ≤ i ∧ (x.over ≠ 0 → (cj b x.over).within = af)
 item : ∀ x ∈ b.items, m2 x ∧ x.taxes.Nodup ∧ ∀ t ∈ x.taxes, 1 ≤ t ∧ t ≤ b.taxes.length
 iR : ∀ x ∈ b.bundles, x.price ≤ 10000000 ∧ (x.parts.map (·.1)).Nodup ∧ ∀ p ∈ x.parts, 1 ≤ p.1 ∧ p.1 ≤ b.items.length ∧ 1 ≤ p.2 ∧ p.2 ≤ 40
 jW : ∀ x ∈ b.coupons, x.value ≤ 10000000 ∧ x.item ≤ b.items.length ∧ (∀ c, x.cap = aa c → 1 ≤ c ∧ c ≤ 10000000) ∧ x.least ≤ 10000000
 apart : ∀ p ∈ b.apart, 1 ≤ p.1 ∧ p.1 < p.2 ∧ p.2 ≤ b.coupons.length
 ro : n' (nH b)
 ca : n' (jI b)
def Eb:[aj]:=[i']
def Hc:[aj]:=[im]
def Ht:[aj]:=[jm]
def sP(x:Bool):D:=[K,[ap,x,[nW],[p2]]]
structure gF (b : a7) (st : List (D × D)) : Prop where
 ro : bK st (.str Eb) = b.rounding.map me
 ca : bK st (.str Hc) = b.cash.map me
 lz : bK st (.str Ht) = b.byLine.map sP
def Oz(o:[fP]):(o.map me).getD [y']=ii o:=[bz,o]
section
variable{b:a7}{nm st:List (D×D)}(hs:gF b st)(k:Nat)(S:aj)
include hs
theorem QR:[cO,1,14,[[b8]],ii [mQ]]:=by rw[a9,[eL],h,[KX],hs.ro];rw[bi,KM,h,Oz]
theorem QF:[cO,1,15,[[b8]],ii b.cash]:=by rw[a9,[eL],h,[LZ],hs.ca];rw[bi,Nb,h,Oz]
theorem agf:[cO,1,16,[[b8]],[bj,ao (b.byLine=aa ae)]]:=by rw[[eL]];rw[bK,h,bK _ [rn]=b.byLine.map _,hs.lz,Nt];cases b.byLine with|none=>rfl|some x=>rw[bz,x]
end
def pu(x:Nat)(l:[a4])(p:[gj]):[a4]:=l.set [nv] ([lG,[nv]]-[cP,x*[Z]])
def vj(l:[a4])(x:io×Nat):[a4]:=[S].parts.foldl (pu [bG]) l
def ky(b:a7)(c:[aj])(C:[aj]):[a4]:=[hc].foldl vj (c.map [od,n])
def EM(t:Nat)(l:[h])(p:[gj]):[Q,pu t l p]=[E]:=by simp[pu]
def G8(t:Nat):∀(ps:[h])(l:[h]),[Q,ps.foldl (pu t) l]=[E]|[],l=>rfl|[eZ],l=>by simp[nE];rw[G8 t r,EM]
def O2:∀(G:[h])(l:[h]),[Q,G.foldl vj l]=[E]|[],l=>rfl|[eZ],l=>by simp[nE];rw[O2 r,vj,G8]
def Pp(b:a7)(c C:[h]):[Q,[tx]]=[dP]:=by rw[ky,O2,aR]
def MS(t:Nat):∀(ps:[h])(l:[h])(i:Nat),([g4,ps,1<=[L]])->i<[E]->[ir,ps.foldl (pu t) l]=[lG,i]-[bd,t*aH [fb,ps.filter [aF,[L]==[aa]],[Z]]]|[],l,i,_,h=>by simp[aH]|[eZ],l,i,L,h=>by rw[aa,nE];rw[MS t r _ i [f] [q,EM,h]];have m:=L p (by simp);rw[b,e,[L]=[aa]];{rw[D,z,[a3,[L]==[aa]],[f],q,[nv]=i,[g]];simp only[ud,z,bI,bT,aH,jH,Ih,pu,q,hY,aip,h,nJ];omega};{rw[D,z,[bH,[L],[aa]],[f],q,¬[nv]=i,[g]];simp[ud,z,dj,b8,pu,hY,aip,q]}
def F7(J:[aP])(c C:[h])(i:Nat)(h:i<[dP]):[qz]=c.getD i 0-mB b C [aa]:=by(have key:[h4,G,l,[h],[b',G,[S]∈[iy]],i<[E]->[ir,G.foldl vj l]=[lG,i]-aH [f4,λx=>[Jf,[aa]]]]:=by intro G;induction G with|nil=>simp[aH]|cons x r q=>intro l L U;rw[aa,nE];rw[q _ (λy e=>L y (lF _ e)) ([a5,vj,G8,U]),vj,MS _ _ _ _ (λp m=>[M,[bq,J.iR _ (L x (by simp))].2 p m]) U];rw[ac,bT,aH,jH];omega);rw[ky,key _ _ (λx L=>[M,kb L]) [q,aR,h]];simp[mB,hY,dQ];grind
def iD(i:Int):D:=[aQ]
def Sq(v:D)(l:[al]):[P]:=v=[aW]\/v=[eB]
def Sq.it(h:Sq v l)(S:aj):[np,0,v,l]:=by rcases h with rfl|rfl<;>rfl
def Sq.zip(h:Sq v l)(a:[al])(S:aj):ez 5 [[ax,a],v] S=[ab,[fb,a.zip l,[n1]]]:=by rcases h with rfl|rfl<;>rfl
def P9{U J z a:[aH]}(f:U->z)(g:J->a)(l:[h])(G:[h]):[g2].zip [f4,g]=[fb,l.zip G,(f [L],g [Z])]:=[bP,List.zip_map]
def Om(J:[aP])(G:Sq v [ju])(O:[h3])(hu:[lk])(k:Nat)(S:aj):[dX,1,62,[dd,[hK],v],[tx],iD]:=by rw[[eL]];rw[aB,seval,JT,G.zip,P9,cq];rw[K,s,m,u,yb (t:=[gu]) (b:=λe=>bj _ [.cS _ 0 [(.av [av] 10)] _] e) (λl e=>[E]=[bR]/\∃I h Z q,e=[nY,[dN,iD],I,h,Z,q]) ([aF,[EF]]∘[aF,(dn _,nD _)]) _ [hc] (c.map _) [[cc],[cc],[cb,v],[bn,[hK]],[W],[W],[W],[W]] #[[f],_,_,_,_,by rw[aa,cq];rfl] (λl x e#[U,I,h,Z,q,z]L=>by subst z;rw[R,a,kb L,j,[aE,J.iR _ a.1]];have d:=hu _ a.2;rw[K,s,m,u,yb (S:=S) (t:=[6,7]) (b:=λe=>bj _ [Ln] e) (λl e=>[E]=[bR]/\∃Z q,e=[nY,[dN,iD],[bm,dn [S]],[ay,[bG]],Z,q]) pD (pu [bG]) _ l _ #[U,_,_,Y] (λl p e#[U,Z,q,z]f=>by subst z;rw[ag,F,r,t,A,j p f];refine#[_,[[cc],[cc],[cb,v],[pg],[cc],[cc],[ay,[L]],[ay,[Z]]],Y,?_,#[[ba,EM],_,_,Y]];rw[aj,N,[nv]=[cP,[nv]],[g],i,[nv]<[Q,[aT,iD]],[f],W,[aT,iD][[nv]]?=aa [l,[lG,[nv]]],by rw[aR]at i;simp[i,iD]];simp only[seval,N,Be _ _ i,W,[oC,[bG]],pu,SQ,iD])];rw[ag,B,Z,q,rfl,u];refine#[_,[[cr],[jd],[cb,v],[pg],[bm,dn [S]],[ay,[bG]],Z,q],Y,?_,#[B,_,_,_,_,Y]];simp only[seval,nD]at m|-;rw[a_,m])];rw[am,B,I,h,Z,q,rfl,u];rw[a_,m]
def x4{U:[aH]}(f:U->D)(l:[h])(d:U)(i:Nat)(m:1<=i)(u:i<=[E]):at_ [g2] [cB]=aa (f (l.getD [cB] d)):=by rw[D,e,[an,i]-1=[bd,[cB]],[g],q,[cB]<[E],[g]];rw[e,pK];grind
def tz(i:Nat)(m:1<=i)(u:i<=[bR]):at_ [so] [cB]=aa (cH [ht]):=[Fb]
def oC(i:Nat)(m:1<=i)(u:i<=[cD]):at_ [mu,eh] [cB]=aa (eh (cj b i)):=[Fb]
def wG(i:Nat)(m:1<=i)(u:i<=[bK]):at_ [ka,ec] [cB]=aa (ec (ui b i)):=[Fb]
def mU{U:[aH]}(l:[h])(d:U)(i:Nat)(h:i<[E]):l.getD i d∈l:=[f]
def j7(i:Nat)(m:1<=i)(u:i<=[bR]):[ht]∈[cH]:=[qp]
def sB(i:Nat)(m:1<=i)(u:i<=[cD]):cj b i∈[hw]:=[qp]
def w9(i:Nat)(m:1<=i)(u:i<=[bK]):ui b i∈[jz]:=[qp]
def kt:[lY,n,l,[h],l.Nodup,([gy,[eP,x,n]])->[E]<=n]|0,l,_,h=>by(cases l with|nil=>simp|cons a r=>rw[aN,[gI,a]])|[aw],l,q,h=>[jN,m,kt n (l.erase [aw]) (q.erase _) [f]]
def an3(l:[h]):cM (sM 0) [aT,pD]=aa [pn,[l,[L]]]:=by induction l with|nil=>rfl|cons p r q=>simp[cM,sM,pD,q]
def alT(l:[h]):cM (sM 1) [aT,pD]=aa [pn,[l,[Z]]]:=by induction l with|nil=>rfl|cons p r q=>simp[cM,sM,pD,q]
def alW(e:Env)(i j:Nat)(p:[gj]):fX e [i,j] (pD p)=aa ((e.set i [ay,[L]]).set j [ay,[Z]]):=(rfl)
def ane(p:[gj])(S:aj):[he,pD p]:=(rfl)
def aoz(p:[gj])(S:aj):eu (pD p) [iZ] S=[bS,[L]]:=(rfl)
def akL(p:[gj])(S:aj):eu (pD p) [l,1] S=[bS,[Z]]:=(rfl)
def xw{U J:[aH]}(f:U->D)(g:J->D)(l:[h])(G:[h]):[fb,[g2].zip [f4,g],[EF]]=[fb,l.zip G,D.tup [f [L],g [Z]]]:=[aV,P9,cq]
def Bj(n:Nat)(ws:[h]):[Q,iq n ws]=[gG]:=[b2,iq]
def lW{U:[aH]}(f:U->Nat)(l:[h])(G:Nat)(h:[gy,f x<=G]):aH [g2]<=[E]*G:=[ch,abr [g2] G [f]]
def A1(J:[aP])(L:x∈[iy]):x.parts.length<=8:=by obtain⟨_,m,u⟩:=J.iR x L;have:=kt [bR] _ m [f];rw[aR]at this;rw[aN,J.ni]
def Zk(J:[aP])(L:x∈[iy])(n:Nat)(O:n<=3)(k:Nat)(S:aj):[dX,2,63,[dd,dn x,[dn]],rM b x n,pD]:=by rw[aU [ao] S (F:=FB) Y Y Y];rw[dn];have U:=A1 J L;rw[Y,seval,FB];rw[dF pD [aF,nD ([Z]*[yN])] x.parts (λp q=>by rw[fk];rw[aB,seval,tz [L] z B,jC [yN] [Z] _ [g],nD,nG])];rw[ak,A,[kj,[aF,nD ([Z]*[yN])]]=[da,[t2]],[bP,cq],A];(have j:∀ws,[gG]=x.parts.length->∀S,(eJ (turn [kn] [bk,[gk,[fT]],[hy]] [7,8] [] [[cr],[tt],[ay,n],[fH,[hz,nD]],[cb,[hu,iq (n*[ea]) ws]],[W],[W],[W],[W]]) [fO,[kj,pD].zip [da,iq (n*[ea]) ws]] S)=[ab,[R,[kj,(·.1)].zip _,pD]]:=λws W S=>by rw[xw,dF _ _ _ (λp q=>by rfl),SR,cq];rfl);rw[R,W,λp q=>by rw[fk];rw[aN,uj q4 this],H,lW _ x.parts 400000000 W];rw[R,C,lW [aF,[Z]] x.parts 40 (λp q=>[eQ,u p q]),v,uj h0 O];rw[ac,seval,oU,mP];rw[aa,rM];rw[b,h,aH [t2]=0];{rw[D,e,[a3,aH [t2]==0],by simp[h],P,[kj,[aF,[cC,[Z]]]]=[da,[kj,[aF,[Z]]]],[bP,cq]];rw[aB,seval,P,jC [ea] n _ [g],Bg ([ea]*n) [kj,[aF,[Z]]] [g] [f] [g] k,h];rw[aV,nG [ea] n,j _ (by rw[aR])]};{(have e:[bH,[an,aH [t2]],0]:=by simp[h]);rw[aB,seval,e,jC [ea] n _ [g],Bg ([ea]*n) [t2] [g] [f] [g] k,h];rw[nG [ea] n,j _ (by rw[aR])];rw[eq]}
def YG(whole x:Nat)(ws:[h]):x*aH (gj whole x ws)+aH [hz,kR whole x]=whole*[dc]:=by induction ws with|nil=>rfl|cons w r q=>simp[gj,bT,aH,jH,Ih,kR]at*;rw[aN,Cw [tG] x]
def pos(rs:[aj]):Nat:=[Q,rs.filter λr=>ao (0<r)]
def aaF(x:Nat)(rs:[h])(h:∀r∈rs,r<x):aH rs<=pos rs*x:=by induction rs with|nil=>simp[aH]|cons a r e=>rw[R,m,e [f],u,[gI,a]];simp only[aH,jH,pos,ud]at*;rw[b,q,0<a];{simp[q,iK,bI,b7,yT];omega};grind
def afv{U:[aH]}(d:U)(p:U->Bool)(l:[h]):[Q,[op,br [E],j,p (l.getD j d)]]=[Q,l.filter p]:=by induction l with|nil=>rfl|cons a r q=>rw[b7,yU];rw[eT,e,(λj=>p ((a::r).getD j d))∘CB=λj=>p (r.getD j d),by rfl]
def ahj(rs:[h])(i:Nat)(h:[fK,i]=0):pos rs<=yS rs i:=by simp[pos];rw[<-afv 0];(have:∀l:[h],[aO,l.filter [sd,0<[fK,j]],[Q,l.filter λj=>[Ia]]]:=by intro l;induction l with|nil=>simp|cons a r q=>grind);exact this _
def Kc(whole:Nat)(ws:[h])(h0:¬[dc]=0)(i:Nat)(q:i<[gG]):[ir,[mJ]]=[yU]+[A,yS [pO] i<[zs],1,0]:=by(have e:[ir,[ma]]=[yU]:=by simp[gj,hY,dQ,cQ q,g6,nJ]);simp[iq];rw[bb]
def afT(whole:Nat)(ws:[h])(h:whole<=[dc])(i:Nat):[ir,[mJ]]<=ws.getD i 0:=by rw[b,h0,[dc]=0];{rw[D3 h0];simp[hY,dQ];cases ws[i]?<;>simp};{rw[b,d,i<[gG]];{rw[ak,j,0<[dc],[g],Kc _ _ h0 i _];have O:ws.getD i 0=ws[i]:=[bb];(try rw[O]);rw[ah,a,YG whole [dc] ws,L,∀r∈[pO],r<aH _,λr L=>by rw[bM,w,L];exact aiq _ j];rw[ah,B,aaF _ _ L,z,[zs]*[dc]<=pos [pO]*[dc],[ba,Nat.sub_mul]];have I:=ain z j;rw[b,J,yS [pO] i<[zs]];{rw[a9,aJ J,q,0<kR whole [dc] ws[i],by apply Nat.pos_of_ne_zero;intro U;rw[aN,ahj [pO] i [f]]];rw[aI,kR,q];(have g:[yU]<ws[i]:=by rw[Nat.div_lt_iff_lt_mul j];rw[ak,m,whole*ws[i]<=aH _*ws[i],mC _ h,nG ws[i]];apply Nat.lt_of_le_of_ne m;intro e;rw[e,Nat.mul_mod_right]at q;omega);omega};{rw[aw J];apply Ij;exact mC _ h}};{have u:[ir,[mJ]]=0:=[aV,hY,[z7,Bj]];omega}}
def ae4(whole:Nat)(ws:[h])(i:Nat):[ir,[mJ]]<=whole+1:=by rw[b,h0,[dc]=0];{rw[ba,D3 h0]};{rw[b,q,i<[gG]];{rw[Kc _ _ h0 i q];have W:=yq (SS q);rw[bG,[yU]<=whole,by apply Ij;rw[V,nG (aH _),rJ _ W]]};{have u:[ir,[mJ]]=0:=[aV,hY,[z7,Bj]];omega}}
def Xv(whole:Nat)(ws:[h])(h:x∈[mJ]):x<=whole+1:=by rw[M,i,q,kQ h];rw[ch,ae4 whole ws i]
structure fh (b : a7) (l : List kU) : Prop where
 len : l.length ≤ 40
 it : ∀ x ∈ l, 1 ≤ x.1 ∧ x.1 ≤ b.items.length ∧ x.2 ≤ 400000000
def Oi{U J:[aH]}(d:U)(f:U×Nat->J)(l:[h]):l.zipIdx.map f=[gz,[E],i,f (l.getD i d,i)]:=by apply my;rw[b2,dQ]
def Vp(L:m2 x)(n:Nat):rK x n<=10000000:=by rw[bV,rK];{rename_i s h;exact [bq,L.f' s [f]]};{exact L.price}
def abL(L:m2 x)(n:Nat):qo x n<=10000000:=by rw[bV,qo];{rename_i s h;exact [bq,L.step s [f]]};{exact L.price}
def aeq(L:m2 x)(n:Nat)(q:n<=40):kL x n<=400000000:=by have h:=Dt x n;rw[bV,kL];{rw[aN,uj [gf,[kH]<=40] (Vp L [kH])]};{rw[ch,lW (λi=>qo x [aa]) (br [kH]) _ (λi _=>abL L _)]}
def afE(b:a7)(x:io)(n:Nat):[Q,rM b x n]=x.parts.length:=by simp[rM,mD,Bj];grind
def aaD(J:[aP])(L:x∈[iy])(n:Nat)(q:n<=3):∀l∈rM b x n,[ly,l.1,[bR],l.2<=400000000]:=by intro l U;rw[dn];have:=kb U;rw[K,p,z,e,b0.mp [nc]];have h:=Xv _ _ this.2;rw[ch,uj q h0]
def vO(J:[aP]){c C:[h]}(O:[h3])(B:[lf])(hu:[lk]):fh b [ge]:=by rw[R,z,J.ni,W,J.nb];rw[a8];{rw[aa,dJ];rw[D,m,[aO,(kW b).filterMap λi=>[v8,e7 c i-mB b C i,(i,kL [ht] (e7 c i-mB b C i))],8],by refine c9 (SU ..) ?_;simp[kW,z],u,[um,[jQ,io],[S]∈[iy],[J9],[E]*8],by intro l;induction l with|nil=>simp|cons x r U=>intro h;rw[R,G,U λy e=>h y (lF _ e),I,A1 J [gI,x]];rw[ac,ir,cO,b7];split;rw[ar];{rw[cz,afE]}];rw[jN,a,u [hc] λx L=>[M,kb L]]};{intro x L;rw[aO,dJ,cs,L];rw[aJ,L,L,L];{simp only[uk,kW,b0,ja]at L;obtain⟨i,⟨j,P,rfl⟩,q⟩:=L;rw[aA,q];{simp at q};{rw[aI,cX,q];subst q;rw[br,d,e7 c [cU]<=40,B _ [qp],#[[g],[f],aeq [M,J.item _ [E8]] _ [g]]]}};{rw[ao,kc,L];rw[K,y,e,q,L];rw[aA,q];rw[ar];{have:=kb e;exact aaD J [nc] _ (hu _ this.2) x q}}}
def AW(J:[aP]){c C:[aj]}(Q:Sq v [ju])(O:[h3])(w:[lf])(hu:[lk])(k:Nat)(S:aj):[dX,4,64,[dd,[hK],v],[ge],pD]:=by rw[aU [f2] S (F:=Ge) Y Y Y];rw[R,n,Pp b c C,E,(vO J O w hu).len];rw[b0,Ge,Om J Q O hu [dt],Oi [cC,0],aR,n];rw[ak,e1,[jA,[dP],D.tup [[l,[aa]],[R,[tx],iD].getD i [iZ]]]=[jA,[dP],D.tup [nJ,(i)+1,[qz]]],by rw[a6,iL,i,G];rw[ja,<-n]at G;simp[hY,G,iD],e1];let g:=λi=>[A,[rZ]=0,[],[Mg]];rw[D,gl,∀i,[aO,[mn,i],i],λi=>by induction i with|zero=>simp|succ i A=>rw[ue,rN,cO];rw[ac,ir,yV,iu];(have:[aO,g i,1]:=by rw[aa,g];split<;>simp);omega,t,∀i,[mn,[aa]]=[mn,i]++g i,λi=>by rw[ue,rN];simp];have hn:=J.ni;rw[aM,o,m,u,[j4,[gu],3,[HP],λ(i:Nat)=>D.tup [nJ,[an,i]+1,[qz]],br [dP],[ty,B,F,[nY,[iY,[mn,i]],B,F,[W],[W]]],[nY,[bI],[W],[W],[W],[W]],[v6],λi j e hj#[B,F,U]=>by subst U;rw[M,G,rfl,dC.mp hj];rw[gY]at G;rw[uf];have H:=F7 J c C i G;rw[a0,a,c.getD i 0=e7 c [aa],rfl,d,e7 c [aa]<=40,w _ [qp],#[_,[nY,[iY,[mn,[aa]]],[ay,[aa]],[ay,[qz]],[W],[W]],Y,?_,_,_,Y]];rw[b,z,[rZ]=0];{rw[D,l,¬0<[qz],by rw[H,a];omega,N,g i=[],[ac,g,z,bI]];rw[aB,seval,l,t,N,iu]};{rw[D,h,0<[qz],by rw[H,a];omega,N,g i=[Mg],[ac,g,z,b8]];rw[D,e2,[qz]=[bd,[rZ]],by rw[H,a];omega,e3,[aa]=[cP,[aa]],[g]];rw[ah,W,[M,J.item _ (j7 (b:=b) [aa] [g] [g])],y,[iQ,[R,[mn,i],pD]],by rw[aR];have:=gl i;rw[ek]];rw[e2,e3];have q:0<[cP,[rZ]]:=[g];simp only[seval,q,tz (b:=b) [aa] [g] [g],Af W [rZ] k [g],y,t,N,de,pD]}],B,F,rfl,u];rw[m];rw[gY];rw[ac,seval,Q.zip,xw];let f:io×Nat->[h']:=[J9];rw[aH,I,[ge]=[mn,[dP]]++[hc].flatMap f,by rw[aa,dJ];rw[bu];rw[kW,air,<-O];generalize br [dP]=r;induction r with|nil=>rfl|cons i r A=>rw[rO,ir,<-A];rw[Y,jJ,g];split<;>rename_i U<;>split at U<;>simp_all,I,E];rw[cO]at E;have R':∀i,[aO,([hc].take i).flatMap f,[Q,[hc].flatMap f]]:=λi=>[ch,List.take_append_drop i [hc]];rw[aM,o,h3,h4,km (S:=S) (t:=[6,7]) (b:=[fg,3,[JO]]) [aF,D.tup [dn [L],nD [Z]]] [hc] [ty,Z,P,[nY,[iY,[B6,i]],B,F,Z,P]] [nY,[iY,[mn,[dP]]],B,F,[W],[W]] #[[W],[W],by simp] (λi x e L#[Z,P,U]=>by subst U;rw[ah,T,kb (cG L),X,[hc].take [aa]=[hc].take i++[x],[aV,jK,L]];have f1:=R' [aa];rw[X,rN,cO]at f1;simp only[ir,yV,iu]at f1;refine#[_,[nY,[iY,[B6,[aa]]],B,F,[bm,dn [S]],[ay,[bG]]],Y,?_,_,_,Y];rw[X,rN];rw[ac,ir,yV,iu];rw[b,z,[bG]=0];{have s:f x=[]:=[ac,f,z,bI];rw[aB,seval,s,z,iu,nD]};{rw[D,s,f x=rM b [S] [bG],[ac,f,z,b8],h,0<[an,[bG]],[g]];rw[s]at f1;(have y:[kg,[R,[B6,i],pD],[R,rM b [S] [bG],pD]]:=by rw[aR,aR,cO];rw[ek]);rw[b0,s,nD,h,Zk J T.1 [bG] (hu _ T.2) [ao],y];rw[Y,de,em]}),Z,P,rfl,h4];rw[h3];rw[ac,seval,nK,I]
def Bp(l:[h'])(k:Nat)(S:aj):[iG,1,65,[[iU]],nM l]:=by rw[[eL]];simp[seval,Rj];rw[ak,e,[pn,[an,[Z]]].sum=nM l,by rw[nM,<-mP,cq];rfl,e]
def wP(h:[e']):nM l<=16000000000:=by rw[R,m,lW (λx=>[bG]) l _ (λx L=>[aE,h.it x L]),u,mC 400000000 h.len];rw[eG,nM]
def jo(c:j_)(l:[h']):[aj]:=[iE,[yB]]
def ag'(c:j_)(l:[h]):[sN]=nM (l.filter (uo c)):=by induction l with|nil=>rfl|cons x r q=>simp[jo,nM,aH]at*;grind
def YD(h:[e'])(c:j_):[sN]<=16000000000:=by rw[R,m,lW (λx=>[yB]) l 400000000 (λx L=>[ch,[aE,h.it x L]]),u,mC 400000000 h.len];rw[eG,jo]
def va(b:a7)(c:j_)(base:Nat):Nat:=ek [gp,c.cap,x,ek [Je] x,[Je]] base
def WS(J:[aP])(h:[fU])(O:c∈[jz])(base:Nat)(W:base<=16000000000)(k:Nat)(S:aj):[iG,3,66,[dd,ec c,[l,base]],va b c base]:=by rw[[ck]];rw[ag,m,u,z,j,J.jW c O];rw[a1,L,uj W m,Z,[pk,[ii _,[b3],[l,10000]]],xk _ J.ro (base*c.value) 10000 [g] [g] [g] k,U,k8 _=nH b,rfl];simp[seval,Od,va];cases a:c.share with|true=>(rw[aB,seval,CC,QR h,[oC,base],Z];cases e:c.cap with|none=>rw[b2,seval]|some x=>rw[bj,C,d,z x e,q,[an,0]<x,[g]];rw[cU,q])|false=>(have H:[bH,[pM],[j2]]:=by rfl);rw[Y,seval,H];cases e:c.cap with|none=>rw[eq];congr 2;omega|some x=>rw[bj,C,d,z x e,q,[an,0]<(x),[g]];rw[Y,seval,q];congr 2;omega
def Yk(b:a7)(c:j_)(l:[h]):takes b c l=va b c [sN]:=[bP,ag']
def afd(b:a7)(c:j_)(n:Nat):va b c n<=n:=Nat.min_le_right _ _
def Va(b:a7)(l:[h])(c:j_):[Q,rP b l c]=[E]:=by simp[rP,Bj]
def QA(h:[e'])(c:j_):fh b (rP b l c):=by rw[a3,[q,Va,h.len],[gJ]];rw[aO,rP,b0,L];rw[K,p,q,rfl,L];rw[aN,h.it _ [M,kb q]]
def Pv(J:[aP])(h:[fU])(O:c∈[jz])(U:[e'])(k:Nat)(S:aj):[dX,4,67,[dd,[iU],ec c],rP b l c,pD]:=by rw[[ck]];have W:=YD U c;simp[seval,M9];rw[a9,dF _ (λx=>nD [yB]) l (λx L=>by rw[eq];(have:(0==[an,c.item]||[S]==[an,c.item])=uo c x:=by rw[gZ];simp[uo,kP,ip];omega);rw[this];cases uo c x<;>simp[nD]<;>rfl),A,[iE,nD [yB]]=[da,jo c l],[aV,jo,cq]];rw[R,e,afd b c [sN],d,U.len];rw[ak,C,[Q,jo c l]=[E],by simp[jo],A];simp[seval,oU,mP,WS J h O _ W k,Bg (va b c [sN]) (jo c l) [g] [g] [g] _,xw];rw[dF _ _ _ (λp z=>by rw[M,i,q,kQ z];rw[CD]at q;have m:=afT _ _ e i;rw[aj,u,[ir,jo c l]<=[L].2,[b2,jo],B,[ir,iq (va b c [sN]) (jo c l)]=[Z],[f],j,[an,[L].2]-[Z]=[bd,[L].2-[Z]],[g]];simp[seval,nD,j];rfl)];simp[rP,Yk,cq];rfl
def m9(b:a7)(l:[h'])(a:[aj]):[h']:=[f5,ui b].foldl (rP b) l
def vK:∀{l}(a:[h]),([e'])->fh b (m9 b l a)|l,[],h=>h|l,[cI],h=>vK r (QA h _)
def KW(J:[aP])(h:[fU]){c C a:[h]}(I:Sq v [ju])(W:Sq w [f5,nD])(O:[h3])(B:[lf])(hu:[lk])(z:[sb])(k:Nat)(S:aj):[dX,5,68,[[b8],[hK],v,w],[z5],pD]:=by rw[[ck]];rw[bi,MI,AW J I O B hu k,W.it];rw[aM,f,m,u,yb (t:=[5]) (b:=[fg,4,[Kw]]) (λl e=>[e']/\∃j,e=[[cr],[jd],[cb,v],[cb,w],[mr],j]) nD (λl n=>rP b l (ui b n)) _ _ _ #[vO J O B hu,_,Y] (λl n e#[U,j,L]q=>by subst L;rw[bA,G,d,z n q,#[_,[[cc],[cc],[cb,v],[cb,w],[cc],[ay,n]],Y,?_,QA U _,_,Y]];rw[bi,nD,wG n G d,Pv J h (w9 n G d) U k]),H,j,rfl,u];rw[m];simp[seval,mE,SV]
def aha(l G:[h]):lm [nq] [f4,nD]=(l==G):=by induction l generalizing G with|nil=>rw[bz,G]|cons a r q=>cases G with|nil=>rfl|cons c s=>simp[bT,lm,nD,D.beq];grind
def w8(F:[dk])(L:Nat->[kD]):[P]:=∀n:Nat,bK F [dn]=[da,L n]
def oJ(p:D×D)(r:[h])(k:D):bK [eZ] k=[ap,[L].beq k,aa [Z],bK r k]:=[b2,bK]
def Fw(l G:[h])(k:D):bK (l++G) k=(bK l k).or (bK G k):=by induction l with|nil=>rfl|cons p r q=>rw[Ik,oJ,oJ];grind
def MM(l:[h])(k v a:D)(h:∀x:D,x.beq k=ae->x.beq a=af):bK [aT,[rX,k,v]] a=bK l a:=by induction l with|nil=>rfl|cons p r q=>rw[bT,oJ,oJ];grind
def NV(l:[h])(k v a:D)(h:∀x:D,x.beq a=x.beq k)(m:[a3,l.any [qr,k]]):bK [aT,[rX,k,v]] a=[cX]:=by induction l with|nil=>grind|cons p r q=>rw[bT,oJ];grind
def Og(l:[h])(k:D)(h:¬[a3,l.any [qr,k]]):bK l k=ag:=[b2,bK]
def NA(h:w8 F l)(k v:Nat):w8 (cB F [l,k] [l,v]) λn=>[fc,n,k,v,l n]:=by intro n;simp[cB];(have J:∀(x:D)(a c:Nat),x.beq [kR]=ae->x.beq [l,c]=ao (a=c):=by intro x a c L;cases x<;>simp[D.beq,dj]at L;rw[b2,D.beq]);rw[aE,n=k];{subst q;rw[bp];split;{rw[ax,O];rw[a_,NV _ _ _ _ (by simp) O]};{rw[ax,O];rw[Fw,Og _ _ O,oJ];simp[D.beq,nD]}};{split;{rw[V,MM _ _ _ _ [f],h n]};{rw[Fw,h n];have:[cC,k].beq [dn]=af:=[eG,D.beq];simp[this,bK]}}
def m5(F:[h])(k v:D):[aO,cB F k v,F.length+1]:=[b2,cB]
def tK(x:Int):∀l,(l0 x l).Perm [gB]|[]=>by rfl|y::r=>by rw[bV,l0];{rfl};{exact [bY,(tK x r).cons y,[f]]}
def tL:∀l,(pq l).Perm l|[]=>SN _|[bp]=>[cy,tK x _,(tL r).cons x]
def ye(x:Int):∀l,[Cd,(·<=·),l0 x l]|[],_=>by simp[l0]|y::r,h=>by rw[kO]at h;rw[bV,l0];{rw[cm,kO,#[[zX],kO.mpr h]];grind};{rw[cm,kO,#[[zX],ye x r [cW]]];rw[fs]}
def xL:∀l,(pq l).Pairwise (·<=·)|[]=>Ig|[bp]=>ye x _ (xL r)
def Yi(n:Nat):[gz,n,i,[aa]].Pairwise (·<·):=[q,Il,List.pairwise_lt_range.imp (by simp)]
def Fy(n:Nat)(l:[h]):[pB].Pairwise (·<·):=(Yi n).sublist List.filter_sublist
def vD:x∈[pB]↔[eP,x,n]/\x∈l:=by rw[aB,cY,nN,b0,ja,rQ];rw[a8];rw[ar];{rintro⟨⟨m,u⟩,h⟩;rw[aQ,#[x-1,[g],[g]],h]}
def MJ(n:Nat)(l:[h]):[e9,[pB]]:=(Fy n l).imp [f]
def Xe{l G:[aj]}(m:l.Nodup)(u:G.Nodup)(h:∀x,x∈l↔x∈G):l.Perm G:=[f]
def Ae(q:l.Nodup)(h:[ez,l,[eP,t,n]]):mr l=[pB]:=by rw[ah,m,Xe (MJ n l) q λx=>[ba,vD],e,pq [aT,SH]=[R,[pB],SH],by apply List.Perm.eq_of_pairwise [f] (xL _);{rw[V,Il,(Fy n l).imp [f]]};{exact [cy,tL _,[dI,m.map _]]}];rw[mr,e,cq];(conv=>rhs;rw[<-v6 [pB]]);rfl
def vg:cY n [pB]=[pB]:=by rw[aa,cY];apply SW;grind
def Hy(x:o0)(L:n' x)(n d:Nat)(hd:0<d):jb x n d<=n/d+10000:=by rw[D,m,Cz x.rule n (d*x.unit)<=n/(d*x.unit)+1,[ba,ym _ _ _ L.rule],u,x.unit*(n/(d*x.unit))<=n/d,[bD,Nat.div_div_eq_div_mul,aim _ _]];rw[R,q,rJ x.unit m,h,L.unit];rw[Ih]at q;rw[eG,jb]
structure Ts (b : a7) (ts : List Nat) : Prop where
 nd : ts.Nodup
 lt : ts.Pairwise (· < ·)
 mem : ∀ t ∈ ts, 1 ≤ t ∧ t ≤ b.taxes.length
def Ts.of(b:a7)(l:[h]):Ts b (cY [cD] l):=#[MJ ..,Fy ..,λt q=>[M,vD.mp q]]
def Ts.len(J:[aP])(h:[gW]):ts.length<=4:=c9 [nC,h.nd,h.mem] J.nt
def cR(b:a7)(t:Nat):Bool:=[my]
def fA(b:a7)(ts:[aj]):[aj]:=ts.filter (cR b)
def ZH(J:[aP])(h:[gW]):kX b ts<=40000:=by simp[kX];rw[R,m,lW _ (ts.filter λt=>[my]) _ (λt q=>by have:=h.mem t [f];exact [vQ,[nc],this.2]),u,h.len J];grind
def gl(B:[kh])(n:Nat):Nat:=aH [cp,B.filter λg=>[g9]==n,g,g.2]
def ng(b:a7)(ts:[aj])(a:Nat)(B:[kh])(t:Nat):[kh]:=B++[(t,[ap,[my],[mG],[uJ,([q_]+gl B [oH])*[jp]]])]
def Me(b:a7)(ts:[h])(a:Nat):∀(l:[h])(B:[h]),taxesFrom b ts a l B=[g6,ng b ts a,B]|[],B=>rfl|t::r,B=>by exact Me b _ a r _
def tf(b:a7)(ts:[aj])(a i:Nat):[kh]:=[oR].foldl (ng b ts a) []
def rb(h:[aZ,ts,t]):tf b ts a [aa]=ng b ts a [jk] t:=by rw[au,tf,jK,h,yR];rfl
def oB(b:a7)(ts:[h])(a:Nat):∀i,[lS,[jk]]=[oR]|0=>by rfl|[aa]=>by cases h:ts[i]? with|none=>rw[dK,h];rw[e,oB b _ a i,gI U,gI (v8 U)]|some t=>rw[rb h,ng,de,oB b _ a i,jK,h];rfl
def rn(h:[gW])(x:[mC])(a:Nat):[n9]=tf b ts a ts.length:=by simp[gJ,Me,x,tf,nK]
def tY(h:n∉[v1]):gl B n=0:=by have:(B.filter λg=>[g9]==n)=[]:=[ba,Cy];simp[gl,this,aH]
def sG(l G:[h]):aH (l++G)=aH l+aH G:=by induction l with|nil=>simp[aH]|cons a r q=>simp[aH,Ik,jH]at*;omega
def rf(B:[h])(t v n:Nat):gl (B++[(t,v)]) n=gl B n+[A,t=n,v,0]:=by simp[gl,yW,de,sG];rw[b,h,t=n];{simp[h,aH]};{simp[h,aH]}
def UQ(J:[aP])(h:[gW])(a t:Nat)(j:t∈ts):[mG]<=[v5]:=by rw[R,m,Hy _ J.ro (a*[jp]) [mk] [g],q,h.mem t j];rw[ah,u,[vQ,[cV],q.2],e,a*[jp]/[mk]<=a,by apply Ij;rw[V,nG,mC _ [g]]];rw[eG,jc]
def w7{ts:[aj]}(h:ts.Nodup)(q:[aZ,ts,t]):t∉[oR]:=by intro O;rw[M,j,m,kQ O];rw[Im]at m;rw[aA,m];{obtain⟨a,_⟩:=dC.mp m;rw[aN,(v9 a h).mp (m.trans q.symm)]};grind
def FL(J:[aP])(h:[gW])(a:Nat):∀i n,gl [jk] n<=i*[v5]|0,n=>by simp[tf,gl,aH]|[aa],n=>by have z:=FL J h a i;cases q:ts[i]? with|none=>rw[dK,q];rw[a5,e,yT,c9 (z n) (by simp)]|some t=>rw[R,j,cG q,O,h.mem t j];rw[rb q,ng,rf,yT];rw[bf,i*[v5],B];rw[b,e,t=n];{have Z:gl (tf b _ a i) n=0:=tY (by rw[oB,<-e];exact w7 h.nd q);rw[Z,aJ e,kN];split;{exact c9 (UQ J h a t j) (by simp)};{rw[R,m,Hy _ J.ro [vA] 10000 [g],u,[vQ,O.1,O.2]];rw[D,L,[vA]/10000<=[tO,a],by apply Ij;rw[V,nG,mC _ u],d,[q_]<=a,ais _ _];grind}};grind
def lk(b:a7)(ts:[aj])(a i n:Nat):[kD]:=[A,n∈ts/\cR b n=ae,aa (jc b ts a n),[A,n∈[oR],aa (gl [jk] n),ag]]
def apv(l:[h])(i:Int)(S:aj):[zK,[b6],[aQ]]:=rfl
def akG(b:Bool):(! ! b)=b:=Bool.not_not b
def Vr(h:[gW])(q:t∈[hq]):t∈ts/\[jO]=ae:=nN.mp q
def acs{l:[aj]}(h:[aZ,l,t]):aH [R,l.take [aa],f]=aH [R,[wt],f]+f t:=by rw[jK,h,de,sG];rfl
def EN(J:[aP])(hs:[fU])(h:[gW])(a:Nat)(ha:a<=20000000000)(k:Nat)(S:aj):∃F,[cO,3,69,[dd,[kR],[bw,ts.map nD]],[bk,[l,[q_]],[cf,F]]]/\w8 F (lk b ts a ts.length):=by rw[aU [dt] S (F:=GJ) Y Y Y];rw[ah,fS,h.len J,U,k8 [mQ]=nH b,rfl];rw[ac,seval,GJ,QR hs];rw[sS nD (cR b) nD ts (λt Z=>by rw[M,t1,t2,h.mem t Z];rw[au,seval,nD,[v_],cR];by_cases W:[my]=ae<;>simp only[seval,W])];rw[aj,hh,[ez,[hq],t∈ts/\[jO]=ae],λt Z=>Vr h Z,N,[aO,[hq],4],c9 (SX _ _) fS,z,ts.filter (cR b)=[hq],rfl];rw[z];rw[eq];rw[dF nD (λt=>nD [jp]) [hq] (λt Z=>by rw[M,t1,t2,h.mem t [M,hh t Z]];rw[ac,seval,nD,[v_]])];rw[D,A,[R,[hq],λt=>nD [jp]]=[da,[cp,[hq],t,[jp]]],[bP,cq],er,aH [cp,[hq],t,[jp]]=kX b ts,rfl];rw[ah,C,ZH J h,w,[mk]=[cP,[mk]],[g]];rw[A];rw[aB,seval,oU,mP,er,w];have P:[e9,[hq]]:=h.nd.filter _;rw[K,e',m,u,[j4,[8],2,[Gm],nD,[hq],λi e=>∃F s8,e=[wE,[mk],Nat,a-[xz,i],F,s8,[W]]/\F.length<=i/\w8 F λn=>[A,n∈[hq].take i,aa (jc b ts a n),ag],[wE,[mk],Nat,a,[],[W],[W]],#[[],[W],by simp[aH],by simp,λn=>by simp[bK]],λi t e Z#[F,s8,he,hF,hD]=>by subst he;have f:=hh t (cG Z);rw[M,t1,t2,h.mem t f.1];rw[R,hr,[vQ,t1,t2],hm,uj ha hr];rw[R,hi,[dB,Z],c,NA hD t [mG]];have hg:=c t;simp only[bI,g6,nD]at hg;refine#[_,[wE,[bd,[mk]],Int,a-[xz,[aa]],cB F [l1] [l,[mG]],[ay,t],[W]],Y,?_,_,_,Y,?_,?_];{rw[aj,g,∀S,[iG,2,59,[ei,ii [mQ],[bd,a*[jp]],[bd,[mk]]],[mG]],xk [mQ] J.ro _ _ [g] [g] [g] k,qi,F.length<lim,[ek],H,a-[xz,i]-[mG]=a-[cP,[xz,i]+[mG]],[g]];simp only[seval,nD,[v_],jC a [jp] _ [g],g,qi,hg,acs Z,H]};{rw[aN,m5 F [l1] [l,[mG]]]};{intro n;rw[c n,jK,Z];rw[b,X,n=t];{subst X;simp};{simp[X]}}]];rw[ab,F,s8,rfl,hF,hD,u];rw[m];simp only[nK]at hD|-;(have l:fk (a-[an,aH [R,[hq],jc b ts a]]) 0=[q_]:=by show _=[cP,a-aH [R,[hq],jc b ts a]];omega);rw[Y,seval,l];rw[K,e',h3,h4,[j4,[8],2,[FW],nD,ts,λi e=>∃F s8 s9,e=[yh,F,s8,s9]/\F.length<=4+i/\w8 F (lk b ts a i),[yh,F,s8,[W]],#[F,s8,[W],Y,[g],λn=>by rw[hD n];simp only[lk,ait,dR,b8,fA,nN]],λi t e Z#[F,s8,s9,he,hF,hD]=>by subst he;have f:=cG Z;rw[M,t1,t2,h.mem t f];rw[R,hr,[vQ,t1,t2],hi,[dB,Z]];have I:=w7 h.nd Z;rw[b,W,[my]=ae];{refine#[_,[yh,F,[ay,t],[bm,eh [rN]]],Y,?_,F,_,_,Y,[g],?_];{rw[au,seval,nD,[v_],W]};{intro n;rw[hD n];rw[aX,lk,rb Z,ng,rf,jK,Z,cs];rw[b,X,t=n];{subst X;simp[f,cR,W]};{have L:¬n=t:=λh=>X h.symm;simp[X,L]}}};{rw[ah,y,[aD,W],ho,∃j,[ce,[hw],[rN]]/\[cU]=t,#[t-1,by rw[cj,hY,cQ [g]];rfl,[g]]];rw[K,j,hj,o,ho];rw[M,o1,o2,J.over j _ hj];rw[ay,s,(bK F [l,[oH]]).getD [iZ]=[l,gl [jk] [oH]],by rw[hD];rw[aa,lk];have hk:=oB b ts a i;rw[b,hz,[oH]=0];{rw[D,B,¬0∈ts,λO=>[aN,h.mem 0 O],d,¬0∈[oR],λO=>B (Ii O)];rw[hz,tY [q,hk,d]];simp[B,d]};{(have q:¬cR b [oH]=ae:=by rw[Y,cR,o2 hz];simp);rw[ac,q,and_false,b8];rw[b,hm,[oH]∈[oR]];{simp[hm,nD]};{rw[tY [q,hk,hm]];simp[hm]}},p,FL J h a i [oH]];rw[D,r,[q_]<=a,ais _ _,x,[tO,a]<=120000000000,by have m:i*[v5]<=4*(20000000000+10000):=uj [g] [g];rw[R,u,c9 p m,h3,c9 r ha];omega];rw[ah,hm,uj x hr,hv,∃v,v=[uJ,[vA]],[gV]];rw[M,v,hv,hv];rw[ay,g,∀S,[iG,2,59,[ei,ii [mQ],[bd,[vA]],10000],v],[q,hv,xk [mQ] J.ro _ 10000 [g] [g] [g] k],c,NA hD t v];refine#[_,[yh,cB F [l1] [l,v],[ay,t],[bm,eh [rN]]],Y,?_,_,_,_,Y,?_,?_];{have qi:F.length<lim:=[ek];simp only[seval,nD,[v_],y,s,<-Ic,jC [tO,a] [jp] _ [g],g,qi]};{rw[aN,m5 F [l1] [l,v]]};{intro n;rw[c n];simp only[lk,rb Z,ng,rf,jK,Z,cs,y,<-hv];rw[b,X,t=n];{subst X;have E:gl [jk] t=0:=tY [q,oB,I];simp[cR,y,E]};{have L:¬n=t:=λh=>X h.symm;simp[X,L]}}}]];obtain⟨F',Q,T,rfl,_,G⟩:=h4;rw[V,h3,#[F',[eq],G]]
def gD(g:[aj]×Nat):D:=[bk,[jg,[g9]],[l,g.2]]
def gP(g:[aj]×Nat):D×D:=([jg,[g9]],[l,g.2])
def ab3(J:[aP])(m:1<=i)(u:i<=[bR]):mr [ht].taxes=fT b i:=by obtain⟨_,q,h⟩:=J.item _ (j7 i m u);exact Ae q h
def EH(l:[h]):(D.tup [nq]).jv=ae:=by rw[ac,D.jv,ck,b0];rintro _⟨n,_,rfl⟩;rfl
def tG(l G:[h]):(D.tup [nq]).beq [bw,[f4,nD]]=(l==G):=by exact aha l G
def ZY(g:[h])(s:[h]):bK [v4] [bw,s.map nD]=[fb,g.find? [aF,[L]==s],[l,[Z]]]:=by induction g with|nil=>rfl|cons p r q=>rw[bT,oJ];rw[fN,gP,tG]
def pX(g:[jQ,[aj]])(s:[aj]):Nat:=[mT,[hY,g.find? [aF,[L]==s]]]
def abA(x:[ts])(g:[h])(m:[e9,[qM]]):cB [v4] [jg,[S]] [l,[bd,pX g [S]+[bG]]]=[R,fJ x g,gP]:=by
 have c:([v4].any [qr,[jg,[S]]])=g.any [aF,[wx]]:=by rw[rR];rw[ca,p];simp[jJ,gP,tG]
 rw[Y,cB,c];have a:∀(g:[h])(v:Nat),[R,[v4],[rX,[jg,[S]],[l,v]]]=[R,g.map [aF,[A,[wx],([L],v),p]],gP]:=λg v=>by rw[cq,cq];apply iL;intro p _;rw[ac,jJ,gP,tG];rw[b,h,[a3,[wx]]];{simp[h]};grind
 induction g with|nil=>simp[fJ,pX,gP]|cons p r U=>rw[ah,f,[bq,mx.mp m],d,[L]∉r.map _,[M,mx.mp m]];rw[b,h,[L]=[S]];{rw[aj,e,[a3,[wx]],by simp[h],Z,∀q∈r,¬[cV]=[S],λq z O=>d (h▸O▸b0.mpr #[q,z,Y]),u,(r.map λq=>[A,[cV]==[S],([cV],pX [eZ] [S]+[bG]),q])=r,by(conv=>rhs;rw[<-v6 r]);rw[a6,iL,q,z];simp[Z q z]];rw[a];rw[ac,bT,u,fJ];simp[pX,h]};{rw[aj,e,[bH,[L],[S]],by simp[h],L,pX [eZ] [S]=pX r [S],by simp[pX,e],i,((r.map gP).any λq=>[cV].beq [jg,[S]])=r.any λq=>[cV]==[S],by rw[rR];rw[ca,p];rw[ac,jJ,gP,tG]];rw[ac,fJ,h,L];rw[eT,J,[M,gP p].beq [jg,[S]]=af,by simp[gP,tG,e]]}
def Ho(x:[ts]):∀(g:[h]),[lS,fJ x g]=[A,[S]∈[qM],[qM],[qM]++[[S]]]|[]=>by rfl|y::r=>by simp[fJ];rw[bo,h,[b7]=[S]];{have u:¬[S]=[b7]:=λe=>h e.symm;simp[h,b8,bT,Ho x r];grind}
def aez(x:[ts])(g:[h])(q:[e9,[qM]]):[e9,[lS,fJ x g]]:=by rw[Ho];split;rw[ar];{rw[ba,g8]}
def Lm(x:[ts]):∀(g:[h]),[aO,fJ x g,g.length+1]|[]=>by simp[fJ]|y::r=>by simp[fJ];rw[ch,Lm x r]
def L1(x:[ts]):∀(g:[h]),aH [hY,fJ x g]=aH (g.map (·.2))+[bG]|[]=>by simp[fJ,aH]|y::r=>by simp[fJ];have:=L1 x r;split;{simp[bT,aH,jH];omega};{rw[dl]}
structure Gs (b : a7) (g : List (List Nat × Nat)) : Prop where
 len : g.length ≤ 40
 ts : ∀ p ∈ g, Ts b p.1 ∧ cY b.taxes.length p.1 = p.1
 le : aH (g.map (·.2)) ≤ 16000000000
def Eu(b:a7):[h4,l,g,[h],[e9,[qM]],([g4,g,[Cv]])->([e9,[lS,[g6,[qa],g]]]/\[aO,[g6,[qa],g],g.length+[E]]/\[g4,[g6,[qa],g],[Cv]]/\aH [hY,[g6,[qa],g]]=aH (g.map (·.2))+nM l)]|[],g,m,u=>#[m,by simp,u,by rfl]|[bp],g,m,u=>by rw[aa,nE];rw[ah,z,aez [ja] g m,j,[g4,fJ [ja] g,[Cv]],λp L=>by rw[aH,O,[L]∈[fO,fJ _ g],b0.mpr #[p,L,Y],Ho,O];have H:[L]∈[qM]\/[L]=fT b [S]:=[f];rw[aJ,H,H,H];{rw[K,q,h,e,b0.mp H];rw[bD,e,u q h]};{rw[V,H,#[Ts.of b _,vg]]}];rw[ag,G,I,B,a,Eu b r _ z j];have:=Lm [ja] g;refine#[G,[eG,b7],B,?_];rw[a,L1];simp[nM,bT,aH,jH];omega
def xI(U:[e']):Gs b [h6]:=by rw[R,h,wP U,e,U.len];rw[bV,g9];{rw[bm,[f],λp q=>?_];{rw[bM,x,q];rw[aQ,Ts.of b _,vg]};{rw[V,cq,h]}};{obtain⟨_,u,m,z⟩:=Eu b l [] (by simp) (by simp);rw[bm,[f],m];rw[z];rw[gr,aH,h]}
def aeH(g:[h])(s:[h]):(bK [v4] [bw,s.map nD]).getD [iZ]=[l,pX g s]:=by rw[ZY,pX];rw[bz,g.find? _]
def ahl(J:[aP])(a:[fU])(U:[e'])(k:Nat)(S:aj):[dX,2,70,[d0,[iU]],[h6],gD]:=by rw[b9,aU [ao] S (F:=Hk) Y Y Y,Hk];rw[b9,dF pD (λx=>gD [ja]) l (λx L=>by rw[K,C,Z,x3,U.it x L];rw[gv,seval,tz [S] C Z,ab3 J C Z]),agf a];rw[b,h,b.byLine=aa ae];{rw[au,seval,h,g9,cq];rfl};{rw[ak,A,[iE,gD [ja]]=[R,[iE,[ja]],gD],by simp,A];rw[ac,seval,h,g9];rw[ah,f,U.len,key,∀i,i<=[E]->[e9,[lS,[wZ]]]/\[aO,[wZ],40],λi d=>by rw[a4,m,u,Eu b [wt] [] (by simp) (by simp)];grind];rw[aM,s,m,u,[j4,[gu],1,[Iq],gD,[iE,[ja]],[ty,I,j,[[cr],[mr],[cc],[bn,.bZ [R,[wZ],gP]],I,j,[W]]],[[cr],[mr],[lv,[iE,[ja]],gD],[bn,.bZ []],[W],[W],[W]],#[[W],[W],Y],λi p e q#[I,j,O]=>by subst O;rw[dQ,lG]at q;rw[K,x,L,rfl,q];have d:=[dB,L];rw[M,z,B,key i [g]];rw[ad,G,(l.take [aa]).foldl [qa] []=fJ [ja] [wZ],by rw[jK,L,yR];rfl,#[_,[[cr],[mr],[lv,[iE,[ja]],gD],[pg],[bm,[jg,fT b [S]]],[ay,[bG]],[W]],Y,?_,_,_,by rw[G]]];have W:[iQ,[R,[wt].foldl [qa] ([]),gP]]:=[qv];rw[<-abA [ja] _ z];have H:=EH (fT b [S]);rw[aB,seval,H,W,aeH,Ic]],I,j,rfl,u];rw[m];rw[ac,seval,aR,nK];rw[a_,cq]}
def Ha(h:[gW])(a t:Nat)(W:[jO]=ae):∀i,t∈[oR]->gl [jk] t=[mG]|0,q=>[f]|[aa],q=>by cases j:ts[i]? with|none=>rw[dK,j];rw[V,e,Ha h a t W i ([ba,gI U])]|some s=>rw[rb j,ng,rf];rw[jK,cs]at q;rw[b,e,s=t];{subst e;have m:=w7 h.nd j;rw[[D2],aJ Y,kN,aJ ([gr,cR,W])]};{rw[aw e];rw[aZ,q,q,q,Ha h a t W i q];grind}
def Gy(h:[gW])(x:[mC])(a t:Nat)(q:t∈ts):lk b ts a ts.length t=aa [q3]:=by rw[rn h x];rw[ac,lk,q,true_and];rw[b,W,[jO]=ae];{rw[aJ W,Ha h a t W _ [f]]};grind
def acG(h:[gW])(x:[mC])(a n:Nat)(q:n∉ts):gl [n9] n=0:=[q,rn h x,[D2]]
def W_{U:[aH]}(n i:Nat)(f:Nat->U)(x:U):[R,br n,f].set i x=[gz,n,t,[A,t=i,x,f t]]:=by apply my;grind
def Cf(J:[aP])(h:[gW])(x:[mC])(a n:Nat):gl [n9] n<=4*[v5]:=[cm,rn h x,c9 (FL J h a _ n) (mC _ (h.len J))]
def iG(b:a7)(l:[jQ,[aj]])(t:Nat):Nat:=aH [aT,λg=>[Cl]]
def Hu(b:a7)(l:[h]):qp b l=[R,br [cD],iG b [h6]]:=by apply iL;intro t _;generalize [h6]=B;induction B with|nil=>rfl|cons g r q=>rw[ir,sG,q];rfl
def Ef(J:[aP])(C:[fU])(U:[e'])(k:Nat)(S:aj):[dX,4,71,[d0,[iU]],qp b l,nD]:=by rw[aU [f2] S (F:=Fg) Y Y Y];have H:=xI U;rw[Y,seval,Fg];rw[dF eh (λ_=>nD 0) [hw] (λx L=>by rfl)];rw[ak,P,[mu,λ_=>nD 0]=[da,[R,br [cD],[h2]]],by apply my;grind,P];rw[Y,seval,ahl J C U [ao]];rw[K,T,m,u,[j4,[3,4],3,[Gs],gD,[h6],λi e=>∃G B d Z,e=[zE,[Cx,i],G,B,d,Z],[zE,[R,br [cD],[h2]],[W],[W],[W],[W]],#[[W],[W],[W],[W],by rfl],λi g e h#[G,B,d,Z,p]=>by subst p;have a:=cG h;rw[bj,q,z,H.ts g a,N,g.2<=20000000000,by have:=yq ([D3]:g.2∈[hY,[h6]]);rw[aN,H.le]];rw[aM,F,X,Q,EN J C (nm:=nm) q g.2 N k S,T,m,u,[j4,[6],3,[LC],nD,[g9],λj e=>∃Z,e=[A1,[wI,j]],[A1,[Cx,i]],[qZ,Z],λj t e O#[Z,p]=>by subst p;rw[M,o,y,q.mem t (cG O)];rw[a1,I,w7 q.nd O,f,bK F [l1]=aa [l,gl (gJ b [g9] g.2) t],[aV,Q t,Gy q z _ _ (cG O)],n,t-1=[cP,t-1],[g]];rw[a0,r,t-1<[Q,[da,[wI,j]]],[bE],s,[aR,[da,[wI,j]],t-1,[l,iG b ([h6].take i) (t-1)]],by have c:t-1+1=t:=[g];rw[dQ,dQ,aiu [g]];simp[c,I,nD],#[_,[zE,[wI,[cU]],[bm,[jg,[g9]]],[ay,g.2],[bm,[cf,F]],[ay,t]],Y,?_,_,Y]];rw[ac,seval,nD,n];rw[au,seval,Be _ _ r,s,f];congr 5;rw[cq,W_,cq];congr 3;funext x;rw[au,jJ,nD,jK,O];grind]];rw[bA,Z,rfl,u,#[_,[A1,[Cx,[aa]]],Y,?_,_,_,_,_,Y]];rw[ac,seval,X,m];congr 8;apply iL;intro t _;rw[aB,iG,jK,h,de,sG];rw[b,W,t+1∈[g9]];{simp[W,aH]};{simp[W,aH,acG q z g.2 (t+1) W]}]];rw[ab,G,B,d,Z,rfl,u];rw[m];rw[ac,seval,nK,Hu]
def Vg(x:[gj])(r:[h])(n:Nat):gl [bp] n=[A,[S]=n,[bG],0]+gl r n:=by simp[gl];rw[b,h,[S]=n];{simp[h,aH]};grind
def Pu{U:[aH]}(f g:U->Nat)(l:[h]):aH [iE,f x+g x]=aH [g2]+aH [aT,g]:=by induction l with|nil=>rfl|cons a r q=>rw[dl]
def Fu{U:[aH]}(l:[gw]):aH [aT,[h2]]=0:=by induction l with|nil=>rfl|cons a r q=>rw[dl]
def aa'(n x v:Nat)(h:x<n):aH [gz,n,t,[A,t=x,v,0]]=v:=by induction n with|zero=>omega|succ n q=>rw[ue,de,sG];rw[b,e,x=n];{subst e;(have:[gz,x,t,[A,t=x,v,0]]=[R,br x,[h2]]:=by apply iL;grind);rw[this,Fu];simp[aH]};{rw[q [g]];have:¬n=x:=λh=>e h.symm;simp[aH,this]}
def tm(b:a7)(n:Nat):∀(B:[h]),([b',B,[eP,[S],n]])->aH [gz,n,t,[zF,B]]=aH [eD,λx=>[ap,[t0,[S]],0,[bG]]]|[],_=>by(have:(λt=>[zF,[]])=[h2]:=by simp[gl,aH]);rw[aV,this,Fu]|[bp],h=>by have q:=tm b n r [f];rw[bj,m,u,[gI,x],e,(λt=>[zF,[bp]])=λt=>[A,t=[S]-1,[ap,cR b [S],0,[bG]],0]+[zF,r],by funext t;rw[ba,Vg]];rw[e,Pu,q,aa' n _ _ [g]];rfl
def vH(h:[gW])(q:[mC])(a:Nat):[b',[n9],[eP,[S],[cD]]]:=by intro x L;rw[rn h q]at L;have e:[S]∈[fO,tf b _ a _]:=b0.mpr #[x,L,Y];rw[oB,nK]at e;exact h.mem _ e
def aaR(U:[e']):aH [gz,[cD],t,[AB,[h6]]]=Io b l:=by have h:=(xI U).ts;rw[aa,Io];rw[bf,[h6],B];induction B with|nil=>(have:(λt=>[AB,[]])=[h2]:=by simp[iG,aH]);rw[aV,this,Fu]|cons g r q=>have q:=q [f];rw[bj,m,u,[gI,g],e,(λt=>[AB,g::r])=λt=>[rY,t,[Cl]]+[AB,r],by rw[Y,iG,aH];grind];rw[e,Pu,q,tm b _ _ (vH m u _)];rfl
def L6(b:a7):[h4,G,o,Nat,∀i x,([cT,G])->[aR,[hw],o+i,x],∀(f:Nat->Nat),aH [hY,(G.zip [gz,[gq],t,f (o+t)]).filter [aF,! [L].within]]=aH [gz,[gq],t,[rY,o+t,f (o+t)]]]|[],o,_,f=>rfl|[bp],o,h,f=>by rw[ah,h0,h 0 x Y,W,cR b (o+1)=x.within,[fN,cR,cj]];have q:=L6 b r (o+1) (λi y O=>[ch,h [aa] y O]) f;rw[b7,yU,bT,bT,cq,cq,rS,ud];rw[D,e,((λt=>f (o+t))∘CB)=λt=>f (o+1+t),[f],z,((λt=>[rY,o+t,f (o+t)])∘CB)=λt=>[rY,o+1+t,f (o+1+t)],[f]];rw[e,z];cases L:x.within with|true=>simp[L,Ip,dj,b8,W,bI];simp[aH,jH]at q|-;omega|false=>simp[L,Bool.not_false,bI,W,dj,b8,bT];simp[aH,jH]at q|-;rw[q]
def El(J:[aP])(U:[e'])(k:Nat)(S:aj):[iG,2,72,[dd,[iU],[hu,qp b l]],rT b l]:=by rw[[ck]];simp[seval,QD,xw];rw[sS _ [aF,! [L].within] [aF,nD [Z]] _ (λp q=>[b2,seval])];rw[ak,A,∀G:[jQ,Tax],[f4,[aF,nD [Z]]]=[da,[f4,(·.2)]],[Ff],A];rw[au,seval,Bp,oU,mP];have m:=L6 b [hw] 0 (by simp) (iG b [h6]);rw[aI,kN,m];rw[Hu,m,aaR U];rfl
def B0(J:[aP])(h:[fU])(n:Nat)(q:[nV])(k:Nat)(S:aj):[k8,3,73,[dn]]=[bS,jb (jI b) n 1]:=by rw[a9,[ck],m,∀S,[p9,[ei,ii _,n,1]]=[bS,jb (jI b) n 1],xk _ J.ca n 1 q [g] [g] k];rw[bi,P7,QF h,m]
def LS(J:[aP])(U:[e']):rT b l<1000000000000000000:=[Fz]
def Pb(J:[aP])(h:[fU])(U:[e'])(k:Nat)(S:aj):[k8,5,74,[iU]]=[bS,v_ b l]:=by rw[[ck]];simp[seval,NP,Ef J h U k,El J U _,B0 J h _ (LS J U) _,v_]
def K4(J:[aP])(l:[fU])(L:x∈[cH])(a:Nat)(j:a<=20000000000)(k:Nat)(S:aj):[iG,4,75,[dd,cH x,[kR]],iv b [mh] a]:=by rw[aU [f2] S (F:=EZ) Y Y Y];obtain⟨_,p,C⟩:=J.item x L;rw[R,g,Ae p C,q,Ts.of b [jJ]];have z:cY _ _=[mh]:=vg;generalize Z:cY _ [jJ]=ts at*;rw[K,F,r,Q,EN J l (nm:=nm) q a j k S];rw[au,seval,EZ,g,r];rw[sS nD (λt=>! [jO]) (λt=>nD [q3]) ts (λt B=>by rw[bj,P,N,q.mem t B,f,bK F [l1]=aa [l,[q3]],[aV,Q t,Gy q z _ _ B]];rw[aB,seval,nD,oC t P N,cR,f];grind)];rw[ak,A,∀G:[aj],[f4,λt=>nD [q3]]=[da,[f4,λt=>[q3]]],[Ff],A];rw[D,c,aH [cp,ts.filter λt=>! [jO],t,[q3]]=rV b ts a,by rw[aa,rV];(have key:∀i,aH [cp,[op,[oR],t,! [jO]],t,gl [jk] t]=aH [cp,[jk],x,[ap,[t0,[S]],0,[bG]]]:=λi=>by induction i with|zero=>rfl|succ i u=>cases h:ts[i]? with|none=>rw[ah,U,v7.mp h,e,[BX],[ac,tf,gI U,gI (v8 U)]];rw[e,gI (v8 U),<-u,gI U]|some t=>have I:=w7 q.nd h;rw[rb h,ng,jK,h,yW,de,de,sG,sG,<-u];rw[bu];{rw[bu];rw[a6,iL,s,O];have H:¬t=s:=λe=>I (e▸[M,nN.mp O]);rw[rf,aw H,SL]};{have E:gl [jk] t=0:=[D2];rw[b,W,[my]=ae];{simp[cR,W,aH]};{have y:=[aD,W];simp[cR,y,rf,E]}});rw[ba,rn q z],d,a+rV b ts a<1000000000000000000,by(have m:rV b ts a<=4*100000000000:=by rw[aa,rV];rw[<-tm b _ _ (vH q z a)];refine [Ko];{intro t _;rw[jN,n,c9 (Cf J q z a (t+1)) (rJ 4 (Iq j 10000))]};{rw[V,gY,mC _ J.nt]});omega];simp only[seval,oU,mP,c,<-Ic,B0 J l _ d k,iv]
def kI(b:a7)(c C:[aj]):Bool:=[hV,kW b,i,ao (mB b C i<=e7 c i)]
def amN(l:[h])(S:aj):dk .vz [dN,iD] S=[bS,oO l]:=by have:eQ [aT,iD]=aa l:=AG l;simp[dk,fF,this,l3,fC,AY]
def P5:∀l,ao (0<=oO l)=l.all λx=>ao (0<=x)|[]=>by rfl|[x]=>by simp[e8,Iu,yX];rfl|x::y::r=>by have q:=P5 (y::r);rw[e8,<-q];rw[ak,e,oO (x::y::r)=ek x _,rfl,gZ];simp[dZ,aF];omega
def KH(J:[aP])(I:Sq v [ju])(O:[h3])(hu:[lk])(k:Nat)(S:aj):[cO,2,76,[dd,[hK],v],[bj,[pd]]]:=by rw[b',[ck],Mo,Om J I O hu k,P5];congr 2;rw[kI,gZ,ck,ck];have W:=Pp b c C;rw[a8];{intro h i q;simp[kW,b0,ja]at q;rw[K,j,e,rfl,q];rw[R,m,h ([tx].getD j 0) [qp],u,F7 J c C j [g]];rw[eT,a,c.getD j 0=e7 c [cU],rfl]};{intro h x L;rw[M,j,e,kQ L];rw[R,d,[dB,e],u,F7 J c C j [g]];have z:[tx].getD j 0=x:=[f];rw[ah,m,h [cU] (by simp[kW,b0,ja];grind),a,c.getD j 0=e7 c [cU],rfl];simp only[dZ]at*;omega}
def gw(b:a7)(a:[aj])(n:Nat):Bool:=!(a.any λe=>[uR,(e,n)])
def apt(l:[h])(a c:Nat)(S:aj):gx [iw,a,c] [iU] S=[ab,l.contains (a,c)]:=by rw[D,m,[kp,[aT,pD],D.pair],by rw[ck];intro x L;rw[bM,p,L];rfl,u,jX [iw,a,c] [aT,pD]=l.contains (a,c),by rw[jX,rR,Iv];rw[ca,p];simp[jJ,pD,D.beq,lm];grind];rw[gv,gx,m,u]
def Pc(q:Sq v [f5,nD])(n k:Nat)(S:aj):[cO,1,77,[dd,v,[dn]],[bj,gw b a n]]:=by rw[[eL]];simp[seval,Oo,q.it];rw[b9,[oe,e,D.bl [uR,(e,n)],h,by simp[seval,nD]],rR];rfl
def wh(b:a7)(l:[h'])(n:Nat):Bool:=ao ((ui b n).least<=nM l)
def OS(l:[h'])(n:Nat)(m:1<=n)(u:n<=[bK])(k:Nat)(S:aj):[cO,2,78,[dd,[iU],[dn]],[bj,wh b l n]]:=by rw[[ck]];simp[seval,O8,Bp,wG n m u,wh,Ib]
def KC{J:[aH]}(C:J->D)(d:D):∀(l:[h])(p:[gN])(E:Nat->Env->[P])(e:Env),E 0 e->(∀i x e,([cT,l])->E i e->(∀j<i,p j=ae)->∃z,fX e t (C x)=aa z/\[ap,p i,∃h,b z S=[dy,h]/\E [aa] h,b z S=[iz,d]])->[ap,(br [E]).all p,∃a,[uU,e,a]/\E [E] a,cV b t [aT,C] e S=[iz,d]]|[],p,E,e,h0,H=>by exact#[e,Y,h0]|[bp],p,E,e,h0,H=>by rw[K,z,m,u,H 0 x e Y h0 (by simp)];rw[b7,yU,e8,wa];rw[aE,p 0=ae];{rw[aJ q]at u;rw[K,h,B,G,u];rw[ah,W,KC _ d r _ _ _ G (λi y e O U P=>H [aa] y e O U (λj L=>by cases j with|zero=>exact q|succ j=>rw[bb])),f,(p∘CB)=λi=>p _,rfl];simp only[bT,cV,m,fF,l3,fC,B,q];exact W};{rw[aw q]at u;simp[bT,cV,m,fF,l3,fC,u,q];rfl}
def rise(l:[aj]):[P]:=l.Pairwise (·<·)
def afp(J:[aP])(O:rise a):[hV,br [bW],i,[yv]]=o4 b a:=by rw[gZ];simp only[o4,ck,gw,Iw,SY,rQ,Bool.and_eq_false_imp,ja];rw[a8];{intro h p L m;obtain⟨_,B,_⟩:=J.apart p L;rw[yY];intro u;simp[rQ]at m u;rw[M,i,q,kQ m];rw[M,j,z,kQ u];rw[M,G,c,dC.mp q];rw[bj,d,e,dC.mp z,H,i<j,by rcases aiv i j with x|x|x;{exact x};rw[ar];{rw[aN,aiw.mp O j i d G x]}];have:=h j d _ (by apply cG;rw[Im,aJ H,q]);apply this;rw[a5,hY,z,L]};grind
def RL(J:[aP]){c C a:[aj]}(O:[h3])(T:[lf])(U:[iL]=[cu])(hu:[lk])(Q:[sb])(n:rise a)(k:Nat)(S:aj):[cO,5,79,[BQ],[bj,gK b c [fL]]]:=by rw[aU [fB] S (F:=GD) Y Y Y];rw[D,f,Sq [X,[ju]] [ju],e6 Y,s,[j7,[cY,4,76,[dd,[hK],[X,[ju]]],S]],KH J f O hu [dt]];rw[ac,seval,GD,s];rw[ak,G,gK b c [fL]=([pd]&&[BT]),[gv,gK,U,CC],G];cases l:[pd]with|false=>rfl|true=>rw[au,seval,AW J f O T hu k,Oi [cC,0],aR];rw[ak,g,[jA,[bW],D.tup [[aQ],[f5,nD].getD i [iZ]]]=[jA,[bW],D.tup [qc,[p7]]],by rw[a6,iL,i,q];rw[ja]at q;simp[q,nD],g];rw[bk,z,KC (S:=S) (t:=[5,6]) (b:=[fg,4,[GA]]) (λ(i:Nat)=>D.tup [nJ,[an,i],[p7]]) [bj,af] _ (λi=>[yv]&&[zY]) [ty,F,Z,[[cr],[jd],[fH,[ju]],[cc],[cc],F,Z]] [K9,[W],[W]] [v6] (λi j e B#[F,Z,N]_=>by subst N;rw[M,q,rfl,dC.mp B];rw[gY]at q;rw[aa,uf];rw[bA,P,r,Q _ (mU a 0 i q),[Ac]];rw[aj,d,Sq _ [da,a.take i],e6 (by rw[CA]),I,[j7,[cY,4,77,[dd,[b9],[l,[p7]]],S]],Pc d _ [f2],W,[j7,[cY,4,78,[dd,[iY,[ge]],[l,[p7]]],S]],OS _ _ P r [dt]];cases m:[yv]with|false=>rw[aB,seval,nF,yk,I,m]|true=>cases u:[zY]with|false=>rw[aX,seval,SZ,yk,I,m,W,u]|true=>refine#[[K9,[ay,i],[ay,[p7]]],?_,_,_,Y];rw[b0,yk,I,m,W,u]),gY,z];rw[aH,H,[hV,br [bW],i,[yv]&&[zY]]=[BT],by rw[<-afp J n];rw[eT,y,(a.all λi=>wh b [ge] i)=[hV,br [bW],i,[zY]],by rw[gZ,ck,ck];rw[a8];{intro h i q;exact h _ (mU _ _ _ (ja.mp q))};{intro h x L;rw[M,j,B,kQ L];have:=h j (ja.mpr [dB,B]);rwa [hY,B]at this}],H,z];cases p:[BT]with|true=>rw[p]at z;rw[ab,A,m,F,Z,rfl,z];rw[a_,m]|false=>rw[p]at z;rw[a_,z]
def tD(l:[aj]):D:=[bw,[nq]]
def jZ(G:Nat)(rs:[lC]):[lC]:=rs.flatMap λr=>[gz,G+1,x,r++[x]]
def i6(G:Nat):Nat->[lC]|0=>[[]]|[ao]=>jZ G (i6 G k)
def ada(G x:Nat)(rs:[h]):jZ G (rs.map λr=>[bp])=[cp,jZ G rs,r,[bp]]:=by simp[jZ,S0,S4,cq];rfl
def OJ(G:Nat):∀k,jZ G (g_ k G)=g_ [ao] G|0=>by simp[g_,jZ];simp[List.map_eq_flatMap]|[ao]=>by have q:=OJ G k;(conv=>lhs;rw[g_]);rw[g_,<-q];simp[jZ];rw[List.flatMap_assoc];rw[ca,x];have:=ada G x (g_ k G);rw[aI,jZ,this];grind
def xu(G:Nat):∀k,i6 G k=g_ k G|0=>rfl|[ao]=>by rw[i6,xu G k,OJ]
def tT(G:Nat):∀k,∀r∈g_ k G,[gn]=k/\[b',r,x<=G]|0,r,h=>by rw[aI,g_,h];grind|[ao],r,h=>by simp[g_,kc,b0]at h;rw[ab,x,L,s,q,rfl,h];rw[iT,m,u,tT G k s q]
def Mz(G:Nat):∀k,[Q,g_ k G]=(G+1)^k|0=>rfl|[ao]=>by rw[aa,g_];rw[bG,∀l:[h],[Q,l.flatMap λx=>[cp,g_ k G,r,[bp]]]=[E]*(G+1)^k,λl=>by induction l with|nil=>simp|cons a r q=>rw[ir,cO,q,aR,Mz G k,b7,yT,aik]]
def apf(l:[h])(n:Nat)(S:aj):oz (tD l) [bw,[[dn]]] S=[A,[E]+1<=lim,[ab,tD (l++[n])],[aX]]:=by simp[oz,tD,aR,b7,gL,de];rw[b,h,[E]+1<=lim];{rw[aV,aJ h,aJ h]};{rw[aV,aw h,aw h]}
def ND(J:[aP])(O:[h3])(k:Nat)(S:aj):[dX,3,80,[d0,[hK]],[xF],tD]:=by rw[aU [dt] S (F:=E3) Y Y Y];have H:=J.nb;rw[Y,seval,E3];(have N:∀i,i<=3->[aO,i6 3 i,64]:=λi G=>by rw[xu,Mz];rw[bG,i=0\/i=1\/i=2\/i=3,[g]]);rw[K,Z,m,u,[j4,[3],2,[.own 4 [bI],.cS [5] 0 [[V]] _,.fz 4 [dZ,[av]]],dn,[iy],λi e=>∃s I z,e=[[cr],[jd],[lv,i6 3 i,tD],s,I,z,[W]],[p1,[jd],[bm,[ax,[[ib]]]]],#[[W],[W],[W],Y],λi x e L#[s,I,z,U]=>by subst U;rw[R,G,[dB,L],d,N i [g]];rw[K,Z,m,u,[j4,[5],2,[GY],tD,i6 3 i,λj e=>∃z,e=[xi,i,[bn,[dv,[Cc,j],tD]],z],[xi,i,[bn,[bI]],z],#[z,by rfl],λj r e P#[z,U]=>by subst U;have q:=[M,tT 3 i r (by rw[<-xu];grind)];rw[ad,B,∀l,[Q,jZ 3 l]=[E]*4,λl=>by induction l with|nil=>rfl|cons a t A=>simp only[jZ,ir,cO,aR,gY,b7]at*;omega,#[_,[xi,i,[pg],[bm,tD r]],Y,?_,_,Y]];rw[ah,p,vp 4 S [g],g,xn 4 S=[ab,[jA,4,[aQ]]],vp 4 S [g]];rw[Y,seval,g];rw[dF [sV,n,n] (λn=>tD (r++[n])) (br 4) (λn _=>by have:[gn]+1<=lim:=[ek];rw[Y,seval,this])];rw[D,y,[kg,[R,[Cc,j],tD],[gz,4,n,tD (r++[n])]],by rw[aR,B,aR,gY,o5];rw[ek],h,jZ 3 ((i6 3 i).take [cU])=[Cc,j]++[gz,4,n,r++[n]],by rw[jK,P,jZ,rN];rfl];rw[au,seval,y,h,de];rfl]];rw[bA,F,rfl,u,#[_,[xi,[aa],[lv,i6 3 [aa],tD],F],Y,?_,_,_,_,Y]];rw[eq];rw[m];rw[ac,seval,nK,i6]]];rw[ag,s,I,z,rfl,u];rw[m];rw[eq];rw[b9,sS tD (kI b c) tD (i6 3 [cu]) (λC hu=>by rw[xu]at hu;rw[D,f,Sq (tD C) [ju],kT Y,W,∀S,[cO,2,76,[dd,[hK],tD C],[bj,[pd]]],KH J f O [bq,tT 3 _ C hu] k];rw[cU,W]),xu]
def amV(a c:[al])(S:aj):oz [ax,a] [ax,c] S=[A,[bW]+[dP]<=lim,[ab,[X,a++c]],[aX]]:=by simp[oz];rw[b,h,[bW]+[dP]<=lim];{rw[aV,aJ h,aJ h]};{rw[aV,aw h,aw h]}
def gy(b:a7)(l:[h'])(a:[aj]):Bool:=o4 b a&&a.all (wh b l)
def dq(b:a7)(l:[h']):Nat->[lC]|0=>[[]]|[ao]=>[ap,wh b l [ao],[lx]++[cp,[op,[lx],a,gw b a [ao]],a,a++[[ao]]],[lx]]
def aa_(n s:Nat):[b',gM n s,[eP,x,n]]:=by intro x L;simp[gM,b0,nN,ja]at L;omega
def Xf(h:s<2^k):gM [ao] s=gM k s:=by simp[gM,ue];rw[ch,aix h]
def aai(h:s<2^k):gM [ao] (2^k+s)=gM k s++[[ao]]:=by rw[au,gM,ue,yW,de];have m:(2^k+s).testBit k=ae:=[aV,Nat.testBit_two_pow_add_eq,aix h];rw[bu];{rw[bu];rw[a6,SW,i,q];exact Nat.testBit_two_pow_add_gt [f] s};grind
def af_(n:Nat):br (n+n)=br n++[gz,n,i,n+i]:=by rw[List.range_add]
def aa9(J:[aP])(h:[b',a,x<n]):o4 b (a++[n])=(o4 b a&&gw b a n):=by rw[gZ];simp only[o4,gw,aF,ck,Iw,yY,ne_eq,rQ,cs,dL];rw[a8];{intro H;rw[a3,λp q m=>H p q [f],λO=>?_];rw[CF]at O;rw[bx,e,j,O,O,H _ (rQ.mp O) #[e6 j,kT Y]]};{rintro⟨L,W⟩p q⟨m,u⟩;obtain⟨_,z,_⟩:=J.apart p q;grind}
def KB(J:[aP])(l:[h]):∀k,[uC].filter (gy b l)=[lx]|0=>by(have:gy b l []=ae:=by simp[gy,o4]);simp[gM,dq,this]|[ao]=>by have q:=KB J l k;rw[aiy,Nat.mul_two,af_,de,yW,cq];rw[D,e,[R,br (2^k),gM [ao]]=[uC],by rw[a6,iL,s,h];exact Xf [f],z,[R,br (2^k),gM [ao]∘λi=>2^k+i]=[cp,[uC],a,a++[[ao]]],by rw[cq];rw[a6,iL,s,h];exact aai [f]];rw[e,z,q,Ix];(have B:[uC].filter (gy b l∘λa=>a++[[ao]])=[op,[uC],a,(wh b l [ao]&&gw b a [ao])&&gy b l a]:=by rw[a6,SW,a,O];rw[bM,s,O];simp[jJ,gy,aa9 J (λx L=>[aN,aa_ k s x L]:[b',gM k s,x<[ao]])];grind);rw[B,<-List.filter_filter,q];simp[dq];cases W:wh b l _ with|true=>rfl|false=>simp
def vG:∀k,[LY,k]|0,a,h=>by simp[dq,dL]at h;rw[bh,h,[qZ,Ig]]|[ao],a,h=>by have S:[LY,[ao]]:=λa O=>[aG,m,u,vG k _ O,#[m,λx L=>[aN,u x L]]];rw[aI,dq,h];rw[a2];{rw[aZ,cs.mp h,h,h,S _ h];{rw[K,B,d,rfl,b0.mp h];rw[bA,m,u,vG k _ [M,nN.mp d],#[?_,[gJ]]];{rw[rise,aiz];refine#[m,by simp,λx L y e=>?_];rw[aI,dL,e];rw[aN,u x L]};grind}};{exact S _ h}
def GH:∀k,[aO,[lx],2^k]|0=>by simp[dq]|[ao]=>by have q:=GH (b:=b) (l:=l) k;rw[b2,dq]
def LH:∀k,[e9,[lx]]|0=>by simp[dq]|[ao]=>by have q:=LH (b:=b) (l:=l) k;rw[bV,dq];{rw[cm,g8,#[q,?_,?_]];{rw[a5,aiA,Il,(q.filter _).imp (by simp)]};{intro a h c O e;rw[aN,(vG k a h).2 [ao] [f]]}};grind
def Gh:∀k i a,([aZ,[lx],a])->(a=[]/\i=0)\/∃pre n,a=[iD]/\pre∈[lx].take i/\[eP,n,k]|0,i,a,h=>by(cases i with|zero=>rw[aI,dq,h];grind|succ i=>rw[aI,dq,h])|[ao],i,a,h=>by simp only[dq]at h|-;rw[a2];{rw[ax,W];rw[aJ W];rw[Iy]at h;rw[a2];{rw[fr]};{rw[aK,B,d,rfl,b0.mp (cG h),kT #[B,[ao],Y,?_,[g],[g]]];rw[V,List.take_append,cs.mpr (e6 [q,gI [g],[M,nN.mp d]])]}};{rw[ax,W];rw[aw W];rw[fr]}
def Ql:∀k,[aR,[lx],0,[]]|0=>rfl|[ao]=>by have q:=Ql (b:=b) (l:=l) k;rw[b2,dq]
def Mv(J:[aP])(l:[h'])(k:Nat)(S:aj):[dX,3,81,[d0,[iU]],dq b l [bK],tD]:=by rw[[ck]];have r:=J.nc;rw[au,seval,Lu,aR,Fi 1 ([bK]+1) S _ _ [g] [g]];rw[ak,q,[hj,([an,b.coupons.length]+1)-1]=[bK],[g],q];rw[K,C,m,u,[j4,[3],2,[Gf],[sV,i,1+i],br [bK],λi e=>∃s,e=[[cc],[cc],[lv,dq b l i,tD],s,[W]],[[cr],[mr],[bm,[ax,[[ib]]]],[W],[W]],#[[W],Y],λi j e B#[s,O]=>by subst O;rw[M,U,rfl,dC.mp B];rw[gY]at U;rw[aa,uf];rw[ak,P,1+i=[cP,[aa]],[g],P];refine#[_,[[cc],[cc],[cc],[ay,[bd,[aa]]],[W]],Y,?_,_,Y];have W:[j7,run _ _ 78 [dd,[b9],[b3]] S]:=OS l [aa] [g] [g] k;rw[Y,seval,W];cases d:wh b l _ with|false=>rw[ac,seval,dq,d]|true=>rw[ah,H,GH (b:=b) (l:=l) i,c,2^i<=2^5,aiB [g] [g]];rw[sS tD (λa=>gw b a _) (λa=>tD (a++[[aa]])) _ (λa h=>by rw[D,L,[j7,run _ [dt] 77 [dd,tD a,[b3]] S],Pc (kT Y) [aa] _,dw,[bW]+1<=lim,by have:=kt i a ([M,vG i a h].imp [f]) [bq,vG i a h];rw[ek]];rw[Y,seval,L];cases f:gw b a _ with|false=>rfl|true=>rw[Y,seval,dw])];rw[D,z,[aO,[L2],[Q,dq b l i]],SX _ _,g,[kg,[R,dq b l i,tD],[cp,[L2],a,tD (a++[[aa]])]],by rw[aR,aR];rw[ek]];rw[b0,g,dq,d,de,cq];rfl]];rw[M,s,rfl,u];rw[b9,m,gY]
def V9(l:[h])(t:[al])(S:aj):eu [hv] [bw,t] S=[nx,t.all D.atom,[gX,bK l [bw,t]]]:=by have e:(D.tup t).jv=t.all _:=rfl;rw[aa,eu];rw[bo,h,t.all D.atom=ae];{rw[aV,[nw],aw h]}
def eS(b:a7)(l:[h'])(a:[aj]):D×D:=(tD a,[iY,m9 b l a])
def ZQ(b:a7)(l:[h])(C:[h])(a:[h])(h:a∈C):bK [zb] (tD a)=aa [iY,m9 b l a]:=by induction C with|nil=>grind|cons x r q=>rw[bT,oJ];rw[ac,eS,tD,tG];rw[bo,e,x=a];{have:[bH,x,a]:=[f];simp[this];exact q [f]}
def abh(b:a7)(l:[h])(C:[h])(a:[h])(v:D)(h:a∉C):cB [zb] (tD a) v=[zb]++[(tD a,v)]:=by(have:¬[a3,[zb].any [qr,tD a]]:=by rw[rR,CF];rintro⟨x,L,q⟩;simp[jJ,eS,tD,tG]at q;grind);rw[Y,cB,aw this]
def adk(l:[al])(U:l≠[])(S:aj):gE [eB] ag (aa (-1)) S=[ab,[bw,[v']]]:=by rw[ah,e,S6.mpr U,O,clip [E] (-1)=[E]-1,[b2,clip]];simp[gE,g6,nJ,O];rw[aw [g]];simp[List.dropLast_eq_take];rfl
def WH(l:[al])(S:aj):gE [aW] (aa 1) ag S=[ab,[X,[ed,1]]]:=by have O:clip _ 1=ek 1 [E]:=DZ _ 1;rw[aB,gE,g6,nJ,O,cut];congr 2;rw[aiC];split;{rw[gI (by simp)]};grind
def Vv{b:a7}(J:[aP]){nm st:[dk]}(N:[fU]){l:[h']}(U:[e'])(k:Nat)(S:aj):[cO,5,82,[d0,[iU]],.iY [R,dq b l [bK],eS b l]]:=by rw[a9,aU [fB] S (F:=D9) Y Y Y,d,[wB,([]:[al])],rfl];rw[b0,D9,Mv J l [ao],WH,d,Iu];rw[R,hh,Ql (b:=b) (l:=l) [bK],r,J.nc];rw[ah,w,GH (b:=b) (l:=l) [bK],c,2^[bK]<=2^5,aiB [g] [g]];generalize z:dq b l [bK]=C at*;rw[<-yZ];rw[K,t,m,u,[j4,[3],4,[GG],tD,[wz],λi e=>∃x,e=[[cr],[mr],[bn,.bZ [R,[qR],eS b l]],x],[[cr],[mr],[bn,.bZ [([ib],[iU])]],[W]],#[[W],by(have:C.take 1=[[]]:=by rw[List.take_one];rw[aV,List.head?_eq_getElem?,hh]);rw[a_,this]],λi a e L#[x,F]=>by subst F;rw[List.getElem?_drop]at L;rw[aj,q,[aR,dq b l [bK],1+i,a],[q,z,L],G,1+i<[iL],[dB,L],bU,C.Nodup,z▸LH (b:=b) (l:=l) [bK]];rcases Gh _ _ _ q with h0|⟨pre,n,rfl,h,I,p⟩;{omega};{rw[z]at h;rw[R,X,vG (b:=b) (l:=l) [bK] [iD] (cG q),E,vK pre U];rw[a0,B,[iD]∉[qR],by intro O;rw[M,j,P,kQ O];rw[Im]at P;rw[aA,P];{rw[aN,(v9 [dB,P] bU).mp (P.trans L.symm)]};{simp at P},T,C.take ([aa]+1)=[qR]++[[iD]],by rw[jK,[gf,[aa]=1+i],L];rfl,#[_,[[cr],[mr],[bn,.bZ [R,C.take ([aa]+1),eS b l]],[bm,tD [iD]]],Y,?_,_,Y]];rw[aj,f,[da,[iD]].dropLast=pre.map nD,[ey,de],Z,[da,[iD]]≠[],by simp,y,at_ [da,[iD]] (-1)=aa [dn],by rw[GW,de];simp[nD]];rw[a1,s,ZQ b l [qR] pre [q,[gf,[aa]=1+i],h],g,[wB,pre.map nD],EH pre,H,[wB,[da,[iD]]],EH [iD]];rw[D,A,[iQ,[R,[qR],eS b l]],by rw[aR,o5];rw[ek],Q,m9 b l [iD]=rP b (m9 b l pre) (ui b n),[gv,m9,de,yR]];have W:=abh b l [qR] [iD] [iY,m9 b l [iD]] B;rw[T,de];simp only[tD]at s W|-;simp only[seval,adk _ Z,f,V9,g,H,s,y,wG n I p,Pv J N (w9 n I p) E k,A,<-Q,W];rfl}]];rw[M,x,rfl,u];rw[m];rw[eq];(have:C.take ([Q,[wz]]+1)=C:=by apply gI;rw[cz,rW]);rw[this]
def ac5{c C a:[h]}(U:[iL]=[cu]):gK b c [fL]=([pd]&&gy b [ge] a):=by simp[gK,U,CC];rfl
def LR(J:[aP])(c:[h]):[uj]=[xF].flatMap λC=>[cp,[vn],a,[fL]]:=by have q:=tT 3 [cu];simp[up,qr];rw[bf,g_ _ 3,rows];induction rows with|nil=>rfl|cons C r m=>have hu:=[M,q C (by simp)];rw[ir,yW,m λx L=>q x [f]];rw[eT,e,[gz,2^[bK],s,[l8,C,gM [bK] s]].filter (gK b c)=[ap,[pd],[cp,[vn],a,[fL]],[]],by rw[<-KB J,Ix,Ix,cq];rw[ak,z,(gK b c∘λs=>[l8,C,gM [bK] s])=λs=>[pd]&&gy b [ge] (gM [bK] s),by funext s;exact ac5 hu,z];cases [pd];{simp};rfl]
def ana(l:[h])(S:aj):[he,tD l]:=(rfl)
def amO(l:[h])(S:aj):[vp,tD l,[E]]:=[h_,R.ok _ S=_]
def apD(l:[h])(S:aj):dk [l0] (tD l) S=[ab,[dN,nD]]:=(rfl)
def vw(b:a7)(l:[h'])(a:[aj]):Nat:=v_ b (m9 b l a)
def GF(b:a7)(c C a:[h]):Iz b c [fL]=[s8]:=rfl
def Vw(J:[aP]){c:[h]}(O:[h3])(B:[lf])(k:Nat)(S:aj):[k8,5,83,[hK]]=[bS,[Q,[uj]]]:=by rw[[ck]];rw[bK,f,[j7,run _ [fB] _ [oU] S],ND J O _,O6];have h:=tT 3 [cu];rw[[oe,C,[ih,[R,[ge],pD]],hu,by have F:[pk,[dd,[b9],tD C]]:=AW J (kT Y) O B [f] k;simp[seval,F]]];simp[seval];rw[[oe,C,nD [Q,[vn]],hu,by have d:[j7,run _ [fB] _ [d0,[iY,[ge]]] S]:=Mv J _ _;rw[bi,d,aR,nD]]];rw[ak,A,∀G:[h],[f4,λC=>nD [Q,[vn]]]=[da,[f4,λC=>[Q,[vn]]]],[Ff],A];rw[au,seval,oU,mP,LR J c];congr 3;generalize(g_ _ 3).filter _=rows;induction rows with|nil=>rfl|cons C r q=>rw[ir,cO,aR,<-q];rfl
def tU:([bg,Nat×Way])->D|ag=>[aY]|aa x=>[bw,[[l,[S]],tD [bG].uses,tD [bG].coupons]]
def aoA(p G q n:Int)(S:aj):xO [iw,p,G] [iw,q,n] S=[dU,ao (p<q)||(p==q&&ao (G<n))]:=by show R.ok _ S=_;rw[b2,lexLt]
def aaQ(J:[aP])(U:[fU]){c:[aj]}(O:[h3])(H:[lf])(k:Nat)(S:aj):[cO,6,84,[d0,[hK]],tU (CG b c)]:=by rw[aU [g0] S (F:=E5) Y Y Y];rw[ay,f,[j7,[k8,5,80,[hK]]],ND J O [dt],Q,tT 3 [cu]];rw[ac,seval,E5,f];let g:=λC G a=>rX G (Iz b c [fL],[fL]);rw[K,T,m,u,yb (S:=S) (t:=[3]) (b:=[fg,5,[.cS [gu] 6 [[eo,82,[fJ,64,[ai]]]] _]]) (λG e=>∃s B z Z,e=[[cr],[cc],[bm,tU G],s,B,z,Z]) tD _ [xF] ag [p1,[jd],[cb,[aY]]] #[[W],[W],[W],[W],Y] (λG C e#[s,B,z,Z,L]hu=>by subst L;rw[R,d,[bq,Q C [M,nN.mp hu]],q,vO J O H d];rw[ay,P,[j7,[cY,5,64,[dd,[hK],tD C],S]],AW J (kT Y) O H d [ao],l,Vv J U (nm:=nm) q k];rw[K,T,m,u,yb (S:=S) (t:=[gu]) (b:=[fg,5,[FY]]) (λG e=>∃B z Z,e=[[cr],[jd],[bm,tU G],[bm,tD C],B,z,Z]) [JK] (g C) _ G _ #[B,z,Z,Y] (λG a e#[B,z,Z,L]X=>by subst L;refine#[_,[[cr],[jd],[cc],[bm,tD C],[bm,tD a],[lv,m9 b [ge] a,pD],[ay,[s8]]],Y,?_,_,_,_,Y];have i:∀S,[k8,5,74,[b9]]=[bS,[s8]]:=Pb J U (vK a q) k;cases G with|none=>rw[b0,i,tU,g,rX,GF]|some y=>rw[ac,seval,i,tU];rw[ak,j,(ao ([s8]<[an,[b7]])||(([an,[s8]]==[b7])&&ao ([bW]<[an,y.2.coupons.length])))=better ([s8],[fL]) y,by rw[gZ];rw[aB,better,kP,aF,dZ,ip];omega,j];cases h:better _ y with|true=>rw[b0,g,rX,GF,h,tU]|false=>rw[aB,seval,g,rX,GF,h])];rw[ag,I,F,n,rfl,u];refine#[_,[[cr],[jd],[cc],[bm,tD C],I,F,n],Y,?_,_,_,_,_,Y];rw[au,seval,P,l,cq];have A:([aF,[EF]]∘eS b [ge])=[JK]:=rfl;rw[aV,A,m])];rw[ab,s,B,z,Z,rfl,u];rw[m];rw[CG,LR J c];generalize [xF]=rows;generalize ag=N;induction rows generalizing N with|nil=>rfl|cons C r W=>rw[nE,W,ir,yR,SV]
def aaG(r n j d:Nat)(L:r<=9)(hd:0<d)(h:n<=j):Cz r n d<=Cz r j d:=by rw[ym r n d L,ym r _ d L];have z:n/d<=j/d:=Nat.div_le_div_right h;rw[b,e,n/d=j/d];{(have U:n%d<=j%d:=by rw[R,m,Cw n d,u,Cw j d];grind);rw[bf,n%d,G];rw[bf,j%d,i];rw[bf,n/d,q];rw[eT,key,([EC,i,q,i])->[EC,G,q,G],by rintro(h0|O);rw[ar];{rw[bo,g,G=0];{simp[tl]at O|-;grind}}]};grind
def Qw(x:o0)(L:n' x)(n j d:Nat)(hd:0<d)(h:n<=j):jb x n d<=jb x j d:=by exact rJ _ (aaG _ _ _ _ L.rule (aio hd L.one) h)
def agC(x:o0)(L:n' x)(n:Nat):n<jb x n 1+x.unit:=by simp[jb,Nat.one_mul];rw[ym _ _ _ L.rule];rw[R,m,Cw n x.unit,u,aiq n L.one];split;{omega};grind
section
variable{b:a7}(hb:Wf b){ts:List Nat}(hts:Ts b ts)(hw:∀t∈ts,cR b t=af)(hss:cY b.taxes.length ts=ts)
include hw in theorem RC(a:Nat):[q_]=a:=by(have:(ts.filter λt=>[my])=[]:=by rw[Cy];intro t q;have:=hw t q;rw[aI,cR,this];grind);simp[g7,this,aH]
include hb hw in theorem Lz(h:a<=l):∀i n,gl [jk] n<=gl (tf b ts l i) n|0,n=>by simp[tf]|[aa],n=>by have m:=Lz h i;cases q:ts[i]? with|none=>rw[ah,U,v7.mp q,e,∀a,[BX],λa=>by simp[tf,gI U,gI (v8 U)]];grind|some t=>rw[R,j,cG q,d,hw t j];rw[aI,cR,d];rw[rb q,rb q,ng,ng,rf,rf];rw[eT,u,[uJ,[vA]]<=[uJ,[tO,l]*[jp]],by apply Qw _ hb.ro _ _ _ [g];rw[a5,RC hw,RC hw,mC _ (aiD h (m _))]]
theorem ab_{U:[aH]}(f g:U->Nat)(l:[h])(h:[gy,f x<=g x]):aH [g2]<=aH [aT,g]:=by induction l with|nil=>grind|cons a r q=>rw[R,m,q [f],u,[gI,a]];rw[dl]
include hb hts hw hss in theorem Vn(h:a<=e):iv b ts a<=iv b ts e:=by apply Qw _ hb.ca _ _ _ [g];refine aiD h ?_;simp[rV];rw[<-tm b _ _ (vH hts hss a),<-tm b _ _ (vH hts hss _)];apply ab_;intro t _;rw[rn hts hss,rn hts hss];rw[ch,Lz hb hw h ts.length (t+1)]
def sU(b:a7)(ts:[aj])(g N r:Nat):[P]:=r<=N/\(∀a<r,iv b ts a<g)/\(r<N->[ra,r])
include hb hts hw hss in theorem oK(g N:Nat):∀f lo q,lo<=q->q-lo<2^f->(∀a<lo,iv b ts a<g)->(q<N->[ra,q])->q<=N->sU b ts g N (e9 b ts g f lo q)|0,lo,q,m,u,e,L,z=>by have:lo=q:=[f];rw[bh,this,#[z,e,L]]|f+1,lo,q,m,u,e,L,z=>by simp[e9];rw[b,h,q<=lo];{rw[aJ h];have:lo=q:=[g];rw[bh,this,#[z,e,L]]};{rw[aw h];rw[b,J,[ra,[lh]]];{rw[V,aJ J,oK g N f _ _ [g] [g] e [f] [g]]};{rw[cm,aw J,oK g N f _ _ [g] [g] (λa x=>?_) L z];rw[aN,Vn hb hts hw hss [gf,a<=[lh]]]}}
theorem LJ(h:sU b ts g N r)(x:sU b ts g N' j)(hN:[ra,N])(a:[ra,N']):r=j:=by rw[D,e,[ra,r],by rw[aZ,aiE r N,U,U,[cW].2 U];{rw[ch,aiF [dK] U]},J,[ra,j],by rw[aZ,aiE _ _,U,U,[bG].2 U];{rw[ch,aiF [S] U]}];rcases aiv r _ with U|U|U;{rw[aN,[bG].1 r U]};rw[ar];{rw[aN,[cW].1 _ U]}
end
def oY(n:Nat)(c:Bool)(h:t e S=[dU,c]):jT t bd [aw] e S=[ap,c,(bd e S).bd (λf S=>[Kg,z,jT t bd n z S]),[dy,e]]:=by simp[jT,fF,h,fC,aft];cases c with|true=>rw[a6,bL,f,S];rw[bz,f]|false=>rfl
def Qe(hb:[aP])(a:[fU])(L:x∈[cH])(g N:Nat)(hN:N<=20000000)(k:Nat)(S:aj):[iG,5,111,[[b8],cH x,[l,g],[l,N]],e9 b [mh] g 30 0 N]:=by rw[b9,aU [fB] S (F:=D8) Y Y Y,D8];(have key:∀f fuel lo q j,f<fuel->q-lo<2^f->q<=20000000->lo<=20000000->∃C F,jT [wb,[gd,4],.lt [av] [ai]] [fg,4,[Gx]] fuel [[cr],[oL],[ay,g],[ay,[bd,q]],[ay,[bd,lo]],j] S=[dy,[[cr],[oL],[ay,g],[ay,C],[ay,e9 b [mh] g f lo q],F]]:=by intro f;induction f with|zero=>intro fuel lo q j m u B I;rw[cc,n,fuel=[aw],[pw]];rw[bm,q,j];rw[ak,O,¬lo<[an,q],[f],[Fi,af,O,ka]];rfl|succ f U=>intro fuel lo q j m u B I;rw[cc,n,fuel=[aw],[pw]];rw[aiy]at u;rw[aa,e9];rw[b,O,q<=lo];{rw[bm,q,j];have h:¬lo<[an,q]:=[g];rw[aV,[Fi,af,h,ka],aJ O]};{have h:[an,lo]<q:=[g];rw[[Fi,ae,h,iK],aw O,aJ Y];rw[D,d,∀S,yd (lo+q) 2 S=[bS,[bd,[lh]]],λS=>by rfl,P,∀S,[iG,4,75,[dd,cH x,[l,[bd,[lh]]]],[zZ]],K4 hb a L [lh] [g] k];rw[b,z,g<=[zZ]];{have J:g<=[an,[zZ]]:=[g];rw[aK,C,F,hh,U fuel lo [lh] [ay,[lh]] [g] [g] [g] [g],#[C,F,?_]];rw[b',aJ z,d,P,J];exact hh};{have J:¬[an,g]<=[zZ]:=[g];rw[aK,C,F,hh,U fuel ([lh]+1) q [ay,[lh]] [g] [g] [g] [g],#[C,F,?_]];rw[b',aw z,d,P,J];grind}});rw[K,C,F,hh,key 30 20000 0 N [W] [g] [g] [g] [g]];rw[aH,l,[cC,[bd,0]]=[cC,0],rfl,l,hh];rw[a_,hh]
def abH(hb:[aP])(hts:[gW])(hw:[EW])(hss:[mC])(g:Nat)(q:[Ad]):e9 b ts g 30 0 [n']=[mq,g]/\e9 b ts (g+1) 30 0 [n']=[mq,g+1]:=by rw[ah,hu,hb.ca.unit,c,∀a,a<iv b ts a+(jI b).unit,λa=>by have:=agC _ hb.ca (a+rV b ts a);rw[eG,iv]];rw[R,m,c [n'],u,c e_];have U:e_=20000000:=rfl;rw[a8];{apply LJ (N:=[n']) (N':=e_);rw[aq,oK hb hts hw hss g _ 30 0 _ [g] [g] (by simp) (by simp) [g],oK hb hts hw hss g _ _ 0 _ [g] [g] (by simp) (by simp) [g]];{omega};omega};{apply LJ (N:=[n']) (N':=e_);rw[aq,[B3,hb,hts,hw,hss],[BR,hb,hts,hw,hss]];{omega};grind}
def agv(hb:[aP])(h:[fU])(L:x∈[cH])(hw:[ez,[mh],[jO]=af])(g:Nat)(q:[Ad])(k:Nat)(S:aj):[cO,6,112,[dd,cH x,[l,g]],[ax,[nJ,e9 b [mh] g 30 0 e_,e9 b [mh] (g+1) 30 0 e_-e9 b [mh] g 30 0 e_]]]:=by rw[[ck]];have hu:=hb.ca.unit;rw[M,W,G,abH hb (Ts.of b _) hw vg g q];rw[aj,U,k8 _=jI b,rfl,e,[an,g]+(jI b).unit=[bd,[n']],rfl,z,g+1=[cP,g+1],rfl];simp only[seval,Rq,QF h,U,e,z,Qe _ _ _ g [n'] [g] k,Qe hb h L _ [n'] [g] k,W,G]
def amB:kB 5 []=ae:=(rfl)
def akH:kB 6 []=ae:=(rfl)
def aoI:kB 7 []=ae:=(rfl)
def alX:kB 8 []=ae:=(rfl)
def am0:kB 10 []=ae:=(rfl)
def aod:kB 11 []=ae:=(rfl)
def alv:kB 12 []=ae:=(rfl)
def exR{U:[aH]}(c:Nat)(S:aj):R U:=[kF,c]
def ra(n lo q:Int)(k:Nat)(S:aj):[j',1,86,[ei,[dn],lo,q],[mZ],[bS,n],5]:=by rw[[eL]];simp[Ny];rw[b,m,n<lo];{rw[bK,u,[mZ]=af,[eG,b3],m]};{rw[b,e,q<n];{have u:[mZ]=af:=[eG,b3];rw[au,seval,m,e,u]};{have u:[mZ]=ae:=[eG,b3];rw[bi,m,e,u]}}
def UX{J:[aH]}(C:J->D)(p:J->Bool)(c:Nat)(l:[h])(H:[gy,f (C x) S=[ap,p x,[ab,aa (C x)],[kF,c]]]):eJ f [aT,C] S=[ap,l.all p,[ab,[aT,C]],[kF,c]]:=by induction l with|nil=>rfl|cons x r q=>rw[R,L,H x (by simp),q,q [f]];rw[aB,bT,eJ,fF,L,e8];rw[b,e,p x=ae];{rw[aB,e,bI,fC,q,kM];rw[b,h,r.all p=ae];{simp[h,bI,fC,AY]};{simp[h,b8,yh,dj]}};{simp[e,b8,yh,nF,dj]}
def ti(l:[h])(lo q:Int)(k:Nat)(S:aj):[j',2,87,[ei,[dN,D.int],lo,q],l.all λn=>[mZ],[ab,[dN,D.int]],5]:=by rw[b9,[ck],Kk];rw[UX _ (λn=>[mZ]) 5 l (λn _=>by simp[seval,ra];rw[cS,[mZ]=ae])];rw[cS,[a3,l.all λn=>[mZ]]]
def Oa(n:Nat)(G:Int):b3 n 0 G=ao (n<=G):=rfl
def Cc(t:[h])(k:Nat)(S:aj):[j',3,88,[[fI]],lH t,[ab,[fI]],5]:=by rw[a9,[ck],m,lH t=(ao _&&t.all _),rfl];rw[b0,Mf,ra,aR,m,Oa];rw[b,h,[ms]];{have u:[an,t.length]<=2000:=[g];rw[au,h,u,iK,kM];by_cases q:[a3,t.all λc=>b3 c 0 255]<;>simp[seval,ti,q]};{have u:¬[an,t.length]<=2000:=[g];rw[eR,h,u,ka,nF]}
def Gw(n:Int)(k:Nat)(S:aj):[j',2,89,[[dn]],[q5,el],[bS,n],5]:=by rw[a9,[ck],e,b_ el=40,rfl];rw[bi,RT,ra,e];rw[cS,b3 n 0 40=ae]
def EC(n:Int)(k:Nat)(S:aj):[j',2,90,[[dn]],[q5,dy],[bS,n],5]:=by rw[a9,[ck],e,b_ dy=10000000,rfl];rw[bi,J2,ra,e];rw[cS,b3 n 0 10000000=ae]
def BP(h:[gy,0<=x]):[oF]=[da,[ij]]:=by rw[cy,cq];apply iL;rw[fN,jJ,nD]
def aak(h:[gy,0<=x]):l.sum=aH [ij]:=by rw[<-mP,cy,cq];rw[bu];(conv=>lhs;rw[<-v6 l]);apply iL;grind
def lA:b3 x lo q=ae↔[we,x]:=by simp[b3]
def ahh:b3 x lo q=af↔¬[we,x]:=by simp[b3]
def B'(n:Nat):b_ n=n:=rfl
def VH(l:[h])(k:Nat)(S:aj):[j',3,91,[[dN,D.int]],[w7],[A,aH [ij]=0,[kF,12],[ab,[hu,[ij]]]],5]:=by rw[a9,[ck],e,b_ dy=10000000,rfl];rw[b0,OP,ra,aR,Oa,e];rw[b,h,[E]<=20];{have u:[an,l.length]<=20:=[g];rw[au,h,u,iK,kM];rw[b,m,[a3,l.all λc=>b3 c 0 10000000]];{rw[R,q,[H4,m],a,aak q];rw[b,z,aH [ij]=0];{have:[a3,l.sum==0]:=[f];rw[eR,ti,m,this,z]};{have:[bH,l.sum,0]:=[f];simp[seval,ti,m,this,z,<-BP q]}};{simp[seval,ti,m]}};{have u:¬[an,l.length]<=20:=[g];rw[eR,h,u,ka,nF]}
def yc(i:Int)(k:Nat)(S:aj):[j',1,93,[tl],[t4],[ab,cH [k7]],7]:=by rw[[eL]];simp[seval,OV,aR];rw[b,m,i<1];{rw[bK,u,[t4]=af,[eG,b3],m]};{rw[b,q,[bR]<i];{(have u:[t4]=af:=by first|rfl|(rw[ahh,B'];omega));rw[bi,m,q,u]};{rw[ay,u,[ry],by first|(rw[lA,B'];omega)|rfl,e,by have:=tz (b:=b) i.toNat [g] [g];rw[ae,[gf,i.toNat=i],this,this]];rw[eR,m,q,u,e]}}
def ads(J:[aP])(i:Int)(k:Nat)(S:aj):[j',2,94,[tl],[t4],[ap,[Ci],[kF,10],[ab,cH [k7]]],7]:=by rw[[ck]];rw[ac,seval,O3,yc];rw[b,h,[ry]];{(have j:[eP,i.toNat,[bR]]:=by rw[lA,B']at h;omega);obtain⟨_,m,z⟩:=J.item _ (j7 _ j.1 j.2);have g:=Ae m z;rw[ac,seval,h,g];rw[[oe,t,D.bl (! [jO]),q,by rw[M,x,B,[M,vD.mp q]];rw[bi,nD,oC t x B,cR]]];rw[eq];rw[ak,e,((IA (λt=>! [jO]) [Dz]).all id)=! [Ci],by rw[wa,gZ];simp[ck,Iw,SY,cR];rw[a8];{intro h t q;rw[ch,h t (vD.mpr [f])]};{intro h t q;rw[ch,h t [bq,vD.mp q]]},e];rw[b,u,[Ci]=ae];{simp[seval,u]};{simp[seval,u]}};{simp[seval,h]}
def Du(c:[h])(k:Nat)(S:aj):[j',3,95,[d0,[za]],jL b c,[ab,[hu,cy c]],5]:=by rw[a9,[ck],e,b_ el=40,rfl];rw[aB,seval,QN,aR,jL,e];rw[b,h,[h3]];{rw[D,u,(!([an,c.length]==[bR]))=af,[f],m,[a3,[dP]==[bR]],[f]];rw[ac,u,m,kM];rw[aE,[a3,c.all λn=>b3 n 0 40]];{have z:=[H4,q];simp[seval,ti,q];simp[BP z]};{simp[seval,ti,q]}};{rw[D,u,[a3,!([dP]==[an,b.items.length])],[f],m,[bH,[dP],[bR]],[f]];rw[bi,u,m,nF]}
def acz(w:[h])(k:Nat)(S:aj):[j',3,96,[d0,[X,[vM]]],[Ba],[ab,[hu,cy [mE]]],5]:=by rw[a9,[ck],e,b_ qr=3,rfl];rw[au,seval,P_,aR,e];rw[b,h,w.length<[cu]];{rw[D,u,[an,w.length]<[cu],[g],m,[bH,[Q,[mE]],[cu]],[f]];rw[au,seval,u,m,nF]};{rw[D,u,¬w.length<[an,b.bundles.length],[g],m,[a3,[Q,[mE]]==[cu]],[f]];simp only[seval,u,m,kM,yk,<-CA,ti,aR];rw[aE,[hV,[mE],n,b3 n 0 3]=ae];{have z:=λx L=>[M,lA.mp (ck.mp q x L)];simp[seval,q,BP z]};{simp[seval,q]}}
def aem(l:[al])(i:Nat)(S:aj):gE [aW] (aa i) ag S=[ab,[X,[ed,i]]]:=by simp[gE,g6,nJ,DZ,cut];congr 2;rw[aiC];split;{rw[gI (by simp)]};{rw[o6 (by simp),o6 [g]];simp}
def ma(lo q:Int):([a4])->Bool|[]=>ae|n::r=>[mZ]&&ma [aw] q r
def MQ(e:Int):[h4,l,lo,Int,1<=lo,ma lo e l=((l.all λn=>b3 n 1 e)&&(y3 [ij]&&[cZ,l,[],ae,n::_,ao (lo<=n)]))]|[],lo,_=>rfl|[n],lo,h=>by simp[ma,e8,Iu,yX,cy,bT,uq,y3,kM];rw[gZ];simp[aF,lA,dZ];omega|n::G::r,lo,h=>by rw[ma];rw[aE,b3 n lo e=ae];{rw[lA]at q;rw[MQ _ _ _ [g]];rw[au,e8,cy,bT,y3];rw[gZ];simp[aF,lA,dZ];grind};{have m:=[aD,q];rw[m,nF];symm;rw[yY];intro O;simp[aF,e8,lA,dZ]at O;apply q;rw[cz,lA]}
def J'(q:Int)(l:[h]):ma 1 q l=((l.all λn=>b3 n 1 q)&&y3 [ij]):=by rw[MQ _ l 1 [g]];cases l with|nil=>rfl|cons n r=>rw[gZ];simp[aF,e8,lA];grind
def D7:∀l,y3 l=ae->rise l|[],_=>Ig|[a],_=>by simp[rise]|a::[cI],h=>by simp[y3,aF,dZ]at h;have q:=D7 _ [cW];rw[rise,kO];rw[a3,[gJ],q];rw[aJ,[c4,L],rfl,L];rw[ar];{exact y4 [dK] ((kO.mp q).1 x L)}
def ZS(w:[h])(W:[qn])(k:Nat)(S:aj):[j',2,97,[d0,[X,[vM]]],ma 1 [rk] [oy],[ab,[dv,[oy],D.int]],5]:=by rw[[ck]];simp only[seval,Kb,aR,aem,<-yZ];have f:[aO,[oy],2000]:=[f];rw[bf,w.drop _,l];(have key:∀(l:[h])(lo:Int)(N:[al])(h:Slot),[eu]+[E]<=2000->[ap,ma lo [rk] l,∃d I,[F8]=[dy,[[cr],[fH,[vM]],[i0,[oF]],[ay,d],I]],[F8]=[kF,5]]:=by intro l;induction l with|nil=>intro lo N h _;exact#[lo,h,by simp[cV,M.pure]]|cons n r q=>intro lo N h U;rw[aI,b7,U];have g:[eu]<lim:=[fu];rw[b,u,b3 n lo [rk]=ae];{have q:=q [aw] (N++[[dn]]) [ay,n] ([bE]);rw[Y,bT,cV];have a:[rk]=(b.coupons.length):=rfl;rw[a]at u q|-;simp[seval,aR,ra,u,g,ma];rw[aI,em,q];exact q};{have O:=[aD,u];simp[bT,cV,ma,O,nF];rw[aH,a,b_ _=[bK],rfl,a,O];rw[bi,aR,ra,O]});have:=key l 1 [] [W] [f];rw[b,L,ma 1 [rk] l=ae];{rw[aJ L]at this|-;rw[K,d,I,m,this];rw[a_,m]};{rw[aw L]at this|-;rw[a_,this]}
def adM(b:a7)(w:[h]):nO b w=[ap,[Ba]&&ma 1 [rk] [oy],aa [l8,cy [mE],cy [oy]],ag]:=[fN,nO,J']
def NH(J:[aP])(c w:[a4])(W:[qn])(k:Nat)(S:aj):[Gw,6,98,[bw,[[hu,cy c],[X,x.uses.map nD],[X,x.coupons.map nD]]]]:=by rw[[ck]];rw[aj,g,∀S,run prog _ 95 [oU] S=[ap,jL b c,.ok _ S,[kF,5]],Du c [dt],d,∀S,run prog _ 96 [oU] S=_,acz w [dt],h,∀S,[k8,5,97,[b9]]=_,ZS w W _];rw[ac,seval,N9,g];rw[b,m,[ss]];{rw[au,seval,m,d,adM];rw[b,u,[Ba]=ae];{rw[au,seval,u,h,kM];rw[b,z,ma 1 [rk] [oy]=ae];{have U:=z;rw[J',aF]at U;rw[a1,a,λx L=>lA.mp (ck.mp U.1 x L),f,[b',[oy],0<=x],λx L=>[f],N,[b',cy _,[eP,x,[bK]]],λx L=>by rw[K,y,q,rfl,b0.mp L];have:=a y q;rw[B']at this;omega];simp only[jL,aF,ip,ck]at m;rw[D,j,[Q,cy c]=[bR],by simp[cy,m.1],B,[b',cy c,x<=40],[Hl,m,b_ el=40]];have O:=u;rw[aO,aF,ck,O];rw[aj,l,[Q,cy [mE]]=[cu],[hX,cy],I,[b',cy _,x<=3],[Hl,O,b_ qr=3],i,[j7,run prog _ 79 [Dn] S],RL J j B l I N (D7 _ U.2) k];rw[au,seval,z,BP f,i];rw[b,P,gK b (cy c) [l8,cy [mE],cy [oy]]=ae];{rw[Y,seval,P]};{have s:=[aD,P];rw[Y,seval,s]}};{rw[Y,seval,z]}};{rw[ac,seval,u,nF]}};{have G:=[aD,m];rw[Y,seval,G]}
def sD(t:cK):D:=[eV,t]
def a9(r:bO):D:=[X,r.map sD]
def jn:bO->cK|[]=>[]|w::r=>w++r.flatMap λx=>32::x
def Fj(r:bO):S7 r=jn r++[10]:=by cases r with|nil=>rfl|cons w r=>simp[S7,jn]
def RK(a c:cK):tx (a++c)=tx a++tx c:=by simp[tx]
def JU:∀r,tx (jn r)=lY [32] (r.map tx)|[]=>rfl|[w]=>by simp[jn,lY]|w::v::r=>by have q:=JU (v::r);simp[bT,lY]at q|-;rw[<-q];rw[ac,jn,ir,RK];rw[bG,tx (32::v)=[32]++tx v,rfl]
def Gd(t:cK):[P]:=∀c∈t,[rL]
def Gd.app(m:Gd a)(u:Gd c):Gd (a++c):=λx L=>[d_,cs.mp L,h,h,m x h,u x h]
def Aq(h:[rL]):[c5]=c:=by simp[sg,aJ h];omega
def Gd.jn(h:∀w∈r,Gd w):Gd (jn r):=by cases r with|nil=>intro c O;rw[aI,Ir.jn,O]|cons w r=>refine Gd.app [f] λc O=>?_;rw[K,x,L,O,kc.mp O];rw[aJ,[c4,O],rfl,O];{omega};{exact h x [f] c O}
def Wl(h:Gd t):[R,tx t,[sV,n,n]]=t.map D.int:=by rw[tx,cq];rw[a6,iL,c,O];simp[jJ,Aq (h c O)]
def D6(h:dS t=ae):Gd t:=by simp[dS,aF,ck]at h;intro c O;have:=[aE,h].1 c O;simp[gN,fm,kP,aF,dZ]at this;omega
def U5(h:dS t=ae):[na]<=8:=by rw[aI,dS,h];grind
def M_(n:Nat):∀c∈(kK n).toList,48<=c.toNat/\c.toNat<=57:=λc O=>by rw[aH,e,[C2],S8,e,O];have:=Nat.isDigit_of_mem_toDigits [g] [g] O;simp[Char.isDigit,aF,dZ]at this;rw[aQ,[nc],this.2]
def WL(n:Nat):Gd (bJ n):=λc O=>by rw[aO,bJ,b0,O];rw[K,x,L,rfl,O];rw[aN,M_ n x L]
def RN(n:Nat):tx (bJ n)=digits n:=by rw[au,tx,bJ,digits,cq];rw[a6,iL,x,L];have:=M_ n x L;rw[fN,jJ,sg]
def Y8(n:Nat)(h:[nV]):[aO,bJ n,18]:=by have e:[C2]:=S8;simp[bJ,aR,e];exact(Nat.length_toDigits_le_iff [g] [g]).mpr h
def gU(n:Nat)(S:aj)(h:[nV]):dk .str [dn] S=[ab,sD (bJ n)]:=by simp[dk];rw[aJ [f],sD,RN];rfl
structure Rw (r : bO) : Prop where
 len : r.length ≤ 40
 it : ∀ w ∈ r, w.length ≤ 20 ∧ Gd w
def EY(l:[h])(G:Nat)(h:[gy,x<=G]):l.sum<=[E]*G:=by induction l with|nil=>simp|cons a r q=>rw[R,m,q [f],u,[gI,a]];simp[aih,b7,yT];omega
def nh(t:cK):[Q,tx t]=[na]:=by simp[tx]
def Ki(l:[h]):pF [aT,sD]=aa [aT,tx]:=L4 _ l
def QB(h:Rw r)(k:Nat)(S:aj):[cO,1,21,[a9 r],sD (jn r)]:=by rw[[eL]];rw[D,m,([R,r.map tx,mw].sum+[Q,r.map tx]*[Q,[32]])<=lim,by have u:=EY [R,r.map tx,mw] _ (by rw[fE];rw[V,nh,[M,h.it w W]]);simp[aR,b7,gL]at*;have:=h.len;rw[fu],u,jD .join [K,[32]] [X,r.map sD] S=[ab,[K,lY [32] (r.map tx)]],by rw[aB,jD,fF,Ki,l3,fC];rw[a_,aJ m]];simp[seval,Qh,a9,u,sD,JU]
def Gm:∀l,lY [] l=l.flatten|[]=>rfl|[w]=>by simp[lY]|w::v::r=>by rw[lY,Gm _];{simp};simp
def QY(a:[h])(h:[ez,a,Gd t/\[ms]])(U:[bW]<=1000)(k:Nat)(S:aj):[dX,1,22,[[X,[kq]]],[u3],D.int]:=by rw[[eL]];simp[seval,Mj];rw[[oe,t,sD (t++[10]),q,by rw[aj,m,[kg,tx t,[10]],by rw[nh];have:=[bq,h t q];simp[lim,b7,gL];omega,u,oz [eV,t] [K,[10]] S=[ab,[K,tx t++[10]]],by rw[aa,oz];rw[a_,aJ m],e,tx [10]=[10],rfl];rw[eR,sD,u,RK,e]]];rw[ay,A,[f5,λt=>sD (t++[10])]=[R,[f5,[t8]],sD],by simp,J,by have u:=EY [R,[En],mw] 2001 (by rw[fE];rw[ba,nh]);rw[ao,aR,u];exact c9 u (mC _ U)];rw[D,B,jD .join [K,[]] [dv,[f5,[t8]],sD] S=[ab,[K,[En].flatten]],by simp only[jD,fF,Ki,l3,fC,Gm];rw[a_,aJ (by rw[Y,gL,lim];omega)],z,[En].flatten=tx [u3],by simp[tx,List.flatMap,List.map_flatten];rfl];rw[D,d,[aO,tx [u3],lim],by rw[<-z,List.length_flatten];rw[ek],j,[np,7,[eV,[u3]],[cp,tx [u3],c,[K,[c]]]],by show [ES];rw[a_,aJ d]];rw[b',A,B,z,j];rw[dF _ _ _ (λc O=>by rfl)];simp[seval];rw[Wl (λc O=>by rw[K,t,q,O,kc.mp O];rw[sz,O,(h t q).1 c O])]
def afl:[d3,"has"]=[zq]:=by rfl
def acV:[d3,"uses"]=[yl]:=by rfl
def Xd:[d3,"with"]=[Dq]:=by rfl
def x9:[d3,"line"]=[nW]:=by rfl
def LF:[d3,"tax"]=[hP]:=by rfl
def Eg{U:[aH]}(C:U->D)(a:U->cK)(hd:∀x S,[he,C x])(O:∀x S,[fv,C x,0,[eV,a x]])(w:cK)(G:[h])(ns:[h])(q:Sq v (ns.map nD))(h:∀n∈ns,[nV])(k:Nat)(S:aj):[dX,1,99,[[eV,w],[X,[f4,C]],v],G.zip ns,[aF,a9 [w,a [L],bJ [Z]]]]:=by rw[[eL]];rw[bi,JY,q.zip,xw];rw[a_,dF _ _ _ (λp e=>by have:=h _ [bq,kb e];rw[eR,nD,hd,O,gU _ _ this];rfl)]
def agL(n:Nat):(digits n==[48])=ao (n=0):=by rw[gZ];simp[ip,dZ];rw[a8];{intro h;rw[aj,e,[C2],S8,m,[R,y5 10 n,SG]=[R,['0'],SG],[bD,e,h],u,y5 10 n=['0'],by cases hh:y5 _ n with|nil=>grind|cons a r=>rw[hh]at m;simp[bT,uq,S9,aiG]at m;rw[m.2];rw[bu];exact Char.toNat_inj.mp m.1];rw[bk,q,Nat.ofDigitChars_ten_toDigits (n:=n),u,q];rw[jL,q]};{intro h;subst h;rfl}
def QM{U J:[aH]}(d:U)(F:U->Nat->J):[h4,G,ns,[h],[gq]=[gL],(br [gq]).filterMap [B0,[kQ],G.getD i d]=[fb,(G.zip ns).filter [aF,! ao ([Z]=0)],F [L] [Z]]]|[],[],_=>rfl|[],[d5],h=>by rfl|[d5],[],h=>by simp|x::G,n::ns,h=>by have q:=QM d F G ns [f];rw[b7,yU,rO,rS];rw[eT,e,([B0,[ir,n::ns],(x::G).getD i d]∘CB)=[B0,[kQ],G.getD i d],rfl]
structure jA (b : a7) : Prop where
 ok : ∀ x ∈ c_ b, dS x = ae
def jA.BF(h:jA b)(L:x∈[hw]):[sR]:=[x_]
def jA.item(h:jA b)(L:x∈[cH]):[sR]:=[x_]
def jA.iR(h:jA b)(L:x∈[iy]):[sR]:=[x_]
def jA.jW(h:jA b)(L:x∈[jz]):[sR]:=[x_]
def xz(b:a7)(i:Nat)(m:1<=i)(u:i<=[bK]):iM b i=(ui b i).name:=by have q:[cB]<[bK]:=[g];simp[iM,d0,ui,hY,dQ,cQ q,g6,nJ]
def afB(J:[aP]){c C a:[aj]}(O:[h3])(X:[lf])(U:[iL]=[cu])(hu:[lk])(Z:[sb])(dw:[bW]<=5)(k:Nat)(S:aj):[dX,2,100,[BQ],o7 b c [fL],a9]:=by rw[aU [ao] S (F:=Ff) Y Y Y];rw[D,m,∀S,[dX,1,99,[[K,[zq]],[X,[so]],[hK]],b.items.zip c,[aF,a9 [p5,"has"]]],λS=>[bD,afl,Eg cH (·.name) [sC] [sC] [lH] [cH] c (e6 Y) (λn L=>[aN,X n L]) k S],u,∀S,[dX,1,99,[[K,[yl]],[vs],[X,[ju]]],[hc],[aF,a9 [p5,"uses"]]],λS=>[bD,acV,Eg dn (·.name) [sC] [sC] [m6] [iy] C (e6 Y) (λn L=>[aN,hu n L]) k S]];rw[R,q,J.ni,H,J.nb];let T:=[fb,b.items.zip c,([p5,"has"],[Z])];let R2:=[fb,[hc],([p5,"uses"],[Z])];rw[D,P,[R,b.items.zip c,[aF,a9 [p5,"has"]]]=T.map [sk],by rw[Y,T,cq];rfl,F,[R,[hc],[aF,a9 [p5,"uses"]]]=R2.map [sk],by rw[Y,R2,cq];rfl];rw[aj,E,[lE]<=8,by rw[ac,T,aR,mD];omega,y,R2.length<=3,by rw[ac,R2,aR,mD];omega,g,[kg,T.map [sk],R2.map [sk]],by rw[Y,aR,lim];omega];rw[aX,seval,Ff,m,u,P,F,g];rw[<-de];rw[ak,N,∀r∈T++R2,∃w n,r.1=[w,n,bJ r.2],λr h=>by rw[aJ,cs.mp h,h,h];{rw[bM,p,h];exact [v6]};{rw[bM,p,h];exact [v6]},sS [sk] [uo] [sk] (T++R2) (λr h=>by rw[K,w,n,e,N r h];rw[ak,j,a9 r.1=[ax,[sD w,sD n,[K,digits r.2]]],by rw[e];rw[aB,a9,bT,uq,sD,RN],j];rw[Y,seval,agL];rw[b,B,r.2=0];{rw[ac,seval,B,iK]};{rw[ac,seval,B,ka]})];rw[eq];rw[dF nD (λi=>a9 [[m7],iM b i]) a (λi W=>by rw[M,G,I,Z i W];rw[aX,seval,nD,wG i G I,xz b i G I,a9,sD,Xd])];rw[D,z,[aO,(T++R2).filter [uo],[Q,T++R2]],SX _ _,d,[kg,[cp,(T++R2).filter [uo],r,a9 r.1],[f5,λi=>a9 [[m7],iM b i]]],by rw[cO]at z;rw[Y,aR,lim];omega];rw[Y,seval,d];rw[aB,o7,de,cq,yW,em];rw[D,s,((kW b).filterMap [Cy])=[lS,T.filter [uo]],by have:=QM [tM,[],0,[]] (λx n=>[[lH],x.name,bJ n]) [cH] c O.symm;rw[Y,kW,air];rw[ac,T,Ix,cq];rw[aV,[iP,([Cy]∘λi=>[aa])=λi=>[A9,c.getD i 0,(b.items.getD i [tM,[],0,[]]).name]],this],f,[K6,C]=[lS,R2.filter [uo]],by rw[ac,R2,en,SR];generalize [hc]=l;induction l with|nil=>rfl|cons p r A=>grind];rw[s,f,cq,cq];rfl
def abY(h:[Br]=ae):Gd (ay s):=λc O=>[f]
def hO(h:[a3,[Br]&&ao [zV]]):[zV]/\Gd (ay s):=by rw[aO,aF,dZ,h];rw[aQ,[cW],abY [dK]]
def j4(h:dS t=ae):[na]<=20/\Gd t:=#[[aN,U5 h],D6 h]
def fM(n:Nat)(h:[nV]):[aO,bJ n,20]/\Gd (bJ n):=#[[aN,Y8 n h],WL n]
def Rw.tp(h:[bW]<=20/\Gd a)(O:[dP]<=20/\Gd c)(hd:d.length<=20/\Gd d):Rw [a,c,d]:=#[by simp,λw W=>[f]]
def Rw.vk(h:[bW]<=20/\Gd a)(O:[dP]<=20/\Gd c):Rw [a,c]:=#[by simp,λw W=>[f]]
def JR(J:[aP])(U:[e']):∀n∈qp b l,[nV]:=λn h=>by rw[Hu]at h;rw[bM,t,h];rw[ah,q,xI U,m,iG b [h6] t<=[Q,[h6]]*100000000000,by rw[a6,lW,g,a];rw[M,m,u,q.ts g a];rw[bd,N,c9 (yq [D3]) q.le,c9 (c9 (Cf J m u _ _) (rJ 4 (Iq N _))) ([af])]];have u:=mC 100000000000 q.len;omega
def PQ(J:[aP])(U:[e'])(h:rT b l<100000000000000000):v_ b l<1000000000000000000:=by have:=Hy _ J.ca (rT b l) 1 [g];rw[eG,v_]
def Kd(J:[aP])(U:[e']):rT b l<100000000000000000:=[Fz]
def qT(b:a7)(l:[h']):List bO:=[iE,[Ch]]++([R,(d3 b).zip (qp b l),λx=>[ay "tax",[S],bJ [bG]]]++[[ay "sum",bJ (nM l)],[ay "due",bJ (rT b l)],[ay "pay",bJ (v_ b l)]])
def afe(J:[aP])(h:[fU])(U:[e'])(k:Nat)(S:aj):[dX,5,101,[d0,[iU]],qT b l,a9]:=by rw[[ck]];rw[R,a,Kd J U,c,PQ J U a];rw[a1,d,wP U,e,[pk,[[K,[hP]],[b9],[b9]]],λS=>by exact Eg eh _ [sC] [sC] (ay "tax") [hw] _ (e6 Y) (JR J U) [f2] S,j,[pk,[[sY],[b9]]],Ef J h U k];rw[D,m,[pk,[dd,[b9],[b9]]],El J U [dt],u,∀S,[p9,[[sY],[b3]]]=[bS,v_ b l],B0 J h _ [g] [ao]];have y:=Bp l [f2];simp[seval,Lr];rw[a9,dF _ (λx=>a9 [Ch]) l (λx L=>by rw[K,C,Z,x3,U.it x L];simp[seval,tz _ C Z,[fS,[bG]],a9,sD,x9,gO]),q,[aO,b.taxes.zip (qp b l),4],by rw[mD];rw[aN,J.nt]];rw[ah,z,U.len,O,[kg,[iE,a9 [Ch]],[fb,b.taxes.zip (qp b l),a9 [p5,"tax"]]],by rw[Y,aR,lim];omega];simp only[seval,j,m,e,O,y,u,[fS,nM l],[fS,rT b l],gU _ _ [g]];rw[aJ (by rw[ac,cO,aR,lim];omega)];simp[qT,de,cq,em,d3,SR];rfl
def Ed(b:a7)(c:[h])(w:Way):ur b c w=[R,o7 b c w++qT b (mE b c w),jn]:=by apply iL;intro r _;rw[Fj,List.dropLast_concat]
def FZ(z:jA b){c C a:[h]}(O:[h3])(H:[lf])(hu:[lk])(N:[sb]):∀r∈o7 b c [fL],Rw r:=by intro r J;simp only[o7,cs,uk,b0]at J;rcases J with⟨i,h,q⟩|⟨p,B,q⟩|⟨i,h,rfl⟩;{rw[aA,q];rw[ar];{rw[aI,cX,q];subst q;simp[kW,b0,ja]at h;rw[K,j,W,rfl,h];rw[br,m,e7 c [cU]<=40,H _ [qp],[DB,z.item [E8]]]}};{rw[aA,q];{simp at q};{rw[aI,cX,q];subst q;have U:=kb B;simp[en,b0]at U;obtain⟨⟨x,L,e⟩,u⟩:=U;have:=hu _ u;rw[bD,e,[DB,z.iR L]]}};{rw[M,G,I,N i h];rw[V,xz b i G I,Rw.vk (hO Y) (j4 (z.jW (w9 i G I)))]}
def DY(J:[aP])(q:jA b)(U:[e']):∀r∈qT b l,Rw r:=by rw[R,a,Kd J U,c,PQ J U a];have d:=wP U;intro r O;simp only[qT,cs,b0,bX,dR,d4]at O;rcases O with⟨x,L,rfl⟩|⟨p,m,rfl⟩|rfl|rfl|rfl;{rw[bx,C,Z,x3,U.it x L,[DB,q.item (j7 _ C Z)]]};{have h:=kb m;simp[d3,b0]at h;obtain⟨⟨x,L,e⟩,u⟩:=h;have:=JR J U _ u;rw[bD,e,Rw.tp (hO Y) (j4 (q.BF L)) (fM _ this)]};rw[b6,Rw.vk (hO (rfl)) [fq],Rw.vk (hO Y) [fq],Rw.vk (hO Y) [fq]]
def M3(J:[aP])(c:[h])(w:Way):[aO,o7 b c w,11+w.coupons.length]:=by rw[R,q,J.ni,H,J.nb];simp[o7,cO,aR];rw[D,m,[aO,(kW b).filterMap [Cy],8],c9 (SU ..) (by simp[kW,q]),u,[aO,[K6,w.uses],3],c9 (SU ..) (by simp[mD,en,aR];omega)];omega
def Nh(J:[aP])(U:[e']):[aO,qT b l,47]:=by have:=U.len;have:=J.nt;simp[qT,cO,aR,mD,d3,b7,gL];omega
def O'(J:[aP])(m:jA b)(i:[fU]){c C a:[h]}(O:[h3])(B:[lf])(U:[iL]=[cu])(hu:[lk])(L:[sb])(h:rise a)(k:Nat)(S:aj):[dX,6,102,[BQ],ur b c [fL],sD]:=by rw[[ck]];rw[a1,dw,c9 [nC,h.imp [f],L] J.nc,q,fh b [z5],vK _ (vO J O B hu),e,[pk,[xX]],KW J i (e6 Y) (e6 Y) O B hu L k];rw[D,d,[pk,[Dn]],afB J O B U hu L dw [f2],f,[pk,[oU]],afe J i q k];rw[R,l,M3 J c [fL],s,Nh J q];simp only at l;(have W:[kg,[jP,o7 b c [fL]],[jP,qT b [z5]]]:=by simp[aR,lim];omega);rw[b0,Kh,e,d,f,W];rw[<-de,[oe,r,sD (jn r),h,by have g:Rw r:=[d_,cs.mp h,h,h,FZ m O B hu L r h,DY J m q r h];simp[seval,QB g]]];simp[Ed,cq];rfl
def aaW:[d3,"from"]=[uw]:=by rfl
def afH:[d3,"step"]=[uv]:=by rfl
def agg:[d3,"free"]=[uu]:=by rfl
def wN:[d3,"of"]=[mF]:=by rfl
def YE:[d3,"on"]=[mN]:=by rfl
def X_:[d3,"in"]=[s9]:=by rfl
def qN:[d3,"coupon"]=[hJ]:=by rfl
def Bw:[d3,"cap"]=[qw]:=by rfl
def z0:[d3,"when"]=[p6]:=by rfl
def Ag:[d3,"round"]=[i']:=by rfl
def Bf:[d3,"cash"]=[im]:=by rfl
def z_:[d3,"by"]=[jm]:=by rfl
def zR:[d3,"total"]=[p2]:=by rfl
def agW(J:[aP])(L:x∈[hw])(k:Nat)(S:aj):[cO,1,113,[d0,eh x],a9 (nP b x)]:=by rw[[eL]];rw[R,O,J.rate x L,q,J.qZ x L];rw[M,i,d,kQ L];rw[M,C,I,J.over i x d];have G:=[dB,d];simp[seval,P3,[fS,x.rate]];rw[b,W,x.within=ae];{have e:=q W;simp[seval,W,e,nP,a9,sD,LF,X_]};{have h:=[aD,W];rw[b,e,x.over=0];{simp[seval,h,e,nP,a9,sD,LF,YE]};{have m:[an,0]<x.over:=[g];rw[b0,h,m,oC (b:=b) x.over [g] [g],nP,e];rfl}}
def Lo(f:[h])(a:cK)(W:tx a=f)(C:[h])(z:∀s∈C,[gt]<=40/\[nt]<=10000000)(N:[al])(U:[eu]+[iL]<=1000)(q:D)(h j:Slot)(k:Nat)(S:aj):∃I F,cV [oJ,cf k,[wT,f]] [gu] (C.map eR) [JQ] S=[dy,[[cb,bk],[oL],[cb,q],[i0,C.map [tb,a]],I,F,[W]]]:=by rw[K,l,m,u,km (S:=S) (t:=[gu]) (b:=[oJ,cf k,[wT,f]]) eR _ [ty,h,j,[[cb,bk],[oL],[cb,q],[i0,[cp,C.take i,s,[wJ,a]]],h,j,[W]]] [JQ] (by simp) (λi s e O#[h,j,J]=>by subst J;have B:=z s (cG O);rw[ad,G,[R,[qR],[tb,a]]=[R,C.take i,[tb,a]]++[[wJ,a]],by rw[jK,O,de];rfl,#[_,[[cc],[cc],[cc],[pg],[ay,[gt]],[ay,[nt]],[W]],Y,?_,_,_,Y]];(have d:[iQ,N++[cp,C.take i,s,[wJ,a]]]:=by rw[au,cO,aR,o5,lim];omega);rw[G,<-em];generalize N++[fO,C.take i]=L at d|-;simp[seval,[fS,[gt]],[fS,[nt]],d,a9,sD,W])];grind
def V5(J:[aP])(L:x∈[cH])(O:x.volume.length<=5)(N:x.steps.length<=5)(k:Nat)(S:aj):[dX,1,114,[d0,cH x],iw b x,a9]:=by rw[[eL]];rw[K,W,bU,q,J.item x L];rw[R,U,W.price,g,c9 [nC,bU,q] J.nt];simp[seval,KS];rw[dF _ (λt=>sD (wb b t)) [jJ] (λt j=>by rw[M,G,B,q t j];simp[seval,nD,oC t G B];rfl)];simp[seval,[fS,[ea]],aR];rw[a9,aJ ([fu]),z,[ih,D.str [ha]::D.str (tx x.name)::sD (bJ [ea])::IA (λt=>sD (wb b t)) [jJ]]=a9 [AU],[gv,a9,de,cq]];simp[seval];rw[z];rw[K,Z,i,m,Lo _ _ aaW _ W.f' [a9 _] [f] _ _ _ k S];rw[m];rw[aj,a,[aO,[KM],6],[f],p,[KM]=[G0],by simp,C,[jP,iw b x]=([G0]++x.steps.map [tb,[s_]])++[gp,x.free,f,[a9 [ay "free",x.name,bJ f.1,[pA],bJ [gx]]],[]],by simp[iw,bT,de,cq,em];rw[bz,x.free]];rw[p]at a|-;rw[C];generalize [fO,([ay _,x.name,bJ _]++x.taxes.map _)::x.volume.map _]=d at a|-;rw[eq];rw[K,I,F,u,Lo _ _ afH _ W.step d [g] _ _ _ k S];rw[a9,u,e,[iQ,d++x.steps.map [tb,[s_]]],by simp[cO,aR,lim];omega];generalize d++x.steps.map _=L2 at e|-;simp[seval];cases h:x.free with|none=>simp[seval,fD,iu]|some f=>rw[K,f1,f2,f3,W.free f h];simp[seval,fD,pD,[fS,f.1],[fS,[gx]],e,a9,sD,agg,wN]
def U3(ps:[h])(X:[g4,ps,[ly,[L],[bR],[Z]<=40]])(N:[al])(U:[eu]+[mH]*2<=1000)(k:Nat)(S:aj):∃s I,cV [oJ,cf k,[Bh]] [3,4] (ps.map pD) [[cr],[tt],[kl],[W],[W]] S=[dy,[[cr],[tt],[i0,[R,ps.flatMap [A4],sD]],s,I]]:=by(have j:[JP]:=λl=>by induction l with|nil=>rfl|cons a r B=>grind);rw[aM,J,u,m,km (t:=[3,4]) (b:=λe=>bj _ [Bh] e) pD _ [ty,s,I,[[cr],[tt],[i0,[tX,i]],s,I]] [[cr],[tt],[kl],[W],[W]] (by simp) (λi p e q#[s,I,O]=>by subst O;rw[K,C,z,d,X p (cG q)];rw[a0,W,[tX,[aa]]=[tX,i]++[sD (gO b [L]),sD (bJ [Z])],by rw[jK,q];simp,h,[Q,N++[tX,i]]+2<=lim,by rw[cO,aR,j,o5];rw[ek],#[_,[[cc],[cc],[pg],[ay,[L]],[ay,[Z]]],Y,?_,_,_,Y]];rw[W,<-em];generalize N++[tX,i]=L at h|-;simp[seval,tz _ C z,[fS,[Z]],h,gO,sD]),s,I,rfl,m];rw[ae,nK,u,#[s,I,u]]
def p_(b:a7)(x:io):bO:=[ay "bundle",x.name,bJ [ea]]++x.parts.flatMap [A4]
def Ys(J:[aP])(L:x∈[iy])(k:Nat)(S:aj):[cO,1,115,[d0,dn x],a9 (p_ b x)]:=by rw[[eL]];rw[dn];have U:=A1 J L;simp[seval,KE,[fS,[ea]]];rw[K,s,I,e,U3 _ (λp q=>#[[M,u p q],[ak,u p q],[eQ,u p q]]) [[dE],[dE],sD _] [f] k S];rw[a_,e]
def acH(J:[aP])(O:c∈[jz])(k:Nat)(S:aj):[cO,1,116,[d0,ec c],a9 (qt b c)]:=by rw[aU k S (F:=E9) Y Y Y];rw[ag,m,u,z,L,J.jW c O];(have q:[d3,[ap,c.share,"off","less"]]=[ap,c.share,[j2],[pM]]:=by split;{rfl};rfl);rw[aB,seval,E9,[fS,c.value],qt,a9];rw[b,h,c.item=0];{rw[Y,seval,h];cases e:c.cap with|none=>rw[bp];rw[b,U,[lR]=0];{rw[aX,seval,U,IB,aiH,sD,qN,q]};{have f:[Fj]:=[g];simp only[seval,U,f,[fS,[lR]],lim,sD,qN,q,z0]}|some x=>rw[bj,C,Z,z x e,g,0<[an,x],[g]];rw[au,seval,g,[fS,x],lim];rw[b,U,[lR]=0];{rw[b0,U,sD,qN,q,Bw]};{have f:[Fj]:=[g];simp only[seval,U,f,[fS,[lR]],lim,sD,qN,q,z0,Bw]}};{have d:[an,0]<c.item:=[g];rw[aB,seval,h,d,tz (b:=b) c.item [g] u,lim];cases e:c.cap with|none=>rw[b,U,[lR]=0];{simp only[seval,U,IB,sD,qN,q,wN,gO]};{have f:[Fj]:=[g];simp only[seval,U,f,[fS,[lR]],lim,sD,qN,q,z0,wN,gO]}|some x=>rw[bj,C,Z,z x e,g,[an,0]<x,[g]];rw[au,seval,g,[fS,x],lim];rw[b,U,[lR]=0];{simp only[seval,U,IB,aiH,bI,sD,qN,q,Bw,wN,gO]};{have f:[an,0]<[lR]:=[g];simp only[seval,U,f,[fS,[lR]],lim,sD,qN,q,z0,Bw,wN,gO]}}
def Wj(J:[aP])(m:p∈[nu])(k:Nat)(S:aj):[cO,1,117,[d0,pD p],a9 [tZ]]:=by rw[[eL]];rw[K,a,z,d,J.apart p m];rw[bK,L,[np,0,pD p,[nD _,nD _]],rfl,Nn];have e:=dF (f:=turn (cf k) ((((Ex.v 0).av 20).ix ((Ex.v 2).sub (Ex.c [cC,1]))).av 0) [2] [] [Slot.val [b8],Slot.val (pD p),Slot.un]) (S:=S) nD (λi=>sD (iM b i)) [[L],[Z]] (λi h=>by have q:[eP,i,[bK]]:=[f];rw[eR,nD,wG i [cV] q.2,xz b i [cV] q.2,sD]);simp[bT,uq]at e;rw[a_,e]
def vL(b:Env->M Flow)(t:[aj])(r:[al])(f:Flow)(S:aj):[i4]:=[Kg,e,cV b t r e S]
def aoM(b:Env->M _)(t:[h])(r:[al])(e:Env)(S:aj):vL b t r (.nx e) S=cV b t r e S:=(rfl)
def afZ(b:Env->M _)(t:[h])(r:[al])(e:Env)(S:aj):vL b t r (.bk e) S=[dy,e]:=(rfl)
def aok(b:Env->M _)(t:[h])(r:[al])(d:D)(S:aj):vL b t r [ps] S=[iz,d]:=(rfl)
def q5(b:Env->M _)(t:[h])(e:Env)(S:aj):cV b t [] e S=[dy,e]:=(rfl)
def iV(b:Env->M _)(t:[h])(d:D)(r:[al])(e:Env)(S:aj):cV b t (d::r) e S=[fe,[gX,fX e t d],z,b z S,f,vL b t r f S]:=by rw[a6,bL,z,S];rw[a6,bL,f,S];rw[bz,f]
def alB(s:[h])(l:[h])(S:aj):gx [db] [b6] S=[ab,[es,bK l [db]]]:=(rfl)
def alL(s:[h])(l:[h])(S:aj):[zK,[b6],[db]]:=(rfl)
def qU(b:a7):List bO:=jd "round" [mQ]++(jd "cash" b.cash++[gp,b.byLine,x,[[ay "by",ay [ap,x,"line","total"]]],[]])
def vI(x:o0)(S:aj):[np,0,me x,[nD x.rule,nD x.unit]]:=rfl
def W7(J:[aP])(h:[fU])(k:Nat)(S:aj):[dX,1,118,[[b8]],qU b,a9]:=by rw[aU k S (F:=DJ) Y Y Y];rw[D,j,bK st [K,[i']]=b.rounding.map me,h.ro,e,bK st [K,[im]]=b.cash.map me,h.ca];rw[D,s,bK st [rn]=b.byLine.map sP,h.lz,a,∀(x:o0)(I O d B:Slot),x.rule<=9->x.unit<=10000->eJ (turn (cf k) (.b1 .str [ai]) [3] [] [I,O,d,B]) [nD x.rule,nD x.unit] S=[ab,[sD (bJ x.rule),sD (bJ x.unit)]],λx I O d B W hu=>dF nD (λn=>sD (bJ n)) [x.rule,x.unit] (λn f=>by have L:[nV]:=[f];rw[ac,seval,nD,gU n _ L])];rw[aB,seval,DJ,iV,j,qU];rw[R,U,J.ro,C,J.ca];simp only[nH,jI]at U C;cases m:b.rounding with|none=>(cases u:b.cash with|none=>(cases q:b.byLine with|none=>simp only[seval,qu,nQ,iV,q5,e,s,u,q,jd]|some y=>cases y<;>simp only[seval,qu,g6,nQ,o8,iV,q5,j,e,s,m,u,q,jd,lim,a9,sD,z_,zR,x9,sP])|some z=>rw[u]at C;rw[ao,nJ,C];cases q:b.byLine with|none=>simp only[seval,qu,g6,nQ,o8,iV,q5,j,e,s,m,u,q,jd,vI,[xV],lim,a9,sD,Bf]|some y=>rw[fd,[xV],Bf])|some x=>rw[m]at U;cases u:b.cash with|none=>(cases q:b.byLine with|none=>simp only[seval,qu,g6,nQ,o8,iV,q5,j,e,s,u,q,jd,vI,[xU],lim,a9,sD,Ag]|some y=>rw[fd,[xU],Ag])|some z=>rw[u]at C;cases q:b.byLine with|none=>simp only[seval,qu,g6,nQ,o8,iV,q5,j,e,s,m,u,q,jd,vI,[xU],[xV],lim,a9,sD,Ag,Bf]|some y=>cases y<;>simp only[seval,qu,g6,nQ,o8,iV,q5,j,e,s,m,u,q,jd,vI,[xU],[xV],lim,a9,sD,Ag,Bf,z_,zR,x9,sP]
def Q1(b:a7):rY b=[mu,nP b]++([C6]++([mj,p_ b]++([ka,qt b]++([oq,[aF,[tZ]]]++qU b)))):=rfl
structure u' (b : a7) : Prop where
 f' : ∀ x ∈ b.items, x.volume.length ≤ 5 ∧ x.steps.length ≤ 5
 ap : b.apart.length ≤ 100
 qV : b.apart.Nodup
def DB(b:a7)(x:dY)(h:[Ji]):[aO,iw b x,12]:=[fN,iw,b7]
def La(J:[aP])(u:u' b):[um,[h],x∈[cH],iw b,[E]*12]:=by intro l;induction l with|nil=>simp|cons x r q=>intro h;rw[jN,I,DB b x (u.f' x [f])]
def agk(J:[aP])(u:u' b)(n:[fU])(k:Nat)(S:aj):[dX,2,119,[[b8]],rY b,a9]:=by rw[aU [ao] S (F:=Hn) Y Y Y];rw[R,I,J.nt,q,J.ni];rw[R,H,J.nb,r,J.nc];have Q:=u.ap;rw[Y,seval,Hn];rw[dF eh [DR] [hw] (λx L=>[Y,seval,agW J L])];rw[eq];(have key:∀(N:[al]),[eu]<=4->∃z,cV [fg,1,[CU]] [2] [so] [p1,[kl],[W]] S=[dy,[p1,[i0,[jP,[C6]]],z]]:=λN hL=>by rw[K,e',Z,h4,[j4,[2],1,[CU],cH,[cH],λi e=>∃z,e=[p1,[i0,[t5,i]],z],[p1,[kl],[W]],[qZ,[W]],λi x e L#[z,X]=>by subst X;rw[R,a,cG L,G,u.f' x a];(have ht:[t5,[aa]]=[t5,i]++[jP,iw b x]:=by rw[jK,L,rN,de];simp);rw[R,T,La J u (b.items.take i) (λy W=>Ii W),qj,DB b x G];rw[ad,t,[kg,N++[t5,i],[jP,iw b x]],by rw[cO,aR,aR];rw[o5]at T;rw[ek],#[_,[p1,[i0,[t5,[aa]]],[oL]],Y,?_,_,Y]];rw[ht,<-em];rw[ac,seval,V5 J a G.1 G.2,t]]];grind);rw[M,z,Z,key [mu,[DR]] [q,aR,I]];rw[Z];rw[a1,T,La J u [cH] (λy W=>W),v,[aO,[Bb],100],[f],d,[jP,rY b]=[Bb]++[mj,[uK]]++[ka,[BY]]++[oq,[aF,a9 [tZ]]]++[jP,qU b],by rw[au,Q1,de,cq,em];rfl];rw[d];generalize [Bb]=A at v|-;rw[eq];rw[dF dn [uK] [iy] (λx L=>[Y,seval,Ys J L])];rw[D,h,A.length+[Q,[mj,[uK]]]<=lim,[qv],hB,[aO,A++[mj,[uK]],103],[f]];generalize [mj,[uK]]=B at h hB|-;rw[Y,seval,h];rw[dF ec [BY] [jz] (λc O=>[Y,seval,acH J O])];rw[e4,f,A++B,[ka,[BY]],P,A++B,108,j,l];rw[Y,seval,f];rw[dF pD [aF,a9 [tZ]] [nu] (λp w=>[Y,seval,Wj J w])];rw[e4,g,l++j,[oq,[aF,a9 [tZ]]],F,l++j,208,E,C];rw[D,hS,[aO,qU b,3],by rw[Y,qU,cO];rw[eT,m,∀(s:String)(o:[bg,o0]),[aO,jd s o,1],[KT]],U,[kg,C++E,[jP,qU b]],[qv]];rw[au,seval,g,W7 J n,U]
def OH(J:[aP])(N:jA b):∀r∈rY b,Rw r:=by have S:∀{s},([a3,[Br]&&ao [zV]])->[zV]/\Gd (ay s):=hO;intro r z;rw[Q1]at z;simp only[cs,b0,kc]at z;rcases z with⟨x,L,rfl⟩|⟨x,L,z⟩|⟨x,L,rfl⟩|⟨c,O,rfl⟩|⟨p,H,rfl⟩|z;{have v:=J.rate x L;rw[M,i,d,kQ L];rw[M,o,Q,J.over i x d];rw[R,G,[dB,d],B,j4 (N.BF L)];rw[a8];{rw[aa,nP];split;{simp};{split<;>simp}};{intro w W;simp only[nP,cs,bX,dR,d4]at W;rcases W with(rfl|rfl|rfl)|W;rw[b6,[eI],B,[fq]];{rw[aA,W];{rw[ao,dL,W];rw[bh,W,[eI]]};{rw[aZ,[c4,W],rfl,W,[eI]];{rw[aA,W];{simp at W};{rw[ax,A];rw[cV,W,[eI],j4 (N.BF (sB x.over [g] [g]))]}}}}}};{rw[K,W,bU,q,J.item x L];rw[R,B,j4 (N.item L),g,c9 [nC,bU,q] J.nt];have H:=W.price;simp only[iw,bX,cs,b0]at z;rcases z with rfl|⟨s,I,rfl⟩|⟨s,I,rfl⟩|z;{rw[a8];{rw[au,cO,b7,gL,aR];omega};{intro w h;simp only[cs,bX,dR,d4,b0]at h;rcases h with(rfl|rfl|rfl)|⟨t,T,rfl⟩;rw[b6,[eI],B,[fq]];{rw[aG,n,F,q t T,j4 (N.BF (sB t n F))]}}};{have:=W.f' s I;rw[eH]};{have:=W.step s I;rw[eH]};{cases P:x.free with|none=>rw[eK,P,z]|some f=>rw[P]at z;rw[K,f1,f2,f3,W.free f P];rw[ao,dL,z];subst z;rw[a3,by simp,λw h=>?_];rw[cf,h];rcases h with rfl|rfl|rfl|rfl|rfl;rw[aq,[eI],B];rw[b6,[fq],[eI],[fq]]}};{rw[dn];rw[R,E,A1 J L,B,j4 (N.iR L)];(have j:[JP]:=λl=>by induction l with|nil=>rfl|cons a r y=>rw[ir,cO,y];rw[Y,b7,gL];omega);rw[a8];{rw[p_,cO,j];rw[Y,b7,gL];omega};{intro w h;simp only[p_,cs,bX,dR,d4,kc]at h;rcases h with(rfl|rfl|rfl)|⟨p,H,rfl|rfl⟩;rw[aq,[eI],B];rw[aq,[fq],j4 (N.item (j7 [L] [M,u p H] [ak,u p H]))];{have:=[eQ,u p H];exact [fq]}}};{rw[ag,m,u,Z,X,J.jW c O];have B:=j4 (N.jW O);rw[a8];{rw[au,qt,cO,b7,gL];grind};{intro w h;simp only[qt,cs,bX,dR,d4]at h;rcases h with(rfl|rfl|rfl|rfl)|h|h|h;rw[aq,[eI],B];{split<;>exact [eI]};{exact [fq]};{rw[a2];{rw[hG]};{rw[cV,h,[eI],j4 (N.item (j7 c.item [g] u))]}};{cases e:c.cap with|none=>rw[eK,e,h]|some x=>rw[e]at h;have:=Z x e;rw[cV,h,[eI],[fq]]};{rw[a2];{rw[hG]};{rw[cV,h,[eI],[fq]]}}}};{rw[K,k,p2,p3,J.apart p H];rw[a5,xz b [L] [g] [g],xz b [Z] [g] [g],Rw.tp [eI] (j4 (N.jW (w9 [L] [g] [g]))) (j4 (N.jW (w9 [Z] [g] [g])))]};{rw[R,U,J.ro,C,J.ca];simp only[nH,jI]at U C;rw[aO,qU,cs,z];rcases z with z|z|z;{cases m:b.rounding with|none=>rw[fp,m,z,jd]|some x=>rw[m]at z U;rw[ao,nJ,U];have:=U.rule;have:=U.unit;rw[aO,jd,dL,z];rw[bh,z,Rw.tp [eI] [fq] [fq]]};{cases m:b.cash with|none=>rw[fp,m,z,jd]|some x=>rw[m]at z C;rw[ao,nJ,C];have:=C.rule;have:=C.unit;rw[aO,jd,dL,z];rw[bh,z,Rw.tp [eI] [fq] [fq]]};{cases m:b.byLine with|none=>rw[eK,m,z]|some x=>rw[cD,m,z,dL];cases x;rw[aq,Rw.vk [eI] [eI],Rw.vk [eI] [eI]]}}
def Wb(h:Rw r):[aO,jn r,2000]:=by have U:=h.len;cases r with|nil=>simp[jn]|cons w r=>rw[ec]
def U6(J:[aP])(u:u' b)(e:jA b)(h:[fU])(U:[aO,rY b,1000])(k:Nat)(S:aj):[dX,3,120,[[b8]],bookText b,D.int]:=by rw[[ck]];have g:=OH J e;simp[seval,OI,agk J u h];rw[[oe,r,sD (jn r),q,by simp[seval,QB (g r q)]]];rw[ak,A,[R,rY b,λr=>sD (jn r)]=[R,[R,rY b,jn],sD],by simp,A];have j:=QY _ (λt L=>[bx,r,q,rfl,b0.mp L,#[Gd.jn λw W=>[bq,(g r q).it w W],Wb (g r q)]]) [f] [ao];rw[Y,seval,j];congr 2;simp[S0];congr 2;funext r;exact [dI,Fj r]
def eY(c:Int):cK->List cK|[]=>[[]]|[bp]=>[KH,eY c r]
def Hw(c:Int)(t:cK):eY c t≠[]:=by cases t with|nil=>simp[eY]|cons x r=>rw[b2,eY]
def RQ(O:c=10\/c=32):sg x=c.toNat↔x=c:=[b2,sg]
def D'(c:Int)(O:c=10\/c=32):∀t,jx c.toNat (tx t)=[R,eY c t,tx]|[]=>rfl|[bp]=>by rw[ah,q,D' c O r,e,tx [bp]=sg x::tx r,rfl];rw[e];simp[jx,eY,q];rw[b,h,x=c];{rw[aV,aJ ((RQ O).mpr h),aJ h]};{rw[aw (λa=>h ((RQ O).mp a)),aw h];cases J:eY c r with|nil=>rfl|cons w ws=>rfl}
def pT(l:List cK):List cK:=[d6,l.getLast?,aa [],l.dropLast,l]
def Y9(a w:cK)(ws:[h]):pT (a::w::ws)=a::pT (w::ws):=by simp[pT,List.getLast?_cons_cons];split<;>simp
def ER:∀(t d:cK),nR d t=pT [yi,eY 10 t,d.reverse,d.reverse++w]|[],d=>by(simp[nR,eY];cases d with|nil=>rfl|cons a r=>rw[aa,pT];simp)|[bp],d=>by simp[nR,eY];rw[b,h,x=10];{rw[aJ h,aJ h,ER r _];cases q:eY _ r with|nil=>rw[be,q,Hw _ r]|cons w ws=>simp[iu,List.reverse_nil,wc,Y9]};{rw[aw h,aw h,ER r _];cases q:eY 10 r with|nil=>rw[be,q,Hw 10 r]|cons w ws=>simp}
def Dv(t:cK):nR [] t=pT (eY 10 t):=by rw[ER];cases h:eY _ t with|nil=>rfl|cons w ws=>simp
def E1:∀(t d:cK),je d t=[op,[yi,eY 32 t,d.reverse,d.reverse++w],w,! w.isEmpty]|[],d=>by(simp[je,eY];cases d with|nil=>rfl|cons a r=>simp)|[bp],d=>by simp[je,eY];rw[b,h,x=32];{rw[ba,E1 r _]};{rw[aw h,aw h,E1 r _];cases q:eY _ r with|nil=>grind|cons w ws=>simp}
def Qv(t:cK):[kB]=[op,eY 32 t,w,! w.isEmpty]:=[ba,E1]
def UR(c:Int)(h0:0<=c)(m:c<=255)(k:Nat)(S:aj):[cO,1,18,[[l,c]],[K,[[c5]]]]:=by rw[b9,aU k S (F:=Gr) Y Y Y,Gr];rw[D,a,∀i:Nat,i<26->eu [AN] [aQ] S=[ab,[K,[97+i]]],by intro i q;have:[Ib,i=9\/i=10\/i=11\/i=12\/i=13\/i=14\/i=15\/i=16\/i=17\/i=18\/i=19\/i=20\/i=21\/i=22\/i=23\/i=24\/i=25]:=[g];rcases this with rfl|rfl|rfl|rfl|rfl|rfl|rfl|rfl|rfl|rfl|rfl|rfl|rfl|rfl|rfl|rfl|rfl|rfl|rfl|rfl|rfl|rfl|rfl|rfl|rfl|rfl<;>rfl,d,∀i:Nat,i<10->eu [Bt] [aQ] S=[ab,[K,[48+i]]],by intro i q;have:[Ib,i=9]:=[g];rcases this with rfl|rfl|rfl|rfl|rfl|rfl|rfl|rfl|rfl|rfl<;>rfl];rw[b,z,97<=c];{rw[b,j,c<=122];{rw[fo,97,z,j,a _ [g]]};{rw[D,L,¬c<=57,[g],H,[bH,c,32],[bE]];rw[aj,u,[bH,c,10],[bE],h,[c5]=63,by rw[aa,sg];rw[aw [g]],B,48<=c,[g]];simp only[seval,z,j,L,H,u,B,h]}};{rw[Y,seval,z];rw[b,b1,48<=c];{rw[b,b2,c<=57];{rw[fo,48,b1,b2,d _ [g]]};{rw[aj,H,[bH,c,32],[bE],u,[bH,c,10],[bE],h,[c5]=63,by rw[aa,sg];rw[aw [g]]];rw[b0,b1,b2,H,u,h]}};{rw[Y,seval,b1];rw[b,J,c=32];{subst J;rw[Y,seval,CC];rfl};{have H:[bH,c,32]:=[bE];rw[b,I,c=10];{subst I;rw[gv,seval,H,CC]};{rw[D,u,[bH,c,10],[bE],h,[c5]=63,by rw[aa,sg];rw[aw [g]]];rw[au,seval,H,u,h]}}}}
def Yb(l:[aj]):[aT,λc=>[c]].flatten=l:=by induction l with|nil=>rfl|cons a r q=>grind
def LX(t:cK)(q:[ng])(k:Nat)(S:aj):[dX,2,19,[[fI]],nR [] t,sD]:=by rw[[ck]];simp[lH,aF,dZ,ck]at q;rw[Y,seval,P6];rw[dF _ (λc=>D.str [[c5]]) t (λc O=>by have:=lA.mp (q.2 c O);simp[seval,UR c [nc] this.2])];rw[aj,h,pF _=aa [Di],L4 ..,L,jD .join [K,[]] [X,t.map λc=>D.str [[c5]]] S=[ab,[eV,t]],by simp only[jD,fF,h,l3,fC,Gm];have m:=EY [R,[Di],mw] 1 (by simp);rw[aJ (by simp[aR,gL,lim]at*;omega)];(have:[Di].flatten=tx t:=by rw[tx,<-Yb (t.map _),cq];rfl);rw[a_,this],B,[I5,10],[Gc,10,e6 Y]];rw[au,seval,L,B,GW];rw[Dv];generalize X:eY _ t=ps;rw[R,u,X▸Hw _ t,U,aiI u];have i:(ps.map sD).getLast?=aa (sD (ps.getLast u)):=[f];rw[ac,i,pT,U];cases y:ps.getLast _ with|nil=>rw[D,e,[a3,tx []==[]],rfl,C,[tA,ps.map λt=>D.str (tx t)]=af,[bb]];rw[[iP,(IA sD _)=ps.map (λt=>D.str _)]]at*;simp[C,List.map_dropLast];rfl|cons a r=>rfl
def Hf(t:cK)(q:[ms])(k:Nat)(S:aj):[cO,1,20,[sD t],a9 [kB]]:=by rw[a9,[eL],B,[I5,32],[Gc,32,kT Y]];rw[bi,RF,sD,B];rw[sS _ (λw=>! w.isEmpty) sD _ (λw _=>by have e:(tx w==[])=w.isEmpty:=[bz,w];rw[fN,seval,sD])];simp[seval,Qv,a9]
def Pk(c:Int):[c5]<128:=[b2,sg]
def FS(t:cK):plain (tx t)=ae:=by simp[plain,tx,wa,ck,jJ,dZ];exactλc _=>Pk c
def B3(c:Int):([rL]/\[c5]=c)\/(¬[rL]/\[c5]=63):=by rw[b,h,[rL]];rw[aq,e6 #[h,Aq h],kT #[h,[b2,sg]]]
def BQ(c:Int):(lc [c5]||(pR [c5]||pS [c5]))=(gN c||fm c):=by rw[gZ];simp[lc,pR,pS,gN,fm,kP,aF,dZ];rw[aN,B3 c]
def YH(c:Int):(pR [c5]||pS [c5])=gN c:=by rw[gZ];simp[pR,pS,gN,kP,aF,dZ];rw[aN,B3 c]
def Pl(c:Int):lc [c5]=fm c:=by rw[gZ];simp[lc,fm,aF,dZ];rw[aN,B3 c]
def xF(L:Gd x)(z:Gd y)(h:tx x=tx y):x=y:=[eT,e,∀{t},Gd t->[fO,tx t]=t,λ{t}q=>by rw[tx,cq];(conv=>rhs;rw[<-v6 t]);rw[a6,iL,c,O];exact Aq (q c O)]
def u1(h:t.all [hM]=ae):Gd t:=λc O=>by have:=ck.mp h c O;simp[gN,fm,kP,aF,dZ]at this;omega
def q4:[lC]:=[[hP],[s9],[mN],[ut],[ha],[uw],[uv],[uu],[mF],[mc],[hJ],[j2],[pM],[qw],[p6],[x6],[i'],[im],[jm],[nW],[p2]]
def ZB:yu=q4.map D.str:=rfl
def XU(s:[h]):jX [db] yu=q4.contains s:=by rw[ZB,jX,rR,Iv];rw[ca,y];rw[fN,jJ,D.beq]
def Zh:∀k∈ut,Gd k:=by(have h:[a3,ut.all λk=>k.all [hM]]:=by rfl);intro k e;exact u1 [f]
def Wa(s:[h]):q4.contains s=(ut.map tx).contains s:=by rw[D,m,[a3,q4.all λa=>(ut.map tx).contains a],rfl,u,[hV,ut.map tx,a,q4.contains a]=ae,rfl];grind
def quoted(L:Gd x):q4.contains (tx x)=ut.contains x:=by rw[Wa,gZ,rQ,b0];rw[a8];{rintro⟨k,q,e⟩;rw[<-xF (Zh k q) L e];grind};grind
def Qt(s:[h])(S:aj)(h:s.length<=2000):[vp,[db],s.length]:=by simp[dk];rw[a_,aJ ([fu])]
def U4(x:cK)(L:[eS]<=2000)(k:Nat)(S:aj):[cO,1,23,[sD x],[bj,dS x]]:=by rw[[eL]];rw[D,U,[aO,tx x,2000],[ba,nh],m,dk .isalnum [eV,x] S=[dU,! x.isEmpty&&x.all [hM]],by simp[dk];rw[aJ (FS x)];rw[D,a,[tA,tx x]=x.isEmpty,[bz,x],j,[hV,tx x,c,lc c||(pR c||pS c)]=x.all [hM],by rw[tx,wa];rw[ca,c];exact BQ c];rw[aV,a,j]];rw[b0,LV,sD,Qt _ _ U,m,nh];rw[b,I,[eS]<=8];{have e:[y1]:=[g];rw[aa,e];cases x with|nil=>rfl|cons c r=>rw[b,h,[a3,[cI].all [hM]]];{rw[a1,f,u1 h,u,[J8],by simp[eu];rw[aJ ([fu]),[iP,tx _=[c5]::tx r],OU];rfl,q,dk .isalpha [K,[[c5]]] S=[dU,gN c],by simp[dk];(have:plain [[c5]]=ae:=by simp[plain,Pk]);rw[aJ this];simp[e8,Iu,yX,YH];rfl];rw[D,z,gx [eV,[cI]] (.b4 yu) S=[ab,ut.contains [cI]],by rw[aa,gx];(have J:yu.all D.atom=ae:=by rfl);rw[aV,XU,quoted f],O,dS [cI]=(gN c&&! ut.contains [cI]),by rw[D,l,ao (1<=[Q,[cI]])=ae,rfl,s,ao [aO,[cI],8]=ae,[f]];rw[aX,dS,l,s,kM,h,uu,Option.any_some]];rw[O];simp[seval,h,S_,kM,u,q];rw[b,H,gN c=ae];{rw[bi,H,z,kM]};{simp[seval,H,nF]}};{(have O:dS [cI]=af:=by simp[dS,h]);rw[bi,h,O,SZ]}};{rw[D,e,¬[y1],[g],O,dS x=af,by simp[dS,I]];simp[seval,e,O]}
def MO:∀(x:cK)(n:Nat),x.all fm=ae->(tx x).foldl [CG] n=[hj,x.foldl [CG] [kO]]/\0<=x.foldl (λ(n:Int)c=>10*n+(c-48)) n|[],n,_=>by simp[tx]|[cI],n,h=>by rw[aO,e8,fm,h];have q:[c5]=c.toNat:=[b2,sg];rw[ah,m,MO r (10*n+([c5]-48)) [f],e,[DO],rfl];grind
def Zf(x:cK)(L:[eS]<=2000)(k:Nat)(S:aj):[cO,1,24,[sD x],[bj,[es,mF x]]]:=by rw[aU k S (F:=Eh) Y Y Y];rw[D,U,[aO,tx x,2000],[ba,nh],m,dk .isdigit [eV,x] S=[dU,! x.isEmpty&&x.all fm],by rw[aa,dk];rw[aJ (FS x)];rw[D,J,[tA,tx x]=x.isEmpty,[bz,x],C,((tx x).all lc)=x.all fm,by rw[tx,wa];rw[ca,c];exact Pl c];rw[aV,J,C]];rw[b0,Eh,sD,Qt _ _ U,m,nh];rw[b,I,[eS]<=8];{have f:[y1]:=[g];rw[Y,seval,f];cases x with|nil=>rfl|cons c r=>rw[b,z,[kp,[cI],fm]];{(have u:[J8]:=by rw[aa,eu];rw[aJ ([ek]),[iP,[DO]],OU];rfl);rw[ah,O,by simp only[e8,aF,fm,dZ]at z;exact [cK],j,[c5]=c.toNat,[hX,sg]];rw[aB,seval,z,S_,kM,u];rw[ak,a,[es,mF [cI]]=[BH],by(have e:(1<[Q,[cI]]/\[cI].head?=aa 48)↔¬[BH]=ae:=by simp only[kP,Iw,ip,uu,cX,b7];rw[ak,J,[DO],rfl,J];cases r with|nil=>rw[aX,gL,S9,CH,uv,ne_eq,tx,uq];omega|cons d q=>(have:¬([c5]::tx (d::q)=[48]):=by simp[tx]);rw[aX,this,false_or,uv,ne_eq,S9,CH,b7];omega);rw[aa,mF];rw[b,B,[BH]=ae];{rw[aV,aw (by rintro(h|h|h|h);rw[ar];{omega};rw[cp]),B]};grind,a];rw[b,W,[a3,tx [cI]==[48]]];{rw[ac,seval,W,aiJ]};{have s:[bH,tx [cI],[48]]:=[f];rw[ac,seval,s,CI]}};{have e:mF [cI]=ag:=[hX,mF];rw[aB,seval,z,e,nQ,SZ]}};{rw[D,f,¬[y1],[g],e,mF x=ag,[hX,mF]];rw[au,seval,f,e,nQ]}
def Ym(h:mF x=aa G)(S:aj):dk .int [eV,x] S=[bS,G]:=by rw[ao,mF,h];rw[a2];rw[ar];{have u:x.all fm=ae:=[f];rw[aI,cX,h];(have e:[a3,(tx x).all lc]:=by rw[tx,wa,<-u];rw[ca,c];exact Pl c);rw[aa,dk];rw[aJ #[e,[cz,nh],[cz,nh]],yw,[M,MO x 0 u]];rw[jL,h]}
def oi(line:Nat)(ws:bO)(n:Nat):[mM]:=[(23,[l,line]),(26,[X,[hz,sD]]),(24,[dn])]
def hx(line:Nat)(ws:bO)(n:Nat):aP:=.aW 13 [qt]
def St(S:aj)(r line:Nat)(ws:bO)(n:Nat):aj:=[dm,r,[m3,n]]
def d7(h:[fR,[oS]]):bH [aL] S=[ab,[oI]]:=by simp[bH,h]
def ic(h:[fR,[aW]]):bH [aL] S=[ro]:=by simp[bH,h]
def EX(h:[fR,[b6]]):bH [aL] S=[ab,[b6]]:=by simp[bH,h]
def Vh(h:[fR,c]):fQ [aL] S=[ab,(a,c)]:=by simp[fQ,h]
def aec(h:[fR,[oS]]):lw c [aL] S=[ic]:=by simp[lw,d7 h,bI]
def oo(h:[fR,[aW]]):rc [aL] S=[ic]:=by simp[rc,ic h]
def aeh(h:[fR,[b6]]):lC [aL] S=[ic]:=by simp[lC,EX h]
def akS(a c d:Int):kB 9 [ei,[kR],c,d]=ae:=(rfl)
section
variable{S:aj}{r:Nat}(hr:r<S.length){line:Nat}{ws:bO}{n:Nat}
include hr in theorem tj:[aR,[dl],r,[m3,n]]:=by simp[St,hr]
theorem ig(h:a≠r):[dl][a]?=S[a]?:=[b2,St]
theorem adh(G:Nat):[dl].set r [m3,G]=[cM,G]:=by simp[St]
theorem As:[Q,[dl]]=[ad]:=by simp[St]
include hr in theorem vq:bH [bA] [dl]=[be,.obj 13 [qt],[dl]]:=d7 (tj hr)
include hr in theorem bV:lw 13 [bA] [dl]=[be,(),[dl]]:=aec (tj hr)
theorem RV:eV [qt] 23=aa [l,line]:=rfl
theorem AH:eV [qt] 26=aa [X,[hz,sD]]:=rfl
theorem xB:eV [qt] 24=aa [dn]:=rfl
include hr in theorem hK(a:Int)(k:Nat):[lP,1,26,[kR],n]=[f9,n,a,[dl]]:=by rw[[ll]];rw[eR,Oe,vq hr,RV,xB]
include hr in theorem FW(a:Int)(k:Nat):[lP,1,27,[kR],n]=[f9,1,a,[dl]]:=by rw[[ll]];rw[bi,Ln,vq hr,RV]
include hr in theorem vB(k:Nat):[td,1,28]=[be,[bj,ao [lW]],[dl]]:=by rw[[ll]];simp[seval,xg,vq hr,AH,xB,aR,SJ]
include hr in theorem Ej(Z:bM)(e:Env):fi Z [a9] e 24 [bA] (r,[m3,n]) [dl]=[dA,e,[cM,[aw]]]:=by rw[aj,m,eV [qt] 24=[cj],rfl,u,dV (oi line _ n) 24 [l,[aw]]=oi _ ws _,rfl,z,[Q,[qt]]=3,rfl];have q:=adh (S:=S) (r:=r) (line:=line) (ws:=ws) (n:=n) [aw];rw[aI,hx,q];have O:=Vh [JG];simp[fi,hx];have h:=[JG];rw[aI,hx,h];simp[seval,m,h,z,u,q]
include hr in theorem xQ(k:Nat):[td,2,29]=[cZ,[ds],x::_,[be,sD x,[cM,[aw]]],[],[w_]]:=by rw[[bQ]];simp only[seval,wE,tj hr,Ej hr,vq hr,xB,AH,aR];rw[b,h,[lW]];{have m:¬[gG]<[cP,[aw]]:=[g];rw[ah,u,mG h,q,at_ [hz,sD] ([bd,[aw]]-1)=aa (sD ws[n]),by have e:[bd,[aw]]-1=[kO]:=[g];rw[e,pK,dQ,cQ h];rfl];rw[u];rw[b0,m,vq hr,xB,AH,q]};{rw[D,m,[an,ws.length]<[bd,[aw]],[g],u,[ds]=[],o6 [g]];rw[b',u,m,[bo],[fG]]}
end
def dH{U:[aH]}(G:R D)(T:Nat->aj)(line:Nat)(ws:bO)(C:U->D)(g:eT U):[P]:=[jr,g,∃p,G=[f9,[cP,e.1],[cP,e.2],T p],x,[vh]/\G=[be,C [S],T [bM]]]
def hP(ws:bO):[P]:=[b',ws,[eS]<=2000]
def zK{ws:bO}{r:bO}(h:[ds]=[bp]):x∈ws:=Ta (h▸qv ..)
def q0{ws:bO}{r:bO}(h:[ds]=[bp]):[fi,[aw]]=r:=by rw[<-y6,h];rfl
section
variable{S:aj}{r:Nat}(hr:r<S.length){line:Nat}{ws:bO}(hw:hP ws)
include hr hw
theorem K1(n k:Nat):[td,3,31]=[Ip,dS x]:=by rw[[bQ]];rw[bi,Lb,[bo],xQ hr];cases h:[ds]with|nil=>rfl|cons x q=>have L:=hw x (zK h);simp[seval,U4 x L];rw[b,e,[nh]];{simp[seval,e]};{rw[bi,e,[bo],[fG]]}
theorem kj(lo e n k:Nat):[nI,3,lo,e,n,lo,e,n]:=by rw[[bQ]];rw[eR,LC,[bo],xQ hr,bN];cases h:[ds]with|nil=>rw[aQ,[aw],by rfl]|cons x q=>have L:=hw x (zK h);simp[seval,Zf x L];cases O:mF x with|none=>rw[aQ,[aw],[bi,nQ,[bo],[fG]]]|some G=>rw[au,seval,o8,sD,Ym O];rw[b,m,G<lo];{rw[D,I,G<[an,lo],[g],z,¬(lo<=G/\G<=e),[g]];rw[V,aw z,#[[aw],[au,seval,I,[bo],[fG]]]]};{have I:¬[an,G]<lo:=[g];rw[b,u,e<G];{rw[D,j,e<[an,G],[g],z,¬(lo<=G/\G<=e),[g]];rw[V,aw z,#[[aw],[eR,I,j,[bo],[fG]]]]};{rw[D,j,¬e<[an,G],[g],z,lo<=G/\G<=e,[g]];rw[V,aJ z,#[[dI,q0 h],[bi,I,j,nD]]]}}
theorem BO(a:[h])(O:∀c∈a,Gd c/\c.all [hM]=ae)(n k:Nat):[lP,3,30,[bw,[kq]],n]=[Ip,a.contains x]:=by rw[b',[bQ],xC,[bo],xQ hr];cases h:[ds]with|nil=>rfl|cons x q=>(have f:[nX,gx (sD x) _ T]:=λT=>by(have l:[wB,[kq]]:=by rw[ck];intro d hd;rw[bM,c,hd];rfl);show gx [dE] [bw,[kq]] T=_;rw[aa,gx];rw[aJ #[Y,l]];(have:jX [eV,x] [kq]=a.contains x:=by rw[jX,rR,Iv,gZ,CF,CF];rw[a8];{rintro⟨c,B,j⟩;simp[jJ,sD,D.beq,ip]at j;rw[ah,J,O c B,L,x.all [hM]=ae,[Bc,C,c,j,W,e,J.2]];rw[ch,xF J.1 (u1 L) j]};{rintro⟨c,B,j⟩;rw[ao,ip,j];exact#[c,B,by simp[sD,D.beq,j]]});rw[a_,this]);rw[Y,seval,f];rw[b,U,a.contains x=ae];{rw[Y,seval,U]};{rw[au,seval,U,[bo],[fG]]}
theorem GC(w:cK)(O:Gd w/\w.all [hM]=ae)(n k:Nat):[lP,2,33,sD w,n]=[A,[ds].head?=aa w,[be,[bj,ae],[cM,[aw]]],[be,[bj,af],[dl]]]:=by rw[b',[bQ],Mt,[bo],vB hr];rw[b,h,[lW]];{rw[a1,u,mG h,q,at_ [hz,sD] n=aa (sD ws[n]),by rw[pK,dQ,cQ h];rfl,j,(tx ws[n]==tx w)=ao (ws[n]=w),by rw[gZ];simp[ip,dZ];rw[a8];{intro e;rw[br,L,[kp,ws[n],[hM]],[Bc,J,w,e,U,a,O.2],xF (u1 L) O.1 e]};grind];simp only[seval,h,vq hr,AH,xB,q,sD,j,u,uu,cX];rw[b,L,ws[n]=w];{rw[bi,L,tj hr,Ej hr]};{simp[seval,L]}};{have u:[ds]=[]:=o6 [g];rw[bi,h,u,IC]}
theorem P2(n k:Nat):[td,2,34]=[A,[lW],[w_],[lO,[dl]]]:=by rw[[bQ]];rw[bi,K6,[bo],vB hr];rw[b,h,[lW]];{simp[seval,h,tj hr,Ej hr,[bo],[fG]]};{simp[seval,h]}
end
def Rp(line:Nat)(ws:bO)(k:Nat)(S:aj):[zd,13,[[l,line],a9 ws],[[m3,0]]]:=by rw[D,h,[xW,25,[[hh],[l,line],a9 ws],13,[[m3,0]]],by rw[[ll]];rw[D,F,∀c a,[LE],λc a=>by simp,C,∀c,[aR,S++[c],[ad],c],λc=>by simp];rw[bi,M8,C,F];rfl,q,[kn].init 13=25,rfl];simp[newD,q,wJ,h]
structure BA where
 nb : Nat
 aN : Nat
 aT : Nat
 aI : Nat
 aB : Nat
 aC : Nat
 aA : Nat
 aS : Nat
 az : List (Nat × Nat × Nat)
 bs : List (Option Nat)
def BA.hd(A:BA):[aj]:=[A.nb,A.aN,A.aT,A.aI,A.aB,A.aC,A.aA,A.aS]
def BA.all(A:BA):[aj]:=A.hd++(A.az.flatMap [vB]++A.bs.filterMap id)
def ei(A:BA):[mM]:=[(16,[m,A.aN]),(17,[m,A.aT]),(18,[m,A.aI]),(19,[m,A.aB]),(20,[m,A.aC]),(21,[m,A.aA]),(22,[m,A.aS])]
def d9(x:dY)(f s:Nat):[mM]:=[GM,[hC],[m,s]]
def hU(x:io):([kD])->D|ag=>dn x|aa c=>.obj 2 [xJ,[l2]]
structure ri (S : aj) (t : Nat × Nat × Nat) (x : dY) : Prop where
 it : S[t.1]? = aa (.aW 1 (d9 x t.2.1 t.2.2))
 vo : S[t.2.1]? = aa (.lst (x.volume.map eR))
 st : S[t.2.2]? = aa (.lst (x.steps.map eR))
structure dB (S : aj) (A : BA) (b : a7) (nm st : List (D × D)) : Prop where
 nd : A.all.Nodup
 bk : S[A.nb]? = aa (.aW 4 (ei A))
 na : S[A.aN]? = aa (.aV nm)
 ta : S[A.aT]? = aa (.lst (b.taxes.map eh))
 it : S[A.aI]? = aa (.lst (A.az.map fun t => .ref t.1))
 bu : S[A.aB]? = aa (.lst ((b.bundles.zip A.bs).map fun p => hU p.1 p.2))
 co : S[A.aC]? = aa (.lst (b.coupons.map ec))
 ap : S[A.aA]? = aa (.lst (b.apart.map pD))
 se : S[A.aS]? = aa (.aV st)
 il : A.az.length = b.items.length
 is : ∀ (i : Nat) (t : Nat × Nat × Nat) (x : dY), A.az[i]? = aa t → b.items[i]? = aa x → ri S t x
 bl : A.bs.length = b.bundles.length
 bc : ∀ (i c : Nat) (x : io), A.bs[i]? = aa (aa c) → b.bundles[i]? = aa x → S[c]? = aa (.lst (x.parts.map pD))
def BA.qf{A:BA}{i:Nat}(h:[vy]):[f6]∈A.all/\[ak,t]∈A.all/\[aE,t]∈A.all:=by have q:=cG h;rw[bG,∀a∈[rO],a∈A.all,λa J=>by rw[Y,BA.all,cs];exact kT (e6 (kc.mpr [f]))]
def BA.Gb{A:BA}{i c:Nat}(h:[aZ,A.bs,aa c]):c∈A.all:=by have q:=cG h;rw[Y,BA.all,cs];grind
def BA.l9{A:BA}(h:a∈A.hd):a∈A.all:=[hX,BA.all]
def dB.keep(h:[mK,S])(e:∀a∈A.all,l[a]?=S[a]?):[mK,l]:=by rw[aY,z,λa J=>e a (BA.l9 J),#[h.nd,?_,?_,?_,?_,?_,?_,?_,?_,h.il,λi t x m u=>?_,h.bl,λi c x m u=>?_]];{rw[V,[oa],h.bk]};{rw[V,[oa],h.na]};{rw[V,[oa],h.ta]};{rw[V,[oa],h.it]};{rw[V,[oa],h.bu]};{rw[V,[oa],h.co]};{rw[V,[oa],h.ap]};{rw[V,[oa],h.se]};{rw[K,B,F,n,BA.qf m];rw[bd,q,h.is i t x m u,[C1,e _ B,e _ F,e _ n]]};{rw[V,e _ (BA.Gb m),h.bc i c x m u]}
def dB.St(h:[mK,S])(q:r∉A.all):[mK,[dl]]:=h.keep λa J=>ig [f]
def mq:[aj]:=[hP]
def nj:[aj]:=[ha]
def ou:[aj]:=[mc]
def pz:[aj]:=[hJ]
def find(b:a7)(x:cK):[bg,[aj]×Nat]:=[zW,d3 b,mq].or ([zW,df b,nj].or ([zW,en b,ou].or [zW,[e1],pz]))
def lv(p:[aj]×Nat):D:=[bk,[K,[L]],[l,[Z]]]
def D.pl:[rz]|[b3]=>ae|[dE]=>ae|[eO]=>ae|[aY]=>ae|_=>af
def D.sh:[rz]|[eB]=>l.all D.pl|d=>d.pl
def QZ(h:p∈cB F k v):p∈F\/[Z]=v:=by rw[aI,cB,h];grind
structure mL (b : a7) (nm : List (D × D)) : Prop where
 get : ∀ x, dS x = ae → bK nm (.str (tx x)) = (find b x).map lv
 nd : (c_ b).Nodup
 ok : ∀ x ∈ c_ b, dS x = ae
 len : nm.length ≤ (c_ b).length
 val : ∀ p ∈ nm, p.2.sh = ae
def ku:fK l x=ag↔x∉l:=[fN,fK,aiK]
def uZ(h:fK l x=aa i):[ly,i,[E],x∈l]:=by(have L:=by apply CJ;intro q;rw[ku.mpr q]at h;grind);simp[fK,lG]at h;rw[K,j,m,rfl,h];rw[ch,[M,List.findIdx?_eq_some_iff_findIdx_eq.mp m]]
def AV(L:x∉l):fK (l++[x]) y=[fc,y,x,[E]+1,fK l y]:=[b2,fK]
def LG:find b x=ag↔x∉c_ b:=by rw[aX,find,Option.or_eq_none_iff,aiK,ku,c_,cs,ug];rfl
def ab4(h:[e9,c_ b]):[b',d3 b,x∉df b/\x∉en b/\x∉[e1]]/\[b',df b,x∉en b/\x∉[e1]]/\[b',en b,x∉[e1]]:=by have e:[KF]:=rfl;rw[e,g8]at h;obtain⟨_,u,m⟩:=h;rw[g8]at u;obtain⟨_,q,z⟩:=u;rw[g8]at q;refine#[λx L=>[Gd,λO=>m x L x (by simp[O]) Y],λx L=>#[[Lb],[Lb]],λx L O=>q.2.2 x L x O Y]
def pU(h:[e9,c_ b])(x:cK):[tU,mq,d3 b]/\[tU,nj,df b]/\[tU,ou,en b]/\[tU,pz,[e1]]:=by rw[K,a,G,W,ab4 h];rw[D,C,¬mq=nj,[af],z,¬mq=ou,[af]];rw[D,y,¬mq=pz,[af],g,¬nj=mq,[af]];rw[D,d,¬nj=ou,[af],c,¬nj=pz,[af]];rw[aj,e,¬ou=mq,[af],f,¬ou=nj,[af],j,¬ou=pz,[af]];simp[find];cases m:fK _ x with|some i=>rw[K,B,F,n,a x [aE,uZ m]];simp[ku.mpr B,ku.mpr F,ku.mpr n,C,z,y]|none=>cases u:fK _ x with|some i=>rw[M,F,n,G x [aE,uZ u]];simp[ku.mpr F,ku.mpr n,g,d,c]|none=>cases q:fK _ x with|some i=>have n:=W x [aE,uZ q];simp[ku.mpr n,e,f,j]|none=>cases L:fK _ x with|some i=>grind|none=>simp
def xE(bv:D)(nm:[dk])(T:Nat->aj):[P]:=∃o d,∀n,bH bv (T n)=[be,o,T n]/\fl o 16 (T n)=[be,d,T n]/\bH d (T n)=[be,[cf,nm],T n]/\lC d (T n)=[be,(),T n]
def dB.mM(h:[mK,S])(hr:r∉A.all):xE [jy] nm (Ir.St S r line ws):=#[.obj 4 _,[dQ],λn=>#[[no,h.St hr],Y,EX (h.St hr).na,aeh (h.St hr).na]]
def E_(nm st:[h])(b:a7)(T:Nat->aj):xE [b8] nm T:=#[_,_,λn=>#[Y,Y,Y,Y]]
section
variable{S:aj}{r:Nat}(hr:r<S.length){line:Nat}{ws:bO}(hw:hP ws){b:a7}{nm:List (D×D)}(hnm:mL b nm){bv:D}
include hr in theorem Am(J:a≠r)(U:[fR,[aW]])(j n k:Nat):[jo,2,35,[[bA],[aL],[c2]],n]=[A,j<=[E],[f9,n,5,[dl]],[lO,[dl]]]:=by rw[a9,[bQ],q,[aR,[dl],a,[aW]],[ba,ig J]];rw[bi,K8,ic q,Ib];rw[b,h,j<=[E]];{rw[bi,h,[bo],[fG]]};{simp[seval,h]}
include hr hw hnm in theorem zJ(J:xE bv nm [Et])(n k:Nat):[i8,4,36,[bv,[bA]],n,sD,hZ b n [ds]]:=by rw[[bQ]];rw[K,o,d,J,J];rw[aB,seval,QO,[bo],K1 hr hw,hZ];cases h:[ds]with|nil=>rw[aQ,[aw],by rfl]|cons x q=>rw[b,z,[nh]];{rw[ag,m,u,L,U,J [aw]];rw[ah,j,hnm.get x z,O,[es,bK nm [eV,x]]=(c_ b).contains x,by rw[j,wd,gZ,rQ];rw[Option.isSome_iff_ne_none];rw[a8];{intro hh;apply CJ;intro e;exact hh (LG.mpr e)};{intro e hh;exact LG.mp hh e}];rw[b,e,(c_ b).contains x=ae];{simp only[seval,z,m,u,L,sD,O,e,[bo],[fG]];rw[aW,[aw]]};{simp only[seval,z,m,u,L,sD,O,aiL,e];rw[aW,[dI,q0 h]]}};{have Z:=[aD,z];simp[Z];rw[aW,[aw]]}
include hr hw hnm in theorem pI(J:xE bv nm [Et])(kind:[h])(f:kind≠[])(l:[h])(U:∀x,[tU,kind,l])(n k:Nat):[i8,4,37,[bv,[bA],[K,kind]],n,nD,cu l n [ds]]:=by rw[[bQ]];rw[K,o,d,J,J];rw[ag,C,c,N,G,J n];simp only[seval,OY,C,c,G,[bo],K1 hr hw,cu];cases h:[ds]with|nil=>rw[aQ,[aw],by rfl]|cons x q=>rw[b,z,[nh]];{rw[ag,m,u,L,B,J [aw]];rw[R,j,hnm.get x z,a,U x];rw[eR,z,L,sD,j];cases W:find b x with|none=>rw[W]at a;rw[<-a];have O:[a3,!([]==kind)]:=[f];rw[aB,seval,qu,O,[bo],[fG]];rw[aW,[aw]]|some p=>rw[bw,W,a];rw[<-a];rw[b,e,[L]=kind];{rw[ak,O,(!([L]==kind))=af,by simp[e],aJ e];rw[bi,g6,lv,O];rw[aW,[dI,q0 h]]};{rw[ak,O,[a3,!([L]==kind)],[f],aw e];simp[seval,g6,lv,O,[bo],[fG]];rw[aW,[aw]]}};{have Z:=[aD,z];simp[Z];rw[aW,[aw]]}
end
def eC(S:aj):[P]:=∀c∈S,[q7]=ae
def eC.all(h:eC S):[a3,S.all λc=>[q7]]:=ck.mpr h
mutual
theorem FA{G n:Nat}(h:G≤n):∀d:D,d.low G=ae→d.low n=ae|.ref a,hd=>by simp only[D.low,dZ]at*;omega|.tup l,hd=>by simp only[D.low]at*;exact uY h l hd|.lst l,hd=>by simp only[D.low]at*;exact uY h l hd|.dU l,hd=>by simp only[D.low]at*;exact uY h l hd|.b4 l,hd=>by simp only[D.low]at*;exact uY h l hd|.aV l,hd=>by simp only[D.low]at*;exact sY h l hd|.bZ l,hd=>by simp only[D.low]at*;exact sY h l hd|.iY l,hd=>by simp only[D.low]at*;exact sY h l hd|.obj c l,hd=>by simp only[D.low]at*;exact DS h l hd|.a0,_=>rfl|.bl _,_=>rfl|.int _,_=>rfl|.str _,_=>rfl|.fn _,_=>rfl|.du _,_=>rfl
theorem uY{G n:Nat}(h:G≤n):∀l:List D,eG G l=ae→eG n l=ae|[],_=>rfl|x::r,U=>by simp only[eG,aF]at*;exact⟨FA h x U.1,uY h r U.2⟩
theorem sY{G n:Nat}(h:G≤n):∀l:List (D×D),lowP G l=ae→lowP n l=ae|[],_=>rfl|(a,x)::r,U=>by simp only[lowP,aF]at*;exact⟨FA h x U.1,sY h r U.2⟩
theorem DS{G n:Nat}(h:G≤n):∀l:List (Nat×D),i7 G l=ae→i7 n l=ae|[],_=>rfl|(a,x)::r,U=>by simp only[i7,aF]at*;exact⟨FA h x U.1,DS h r U.2⟩
end
def Z9(h:G<=n)(c:aP)(O:c.low G=ae):c.low n=ae:=by cases c with|aW k l=>exact DS h l O|lst l=>exact uY h l O|aV l=>exact sY h l O
def eC.app(h:eC S)(L:[h])(z:∀c∈L,c.low [Q,S++L]=ae):eC (S++L):=λc O=>[sz,O,Z9 (by simp) c (h c O)]
def eC.set(h:eC S)(a:Nat)(c:aP)(O:[q7]=ae):eC [ky]:=λx L=>by rw[jM];rw[aZ,ID L,L,L,h x L];grind
def eX{U:[aH]}(f:U->D)(n:Nat)(h:∀x,[lp,f x]):∀l:[h],[lF,[g2]]|[]=>rfl|[bp]=>by simp[bT,eG,h x,eX f n h r,lI]
def XO(n:Nat)(t:cK):[lp,sD t]:=rfl
def Cd(n G:Nat):[lp,nD G]:=rfl
def vQ(n:Nat)(p:[gj]):[lp,pD p]:=rfl
def u8(n:Nat)(p:uc):[lp,eR p]:=rfl
def G1(n:Nat)(x:Tax):[lp,eh x]:=rfl
def G3(n:Nat)(x:j_):[lp,ec x]:=rfl
def NF(n line:Nat)(ws:bO)(G:Nat):[lp,[m3,G]]:=by simp[hx,aP.low,oi,i7,D.low,yX];exact [oT,XO n]
def eC.St(h:eC S)(r line:Nat)(ws:bO)(n:Nat):eC [Df]:=h.set r _ (NF _ _ _ _)
def GQ(e:eC S)(c:Nat)(l:[al])(fs:[h])(d:D)(k:Nat)(y:run prog k (prog.init c) ([hh]::l) [vF,[]]=[lO,[vF,fs]])(hd:cp [ad] [vF,fs] 8 [hh]=aa d):gc (newD (cf k) c l) S=[id]:=by(have m:newD (cf k) c l S=[pj,[vF,fs]]:=by have q:(cf k).init c=prog.init c:=rfl;simp[newD,q,wJ,y]);simp[gc,m,hd,e.all,bI]
def vu(S:aj)(c:aP):[aR,S++[c],[ad],c]:=by simp
def zH(S:aj)(c a:aP):[LE]:=by simp
def ZC(e:eC S)(x:Tax)(k:Nat):gc (newD [kn] 0 [[je],[l,x.rate],[bj,! x.within],[l,x.over]]) S=[ab,eh x]:=by apply GQ e 0 _ [Hi];{rw[ak,q,prog.init 0=7,rfl,[ll]];rw[bi,f7,vu,zH]};{rw[gv,cp,qw,vu]}
def XM(e:eC S)(x:j_)(k:Nat):gc (newD [kn] 3 [[je],[wM,x.share],[l,x.value],[l,x.item],[l,x.cap.getD 0],[l,x.least]]) S=[ab,ec x]:=by apply GQ e 3 _ [Gj];{rw[ak,q,prog.init 3=10,rfl,[ll]];rw[bi,ON,vu,zH]};{rw[gv,cp,qw,vu]}
def aa4(e:eC S)(x:io)(c:Nat)(O:c<[ad])(k:Nat):gc (newD [kn] 2 [[je],[l,[ea]],[l2]]) S=[ab,hU x (aa c)]:=by apply GQ e 2 _ [xJ,[l2]];{rw[ak,q,prog.init 2=9,rfl,[ll]];rw[bi,f9,vu,zH]};{simp[cp,qw,vu,cM,O];rfl}
def LB(x:dY)(I:x.volume=[])(U:x.steps=[])(J:x.free=ag)(W:[yO])(k:Nat):[zd,1,[[je],[l,[ea]],[xH]],[IH]]:=by rw[D,h,[xW,8,[[hh],[je],[l,[ea]],[xH]],1,[IH]],by rw[[ll]];rw[D,z,[xr,L],[y4],j,[xb,a,L],[DY]];rw[D,O,[ug,L,S],[zH],d,dk .sorted [xH]=λT=>[be,[hu,mr [jJ]],T],by funext T;have m:[Q,[wf,[od,n]]]<64:=[f];rw[aB,dk,fF,oU,l3,fC];rw[aJ m];rw[ak,e,[R,pq [wf,λ(n:Nat)=>(n)],D.int]=[da,mr [jJ]],by rw[mr,cq];rw[a6,iL,i,q];have u:=(tL _).mem_iff.mp q;rw[bM,n,u];rfl,e];rfl];rw[aX,seval,f8,z,j,O,d,cO];simp[d9,J,fD],q,[kn].init 1=8,rfl];simp[newD,q,wJ,h]
def Hj{A:BA}(h:A.all.Nodup):A.hd.Nodup/\(∀a∈A.hd,[ez,A.az,a≠[f6]/\a≠[ak,t]/\a≠[aE,t]])/\(∀a∈A.hd,∀c,aa c∈A.bs->a≠c):=by rw[aI,BA.all,h];rw[g8]at h;rw[aK,m,u,q,h,#[m,λa J t j=>?_,λa J c O=>?_]];{have:=λx L=>q a J x (by rw[aa,cs];exact e6 (kc.mpr #[t,j,L]));exact#[[D8],[D8],[D8]]};{exact q a J c (by rw[aa,cs];exact kT (uk.mpr #[aa c,O,Y]))}
def lX{S:aj}(h:[fR,c]):[aR,[dm,a,j],a,j]:=[f]
def bR{S:aj}(h:b≠a):[ky][b]?=S[b]?:=gm [f]
def jw(h:a≠r):[dl].set a c=[d7,[ky],n]:=by simp[St];rw[Tc _ _ [f]]
section
variable{S:aj}{A:BA}{b:a7}{nm st:List (D×D)}(h:dB S A b nm st)
include h
theorem dB.ne(i j:Nat)(H:[bH,i,j])(L:[cT,A.hd])(q:[ce,A.hd,y]):x≠y:=by intro e;have m:=[M,Hj h.nd];subst e;rw[ch,(v9 [f] m).mp (L.trans q.symm)]
theorem dB.tX(a:Nat)(J:a∈A.hd)(c:aP):(∀(t:[oW])(x:dY)(i:Nat),([vy])->([cT,[cH]])->ri [ky] t x)/\(∀(i j:Nat)(x:io),([aZ,A.bs,aa j])->([cT,[iy]])->[ce,[ky],aP.lst [kj,pD]]):=by obtain⟨_,u,z⟩:=Hj h.nd;rw[a8];{intro t x i m e;rw[K,L,G,W,u a J t (cG m)];rw[bd,q,h.is i t x m e,[C1,bR L.symm,bR G.symm,bR W.symm]]};{intro i j x m e;rw[V,bR [dI,z a J _ (cG m)],h.bc i _ x m e]}
theorem dB.Bo(d:[h]):dB [dm,A.aN,[cf,d]] A b d st:=[tN,A.aN,1,lX h.na,[bU,2,1,h.ta],[bU,5,1,h.co],[bU,6,1,h.ap],[bU,7,1,h.se]]
theorem dB.W6(I:[h]):dB [dm,A.aS,[cf,I]] A b nm I:=[tN,A.aS,7,[bU,1,7,h.na],[bU,2,7,h.ta],[bU,5,7,h.co],[bU,6,7,h.ap],lX h.se]
theorem dB.Mp(l:[h]):dB [dm,A.aT,[dN,eh]] A {b with taxes:=l} nm st:=[tN,A.aT,2,[bU,1,2,h.na],lX h.ta,[bU,5,2,h.co],[bU,6,2,h.ap],[bU,7,2,h.se]]
theorem dB.BZ(l:[h]):dB [dm,A.aC,[dN,ec]] A {b with coupons:=l} nm st:=[tN,A.aC,5,[bU,1,5,h.na],[bU,2,5,h.ta],lX h.co,[bU,6,5,h.ap],[bU,7,5,h.se]]
theorem dB.ae'(l:[h]):dB [dm,A.aA,[iU]] A {b with apart:=l} nm st:=[tN,A.aA,6,[bU,1,6,h.na],[bU,2,6,h.ta],[bU,5,6,h.co],lX h.ap,[bU,7,6,h.se]]
theorem dB.other(e q:[fP])(lz:[fP]):dB S A {b with rounding:=e,cash:=q,byLine:=lz} nm st:=#[h.nd,h.bk,h.na,h.ta,h.it,h.bu,h.co,h.ap,h.se,h.il,h.is,h.bl,h.bc]
theorem dB.Za(x:dY)(t:[oW])(m:ri S t x)(s:[e9,A.all++[rO]]):dB [dm,A.aI,[dv,A.az++[t],λt=>[m,[f6]]]] {A with az:=A.az++[t]} [nQ,x] nm st:=by rw[M,C,l,h.tX A.aI ([rJ]) _];rw[a0,u,{A with az:=A.az++[t]}.all.Perm (A.all++[rO]),by rw[ac,BA.all,rN,em];rw[d8,y8 _ (y8 _ ?_),Td],G,A.aI≠[f6]/\A.aI≠[ak,t]/\A.aI≠[aE,t],by rw[g8]at s;rw[br,q,A.aI∈A.all,[DS],#[[Cm],[Cm],[Cm]]],#[u.nodup_iff.mpr s,[bU,0,3,h.bk],[bU,1,3,h.na],[bU,2,3,h.ta],lX h.it,[bU,4,3,h.bu],[bU,5,3,h.co],[bU,6,3,h.ap],[bU,7,3,h.se],by simp[h.il],λi t' d e z=>?_,h.bl,l]];rw[Iy]at e z;rw[h.il]at e;rw[aA,e];rw[ar];{rw[ax,a];rw[aw a]at z;cases L:i-[bR]with|zero=>rw[L]at e z;simp[rL,cX]at e z;subst e;rw[bh,z,#[[q,bR [dI,G.1],m.it],[q,bR [dI,[ak,G]],m.vo],[q,bR [dI,[aE,G]],m.st]]]|succ j=>rw[eK,L,e]}
theorem dB.abZ(x:io)(c:Nat)(m:[aR,S,c,[Af]])(s:c∉A.all):dB [dm,A.aB,[dv,[Bk,x,c],[aF,[lq]]]] [xu,c] [nK,x] nm st:=by rw[M,C,l,h.tX A.aB ([rJ]) _];rw[a0,H,[DA,c],by simp[BA.all,Te,em];rfl,f,A.aB≠c,λe=>s (e▸[DS]),#[?_,[bU,0,4,h.bk],[bU,1,4,h.na],[bU,2,4,h.ta],[bU,3,4,h.it],lX h.bu,[bU,5,4,h.co],[bU,6,4,h.ap],[bU,7,4,h.se],h.il,λi t x a b=>C t x i a b,by simp[h.bl],λi G J z u=>?_]];{rw[H,g8];rw[gM,#[h.nd,by simp,λa O d hd e=>?_]]};{rw[Iy]at z u;rw[h.bl]at z;rw[aA,z];{rw[ax,q];rw[ae,aJ q,u,l i _ _ z u]};{rw[ax,q];rw[aw q]at u;cases L:i-[cu]with|zero=>rw[L]at z u;simp[rL,cX]at z u;subst z;subst u;rw[cz,bR f.symm]|succ j=>rw[eK,L,z]}}
theorem dB.ahs(i:Nat)(t:[oW])(x N:dY)(a:Nat)(c:aP)(J:[vy])(L:[cT,[cH]])(r:[LK])(s:ri [ky] t N):dB [ky] A [xZ,N] nm st:=by rw[K,X,g2,E,Hj h.nd];rw[ah,z,cG J,hh,∀y∈A.hd,y≠a,λy U=>[f]];have bU:=h.nd;rw[aI,BA.all,bU];rw[g8]at bU;rw[bk,f,[ak,bU],g8,f];rw[D,d,a∈[rO],by rcases r with rfl|rfl|rfl<;>simp,Z,[oh,t',[oW],A.az,t',j≠i->t'.1≠a/\[ak,t']≠a/\[aE,t']≠a],by intro j t' T p;(have key:∀(l:[h]),([e9,l.flatMap [vB]])->∀(i j:Nat)(t t':[oW]),([aZ,l,t])->([ce,l,t'])->i≠j->∀C∈[rO],∀v∈[t'.1,[ak,t'],[aE,t']],C≠v:=by intro l;induction l with|nil=>intro _ i j t t' m;simp at m|cons y l P=>intro hN i j t t' m u H C hu v W;rw[ir,g8]at hN;cases i with|zero=>(rw[aO,rL,cX,m];cases j with|zero=>rw[be,Y,H]|succ j=>rw[ao,IE,u];exact hN.2.2 C (m▸hu) v (kc.mpr #[t',cG u,W]))|succ i=>cases j with|zero=>rw[aO,rL,cX,u];exactλe=>hN.2.2 v (u▸W) C (kc.mpr #[t,cG m,hu]) e.symm|succ j=>exact P [ak,hN] i j t _ m u [g] C hu v W);have:=λv W=>key _ f.1 i j t _ J T (λe=>p e.symm) a d v W;exact [Gd,λe=>this _ (by simp) e.symm]];rw[a0,g,∀G,[cj]∈A.bs->G≠a,λG B e=>[gx].2 a (kc.mpr #[t,z,d]) _ (uk.mpr #[[cj],B,Y]) e.symm,hd,∀y∈A.hd,[ky][y]?=S[y]?,λy U=>bR (hh y U),#[h.nd,[po,h.bk],[po,h.na],[po,h.ta],[po,h.it],[po,h.bu],[po,h.co],[po,h.ap],[po,h.se],by simp[h.il],λj t' Q I O=>?_,h.bl,λj G Q I O=>?_]];{rw[b,e,j=i];{subst e;rw[fp,J,I,cX];subst I;rw[fp,rZ [dB,L],O,cX];subst O;omega};{rw[K,o,F,n,Z j _ I e];rw[gm (λw=>e w.symm)]at O;rw[bd,q,h.is j _ _ I O,[C1,bR o,bR F,bR n]]}};{rw[V,bR (g _ (cG I)),h.bc j _ _ I O]}
end
def pZ(b:a7):Nat:=b.rounding.toList.length+(b.cash.toList.length+b.byLine.toList.length)
def EG(b:a7):pZ b<=3:=[b2,pZ]
structure ak (S : aj) (A : BA) (b : a7) (nm st : List (D × D)) (n0 : Nat) (P : aj) : Prop where
 bk : dB S A b nm st
 se : gF b st
 nm : mL b nm
 wf : Wf b
 w2 : u' b
 lo : eC S
 ge : ∀ a ∈ A.all, n0 ≤ a
 pr : S.take n0 = P
 sl : st.length ≤ pZ b
 sv : ∀ p ∈ st, p.2.sh = ae
def iX(G:R D)(n0:Nat)(P:aj)(nb r line:Nat)(ws:bO)(g:eT a7):[P]:=[jr,g,∃B,G=[f9,[cP,e.1],[cP,e.2],B]/\B.take n0=P,x,[vh]/\[CL,B,q,G,[bM],[S],[bu],nb]]
def jr{S:aj}(h:n0<=a):[ky].take n0=S.take n0:=by apply my;rw[hX,Im]
def hH(h:n0<=r):[dl].take n0=S.take n0:=jr h
def ao4(F:[h])(k v:D):[aO,cB F k v,F.length+1]:=m5 F k v
def li(F:[h])(k G:[h])(v:D):bK (cB F [K,k] v) [K,G]=[fc,G,k,v,bK F [K,G]]:=by(have J:∀(x:D)(a c:[h]),x.beq [K,a]=ae->x.beq [K,c]=ao (a=c):=by intro x a c L;cases x<;>simp only[D.beq,dj]at L;rw[aI,ip,L];rw[b2,D.beq]);simp[cB];rw[aE,G=k];{subst q;rw[bV,bI];{rw[ax,h];rw[NV _ _ _ _ (by simp) h]};{rw[ax,h];rw[Fw,Og _ _ h,oJ];simp[D.beq]}};{split;{rw[MM _ _ _ _ [f]]};{have:(D.str k).beq [K,G]=af:=[b2,D.beq];simp[this,bK]}}
section
variable{S:aj}{A:BA}{b:a7}{nm st:List (D×D)}{n0:Nat}{P:aj}(I:ak S A b nm st n0 P){r:Nat}(hr:r<S.length)(hra:r∉A.all)(hrn:n0<=r){line:Nat}{ws:bO}(hw:hP ws)
include I in theorem ak.sF:n0<=A.aN/\n0<=A.aS/\n0<=A.aT/\n0<=A.aC/\n0<=A.aA/\n0<=A.aI/\n0<=A.aB:=by refine#[[nM],[nM],[nM],[nM],[nM],[nM],[nM]]
include hra in theorem re:A.nb≠r/\A.aN≠r/\A.aT≠r/\A.aI≠r/\A.aB≠r/\A.aC≠r/\A.aA≠r/\A.aS≠r:=by have:∀a∈A.hd,a≠r:=λa h e=>hra (e▸BA.l9 h);refine#[[n2],[n2],[n2],[n2],[n2],[n2],[n2],[n2]]
theorem AA:[qS,16,A.aN]:=rfl
theorem zF:[qS,17,A.aT]:=rfl
theorem Gj:[qS,18,A.aI]:=rfl
theorem Q5:[qS,19,A.aB]:=rfl
theorem N8:[qS,20,A.aC]:=rfl
theorem L3:[qS,21,A.aA]:=rfl
theorem wD:[qS,22,A.aS]:=rfl
include I hr hra in theorem E2(s:[h])(n k:Nat):[jo,2,50,[[jy],[bA],[db]],n]=[ap,[es,bK st [db]],[f9,n,2,[dl]],[lO,[dl]]]:=by rw[[bQ]];have f:=[tR];rw[eR,OK,d7 f.bk,wD,EX f.se];rw[b,h,[es,bK st [db]]=ae];{rw[bi,h,[bo],[fG]]};{simp[seval,h]}
include hr hw in theorem Kg(n k:Nat):[i8,4,51,[[bA]],n,me,qx n [ds]]:=by rw[a9,[bQ],m,[CO,0,9,RULES-1,n],kj hr hw 0 9 n k];rw[bi,PU,[bo],qx];cases h:bN 0 _ n _ with|error e=>rw[ap,h,m,p,q,m];simp[q];rw[aW,p]|ok x=>rw[ap,h,m,L,q,m];have u:dH [lg,[ei,[bA],1,10000]] _ line _ _ _:=kj hr hw 1 _ [bM] k;rw[aP,L,u];rw[bi,q,aZ,[bo]];cases J:[qK]with|error e=>rw[ap,J,u,p,W,u];simp[W];rw[aW,p]|ok y=>rw[cE,J,u,O,W];rw[aW,O]
end
def ak.setting{nm st}(I:[k',S])(s:[h])(v:D)(e:a7)(l:∀n,v.low n=ae)(d:v.sh=ae)(m:e.taxes=[hw])(u:e.items=[cH])(W:e.bundles=[iy])(j:e.coupons=[jz])(f:e.apart=[nu])(H:gF e [zN])(U:n' (nH e))(C:n' (jI e))(B:[aO,[zN],pZ e]):ak [dm,A.aS,.aV [zN]] A e nm [zN] n0 P:=by rw[D,Z,e={b with rounding:=e.rounding,cash:=e.cash,byLine:=e.byLine},by rw[cJ];grind,O,c_ e=c_ b,by simp[c_,m,u,W,j]];rw[a0,a,∀x,find e x=find b x,λx=>by simp[find,d3,df,en,d0,m,u,W,j],c,[h4,F,G,Nat,lowP G F=ae,lowP G (cB F [db] v)=ae],λF G h=>by rw[bV,cB];{rw[ax,L];clear L;induction F with|nil=>rfl|cons p q J=>rw[M,N,y,p];rw[aO,lowP,aF,h];rw[bT];rw[b,z,N.beq [db]=ae];{simp[z,bI,lowP,l G,J [cW],lI]};{simp[z,b8,lowP,[dK],J [cW],lI,dj]}};{rw[ax,L];clear L;induction F with|nil=>simp[wc,lowP,l G,lI]|cons p q J=>rw[M,N,y,p];simp[lowP,aF]at h;simp[Ik,lowP,[dK],J [cW],lI]},#[?_,H,[H',x,L,a,O],?_,#[λx L=>I.w2.f' x (u▸L),[q,f,I.w2.ap],[q,f,I.w2.qV]],?_,I.ge,[q,jr [ak,I.sF],I.pr],B,λp z=>by rw[aZ,QZ z,z,z,I.sv p z];grind]];{rw[V,Z,(I.bk.W6 _).other _ _ _]};{rw[bd,w,I.wf,#[[q,m,w.nt],[q,u,w.ni],[q,W,w.nb],[q,j,w.nc],[q,m,w.rate],[q,m,w.qZ],λi x L=>by have:=w.over i x (m▸L);simp[cj,m];rw[bZ],λx L=>[q,m,w.item x (u▸L)],λx L=>[q,u,w.iR x (W▸L)],λx L=>[q,u,w.jW x (j▸L)],λp z=>[q,j,w.apart p (f▸z)],U,C]]};{apply I.lo.set;rw[bd,g,cG I.bk.se,c _ _ (I.lo _ g)]}
def kD(h:bN lo q n ws=[fX]):[we,[S]]:=[BP,bN,w]
def Kv(h:qx n ws=[fX]):n' [S]:=by rw[aI,qx,h];cases m:bN 0 _ n _ with|error e=>rw[fp,m,h,aZ]|ok y=>rw[fp,m,h,aZ];cases u:bN 1 10000 [dp] [f1]with|error e=>grind|ok z=>rw[fp,u,h,qy];subst h;rw[R,q,kD m,j,kD u];rw[aI,RULES,q];exact#[[gf,[b7]<=9],[gf,1<=[cK]],[gf,[cK]<=10000]]
def w6(b:a7)(ws:bO):eT a7:=[ap,[Eq],[wy],[jc,qx 1 [go],x,{b with rounding:=aa x}]]
def xS(b:a7)(ws:bO):eT a7:=[ap,b.cash.isSome,[wy],[jc,qx 1 [go],x,{b with cash:=aa x}]]
def wO(b:a7)(ws:bO):eT a7:=[ap,[Fl],[wy],[ap,cn "line" [go],.ok ([Fh,ae],2,[go].drop 1),aZ (lJ "total" 1 [go]) λ_ n C=>[iN,[Fh,af],C]]]
section
variable{S:aj}{A:BA}{b:a7}{nm st:List (D×D)}{n0:Nat}{P:aj}(I:ak S A b nm st n0 P){r:Nat}(hr:r<S.length)(hra:r∉A.all)(hrn:n0<=r){line:Nat}{ws:bO}(hw:hP ws)(k:Nat)
include I hr hra hrn hw
theorem agG:[i9,5,52,1,w6 b ws]:=by rw[[bQ]];rw[D,J,[KX],I.se.ro,g,[oj,[cM,1]],E2 I hr hra [i'] 1 [dt]];rw[b0,Kr,g,J,wd,w6];rw[b,h,[Eq]=ae];{simp[h];rw[cl]};{have f:dH _ _ line _ _ _:=Kg hr hw 1 k;rw[Y,seval,h];cases l:qx 1 _ with|error e=>rw[ap,l,f,p,q,f];simp[q];rw[cl]|ok x=>rw[d',st.length<lim,[i']];apply I.setting _ _ {b with rounding:=[cj]} [bL] Y Y Y Y Y Y;{refine [n4];{rw[a_,li]};{rw[V,li,I.se.ca]};{rw[V,li,I.se.lz]}};rw[aq,j,I.wf.ca];{rw[fc,[i'],[mQ]]}}
theorem aaE:[i9,5,53,1,xS b ws]:=by rw[[bQ]];rw[D,J,[LZ],I.se.ca,g,run _ [fB] _ _ [cM,1]=_,E2 I hr hra [im] 1 _];rw[b0,ME,g,J,wd,xS];rw[b,h,b.cash.isSome=ae];{simp[h];rw[cl]};{have f:dH _ _ line _ _ _:=Kg hr hw 1 k;rw[aa,h];cases l:qx 1 _ with|error e=>rw[cE,l,f,p,q];rw[cl]|ok x=>rw[d',st.length<lim,[im]];apply I.setting _ _ {b with cash:=[cj]} [bL] Y Y Y Y Y Y;{refine [n4];{rw[V,li,I.se.ro]};{rw[a_,li]};{rw[V,li,I.se.lz]}};rw[aq,I.wf.ro,j];{rw[fc,[im],b.cash]}}
theorem aav:[i9,5,54,1,wO b ws]:=by rw[aU [fB] _ (F:=EI) Y Y Y];rw[D,j,bK st [rn]=b.byLine.map sP,I.se.lz,g,[jo,4,50,[[jy],[bA],[rn]],1]=_,E2 I hr hra [jm] 1 [dt]];rw[b0,EI,g,j,wd,wO];rw[b,h,[Fl]=ae];{rw[Y,seval,h];rw[cl]};{have w:[lP,4,30,[bk,[K,[nW]],[K,[p2]]],1]=_:=[AM,"line","total",1,1];rw[au,seval,h,[bo],w];cases hd:[go]with|nil=>rw[aB,seval,cn,IC,lJ,aZ];rw[cl]|cons x q=>rw[ah,f,[KR,2],W,st.length<lim,by have:=I.sl;have:=EG b;rw[ek]];rw[R,z,[mW,[eQ,re hra]],a,q0 hd];have U:=m5 st [rn];rw[b,m,x=ay "line"];{rw[D,O,[E4].contains x=ae,[f],e,cn "line" (x::q)=ae,[bP,m]];simp only[seval,O,e,d7 f.bk,wD,f.se,W,jw z];rw[ez,x,ae];{rw[eI];{rw[Ht,li,aJ Y,m];rfl}};rw[aq,I.wf.ro,I.wf.ca];{rw[R,G,U (sD x),L,I.sl];(have C:b.byLine=ag:=by cases J:b.byLine<;>simp_all);simp only[pZ,C,IF,IG,gL,b7]at L|-;omega}};{rw[b,u,x=[sS]];{subst u;rw[D,O,[mA,[E4],[sS]],[af],e,[rx,"line",[sS]],by rfl];simp only[seval,O,e,lJ,aZ,d7 f.bk,wD,f.se,W,jw z,bI];rw[ez,[sS],af];{rw[eI];{rw[Ht,li,aJ Y];rfl}};rw[aq,I.wf.ro,I.wf.ca];{rw[R,G,U (sD [sS]),L,I.sl];have C:b.byLine=ag:=[bb];simp only[pZ,C,IF,IG,gL,b7]at L|-;omega}};{rw[D,O,[tj,[E4],x],[bb],e,[rx,"line",x],by simp[cn,m]];rw[b0,O,e,lJ,u,aZ];rw[cl]}}}
end
def mL.add(h:mL b nm)(x:cK)(L:[nh])(s:x∉c_ b)(p:[ts])(J:∀y,find l y=[fc,y,x,p,find b y])(m:(c_ l).Perm (x::c_ b)):mL l (cB nm [eV,x] (lv p)):=by refine#[λy O=>?_,m.nodup_iff.mpr (mx.mpr #[s,h.nd]),λy O=>?_,?_,?_];{rw[li,J];rw[bo,e,y=x];{have:=λa=>e (xF (D6 O) (D6 L) a);rw[a5,aw this,aw e,h.get y O]}};{rw[aJ,[c4,m.mem_iff.mp O],rfl,O];rw[ar];{exact h.ok y O}};{rw[m.length_eq];have:=m5 nm [eV,x] (lv p);rw[ch,h.len]};{intro q z;rw[aZ,QZ z,z,z,h.val q z];{rw[a_,z]}}
def Ao(h:hZ b n ws=[fX]):dS [S]=ae/\[S]∉c_ b:=[BP,hZ,w]
def mi(h:cu l n ws=[fX]):[ly,[S],[E],[bM]=[aw]]:=by cases ws with|nil=>rw[aI,cu,h]|cons w r=>rw[aI,cu,h];rw[a2];rw[ar];{cases q:fK l w with|none=>grind|some i=>rw[q]at h;rw[a4,e,z,uZ q];grind}
def Au(h:v.low G=ae)(e:lowP G F=ae):lowP G (cB F s v)=ae:=by rw[bV,cB];{rw[ax,L];clear L;induction F with|nil=>rfl|cons p q m=>rw[M,i,a,p];simp[lowP,aF]at e;rw[bT];rw[b,z,i.beq s=ae];{simp[z,bI,lowP,h,m e.2,lI]};{simp[z,b8,lowP,e.1,m e.2,lI,dj]}};{rw[ax,L];clear L;induction F with|nil=>simp[wc,lowP,h,lI]|cons p q m=>simp[lowP,aF]at e;simp[Ik,lowP,e.1,m e.2,lI]}
def Br(hw:[aP])(h:mL b nm):nm.length<lim:=by have m:=h.len;simp[c_,cO,aR]at m;have:=hw.nt;have:=hw.ni;have:=hw.nb;have:=hw.nc;rw[fu]
def yj(b:a7)(ws:bO):eT a7:=[yS,TAXES<=[cD],[ix,bN 0 10000 n C,rate,[ap,cn "in" C,.ok ([nR,[uc,nm,rate,ae,0]],[aw],[wz]),aZ (lJ "on" n C) λ_ n C=>[ap,cn "over" C,aZ (cu (d3 b) [aw] [wz]) λo G v=>[ap,[t0,o],[hn,G,3],.ok ([nR,[uc,nm,rate,af,o]],G,v)],[iN,[nR,[uc,nm,rate,af,0]],C]]]]]
def aes(s:[sD])(y:cK):[xB,[nR,t],mq,[cD]]:=by rw[D,m,t.name∉d3 b,λh=>s (by rw[Y,c_,cs];exact e6 h),e,d3 [nR,t]=d3 b++[t.name],by simp[d3]];simp[find,e,AV m];rw[b,L,y=t.name];{simp[L,d3]};{simp[L];rfl}
def ak.ahq{nm st}(I:[k',S])(t:Tax)(B:dS t.name=ae)(s:[sD])(U:[cD]<4)(a:t.rate<=10000)(C:t.within=ae->t.over=0)(d:t.over<=[cD])(H:[Lr]):[GV,A.aT,[hw],eh,mq,[cD],[nR,t]]:=by rw[c4];rw[ad,c,∀o,o≠0->o<=[cD]->cj [nR,t] o=cj b o,λo m u=>by rw[Y,cj,hY];rw[lK [g]],[F9,I.bk.Mp _,aes s,g]];{rw[ac,c_,de,em];exact Tf};{refine#[[bE],w.ni,w.nb,w.nc,?_,?_,?_,?_,w.iR,w.jW,w.apart,w.ro,w.ca];{intro x L;rw[aZ,cs.mp L,L,L,w.rate x L];{rw[aI,dL,L];grind}};{intro x L;rw[dj,L,w.qZ x L,C]};{intro i x L;rw[Iy]at L;rw[aA,L];{rw[iT,G,W,w.over i x L]};{cases J:i-[cD]with|zero=>grind|succ j=>rw[eK,J,L]}};{intro x L;rw[bx,h,e,O,w.item x L,#[h,e,λt' z=>by have:=O _ z;rw[bE]]]}};{rw[e3,G1 _]}
section
variable{S:aj}{A:BA}{b:a7}{nm st:List (D×D)}{n0:Nat}{P:aj}(I:ak S A b nm st n0 P){r:Nat}(hr:r<S.length)(hra:r∉A.all)(hrn:n0<=r){line:Nat}{ws:bO}(hw:hP ws)(k:Nat)
include I hr hra hrn hw
theorem W1:[i9,5,38,1,yj b ws]:=by rw[aU [fB] _ (F:=GN) Y Y Y];rw[dP];rw[D,er,[rK,C,a,C.take n0],[n3],X,[zp,4,A.aT,4],Am hr [cQ,hR] I.bk.ta 4 1 [dt]];rw[aR]at X;rw[c',GN,hB 1,zF,yj,TAXES,4,[cD]];{rw[c9,4,k];cases hg:[sl]with|error e=>rw[cN,hg,f,hp]|ok x=>rw[dy,hg,hp,4,10000,10000,[ao]];cases J:bN 0 10000 [bM] [dY]with|error e=>rw[cx,J,N,fG]|ok y=>rw[ap,J,N,hy,fG,N];rw[ah,v,kD J,w,[lP,4,30,[bk,[K,[s9]],[K,[mN]]],[dp]]=_,[AM,"in","on",[dp],1]];rw[aB,seval,fG,nD,[bo],w];(have fj:[lY,G,t,Tax,t.name=[S],t.rate=[b7]->(t.within=ae->t.over=0)->t.over<=[cD]->([Lr])->[CL,C,j9,R.bd (bj [gd,4] [[IE],[pP,[hP],17]] [[c8,A.nb],[c8,r],[bm,sD [S]],[ay,[b7]],[bm,[bj,! t.within]],[ay,t.over]] [cM,G]) oW,G,[nR,t],[iL],A.nb]]:=by intro G t m u h3 h4 h5;have hT:=ZC (I.lo.St r line ws G) t [f2];rw[m,u]at hT;rw[ee,[mu,eh],[xD,G,A.aT,[mu,eh],eh t,[hw],t,eh],hR,I.bk.Mp ([hw]++[t]),I.ahq t (m▸B) (m▸s) [g] [g] h3 h4 h5,[Q,[R,[hw]++[t],eh]]=[cD]+1,zF,(hB G).ta,E.ta]);cases hd:[fi,[dp]]with|nil=>rw[hy,hd];rw[au,seval,cn,IC,lJ];rw[bc]|cons z q=>have hq:=q0 hd;rw[hy,hd];rw[b,T,z=ay "in"];{subst T;rw[aj,O,[mA,[EG],ay "in"],[af],hk,cn "in" (ay "in"::q)=ae,by simp[cn],he,[bH,[d3,"in"],[mN]],[af]];obtain⟨C,j,d,j9,f1,f2,f3,f4⟩:=[Iv,ae,[bL]];rw[Y,hk,bI];rw[df,by simp[hq],C];rw[au,seval,O,sD,he]};{rw[b,t9,z=ay "on"];{subst t9;rw[D,O,[mA,[EG],ay "on"],[af],hk,[rx,"in",ay "on"],by rw[Y,cn,uu];rw[af]];rw[D,he,[a3,[d3,"on"]==[mN]],[af],g,[lP,4,33,[K,[ut]],[dp]+1]=_,GC hr hw (ay "over") [wL] ([dp]+1) [dt]];rw[hq]at g;rw[aB,hk,dj,b8,lJ,bI];rw[b,H,q.head?=aa (ay "over")];{rw[aH,i,cn "over" q=ae,by simp[cn,H],aJ H,g];rw[D,W,[xf,4,[hP],[wa],d3 b,[wa]],[xo,mq,d3 b,[M,[vt]],[wa],k],U,[fi,[wa]]=q.drop 1,by rw[<-y6,hq]];rw[U]at W;rw[Y,i,bI];cases Q:cu (d3 b) [wa] (q.drop 1)with|error e=>rw[ap,Q,W,p,l,W];rw[aX,seval,O,sD,he,[bo],g,l];rw[bc]|ok o=>rw[ap,Q,W,ho,l,W];rw[K,o1,o2,o3,mi Q];rw[R,Cp,[gr,d3,o2],rD,oC (b:=b) o.1 o1 Cp];rw[b,Z,[t0,o.1]=ae];{simp only[seval,O,sD,he,[bo],g,l,nD,[no,hB [i3]],zF,ic (hB [i3]).ta,rD,Z,[fG]];rw[bc]};{have yH:=[aD,Z];obtain⟨C,j,d,j9,f1,f2,f3,f4⟩:=fj [i3] [uc,[S],[b7],af,o.1] Y Y (λh=>[hG]) Cp (λ_=>yH);rw[ac,yH,dj,b8];rw[df,ho,C];simp only[seval,O,sD,he,[bo],g,l,nD,[no,hB [i3]],zF,ic (hB [i3]).ta,rD,yH]}};{rw[aH,i,cn "over" q=af,by simp[cn,H],aw H,g];obtain⟨C,j,d,j9,f1,f2,f3,f4⟩:=[Iv,af,λh=>[hG]];rw[ac,i,dj,b8];rw[df,hq.symm,C];rw[b0,O,sD,he,[bo],g]}};{rw[D,O,[tj,[EG],z],by simp[T,t9],hk,[rx,"in",z],by simp[cn,T]];rw[aX,seval,O,hk,lJ,t9,dj,b8];rw[bc]}}}
end
def xp(b:a7)(ws:bO):eT a7:=[ix,cu [e1] 1 [go],i,[ix,cu [e1] n C,j,[A,i=j\/[uR,(ek i j,fk i j)]=ae,[hn,n,2],[iN,{b with apart:=[nu]++[(ek i j,fk i j)]},C]]]]
def ak.afi{nm st}(I:[k',S])(p:[gj])(m:1<=[L])(u:[L]<[Z])(h:[Z]<=[bK])(B:p∉[nu])(U:b.apart.length<100):ak [dm,A.aA,[iY,[nu]++[p]]] A {b with apart:=[nu]++[p]} nm st n0 P:=by rw[c4];refine#[I.bk.ae' _,[w'],#[I.nm.get,I.nm.nd,I.nm.ok,I.nm.len,I.nm.val],?_,#[I.w2.f',[bE],by rw[cm,g8,#[I.w2.qV,by simp,λa J c O e=>?_]];grind],?_,I.ge,[q,jr [pl,g],I.pr],I.sl,I.sv];{refine#[w.nt,w.ni,w.nb,w.nc,w.rate,w.qZ,w.over,w.item,w.iR,w.jW,?_,w.ro,w.ca];intro q z;rw[sz,z,w.apart q z]};{exact I.lo.set _ _ [vC,vQ _]}
def aae(n:Nat):∀(l:[kh]),l.Nodup->([g4,l,1<=[L]/\[L]<[Z]/\[Z]<=5])->[E]<=36:=by intro l q h;rw[ch,kt 36 [pn,6*[L]+[Z]] (by rw[aiA,Il];apply aqm _ q;grind) [f]]
section
variable{S:aj}{A:BA}{b:a7}{nm st:List (D×D)}{n0:Nat}{P:aj}(I:ak S A b nm st n0 P){r:Nat}(hr:r<S.length)(hra:r∉A.all)(hrn:n0<=r){line:Nat}{ws:bO}(hw:hP ws)(k:Nat)
include I hr hra hrn hw
theorem af6:[i9,5,49,1,xp b ws]:=by rw[aU [fB] _ (F:=EL) Y Y Y];rw[R,C,λn=>[tR],X,re hra];rw[aj,er,[rK,s,a,s.take n0],[n3],W,∀n,[xf,4,[hJ],n,[e1],n],λn=>[xo,pz,[e1],[eQ,[vt]],n,k],g,b.apart.length<100,[aN,aae 0 [nu] I.w2.qV (λp L=>by have:=I.wf.apart p L;rw[aN,I.wf.nc])]];have m:=W 1;rw[ac,seval,EL,xp];cases z:cu [e1] 1 [go]with|error e=>rw[cN,z,m,L]|ok i=>rw[ap,z,m,Q,L,m];have u:=W [kP];rw[aP,Q,u];rw[au,seval,L,aZ,nD];cases J:cu [e1] [kP] [aE,i]with|error e=>rw[cx,J,u,y]|ok j=>rw[ap,J,u,E,y,u];rw[a4,v,t,mi z];rw[a4,o,d,mi J];rw[R,B,[gr,d0,t],q,[gr,d0,d]];rw[D,f,ek [an,[fF]] j.1=ek [fF] j.1,[g],l,fk [an,[fF]] j.1=fk [fF] j.1,[g]];rw[aB,seval,y,nD,f,l];rw[b,H,[fF]=j.1];{rw[ak,U,[a3,[fF]==[an,j.1]],by simp[H],aJ (e6 H)];rw[au,seval,U,[bo],[fG]];rw[bc]};{have U:[bH,[fF],[an,j.1]]:=[f];rw[aB,seval,U,[no,[wu]],L3,ic [wu].ap];rw[b,O,[uR,[xd]]=ae];{rw[ak,N,[Mj],kT O,aJ N];rw[au,seval,O,[bo],[fG]];rw[bc]};{rw[ak,N,¬[Mj],[f],aw N];rw[a0,Z,[iQ,[oq,pD]],[qv],F,[xD,[ak,j],A.aA,[oq,pD],[iw,[bd,ek [fF] j.1],[bd,fk [fF] j.1]],[nu],[xd],pD],[aV,jw [cQ,[mW,X]],de],#[E,_,A,nm,st,?_,I.afi [xd] [f] [g] [g] (λT=>O (rQ.mpr T)) g,[aD,hr],hra,Y]];simp only[seval,O,[no,[wu]],L3,oo [wu].ap,[wu].ap,Z,F]}}
end
def eZ(w:String)(n:Nat)(ws:bO):eT Nat:=[ap,cn w ws,bN 1 dy [aw] [go],[iN,0,ws]]
def wY(b:a7)(ws:bO):eT a7:=[yS,COUPONS<=[bK],[A,[t7,C],[hn,[aw],1],aZ (bN 1 [ap,cn "off" C,10000,dy] [aw] [wz]) λv G t=>[jc,CK b [kV,nm,cn "off" C,v,0,ag,0] G t,c,[jY,c]]]]
def BD:cn w ws=ae↔ws.head?=aa (ay w):=by simp[cn]
def PN(hr:r<[ad])(hw:hP ws)(w:String)(O:Gd (ay w)/\[kp,ay w,[hM]])(n k:Nat):[i8,4,48,[[bA],sD (ay w)],n,nD,eZ w n [ds]]:=by rw[a9,[bQ],g,[oj,St S r line _ n],GC hr hw _ O n [ao]];rw[aB,seval,Ld,[bo],g,eZ];rw[b,h,[ds].head?=aa (ay w)];{rw[ah,q,BD.mpr h,N,[CO,1,10000000,dy,[aw]],kj hr hw 1 _ _ k];rw[aP,y6,N];rw[au,seval,h,q,[bo]];cases z:[qK]with|error e=>rw[cE,z,N,p,m];rw[aW,p]|ok x=>rw[ap,z,N,L,m,N];simp[m];rw[aW,L]};{have q:cn w [ds]=af:=[q,yY,λa=>h (BD.mp a)];rw[Y,h,q];rw[aW,Y]}
def QP(h:eZ w n ws=[fX]):[S]<=10000000:=by rw[aI,eZ,h];rw[a2];{have:=kD h;rw[aI,dy,this];omega};grind
def aeo(s:[sD])(y:cK):[xB,[jY,t],pz,[bK]]:=by rw[ds,d0 [jY,t]=[e1]++[t.name],d0,d3 [jY,t]=d3 b,df [jY,t]=df b,en [jY,t]=en b];simp[find,e,z,u,h,AV [eQ,q]];rw[b,L,y=t.name];{subst L;simp[ku.mpr [cV],ku.mpr [ak,q],ku.mpr [cQ,q],d0]};grind
def ak.YQ{nm st}(I:[k',S])(t:j_)(B:dS t.name=ae)(s:[sD])(U:[bK]<5)(h:t.value<=10000000)(j:t.item<=[bR])(e:[JR])(a:t.least<=10000000):[GV,A.aC,[jz],ec,pz,[bK],[jY,t]]:=by rw[c4];refine [F9,I.bk.BZ _,aeo s,g.2];{simp only[c_,de,<-em];exact List.perm_append_singleton ..};{refine#[w.nt,w.ni,w.nb,[bE],w.rate,w.qZ,w.over,w.item,w.iR,?_,?_,w.ro,w.ca];{intro x L;rw[sz,L,w.jW x L]};{intro p m;have:=w.apart p m;rw[bE]}};{rw[e3,G3 _]}
def Ga(b:a7)(n:Nat)(ws:bO):eT Nat:=[ap,cn "of" ws,[lz,[aw],[go]],[iN,0,ws]]
def mf(x:Nat):[kD]:=[v8,x,x]
def MH(nm:cK)(sh:Bool)(v i n:Nat)(ws:bO):(aZ [I0,"cap",([kV,nm,sh,v,i,aa x,0]:j_),[kV,nm,sh,v,i,ag,0]] λc n ws=>[I0,"when",{c with least:=x},c])=[Gv]:=by rw[b,m,cn "cap" ws=ae];{cases u:[qK]with|error e=>rw[aB,eZ,m,bI,u,aZ]|ok x=>rw[ah,L,kD u,h,mf [S]=aa [S],[b2,mf]];rw[aE,cn "when" [dY]=ae];{cases z:bN 1 dy [nf] ([dY].drop 1)with|error e=>rw[aX,eZ,m,bI,u,aZ,q,z]|ok y=>rw[aX,eZ,m,bI,u,aZ,q,h]};{simp only[eZ,m,bI,u,aZ,q,h,dj,b8]}};{have h:mf 0=ag:=rfl;rw[aE,cn "when" ws=ae];{cases z:[qK]with|error e=>simp only[eZ,m,bI,aZ,q,z,dj,b8]|ok y=>simp[eZ,m,bI,aZ,q,z,h,dj,b8]};{simp[eZ,m,aZ,q,h,dj,b8]}}
def ZP(b:a7)(nm:cK)(sh:Bool)(v n:Nat)(ws:bO):CK b [kV,nm,sh,v,0,ag,0] n ws=aZ (Ga b n ws) λi n ws=>[Gv]:=by rw[Y,CK,Ga];rw[aE,cn "of" ws=ae];{rw[aJ q,aJ q];cases m:cu _ _ _ with|error e=>rfl|ok x=>exact MH _ _ v _ _ _};{rw[a5,aw q,aw q,MH _ _ v 0 n _]}
def xZ:[fV]:=[[cE,6,[yX,[qw]]],[cE,7,[yX,[p6]]],[Bg],[pP,[hJ],20]]
def xj:[fV]:=[fC,[bf]]::[Jk]::xZ
def wX:[fV]:=[Hc]::xj
def afj:Fm=[cx,8,[ud,20,13]::[mo,36]::[bs,[ys,[j2],[pM]]]::wX]:=rfl
section
variable{S:aj}{A:BA}{b:a7}{nm st:List (D×D)}{n0:Nat}{P:aj}(I:ak S A b nm st n0 P){r:Nat}(hr:r<S.length)(hra:r∉A.all)(hrn:n0<=r){line:Nat}{ws:bO}(hw:hP ws)(k:Nat)
include I hr hra hrn hw
theorem Y3:[i9,6,47,1,wY b ws]:=by rw[aU [g0] _ (F:=Fm) Y Y Y];rw[dP];rw[D,er,[rK,S',a,S'.take n0],[n3],X,[zp,5,A.aC,5],Am hr [cQ,[eQ,hR]] I.bk.co 5 1 [f2]];rw[aR]at X;rw[c',afj,hB 1,N8,wY,COUPONS,5,[bK]];{rw[c9,5,[ao]];cases hg:[sl]with|error e=>rw[cN,hg,f,hp]|ok x=>rw[ap,hg,f,L,hp,f];rw[bj,B,s,Ao hg,w,[lP,5,30,[bk,[K,[j2]],[K,[pM]]],[bM]]=_,[AM,"off","less",[bM],2]];rw[aP,L,w];rw[aj,fj,[lY,G,t,j_,t.name=[S],t.value<=10000000->t.item<=[bR]->([JR])->t.least<=10000000->[CL,S',j9,[Bl,[[Bg],[pP,[hJ],20]],t.share,t.value,[ay,t.item],[ay,t.cap.getD 0],[ay,t.least]],G,[jY,t],S'.length,A.nb]],by intro G t m u h3 h4 h5;rw[bk,hT,XM (I.lo.St r line ws G) t [fB],m,hT];rw[ee,[ka,ec],[xD,G,A.aC,[ka,ec],ec t,[jz],t,ec],[eQ,hR],I.bk.BZ ([jz]++[t]),I.YQ t (m▸B) (m▸s) [g] u h3 h4 h5,[Q,[R,[jz]++[t],ec]]=[bK]+1,N8,(hB G).co,E.co],Sf,∀(sh:Bool)(v i G:Nat),v<=10000000->i<=[bR]->[vf,[Bl,xZ,sh,v,[ay,i],[W],[W]],ws,[H3,G,[fi,G]]],by intro sh v i G hv hi;have Cq:[i8,5,48,[[bA],[K,[qw]]],G,nD,eZ "cap" G [fi,G]]:=PN hr hw "cap" [wL] G [ao];cases O:eZ "cap" G [fi,G]with|error e=>rw[ap,O,Cq,p,mv,Cq];rw[au,seval,xZ,mv,aZ];rw[bc]|ok c=>rw[ap,O,Cq,HC,mv,Cq];have yI:[i8,5,48,[[bA],[K,[p6]]],[ak,c],nD,eZ "when" [ak,c] [fi,[ak,c]]]:=PN hr hw "when" [wL] [ak,c] [ao];rw[aP,HC,yI];rw[aa,aZ];cases hy:eZ "when" [ak,c] [aE,c]with|error e=>rw[ap,hy,yI,p,fG,yI];rw[aB,seval,xZ,mv,fG,nD];rw[bc]|ok y=>rw[ap,hy,yI,yE,fG,yI];rw[R,c1,QP O,y1,QP hy];(have ho:[mT,mf c.1]=c.1:=by rw[aa,mf];split<;>simp_all);obtain⟨S',j,d,j9,f1,f2,f3,f4⟩:=fj [dp] [kV,[S],sh,v,i,mf c.1,[b7]] Y hv hi (λq hq=>by rw[ao,mf,hq];rw[aA,hq];{simp at hq};{rw[ao,cX,hq];omega}) y1;rw[ho]at f1;rw[df,yE,S'];rw[aB,seval,xZ,mv,fG,nD],Sg,∀(sh:Bool)(v G:Nat),v<=10000000->[vf,[Bl,xj,sh,v,[W],[W],[W]],ws,[jc,CK b [kV,[S],sh,v,0,ag,0] G [fi,G],c,[jY,c]]],by intro sh v G hv;rw[D,Sh,∀(i n:Nat)(C:bO),[jc,[ix,eZ "cap" n C,c,[jc,eZ "when" n C,y,[kV,[S],sh,v,i,mf c,y]]],c,[jY,c]]=[H3,n,C],by intro i n C;cases eZ "cap" n C with|error e=>rfl|ok c=>rw[aa,aZ];rw[bz,eZ "when" [ak,c] [aE,c]],g,[lP,5,33,[K,[mF]],G]=_,GC hr hw [pA] [wL] G [f2]];rw[ZP];rw[aa,Ga];rw[b,Cr,[fi,G].head?=aa [pA]];{rw[bk,hk,BD.mpr Cr,aJ Cr,g];rw[a9,aJ hk,W,[xf,5,[ha],G+1,df b,G+1],[xo,nj,df b,[ak,[vt]],G+1,[ao]]];rw[aP,y6,W];cases Q:[lz,G+1,[fi,G].drop 1]with|error e=>rw[ap,Q,W,p,l,W];rw[b0,xj,[bo],g,l,aZ];rw[bc]|ok o=>rw[ap,Q,W,ho,l,W];rw[K,o1,o2,o3,mi Q];rw[R,Cp,[gr,df,o2],U,Sf sh v o.1 [i3] hv Cp];rw[<-ho,<-Sh]at U;rw[b0,xj,[bo],g,l,nD];exact U};{rw[aH,hk,cn "of" [fi,G]=af,[q,yY,λh'=>Cr (BD.mp h')],aw Cr,g];rw[ak,Z,¬cn "of" [fi,G]=ae,by simp[hk],aw Z];have U:=Sf sh v 0 G hv [f7];rw[aP,Sh,U];rw[au,seval,xj,[bo],g];exact U}];rw[aB,seval,hp,aZ,[bo],w];cases hd:[dY]with|nil=>rw[ac,seval,cn,IC];rw[bc]|cons z q=>have hq:=q0 (L▸hd);rw[b,T,z=[rB]];{subst T;rw[D,O,[mA,[[rB],[o9]],[rB]],[af],hk,cn "off" ([rB]::q)=ae,by simp[cn]];rw[D,he,[a3,[d3,"off"]==[j2]],[af],N,[nI,5,1,10000,[nf],1,10000,[nf]],kj hr hw 1 10000 [nf] [dt]];rw[hq]at N;rw[ak,gi,¬[t7,[rB]::q],[ey,hk],aw gi];rw[au,hk,bI,kf,g'];rw[er,10000,ae,[g]]};{rw[b,t9,z=[o9]];{subst t9;rw[D,O,[mA,[[rB],[o9]],[o9]],[af],hk,[rx,"off",[o9]],by rw[Y,cn,uu];rw[af]];rw[D,H,cn "less" ([o9]::q)=ae,by simp[cn],he,[bH,[d3,"less"],[j2]],[af]];rw[aH,N,[nI,5,1,10000000,[nf],1,dy,[nf]],kj hr hw 1 10000000 [nf] [dt],hq,N];rw[ak,gi,¬[t7,[o9]::q],[ey,H],aw gi];rw[aB,hk,dj,b8,kf,g'];rw[er,dy,af,by rw[ao,dy,hv];omega]};{rw[D,O,[tj,[[rB],[o9]],z],by simp[T,t9],hk,[rx,"off",z],by simp[cn,T]];rw[D,H,[rx,"less",z],by simp[cn,t9],gi,[t7,z::q],#[hk,H]];rw[b9,aJ gi,O];rw[bc]}}}
end
def dB.lt(h:[mK,S]):∀a∈A.all,a<[ad]:=by have q:∀{a}{c},([fR,c])->a<[ad]:=λO=>[dB,O];intro a J;rw[aO,BA.all,cs,J];rcases J with J|J|J;{simp only[BA.hd,bX,dR,d4]at J;rcases J with rfl|rfl|rfl|rfl|rfl|rfl|rfl|rfl;rw[aq,q h.bk,q h.na];rw[aq,q h.ta,q h.it];rw[aq,q h.bu,q h.co];rw[aq,q h.ap,q h.se]};{rw[K,t,L,J,kc.mp J];rw[M,i,j,kQ L];rw[ay,G,i<[bR],by rw[<-h.il];grind,w,h.is i t _ j (cQ G)];simp[bX,dR,d4]at J;rcases J with rfl|rfl|rfl;rw[b6,q w.it,q w.vo,q w.st]};{rw[K,o,m,e,uk.mp J];subst e;rw[M,i,j,kQ m];rw[br,G,i<[cu],by rw[<-h.bl];grind,q (h.bc i a _ j (cQ G))]}
def dB.app(h:[mK,S])(L:[h]):[mK,S++L]:=h.keep λa J=>lK (h.lt a J)
def R6(hr:r<[ad])(L:[h]):[dl]++L=[d7,S++L,n]:=[b2,St]
def xP(b:a7)(ws:bO):eT a7:=[yS,ITEMS<=[bR],[ix,bN 0 dy n C,p,[jc,uw b n [] C,ts,[nQ,[tM,nm,p,ts]]]]]
def abk(s:[sD])(y:cK):[xB,[nQ,t],nj,[bR]]:=by rw[ds,df [nQ,t]=df b++[t.name],df,d3 [nQ,t]=d3 b,d0 [nQ,t]=[e1],en [nQ,t]=en b];simp[find,e,z,AV [ak,q]];rw[b,L,y=t.name];{subst L;simp[ku.mpr [cV],df]};grind
def FG(x:dY)(f s G:Nat)(O:f<G)(h:s<G):(aP.aW 1 [v9]).low G=ae:=by rw[aj,m,eG G (x.taxes.map _)=ae,eX _ G (Cd G) _,u,eG G [fO,mr [jJ]]=ae,eX _ G (Cd G) _,q,[vW].low G=ae,[bz,x.free]];simp[aP.low,d9,i7,D.low,m,u,q,O,h,iK,lI]
def L9{l:[f_,Nat,[gj]]}(h:[ez,l,[f6]<G]):eG G [aT,[mf]]=ae:=by induction l with|nil=>rfl|cons a r q=>simp[bT,eG,D.low];grind
def ak.ad6{nm st}(I:[k',S])(f:n0<=[ad])(x:dY)(B:[sR])(s:x.name∉c_ b)(U:[bR]<8)(Z:[ea]<=10000000)(m:x.volume=[])(J:x.steps=[])(N:x.free=ag)(bU:x.taxes.Nodup)(q:[ez,x.taxes,[eP,t,[cD]]]):[IM,S++[pJ,x],A.aI,[cp,[rF],t,D.ref [f6]],nj,[bR],[Ey],[nQ,x]]:=by rw[c4];rw[a1,H,I.bk.lt,z,[e9,[K']],by rw[cm,g8,#[I.bk.nd,by simp,λa h c O e=>?_]];grind,d,ri (S++[pJ,x]) [Cz] x,by refine#[by simp,?_,?_];{rw[ey,m]};{rw[ey,J]}];rw[aY,E,(I.bk.app [pJ,x]).Za x [Cz] d z,#[E.Bo _,[w'],I.nm.add x.name B s _ (abk s) ?_,?_,#[?_,I.w2.ap,I.w2.qV],?_,?_,?_,I.sl,I.sv]];{rw[aB,c_,de,bT,uq,em];have:=[Ly,b.items.map [qq],[mj,[qq]]++[ka,[qq]]];rw[gr,em,this]};{refine [Hj,[bE]];{intro y L;rw[aZ,cs.mp L,L,L,w.item y L];{rw[ao,dL,L];rw[bh,L,#[#[Z,[ey,m],[ey,J],e6 m,[ey,N]],bU,q]]}};{intro y L;rw[K,W,C,G,w.iR y L];grind};{intro y L;rw[dH,W,C,G,T,w.jW y L,#[W,[bE],G,T]]}};{intro y L;rw[aZ,cs.mp L,L,L,I.w2.f' y L];rw[bb]};{apply eC.set;{apply eC.set;{rw[a6,I.lo.app,c,O];rw[cf,O];rcases O with rfl|rfl|rfl;{exact FG x _ _ _ (by simp) (by simp)};{rfl};rfl};{rw[a6,L9,t,j];rw[aJ,cs.mp j,j,j];{rw[M,i,p,kQ j];have:=H [f6] [M,BA.qf p];rw[bE]};{rw[ao,dL,j];subst j;simp}}};{have l:=cG I.bk.na;rw[V,jM,Au Y (sY (by simp) nm (I.lo _ l))]}};{intro a h;have u:[HB]:=[IC];rw[aZ,cs.mp (u.mem_iff.mp h),h,h,I.ge a h];{rw[cf,h];omega}};{rw[jr [g9],jr [cQ,[eQ,g]],CL f];exact I.pr}
def acK(l:[h])(n:Nat)(x:cK)(q:bO):cu l n (x::q)=[jr,cu l n [x],[kZ],y,.ok ([b7],[aw],q)]:=by rw[bV,cu];{rfl};grind
def EO(t:Nat)(B:[h])(S:aj):gx [l1] [X,[eD,nD]] S=[ab,B.contains t]:=by
 have h:[wB,[eD,nD]]:=by rw[ck];intro d hd;rw[bM,c,hd];rfl
 have:jX [l1] [eD,nD]=B.contains t:=by rw[jX,rR,Iv];rw[ca,y];simp[jJ,nD,D.beq];grind
 rw[aa,gx];rw[aV,aJ (e6 #[Y,h]),this]
def MW:∀(C:bO)(n:Nat)(B:[h])(x:[h]×Nat×bO),uw b n B C=[fX]->B.Nodup->([ez,B,[eP,t,[cD]]])->[e9,[S]]/\[ez,[S],[eP,t,[cD]]]/\[dY]=[]|[],n,B,x,h,m,u=>by simp[uw,qy]at h;subst h;grind|y::q,n,B,x,h,m,u=>by rw[aI,uw,h];cases J:cu (d3 b) n [y]with|error e=>rw[bb]|ok z=>rw[bw,J,h];rw[a2];{rw[hG]};{rw[a4,z1,z2,mi J];rw[aY,a,[gr,d3,z2],MW q _ _ x h ?_ ?_];{rw[ba,g8]};{intro t j;rw[dj,j,u t j,#[z1,a]]}}
section
variable{S:aj}{A:BA}{b:a7}{nm st:List (D×D)}{n0:Nat}{P:aj}(I:ak S A b nm st n0 P){r:Nat}(hr:r<S.length)(hra:r∉A.all)(hrn:n0<=r){line:Nat}{ws:bO}(hw:hP ws)(k:Nat)
include I hr hra hw
theorem Ps(f d:D):∀(C:bO)(n:Nat)(B:[aj])(j:Slot)(fuel:Nat),C=[ds]->[iL]<fuel->[bu]+[iL]<=3000->[jr,uw b n B C,∃p,[GW]=[f9,e.1,e.2,[cM,p]],x,[vh]/\∃F,[GW]=[dA,[xg,[bn,[hu,[S]]],F],[cM,[bM]]]]|[],n,B,j,fuel,hu,u,L=>by rw[cc,G,fuel=G+1,[pw]];rw[D,U,¬[lW],[f],g,[td,4,28]=_,vB hr [f2]];rw[bm,hu,j];rw[a_,[ui,af,hr,U,ka]]|y::q,n,B,j,fuel,hu,u,L=>by rw[cc,G,fuel=G+1,[pw]];rw[aj,U,[lW],[f],g,[td,4,28]=_,vB hr [f2],W,[xf,4,[hP],n,d3 b,n],[xo,mq,d3 b,[M,[vt]],n,k]];rw[<-hu,acK]at W;have a:=q0 hu.symm;rw[[ui,ae,hr,U,iK]];rw[aa,uw];cases J:cu (d3 b) n [y]with|error e=>rw[ap,J,W,p,m,W];rw[cU,m]|ok z=>rw[ap,J,W,i,m,W];rw[b,O,B.contains [cK]=ae];{rw[ac,seval,m,nD];rw[aB,seval,EO,O,[bo],[fG]];grind};{simp only[b7]at u L;rw[a1,l,Ps f d q [aw] (B++[[cK]]) [ay,[cK]] fuel a.symm [g] [f],H,[iQ,[eD,nD]],[qv],h,(bj [gd,4] [AW] [xg,[t1,[eD,nD]],j] [dl])=[dA,[xg,[bn,[hu,B++[[cK]]]],[ay,[cK]]],[cM,[aw]]],by rw[Y,seval,m];rw[[iP,nD [cK]=[cC,[cK]]]];rw[aB,seval,EO,O,H,de];rfl];rw[h];rw[hX,fC]}
end
section
variable{S:aj}{A:BA}{b:a7}{nm st:List (D×D)}{n0:Nat}{P:aj}(I:ak S A b nm st n0 P){r:Nat}(hr:r<S.length)(hra:r∉A.all)(hrn:n0<=r){line:Nat}{ws:bO}(hw:hP ws)(hwl:ws.length<=2001)(k:Nat)
include I hr hra hrn hw hwl
theorem U9:[i9,5,39,1,xP b ws]:=by rw[aU [fB] _ (F:=Gn) Y Y Y];rw[R,v,λn=>[tR],O,re hra];rw[D,er,[rK,S',a,S'.take n0],[n3],X,[zp,4,A.aI,8],Am hr [cQ,O.2] I.bk.it 8 1 [dt]];rw[aR,I.bk.il]at X;rw[c',Gn,v 1,Gj,xP,ITEMS,8,[bR]];{rw[c9,4,k];cases C:[sl]with|error e=>rw[cN,C,f,w]|ok x=>rw[dy,C,w,4,10000000,dy,[ao]];cases J:[EK]with|error e=>rw[cx,J,N,o]|ok y=>rw[ap,J,N,hy,o,N];have i:=kD J;rw[ac,seval,o,nD];rw[ay,U,[aO,[f1],2001],[f],W,Ps I hr hra (line:=line) hw k (sD [S]) [l,[b7]] [f1] [dp] [] [W] 20000 hy [g] ([bE])];rw[ao,uq,W];cases Q:uw b [dp] [] [f1]with|error e=>rw[ap,Q,W,p,l,W];rw[l];rw[eq];rw[bc]|ok z=>rw[Q]at W;rw[aM,hz,s5,l,W,t1,t2,t3,MW _ _ _ _ Q (by simp) (by simp)];rw[ak,g,[Q,[cK]]<64,by have:=[nC,t1,t2];rw[aN,I.wf.nt],l];have q:=LB (S:=[cM,[fD]]) [r3] Y Y Y g [f2];rw[ao,As,q];rw[R6 hr]at q;rw[R,H,I.ad6 [g] [r3] B s [g] [aA,[b7]<=10000000,i.2] Y Y Y t1 t2,m,I.bk.app [pJ,[r3]]];rw[a1,E,[LF,[fD]],eE,[iQ,A.az.map [mf]],by rw[aR,I.bk.il];rw[ek],F,[d7,S++[pJ,[r3]],[fD]].set A.aI [X,(A.az.map [mf])++[[hh]]]=[d7,(S++[pJ,[r3]]).set A.aI [dv,[rF],[mf]],[fD]],[aV,jw [cQ,O.2],de]];rw[ah,d,H.bk,j,r∉[Ey].all,[eT,u,[HB],[IC]]];generalize Z:(S++[pJ,[r3]])=S1 at*;rw[R,im,[z9,0,3],T,[z9,1,3]];rw[D,k1,[BG][A.nb]?=aa [Aq,A],[a5,ig O.1,bR im.symm,m.bk],k2,[BG][A.aI]?=aa [dv,[rF],[mf]],[q,ig [cQ,O.2],lX m.it]];rw[a0,k3,[BG][A.aN]?=aa [cf,nm],[a5,ig [ak,O],bR T.symm,m.na],fS,[Q,[cp,[rF],t,D.ref [f6]]]=[bR]+1,by simp[I.bk.il],#[hz,_,_,_,_,?_,H,?_,j,Y]];{simp only[seval,[no,v [fD]],Gj,oo (v [fD]).it,sD,q,E.it,eE,F,d7 k1,ic k2,AA,k3,Br I.wf I.nm,fS,jw [ak,O]];rfl};{rw[<-Z];rw[bE]}}
end
def afx{U J:[aH]}(f:U->J)(l:[h])(i:Nat)(x z:U)(L:[cT,l])(h:f z=f x):[R,l.set i z,f]=[g2]:=by apply my;grind
def ak.Ec{nm st}(I:[D6])(i:Nat)(t:[oW])(x q:dY)(a:Nat)(c:aP)(W:[vy])(L:[cT,[cH]])(J:[LK])(s:ri [ky] t q)(O:[q7]=ae)(B:q.name=x.name)(d:q.taxes=[jJ])(j:m2 q)(U:q.volume.length<=5/\q.steps.length<=5):ak [ky] A [xZ,q] nm st G P:=by rw[R,w,I.wf,C,afx _ _ _ x _ L B];rw[a0,z,∀y∈b.items.set i _,y∈[cH]\/y=q,λy e=>ID e,h,G<=a,by rw[K,N,F,n,BA.qf W];rcases J with rfl|rfl|rfl;rw[b6,I.ge _ N,I.ge _ F,I.ge _ n],#[I.bk.ahs i t x _ a c W L J s,[w'],?_,?_,#[?_,I.w2.ap,I.w2.qV],I.lo.set a c O,I.ge,[q,jr h,I.pr],I.sl,I.sv]];{rw[D,m,c_ [xZ,q]=c_ b,by simp[c_,C],u,∀y,find [xZ,q] y=find b y,λy=>by simp[find,df,C];rfl];exact [H',y,e,u,m]};{refine [Hj,by simp;exact w.ni];{intro y e;rw[aZ,z y e,e,rfl,w.item y e];{obtain⟨_,f,l⟩:=w.item x (cG L);grind}};{intro y e;have:=w.iR y e;rw[aD,this]};{intro y e;have:=w.jW y e;rw[aD,this]}};{intro y e;rw[d_,z y e,e,rfl,I.w2.f' y e,U]}
def p8(own g:List uc)(n:Nat)(ws:bO):eT (List uc):=[A,g.isEmpty=af,[wy],[A,y9<=own.length,[hn,1,5],[G_,ws]]]
def vC:[fV]:=[[ct,[p',[ai],.g 0]],[JJ]]
def Yd:He=[b5,5,[Lm]::[Iy]::[bs,[iW]]::[HM]::vC]:=rfl
def PM(O:r<[ad])(W:hP ws)(m:a≠r)(u:q≠r)(v:[fR,[X,own.map eR]])(o:[aR,S,q,[X,g.map eR]])(hf:∀s∈own,[gt]<=40)(n k:Nat):[AJ,p8 own g n [ds],[jo,4,41,[[bA],[aL],[jT]],n],[S],eR]:=by rw[aU [f2] _ (F:=He) Y Y Y];rw[D,I,[Ah,a,[X,own.map eR]],λG=>[q,ig m,v],b,[Ah,q,[X,g.map eR]],λG=>[q,ig u,o]];rw[b0,Yd,ic (b n),ic (I n),aR,p8];rw[b,Q,g.isEmpty=af];{rw[ak,H,0<[an,g.length],by cases g<;>simp_all,aJ Q];rw[au,seval,H,bV O,FW O];rw[aW,n]};{rw[ak,H,¬0<[an,g.length],by cases g<;>simp_all,aw Q];rw[b,B,y9<=own.length];{rw[ak,z,5<=[Fk],by rw[ao,y9,B];omega,aJ B];rw[aX,seval,H,ic (I n),aR,z,bV O,FW O];rw[aW,n]};{rw[ak,z,¬5<=[Fk],by rw[ao,y9,B];omega,aw B];rw[D,N,[nI,3,[bd,[tc]],40,n,[tc],el,n],kj O W [tc] 40 n k,A,∀Z,Z=[l,[bd,[tc]]]->[AJ,[G_,[ds]],R.bd (bj [gd,3] vC [[c8,r],[c8,a],[c8,q],[cb,Z],[W]] [dl]) oW,[S],eR],by intro Z X;subst X;cases E:bN [tc] el n [ds]with|error e=>rw[ap,E,N,p,P,N];rw[aB,seval,vC,bV O,P,aZ];rw[aW,p]|ok G=>rw[ap,E,N,t,P,N];have L:[nI,3,0,10000000,[ak,G],0,dy,[ak,G]]:=kj O W 0 10000000 [ak,G] k;rw[aP,t,L];rw[aa,aZ];cases J:bN 0 dy [ak,G] [aE,G]with|error e=>rw[ap,J,L,p,F,L];rw[aX,seval,vC,bV O,P,F,nD,oo (I [ak,G])];rw[aW,p]|ok p=>rw[ap,J,L,l,F,L];rw[ad,w,[iQ,own.map eR],by rw[aR];rw[ao,y9,B];rw[ek],#[l,?_]];simp only[seval,vC,bV O,P,F,nD,oo (I [ak,G]),I [ak,p],w,jw m,de];rfl];rw[b,U,own=[]];{have d:¬0<[Fk]:=[ey,U];have:=A [l,2] [bP,U];rw[b0,H,ic (I n),aR,z,d];rw[bZ]};{rw[ay,h,[an,0]<own.length,by cases own<;>simp_all,y,aiI U];rw[D,i,(own.map eR).getLast?=aa (eR [EQ]),[f],c,r8 own=[EQ].from_,[Y,r8,y]];have:=A [l,[EQ].from_+1] [bP,c];rw[D,j,∀(s:uc)(T:aj),eu (eR s) [iZ] T=[be,[l,[gt]],T],λs T=>rfl,f,∀(s:uc)(T:aj),bH (eR s) T=[be,eR s,T],λs T=>rfl];simp only[seval,H,ic (I n),aR,z,h,GW,i,j,f];rw[bZ]}}}
def eN(A:BA)(i:Nat):[oW]:=A.az.getD [cB] (0,0,0)
def ol(b:a7)(f':Bool)(ws:bO):eT a7:=[ix,[Ay],i,[jc,p8 [ap,f',[ht].volume,[ht].steps] [ap,f',[ht].steps,[ht].volume] n C,l,setItem b i [ap,f',{[ht]with volume:=l},{[ht]with steps:=l}]]]
def w_(b:a7)(ws:bO):eT a7:=[ix,[Ay],i,[ap,[ht].free.isSome,[wy],[ix,bN 1 el n C,f,aZ (lJ "of" n C) λ_ n C=>[jc,bN (f+1) el n C,G,setItem b i {[ht]with free:=aa (f,G)}]]]]
def Qg(h:p8 own g n ws=[fX]):g=[]/\own.length<5/\∃s:uc,[S]=own++[s]/\[gt]<=40/\[nt]<=10000000:=by rw[ao,p8,h];rw[a2];rw[ar];{rw[a2];rw[ar];{rw[ax,u];cases m:bN _ _ n _ with|error e=>rw[fp,m,h,aZ]|ok G=>rw[fp,m,h,aZ];cases q:bN 0 dy [ak,G] [aE,G]with|error e=>grind|ok p=>rw[fp,q,h,qy];subst h;rw[R,z,kD m,j,kD q];refine#[[f],by rw[aI,y9,u];omega,_,Y,z.2,j.2]}}
section
variable{S:aj}{A:BA}{b:a7}{nm st:List (D×D)}{n0:Nat}{P:aj}(I:ak S A b nm st n0 P){r:Nat}(hr:r<S.length)(hra:r∉A.all)(hrn:n0<=r){line:Nat}{ws:bO}(hw:hP ws)(k:Nat)
include I hr hra hw in theorem GY(n:Nat):[i8,5,40,[[jy],[bA]],n,λi=>[m,[M,eN A i]],[lz,n,[ds]]]:=by rw[[bQ]];rw[ah,f,λn=>[tR],W,dH [lg,[[dQ],[bA],[K,[ha]]]] _ line _ _ _,pI hr hw I.nm [zG] _ ([af]) _ (λx=>[ak,[vt]]) n k];rw[bi,Op,[no,f n],Gj];cases q:cu _ n _ with|error e=>rw[ap,q,W,p,m,W];simp[m];rw[aW,p]|ok x=>rw[ap,q,W,L,m,W];rw[a4,G,u,mi q];rw[ay,d,[S]<=A.az.length,by rw[I.bk.il];rw[gr,df,u],C,x4 [mf] _ (0,0,0) _ G d];rw[eR,m,nD,ic (f _).it,C];rw[aW,L]
theorem Ea(h:[mK,S])(m:1<=i)(u:i<=[bR]):[aR,A.az,[cB],eN A i]/\[aR,[cH],[cB],[ht]]/\ri S (eN A i) [ht]:=by rw[D,q,[cB]<A.az.length,[cz,h.il],j,[cB]<[bR],[g]];rw[D,e,[aR,A.az,[cB],eN A i],by rw[eN,hY,cQ q];rfl,z,[aR,[cH],[cB],[ht]],by rw[cC,hY,cQ j];rfl];exact#[e,z,h.is _ _ _ e z]
theorem RA(x:dY)(f s:Nat):eV [v9] 7=[er,f]:=rfl
theorem Rt(x:dY)(f s:Nat):eV [v9] 8=[er,s]:=rfl
theorem V3(x:dY)(f s:Nat):eV [v9] 9=aa [vW]:=rfl
theorem FH(h:A.all.Nodup){i:Nat}(q:[vy]):[If]:=by rw[ah,u,[M,g8.mp [ak,g8.mp h]],key,∀l:[f_,Nat,[gj]],([e9,l.flatMap [vB]])->[ez,l,[If]],by intro l;induction l with|nil=>simp|cons y l e=>intro hN t q;rw[ir,g8]at hN;rw[aJ,[c4,q],rfl,q];{have:=hN.1;simp only[mx,bX,dR,d4,ug]at this;exact#[[nc].1,[nc].2,[ak,this]]};{exact e [ak,hN] t q}];exact key _ u t (cG q)
include I hr hra hrn hw
theorem aeL:[i9,6,42,1,ol b ae ws]:=by rw[[bQ]];rw[ay,er,[G2],[n3],m,[B4]];rw[Y,Ri,ol];cases J:[tp]with|error e=>rw[cE,J,m,p,u];rw[bc]|ok i=>rw[ap,J,m,Q,u,m];rw[d9,v,X,g,Z,X,z.vo,z.st,j.f' s H,[ao]];rw[aP,Q,W];simp[seval,u,d7 g,RA,Rt,aZ];cases q:p8 _ _ _ _ with|error e=>rw[ap,q,W,p,f,W];simp[f];rw[bc]|ok l=>rw[eF,w,d2];apply I.Ec _ _ _ {cC b _ with volume:=l.1} _ [b9] d E (by simp) [n4] [vC,u8 _] Y Y #[j.price,?_,j.step,kT C,j.free] #[by rw[N];rw[bE],[ey,C]];{rw[V,bR w,z.it]};{exact lX z.vo};{rw[V,bR y.symm,z.st]};{rw[fw,j.f' _ O]}
theorem V0:[i9,6,43,1,ol b af ws]:=by rw[[bQ]];rw[ay,er,[G2],[n3],m,[B4]];rw[Y,P1,ol];cases J:[tp]with|error e=>rw[cE,J,m,p,u];rw[bc]|ok i=>rw[ap,J,m,X,u,m];rw[d9,w,v,Q,v,Z,z.st,z.vo,j.step s H,[ao]];rw[aP,X,W];simp[seval,u,d7 Q,RA,Rt,aZ];cases q:p8 _ _ _ _ with|error e=>rw[ap,q,W,p,f,W];simp[f];rw[bc]|ok l=>rw[eF,d1,g];apply I.Ec _ _ _ {cC b _ with steps:=l.1} _ [b9] d E (by simp) [n4] [vC,u8 _] Y Y #[j.price,j.f',?_,e6 C,j.free] #[[ey,C],by rw[N];rw[bE]];{rw[V,bR g,z.it]};{rw[V,bR y,z.vo]};{exact lX z.st};{rw[fw,j.step _ O]}
theorem afb:[i9,6,44,1,w_ b ws]:=by rw[aU [g0] _ (F:=GR) Y Y Y];rw[ay,er,[rK,t,a,t.take n0],[n3],m,[B4]];rw[ac,seval,GR,w_];cases s:[Ay]with|error e=>rw[cN,s,m,H]|ok i=>rw[ap,s,m,hi,H,m];rw[a4,T,i2,mi s];have B:=[gr,df,i2];rw[aM,Z,e2,C,Ea I.bk T B,m1,F,n,BA.qf Z];rw[D,o,[M,[oE]]≠r,[zO,m1],X,[Ah,[M,[oE]],.aW 1 [w2]],λG=>[q,ig o,C.it]];have j:=[M,I.wf.item _ (j7 [fF] T B)];rw[aB,seval,H,d7 (X [kP]),V3,aZ];cases hf:[ov].free with|some q=>rw[b0,fD,pD,o8,[bo],FW hr];rw[bc]|none=>have N:[nI,5,1,40,[kP],1,el,[kP]]:=kj hr hw 1 40 [kP] [dt];rw[aP,hi,N];rw[au,seval,fD,nQ,[bo]];cases J:bN 1 el [kP] [aE,i]with|error e=>rw[cx,J,N,g]|ok f=>rw[ap,J,N,u,g,N];rw[ah,d,kD J,w,[lP,5,30,[bw,[[K,[mF]]]],[ak,f]]=_,BO hr hw [[pA]] (by intro c O;rw[cf,O];rw[bh,O,#[[bq,hO (by rfl)],by rfl]]) [ak,f] [dt]];rw[aP,u,w];rw[aB,seval,g,nD,[bo],w];cases hd:[aE,f]with|nil=>rw[bc]|cons z q=>have hq:=q0 (u▸hd);rw[b,U,z=[pA]];{subst U;rw[D,O,[mA,[[pA]],[pA]],by rfl,L,[nI,5,[bd,[q']],40,[ak,f]+1,[q'],el,[ak,f]+1],kj hr hw [q'] 40 ([ak,f]+1) [dt]];rw[hq]at L;have ef:[q']=[cP,[q']]:=[g];rw[b0,O,lJ,bI,[bo],ef];cases Q:bN [q'] el ([ak,f]+1) q with|error e=>rw[cx,Q,L,l]|ok G=>rw[ap,Q,L,v,l,L];have x:=kD Q;simp only[el]at d x;rw[D,W,dV [w2] 9 [iw,f.1,G.1]=d9 [Kk] [ak,[oE]] [aE,[oE]],rfl,fS,[Q,[w2]]=7,rfl];rw[K,d1,d2,y,FH I.bk.nd Z];have E:=I.bk.lt;rw[aX,seval,l,nD,X [ak,G],fS,W,jw o];refine#[v,_,A,nm,st,Y,?_,[aD,hr],hra,Y];apply I.Ec ([fF]-1) [oE] [ov] [Kk] _ _ Z e2 (e6 Y) [n4] ?_ Y Y #[j.price,j.f',j.step,j.one,?_] (I.w2.f' [ov] (j7 [fF] T B));{exact lX C.it};{rw[V,bR d1.symm,C.vo]};{rw[V,bR d2.symm,C.st]};rw[bS,FG _ _ _ _ (E _ F) (E _ n)]};{(have O:[tj,[[pA]],z]:=by simp[U]);rw[au,seval,O,lJ,U];rw[bc]}
end
def mn(b:a7)(n:Nat)(B:[kh])(ws:bO):eT [gj]:=[jr,[lz,n,ws],[kZ],x,[ap,[yc],[hn,[bM],2],[jr,bN 1 el [bM] [dY],[kZ],y,.ok (([S],[b7]),[dp],[f1])]]]
def A4(b:a7)(f n:Nat)(B:[kh])(C:bO):eT [kh]:=[ap,C.isEmpty,[iN,B,[]],CM b f n B C]
def RW(b:a7)(f n:Nat)(B:[h])(ws:bO):CM b (f+1) n B ws=[jr,mn b n B ws,[kZ],x,A4 b f [bM] [vX] [dY]]:=by rw[Y,CM,mn];cases cu _ n _ with|error e=>rfl|ok x=>rw[bo,h,[yc]=ae];{rw[aa,h];cases [qK]with|error e=>rfl|ok y=>rfl}
def acq(h:mn b n B ws=[fX]):[ly,[S].1,[bR],[ly,[S].2,40,[S].1∉[v1]]]:=by rw[ao,mn,h];cases m:[lz,n,ws]with|error e=>rw[bb]|ok y=>rw[bw,m,h];rw[a2];rw[ar];{rw[ax,O];cases u:bN 1 el [dp] [f1]with|error e=>grind|ok z=>rw[fp,u,h,qy];subst h;rw[a4,L,j,mi m];rw[aY,q,kD u,#[L,[gr,df,j],[cV],q.2,λU=>O ?_]];grind}
def pQ(b:a7)(B:[kh]):[P]:=[e9,[v1]]/\[g4,B,[ly,[L],[bR],[eP,[Z],40]]]
def pQ.add(h:pQ b B)(L:mn b n B ws=[fX]):pQ b [vX]:=by rw[ab,z,j,f,m,H,acq L];refine#[?_,λp q=>?_];{rw[de,g8];rw[gM,#[[dK],by simp,λa J c O e=>?_]]};{rw[dj,q,h.2 p q,#[z,j,f,m]]}
def pQ.len(J:[aP])(h:pQ b B):[bu]<=8:=by have:=[nC,[dK],λy L=>[bx,p,q,rfl,b0.mp L,#[[M,h.2 p q],[ak,h.2 p q]]]];rw[aR]at this;rw[aN,J.ni]
section
variable{S:aj}{A:BA}{b:a7}{nm:List (D×D)}(hnm:mL b nm){r:Nat}(hr:r<S.length){line:Nat}{ws:bO}(hw:hP ws)(hbv:xE (.ref A.nb) nm (St S r line ws))(k:Nat)
include hnm hr hw hbv
theorem OX(d:∀G,bH pv [cM,G]=[be,[X,[eD,pD]],[cM,G]])(n:Nat):[i8,5,46,[[jy],[bA],pv],n,pD,mn b n B [ds]]:=by rw[a9,[bQ],W,dH [lg,[[dQ],[bA],[K,[ha]]]] _ _ _ _ _,pI hr hw hnm hbv _ ([af]) _ (λx=>[ak,pU hnm.nd x]) n k];simp[Rf,mn];cases m:cu _ n _ with|error e=>rw[cE,m,W,p,q];rw[aW,p]|ok x=>rw[ap,m,W,L,q,W];(have U:∀T,gx [l,[S]] [X,B.map _] T=.ok [yc] T:=λT=>by have e:[eD,[aF,[cC,[L]]]]=[da,[v1]]:=[bP,cq];rw[e,EO];grind);rw[aB,seval,q,nD,d,U];rw[b,O,[yc]=ae];{rw[bi,O,[bo],[fG]];rw[aW,[bM]]};{have N:[CO,1,40,el,[bM]]:=kj hr hw 1 _ _ [ao];rw[aP,L,N];simp[seval,O,[bo]];cases J:[qK]with|error e=>rw[ap,J,N,p,f,N];rw[aa,f];rw[aW,p]|ok y=>rw[cE,J,N,h,f];rw[aW,h]}
end
section
variable{S:aj}{A:BA}{b:a7}{nm st:List (D×D)}{n0:Nat}{P:aj}(I:ak S A b nm st n0 P){r:Nat}(hr:r<S.length)(hra:r∉A.all){line:Nat}{ws:bO}(hw:hP ws)(k:Nat)
include I hr hra hw
theorem abv(T d:D):∀(f:Nat)(C:bO)(n:Nat)(B:[kh])(fuel:Nat),[iL]<f+1->C=[ds]->[iL]<fuel->pQ b B->[jr,A4 b f n B C,∃p W,[Gt]=[f9,e.1,e.2,[d7,[pX,W],p]],x,([vh]/\pQ b [S])/\[Gt]=[dA,[w1],[DT,[S]]]]:=by intro f;induction f with|zero=>intro C n B fuel hf hu j N;have J:C=[]:=uh.mp [g];rw[cc,G,fuel=G+1,[pw]];subst J;rw[D,Q,r<[Q,[qs]],[bE],H,¬[lW],[f]];rw[ad,g,[KC],vB Q [fB],#[#[hu,N],?_]];rw[a_,[ui,af,Q,H,ka]]|succ f ih=>intro C n B fuel hf hu j N;rw[cc,G,fuel=G+1,[pw]];rw[D,Q,r<[Q,[qs]],[bE],g,[KC],vB Q [fB]];cases C with|nil=>rw[ad,H,¬[lW],[f],#[#[hu,N],?_]];rw[a_,[ui,af,Q,H,ka]]|cons y q=>rw[ay,H,[lW],[uI,mw,hu],c,I.bk.app [aP.lst [eD,pD]]];rw[D,im,[ad]≠r,[g],O,∀G,[d7,[qs],G][[ad]]?=aa [X,[eD,pD]],λG=>[ey,ig im]];have u:=OX I.nm Q hw (c.mM hra) k (λG=>ic (O G)) n;rw[aP,hu,u];rw[[ui,ae,Q,H,iK],aJ Y];rw[aB,A4,S_,dj,b8,RW];cases U:mn b n B (y::q)with|error e=>rw[ap,U,u,p,X,u];rw[ac,seval,oo (O n),X];exact#[p,_,Y]|ok x=>rw[ap,U,u,L,X,u];rw[R,l,N.add U,E,N.len I.wf];rw[D,qi,[iQ,[eD,pD]],[qv],F,[d7,[qs],[bM]].set [ad] [X,[eD,pD]++[pD [S]]]=[DT,[vX]],by rw[jw im,zH,de];rfl];rw[D,h,bj [gd,5] [CE] [w1] [d7,[qs],n]=[dA,[w1],[DT,[vX]]],[b0,oo (O n),X,O [bM],qi,F],i,[Q,[dY]]<f+1/\[Q,[dY]]<fuel,by(have m:[bM]>=[aw]:=by rw[ao,mn,U];cases Z:[lz,n,y::q]with|error e=>rw[eK,Z,U]|ok z=>rw[bw,Z,U];rw[aA,U];{simp at U};{cases s:bN 1 el [fD] [aE,z]with|error e=>rw[eK,s,U]|ok w=>rw[cD,s,U,qy];have z3:=[aE,mi Z];rw[bG,[ak,w]=[fD]+1,by cases v:[aE,z]with|nil=>rw[fp,v,s,bN]|cons a t=>rw[v]at s;rw[ao,bN,s];cases o:mF a with|none=>rw[eK,o,s]|some G=>rw[bw,o,s];rw[aA,s];{cases s;rfl};{simp at s}]});rw[L,rW];have:=jN mw hu;simp only[b7,rW]at this hf j;omega];rw[h];rw[aa,fC];have:=ih [dY] [bM] [vX] fuel [fF] L i.2 l;rw[bZ]
end
def wS(b:a7)(ws:bO):eT a7:=[yS,BUNDLES<=[cu],[ix,bN 0 dy n C,p,[jc,CM b ([iL]+1) n [] C,ps,[nK,{name:=nm,price:=p,parts:=ps}]]]]
def Z6(s:[sD])(y:cK):[xB,[nK,t],ou,[cu]]:=by rw[ds,en [nK,t]=en b++[t.name],en,d3 [nK,t]=d3 b,d0 [nK,t]=[e1],df [nK,t]=df b];simp[find,e,z,h,AV [cQ,q]];rw[b,L,y=t.name];{subst L;simp[ku.mpr [cV],ku.mpr [ak,q],en]};grind
def G9(x:io)(o:[fP])(G:Nat)(h:∀c,o=aa c->c<G):(hU x o).low G=ae:=by cases o with|none=>have m:eG G (x.parts.map _)=ae:=eX _ G (vQ G) _;simp[hU,dn,D.low,i7,m,lI]|some c=>have:=h c Y;simp[hU,D.low,i7,this,iK,lI]
def KO(h:∀d∈l,d.low G=ae):eG G l=ae:=by induction l with|nil=>rfl|cons a r q=>rw[b2,eG]
def ak.YZ{nm st}(I:[k',S])(f:n0<=[ad])(x:io)(B:[sR])(s:x.name∉c_ b)(U:[cu]<3)(W:[ea]<=10000000)(X:pQ b x.parts):[IM,[pX,[kj,pD]],A.aB,[fb,[Bk,x,[ad]],[lq]],ou,[cu],[xu,[ad]],[nK,x]]:=by rw[c4];rw[ah,m,I.bk.lt,z,[ad]∉A.all,λh=>[aN,m _ h]];have C:=(I.bk.app [aP.lst [kj,pD]]).abZ x _ (by simp) z;rw[ad,H,[DA,[ad]],[gv,BA.all,Te,em],#[C.Bo _,[w'],I.nm.add _ B s _ (Z6 s) ?_,?_,[Mc],?_,?_,?_,I.sl,I.sv]];{simp[c_];have:=[Ly,b.items.map [qq]++[mj,[qq]],[ka,[qq]]];rw[aD,this]};{refine#[w.nt,w.ni,[bE],w.nc,w.rate,w.qZ,w.over,w.item,?_,w.jW,w.apart,w.ro,w.ca];intro y L;rw[dj,L,w.iR y L,#[W,X.1,X.2]]};{apply eC.set;{apply eC.set;{rw[a6,I.lo.app,c,O];rw[aI,dL,O];rw[bh,O,[vC,vQ _]]};{rw[a6,KO,d,hd];rw[K,q,u,rfl,b0.mp hd];rw[a6,G9,c,O];have:=[bq,kb u];rw[O]at this;rw[aJ,cs.mp this,h,h];{rw[M,i,j,kQ h];have:=m c (BA.Gb j);rw[bE]};grind}};{have e:=cG I.bk.na;rw[V,jM,Au Y (sY (by simp) _ (I.lo _ e))]}};{intro a J;rw[H]at J;rw[sz,J,I.ge a J]};{rw[jr [g9],jr [mW,[aE,g]],CL f];exact I.pr}
section
variable{S:aj}{A:BA}{b:a7}{nm st:List (D×D)}{n0:Nat}{P:aj}(I:ak S A b nm st n0 P){r:Nat}(hr:r<S.length)(hra:r∉A.all)(hrn:n0<=r){line:Nat}{ws:bO}(hw:hP ws)(hwl:ws.length<=2001)(k:Nat)
include I hr hra hrn hw hwl
theorem UK:[i9,6,45,1,wS b ws]:=by rw[aU [g0] _ (F:=F8) Y Y Y];rw[dP];rw[aj,er,[rK,S',[an,a],S'.take n0],[n3],v,∀{G:R D}{a c p}{g},G=[f9,[an,a],[an,c],[d7,[pX,g],p]]->∃S',G=[f9,a,c,S']/\S'.take n0=P,λh=>#[_,h,[a5,hH hrn,CL [g],I.pr]],X,[zp,5,A.aB,3],Am hr [pl,hR] I.bk.bu 3 1 [f2]];rw[aR,mD,I.bk.bl,aiM]at X;rw[c',F8,hB 1,Q5,wS,BUNDLES,3,[cu]];{rw[c9,5,[ao]];cases hg:[sl]with|error e=>rw[cN,hg,f,hp]|ok x=>rw[dy,hg,hp,5,10000000,dy,[dt]];cases J:[EK]with|error e=>rw[cx,J,N,fG]|ok y=>rw[ap,J,N,hy,fG,N];rw[ah,i,kD J,u,[i8,5,46,[[jy],[bA],[bI]],[dp],pD,mn b [dp] [] [fi,[dp]]],OX I.nm hr hw [zG] k (pv:=[bI]) (λG=>rfl) [dp]];rw[aP,hy,u];rw[au,seval,fG,nD,RW];cases hq:mn b [dp] [] [f1]with|error e=>rw[cx,hq,u,l]|ok z=>rw[ap,hq,u,hz,l,u];rw[ay,hP0,pQ b [],[qZ,by simp],hP1,hP0.add hq];rw[D,Cs,[aO,[aE,z],[Q,[f1]]],by rw[hz,hy,rW,rW];(have:[fD]>=[dp]:=by rw[ao,mn,hq];cases ho:[lz,[dp],[f1]]with|error e=>rw[eK,ho,hq]|ok o=>rw[bw,ho,hq];rw[aA,hq];{simp at hq};{cases hn:bN 1 el [i3] [aE,o]with|error e=>rw[eK,hn,hq]|ok w=>rw[cD,hn,hq,qy];have z3:=[aE,mi ho];(have:[ak,w]=[i3]+1:=by cases U:[aE,o]with|nil=>rw[fp,U,hn,bN]|cons a t=>rw[U]at hn;rw[ao,bN,hn];grind);rw[bp];omega});omega,hyl,[aO,[f1],2001],by rw[hy,rW];omega];rw[ah,hL,abv I hr hra (line:=line) hw k (sD [S]) [l,[b7]] [Q,[f1]] [aE,z] [fD] [[cK]] 20000 [g] hz [g] hP1,Q,[cM,[fD]]++[aP.lst [pD [cK]]]=[d7,[pX,[pD [cK]]],[fD]],by rw[R6 hr]];rw[au,seval,l,As,Q];cases q:A4 b [Q,[f1]] [fD] [[cK]] [aE,z]with|error e=>rw[q]at hL;rw[K,p,W,C,hL];rw[ao,seval,C];rw[C];rw[eq];exact v Y|ok o=>rw[q]at hL;obtain⟨⟨ho,hPo⟩,C⟩:=hL;rw[ao,seval,C];rw[a9,C,ahH,eC [yJ],I.lo.app _ (by intro c O;rw[ao,dL,O];rw[bh,O,eX pD _ (vQ _) _])];rw[R,im,[g],hT,aa4 (ahH.St r line ws [i3]) [wR] [ad] ([ey,As]) [fB]];rw[R,m,I.bk.app [aP.lst [R,o.1,pD]],E,[LF,[i3]]];rw[aj,ahI,[R,[DE],[aF,[lq]]]=[JW,λ(p)=>[lq]],[ey,List.zip_append (by rw[I.bk.bl])],eE,[iQ,[fb,b.bundles.zip A.bs,[lq]]],by rw[aR,mD];rw[ek],F,[d7,[yJ],[i3]].set A.aB [X,[JW,[aF,[lq]]]]=[d7,[yJ].set A.aB [dv,[DE],[aF,[lq]]],[i3]],by rw[jw [pl,hR],ahI]];rw[ah,yG,I.YZ [g] [wR] B s [g] [aA,[b7]<=10000000,i.2] hPo,j,r∉[xu,[ad]].all,[eT,H,[DA,[ad]],by rw[au,BA.all,BA.hd,Te,em];rfl]];rw[R,ahJ,[z9,0,4],T,[z9,1,4]];generalize Z:[yJ]=S1 at*;generalize hL4:[R,[DE],λ(p)=>[lq]]=d at*;rw[D,hBL,d.length=[cu]+1,by rw[<-hL4,aR,mD];simp[I.bk.bl],k1,[B7][A.nb]?=aa [Aq,A],[a5,ig hR.1,bR ahJ.symm,m.bk]];rw[a0,k2,[B7][A.aB]?=[ls,d],[q,ig [pl,hR],lX m.bu],k3,[B7][A.aN]?=aa [cf,nm],[a5,ig [ak,hR],bR T.symm,m.na],#[ho,_,_,_,_,?_,yG,?_,j,Y]];{simp only[seval,d7 E.bk,Q5,oo E.bu,sD,hT,E.bu,eE,F,d7 k1,ic k2,AA,k3,Br I.wf I.nm,hBL,jw [ak,hR]];rfl};{rw[<-Z];rw[bE]}}
end
def eM(b:a7)(ws:bO):eT a7:=[cZ,ws,[],.ok (b,0,[]),k::_,[A,k=ay "tax",yj b ws,[A,k=ay "item",xP b ws,[A,k=[qU],ol b ae ws,[A,k=[s_],ol b af ws,[A,k=ay "free",w_ b ws,[A,k=ay "bundle",wS b ws,[A,k=ay "coupon",wY b ws,[A,k=ay "apart",xp b ws,[A,k=ay "round",w6 b ws,[A,k=ay "cash",xS b ws,[A,k=ay "by",wO b ws,[hn,1,1]]]]]]]]]]]]]
def agT(b:a7)(k:cK)(r:bO):y_ b (k::r)=aZ (eM b (k::r)) done:=by rw[Y,y_,eM];rw[b,m,k=ay "tax"];{rw[aB,m,bI,yj,kf,g'];rw[b,J,ao (TAXES<=[cD])=ae];{rw[au,ke,J,bI,aZ]};{rw[au,ke,J,b8,dj];cases hZ b 1 r with|error e=>rfl|ok x=>rw[aa,aZ];cases bN 0 10000 [bM] [dY]with|error e=>rfl|ok y=>rw[bp];rw[b,d,cn "in" [f1]=ae];{rw[Y,d,bI]};{rw[ac,d,b8,dj];cases lJ "on" [dp] [f1]with|error e=>rfl|ok z=>rw[bp];rw[b,H,cn "over" [aE,z]=ae];{rw[Y,H,bI];grind};{rw[ac,H,b8,dj]}}}};rw[aw m,aw m];rw[b,u,k=ay "item"];{rw[aB,u,bI,xP,kf,g'];rw[eh,ITEMS<=[bR],uw b [dp] [] [f1]]};rw[aw u,aw u];rw[b,L,k=[qU]];{have q:[EU]:=e6 L;rw[aJ q,aJ L];simp only[ol,kf,g',L,iK,bI];rw[e6,[ov].steps.isEmpty]};rw[b,U,k=[s_]];{rw[D,q,[EU],kT U,G,ao (k=[qU])=af,by simp[L]];rw[aJ q,aw L,aJ U];simp only[ol,kf,g',G,dj,b8];rw[e6,[ov].volume.isEmpty]};(have q:¬[EU]:=by rintro(h|h);exact L h;exact U h);rw[aw q,aw L,aw U];rw[b,W,k=ay "free"];{rw[aJ W,aJ W];rw[ac,w_,kf,g'];cases [lz,1,r]with|error e=>rfl|ok i=>rw[aa,aZ];rw[b,I,[ov].free.isSome=ae];{rw[Y,I,bI]};{rw[ac,I,b8,dj];cases bN 1 el [kP] [aE,i]with|error e=>rfl|ok f=>rw[bp];cases lJ "of" [ak,f] [aE,f]with|error e=>rfl|ok z=>rw[bp];rw[bz,bN [q'] el [fD] [aE,z]]}};rw[aw W,aw W];rw[b,N,k=ay "bundle"];{rw[aJ N,aJ N];rw[ac,wS,kf,g'];rw[eh,BUNDLES<=[cu],CM b ([Q,[f1]]+1) [dp] [] [f1]]};rw[aw N,aw N];rw[b,P,k=ay "coupon"];{rw[aJ P,aJ P];rw[ac,wY,kf,g'];rw[b,J,ao (COUPONS<=[bK])=ae];{rw[au,ke,J,bI,aZ]};{rw[au,ke,J,b8,dj];cases hZ b 1 r with|error e=>rfl|ok x=>rw[aa,aZ];rw[b,I,[t7,[dY]]];{rw[aJ I,aJ I]};{rw[aw I,aw I];cases bN 1 [ap,cn "off" [dY],10000,dy] [nf] (List.drop 1 [dY])with|error e=>rfl|ok y=>rw[bp];rw[bz,CK b [kV,[S],cn "off" [dY],[b7],0,ag,0] [dp] [f1]]}}};rw[aw P,aw P];rw[b,B,k=ay "apart"];{rw[aJ B,aJ B];rw[ac,xp,kf,g'];cases cu [e1] 1 r with|error e=>rfl|ok i=>rw[aa,aZ];cases cu [e1] [kP] [aE,i]with|error e=>rfl|ok j=>rw[bp];rw[bs]};rw[aw B,aw B];rw[b,g,k=ay "round"];rw[fe,g,w6,[Eq]=ae];rw[b,Z,k=ay "cash"];rw[fe,Z,xS,b.cash.isSome=ae];rw[b,O,k=ay "by"];{rw[aJ O,aJ O];rw[ac,wO,kf,g'];rw[b,I,[Fl]=ae];{rw[ac,I,bI,aZ]};{rw[ac,I,b8,dj];rw[b,a,cn "line" r=ae];{rw[ac,a,bI,aZ]};{rw[ac,a,b8,dj];rw[bz,lJ "total" 1 r]}}};rw[aV,aw O,aw O]
def Zd(W:w.all [hM]=ae)(k:cK):tx k=tx w↔k=w:=by rw[a8];{intro e;rw[br,L,k.all [hM]=ae,[Bc,h,w,e,q,a,W],xF (u1 L) (u1 W) e]};grind
def Ni(a c:[h]):(D.str a).beq [K,c]=(a==c):=by rfl
def jB:[jQ,String]:=[("tax",38),("item",39),("from",42),("step",43),("free",44),("bundle",45),("coupon",47),("apart",49),("round",52),("cash",53),("by",54)]
def agi:Pe=jB.map [aF,(sD [nn],.fn [Z])]:=rfl
def B5(k:cK):∀(l:[jQ,String]),([g4,l,[kp,[nn],[hM]]])->bK [pn,(sD [nn],D.fn [Z])] [eV,k]=[fb,l.find? [aF,ao (k=[nn])],.fn [Z]]|[],_=>rfl|[eZ],h=>by rw[R,m,B5 k r λq z=>h q [f],L,[gI,p]];rw[bT,oJ,m];simp[sD,Ni];rw[bo,e,k=[nn]];{rw[bG,[bH,[d3,[L]],tx k],by rw[yY];intro x;rw[aI,ip,x];exact e ((Zd L k).mp x.symm)]}
def aoQ(n:Nat):[kk,38]:=(rfl)
def ani(n:Nat):[kk,39]:=(rfl)
def am9(n:Nat):[kk,42]:=(rfl)
def alh(n:Nat):[kk,43]:=(rfl)
def anm(n:Nat):[kk,44]:=(rfl)
def alQ(n:Nat):[kk,45]:=(rfl)
def apH(n:Nat):[kk,47]:=(rfl)
def ak7(n:Nat):[kk,49]:=(rfl)
def an8(n:Nat):[kk,52]:=(rfl)
def am3(n:Nat):[kk,53]:=(rfl)
def ak6(n:Nat):[kk,54]:=(rfl)
def BY:[fV]:=[[bC,.kE [V],[sg,5]],[L5],.ex [g',34,[]]]
def adX:DA=[cx,3,[Le]::BY]:=rfl
section
variable{S:aj}{A:BA}{b:a7}{nm st:List (D×D)}{n0:Nat}{P:aj}(I:ak S A b nm st n0 P){r:Nat}(hr:r<S.length)(hra:r∉A.all)(hrn:n0<=r){line:Nat}{ws:bO}(hw:hP ws)(hwl:ws.length<=2001)(k:Nat)
include I hr hra hrn hw hwl
theorem Yg(h0:ws≠[]):[i9,7,55,0,y_ b ws]:=by rw[aU (k+6) _ (F:=DA) Y Y Y];cases ws with|nil=>rw[be,Y,h0]|cons J G=>rw[a9,agT,O,[cY,6,29,[[bA]],St S r line [fW] 0]=_,xQ hr [fB]];rw[aO,g',kN,O];rw[R,H,by have:[a3,jB.all [aF,[nn].all [hM]]]:=[af];exact ck.mp this,hd,B5 J jB H];rw[aP,agi,hd];rw[b0,adX,[bo],O,sD,hd];(have go:∀(f:Nat),[kN].ar f=2->([vf,[cY,6,f,[[jy],[bA]],St S r line [fW] 1],[fW],[hi]])->[vf,R.bd (bj [kN] BY [[c8,A.nb],[c8,r],[bm,[pz]]] (St S r line [fW] 1)) oW,[fW],aZ [hi] done]:=by intro f i n;rw[au,seval,BY,i,D.vh];cases X:[hi]with|error e=>rw[X]at n;rw[K,o,m,u,n];rw[ac,seval,m,aZ];exact#[_,Y,u]|ok x=>rw[X]at n;obtain⟨L,o,j,d,j9,m,v,Q,N⟩:=n;have s:[cY,6,34,[[bA]],St o r line [fW] [bM]]=_:=P2 Q hw [bM] [fB];rw[b0,m,bV Q,s,aZ,done];rw[b,E,[bM]<[gq]+1];{(have im:[dY]≠[]:=by rw[L];intro hn;rw[uI,mw,hn]);cases l:[dY]with|nil=>rw[be,l,im]|cons a t=>rw[Y,seval,E];exact#[_,Y,[q,hH hrn,v.pr]]};{rw[ak,C,[dY]=[],[q,L,o6 ([bE])],C];rw[Y,seval,E];exact#[[bD,C,L],o,j,d,j9,Y,v,Q,N]});rw[b,T,J=ay "tax"];{rw[bN,y,"tax",38,T,U,[hi]=yj b [fW],[ac,eM,T,bI],Y,U▸W1 I hr hra hrn hw [ao]]};rw[b,F,J=ay "item"];{rw[bN,y,"item",39,F,U,[hi]=xP b [fW],by rw[aa,eM];rw[aw T,aJ F],Y,U▸U9 I hr hra hrn hw hwl [ao]]};rw[b,w,J=[qU]];{rw[bN,y,"from",42,w,U,[hi]=ol b ae [fW],by rw[aa,eM];rw[aw T,aw F,aJ w],Y,U▸aeL I hr hra hrn hw k]};rw[b,h,J=[s_]];{rw[bN,y,"step",43,h,U,[hi]=ol b af [fW],by rw[aa,eM];rw[aw T,aw F,aw w,aJ h],Y,U▸V0 I hr hra hrn hw k]};rw[b,Z,J=ay "free"];{rw[bN,y,"free",44,Z,U,[hi]=w_ b [fW],by rw[aa,eM];rw[aw T,aw F,aw w,aw h,aJ Z],Y,U▸afb I hr hra hrn hw k]};rw[aE,J=ay "bundle"];{rw[bN,y,"bundle",45,q,U,[hi]=wS b [fW],by rw[aa,eM];rw[aw T,aw F,aw w,aw h,aw Z,aJ q],Y,U▸UK I hr hra hrn hw hwl k]};rw[b,g,J=ay "coupon"];{rw[bN,y,"coupon",47,g,U,[hi]=wY b [fW],by rw[aa,eM];rw[aw T,aw F,aw w,aw h,aw Z,aw q,aJ g],Y,U▸Y3 I hr hra hrn hw k]};rw[b,z,J=ay "apart"];{rw[bN,y,"apart",49,z,U,[hi]=xp b [fW],by rw[aa,eM];rw[aw T,aw F,aw w,aw h,aw Z,aw q,aw g,aJ z],Y,U▸af6 I hr hra hrn hw [ao]]};rw[b,k9,J=ay "round"];{rw[bN,y,"round",52,k9,U,[hi]=w6 b [fW],by rw[aa,eM];rw[aw T,aw F,aw w,aw h,aw Z,aw q,aw g,aw z,aJ k9],Y,U▸agG I hr hra hrn hw [ao]]};rw[b,B,J=ay "cash"];{rw[bN,y,"cash",53,B,U,[hi]=xS b [fW],by rw[aa,eM];rw[aw T,aw F,aw w,aw h,aw Z,aw q,aw g,aw z,aw k9,aJ B],Y,U▸aaE I hr hra hrn hw [ao]]};rw[b,W,J=ay "by"];{rw[bN,y,"by",54,W,U,[hi]=wO b [fW],[JB,aJ W],Y,U▸aav I hr hra hrn hw [ao]]};rw[D,y,(jB.find? [AT])=ag,by simp only[jB,IH,T,F,w,h,Z,q,g,z,k9,B,W,ka,aiN],U,[hi]=[hn,1,1],[JB,aw W]];rw[y,U];rw[aX,seval,BY,qu,D.vh,[bo],[fG],aZ];rw[cl]
end
def B7(c:Int):∀t,(∀w∈eY c t,w.length<=[na])/\[aO,eY c t,[na]+1]|[]=>by simp[eY]|[bp]=>by rw[M,m,u,B7 c r];rw[hX,eY]
def NZ(h:[ms]):hP [kB]/\[aO,[kB],2001]:=by rw[Qv];rw[bA,m,u,B7 32 t,#[[gJ],?_]];rw[cp]
def J5:∀l∈nR [] t,[E]<=[na]:=by intro l U;rw[Dv]at U;obtain⟨m,_⟩:=B7 _ t;rw[aI,pT,U];rw[aA,U];rw[bS,m l ((List.dropLast_sublist _).mem U)]
def ak.St{nm st}(I:[k',S])(hra:r∉A.all)(hrn:n0<=r):[k',[Df]]:=#[I.bk.St hra,I.se,I.nm,I.wf,I.w2,I.lo.St r _ _ n,I.ge,[AS],I.sl,I.sv]
def ak.row{nm st}(I:[k',S])(f:n0<=[ad])(line:Nat)(ws:bO):[k',S++[[m3,0]]]:=#[I.bk.app _,I.se,I.nm,I.wf,I.w2,I.lo.app _ (by intro c O;rw[aI,dL,O];rw[bh,O,NF _ _ _ _]),I.ge,[q,CL f,I.pr],I.sl,I.sv]
def ZE(G:R D)(n0:Nat)(P:aj)(nb:Nat)(g:Except (Nat×Wrong) a7):[P]:=[jr,g,∃B,G=.ex 9 [ei,[l,[cP,e.1]],[cP,[ak,e]],[cP,[aE,e]]] B/\B.take n0=P,b,∃B j d q,G=[lO,B]/\ak B j b d q n0 P/\n0<=[bu]/\j.nb=nb]
def LW(L:aj)(h:c=[m3,0]):L++[c]=St (L++[c]) L.length line ws 0:=by subst h;simp[St]
def aml(r:bO)(S:aj):[he,a9 r]:=(rfl)
def anQ(r:bO)(S:aj):[vp,a9 r,[gn]]:=[h_,R.ok _ S=_]
def DO(k:Nat)(a:D):∀(l:List cK)(n:Nat)(S:aj)(A:BA)(b:a7)(nm st:[dk])(r i Z:Slot),([D6])->G<=[ad]->A.nb=nb->([ez,l,[ms]])->[jr,ux b [aw] l,∃B,[FU]=.ex 9 [B8] B/\B.take G=P,X,∃w B j d F,[FU]=[dA,w,B]/\ak B j X d F G P/\G<=[bu]/\j.nb=nb]|[],n,S,A,b,nm,st,r,i,Z,I,f,H,U=>#[_,S,A,nm,st,Y,I,f,H]|t::q,n,S,A,b,nm,st,r,i,Z,I,f,H,U=>by have g:=U t (qv ..);rw[M,W,Co,NZ g];rw[ah,C,Hf t g (k+7) S,O,(t::q).zipIdx n=(t,n)::q.zipIdx [aw],rfl];rw[O,bT,iV];rw[aa,ux];rw[bf,[kB],ws];rw[b,h0,ws=[]];{subst h0;have E:=DO k a q [aw] S A b nm st [ay,[aw]] [oY] [bm,a9 []] I f H [f];rw[aa,y_];rw[cU,C]};{have T:[ad]∉A.all:=λh=>[aN,I.bk.lt _ h];rw[R,s,Rp [aw] ws (k+7) S,hS,LW (line:=[aw]) (ws:=ws) S Y];rw[ah,I1,I.row f [aw] ws,z,iX _ G P A.nb [ad] [aw] ws (y_ b ws),Yg I1 (by simp) T f W Co [ao] h0];rw[<-hS,H]at z;rw[D,c,[aw]=[cP,[aw]],[g],fS,0<[an,ws.length],[aN,S6.mpr h0]];rw[aB,seval,C,c,fS,s];cases J:y_ b ws with|error e=>rw[J]at z;rw[K,B,m,u,z];rw[cU,m]|ok y=>rw[J]at z;obtain⟨hy,B,j,d,F,m,v,Q,N⟩:=z;rw[Y,seval,m];rw[R,o,v.St (line:=[aw]) (ws:=ws) (n:=[dp]) N.1 f,E,DO k a q [aw] _ j [b7] d F [ay,[aw]] [oY] [bm,a9 ws] o ([cz,As]) N.2 (λx L=>U x [o3])];grind}
def agK(l:[h])(n:Nat):[R,[aT,sD].zipIdx n,[aF,D.tup [[l,[Z]+1],[L]]]]=[IP]:=by induction l generalizing n with|nil=>rfl|cons a r q=>rw[bb]
def Lx(I:[D6])(f:G<=[ad])(t:cK)(h:[ng])(k:Nat):ZE [cY,9,56,[[jy],[fI]],S] G P A.nb (ux b 1 (nR [] t)):=by rw[[bQ]];rw[R,q,LX t h (k+6) S,U,by simp[lH,aF,dZ]at h;exact [dK]];have z:=DO k [fI] (nR _ t) 0 S A b _ _ [W] [W] [W] I f Y (λx L=>[aN,J5 x L]);rw[bi,M6,q,agK];cases J:ux b 1 _ with|error e=>rw[J]at z;rw[K,B,m,u,z];rw[V,m,#[B,Y,u]]|ok l=>rw[J]at z;obtain⟨C,B,j,d,a,m,u,O,W⟩:=z;rw[m];simp[seval];exact#[B,j,d,a,Y,u,O,W]
def A0(n:Nat):BA:=#[n,[aw],n+2,n+3,n+4,n+5,n+6,n+7,[],[]]
def oN(n:Nat):List aP:=[[Aq,A0 n],[cf,[]],[bI],[bI],[bI],[bI],[bI],[cf,[]]]
def Lh(k:Nat)(S:aj):[zd,4,[],oN [ad]]:=by rw[D,h,[xW,11,[[hh]],4,oN [ad]],by rw[[ll]];rw[aj,e,[xr,L],[y4],z,[xb,a,L],[DY],j,[ug,L,S],[zH]];rw[b0,Lj,e,z,j,cO];rfl,q,[kn].init 4=11,rfl];simp[newD,q,wJ,h]
def adK(e:eC S):ak (S++oN [ad]) (A0 [ad]) jO [] [] [ad] S:=by rw[ad,q,[Kd,oN [ad]],λi=>[f],#[#[?_,?_,?_,?_,?_,?_,?_,?_,?_,Y,?_,Y,?_],#[Y,Y,Y],#[λx _=>rfl,?_,?_,?_,?_],?_,[n4],?_,?_,?_,?_,?_]];{simp[BA.all,BA.hd,A0]};rw[aq,q 0,q 1];rw[aq,q 2,q 3];rw[aq,q 4,q 5];rw[aq,q 6,q 7];{intro i t x h;rw[aI,A0,h]};{intro i c x h;rw[aI,A0,h]};{simp[c_,jO]};{simp[c_,jO]};{simp};{simp};{rw[br,W,n' {rule:=4,unit:=1},#[by simp,by simp,by simp],#[[ia],[ia],[ia],[ia],[ia],[ia],[ia],[ia],[ia],[ia],[ia],W,W]]};{rw[ia]};{rw[ia]};{rw[ia]};{rw[a6,e.app,c,O];simp[oN,bX,dR,d4]at O;(have U:[Q,S++oN [ad]]=[ad]+8:=by simp[oN]);rcases O with rfl|rfl|rfl|rfl|rfl|rfl|rfl|rfl;{simp only[aP.low,ei,A0,i7,D.low,aF,dZ,CH];omega};all_goals rfl};{intro a J;simp[BA.all,BA.hd,A0,yV,List.filterMap_nil,iu,bX,dR,d4]at J;omega};{simp};{simp};simp
def X0(G:Nat)(S:aj)(k:Nat)(l:[al]):cp G S [ao] [eB]=[R,[BF],.tup]:=rfl
def X'(G:Nat)(S:aj)(k:Nat)(l:[al]):cp G S [ao] [aW]=[xS]:=rfl
def Rb(G:Nat)(S:aj)(k c:Nat)(l:[h]):[C0,[oI],.obj c]:=rfl
def YK(G:Nat)(S:aj)(k a:Nat)(h:G<=a)(U:[fR,[b6]]):[C0,[aL],.aV]:=[AV]
def abP(G:Nat)(S:aj)(k a:Nat)(h:G<=a)(U:[fR,[aW]]):cp G S [ao] [aL]=[xS]:=[AV]
def Y4(G:Nat)(S:aj)(k a c:Nat)(h:G<=a)(U:[fR,[oS]]):[C0,[aL],.obj c]:=[AV]
def Lc(G:Nat)(S:aj)(k:Nat)(d:D)(h:d.pl=ae):[gQ,[ao],d,d]:=by cases d<;>first|rfl|rw[aI,D.pl,h]
def Ay(f:U->[fP])(l:[h])(h:[gy,f x=aa x]):cM f l=aa l:=by induction l with|nil=>rfl|cons a r q=>rw[gv,cM,[gI,a],q [f]]
def qc{U J z:[aH]}(f:J->[fP])(g:U->J)(C:U->z)(l:[h])(h:[gy,f (g x)=aa (C x)]):cM f [aT,g]=aa [aT,C]:=by induction l with|nil=>rfl|cons a r q=>rw[au,bT,cM,[gI,a],q [f]];rfl
def nk(G:Nat)(S:aj)(k:Nat)(d:D)(h:d.sh=ae):[gQ,[dt],d,d]:=by cases d with|tup l=>simp[D.sh,ck]at h;rw[aV,X0,Ay _ l λx L=>Lc _ S k x (h x L)]|_=>first|rfl|simp[D.sh,D.pl]at h
def OO(G:Nat)(S:aj)(k:Nat)(h:[gy,x.sh=ae]):[gQ,[f2],[aW],[aW]]:=[aV,X',Ay _ l λx L=>nk _ S k x (h x L)]
def mR(G:Nat)(S:aj)(k a:Nat)(x:G<=a)(U:[fR,[aW]])(J:[al])(h:[BF]=aa J):[gQ,[ao],[aL],[ax,J]]:=[aV,abP _ S k a x U,h]
def Km(G:Nat)(S:aj)(k a:Nat)(J:G<=a)(U:[fR,[b6]])(h:[g4,l,[Z].sh=ae]):[gQ,[f2],[aL],[b6]]:=[aV,YK _ S _ a J U,Ay _ l λp q=>[bP,nk _ S k _ (h p q)]]
def GB(G:Nat)(S:aj)(k a c:Nat)(L:G<=a)(U:[fR,[oS]])(J:[h])(h:cM [aF,[AX]] l=aa J):[gQ,[ao],[aL],.obj c J]:=[aV,Y4 _ S k a c L U,h]
def XF(p:[gj]):(pD p).sh=ae:=rfl
def adB(p:Nat):(nD p).sh=ae:=rfl
def Qo{U:[aH]}(f:U->D)(h:∀x,(f x).sh=ae)(l:[h]):[b',[g2],x.sh=ae]:=λx L=>[f]
def J3(G:Nat)(S:aj)(k c:Nat)(l:[h])(h:[g4,l,[Z].pl=ae]):[gQ,[dt],[oI],[oI]]:=[aV,Rb,Ay _ l λp q=>[bP,Lc _ S k _ (h p q)]]
def agQ(G:Nat)(S:aj)(k:Nat)(x:Tax):[gQ,[dt],eh x,eh x]:=J3 _ S k 0 _ (by intro p q;simp[bX,dR,d4]at q;rcases q with rfl|rfl|rfl|rfl<;>rfl)
def afa(G:Nat)(S:aj)(k:Nat)(x:j_):[gQ,[dt],ec x,ec x]:=J3 _ S k 3 _ (by intro p q;simp[bX,dR,d4]at q;rcases q with rfl|rfl|rfl|rfl|rfl|rfl<;>rfl)
def Ax(I:ak S A b nm st G l):[gQ,8,[jy],[b8]]:=by rw[ah,g,I.sF,a,G<=A.nb,[nM]];rw[R,B,I.bk,O,Km G S 4 _ [g9] B.na I.nm.val];rw[R,eS,Km _ S 4 _ [ak,g] B.se I.sv,f,mR G S 6 _ [cQ,g] B.ta _ [qg,x,agQ G S 4 x]];rw[R,H,mR G S 6 _ [cQ,g.2] B.co _ [qg,x,afa G S 4 x],d,mR G S 6 _ [pl,g] B.ap _ (qc _ pD pD _ λx _=>nk G S 4 _ Y)];rw[D,P,[gQ,7,[m,A.aI],[X,[so]]],by refine mR G S 6 _ [cQ,[eQ,g]] B.it _ ?_;rw[br,key,[h4,az,r,[h],[o0]=[gn],(∀(i:Nat)(t:[oW])(x:dY),([aZ,az,t])->([cT,r])->ri S t x/\G<=[f6]/\G<=[ak,t]/\G<=[aE,t])->cM (cp G S 6) (az.map [mf])=aa (r.map cH)],by intro az;induction az with|nil=>(intro r h _;cases r with|nil=>rfl|cons _ _=>rw[hG])|cons t az q=>intro r h hh;cases r with|nil=>rw[hG]|cons x r=>rw[ag,w,T,g2,N,hh 0 t x Y Y];rw[R,L,mR G S 4 _ g2 w.vo _ [qg,y,nk G S 2 _ Y],E,mR _ S 4 _ N w.st _ [qg,y,nk G S 2 (eR y) Y]];rw[D,F,cp G S 5 [xH]=[cj],OO G S 2 (Qo nD adB _),Z,cp G S 5 [jg,mr [jJ]]=[cj],nk _ S 3 _ (by rw[Y,D.sh,ck];intro y W;rw[bM,z,W];rfl)];rw[D,Q,cp G S 5 _=aa [vW],nk _ S 3 _ ([bz,x.free]),C,∀s,[gQ,5,[db],[db]],[wn]];rw[D,e,∀s,[gQ,5,[l,s],[l,s]],[wn],U,cp G S 6 _=aa (cH x),GB G S 5 _ 1 T w.it _ (by simp only[d9,cM,L,E,F,Z,Q,C,e,g6,ub])];have q:=q _ ([aD,h]) (λi t x m u=>hh [aa] t x m u);rw[au,bT,cM,U,q];rfl,key _ _ B.il λi t x m u=>#[B.is i t x m u,I.ge _ [M,BA.qf m],I.ge _ [ak,BA.qf m],I.ge _ [aE,BA.qf m]]],j,[gQ,7,[m,A.aB],[vs]],by refine mR _ S 6 _ [mW,[aE,g]] B.bu _ ?_;rw[br,key,[h4,r,bs,[h],bs.length=[gn],(∀(i c:Nat)(x:io),([aZ,bs,aa c])->([cT,r])->[aR,S,c,[Af]]/\G<=c)->cM (cp G S 6) [fb,r.zip bs,[lq]]=aa (r.map dn)],by intro r;induction r with|nil=>intro bs _ _;rfl|cons x r q=>intro bs h hh;cases bs with|nil=>rw[hG]|cons o bs=>have q:=q bs [f] (λi c x m u=>hh [aa] c x m u);rw[aj,C,∀s,cp G S 5 [db]=[cj],[wn],e,∀s,cp G S 5 [l,s]=[cj],[wn],J,[gQ,6,hU x o,dn x],by cases o with|none=>have L:cp G S 5 _=aa [Af]:=OO G S 2 (Qo pD XF _);rw[ac,hU,dn,Rb];simp only[cM,L,C,e,g6,ub]|some c=>rw[M,n,w2,hh 0 c x Y Y];have L:=mR G S 4 _ w2 n _ (qc _ pD pD _ λy _=>nk G S 2 _ Y);have:cp G S 6 (.obj 2 _)=[fO,cM [aF,[fO,cp G S 5 [Z]]] [xJ,[l2]]]:=rfl;rw[aa,hU];rw[this];rw[aX,cM,L,C,e,g6,ub,dn]];rw[aB,rS,bT,cM,J,q];rfl,key _ _ B.bl λi c x m u=>#[B.bc i c x m u,I.ge _ (BA.Gb m)]]];exact GB G S 7 _ 4 a B.bk _ (by simp only[ei,cM,O,eS,f,H,d,P,j,g6,ub])
structure oS (b : a7) (nm st : List (D × D)) : Prop where
 se : gF b st
 nm : mL b nm
 wf : Wf b
 w2 : u' b
 sl : st.length ≤ pZ b
 sv : ∀ p ∈ st, p.2.sh = ae
def MU(q:eC S)(t:cK)(O:[ng])(k:Nat):[jr,II t,[cY,10,57,[[fI]],S]=.ex 9 [B8] S,b,∃nm st,[cO,10,57,[[fI]],[b8]]/\[mP]]:=by rw[R,G,adK q,z,Lx G (by simp) t O k];have s:=Lh [nA] S;simp[II];rw[ak,y,jV [gd,9] FD [[fI]] S=[cY,9,56,[[hh],[fI]],S++oN [ad]].bd λ_ B=>[pj,B],by simp[seval,FD,s];cases run _ _ _ _ _<;>simp[seval],GA _ S Y Y Y];rw[aH,W,(A0 _).nb=[ad],rfl,W,z];cases h:ux _ 1 _ with|error e=>rw[h]at z;rw[K,B,m,u,z];simp[gc,y,m,yh,u,q.all];rfl|ok b=>rw[h]at z;rw[ep,B]
def lM(x:dY)(n:Nat):List aP:=[.aW 1 (d9 x (n+3) (n+4)),[bI],[bI],[X,x.volume.map eR],[X,[zz]]]
def WY(x:dY)(O:[yO])(k:Nat)(T:aj):[cY,2,12,[cH x],T]=[be,[m,[lE]],T++lM x [lE]]:=by rw[[bQ]];rw[a1,q,LB (S:=T) [ub] Y Y Y O k,e,∀(c:aP)(L:[h]),[aR,T++c::L,[lE],c],[y4],z,∀(c a:aP)(L:[h]),(T++c::L).set [lE] a=T++a::L,[DY]];rw[D,j,[ug,L,T],[zH],l,∀f s,[Q,d9 [ub] f s]=7,λf s=>rfl];simp[seval,MA,q,e,z,j,cO,l];rw[aj,m,∀f s v,dV (d9 [ub] f s) 7 _=d9 _ v s,λf s v=>rfl,u,∀f s v,dV (d9 _ f s) 8 _=d9 [ub] f v,λf s v=>rfl,h,∀f s,dV (d9 [ub] f s) 9 _=[v9],λf s=>rfl];simp[seval,m,l,e,z,u,h,lM]
def kF:List dY->Nat->List aP|[],_=>[]|[bp],n=>lM x n++kF r (n+5)
def iT:List dY->Nat->[f_,Nat,[gj]]|[],_=>[]|[bp],n=>(n,n+3,n+4)::iT r (n+5)
def FC:∀(G:[h])(n:Nat),[Q,kF G n]=5*[gq]|[],n=>rfl|[bp],n=>by simp[kF,cO,FC r,lM,b7,gL];omega
def OZ:∀(G:[h])(n:Nat),[Q,iT G n]=[gq]|[],n=>rfl|[bp],n=>by simp[iT,b7,OZ r]
def Kw(a e z:Slot)(k:Nat):[h4,G,T,aj,[b',G,[yO]],eJ (turn [gd,2] [ft,12,[V]] [2] [] [a,e,z]) [f4,cH] T=[be,[cp,iT G [lE],t,D.ref [f6]],T++kF G [lE]]]|[],T,_=>by simp[eJ,iT,kF,M.pure]|[bp],T,h=>by rw[R,j,WY x [f] k T,q,Kw a e z k r (T++lM x [lE]) [f]];rw[aH,U,[Q,T++lM x [lE]]=[lE]+5,by simp[lM],U,q];simp[bT,eJ];simp[seval,j,q,iT,kF,em]
def cA(b:a7)(n:Nat):BA:=#[n,n+8,n+9,[v7],[v7]+1,[v7]+2,[v7]+3,[v7]+4,iT [cH] (n+10),[mj,[mY]]]
def lT(b:a7)(nm st:[dk])(n:Nat):List aP:=[[Aq,cA b n],[cf,[]],[bI],[bI],[bI],[bI],[bI],[cf,[]],[cf,nm],[Ab]]++(kF [cH] (n+10)++[Hs,n+10])
def agA(J:[aP])(nm st:[h])(k:Nat)(S:aj):[cY,3,13,[[b8]],S]=[pj,[p_]]:=by rw[[bQ]];rw[a1,s,Lh [ao] S,O,[xr,B],λc B=>by simp,z,[xb,C,B],λc C B=>by simp];rw[D,U,[ug,B,S],λB M=>em ..,q,[b',b.items,[yO]],λx L=>by obtain⟨_,m,u⟩:=J.item x L;have:=[nC,m,u];rw[aN,J.nt]];rw[D,d,∀A,[Q,ei A]=7,λA=>rfl,f,[qF,ei A,16,{A with aN:=v}],[qQ]];rw[D,g,[qF,ei A,17,{A with aT:=v}],[qQ],h,[qF,ei A,18,{A with aI:=v}],[qQ]];rw[D,i,[qF,ei A,19,{A with aB:=v}],[qQ],j,[qF,ei A,20,{A with aC:=v}],[qQ]];rw[D,a,[qF,ei A,21,{A with aA:=v}],[qQ],l,[qF,ei A,22,{A with aS:=v}],[qQ]];simp[seval,Qd,s,oN,O,z,U,d,f,g];rw[ak,W,∀A,[Q,S++[aP.aW 4 (ei A),[cf,[]],[bI],[bI],[bI],[bI],[bI],[cf,[]],[cf,nm],[Ab]]]=[gO],λA=>by simp,Kw _ _ _ k _ _ q];have e:=FC [cH] [gO];simp[seval,O,z,d,h,i,j,cO,e,em];rw[D,I,[ad]+[FA,[kE]+1+1+1+1]=[gO]+[kE],[g],z1,[w6,1],[g]];rw[aj,z2,[w6,2],[g],z3,[w6,3],[g],z4,[w6,4],[g]];rw[I,z1,z2,z3,z4];rfl
def J8:∀(B:[h])(G i:Nat)(x:dY),([cT,B])->[aZ,iT B G,(G+5*i,G+5*i+3,G+5*i+4)]|[],G,i,x,h=>[f]|y::r,G,0,x,h=>by rfl|y::r,G,[aa],x,h=>by have:=J8 r (G+5) i x [f];rw[fN,iT,IE]
def AC:∀(B:[h])(G i j:Nat)(x:dY),([cT,B])->j<5->(kF B G)[5*i+j]?=(lM x (G+5*i))[j]?|[],G,i,j,x,h,_=>[f]|y::r,G,0,j,x,h,m=>by rw[aO,rL,cX,h];subst h;rw[aa,kF];rw[ey,lK ([eG,lM])]|y::r,G,[aa],j,x,h,m=>by have:=AC r (G+5) i j x [f] m;rw[aa,kF];rw[nT ([eG,lM])];rw[eT,U,[Q,lM y G]=5,rfl]
def Fq:∀(B:[h])(G:Nat),∀a∈(iT B G).flatMap [vB],G<=a/\a<G+5*[bu]|[],G,a,h=>[aI,iT,h]|[bp],G,a,h=>by simp only[iT,ir,cs,bX,dR,d4]at h;simp[b7];rcases h with(h|h|h)|h;{omega};{omega};{omega};{rw[aN,Fq r _ a h]}
def RD:∀(B:[h])(G:Nat),[e9,(iT B G).flatMap [vB]]|[],G=>by simp[iT]|[bp],G=>by refine g8.mpr #[by simp,RD r _,?_];intro a h c O;rw[ch,Fq r _ c O]
def Mr{U:[aH]}(l:[gw]):[aT,λ_=>(ag:[kD])].filterMap id=[]:=by simp
def Ms(n:Nat)(d:D)(h:d.sh=ae):d.low n=ae:=by cases d with|tup l=>(simp[D.sh,ck]at h;rw[a6,KO,x,L];have:=h x L;cases x<;>first|rfl|rw[aI,D.pl,this])|_=>first|rfl|simp[D.sh,D.pl]at h
def xy(n:Nat):∀(l:[h]),([g4,l,[Z].sh=ae])->lowP n l=ae|[],_=>rfl|(a,d)::r,h=>by simp[lowP,Ms n d [gI,(a,d)],xy n r [f],lI]
def NB(N:Nat):[h4,B,G,Nat,G+5*[bu]<=N,∀c∈kF B G,c.low N=ae]|[],G,_,c,h=>[aI,kF,h]|[bp],G,hN,c,h=>by rw[aI,b7,hN];simp[kF,cs]at h;rw[aJ,h,h,h];{simp only[lM,bX,dR,d4]at h;rcases h with rfl|rfl|rfl|rfl|rfl;{exact FG x _ _ N [g] [g]};{rfl};{rfl};rw[aq,eX eR N (u8 N) _,eX _ N (u8 N) _]};{exact NB N r _ [g] c h}
def WN(L:eC S)(B:[mP]):ak [p_] (cA b [ad]) b nm st [ad] S:=by rw[ay,q,∀i,[p_][[ad]+i]?=(lT b nm st [ad])[i]?,λi=>by rw[nT [g]];rw[bu];omega,e,FC [cH] [gO]];rw[aj,d,∀i,i<[kE]->[p_][[gO]+i]?=(kF [cH] [gO])[i]?,λi j=>by rw[SK,q,lT,[zI],lK ([eG,e])];rw[bu];simp,f,∀i,[p_][[gO]+[kE]+i]?=[Hs,[gO]][i]?,λi=>by rw[[gf,[gO]+[kE]+i=[ad]+(10+[kE]+i)],q,lT,nT ([bE]),nT ([eG,e])];rw[bu];rw[eG,e],W,[Q,[p_]]=[ad]+15+[kE],by rw[aB,cO,lT,e,b7,gL];omega];rw[aY,g,Fq [cH] [gO],#[#[?_,?_,?_,?_,?_,?_,?_,?_,?_,?_,?_,?_,?_],B.se,B.nm,B.wf,B.w2,?_,?_,?_,B.sl,B.sv]];{rw[aB,BA.all,BA.hd,cA,Mr,iu];refine g8.mpr #[?_,RD _ _,?_];{simp only[mx,bX,dR,d4,ug,aiO,CH,not_false_eq_true];grind};grind};rw[aq,q 0,q 8];rw[aq,q 9,f 0];{rw[[iP,(cA b [ad]).aB=[gO]+[kE]+1],f 1];rw[aB,IE,rL,cX,aP.lst.injEq,cA];(have:∀l:List io,[aT,dn]=[fb,l.zip [aT,[mY]],[lq]]:=λl=>by induction l with|nil=>rfl|cons x r U=>simp only[bT,rS,<-U];rfl);exact this _};rw[aq,f 2,f 3];rw[aq,f 4,OZ _ _];{intro i t x m u;rw[a1,z,J8 [cH] [gO] i x u,j,i<[bR],[f],G,[aZ,iT [cH] [gO],t],m];rw[cD,z,G,cX];refine [n4];{have:=d (5*i+0) [g];rw[ae,AC _ _ i 0 x u [g],this,this]};{have:=d (5*i+3) [g];rw[fi,3]};{have:=d (5*i+4) [g];rw[fi,4]}};{simp[cA]};{intro i c x h;rw[aI,cA,h]};{rw[a6,L.app,c,O];rw[W];simp only[lT,cs,bX,dR,d4]at O;rcases O with(rfl|rfl|rfl|rfl|rfl|rfl|rfl|rfl|rfl|rfl)|O|(rfl|rfl|rfl|rfl|rfl);{simp only[aP.low,ei,cA,i7,D.low,aF,dZ,CH];omega};{rfl};{rfl};{rfl};{rfl};{rfl};{rfl};{rfl};rw[b6,xy _ _ B.nm.val,eX eh _ (G1 _) _,NB _ _ _ [g] c O];{rw[a6,L9,t,s];rw[aN,g [f6] (kc.mpr #[t,s,by simp])]};rw[aq,eX dn _ [K2] _,eX ec _ (G3 _) _];rw[aq,eX pD _ (vQ _) _,xy _ _ B.sv]};{intro a J;simp only[BA.all,BA.hd,cA,Mr,iu,cs,bX,dR,d4]at J;rw[aJ,J,J,J];{omega};{rw[aN,g a J]}};{simp}
def VA(q:eC S)(B:[mP])(t:cK)(O:[ng])(k:Nat):[jr,ux b 1 (nR [] t),[k8,10,58,[fI]]=.ex 9 [B8] S,l,∃d I,[cO,10,58,[d0,[fI]],ax d I l]/\oS l d I]:=by rw[R,G,WN q B,z,Lx G (by simp) t O k];rw[ah,s,agA B.wf nm st (k+6) S,y,jV [gd,9] D1 [d0,[fI]] S=[cY,9,56,[[hh],[fI]],[p_]].bd λ_ a=>[pj,a],by simp[seval,D1,s];cases run _ _ _ _ _<;>simp[seval]];rw[GA _ S Y Y Y];rw[aH,W,(cA b _).nb=[ad],rfl,W,z];cases h:ux b 1 _ with|error e=>rw[h]at z;rw[K,a,m,u,z];simp[gc,y,m,yh,u,q.all];rfl|ok l=>rw[h]at z;rw[ep,a]
def amP(l:[al])(S:aj):[zL,.vR,eQ l,[bS,j0 x]]:=(rfl)
def gg(G q:Nat):[mM]:=[(28,[m,G+1]),(29,[m,G+2]),(30,[m,G+3]),(31,[l,q])]
structure HS (S : aj) (n0 : Nat) (P : aj) (h : h7) (ht : Nat) : Prop where
 ob : S[n0]? = aa (.aW 15 (gg n0 ht))
 ba : S[n0 + 1]? = aa (.lst (h.basket.map nD))
 us : S[n0 + 2]? = aa (.lst (h.uses.map nD))
 co : S[n0 + 3]? = aa (.lst (h.coupons.map nD))
 pr : S.take n0 = P
def JX(h:r<[ad])(W:hP ws){l:[h]}(J:a≠r)(U:[fR,[dN,nD]])(O:1<=i)(d:i<=[E])(j n k:Nat):[AJ,[A,0<[lG,[cB]],([hn,n,2]:eT _),bN 1 j n [ds]],[jo,4,104,[[bA],[aQ],[aL],[c2]],n],l.set [cB] [S],nD]:=by rw[[bQ]];rw[ay,B,[Ah,a,[dN,nD]],λG=>[ba,ig J],C,x4 nD l 0 i O d];rw[aB,seval,K9,ic (B n),C,nD];(have m:(0<[an,[lG,[cB]]])=(0<[lG,[cB]]):=by simp);rw[b,h0,0<[lG,[cB]]];{rw[aB,seval,m,h0,bV h,hK h];grind};{rw[au,seval,m,h0,bV h];have N:=kj h (line:=line) W 1 j n k;cases u:bN 1 _ n _ with|error e=>rw[ap,u,N,p,q,N];have q:run prog _ _ [[bA],[l,1],[b3]] _=_:=q;rw[fN,seval,q]|ok x=>rw[ap,u,N,p,q,N];rw[D,q,[lg,[[bA],[l,1],[b3]]]=_,q,L,place [Q,[nq]] [cB]=aa [cB],[q,[gf,[cB]=[cP,[cB]]],Be _ _ ([bE])]];rw[aR]at L;rw[ad,F,[cM,[bM]].set a [X,[nq].set [cB] (nD [S])]=[d7,[dm,a,[hu,l.set [cB] [S]]],[bM]],by rw[aa,St];rw[Tc _ _ (dt J),SQ],#[p,?_]];simp[seval,q,B,L,F,aR]}
def WT(l:[h])(s:[h])(S:aj):[zK,[jH],[db]]:=(rfl)
def KZ(s:[h])(l:[h])(S:aj):gx [db] [jH] S=[ab,[es,bK l [db]]]:=(rfl)
def su(b:a7)(h:h7)(ws:bO):eT h7:=aZ [Ay] λi n r=>aZ [A,0<[uA],([hn,n,2]:eT Nat),bN 1 40 n r] λv n r=>[iN,{h with basket:=h.basket.set [cB] v},r]
def s6(b:a7)(h:h7)(ws:bO):eT h7:=aZ (cu (en b) 1 [go]) λi n r=>aZ [A,0<[uN],([hn,n,2]:eT Nat),bN 1 3 n r] λv n r=>[iN,{h with uses:=h.uses.set [cB] v},r]
def sJ(b:a7)(h:h7)(ws:bO):eT h7:=aZ (cu [e1] 1 [go]) λi n r=>[ap,[x1,i],[iN,{h with coupons:=h.coupons++[i]},r],[hn,n,2]]
def wK(G:R D)(n0:Nat)(P:aj)(len r line:Nat)(ws:bO)(ht:Nat)(g:eT h7):[P]:=[cZ,g,[th],∃p w e,G=[f9,p,w,e]/\e.take n0=P,[fX],[vh]/\∃e,G=[lO,[d7,e,[bM]]]/\HS e n0 P [S] ht/\e.length=len]
def HS.St(H:[va])(hr:n0+4<=r):HS [Df] n0 P h ht:=[Ja,ig [g],H.ob,H.ba,H.us,H.co,[q,hH [g],H.pr]]
def HS.ln(H:[va]):n0+4<=[ad]:=[ch,H.co]
def HS.acu(H:[va])(l:[h]):HS [dm,n0+1,[dN,nD]] n0 P {h with basket:=l} ht:=by have:=H.ln;exact#[[js,H.ob],[f],[js,H.us],[js,H.co],[yZ]]
def HS.abi(H:[va])(l:[h]):HS [dm,n0+2,[dN,nD]] n0 P {h with uses:=l} ht:=by have:=H.ln;exact#[[js,H.ob],[js,H.ba],[f],[js,H.co],[yZ]]
def HS.BZ(H:[va])(l:[h]):HS [dm,n0+3,[dN,nD]] n0 P {h with coupons:=l} ht:=by have:=H.ln;exact#[[js,H.ob],[js,H.ba],[js,H.us],[f],[yZ]]
def vN(h:cu l n ws=[fX]):[eP,[S],[E]]:=by cases ws with|nil=>rw[aI,cu,h]|cons a r=>rw[aI,cu,h];rw[a2];rw[ar];{rw[a2];{rename_i i q;rw[aI,qy,h];rw[ch,uZ q]};grind}
structure cW (b : a7) (h : h7) (ht : Nat) : Prop where
 bl : h.basket.length = b.items.length
 bm : ∀ x ∈ h.basket, x ≤ 40
 ul : h.uses.length = b.bundles.length
 um : ∀ x ∈ h.uses, x ≤ 3
 cm : ∀ x ∈ h.coupons, 1 ≤ x ∧ x ≤ b.coupons.length
 cr : rise h.coupons
 ct : h.basket.countP (fun x => ao (x ≠ 0)) + h.uses.countP (fun x => ao (x ≠ 0)) + h.coupons.length = ht
section
variable{S:aj}{n0:Nat}{P:aj}{h:h7}{ht:Nat}(H:HS S n0 P h ht){b:a7}{nm st:List (D×D)}(B:mL b nm){r:Nat}(hr:r<S.length)(hr0:n0+4<=r){line:Nat}{ws:bO}(hw:hP ws)(k:Nat)
include H B hr hr0 hw
theorem Yp(J:h.basket.length=[bR]):[Bp,105,su b h ws]:=by rw[du,[ak,pU B.nd x],j,su];cases q:[tp]with|error e=>rw[ap,q,W,p,W,W];rw[bK,W,[Dd,[ha]],W,Bx];rw[cB,j p]|ok x=>rw[es,[lg,[xG,[ha]]]=_,df,H.ba,40,28];cases O:[A,0<h.basket.getD _ 0,[th],[qK]]with|error e=>rw[dh,p,[lg,[yz,40]]=_,Bx];rw[cB,j p]|ok y=>rw[dh,m,run prog _ _ [yz,40] _=_,Bx];exact#[m,_,Y,H.acu _,by simp]
theorem ad_(J:h.uses.length=[cu]):[Bp,106,s6 b h ws]:=by rw[du,[cQ,pU B.nd x],j,s6];cases q:[tp]with|error e=>rw[ap,q,W,p,W,W];rw[bK,W,[Dd,[mc]],W,B6];rw[cB,j p]|ok x=>rw[es,[lg,[xG,[mc]]]=_,en,H.us,3,29];cases O:[A,0<h.uses.getD _ 0,[th],bN 1 3 _ _]with|error e=>rw[dh,p,[lg,[yz,3]]=_,B6];rw[cB,j p]|ok y=>rw[dh,m,run prog [g0] _ [yz,3] _=_,B6];exact#[m,_,Y,H.abi _,by simp]
omit H B hr hr0 hw in theorem adA(l:[h])(i:Nat)(a:1<=i):(i<=j0 [aT,λ(x:Nat)=>(x)])=¬[jv,[sd,j<i]]:=by(have key:∀l,l≠[]->(i<=j0 [aT,λ(x:Nat)=>x]↔¬[jv,[sd,j<i]]):=by intro l;induction l with|nil=>grind|cons x r m=>cases r with|nil=>simp[j0]|cons y q=>rw[ah,m,m (by simp),e,j0 [l9,x::y::q,x,x]=fk [an,x] _,rfl];rw[e8];simp only[aF,dZ,Classical.not_and_iff_not_or_not,<-m];omega);cases l with|nil=>rw[eG,j0]|cons x r=>grind
theorem Wp(O:h.coupons.length<=5):[Bp,107,sJ b h ws]:=by rw[du,[eQ,pU B.nd x],J,sJ];cases m:[tp]with|error e=>rw[ap,m,W,p,W,W];rw[bK,W,[lg,[xG,[hJ]]]=_,W,Bl];rw[cB,J p]|ok x=>rw[ap,m,W,L,W,W];have W:[Dd,[hJ]]:=W;rw[R,a,vN m,hd,d7 (J [bM]).ob];have z:[nX,fl (.obj 15 (gg n0 ht)) 30 T]:=[oN];rw[R,q,(J [bM]).co,c,adA h.coupons _ a.1];rw[aj,C,eQ [vq,nD]=[cj],Rm _ _,u,h.coupons.length<lim,[fu],F,[xD,[bM],n0+3,[vq,nD],[l,[S]],h.coupons,[S],nD],by rw[aa,St];rw[aV,Tc _ _ [g],de]];rw[aa,aZ];rw[b,g,[x1,[S]]=ae];{rw[ak,d,¬([S]<=j0 [vq,[od,x]]),[f],aJ g];simp[seval,Bl,W,hd,z,nD,ic q,C,d,oo q,q,aR,u];rw[V,F,#[L,_,Y,H.BZ _,by simp]]};{rw[ak,d,[S]<=j0 [vq,[od,x]],[f],aw g];simp[seval,Bl,W,hd,z,nD,ic q,C,d,[bo],[fG]];rw[cB,J _]}
end
def jE(b:a7)(h:h7)(ws:bO):eT h7:=[cZ,ws,[],.ok (h,0,[]),k::_,[A,k=[lH],su b h ws,[A,k=[m6],s6 b h ws,sJ b h ws]]]
def nl(h:h7)(n:Nat)(ws:bO):eT h7:=[cZ,ws,[],[iN,h,[]],[d5],[hn,[aw],1]]
def ib(g:eT h7):[bg,h7]:=[cZ,g,[fX],aa [S],[th],ag]
def E6(U:[gy,[nh]])(n:Nat)(x:cK)(r:bO):cu l n [bp]=[gp,fK l x,i,.ok (i,[aw],r),[hn,[aw],[A,dS x=af,1,3]]]:=by simp[cu];cases q:fK l x with|none=>grind|some i=>rw[ch,U x [aE,uZ q]]
def U8(aO:[b',c_ b,[nh]])(h:h7)(J:cK)(l:bO)(hh:qz (J::l)=ae):[Lw,J::l]:=by rw[D,e,[KF],rfl,u,[b',df b,[nh]],[BO]];rw[D,W,[b',en b,[nh]],[BO],P,[b',[e1],[nh]],[BO]];simp only[qz,CN,uu,kP,ip,cX]at hh;rw[D,s,¬([m7]=[lH]),[af],z,¬([m7]=[m6]),[af]];rw[D,y,¬([m6]=[lH]),[af],g,¬([lH]=[m7]),[af]];rw[D,d,¬([m6]=[m7]),[af],nd,∀(x:h7)(n:Nat)(a:cK)(r:bO),nl x n (a::r)=[hn,[aw],1],λx n a r=>rfl];rcases hh with rfl|rfl|rfl;{rw[aB,jE,bI,su,kf,g'];cases l with|nil=>rw[au,iy,cu,aZ,ib]|cons a r=>rw[E6 u];cases m:fK (df b) a with|none=>(rw[Y,aZ,ib];cases r with|nil=>rw[ac,iy,g,b8]|cons G q=>cases q with|nil=>rw[ac,iy,bI,m]|cons _ _=>rfl)|some i=>rw[aa,aZ];have C:e7 [pf] i=[uA]:=rfl;rw[b,h0,0<[uA]];{have f:¬([uA]=0):=[g];rw[ac,h0,bI,ib];cases r with|nil=>rw[ac,iy,g,b8]|cons G q=>cases q with|nil=>rw[ac,iy,bI,m];grind|cons _ _=>rfl};{have f:[uA]=0:=[g];rw[Y,h0,b8];cases r with|nil=>rfl|cons G q=>rw[aa,bN];cases O:mF G with|none=>(cases q with|nil=>rw[aB,iy,bI,m,O,ib]|cons _ _=>rfl)|some v=>rw[bp];rw[b,I,[eP,v,40]];{rw[aJ I];cases q with|nil=>simp only[iy,bI,m,O,C,f,el,I.1,I.2,and_self,nl,ib]|cons _ _=>rfl};{rw[aw I];cases q with|nil=>have N:¬[ly,v,el,e7 [pf] i=0]:=λL=>I #[L.1,[ak,L]];rw[aB,iy,bI,m,O,ib];rw[aw N]|cons _ _=>rfl}}};{rw[aX,jE,bI,y,b8,s6,kf,g'];cases l with|nil=>rw[au,iy,cu,aZ,ib]|cons a r=>rw[E6 W];cases m:fK (en b) a with|none=>(rw[Y,aZ,ib];cases r with|nil=>rfl|cons G q=>cases q with|nil=>rw[aB,iy,y,b8,bI,m]|cons _ _=>rfl)|some i=>rw[aa,aZ];rw[b,h0,0<[uN]];{have f:¬([uN]=0):=[g];rw[ac,h0,bI,ib];cases r with|nil=>rw[ac,iy,d,b8]|cons G q=>cases q with|nil=>rw[aB,iy,y,bI,b8,m];grind|cons _ _=>rfl};{have f:[uN]=0:=[g];rw[Y,h0,b8];cases r with|nil=>rfl|cons G q=>rw[aa,bN];cases O:mF G with|none=>(cases q with|nil=>rw[aX,iy,y,b8,bI,m,O,ib]|cons _ _=>rfl)|some v=>rw[bp];rw[b,I,[eP,v,3]];{rw[aJ I];cases q with|nil=>simp only[iy,y,b8,bI,m,O,f,qr,I.1,I.2,and_self,nl,ib]|cons _ _=>rfl};{rw[aw I];cases q with|nil=>have N:¬[ly,v,qr,[uN]=0]:=λL=>I #[L.1,[ak,L]];rw[aX,iy,y,b8,bI,m,O,ib];rw[aw N]|cons _ _=>rfl}}};{rw[aX,jE,s,z,b8,sJ,kf,g'];cases l with|nil=>rfl|cons a r=>rw[E6 P];cases m:fK [e1] a with|none=>(rw[Y,aZ,ib];cases r with|nil=>rw[ac,iy,bI,m]|cons G q=>cases q with|nil=>rfl|cons _ _=>rfl)|some i=>rw[aa,aZ];rw[b,h0,[x1,i]=ae];{rw[aJ h0];cases r with|nil=>rw[aB,iy,bI,m,nl,ib];rw[aJ h0]|cons G q=>cases q with|nil=>rfl|cons _ _=>rfl};{rw[aw h0];cases r with|nil=>rw[au,iy,bI,m,ib];rw[aw h0]|cons G q=>cases q with|nil=>rfl|cons _ _=>rfl}}
def NY:∀(l:[h])(i v:Nat),i<[E]->[lG,i]=0->v≠0->(l.set i v).countP [uy]=l.countP [uy]+1|[],i,v,h,_,_=>[hG]|[bp],0,v,h,h0,q=>[bb]|[bp],[aa],v,h,h0,q=>[f]
def Qi(h:bN lo q n ws=[fX]):[we,[S]]:=[BP,bN,a]
def cW.step(H:cW b h O){ws:bO}(B:ws≠[])(L:jE b h ws=[fX]):cW b [S] (O+1):=by rw[aj,a,[Cw,su b h ws],by intro y q;rw[ao,su,q];cases m:[tp]with|error e=>rw[fp,m,q,aZ]|ok z=>have U:=vN m;simp[df,aR]at U;rw[fz,0<h.basket.getD ([cK]-1) 0];{rw[aO,h0,b8,q];cases u:bN 1 40 [fD] [aE,z]with|error e=>rw[bb]|ok v=>rw[fC,[pf],H.bl,by simp[H.bl],[gJ],H.ul,H.um,H.bm x L]},c,[Cw,s6 b h ws],by intro y q;rw[ao,s6,q];cases m:cu _ 1 [go]with|error e=>rw[fp,m,q,aZ]|ok z=>have U:=vN m;rw[aO,en,aR,U];rw[fz,0<h.uses.getD ([cK]-1) 0];{rw[aO,h0,b8,q];cases u:bN 1 3 _ _ with|error e=>rw[eK,u,q]|ok v=>rw[fC,h.uses,H.ul,H.bl,H.bm,by simp[H.ul],[gJ],H.um x L]},d,[Cw,sJ b h ws],by intro y q;rw[ao,sJ,q];cases m:cu _ 1 [go]with|error e=>rw[fp,m,q,aZ]|ok z=>have U:=vN m;rw[aO,d0,aR,U];rw[m]at q;rw[ao,aZ,q];rw[b,h0,[x1,[cK]]=ae];{rw[cD,aJ h0,q,qy];refine#[H.bl,H.bm,H.ul,H.um,[gJ],?_,by have:=H.ct;rw[Y,cO,aiP];omega];{rw[aZ,cs.mp L,L,L,H.cm x L];{rw[ao,dL,L];rw[bh,L,U]}};{rw[gM,aiz.mpr #[H.cr,by simp,λx L y q=>?_]]}};{rw[eK,aw h0,q]}];cases ws with|nil=>grind|cons J r=>rw[ao,jE,L];grind
def alr(n:Nat):(cf n).ar 105=3:=(rfl)
def apN(n:Nat):(cf n).ar 106=3:=(rfl)
def apO(n:Nat):(cf n).ar 107=3:=(rfl)
def vx:[jQ,String]:=[("has",105),("uses",106),("with",107)]
def KR:Aw=vx.map [aF,(sD [nn],.fn [Z])]:=rfl
def yp:[fV]:=[[B1],[CD]]
def LM:[fV]:=[[Ez],[BD],[By],[B1],[CD]]
def mo:[fV]:=[yR]::[Hq]::LM
def J7:BW=[Im,mo]:=rfl
def aeW:LM=[Ez]::[BD]::[By]::yp:=rfl
def aam(Z:r<[ad])(h:G+4<=r)(W:hP ws)(k:Nat)(d:D)(q j I:Slot)(f:Nat)(i:[kN].ar f=3)(g:eT _)(J:wK [jo,6,f,[d,[m,G],[bA]],1] G P [ad] r line ws N g):[cZ,aZ g nl,[th],∃p w B,bj [kN] yp [Bw] [cM,1]=[f9,p,w,B]/\B.take G=P,[fX],∃B,bj [kN] yp [Bw] [cM,1]=[dA,[Bw],B]/\HS B G P [S] N]:=by rw[ac,seval,yp,i];cases g with|error e=>rw[ab,p,w,B,m,u,J];rw[ac,seval,m,aZ];grind|ok x=>rw[ab,L,B,m,z,U,J];rw[D,Q,r<[bu],[g],s,[oj,St _ r line _ _],P2 Q W [bM] [fB]];rw[aB,seval,m,bV Q,s,aZ];rw[b,O,[bM]<[gG]];{have H:[dY]≠[]:=[bb];cases l:[dY]with|nil=>grind|cons a t=>rw[aa,O];rw[cB,z.St h]};{rw[ak,C,[dY]=[],[bb],C];rw[aa,O];exact#[_,Y,z.St h]}
def ad'(k G:Nat)(a:D)(t:cK)(g:[ms])(S:aj)(h j Z:Slot)(hh:qz [kB]=af):∃I,[FK,h,j]=[ab,.bk [qb,[oY],I,j,Z]]:=by have C:=Hf t g [g0] S;rw[bf,je _ t,ws];cases ws with|nil=>rw[ac,seval,mo,C];grind|cons J r=>have hd:=B5 J vx ([af]);rw[aP,KR,hd];rw[D,H,[q8,eu (a9 (J::r)) [iZ] T,sD J],λT=>by simp[seval,a9],U,(([gn]+1==0))=af,rfl];rw[aH,O,(vx.find? [AT])=ag,by have hh:¬(qz (J::r)=ae):=[f];simp[qz,CN,uu,kP,ip,cX,ug]at hh;simp[vx,IH,hh.1,[ak,hh],[aE,hh],ka,aiN],O,hd];have q:[q8,gx (sD _) _ T,af]:=[CW,KZ];rw[aB,seval,mo,C,H,q];exact [gV]
def Wm(B:mL b nm)(r:[bK]<=5)(k:Nat)(a:D)(t:cK)(g:[ms])(s4 s5 Z:Slot)(H:HS S G X h Q)(K:cW b h Q)(hh:qz [kB]=ae):[FH,[kB],[bd,[e0]]]:=by rw[M,W,Co,NZ g];have C:=Hf t g [g0] S;rw[bf,[kB],ws];cases ws with|nil=>simp[qz,CN]at hh|cons J E=>have hd:=B5 J vx ([af]);rw[aP,KR,hd];rw[aj,rD,[q8,eu (a9 [eX]) [iZ] T,sD J],λT=>[ac,seval,a9,bT],fS,(([cP,E.length+1]==0))=af,by rfl,q,[ad]<[Q,[rW]],by simp];rw[a1,A,H.ln,v,HS [rI] G X h [e0],#[[f],[js,H.ba],[js,H.us],[js,H.co],[yZ]],H2,HS [rW] G X h [e0],[Ja,lK ([bE]),v.ob,v.ba,v.us,v.co,[q,CL ([bE]),v.pr]]];rw[D,l,∀e,fi [kN] [a9] e 31 [m,G] (G,.aW 15 (gg G Q)) S=[dA,e,[rI]],λe=>by rw[aj,m,eV (gg G Q) 31=aa [l,Q],rfl,u,dV (gg G Q) 31 [l,[e0]]=gg G [e0],by rfl,h3,[Q,gg G Q]=4,rfl];rw[aa,fi];rw[aB,seval,m,H.ob,h3,u],z,[q8,fl (.obj 15 (gg G [e0])) 31 T,[l,[bd,[e0]]]],[oN]];rw[D,s,newD [kN] 13 [[l,[bd,[e0]]],a9 [eX]] [rI]=_,Rp [e0] [eX] [g0] _,U,[Q,[rI]]=[ad],by simp];have hS:=LW (c:=hx [e0] [eX] 0) (line:=[e0]) (ws:=[eX]) [rI] Y;rw[U]at s hS;rw[hS]at s;have O:[cY,6,29,[[hh]],St [rW] [ad] [e0] [eX] 0]=_:=xQ q [fB];rw[aO,g',kN,O];rw[R,j,bV (line:=[e0]) (ws:=[eX]) (n:=0) q,dw,c9 (kt _ h.coupons (K.cr.imp λh=>di h) K.cm) r];rw[ah,c,d7 v.ob,fj,∀f,[kN].ar f=3->[R,vx.find? [AT],[aF,D.fn [Z]]]=aa [pz]->wK [cY,6,f,[dd,[m,G],[hh]],St [rW] [ad] [e0] [eX] 1] G X [Q,[rW]] [ad] [e0] [eX] [e0] (jE b h [eX])->[FH,[eX],[e0]],by intro f i hf hs;rw[hf]at hd;rw[D,hm,[q8,gx (sD J) (.du Aw) T,ae],[CW,KZ],hi,[q8,eu (.du Aw) (sD J) T,[pz]],[CW,WT]];rw[ah,n,aam q A W k [b8] [cb,a] [oY] [bm,a9 [eX]] f i _ hs,L,[FK,s4,s5]=bj [kN] yp [qb,[oY],[bm,a9 [eX]],[c8,[ad]],[bm,[pz]]] (St [rW] [ad] [e0] [eX] 1),by rw[Y,mo,aeW];simp only[seval,C,b7,fS,rD,hm,H.ob,l,c,z,s,j,O,hi]];rw[ba,L]];have P:=hh;simp only[qz,CN,uu,kP,ip,cX]at P;rw[aj,d1,¬([m7]=[lH]),[af],d2,¬([m7]=[m6]),[af],y,¬([m6]=[lH]),[af]];rw[b,k1,J=[lH]];{rw[ad,N,jE b h [eX]=su b h [eX],[ac,jE,k1,bI],fj 105 Y [bP,k1] ?_];rw[V,N,Yp H2 B q A W k K.bl]};rw[b,k2,J=[m6]];{rw[ad,N,jE b h [eX]=s6 b h [eX],[aB,jE,k2,y,bI,b8],fj 106 Y [bP,k2] ?_];rw[V,N,ad_ H2 B q A W k K.ul]};rw[a0,k3,J=[m7],by rcases P with h|h|h;rw[b6,[c_,h,k1],[c_,h,k2],h],N,jE b h [eX]=sJ b h [eX],[aB,jE,k3,d1,d2,b8],fj 107 Y [bP,k3] ?_];rw[V,N,Wp H2 B q A W k dw]
def W3(h:aZ g nl=[fX]):∃y,g=.ok y/\[b7]=[S]:=by cases g with|error e=>rw[aI,aZ,h]|ok y=>simp[aZ,nl]at h;grind
def Rx(B:mL b nm)(r:[bK]<=5)(k:Nat)(a:D):∀(l:[h])(S:aj)(h:h7)(A:Nat)(Q W O Z:Slot),HS S G i h A->cW b h A->([ez,l,[ms]])->[cZ,y' b h (A+1) l,.error n,∃p w T,[IX]=[Ek,T]/\T.take G=i,.ok X,∃t3 I F d T z,[IX]=[dA,[qb,t3,I,F,d],T]/\HS T G i X z/\cW b X z]|[],S,h,A,Q,W,O,Z,H,K,U=>#[Q,W,O,Z,S,A,Y,H,K]|t::q,S,h,A,Q,W,O,Z,H,K,U=>by have g:=U t (by simp);rw[bT,iV];rw[aa,y'];have C:∀S,[gX,fX [qb,Q,W,O,Z] [3] _]=[ab,[[cc],[cc],[cc],[oY],W,O,Z]]:=λS=>rfl;rw[C,fC];rw[b,hh,qz [kB]=ae];{have f:=Wm (st:=st) B r k a t g W O Z H K hh;rw[ac,hh,aiL,b8];rw[D,E,je _ t≠[],λo=>by rw[o]at hh;simp[qz,CN]at hh,N,[Lw,[kB]],by cases j:je _ t with|nil=>rw[be,j,E]|cons J rC=>exact U8 B.ok h _ _ (j▸hh)];rw[N];cases c:aZ _ _ with|error e=>rw[c]at f;rw[ab,p,w,T,m,u,f];rw[ac,ib,m,yh];grind|ok x=>rw[c]at f;rw[am,I,F,d,T,m,u,f];rw[Y,ib,m];rw[K,y,v,yE,W3 c];rw[hr,s,K.step E v,yE,Rx B r k _ q _ _ _ _ _ _ _ u s (λx L=>U x [o3])]};{have P:=[aD,hh];rw[M,I,m,ad' (b:=b) (nm:=nm) (st:=st) k G a t g S W O Z P];rw[aB,P,bI,m,fC,afZ];grind}
def QI:∀{a c},Gd c->(tx a=tx c↔a=c)|[],[],_=>by simp|[],y::s,_=>by simp[tx]|[bp],[],_=>by simp[tx]|[bp],y::s,h=>by rw[R,m,QI (a:=r) (c:=s) λc O=>h c [f],e,[gI,y]];rw[D,z,tx [bp]=sg x::tx r,rfl,u,tx (y::s)=sg y::tx s,rfl];rw[R,q,Aq e,L,B3 x];grind
def abn(l:[gw])(p:Nat):cut l (clip [E] p) (clip [E] (p+1))=[ed,p].take 1:=by rw[D,e,clip _ p=ek p [E],rfl,z,clip [E] (p+1)=ek _ _,rfl];rw[cut];rw[b,h,p<[E]];{grind};rw[bb]
def rl:[fV]:=[Gr,[E9]]
def afU:L_=[HJ,rl]:=rfl
def same(a c:[bg,cK]):Bool:=match a,c with|ag,ag=>ae|aa x,aa y=>ao (x=y)|_,_=>af
def Xn(a:[h])(p:Nat):kz [r6,[kq]]=ae:=by rw[<-yZ];cases a.drop p with|nil=>rfl|cons x r=>simp[ail,ait,bT,sD,kz,FS]
def acS(a c:[h])(O:[ez,c,Gd t])(p k:Nat)(S:aj):bj [kn] rl [xm] S=[ap,[r_],[dy,[xm]],[iz,[l,p+1]]]:=by rw[D,j,∀(l:[al])T,gE [aW] (aa p) [cj] T=[be,[X,[ed,p].take 1],T],λl T=>[jL,abn l p],C,[q8,mQ _ _ T,[r_]],λT=>by rw[ak,z,mQ [X,[r6,[kq]]] [X,[r6,c.map sD]] T=[be,lm [r6,[kq]] [r6,c.map sD],T],by simp[mQ,Xn];rfl,z];rw[bu];(have q:∀l:[h],[r6,[aT,sD]]=[gp,l[p]?,x,[sD x],[]]:=λl=>by rw[<-yZ];cases h:l[p]? with|none=>rw[bb]|some x=>have u:p<[E]:=[f];rw[ba,mG u]);rw[q a,q c];cases J:a[p]? with|none=>(cases m:c[p]? with|none=>rfl|some y=>rfl)|some x=>cases m:c[p]? with|none=>rfl|some y=>have e:=O y (cG m);simp[lm,sD,Ni,yX,same];rw[gZ,ip,QI e,dZ]];rw[b,h,[r_]=ae];{rw[eR,rl,j,C,h]};{have i:=[aD,h];rw[eR,rl,j,C,i]}
def OF(a c:List cK)(O:[ez,c,Gd t])(k:Nat)(S:aj):∀(G p:Nat)(z:Slot),G+p=fk [bW] [dP]->[GZ,a.drop p,c.drop p,[Hh,i],[Hh,i]]|0,p,z,h=>[a5,o6 [g],o6 [g],#[z,Y]]|G+1,p,z,h=>by rw[List.range'_succ,bT,iV];have C:∀S,[gX,fX [[cc],[cc],z] [2] _]=[ab,[xm]]:=λS=>rfl;rw[C,fC,acS a c O p k S];rw[ah,u,OF a c O k S G (p+1) [ay,p] [g],stop,∀x y,a.drop p=x->c.drop p=y->[r_]=af->qA (p+1) x y=p+1->[GZ,x,y,[F1,p],[F1,p]],by intro x y L N U W;rw[aV,W,U]];cases J:a[p]? with|none=>rw[ah,g,v7.mp J,dw,p<[dP],[g]];rw[o6 g,mG dw,<-J];exact stop _ _ (o6 g) (by simp) ([aV,J,cQ dw]) Y|some x=>rw[ay,g,p<[bW],by apply CJ;intro B;rw[eK,mz [g],J],q,by rw[cQ g]at J;rw[aD,J]];rw[mG g,q,<-J];cases m:c[p]? with|none=>have dw:=v7.mp m;rw[o6 dw,<-m];exact stop _ _ (by rw[mG g,q]) (o6 dw) ([aV,J,m]) Y|some y=>rw[ay,dw,p<[dP],[f],d,by rw[cQ dw]at m;rw[aD,m]];rw[mG dw,d,<-m];rw[b,j,x=y];{rw[ak,U,[r_]=ae,by rw[J,m];simp[same,j],U];rw[Y,qA,j];exact u};{exact stop _ _ (by rw[mG g,q]) (by rw[mG dw,d]) (by rw[J,m];simp[same,j]) ([Y,qA,aw j])}
def aeT(a c:[h])(O:[ez,c,Gd t])(J:[bW]<=10000)(dw:[dP]<=10000)(k:Nat)(S:aj):[iG,2,109,[[X,[kq]],[X,c.map sD]],qA 1 a c]:=by rw[[ck]];rw[ah,z,OF a c O k S (fk _ _) 0 [W] Y,q,fk [an,a.length] [dP]=fk [bW] [dP],[g]];rw[eR,afU,aR,q,vp _ _ [gf,fk [bW] [dP]<=16777216]];rw[List.range_eq_range'];rw[aI,g',z];rw[b,h,qA 1 a c=0];{rw[ap,aJ h,z,s,z,z];rw[aV,z,h]};{rw[aw h]at z;rw[a_,z]}
def vP(h:h7)(q:Nat):D:=.obj 15 [(28,[X,h.basket.map nD]),(29,[X,h.uses.map nD]),(30,[X,[vq,nD]]),(31,[l,q])]
def h0(b:a7):h7:={basket:=fH [bR] 0,uses:=fH [cu] 0,coupons:=[]}
def xA(b:a7)(n:Nat):List aP:=[.aW 15 (gg n 0),[X,(h0 b).basket.map nD],[X,(h0 b).uses.map nD],[bI]]
def Oc{U:[aH]}(l:[gw]):[aT,λ_=>[cC,0]]=[da,fH [E] 0]:=by induction l with|nil=>rfl|cons x r q=>simp[bT,q];rfl
def acZ(k:Nat)(S:aj):[zd,15,[[b8]],xA b [ad]]:=by rw[D,h,[xW,103,[[hh],[b8]],15,xA b [ad]],by rw[[ll]];rw[D,u,[xr,L],[y4],f,[xb,j,L],λc j L=>by simp];rw[aj,O,[ug,L,S],[zH],i,[J0,.c _,2,(h0 b).basket.map _],[It,cH],r,[J0,[bf],3,(h0 b).uses.map _],[It,dn]];simp[seval,N5,u,f,O,cO,i,r];rfl,m,[kn].init 15=103,rfl];simp[newD,m,wJ,h]
def HS.new(b:a7)(S:aj):HS (S++xA b [ad]) [ad] S (h0 b) 0:=[br,q,[Kd,xA b [ad]],λi=>[f],#[q 0,q 1,q 2,q 3,by simp]]
def cW.new(b:a7):cW b (h0 b) 0:=by rw[ad,q,∀n,(fH n 0).countP [uy]=0,λn=>by simp,#[by simp[h0],[gJ],by simp[h0],[gJ],by simp[h0],by simp[h0,rise],by rw[Y,h0,q];rfl]];{simp[h0,aiQ]at L;omega};{simp[h0,aiQ]at L;omega}
def HS.Ax(H:HS S G P h j):[gQ,8,[m,G],vP h j]:=by rw[R,z,mR _ S 6 _ [g] H.ba _ [qg,y,nk G S 4 (nD y) Y],q,mR G S 6 _ [g] H.us _ [qg,y,nk _ S 4 _ Y]];rw[ah,L,mR G S 6 _ [g] H.co _ [qg,y,nk _ S 4 _ Y],e,∀s,cp G S 7 [l,s]=[cj],[wn]];exact GB _ S 7 _ _ [g] H.ob _ (by simp[gg,cM,z,q,L,e,g6,ub])
def af4(L:eC S)(B:[mP])(l:[h])(U:[ez,l,[ms]])(k:Nat):[cZ,y' b (h0 b) 1 l,.error n,∃p w,[k8,7,108,[dN,sD]]=[Ek,S],.ok h,∃q,[cO,7,108,[d0,[dN,sD]],vP h q]/\cW b h q]:=by rw[ah,z,Rx (st:=st) B.nm B.wf.nc k [dN,sD] l _ _ 0 [W] [W] [W] [W] (HS.new b S) (cW.new b) U,s,newD _ _ [[b8]] S=_,acZ [g0] S];rw[GA _ S Y Y Y];cases J:y' b _ 1 l with|error n=>rw[J]at z;rw[ab,p,w,e,m,u,z];rw[ad,y,jV [kN] BW [d0,[dN,sD]] S=[Ek,e],[bi,J7,s,m],#[p,w,?_]];simp[gc,y,u,L.all];rfl|ok h=>rw[J]at z;obtain⟨C,I,F,d,e,q,m,H,K⟩:=z;rw[ad,y,jV [kN] BW [d0,[dN,sD]] S=[pj,e],[bi,J7,s,m],#[q,?_,K]];simp[gc,y,H.Ax,H.pr,L.all,bI]
def ae7(K:cW b h q):[Q,o7 b [pf] [l8,h.uses,h.coupons]]=q:=by simp[o7,cO,List.length_filterMap_eq_countP];rw[ay,e,[R,kW b,e7 [pf]]=[pf],by apply my;intro i;simp[kW,dQ];rw[b,j,i<[bR]];{rw[aiu j];have:i<h.basket.length:=[aN,K.bl];simp[e7,this]};{rw[aV,mz [f],mz ([aN,K.bl])]},z,by have:=List.map_snd_zip (l₁:=en b) (l₂:=h.uses) (by simp[en,K.ul]);rw[bZ]];rw[D,I,(kW b).countP (λa=>[es,[A9,e7 [pf] a,gO b a]])=h.basket.countP [uy],by(conv=>rhs;rw[<-e,aiR]);apply aiS;simp,B,((en b).zip h.uses).countP (λx=>[es,[GR]])=h.uses.countP [uy],by(conv=>rhs;rw[<-z,aiR]);apply aiS;simp];rw[ch,K.ct]
def Ng(J:[aP])(e:jA b){c C a:[h]}(O:[h3])(B:[lf])(hu:[lk])(L:[sb])(dw:[bW]<=5):[ez,ur b c [fL],Gd t]/\[aO,ur b c [fL],63]:=by have q:fh b [z5]:=vK _ (vO J O B hu);rw[R,l,M3 J c [fL],s,Nh J q];rw[cm,Ed,#[λt j=>?_,[f]]];rw[K,r,h,rfl,b0.mp j];rw[br,g,Rw r,[d_,cs.mp h,h,h,FZ e O B hu L r h,DY J e q r h],[L_]]
def YR:[aO,nR [] t,[na]+1]:=by rw[Dv];obtain⟨_,u⟩:=B7 10 t;rw[hX,pT]
def aeI(C:eC S)(B:[mP])(t:cK)(j:[ng])(k:Nat):[k8,8,110,[fI]]=[bS,lookOver b t]:=by rw[[ck]];rw[R,q,LX t j [g0] S,g,by simp[lH,aF,dZ]at j;exact j.1];rw[R,z,af4 C B (nR _ t) (λx L=>[aN,J5 x L]) k,a,YR (t:=t)];rw[ak,I,lookOver b t=[cZ,y' b (h0 b) 1 _,.error n,n,.ok h,[A,gK b _ _=af,[Q,o7 b _ _]+1,qA 1 _ _]],rfl,I];cases J:y' b _ 1 _ with|error n=>rw[J]at z;rw[K,p,w,m,z];rw[bi,zC,q,m];rfl|ok h=>rw[J]at z;rw[K,hh,m,K,z];rw[ay,u,jA b,#[B.nm.ok],dw,c9 [nC,K.cr.imp [f],K.cm] B.wf.nc];rw[D,xg,[Fm,28],[oN],wE,[Fm,29],[oN]];rw[D,xC,[Fm,30],[oN],c,[nX,bH (vP h hh) T],[oN]];rw[D,i,[p9,[Dn]]=_,RL B.wf K.bl K.bm K.ul K.um K.cm K.cr [dt] S,d,run _ (k+7) _ [xX] S=_,O' B.wf u B.se K.bl K.bm K.ul K.um K.cm K.cr _ S];rw[bj,W,g2,Ng B.wf u K.bl K.bm K.um K.cm dw,e,[p9,[[X,[fO,nR [] t]],[b9]]]=_,aeT _ _ W [g] [g] [g0] S];rw[bp];rw[ae7 K];rw[b,O,gK b [pf] [l8,h.uses,h.coupons]=ae];{simp[seval,zC,q,m,c,xg,wE,xC,i,O,d,e]};{have f:=[aD,O];simp[seval,zC,q,m,c,xg,wE,xC,i,f];rfl}
def bw(v:D):aj:=[[Ef]]
inductive Rel:CP->D->[P]|no:Rel {book:=ag} [aY]|yes{b:a7}{nm st:[dk]}:([mP])->Rel {book:=aa b} [b8]
def bh(G:R D)(s:CP)(v:D)(X:CP×[a4]):[P]:=(∃a x,X.2=0::a/\[bW]<=250000/\[LS]/\Rel X.1 x)\/(∃(e:Nat)(B:[al]),X=(s,[-[an,e]])/\[ly,e,8,G=.ex (4+e) B [d2]])
def bh.ok(h:[bW]<=250000)(q:[LS])(L:Rel S x):bh G s v (S,0::a):=e6 [f]
def bh.er(e:Nat)(m:1<=e)(u:e<=8)(q:G=.ex (4+e) B [d2]):bh G s v (no s (-e)):=kT #[e,B,Y,m,u,q]
def aeQ(n:Nat)(l:[h]):[lF,[aT,cH]]:=by apply eX;intro x;rw[D,m,[lF,x.taxes.map _],[oT,Cd n],u,[lF,[fO,mr [jJ]]],[oT,Cd n]];rw[aj,q,[lF,x.volume.map _],[oT,u8 n],z,[lF,x.steps.map _],[oT,u8 n],h,[lp,[vW]],Ms n _ ([bz,x.free])];simp[cH,D.low,i7,m,u,q,z,h,kM]
def U_(B:[mP])(n:Nat):[lp,[b8]]:=by rw[R,m,xy n _ B.nm.val,u,xy n _ B.sv];rw[ay,q,[lF,b.taxes.map _],[oT,G1 n],z,aeQ n [cH]];rw[aj,h,[lF,b.bundles.map _],eX dn n [K2] _,O,[lF,b.coupons.map _],[oT,G3 n],P,[lF,b.apart.map _],[oT,vQ n]];simp[ax,D.low,i7,m,u,q,z,h,O,P,kM]
def Rel.low(h:[dG]):eC [d2]:=by(have q:∀n,v.low n=ae:=λn=>by cases h with|no=>rfl|yes B=>exact U_ B n);intro c O;simp[bw,dL]at O;subst O;simp[aP.low,i7,q,yX]
def Pg(v:D):bH [m,0] [d2]=[be,.obj 14 [(27,v)],[d2]]:=rfl
def Mw(v:D):[aR,[d2],0,[Ef]]:=rfl
def akU(k:Nat):[cY,1,92,[[m,0]],bw [aY]]=.ex 6 [] (bw [aY]):=rfl
def Qr(v d:D):[d2].set 0 (.aW 14 [(27,d)])=bw d:=rfl
def js(k:Nat):[cY,1,92,[[m,0]],[gm]]=[be,[b8],[gm]]:=rfl
def UH(h:[dG])(t:[h])(k:Nat):[e3,122,[],[[fI]],.read t]:=by rw[cA,g,[zi],NG,[ng]];{have f:=MU h.low t q [ao];simp[q];cases m:II t with|error e=>rw[m]at f;simp[seval,f];rw[bl,5]|ok b=>rw[m]at f;rw[ag,nm,st,f,B,f];simp[seval,f,Mw,Qr,Pg,aR];rw[b4,[jw]]};{rw[bB,z,q,1]}
def af2(h:[dG])(t:[h])(k:Nat):[e3,123,[],[[fI]],.check t]:=by rw[cA,g,[zi],QQ,[ng]];{have f:=MU h.low t q [ao];simp[seval,q];cases m:II t with|error e=>rw[m]at f;simp[f];exact bh.ok (by simp[wrongTold,uy]) Y h|ok b=>rw[m]at f;rw[ag,nm,st,f,B,f];simp[f];rw[b4,h]};{rw[bB,z,q,1]}
def adS(h:[dG])(k:Nat):[e3,125,[],[],.names]:=by rw[[bQ]];cases h with|no=>rw[bv]|yes B=>rw[bi,Rl,js,aR];exact bh.ok (by simp[uy]) Y [jw]
def jU(h:b3 x lo q=ae):[we,x]:=by simp[b3,aF,dZ]at h;exact h
def jY(h:¬b3 x lo q=ae):b3 x lo q=af:=[f]
def oM(h:0<=n):n=[an,n.toNat]:=[dI,Int.toNat_of_nonneg h]
def wW(h:[ry]):[k7]∈[cH]:=by have h:=jU h;rw[aI,b_,h];exact [E8]
def agm(h:[dG])(i n:Int)(k:Nat):[e3,126,[qc,n],[],.cost i n]:=by rw[cA,f,[E3],MP,[q5,el]=ae];{simp[q];cases h with|no=>rw[bv]|@yes b nm st B=>have e:run _ (k+11) _ [tl] [gm]=_:=yc i _ _;rw[eR,js,CQ,nU,e];rw[b,j,[ry]];{simp[j];rw[dC];rw[R,u,Af W [fw] [nA] [g] [gm],h0,G7 W [fw] [ru] [g] [gm]];rw[<-oM [cV]]at u h0;simp[seval,u,h0];rw[b4,[jw]]};{rw[b5,j,3]}};{rw[b5,q,1]}
def AX(l:[h]):[nq]=[R,uy l,D.int]:=by rw[Y,uy,cq];rfl
def afo(h:[dG])(i n:Int)(k:Nat):[e3,127,[qc,n],[],.cheap i n]:=by rw[cA,f,[E3],Rc,[q5,el]=ae];{simp[q];cases h with|no=>rw[bv]|@yes b nm st B=>rw[fG];{simp[j];rw[dC];have u:=X8 W [fw] (k+7) [g] [gm];rw[aP,oM [cV],u];simp[seval,u];rw[b4,[jw]]};{rw[b5,j,3]}};{rw[b5,q,1]}
def Nq{U J:[aH]}(g:U×[aj]->J->U×[h])(q:∀a j,[Q,[bq,g a j]]=[Q,a.2]+1):∀(l:[h])(a:U×[h]),[Q,[bq,[g6,g,a]]]=[Q,a.2]+[E]|[],a=>rfl|[bp],a=>by rw[nE,Nq g q r,q,b7];omega
def abS(x:dY)(n:Nat):[Q,SM x n]=n:=by rw[dV,SM,Nq];{simp};grind
def abb(h:[dG])(i n:Int)(k:Nat):[e3,139,[qc,n],[],.pieces i n]:=by rw[cA,f,[E3],PP,[q5,el]=ae];{simp[q];cases h with|no=>rw[bv]|@yes b nm st B=>rw[fG];{simp[seval,j];rw[dC];have u:=Zp W [fw] [nA] [g] [gm];rw[<-oM [cV],AX]at u;simp[u];exact bh.ok (by rw[uy,aR,abS];omega) Y [jw]};{rw[b5,j,3]}};{rw[b5,q,1]}
def Vj(h:[dG])(k:Nat):[e3,138,[],[],.drop]:=by cases h with|no=>rw[bv]|@yes b nm st B=>rw[b4,.no]
def acN(h:[dG])(t:[h])(k:Nat):[e3,137,[],[[fI]],.add t]:=by rw[cA,g,[zi],M5,[ng]];{simp[q];cases h with|no=>rw[bv]|@yes b nm st B=>have f:=VA (Rel.yes B).low B t q [ao];simp[nU];cases m:ux b 1 _ with|error e=>rw[m]at f;simp[seval,js,f];rw[bl,5]|ok l=>rw[m]at f;rw[ag,d,I,f,a,f];simp[seval,js,f,Mw,Qr,Pg,aR];rw[b4,.yes a]};{rw[bB,z,q,1]}
def ahc(h:[dG])(t:[h])(k:Nat):[e3,141,[],[[fI]],.look t]:=by rw[cA,g,[zi],MV,[ng]];{simp[q];cases h with|no=>rw[bv]|@yes b nm st B=>have c:=aeI (Rel.yes B).low B t q [f2];simp[seval,js,c];rw[b4,[jw]]};{rw[bB,z,q,1]}
def Wc(J:[aP])(u:u' b):[aO,rY b,250]:=by rw[ay,G,[um,[h],[Ji],iw b,12*[E]],λl=>by induction l with|nil=>simp|cons x r q=>intro hh;rw[R,m,q [f],e,DB b x [f]];grind,h,G _ u.f'];have:=J.nt;have:=J.ni;have:=J.nb;have:=J.nc;have:=u.ap;rw[ak,U,∀s o,[aO,jd s o,1],[KT],rY];rw[hX,cO]
def Py(h:Rw r):[aO,jn r,840]:=by have U:=h.len;cases r with|nil=>simp[jn]|cons w r=>rw[ec]
def xo{U:[aH]}(f:U->[a4])(G:Nat):[um,[h],[aO,f x,G],f,G*[E]]|[],_=>by simp|[bp],h=>by rw[R,m,xo f G r [f],u,[gI,x]];rw[ir,cO,b7,Nat.mul_succ];omega
def af0(h:[dG])(k:Nat):[e3,124,[],[],.print]:=by rw[[bQ]];cases h with|no=>rw[bv]|@yes b nm st B=>rw[ah,O,Wc B.wf B.w2,c,[mb,[[sY]]],U6 B.wf B.w2 #[B.nm.ok] B.se [g] [nA] _];rw[bi,O9,js,c];refine bh.ok ?_ Y [jw];have:=xo S7 841 _ (λr q=>by have:=Py (OH B.wf #[B.nm.ok] r q);rw[ba,Fj]);rw[aa,bookText];omega
def xJ(h:[ss]):[Q,cy c]=[bR]/\[b',cy c,x<=40]:=by simp[jL,aF,ip,ck]at h;rw[a3,by simp[cy,[dK]],[gJ]];rw[K,y,e,rfl,b0.mp L];have:=jU (h.2 y e);simp[b_,el]at this;omega
def E0(h:nO b w=aa x):x.uses.length=[cu]/\(∀C∈x.uses,C<=3)/\(∀c∈x.coupons,[eP,c,[bK]])/\rise x.coupons:=by rw[ao,nO,h];rw[a2];{rw[ax,O];simp only[aF,ip,ck]at O;rw[aI,cX,h];subst h;refine#[[ac,cy,aR,O.1],λC hu=>?_,λC hu=>?_,D7 _ [eQ,O]];{rw[K,y,L,rfl,b0.mp hu];have:=jU (O.2.1 y L);simp[b_,qr]at this;omega};{rw[K,y,L,rfl,b0.mp hu];have:=jU ([aE,O].1 y L);rw[aI,b_,this];omega}};grind
def D0(B:[mP])(c w:[h])(W:[qn])(k:Nat)(S:aj):[Gw,7,121,[iY,[qo]]]:=by rw[[ck]];rw[bK,i,[p9,[oU]]=_,NH B.wf c w W k S,R8];rw[b,J,[ss]];{simp[J];rw[M,h,g2,xJ J];cases L:nO b w with|none=>rfl|some x=>rw[ag,m,u,z,j,E0 L];rw[aE,[uW]];{rw[bK,e,[p9,[xX]]=_,KW B.wf B.se (e6 Y) (e6 Y) h g2 u z [ao] S,q]};{have f:=[aD,q];simp[seval,f]}};{have O:=[aD,J];simp[seval,O]}
def KA(Z:bM)(S:aj)(B z q:Slot):∀(l:[h])(N:[al])(j a:Slot),[eu]+2*[E]<=100000->∃I F,cV [oJ,Z,[.ee 3 [ax,[[av],[a6]]]]] [gu] [aT,pD] [B,z,q,[kl],j,a] S=[dy,[B,z,q,[i0,l.flatMap [aF,[[cC,[L]],[cC,[Z]]]]],I,F]]|[],N,j,a,h=>#[j,a,by simp[cV,M.pure]]|[eZ],N,j,a,h=>by rw[K,I,F,m,KA Z S B z q r (N++[[cC,[L]],[cC,[Z]]]) [ay,[L]] [ay,[Z]] [f]];have U:[eu]+2<=lim:=[fu];rw[bT,iV];rw[cU,U]
def Ba(B:[mP])(J:[ss])(L:nO b w=aa x):fh b [qo]:=by rw[M,h,g2,xJ J];rw[dH,m,u,q,z,E0 L,vK _ (vO B.wf h g2 u)]
def YJ(h:[dG])(c w:[h])(W:[qn])(k:Nat):[e3,128,[],[rM],.bill c w]:=by rw[[bQ]];cases h with|no=>rw[bv]|@yes b nm st B=>rw[dk,e,[oj,[gm]],[Ev],Qk];{simp[J];cases L:nO b w with|none=>rw[bl,1]|some x=>rw[R,q,Ba B J L,U,q.len];rw[b,m,[uW]];{rw[K,I,F,z,KA [gd,11] [gm] [c8,0] [bm,[bI]] [bm,[ax,[rM]]] [qo] [] [W] [W] [f]];simp[seval,m,z];refine [yL];{rw[aN,xo (λl=>[b_ l.1,b_ l.2]) 2 [qo] (by simp)]};{rw[a_,S4]}};{rw[bB,f,m,4]}};{rw[bB,O,J,1]}
def YY(h:[dG])(c w:[h])(W:[qn])(k:Nat):[e3,129,[],[rM],.taxes c w]:=by rw[[bQ]];cases h with|no=>rw[bv]|@yes b nm st B=>rw[dk,e,[oj,[gm]],[Ev],Lq];{simp[J];cases L:nO b w with|none=>rw[bl,1]|some x=>have q:=Ba B J L;rw[b,O,[uW]];{simp[O];rw[D,j,[E2],Ef B.wf B.se q (k+7) _,m,[mb,[dd,[b9],[b9]]],El B.wf q (k+9) _];rw[aj,y,[oj,[gm]],Bp [qo] [ru] _,u,[mb,[[sY],[b3]]],B0 B.wf B.se _ (LS B.wf q) [nA] _,g,[Q,qp b [qo]]=[cD],by simp[qp]];rw[ah,I,B.wf.nt,i,[Q,qp b [qo]]+3<=lim,[fu]];simp[seval,j,m,y,u,aR,i];refine [yL];{simp[uy,cO,aR,b7,gL];omega};{rw[de,<-AX];rfl}};{rw[bB,f,O,4]}};{rw[bB,z,J,1]}
def adr(h:[dG])(c w:[h])(W:[qn])(k:Nat):[e3,130,[],[rM],.price c w]:=by rw[[bQ]];cases h with|no=>rw[bv]|@yes b nm st B=>rw[dk,e,[oj,[gm]],[Ev],Ph];{simp[J];cases L:nO b w with|none=>rw[bl,1]|some x=>have q:=Ba B J L;rw[b,m,[uW]];{rw[bK,i,[E2],Pb B.wf B.se q (k+6) _,m];rw[b4,[jw]]};{rw[bB,f,m,4]}};{rw[bB,z,J,1]}
def WU(h:[dG])(c w:[h])(W:[qn])(k:Nat):[e3,140,[],[rM],.show_ c w]:=by rw[[bQ]];cases h with|no=>rw[bv]|@yes b nm st B=>rw[dk,i,[mb,[oU]],NH B.wf c w W [g0] _,Ra];{simp[J];rw[M,C,g2,xJ J];cases L:nO b w with|none=>rw[bl,1]|some x=>rw[ag,m,u,U,p,E0 L];rw[ay,z,jA b,#[B.nm.ok],dw,c9 [nC,p.imp [f],U] B.wf.nc];rw[b,l,[uW]];{rw[D,d,[mb,[xX]],O' B.wf z B.se C g2 m u U p [g0] _,E,[ez,[J6],Gd t/\[na]<=840],by intro t G;rw[bk,q,Ba B J L,Ed,G];rw[K,r,O,rfl,b0.mp G];rw[br,g,Rw r,[d_,cs.mp O,O,O,FZ z C g2 u U r O,DY B.wf z q r O],#[[L_],Py g]]];rw[D,a,[aO,ur b _ x,63],[bq,Ng B.wf z C g2 u U dw],j,[oj,[gm]],QY _ (λt G=>#[[M,E t G],[f]]) [g] [ru] _];rw[bi,l,d,j];refine bh.ok ?_ Y [jw];have:=xo [t8] 841 [J6] [f];rw[ak,e,billText b _ x=(ur b (cy c) _).flatMap _,rfl,e];omega};{rw[bB,f,l,4]}};{rw[bB,H,J,1]}
def Xl(h:[dG])(c:[h])(k:Nat):[e3,132,[],[[za]],.all c]:=by rw[[bQ]];cases h with|no=>rw[bv]|@yes b nm st B=>rw[fH,MK];{rw[M,m,g2,xJ J];rw[bK,d,[mb,[oU]],Vw B.wf m g2 (k+6) _,J];rw[b4,[jw]]};{rw[bB,z,J,1]}
def XR(b:a7)(c:[h]):[l8,fH [cu] 0,[]]∈[uj]:=by rw[nN];rw[a8];{rw[au,up,kc,b0,ja];(have L:∀n,fH n 0∈g_ n qr:=λn=>by induction n with|zero=>simp[g_]|succ n q=>rw[au,g_,kc,ja,b0];exact#[0,[g],_,q,Y]);rw[bG,gM [bK] 0=[],by simp[gM]]};{(have h:∀(l:List io)(n i:Nat),aH [cp,l.zip (fH n 0),x,[Jf,i]]=0:=λl=>by induction l with|nil=>intro n i;rfl|cons x r q=>intro n i;cases n with|zero=>rfl|succ n=>have:=q n i;simp[List.replicate_succ,rS];rw[eT,a,∀l,aH (0::l)=aH l,λl=>by simp[aH]]);rw[aB,gK,mB,h,fU,o4];simp}
def On:[h4,l,G,[fP],l≠[]\/G≠ag,∃x,[g6,rX,G]=aa x/\(x∈l\/G=aa x)]|[],G,h=>by rw[aJ,h,h,h];rw[ar];{cases G with|none=>grind|some x=>grind}|y::r,G,_=>by(have q:∃z,rX G y=aa z/\(z=y\/G=aa z):=by cases G with|none=>exact#[y,Y,e6 Y]|some x=>rw[hX,rX]);rw[aM,z,L,J,q,x,m,u,On r (rX G y) [f]];grind
def afS(b:a7)(c:[h]):∃x,CG b c=aa x/\[y0]=[cu]/\[bG].coupons.length<=[bK]:=by rw[ak,e,CG b c=[cp,[uj],w,(Iz b c w,w)].foldl rX ag,by rw[CG,SV],e];rw[aK,x,m,u,On [cp,[uj],w,(Iz b c w,w)] _ (e6 (by intro h;have:=aiG.mp h;rw[jN,W,XR b c])),#[x,m,?_]];rw[aJ,u,u,u];{rw[K,w,W,rfl,b0.mp u];have W:=[M,nN.mp W];simp[up,kc,b0]at W;rw[ab,C,hu,q,z,rfl,W];refine#[[M,tT 3 _ C hu],?_];rw[b2,gM]};grind
def ag2(h:[dG])(c:[h])(k:Nat):[e3,131,[],[[za]],.best c]:=by rw[[bQ]];cases h with|no=>rw[bv]|@yes b nm st B=>rw[fH,Ob];{rw[bj,m,g2,xJ J,d,[E2],aaQ B.wf B.se m g2 [g0] _];rw[ag,x,L,l,C,afS b (cy c)];have:=B.wf.nb;have:=B.wf.nc;rw[aj,q,2+[y0]<=lim,[fu],e,[y0]+1+1+1<=lim,[fu],Z,[y0]+1+1+1+[bG].coupons.length<=lim,[fu]];simp[seval,J,d,L,tU,aR,cO,q,e,Z];refine [yL];{simp[wayRow,row,uy,b7,cO,aR];omega};{simp only[wayRow,row,bT,de,<-AX,em];rfl}};{rw[bB,z,J,1]}
def aeK(h:[w7]=ae):[aO,[ij],20]/\aH [ij]<1000000000000:=by simp[aF,dZ,ck]at h;rw[aj,U,[aO,[ij],20],by simp[cy,[dK]],J,[b',[ij],x<=10000000],λx L=>by rw[K,y,q,rfl,b0.mp L];have:=jU (h.2 y q);simp[b_,dy]at this;omega,key,∀G,([b',G,x<=10000000])->aH G<=[gq]*10000000,λG=>by induction G with|nil=>simp[aH]|cons a r m=>intro hh;rw[ah,u,hh a (by simp),e,aH (a::r)=a+aH r,by rfl];grind];grind
def Yz(h:[dG])(n:Int)(l:[h])(k:Nat):[e3,133,[[dn]],[[dN,D.int]],.shares n l]:=by rw[[bQ]];rw[R,f,EC n (k+9) [d2],c,VH l [nA] [d2]];rw[au,seval,Ku,f,dD];rw[aE,[q5,dy]=ae];{rw[ac,seval,q,c];rw[b,U,[w7]=ae];{simp[U];rw[b,a,aH [ij]=0];{simp[a];rw[bl,8]};{rw[M,H,w2,aeK U];have q:=jU q;simp[b_,dy]at q;have d:=Bg [fw] _ [g] [g] w2 [ru] [d2];rw[<-oM [cV],AX (iq _ _)]at d;simp[seval,a,d];refine bh.ok ?_ Y h;(have B:[Q,iq [fw] [ij]]=[Q,[ij]]:=by simp[iq,aw a,aR,gY]);simp[uy,aR];omega}};{have W:[w7]=af:=[f];simp[W];rw[bl,1]}};{rw[b5,q,1]}
def ack(h:[dG])(r C n d:Int)(k:Nat):[e3,134,[[l,r],[l,C],[dn],[l,d]],[],.round_ r C n d]:=by rw[[bQ]];have e:=λn lo j=>ra n lo j [ru] [d2];rw[bi,Qp,e,dD];rw[b,m,b3 r 0 9=ae];{simp[seval,e,m];rw[b,u,b3 C 1 10000=ae];{simp[u];rw[aE,b3 n 0 1000000000000=ae];{simp[seval,e,q];rw[b,z,b3 d 1 1000000=ae];{simp[seval,z];rw[R,m,jU m,u,jU u];rw[R,q,jU q,z,jU z];have f:run _ _ _ [ei,.tup _,[fw],d.toNat] [d2]=_:=xk (aa {rule:=r.toNat,unit:=C.toNat}) #[by simp[k8,nJ];omega,by rw[Y,k8,nJ];omega,by simp[k8,nJ];omega] _ _ [g] [g] [g] (k+9) _;rw[<-oM m.1,<-oM [f],<-oM [cV],<-oM [f]]at f;simp[f];rw[b4,h]};{rw[b5,z,1]}};{simp[seval,e,jY q];rw[bl,1]}};{rw[b5,u,1]}};{rw[b5,m,1]}
def aby(J:[aP])(q:[gW])(W:[EW])(z:[mC])(g:Nat)(O:[Ad]):netsOf b ts g=[A,[mq,g]<[mq,g+1],aa ([mq,g],[mq,g+1]-[mq,g]),ag]:=by rw[aj,U,e_=20000000,rfl,m,sU b _ g e_ (e9 b _ g 30 0 e_),[B3,J,q,W,z],u,sU b _ _ e_ (e9 b _ (g+1) _ 0 e_),[BR,J,q,W,z]];simp[netsOf];rw[bf,e9 b _ g _ 0 _,lo];rw[bf,e9 b ts _ _ 0 _,e];rw[b,h,lo<e];{rw[R,L,m.2.2 ([aN,u.1]),a,u.2.1 _ h];grind};grind
def Xc(J:[aP])(q:[gW])(W:[EW])(z:[mC])(g:Nat)(O:[Ad]):[mq,g]<=[mq,g+1]:=by rw[aj,C,e_=20000000,rfl,m,sU b _ g e_ (e9 b _ g _ 0 e_),[BR,J,q,W,z],u,sU b _ _ e_ (e9 b _ (g+1) 30 0 e_),[B3,J,q,W,z]];rw[bf,e9 b _ (g+1) _ 0 _,e];apply CJ;intro U;rw[R,h,m.2.1 e [g],a,u.2.2 ([aN,m.1])];omega
def agy(h:[dG])(i g:Int)(k:Nat):[e3,135,[qc,g],[],.nets i g]:=by rw[[bQ]];have f:=EC g (k+9) [d2];rw[au,seval,Qy,f,dD];rw[b,e,b3 g 0 (b_ dy)=ae];{rw[aa,e];cases h with|no=>rw[bv]|@yes b nm st B=>have c:[Ai,94,[tl]]:=ads B.wf i (k+9) _;rw[aB,seval,js,CQ,nU,c];rw[b,j,[ry]];{rw[aa,j];rw[b,hh,[k7].taxes.any (λt=>[my])=ae];{rw[aa,hh];rw[bl,6]};{rw[R,L,wW j,e,jU e];rw[aO,b_,dy,e];have q:=Ts.of b [k7].taxes;rw[aj,z,cY _ _=[Dz],vg,W,[ez,cY [cD] _,[jO]=af],λt a=>by have u:=[bq,vD.mp a];apply CJ;intro O;exact hh (CF.mpr #[t,u,[gr,cR,O]]),d,[Ai,112,[dd,cH _,[l,g.toNat]]],agv B.wf B.se L W _ [g] [g0] _];have J:=Xc B.wf q W z g.toNat [g];rw[aby B.wf q W z _ [g]];rw[bf,e9 b _ _ 30 0 e_,lo];rw[bf,e9 b _ _ 30 0 e_,C];rw[aP,oM e.1,d];rw[ac,seval,hh,d];rw[b,U,lo<C];{have m:[bH,C-[an,lo],0]:=[f];rw[ac,seval,m,U];refine bh.ok (by simp) ?_ [jw];rw[hX,b_]};{have m:[a3,([an,C]-lo)==0]:=[f];rw[ac,seval,m,U];rw[bl,7]}}};{rw[aa,jY j];rw[bl,3]}};{rw[aa,jY e];rw[bl,1]}
def MT:∀(L:[h]),([e9,L.map (·.1)])->L=[cp,L.map (·.1),t,(t,gl L t)]|[],_=>rfl|[eZ],h=>by rw[aO,bT,mx,h];rw[a1,e,MT r [cW],m,gl [eZ] [L]=[Z],by have O:r.filter (λg=>[g9]==[L])=[]:=[ba,Cy];simp[gl,ud,uz,O];rfl,z,[ez,r.map (·.1),gl [eZ] t=gl r t],λt q=>by have:[bH,[L],t]:=[f];rw[gv,gl,ud,this]];rw[bT,bT,m];rw[bu];(conv=>lhs;rw[e]);rw[a6,iL,t,q];rw[z t q]
def abW(h:[gW])(x:[mC])(m:ts.Nodup)(a:Nat):[n9].flatMap (λy=>[b_ [b7],b_ y.2])=ts.flatMap λt=>[b_ t,b_ [q3]]:=by rw[ay,q,[lS,[n9]]=ts,by rw[rn h x,oB,nK],e,MT [n9] [f]];rw[q]at e;conv=>lhs;rw[e,S0]
def R5(Z:bM)(S:aj)(z u j B q I:Slot)(a:D)(F:[h])(g:Nat->Nat):∀(l:[aj])(N:[al])(f:Slot),([ez,l,bK F [l1]=aa (nD (g t))])->[eu]+2*[E]<=100000->∃m,cV [oJ,Z,[HZ]] [8] [nq] [z,u,j,B,q,I,[bm,[bk,a,[cf,F]]],[kl],f] S=[dy,[z,u,j,B,q,I,[bm,[bk,a,[cf,F]]],[i0,l.flatMap λ(t:Nat)=>[[cC,t],[cC,g t]]],m]]|[],N,f,_,h=>#[f,by simp[cV,M.pure]]|t::r,N,f,G,h=>by rw[aI,b7,h];rw[bA,m,W,R5 Z S z u j B q I a F g r (N++[[cC,t],[cC,g t]]) [ay,t] (λx L=>G x [o3]) [f],#[m,?_]];have U:[eu]+2<=lim:=[fu];rw[ah,O,G t (by simp),J,[nX,eu [cf,F] [l1] T],λT=>by show bC _ T=_;rw[a_,O]];rw[bT,iV];rw[au,seval,nD,J,U];grind
def VR(h:[dG])(i a:Int)(k:Nat):[e3,136,[qc,a],[],.parts i a]:=by rw[[bQ]];have f:=EC a (k+9) [d2];rw[au,seval,OC,f,dD];rw[b,u,b3 a 0 (b_ dy)=ae];{rw[aa,u];cases h with|no=>rw[bv]|@yes b nm st B=>have e:[Ai,93,[tl]]:=yc i [ru] _;rw[aB,seval,js,CQ,nU,e];rw[b,j,[ry]];{rw[R,L,wW j,u,jU u];rw[aO,b_,dy,u];obtain⟨_,O,d⟩:=B.wf.item _ L;rw[R,g,Ae O d,q,Ts.of b [k7].taxes];rw[D,z,cY _ _=[Dz],vg,P,[Ai,75,[dd,cH _,[b3]]],K4 B.wf B.se L a.toNat [g] (k+7) _];rw[K,F,U,C,EN B.wf B.se (nm:=nm) q a.toNat [g] [nA] [gm]];rw[R,H,q.len B.wf,bU,q.nd];rw[<-oM u.1]at U P;rw[aH,f6,[nX,fl (cH [k7]) 6 T],[oN],g,f6];rw[aa,abW q z bU];rw[bf,cY _ _,ts];rw[M,m,W,R5 [gd,11] [gm] [c8,0] [bm,[ax,[qc,a]]] [bm,[bI]] [ay,a] [cr] [bm,cH [k7]] [l,g7 b ts a.toNat] F _ ts [nJ,g7 b ts a.toNat,iv b ts a.toNat] [W] (λt G=>[aV,C t,Gy q z _ _ G]) [f]];rw[b0,j,f6,U,P,W];refine [yL];{rw[ch,xo (λt=>[b_ t,b_ (gl (gJ b ts a.toNat) t)]) 2 ts (by simp)]};{rw[Y,bT,S4];rfl}};{rw[aa,jY j];rw[bl,3]}};{rw[aa,jY u];rw[bl,1]}
def UN(h:[dG])(p:Int)(q:[a4])(rows:[h])(J:CS [sj]=ae)(k:Nat):bh [cY,12,122+p.toNat,[[m,0],[X,q.map D.int],[X,rows.map [ul]]],[d2]] s v (o9 s [sj]):=by
 have j:∀l,aiT l=ae->[E]<=2000:=λl U=>by rw[ao,aiT,U];grind
 rw[al,CS,J];split at J<;>rename_i u<;>try rfl
 {rw[bt,UH h _ k]};{rw[bt,af2 h _ k]};{rw[bt,af0 h k]};{rw[bt,adS h k]};{rw[bt,agm h _ _ k]};{rw[bt,afo h _ _ k]};{rw[dr,YJ h _ _ [Aa] k]};{rw[dr,YY h _ _ [Aa] k]};{rw[dr,adr h _ _ [Aa] k]};{rw[bt,ag2 h _ k]};{rw[bt,Xl h _ k]};{rw[bt,Yz h _ _ k]};{rw[bt,ack h _ _ _ _ k]};{rw[bt,agy h _ _ k]};{rw[bt,VR h _ _ k]};{rw[bt,acN h _ k]};{rw[bt,Vj h k]};{rw[bt,abb h _ _ k]};{rw[dr,WU h _ _ [Aa] k]};{rw[bt,ahc h _ k]};grind
def zL(h:fa p=aa (n,k)):p=p.toNat/\p.toNat<20/\bK JW [l,p]=aa (.b4 [ei,.fn (122+p.toNat),n,k])/\(∀G,(cf G).ar (122+p.toNat)=3)/\n<=4/\k<=2:=by rw[b,h0,p=0];rw[cH,h0,[iI,0,1],m,p=1,[iI,1,1],u,p=2,[iI,2,0]];rw[b,U,p=3];rw[cH,U,[iI,3,0],a,p=4,[vR,4],C,p=5,[vR,5]];rw[b,f,p=6];rw[cH,f,[iI,6,2],P,p=7,[iI,7,2],B,p=8,[iI,8,2]];rw[b,g,p=9];rw[cH,g,[iI,9,1],Z,p=10,[iI,10,1],O,p=11,fa 11=aa (1,1)];rw[b,j,p=12];rw[cH,j,fa 12=aa (4,0),z,p=13,[vR,13],J,p=14,[vR,14]];rw[b,L,p=15];rw[cH,L,[iI,15,1],N,p=16,[iI,16,0],T,p=17,[vR,17]];rw[b,W,p=18];{rw[dN,W,[iI,18,2]];rw[aG,rfl,rfl,h,[BZ]]};rw[aE,p=19];{rw[dN,q,[iI,19,1]];rw[aG,rfl,rfl,h,[BZ]]};exfalso;rw[fn,fa]
def akZ(l:[h])(i:Int)(S:aj):[zK,[jH],[aQ]]:=(rfl)
def afq(h:fa p=aa (n,k))(G:Nat)(S:aj):run prog (G+1) 142 [[l,p]] S=[bS,n]:=by rw[aU G _ Y Y Y];simp[seval,MC,[cQ,zL h]]
def adj(h:fa p=aa (n,k))(G:Nat)(S:aj):run prog (G+1) 143 [[l,p]] S=[bS,k]:=by rw[aU G _ Y Y Y];simp[seval,Kp,[cQ,zL h]]
def QT:[fV]:=[F3]
def WO:NS=[Gy,QT]:=rfl
def Yq(Z:bM)(e:Env)(S:aj)(c:Nat)(m:1<=c)(u:c<=8)(B:[al]):pO Z QT (4+c) B e S=[iz,[ax,[[l,-c]]]]:=by have:c=1\/c=2\/c=3\/c=4\/c=5\/c=6\/c=7\/c=8:=[g];rcases this with rfl|rfl|rfl|rfl|rfl|rfl|rfl|rfl<;>rfl
def ag0(h:[dG])(i:fa p=aa (n,j))(l:CS [sj]=ae)(k:Nat):∃x,[cY,13,144,[[m,0],[l,p],[X,q.map D.int],[X,rows.map [ul]]],[d2]]=[be,[dv,[rA,[sj]],D.int],bw x]/\Rel [M,o9 s [sj]] x/\[aO,[rA,[sj]],250001]:=by rw[[bQ]];have O:=UN h p _ _ l k;obtain⟨m,F,C,I,_,_⟩:=zL i;rw[au,seval,WO,C,I];rcases O with⟨a,x,J,d,L,u⟩|⟨e,B,J,d,L,u⟩;{rw[ad,U,1+[bW]<=lim,[fu],#[x,?_,u,[f]]];rw[eR,L,aR,U,J]};{refine#[v,?_,[f],[f]];simp[seval,u,J];rw[a_,Yq _ _ _ _ d L]}
def Kf(l:[al])(a c:Nat)(m:a<=c)(u:c<=[E])(S:aj):gE (.dU l) (aa a) (aa c) S=[ab,[X,[ed,a].take (c-a)]]:=by have e:∀n,n<=[E]->clip [E] n=n:=λn q=>[b2,clip];show R.ok [ih,cut l (clip _ a) (clip _ c)] S=_;rw[e a [g],e c u,cut]
def Gf:[fV]:=[Go]
def Z2:LY=[LX,Gf]:=rfl
def DI{l:[a4]}(h:[ed,q]=n::r):[aR,l,q,n]/\[ed,q+1]=r/\q+1+[gn]=[E]:=by have U:=jN mw h;simp[rW,b7]at U;rw[aH,z,q<[E],[g],mG z,h];grind
def RM{l:[h]}{q:Nat}(h:[aR,l,q,n]):at_ [oF] q=aa [dn]:=by rw[pK,dQ,h];rfl
def PF(k:Nat)(l:[a4])(G:D)(S:aj):∀(j:Nat)(q:Nat)(N:[al])(is:[aj])(m x:Slot)(a:List [a4])(t:[a4]),CT j [ed,q]=aa (a,t)->is.length=j->[eu]+j<=100->q<=[E]->∃z I F,cV [fg,1,Gf] [4] (is.map [sV,i,i]) [[tD],[ay,q],[cb,G],[kl],m,x] S=[dy,[[tD],[ay,[bd,z]],[cb,G],[i0,[f5,[ul]]],I,F]]/\[ed,z]=t/\z<=[E]/\z=q+[f5,λr=>1+[gn]].sum|0,q,N,is,m,x,a,t,h,O,d,W=>by rw[M,rfl,rfl,h];have:=uh.mp O;rw[bh,this,#[q,m,x,by simp[cV,M.pure],Y,W,by simp]]|[cU],q,N,is,m,x,a,t,h,O,d,W=>by cases is with|nil=>simp at O|cons i is=>rw[ao,CT,h];cases hd:[ed,q]with|nil=>rw[fp,hd,h,Tg]|cons n r=>rw[hd]at h;rw[K,P,g2,Q,DI hd];rw[b,u,0<=n/\[fw]<=[gn]];{rw[aO,Tg,aJ u,h];cases J:CT j (r.drop [fw])with|none=>grind|some y=>rw[M,s,C,y];rw[J]at h;rw[aO,cX,gQ,h];rw[M,rfl,rfl,h];rw[ay,U,[ed,q+1+[fw]]=r.drop [fw],by rw[<-y6,g2],H,RM P];rw[D,hN,q+1+n=[bd,q+1+[fw]],[g],L,[an,q]+1=[bd,q+1],[g]];rw[D,B,[JV,[fw]],[Jb,[fw]],g,[eu]<lim,[ek]];obtain⟨z,I,F,f,p,Z,A⟩:=PF k l G S j (q+1+[fw]) (N++[[b9]]) is [ay,i] _ s C [q,U,J] ([aD,O]) ([bE]) [g];refine#[z,I,F,?_,p,Z,?_];{rw[bT,iV];rw[au,seval,Gf,H,hN];rw[ac,L,B,g];rw[V,show N++(D.lst _::s.map _)=(N++[[ih,[R,r.take [fw],D.int]]])++s.map λr=>[ih,r.map D.int]by simp,f]};grind};{rw[aO,Tg,aw u,h];grind}
def ZX{l:[h]}(h:CT j [ed,q]=aa (G,t))(L:j<=50)(z:q<=[E])(k:Nat)(S:aj):[cO,2,145,[ei,[rS],q,j],[X,[f4,[ul]]]]/\[ed,q+[xT]]=t/\q+[xT]<=[E]:=by obtain⟨O,I,F,m,u,e,U⟩:=PF k l [c2] S j q [] (br j) [W] [W] _ t h (by simp) [f] z;refine#[?_,[f],[f]];rw[[bQ]];rw[bi,Z2,vp j _ [g],m]
def Vz(c:[h]):Th c=c:=by unfold Th;rw[bs]
def yi:[fV]:=[FG]
def W4:Cg=[GO,yi]:=rfl
def adl(G:List [a4]):[f4,λr=>1+[an,r.length]].sum=[bd,[xT]]:=by induction G with|nil=>rfl|cons x r q=>grind
def ae_{l:[a4]}(hd:[ed,q]=[eZ])(O:Ti fa [eZ]=aa (c,t))(b:CS c=ae)(h:[dG])(N:[al])(vX:[eu]<=16000000)(k:Nat)(o Q Z s7 s8 H:Slot):∃W J I F d u m i,bj [gd,13] yi [[tD],[c8,0],[kl],[ay,q],o,Q,Z,s7,s8,H] [d2]=[dA,[[tD],[c8,0],[i0,[l,[Q,[rA,c]]]::[R,[rA,c],D.int]],[ay,[bd,W]],I,F,d,u,m,i],bw J]/\Rel [M,o9 s c] J/\[aO,[rA,c],250001]/\[ed,W]=t/\W<=[E]:=by rw[ao,Ti,O];cases x:fa p with|none=>grind|some y=>rw[M,n,j,y];rw[x]at O;rw[bo,A,[gn]<n];{rw[ao,aw A,O];cases P:CT j (r.drop n)with|none=>grind|some z=>rw[M,G,C,z];rw[P]at O;rw[aO,cX,gQ,O];rw[M,rfl,rfl,O];rw[K,g1,g2,g3,DI hd];rw[am,t1,t2,t3,I,tn,a,zL x];rw[ay,U,[ed,q+1+n]=r.drop n,by rw[<-y6,g2],E,RM g1];rw[K,e1,e2,e3,ZX [q,U,P] [g] [g] (k+11) [d2]];rw[R,e,afq x (k+12) [d2],f,adj x (k+12) [d2]];rw[ag,J,g,hR,fS,ag0 h x b k];rw[aj,hN,q+1+n=[cP,q+1+n],[g],L,[an,q]+1=[bd,q+1],[g],B,[JV,n],[Jb,n]];rw[a1,w,e1,l1,[eu]<lim,[ek],S,[eu]+1+[Q,[rA,(p::r.take n)::G]]<=lim,[ek]];rw[bm,q+1+n+[xT],J];rw[bf,o9 s _,X];refine#[[ay,p],[ay,q+1+n],[lv,r.take n,D.int],[fH,[f4,[ul]]],[lv,X.2,D.int],H,?_,hR,fS,e2,e3];{rw[aa,yi];rw[au,seval,E,e,hN];simp only[seval,L,B,f,w,g,aR,l1,cO,S];rw[dF _ (λr=>[cC,1+[gn]]) G (λr _=>[Y,seval,aR])];rw[eq];rw[aV,adl,em]}}
def ab5(l:[h])(k:Nat):∀(f:Nat)(q:Nat)(a:[h])(fuel:Nat)(s:CP)(v:D)(N:[al])(P Q Z W S T:Slot),we fa f [ed,q]=aa a->(∀c∈a,CS c=ae)->([dG])->[eu]+[bW]*250002<=16000000->[bW]<fuel->q<=[E]->[FI]:=by(have done:∀(q:Nat)(a:[h])(fuel:Nat)(s:CP)(v:D)(N:[al])(P Q Z W S T:Slot),[ed,q]=[]->q<=[E]->a=[]->0<fuel->[FI]:=by intro q a fuel s v N P Q Z W S T hd E X hf;subst X;rw[cc,n,fuel=[aw],[pw]];have U:=jN mw hd;rw[aO,rW,gL,U];rw[ad,eE,¬([an,q]<[E]),[g],#[[ay,q],v,P,Q,Z,W,S,T,?_]];rw[oY _ af ([au,seval,aR,eE,ka])];simp[IJ,IK]);intro f;induction f with|zero=>(intro q a fuel s v N P Q Z W S T O ha hr U hf E;cases hd:[ed,q]with|nil=>rw[hd]at O;rw[aO,we,cX,O];exact done q a _ s v _ P Q Z W S _ hd E O.symm [g]|cons p r=>rw[fp,hd,O,we])|succ f ih=>intro q a fuel s v N P Q Z W S T O ha hr U hf E;cases hd:[ed,q]with|nil=>rw[hd]at O;rw[aO,we,cX,O];exact done q a fuel s v _ _ _ _ W S _ hd E O.symm [g]|cons p r=>rw[hd]at O;rw[ao,we,O];cases h:Ti _ _ with|none=>rw[eK,h,O]|some y=>rw[M,c,t,y];rw[bw,h,O];cases X:we _ f t with|none=>rw[eK,X,O]|some ds=>rw[cD,X,O,cX];rw[cc,n,fuel=[aw],[pw]];simp only[b7]at U hf;rw[K,g1,g2,g3,DI hd];have eE:(q<[an,l.length]):=[g];obtain⟨q',b,I,F,d,u,m,i,hs,hR,A,J,z⟩:=ae_ hd h (ha c (by simp)) hr N [g] k P Q Z W S T;obtain⟨w,j,B,C,o,G,g,H,hL⟩:=ih q' ds fuel _ _ (N++[b3]::[fO,[rA,c]]) _ _ _ _ m i [q,J,X] (λx L=>ha x [o3]) hR (by rw[ac,cO,b7,aR];omega) [g] z;refine#[w,j,B,C,o,G,g,H,?_];rw[oY _ ae ([au,seval,aR,eE,iK]),aJ Y];rw[Y,hs,fC];rw[hL];rw[aX,IK,IJ,ir,de,bT,Tj,em]
def abK(k:Nat):newD [kn] 14 [] []=[be,[m,0],bw [aY]]:=rfl
def aoc(l:[h])(h:IL l=ae)(k:Nat):∃S,[cY,14,146,[[rS]],[]]=[ab,[dv,Tk l,D.int]]:=by rw[[bQ]];rw[al,IL,h];unfold Tk;unfold PyVbmoad.calls at h|-;cases O:we _ _ l with|none=>grind|some a=>rw[O]at h;(have W:[f5,Th]=a:=by(conv=>rhs;rw[<-v6 a]);apply iL;intro c _;exact Vz c);simp[W,aF]at h|-;rw[R,U,[gr,PyFlat.atMost,[dK]],g,by have:=[cW];simp[aqn,aF,ck]at this;exact [nc]];have s:=abK (k+12);obtain⟨e,x,I,F,d,u,m,i,z⟩:=ab5 l k [E] 0 _ 20000 _ _ [] _ _ _ _ _ _ [f] g .no [f] [g] [g];rw[ad,q,[gd,13].fuel=20000,rfl,#[bw x,?_]];simp[seval,W4,s];rw[aI,IB,z];rw[a_,z]
end Ir
namespace L2
open PySem PySem.Spec PyProof.Rows
def qa:dG->aq->Bool|[H,k],v=>Tl k v|[aC,x],v=>Tn x v
def pA:∀{k}{v},qa k v=ae->(∃i t,k=CU i/\v=o_ i t)\/(∃x t,k=CV x/\v=CW x t)|[H,i],v,h=>[iT,t,e,Value.isInt_shape h]|[aC,x],v,h=>[iT,t,e,Value.isStrOf_shape h]
def aeZ(i:Int)(t:iz):qa [H,i] [sp]=ae:=by simp[qa,Tl]
def V1(x:au)(t:iz):qa [aC,x] (.str x t)=ae:=by simp[qa,Tn]
def Xg(a b:Int):ao ((CU a:dG)=CU b)=(a==b):=[f]
def aao(a b:au):ao ((CV a:dG)=CV b)=ao (a=b):=by simp
def afF(a:Int)(b:au):ao (CU a=CV b)=af:=nV (by simp)
def Vo(a:au)(b:Int):ao (CV a=CU b)=af:=nV (by simp)
def gB (prog : cP) (w : cz) : PySem.KeyKind prog w dG where
  is := qa
  hash := BC w
  inj := fun v a b L J => by
    rcases pA L with ⟨i, t, rfl, rfl⟩ | ⟨x, t, rfl, rfl⟩
    · rcases pA J with ⟨j, u, rfl, e⟩ | ⟨y, u, rfl, e⟩
      · injection e with z _; rw [z]
      · exact nomatch e
    · rcases pA J with ⟨j, u, rfl, e⟩ | ⟨y, u, rfl, e⟩
      · exact nomatch e
      · injection e with z _; rw [z]
  byValue := fun k v h => by
    rcases pA h with ⟨i, t, rfl, rfl⟩ | ⟨x, t, rfl, rfl⟩ <;> rfl
  pyHash := fun q h => by
    rcases pA q with ⟨i, t, rfl, rfl⟩ | ⟨x, t, rfl, rfl⟩
    · exact wpAny_pyHash_int h
    · exact wpAny_pyHash_str h
  eqBool := fun hu q h => by
    rcases pA hu with ⟨i, t, rfl, rfl⟩ | ⟨x, t, rfl, rfl⟩
    · rcases pA q with ⟨j, u, rfl, rfl⟩ | ⟨y, u, rfl, rfl⟩
      · rw [Xg] at h; exact wpAny_eqBool_int h
      · rw [afF] at h; exact aiU i t y u _ _ _ _ h
    · rcases pA q with ⟨j, u, rfl, rfl⟩ | ⟨y, u, rfl, rfl⟩
      · rw [Vo] at h; exact aiV x t j u _ _ _ _ h
      · rw [aao] at h; exact wpAny_eqBool_str h
  «strs» := fun k x t v h => by
    rcases pA h with ⟨i, u, rfl, e⟩ | ⟨y, u, rfl, e⟩
    · exact nomatch e
    · injection e with z _
      subst z
      cases v <;> rfl
def Z_(prog:cP)(w:cz)(i:Int)(t:iz):(gB prog w).is [H,i] [sp]=ae:=aeZ i t
def acp(prog:cP)(w:cz)(x:au)(t:iz):(gB prog w).is [aC,x] (.str x t)=ae:=V1 x t
inductive V where|a0|bl(b:Bool)|int(i:Int)|str(x:au)|lu(b:Array UInt8)|yo(b:UInt64)|ref(a:ai)|ty(n:String)deriving DecidableEq
def bB:V->aq->[P]|[aY],u=>u=qB|[jR],u=>u=r9 b|[aQ],u=>∃t,u=o_ i t|[K,x],u=>∃t,u=CW x t|.lu b,u=>∃t,u=To b t|.yo b,u=>∃t,u=Tp b t|[aL],u=>u=da a|.ty n,u=>u=uA n
abbrev bq:([cR])->([dW])->[P]:=wg bB
def bq.length(r:[iK]):[cF]=us.length:=IM r
def bq.get:∀{xs}{us}{i:Nat}{x},([iK])->([cT,xs])->∃u,[aZ,us,u]/\bB x u|_,_,_,_,[aM],e=>by simp at e|_,_,0,_,.cons r _,e=>[f]|_,_,[aa],x,.cons _ t,e=>by rw[K,u,h1,h2,bq.get (i:=i) (x:=x) t [f]];rw[bb]
def bq.set(r:bB x u):∀{xs}{us}(i:Nat),([iK])->bq (xs.set i x) (us.set i u)|_,_,_,[aM]=>[aM]|_,_,0,.cons _ t=>[oD]|_,_,[aa],[bF,q,t]=>[bF,q,bq.set r i t]
def bq.append:∀{xs ys}{us ws},([iK])->bq ys ws->bq (xs++ys) (us++ws)|_,_,_,_,[aM],s=>s|_,_,_,_,[oD],s=>[bF,r,bq.append t s]
def bq.take:∀{xs}{us}(n:Nat),([iK])->bq (xs.take n) (us.take n)|_,_,0,_=>[aM]|_,_,_+1,[aM]=>[aM]|_,_,[aw],[oD]=>[bF,r,bq.take n t]
def bq.drop:∀{xs}{us}(n:Nat),([iK])->bq (xs.drop n) (us.drop n)|_,_,0,r=>r|_,_,_+1,[aM]=>[aM]|_,_,[aw],.cons _ t=>bq.drop n t
def hE:([bg,V])->([gP])->[P]|[cX],aa u=>[i2]|ag,ag=>True|_,_=>False
def KV{κ:[aH]}:([wl])->([f_,κ,aq])->[P]:=wg λ(p:κ×V)(q:κ×aq)=>[L]=[cV]/\bB [Z] q.2
def kV:dG->V|[H,i]=>[aQ]|[aC,x]=>[K,x]
inductive HO where|lst(xs:[cR])|tup(xs:[cR])|dK(kvs:[f_,dG,V])|dT(kvs:[vL])|set(S:Int->Bool)(n:Nat)|aW(C dx:ai)(fs:[fy,V])|own(x:ai)|xd(fs:[fy,V])|met(f x:ai)|mW(lo hi:Int)|cb(o:bn)(u:HO)|fL(ps:[lB])|ext(φ:bP->[P])
abbrev Hp:=ai->[bg,HO]
def upd(H:Hp)(a:ai)(o:HO):Hp:=λb=>[fc,b,a,o,H b]
def bW:upd H a o a=[a']:=[b_,upd]
def aX(h:b≠a):upd H a o b=H b:=[b_,upd]
def Z8:upd [f3,o] a u=[f3,u]:=[b_,upd]
def aeM{H:Hp}(h:[jS])(h':H b=aa u)(d:o≠u):a≠b:=[f]
def iF{H:Hp}(h:[jS])(h':[fz]):a≠b:=[f]
section
variable(P:cP)(w:cz)
def c7(H:Hp)(h:bP)(a:ai):HO->[P]|[ax,xs]=>[q6]/\∃(az:[dW])(n:Nat),bq xs az/\[de,a,[pY]]|[bw,xs]=>[q6]/\∃az:[dW],bq xs az/\wj h a [hf]|[mU]=>[CM]|[oP]=>[ln]<=bS/\[wm]/\∃xs:[f_,[iH],ai×aq],wg (λ(p:[iH]×V)(q:[iH]×ai×aq)=>[HY]) kvs xs/\∃o es ep,[re]/\o.ExactDict/\[yo]/\es.toList=xs.map (entryOfKey (zb [m9]))/\[e9,xs.map (·.1)]|[cE,S,n]=>h.SetOf (intKind P w) a S n|.aW C dx fs=>H dx=aa [bn,a]/\[tv]<=1000/\dx≠a/\[de,a,zc C dx]/\∃mA,[s5]/\[CP]/\IN mA [zD]|[pg]=>∃o,[re]|.xd fs=>∃mA,h.Ns1 a mA/\[CP]|.mW lo hi=>∃t u v,[de,a,[p0,"range",[J4]]]|.cb o u=>[re]/\c7 H h a u|.fL ps=>[de,a,{cls:=[a0],data:=.fields ps}]|.met f x=>[de,a,PySem.W.methodObj [hC] [eA]]|.ext j=>j h/\(∃o,[re])/\∀h1 h2:bP,j h1->(∀o,h1.get? a=[a']->h2.get? a=[a'])->j h2
def cW(H:Hp)(h:bP):[P]:=∀a o,([jS])->[tf,o]
end
section
variable{P:cP}{w:cz}{H H':Hp}{h h':bP}{a:ai}{o:HO}
def c7.lt(x:[tf,o]):a<[c9]:=by cases o with|lst xs=>rw[dT];exact [ee]|tup xs=>obtain⟨_,_,_,p⟩:=x;exact p.lt|dK kvs=>rw[cK];exact [ee]|dT kvs=>rw[cK];exact [ee]|set S n=>rw[dO];exact [ee]|aW C dx fs=>rw[dU];exact [ee]|own y=>obtain⟨_,e⟩:=x;exact [ee]|xd fs=>obtain⟨_,⟨_,_,_,e,_⟩,_⟩:=x;exact [ee]|mW lo hi=>obtain⟨_,_,_,e⟩:=x;exact [ee]|cb ob u=>obtain⟨e,_⟩:=x;exact [ee]|fL ps=>exact bF [yg]|met f y=>exact bF [yg]|ext j=>obtain⟨_,⟨_,e⟩,_⟩:=x;exact [ee]
def Paired.FR:∀{q:[h]}{B:[h]},wg F q B->(∀a b,F a b->S a b)->wg S q B|_,_,[aM],_=>[aM]|_,_,[oD],f=>[bF,f _ _ r,Paired.FR t f]
def c7.jR(x:[tf,o])(k:∀b u,(b=a\/H b=aa [bn,a])->[qe])(J:∀b,H b=aa [bn,a]->H' b=aa [bn,a])(O:∀b xs,[Dx,xs]):c7 P w H' h' a o:=by induction o with|lst xs=>rw[ab,z,az,n,r,e,x];exact#[z,az,n,r,[la]]|tup xs=>rw[am,z,az,r,ob,e,c,x];exact#[z,az,r,ob,[la],c]|dK kvs=>rw[fF,B,r]|dT kvs=>rw[fF,xs,Paired.FR r [f]]|set S n=>rw[am,ob,es,ep,t,e,c,x];exact#[ob,es,ep,t,[la],c]|aW C dx fs=>obtain⟨d,z,ne,e,mA,⟨I,es,ep,L,c⟩,r⟩:=x;exact#[J _ d,z,ne,[la],mA,#[I,es,ep,k _ _ [aC,d] L,c],r]|own y=>rw[aG,ob,e,x,#[ob,[la]]]|xd fs=>obtain⟨mA,⟨I,es,ep,e,c⟩,r⟩:=x;exact#[mA,#[I,es,ep,[la],c],r]|mW lo hi=>rw[dH,t,u,v,e,x,#[t,u,v,[la]]]|cb ob u U=>rw[aG,e,q,x,#[[la],U q]]|fL ps=>exact k a _ [fa] (x)|met f y=>exact k a _ [fa] (x)|ext j=>obtain⟨p,⟨o,e⟩,st⟩:=x;exact#[st _ _ p [f],#[o,[la]],st]
def cW.lt(x:[iC])(e:[jS]):a<[c9]:=(x a o e).lt
def cW.fresh(x:[iC])(e:[c9]<=a):[nz]:=by cases q:H a with|none=>rfl|some u=>exact [ga,hc (x.lt q) e]
def cW.kept(x:[iC])(k:∀b u,[qe]):cW P w H h':=λa o e=>(x a o e).jR [f] (by simp) (by simp)
def cW.laid(x:[iC])(k:∀b u,[qe])(L:[c9]<=a)(new:c7 P w [f3,o] h' a o):cW P w [f3,o] h':=λb u e=>by have z:=x.fresh L;rw[eX,x b u e,xs]
end
def Rd(H:Hp)(a:ai)(u:HO):[P]:=[et,u]\/∃o,[et,.cb o u]
def Rd.ok(r:Rd H a u)(x:[iC]):[tf,u]:=by rw[bX,r,r,o,r];{exact x a u r};{obtain⟨_,q⟩:=x a _ r;exact q}
def vf:([bg,HO])->[P]|aa [b9]=>True|aa (.dK _)=>True|aa (.dT _)=>True|aa (.set _ _)=>True|aa (.aW _ _ _)=>True|aa (.ext _)=>True|_=>False
section
variable{P:cP}{w:cz}{H:Hp}{h h':bP}{x e:ai}{o':HO}
def cW.write(ok:[iC])(U:vf (H x))(L:[Dv])(k:∀b u,b≠e->[qe])(j:[Em])(new:c7 P w [cw,x,o'] h' x o'):cW P w [cw,x,o'] h':=λb u q=>by rw[D,n,∀c y,H c=aa [bn,y]->c≠x,λc y r z=>by subst z;rw[ae,r,U,U],F,∀c xs,H c=[hN,xs]->c≠x,λc xs r z=>by subst z;rw[ae,r,U,U]];rw[b,J,b=x];{subst J;rw[dg,bW,q,new]};{rw[aX J]at q;rw[b,B,b=e];{have G:H b=aa [bn,x]:=[f];rw[az,q,G,G];rw[aG,v,I,j,#[v,[q,B,I]]]};{rw[gM,(ok b u q).jR (λc v O r=>k c v ?_ r) (λc r=>[hl,n c b r,r]) λc xs r=>[hl,F c _ r,r]]}}
end
structure Un (fs ex : List ai) (H H' : Hp) (h h' : bP) : Prop where
 keep : ∀ b o, h.get? b = aa o → H b = ag → b ∉ fs → b ∉ ex → h'.get? b = aa o
 slot : ∀ b o, h.get? b = aa o → H b = ag → b ∈ fs → b ∉ ex → ∃ sl, h'.get? b = aa { o with slots := sl }
 free : ∀ b o, h.get? b = aa o → H b = ag → b ∉ ex → H' b = ag
 there : ∀ b o, h.get? b = aa o → b ∉ ex → ∃ o', h'.get? b = aa o'
 l7 : ∀ b xs, H b = aa (.tup xs) → H' b = aa (.tup xs)
 k_ : ∀ b o u, H b = aa (.cb o u) → H' b = aa (.cb o u)
 mj : ∀ b ps, H b = aa (.fL ps) → ∃ more, H' b = aa (.fL (ps ++ more))
section
variable{fs fs' ex ex':List ai}{H H1 H2:Hp}{h h1 h2 h':bP}{a x e:ai}{o:HO}
def Un.any(u:Un fs ex H H1 h h1)(q:[de,b,ob])(n:[fz])(L:b∉ex):∃sl,h1.get? b=aa {ob with slots:=sl}:=by rw[b,J,b∈fs];rw[aq,u.slot b _ q n J L,#[ob.slots,u.keep b _ q n J L]]
def Un.kept(k:∀b u,[qe]):Un fs ex H H h h':=#[λb ob q _ _ _=>k b _ q,λb ob q _ _ _=>#[ob.slots,k b _ q],λ_ _ _ n _=>n,λb ob q _=>#[ob,k b _ q],λ_ _ q=>q,λ_ _ _ q=>q,λ_ ps q=>#[[cd],[f]]]
def Un.refl:Un fs ex H H h h:=Un.kept (by simp)
def Un.laid(k:∀b u,[qe])(L:[c9]<=a)(z:[nz]):Un fs ex H [f3,o] h h' where
 keep:=λb u q _ _ _=>k b u q
 slot:=λb u q _ _ _=>#[u.slots,k b u q]
 free:=λb u q n _=>[hl,di (hc (bF q) L),n]
 there:=λb u q _=>#[u,k b u q]
 l7:=λb xs q=>[nm,q]
 k_:=λb u xs q=>[nm,q]
 mj:=[LQ,[dw]]
def Un.write(U:vf (H x))(B:[Dv])(k:∀b u,b≠e->[qe])(j:[Em]):Un fs ex H [cw,x,o] h h':=by rw[D,L,∀b,([fz])->b≠x,λb n z=>by subst z;rw[ae,n,U,U],J,∀b,([fz])->b≠e,λb n z=>[f]];rw[ad,O,∀b u,H b=aa u->¬vf (aa u)->b≠x,λb u q nm z=>by subst z;grind,#[λb u q n _ _=>k b u (J b n) q,λb u q n _ _=>#[u.slots,k b u (J b n) q],λb u q n _=>[hl,L b n,n],λb u q _=>?_,λb xs q=>[hl,[Es],q],λb u xs q=>[hl,[Es],q],[LQ,aX [Es]]]];grind
end
def Lf(h:bP)(H:Hp):[bc]:=[op,br [c9],a,[es,H a]]
def ox(h:bP)(H:Hp):bP:=PySem.W.hideAll h (Lf h H)
def aep(h:bP)(H:Hp):[dh,ox h H]=[c9]:=PySem.W.hideAll_size _ _
def YC(e:[kx])(n:[fz]):[le,ox h H]:=PySem.W.hideAll_get _ e λO=>[jN,q,[bq,nN.mp O]]
def ac4(e:[le,ox h H]):[kx]/\[fz]:=by rw[aY,J,PySem.W.of_hideAll _ e,#[J,?_]];cases q:H b with|none=>rfl|some x=>rw[D,O,b∈Lf h H,nN.mpr #[ja.mpr (bF J),[f]],z,(ox h H).get? b=ag,PySem.W.hideAll_none _ O];grind
structure Mod (K : aQ) (mg : au → Option aq) (base : bP) : Prop where
 tF : K.In base
 fw : base.Ns iB mg
 blt : ∃ mb, base.Ns pa mb ∧ ∀ x : au, x ≠ "__name__" → mb x = hl x
 nolimit : base.NoLimit
structure Cx where
 prog : cP
 w : cz
 K : aQ
 mg : au → Option aq
 base : bP
 A : dc
 N : List au
 eA : aD
 sX : Hp
 env : jf
 outer : List jf
 stack : List jf
 ex : List ai
 fn : au → Bool
 ci : Bool
 pn : List (ai × bn)
 xe : aq → aD → Prop
def i4(l:List jf):[bc]:=l.filterMap (·.frame)
abbrev Cx.fs(X:Cx):[bc]:=i4 X.outer
def gf(sc:fo)(x:au):[P]:=[n_,x]=[fj]\/[DW,[n_,x]]
def lr(sc:fo)(x:au):[P]:=[n_,x]=[fj]\/[n_,x]=[kf]
def U2(env:jf)(h:bP)(m:[pa])(x:au)(u:aq):[P]:=([z',x]/\m x=aa u)\/([DW,env.kindOf x]/\∃c,env.cells.lookup x=aa c/\h.IsCell c (aa u))
structure Cx.Ok (X : Cx) : Prop where
 mod : Mod X.K X.mg X.base
 kind : X.env.scope.kind = .function
 fw : X.env.globals = iB
 blt : X.env.builtins = pa
 above : X.eA.heap.objs.size ≤ X.env.locals
 inj : ∀ x y c, X.env.cells.lookup x = aa c → X.env.cells.lookup y = aa c → x = y
 has : ∀ x, (X.env.kindOf x = aa .cell ∨ X.env.kindOf x = aa .free) → ∃ c, X.env.cells.lookup x = aa c
 vr : ∀ x c, X.fn x = ae → X.env.cells.lookup x = aa c → X.eA.heap.objs.size ≤ c
 hd : X.ci = ae → X.A.handled = ag
 frames : X.A.frames = aa X.stack
 xX : X.stack = X.outer ∨ (X.stack = X.env :: X.outer ∧ X.env.frame = aa X.env.locals)
 tP : ∀ b ∈ X.ex, b ≠ X.env.locals ∧ ∀ x c, X.env.cells.lookup x = aa c → c ≠ b
 bs : ∀ b o, X.base.get? b = aa o → X.eA.heap.get? b = aa o ∧ X.sX b = ag
 lO : X.base.objs.size ≤ X.eA.heap.objs.size
 u9 : ∀ b o, X.base.get? b = aa o → b ∉ X.ex
 sT : ∀ b ∈ X.ex, b ∉ X.fs
 kq : X.eA.heap.FunFrames X.base X.outer
 pY : ∀ b ∈ X.fs, X.sX b = ag
structure ak (X : Cx) (pins : List (ai × bn)) (σ : List (Option V)) (H : Hp) (s : aD) : Prop where
 ok : X.Ok
 os : s.os = X.eA.os
 bare : uB s.gens
 base : Un X.fs X.ex X.sX H X.eA.heap s.heap
 loc : ∃ m, s.heap.Ns X.env.locals m ∧ ∀ (i : Nat) (x : au) (v : V), X.N[i]? = aa x → σ[i]? = aa (aa v) → gf X.env.scope x → ∃ u, bB v u ∧ U2 X.env s.heap m x u
 cell : ∀ x c, X.env.cells.lookup x = aa c → ∃ v, s.heap.IsCell c v
 free : H X.env.locals = ag
 ie : ∀ x c, X.env.cells.lookup x = aa c → H c = ag
 eI : ∀ p ∈ X.pn ++ pins, s.heap.get? p.1 = aa p.2 ∧ H p.1 = ag ∧ p.1 ≠ X.env.locals ∧ p.1 ∉ X.fs ∧ ∀ v, p.2.data ≠ .cell v
 aO : cW X.prog X.w H s.heap
 len : σ.length = X.N.length
section
variable{X:Cx}{pins:List (ai×bn)}{σ:List (Option V)}{H H':Hp}{s:aD}{h':bP}
def Cx.Ok.VT(ok:X.Ok)(e:[D7]):b∉X.fs:=λJ=>[ch,[M,ok.kq.mem J]]
def ak.bs(I:[ah]):[di,[D7],[gl]/\[fz]]:=[dC,#[I.base.keep b o [M,[zU]] [bq,[zU]] (I.ok.VT e) (I.ok.u9 b o e),I.base.free b o [M,[zU]] [bq,[zU]] (I.ok.u9 b o e)]]
def ak.bk(I:[ah]):[di,[D7],[gl]]:=[dC,[M,I.bs b o e]]
def ak.mod(I:[ah]):Mod X.K X.mg X.base:=I.ok.mod
def ak.dW(I:[ah]):X.K.In s.heap:=I.ok.mod.tF.keeps I.bk
def ak.nolimit(I:[ah]):s.heap.NoLimit:=I.ok.mod.nolimit.keeps I.bk
def ak.fr(I:[ah]):∃m,Fr X.base [gE] s.heap m:=let#[m,q,_]:=I.loc;#[m,q,I.bk,c9 I.ok.lO [oG]]
def ak.lt(I:[ah]):[gE]<[ar]:=let#[_,q,_]:=I.loc;q.lt
def ak.sz(I:[ah]):X.eA.heap.objs.size<=[ar]:=c9 [oG] (yQ I.lt)
def ak.agH(I:[ah]){a:ai}(h:[ar]<=a):a∉X.fs:=λJ=>by obtain⟨_,o,q,_⟩:=I.ok.kq.mem J;exact [ga,hc (bF q) (c9 I.sz h)]
def ak.pJ(I:[ah]):[ur,[gE]]:=λx c e z=>by rw[ag,v,o,q,hd,[sX]];obtain⟨m,⟨o',es,ep,N,J,_⟩,_⟩:=I.loc;grind
def ak.kq(I:[ah]):[vD,X.base,X.outer]:=[br,all,∀(l:[h]),([ev,i4 l,b∈X.fs])->X.eA.heap.FunFrames X.base l->[vD,X.base,l],by intro l;induction l with|nil=>intro _ _;trivial|cons env r N=>intro q U;obtain⟨j,⟨L,o,O,G,B,hd⟩,S⟩:=U;have W:=q L ([b_,i4]);rw[aG,sl,e,I.base.slot L o B (I.ok.pY L W) W λz=>I.ok.sT L z W,#[j,#[L,_,O,G,e,hd],N (λb J=>q b (by unfold i4;rw[a5,rO,O,lF _ J])) S]],all _ (by simp) I.ok.kq]
def ak.stack(I:[ah]):[vD,X.base,[gs]]:=by rw[bX,I.ok.xX,e,e,q];{rw[V,e,I.kq]};{rw[e];rw[a4,m,z,I.loc];rw[d8,.cons (by rw[I.ok.kind];rw[af]) q z ?_ I.kq,IP (c9 I.ok.lO [oG])]}
def ak.A8(I:[ah]):[ev,i4 [gs],b∈[gE]::X.fs]:=λb J=>by rw[bX,I.ok.xX,e,e,q];rw[ar];{rw[e]at J;rw[al,i4,J];rw[rO,q]at J;exact J}
def ak.EB(I:[ah]):[ev,i4 [gs],[fz]]:=λb J=>by rw[aJ,[c4,I.A8 b J],e,J];{rw[V,e,I.free]};{obtain⟨_,o,q,_⟩:=I.ok.kq.mem J;exact I.base.free b o q (I.ok.pY b J) λz=>I.ok.sT b z J}
def ak.step{ch:[h]}(I:[ah])(j:[Dj])(keep:[h9,[gE],b∉X.fs,([hx])->([gl])->([fz])->[md,o]])(slot:[h9,[gE],b∈X.fs,([hx])->([gl])->([fz])->[B9]])(free:[di,[hx],([gl])->([fz])->[iO]])(there:[di,[hx],([gl])->∃o',[md,o']])(l7:∀b xs,[Dx,xs])(k_:∀b o u,H b=aa (.cb o u)->H' b=aa (.cb o u))(mj:∀b ps,H b=aa (.fL ps)->∃HB,H' b=aa (.fL (ps++HB)))(ns:∀m,s.heap.Ns [gE] m->h'.Ns [gE] m)(aO:[DH])(hg:uB W):[HQ]:=by rw[D,S,[CQ],[dC,di (hc [ee] [oG])],G,[di,[r5]=[a'],b∉X.ex->[hx]],λb o e L J=>[d_,[M,j b J],z,z,L z,[ga,hc [ee] z]]];rw[ad,Z,∀x c,([l_,x,c])->∀v,[KJ],λx c e v#[o,ho,hd]=>by have B:=[K_];rw[b,O,c∈X.fs];{rw[aG,sl,q,slot c o (I.pJ x c e) O B ho [Ae],#[_,q,hd]]};{exact#[o,keep c o (I.pJ x c e) O B ho [Ae],hd]},#[I.ok,I.os,hg,#[[qd],[qd],λb o e n L=>?_,[u7],λb xs e=>l7 b _ [Ei],λb o xs e=>k_ b o _ (I.base.k_ b o _ e),λb ps e=>?_],?_,[zQ],?_,[zQ],[vm],aO,I.len]];{exact keep b o [ww] J [Aj] [uB,n] [CJ]};{rw[M,sl,e1,[uG,n]];rw[aG,N,e2,slot b _ [ww] J [Aj] e1 [CJ],#[N,e2]]};{rw[aG,o',e1,[p8],free b _ [Aj] e1 [CJ]]};{rw[aG,o',e1,[p8],there b _ [Aj] e1]};{rw[M,m1,e1,I.base.mj b _ e];rw[aG,F,e2,mj b _ e1,#[m1++F,by rw[e2,Array.append_assoc]]]};{rw[aK,m,hn,U,I.loc,#[m,ns m hn,λi x v e1 e2 e3=>?_]];rw[aK,u,r,l,U i x v e1 e2 e3,#[u,r,?_]];rcases l with l|⟨k,c,e,z⟩;rw[aq,[H,l],[aC,#[k,c,e,Z x c e _ z]]]};{rw[aG,v,z,[sX],#[v,Z x c e v z]]};{obtain⟨m,⟨o,_,_,ho,_⟩,_⟩:=I.loc;exact free _ o [uV,j _ z] ho I.free};{rw[dH,v,o,ho,hd,[sX],free c o [K_] ho [Ae]]};{rw[dR];rw[bd,B,λz=>[aE,j _ z].2 p hp Y,#[keep _ _ ne nf B e n,free _ _ B e n,ne,nf,d]]}
def ak.un(I:[ah])(u:Un X.fs [] H H' s.heap h')(aO:[DH]):[kc,H']:=by obtain⟨m,⟨o,es,ep,q,r⟩,_⟩:=id I.loc;rw[aG,sl,z,u.any q I.free (by simp),I.step (ch:=[]) (by simp) (λb o _ J _ e n=>u.keep b o e n J (by simp)) (λb o _ J _ e n=>u.slot b o e n J (by simp)) (λb o _ e n=>u.free b o e n (by simp)) (λb o _ e=>u.there b o e (by simp)) u.l7 u.k_ u.mj (λG O=>by rw[ab,o',S,U,N,j,O];rw[dg,q,N,#[_,S,U,z,j]]) aO I.bare]
def ak.call(I:[ah])(u:Un (i4 [gs]) ch H H' s.heap h')(aO:[DH])(B:uB W)(j:[Dj]):[HQ]:=by obtain⟨m,⟨o,es,ep,L,r⟩,_⟩:=id I.loc;rw[aG,sl,q,u.any L I.free [uV,j _ z],I.step j (λb o q J O e n=>u.keep b o e n (λz=>[c4,I.A8 b z].elim q J) O) (λb o _ _ O e n=>u.any e n O) (λb o O e n=>u.free b o e n O) (λb o O e=>u.there b o e O) u.l7 u.k_ u.mj (λF G=>by rw[ab,o',S,U,N,Z,G];rw[dg,L,N,#[_,S,U,q,Z]]) aO B]
def ak.turned(I:[ah])(k:[di,b≠it,[l',[i1,b]]])(B:H it=ag)(W:it≠[gE])(h1:[Be,it])(h2:[ur,it])(L:[x9,it]):[kc,H]:=by refine I.step (ch:=[it]) [fo] (λb o _ _ O e _=>[Hu]) [BL,λz=>O (by simp[z])] (by simp) (λb o O e=>#[o,[Hu]]) (by simp) (by simp) (λb ps e=>#[[cd],[ey,e]]) (λm U=>?_) (λb u e=>?_) I.bare;{rw[cQ,#[h1,W,h2,L]]};{rw[ab,o,es,ep,j,r,U];exact#[o,es,ep,k _ o (dt W) j,r]};{rw[gM,[IG]]}
def ak.tok(I:[ah])(t:Nat):[c7,H,[tK,s,t]]:=I.un Un.refl I.aO
def ak.kept(I:[ah])(k:∀b u,[sL,u]):[kc,H]:=I.un (Un.kept k) (I.aO.kept k)
def ak.laid{a:ai}(I:[ah])(k:∀b u,[sL,u])(q:[ar]<=a)(new:[lb,a,o,h',o]):[kc,[f3,o]]:=I.un (Un.laid k q [j3,q]) (I.aO.laid k q new)
def ak.write(I:[ah])(U:vf (H x))(q:[Dv])(k:∀b u,b≠e->[sL,u])(j:[Em])(new:[lb,x,o,h',o]):[kc,[cw,x,o]]:=I.un (Un.write U q k j) (I.aO.write U q k j new)
def ak.weak(I:[ah])(U:[bu]=[ho])(w:∀(i:Nat)v,([aZ,B,[cX]])->[sP]):ak X pins B H s:=[vo,I.ok,I.base,let#[m,q,W]:=I.loc;#[m,q,λi x v z j L=>W i x v z (w i v j) L],I.cell,I.eI,I.aO,U.trans I.len]
def ak.M'(I:[ah])(h:[g4,j,[bJ,[L],[Z]]/\H [L]=ag/\[L]≠[gE]/\[L]∉X.fs/\∀v,[Z].data≠.cell v]):ak X j σ H s:=[tS,I.ok,λp q=>(cs.mp q).elim (λz=>I.eI p (IQ _ z)) (h p)]
def Bn{N:[dF]}(hN:N.Nodup){i j:Nat}(a:[cT,N])(b:[ce,N,x]):i=j:=by rw[M,h1,q,dC.mp a];rw[aG,h2,z,dC.mp b,(aiW hN).mp (q.trans z.symm)]
def Qx{M}(I:[ah])(hN:X.N.Nodup)(hi:[cl])(L:[o_])(r:[i2])(h:∀s',ak X pins [oo,v] H s'->(∃a,wk a s.heap [jI]/\(a=[gE]\/[l_,x,a]))->Q () s')(hf:[l5]:=by rw[cW]):[eF,M,Tq X.env x u]:=by rw[K,m,hn,U,id I.loc];rw[D,ahM,(X.env.scope.kind==.class||(X.env.scope.kind==.module&&[gE]!=X.env.globals))=af,[bP,I.ok.kind],F,i<[ho],[ba,I.len]];rw[ah,pJ,I.pJ,S,∀{a}{h'},(∃o,[bJ,a,o]/\[nz])->wk a s.heap h'->cW X.prog X.w H h',λha hs b ob e=>[gM,(I.aO b ob e).jR (λc w' O q=>[oA,hs.2 c ?_]) (λ_ q=>q) λ_ _ q=>q]];rw[aJ,L,hk,hk];{refine wpAny_storeName_local hk hn (λh' Z hs=>?_) ahM;obtain⟨oL,_,_,B,_⟩:=id hn;refine h _ [vo,I.ok,[xh,[qd],[qd],[u7]],#[_,Z,λj y v' e1 e2 e3=>?_],[zR],[vm],S #[oL,B,I.free] hs,[aD,I.len]] #[_,hs,[fa]];{exact [cy,[xc,[oG]],[uB,n]]};{rw[aG,sl,e1,[uG,n],#[sl,[bY,[xc,[oG]],e1]]]};{rw[aG,o',e1,[p8],#[o',[bY,[xc,[oG]],e1]]]};{rw[b,hj,j=i];{rw[b8,hj,hi,e1];rw[dg,rZ F,e2,#[u,r,[H,[qZ,hk]]]]};{rw[fg];rcases q with⟨k,e⟩|⟨k,c,e,z⟩;{refine [H,#[k,?_]];have:y≠x:=λe=>hj (Bn hN e1 (e▸hi));simp[this,e]};{exact [aC,#[k,c,e,z.sameBut hs (pJ y c e)]]}}};{rw[aG,w',z,I.cell y c e,#[w',z.sameBut hs (pJ y c e)]]};{rw[dR];exact#[[hO,hs.2 [L] ne],n,ne,nf,d]}};{(have G:X.fn x=ae:=by rw[aZ,hf,z,z,z];{rw[az,z,hk,hk]});rw[M,c,O,I.ok.has x [H,hk]];rw[bA,w',z,I.cell x c O,wpAny_storeName_cell [o2] hk O z (λh' vZ hs=>?_)];rw[aK,oc,W,ahN,id z,h _ [vo,I.ok,[xh,[qd],[qd],[u7]],#[m,hn.sameBut hs (dt (pJ x c O)),λj y v' e1 e2 e3=>?_],λy c' e=>?_,[vm],S #[oc,W,I.ie x c O] hs,[aD,I.len]] #[c,hs,[aC,O]]];{exact [cy,[Ds],[uB,n]]};{rw[aG,sl,e1,[uG,n],#[sl,[bY,[Ds],e1]]]};{rw[aG,o',e1,[p8],#[o',[bY,[Ds],e1]]]};{rw[b,hj,j=i];{rw[b8,hj,hi,e1];rw[dg,rZ F,e2,#[u,r,[aC,#[[H,hk],c,O,vZ]]]]};{rw[fg];rcases q with q|⟨k,c',e,z'⟩;{exact [H,q]};{refine [aC,#[k,c',e,z'.sameBut hs ?_]];rintro rfl;exact hj (Bn hN e1 (I.ok.inj _ _ _ e O▸hi))}}};{rw[b,Si,c'=c];{rw[bh,Si,#[_,vZ]]};{rw[aG,w2,z2,I.cell y c' e,#[w2,z2.sameBut hs Si]]}};{rw[dR];refine#[[hO,hs.2 [L] ?_],n,ne,nf,d];intro q;rw[q,W]at e;exact d w' ([bD,uC e,ahN])}}
def BN{M}{A}(I:[ah])(hN:X.N.Nodup)(hi:[cl])(L:[o_])(r:[i2])(h:∀s',ak X pins [oo,v] H s'->Q () s')(q:[l5]:=by rw[cW]):[eF,M,Tq X.env x u]:=Qx I hN hi L r [f] q
def ak.A'(I:[ah])(q:s'.os=s.os)(u:Un (i4 [gs]) ch H H' s.heap [jI])(aO:cW X.prog X.w H' [jI])(z:uB s'.gens)(j:[Dj]):[qX]:=by rw[ab,h',W,G,t',o',s'];rw[bh,q,I.call u aO z j]
end
abbrev XK:=aq->([kK])->[dM]
abbrev St:=List [bg,V]
abbrev VK:=V->[dM]
abbrev TE:=St->[nE]
abbrev TT:=[r8,Bool]
abbrev TA:=[r8,[cR]]
structure lZ where
 nx : St → Hp → Prop
 rt : VK
 bk : St → Hp → Prop := fun _ _ => False
 ct : St → Hp → Prop := fun _ _ => False
abbrev TS:=lZ->[rt]
def EP(X:Cx)(pins:[eH])(σ:St)(Q:VK)(u:aq)(s':aD):[P]:=∃v H',[qX]/\[i2]/\Q v H'
def TP(X:Cx)(pins:[eH])(σ:St)(Q:Bool->[dM])(b:Bool)(s':aD):[P]:=∃H',[qX]/\Q b H'
def AP(X:Cx)(pins:[eH])(σ:St)(Q:([cR])->[dM])(us:[dW])(s':aD):[P]:=∃B H',[qX]/\bq B us/\Q B H'
def SP(X:Cx)(pins:[eH])(D:lZ)(f:Flow)(s':aD):[P]:=match f with|.next=>∃B H',[uT]/\D.nx B H'|.brk=>∃B H',[uT]/\D.bk B H'|.cont=>∃B H',[uT]/\D.ct B H'|[bl,u]=>∃v B H',[uT]/\[i2]/\D.rt v H'
def PE(X:Cx)(e:bQ)(t:TE):[P]:=[pL,Q,VK,t σ H Q,[eN,e],[jl]]
def PT(X:Cx)(e:bQ)(t:TT):[P]:=[pL,Q,Bool->[dM],t σ H Q,uD e X.env [eN,e],TP X pins σ Q]
def PW(X:Cx)(e:bQ)(t:TT):[P]:=[Ks,whole,Sem aq,Bool,uD e X.env whole,TP X pins σ Q]
def PW.pt(h:PW X e t):PT X e t:=h _
def PA(X:Cx)(es:List bQ)(t:TA):[P]:=[Ks,pos,eo,[cR],spliced (dE pos [pI,es]),AP X pins σ Q]
def PS(X:Cx)(st:kY)(t:TS):[P]:=[pL,D,lZ,t D σ H,exec st X.env,SP X pins D]
def fO(X:Cx)(st:List kY)(t:TS):[P]:=[pL,D,lZ,t D σ H,execs st X.env,SP X pins D]
def a8{t:Sem U}(h:aE M A t Q E s)(q:∀a s,Q a s->j a s):aE M A t j E s:=gR h q (by simp)
section
variable{X:Cx}
def bin(L:[iF])(J:[m1]){σ:St}{R:V->V->[dM]}(I:[ah])(h:[w0,[zu,R x y H2]]){f:aq->aq->Sem U}(F:[G8]):[HC]:=by rw[ai,[ku,[r9],N,j,Z,z],[I4]];grind
def Fs(i:Nat):TE:=λσ H Q=>∃v,[sP]/\Q v H
def tC(v:V):TE:=λ_ H Q=>Q v H
def ls{pos}(hN:[cl])(W:[fQ])(hd:[j1]:=by rw[af])(z:[xY]=af:=by rw[af]):[cn,[ou],Fs i]:=by rw[bH];rw[aM,v,e,h,h,m,L,U,I.loc];rw[K,u,r,l,U i x v hN e W];have J:EP X _ _ Q u s:=#[v,H,I,r,h];rcases l with⟨q,j⟩|⟨q,c,O,B⟩;{exact CY (IR [o2] q L j J) hd};{rw[d_,q,q,q,CY (aiX [o2] q O B J) hd,CY (wpAny_loadName_free [o2] q O B J z) hd]}
def Pm:[yr,[aQ],[aQ]]:=λ_ _ _ H _ I h=>IS #[[aQ],H,[hp],[gV],h]
def WG:[yr,.bool b,[jR]]:=λ_ _ _ H _ I h=>Constant_bool #[[jR],H,I,Y,h]
def wT:[yr,[a0],[aY]]:=λ_ _ _ H _ I h=>Constant_none #[[aY],H,I,Y,h]
def ae0:[yr,[K,x],[K,x]]:=λ_ _ _ H _ I h=>Calls.Constant_str #[[K,x],H,[hp],[gV],h]
def Gl(X:Cx)(x:au):[P]:=[wh,x]=aa .globalImplicit
def p9{σ:St}(I:[ah])(z:[dJ])(q:X.mg x=aa u)(h:Q u s)(hd:[j1]:=by rw[af]):[Ej,[ou]]:=aiY [o2] z (Calls.loadGlobal_global [q,I.ok.fw,[yu]] q h) hd
def oV{E}{σ:St}{pos}(I:[ah])(q:[dJ])(O:[wq])(W:hl x=aa u)(h:Q u s)(z:[zy]:=by rw[af])(hd:[j1]:=by rw[af]):[Ej,[ou]]:=[bx,B,h1,h2,I.mod.blt,aiY [o2] q (Calls.loadGlobal_builtin [q,I.ok.fw,[yu]] O [q,I.ok.blt,h1.keeps I.bk] [f] h) hd]
def aek(z:[dJ])(q:X.mg x=aa u)(r:[i2])(hd:[j1]:=by rw[af]):[cn,[ou],tC v]:=λ_ _ _ H _ I h=>p9 I z q #[v,H,I,r,h] hd
variable{a b:bQ}{ta tb:TE}{pos:eo}
def PC(X:Cx)(j:CmpOp)(a b:bQ)(t:TE):[P]:=[pL,Q,VK,t σ H Q,[eN,a],λv W=>[gc,[eN,b],λu S=>[gc,eU j v u,[jl],S],W]]
def tB(t:TE):TT:=[k2,x,∃c,x=[bj,c]/\Q c H1]
def aoj(h:PC X j a b t)(h1:[wo]:=by first|exact n _ ([af]) ([af])|rfl):PT X [jf,j] (tB t):=by rw[aS,Q,W,aiZ (a8 [El] λv O h1=>a8 h1 λu J h2=>[dL,h2,c,G,x,H1,S,L,z]) h1];rw[K,d,rfl,q,z];rw[aU,L,nW #[H1,S,q]]
def MB(h:[gC,t])(O:[wS]:=by intro _;rfl):PT X e (tB t):=by rw[aS,Q,W,isTrue_plain [ku,[El],L,S,j,z] (O _)];rw[K,d,rfl,q,z];rw[aU,j,nW #[H1,S,q]]
variable{tA tB':TT}{rest:List bQ}
def Vy(t u:TT):TT:=[k2,c,[ap,c,u σ H1 Q,Q af H1]]
def tOr(t u:TT):TT:=[k2,c,[ap,c,Q ae H1,u σ H1 Q]]
def abj(t:TT):TT:=[k2,c,Q (! c) H1]
def abm(J:PT X a tA):PW X (.BoolOp .And [a] pos) tA:=[Bx,isTrue_and [Jo],isTrue_and_nil e,e]
def af7(J:PT X a tA):PW X (.BoolOp .Or [a] pos) tA:=by intro wh pins s σ H Q I h;refine isTrue_or [Jo];cases c with|false=>exact isTrue_or_nil e|true=>exact e
def Yj(L:PT X a tA)(J:PW X [k1,b,rest] tB'):PW X [k1,a,b::rest] (Vy tA tB'):=[Bx,isTrue_and [Kp],J _ _ _ _ _ Q S q,#[H1,S,q]]
def aa1(L:PT X a tA)(J:PW X [k4,b,rest] tB'):PW X [k4,a,b::rest] (tOr tA tB'):=[Bx,isTrue_or [Kp],#[H1,S,q],J _ _ _ _ _ Q S q]
def VX(J:PT X a tA):PT X [C5] (abj tA):=by rw[bH];exact isTrue_not [n6]
def adp(ta tb:TE):TE:=[Ew,[ap,c,tb σ H1 Q,Q [bj,af] H1]]
def afk(ta tb:TE):TE:=[Ew,[ap,c,Q [bj,ae] H1,tb σ H1 Q]]
def Y_(ta:TE):TE:=[Ew,Q [bj,! c] H1]
def R7(h:PE X a t):PE X (.BoolOp j [a] pos) t:=[uZ,W,BoolOp_one [z8,W]]
def Z5(L:[iF])(J:PE X [k1,b,rest] tb):[cn,[k1,a,b::rest],adp ta tb]:=by rw[aS,Q,h,BoolOp_and [ku,[r9],z,S,j,q]];rw[K,c,rfl,q,q];cases j;refine nW ?_;cases c with|true=>exact J _ _ _ _ Q S q|false=>exact [Ee]
def V_(L:[iF])(J:PE X [k4,b,rest] tb):[cn,[k4,a,b::rest],afk ta tb]:=by rw[aS,Q,h,BoolOp_or [ku,[r9],z,S,j,q]];rw[K,c,rfl,q,q];cases j;refine nW ?_;cases c with|false=>exact J _ _ _ _ Q S q|true=>exact [Ee]
def Vx(J:[iF]):[cn,[C5],Y_ ta]:=by rw[aS,Q,h,UnaryOp_ [ku,[n6],L,S,j,q]];rw[K,c,rfl,q,q];rw[aU,j,[hE,nW [Ee]]]
def tIf(t:TT)(ta tb:TE):TE:=[k2,c,[ap,c,ta σ H1 Q,tb σ H1 Q]]
def aba(O:PT X c tA)(L:[iF])(J:[m1]):[cn,.IfExp c a b pos,tIf tA ta tb]:=[Jp,Q,wpAny_IfExp [Kq]]
end
def bp(K:aQ)(H:Hp)(a:ai)(xs:[cR]):[P]:=[J5,[ax,xs],[jh],o.dict=ag/\[Ig]]
def cx(K:aQ)(H:Hp)(a:ai)(xs:[cR]):[P]:=[J5,[bw,xs],[oi],[Ig]]
def Zr:aq->[bg,V]|[a0]=>aa [aY]|.bool b=>aa [jR]|.int i _=>aa [aQ]|.str x _=>aa [K,x]|.bytes b _=>aa (.lu b)|.float b _=>aa (.yo b)|[aL]=>aa [aL]|[bT,n]=>aa (.ty n)|_=>ag
def bB.abs(r:bB x u):Zr u=aa x:=by cases x with|a0=>cases r;rfl|bl _=>cases r;rfl|int _=>rw[bQ,r]|str _=>rw[bQ,r]|lu _=>rw[bQ,r]|yo _=>rw[bQ,r]|ref _=>cases r;rfl|ty _=>cases r;rfl
def bB.inj(r:bB x u)(q:[hA]):x=y:=uC (r.abs.symm.trans q.abs)
def bq.inj:∀{xs ys}{us},([iK])->bq ys us->xs=ys|_,_,_,[aM],[aM]=>rfl|_,_,_,[oD],[bF,j,t']=>by rw[r.inj j,bq.inj t t']
section
variable{X:Cx}{pins:List (ai×bn)}{σ:St}{H:Hp}{s:aD}{a:ai}{xs ys:List V}
def bp.of{K}(h:[et,[ax,xs]]):[lT,xs]:=[H,[H,h]]
def cx.of{K}(h:H a=[hN,xs]):[vJ]:=[H,[H,h]]
def ak.list(I:[ah])(h:bp X.K H a xs):∃az:[h],bq xs az/\PlainL s.heap a [hf]/\[q6]:=by rcases h with h|⟨o,az,n,q,O,hd,J,L,r⟩;{rw[ab,z,az,n,r,e,h.ok I.aO];exact#[az,r,#[_,n,e,Y,Y,Y],z]};{refine#[az.toList,r,#[o,n,I.dW a o q,O,hd,[bb]],?_];rw[jN,e,r.length]}
def ak.tuple(I:[ah])(h:cx X.K H a xs):∃az:[h],bq xs az/\wj s.heap a [hf]/\[q6]:=by rcases h with h|⟨o,az,n,q,O,J,L,r⟩;{rw[ag,z,az,r,p,h.ok I.aO];grind};{refine#[az.toList,r,#[o,I.dW a o q,O,n,[bb]],?_];rw[jN,e,r.length]}
def ak.ve(I:[ah])(h:bp X.K H a xs)(h':bp X.K H a ys):xs=ys:=by obtain⟨az,r,⟨o,n,e,_,_,d⟩,_⟩:=[eC,h];obtain⟨B,z,⟨o',j,J,_,_,q⟩,_⟩:=[eC,h'];rw[eV]
def ak.Nw(I:[ah])(h:cx X.K H a xs)(h':cx X.K H a ys):xs=ys:=by obtain⟨az,r,⟨o,e,_,n,d⟩,_⟩:=[e_,h];obtain⟨B,z,⟨o',J,_,j,q⟩,_⟩:=[e_,h'];rw[eV]
end
section
variable{X:Cx}{st:kY}{rest:List kY}{t u:TS}{e:bQ}{te:TE}{pos:eo}
def O5:TS:=λD σ H=>D.nx σ H
def Xj(t u:TS):TS:=λD σ H=>t {D with nx:=u D} σ H
def acA:fO X [] O5:=λ_ _ σ H _ I h=>CZ #[σ,H,I,h]
def Zy(h1:PS X st t)(h2:fO X rest u):fO X (st::rest) (Xj t u):=by rw[aS,D,h,IU (a8 (h1 _ s _ H _ I h) λf j q=>?_)];cases f with|next=>rw[dH,S,H',B,q,q,h2 _ _ _ _ D B q]|ret v=>exact q|brk=>exact q|cont=>exact q
def VD:TS:=λD σ H=>D.bk σ H
def Ww:PS X (.Pass pos) O5:=λ_ _ σ H _ I h=>wpAny_Pass #[σ,H,I,h]
def ZO:PS X (.Break pos) VD:=λ_ _ σ H _ I h=>wpAny_Break #[σ,H,I,h]
def ak.quiet{σ:St}(I:[ah]):interactive X.env=af:=by simp[interactive,I.ok.kind]
def ag3(te:TE):TS:=λD σ H=>te σ H λ_ H1=>D.nx σ H1
def wV(O:[h0])(q:[j6,e,ag]:=by rfl):[hF,.Expr e pos,ag3 te]:=by rw[ci];exact wpAny_Expr_any (a8 [r4] λv j#[x,H1,S,L,z]=>#[σ,H1,S,z]) I.quiet q
def X5(te:TE):TS:=λD σ H=>te σ H D.rt
def Dy(q:[h0]):[hF,.Return (aa e) pos,X5 te]:=by rw[ci];exact wpAny_Return_some [eU,q _ s _ H _ I h,v,L,x,H1,S,j,z,#[x,σ,H1,S,j,z]]
def ZD(c:TT)(t u:TS):TS:=λD σ H=>c σ H λb H1=>[ap,b,t D σ H1,u D σ H1]
def agI(O:PT X c tc)(L:fO X a t)(J:fO X b u):[hF,.If c a b pos,ZD tc t u]:=[Jp,D,wpAny_If [Kq]]
end
abbrev TG:=V->[r8,St]
abbrev yA:=([cR])->[r8,St]
def PG(X:Cx)(z:bQ)(t:TG):[P]:=[xt,v,V,u,aq,[rt],[i2],t v σ H Q,uE z X.env u,λ_ s'=>∃B H',[uT]/\Q B H']
def AM(X:Cx)(ts:List bQ)(t:yA):[P]:=[xt,B,[cR],us,[dW],[rt],bq B us,t B σ H Q,assignInOrder [vS,ts] us,λ_ s'=>∃S H',ak X pins S H' s'/\Q S H']
abbrev Ai:=V->V->V->Hp->([dM])->[P]
def AR(X:Cx)(t:Ai):[P]:=∀(pins:[eH])(s:aD)(σ:St)(H:Hp)(o i v:V)(j O u:aq)(Q:[dM]),([ah])->bB o j->bB i O->([i2])->t o i v H Q->[hI,uG j O u,λ_ s'=>∃H',[qX]/\Q H']
abbrev Bu:=[qW]
def BH(X:Cx)(j:Operator)(t:Bu):[P]:=[wU,x,y,v,u,t x y H Q,Tr j v u]
section
variable{X:Cx}{pos:eo}
def lg(i:Nat):TG:=λv σ H Q=>Q [oo,v] H
def vc(hN:X.N.Nodup)(hi:[cl])(L:[o_])(q:[l5]:=by rw[cW]):PG X [ou] (lg i):=by intro pins s σ H v u Q I r h;exact ai1 (BN I hN hi L r (λs' B=>#[_,H,B,h]) q)
def QW:yA:=λB σ H Q=>B=[]/\Q σ H
def Hb(t:TG)(u:yA):yA:=λB σ H Q=>∃v r,B=v::r/\t v σ H λS H'=>u r S H' Q
def abI:AM X [] QW:=by rw[c1];rw[M,e,h,h];rw[bh,e,assignInOrder_nil [f]]
def NE(h1:PG X e t)(h2:AM X es u)(q:[vS,[jE]]=uE e X.env::[vS,es]:=by rfl):AM X [jE] (Hb t u):=by rw[c1];rw[ag,v,n,z,h,h];subst z;cases r with|cons r G=>rw[cm,q,assignInOrder_cons (a8 (h1 _ s _ H _ _ _ I r h) λ_ L#[j,H1,S,W]=>?_)];exact h2 _ _ _ _ _ _ Q S G W
def L7(K:aQ)(n:Nat)(t:yA):TG:=λv σ H Q=>∃a xs,v=[aL]/\[vJ]/\[cF]=n/\t xs σ H Q
def Xs{k}(O:[cG])(h:AM X es t)(J:[Q,uF es X.env]=n:=by rfl)(B:(uF es X.env).findIdx? (·.1)=ag:=by rfl):PG X (.Tuple es k pos) (L7 X.K n t):=by intro pins s σ H v u Q I r W;rw[am,a,xs,q,z,U,W,W];subst q;cases r;rw[ag,az,G,j,N,[e_,z]];rw[d8,assign_Tuple_tuple [e4] j (by simp[J,<-U,G.length]) B λh' L=>?_,h _ _ _ H _ _ Q (I.kept [dC,L b o [tw] e]) [f] W]
def aaj(to F:TE)(t:Ai):TG:=λv σ H Q=>to σ H λo H1=>F σ H1 λi H2=>t o i v H2 λz=>Q σ z
def K7(J:[o1])(hi:PE X i F)(q:AR X t)(ha:∀v,uE (.Subscript o i pos) X.env v=(do let j←iC [v] [eN,o];let O←iC [v,j] [eN,i];pb pos;iC [v,j,O] (uG j O v);zd [v,j,O] []):=by intro _;rfl):PG X (.Subscript o i pos) (aaj to F t):=by intro pins s σ H v u Q I r h;rw[aT,kh [dL,[n6],j,U,x,H1,B,G,z],kh [dL,hi _ _ _ _ _ B z,O,s2,y,H2,S,L,W]];rw[an,wm [aJ,kh (a8 (q _ _ _ _ x y v _ _ u _ S G L r W) λ_ N#[H3,n,Z]=>?_)]];exact wpAny_release [f]
def py(te:TE)(g:TG):TS:=λD σ H=>[ws,x,g x σ H1 D.nx]
def J1(j:[h0])(J:PG X tg g)(O:[C',[tg]]:=by rfl)(W:IW [tg] e X.env=bx ag:=by rfl)(h1:[vS,[tg]]=[uE tg X.env]:=by rfl):[sn,tg,e,pos,te,g]:=by rw[aS,D,h,wpAny_Assign_stores [ku,j _ s _ H _ I h,N,S,L,z] O W];rw[V,h1,a8 (J _ _ _ _ x v _ S L z) λ_ G q=>q]
def yr(hN:X.N.Nodup)(hi:[cl])(L:[o_])(O:[h0])(q:[j6,e,aa [E5]]:=by rfl)(W:[l5]:=by rw[cW]):[sn,[E5],e,pos,te,lg i]:=by rw[aS,D,h,wpAny_Assign_Name [dL,[r4],v,N,y,H1,j,J,z] q];exact BN j hN hi L J (λG S=>#[_,H1,S,z]) W
def Xh(i:Nat)(te:TE)(F:Bu):TS:=λD σ H=>∃x,[aZ,σ,aa x]/\[ws,y,F x y H1 λz H2=>D.nx [oo,z] H2]
def Px(hN:X.N.Nodup)(hi:[cl])(L:[o_])(he:[h0])(J:BH X j F)(hf:[l5]:=by rw[cW]):[hF,.AugAssign [E5] j e pos,Xh i te F]:=by
 rw[ci];rw[aM,v,e1,h,h,m,N,U,I.loc];have EK:[fQ]:=by rw[aJ,L,k,k];exact [H,k];exact [e6,k]
 rw[aK,u,r,l,U i x v hi e1 EK,wpAny_AugAssign_Name ?_];have go:[hI,[eN,e],λw S=>[gc,Tr j u w,λr q=>[gc,Tq X.env x r,λ_=>SP X pins D .next,q],S]]:=by rw[ai,[dL,he _ s _ H _ I h,w,s1,y,H1,I1,r1,q1],[dL,J _ _ _ _ v y u w _ I1 r r1 q1,z,s2,G,H2,I2,n,q2]];exact BN I2 hN hi L n (λs3 I3=>#[_,H2,I3,q2]) hf
 rcases l with⟨W,Z⟩|⟨W,c,O,B⟩;{exact IR [o2] W N Z go};{rw[aZ,W,W,W,aiX [o2] W O B go];{rw[aJ,L,k,k];{rw[bG,[jW,x]=aa [ec],W]};{rw[bG,[jW,x]=[cj],W]}}}
def Wq(to F te:TE)(n:[qW])(q:Bu)(B:Ai):TS:=λD σ H=>to σ H λo H1=>F σ H1 λi H2=>n o i H2 λx J=>te σ J λy L=>q x y L λz j=>B o i z j λU=>D.nx σ U
def L'(X:Cx)(t:[qW]):[P]:=[wU,o,i,j,O,t o i H Q,wo j O]
def Pz(ho:[o1])(hi:PE X i F)(hg:L' X n)(he:[h0])(hp:BH X j q)(U:AR X B)(ha:∀z O new,[wX,i,z]:=by intros;rfl):[hF,.AugAssign (.Subscript o i tpos) j e pos,Wq to F te n q B]:=by rw[ci];rw[ai,wpAny_AugAssign_SubscriptAny [dL,ho _ s _ H _ I h,z,s1,x1,H1,I1,N,q1] ha,[dL,hi _ _ _ _ _ I1 q1,O,s2,x2,H2,I2,G,q2]];rw[ai,[dL,hg _ _ _ _ _ _ _ _ _ I2 N G q2,S,s3,x3,H3,I3,r3,q3],[dL,he _ _ _ _ _ I3 q3,v,s4,J,H4,I4,W,q4]];rw[d8,[dL,hp _ _ _ _ _ _ _ v _ I4 r3 W q4,new,s5,x5,H5,I5,r5,L],a8 (U _ _ _ _ _ _ _ _ _ _ _ I5 N G r5 L) λ_ Z#[H6,I6,q6]=>#[σ,H6,I6,q6]]
def MF(f:[o7,Int]):Bu:=[xO,Q [l,f i j] H]
def NU:BH X .Add (MF λi j=>i+j):=[Jw,ai2 [o']]
def KY:BH X .Sub (MF λi j=>i-j):=[Jw,isub_int [o']]
def adO(c:TT)(tb:TS):TS:=λD σ H=>∃S:Nat->[rt],(∃m,S m σ H)/\∀m σ H,S m σ H->c σ H λb H1=>[ap,b,∃N:[rt],(∀B H',N B H'->∃G,G<m/\S G B H')/\tb [KZ] σ H1,D.nx σ H1]
def Zo(Z:[sv,X.xe])(O:PT X c tc)(J:fO X body tb):[hF,.While c body [] pos,adO tc tb]:=by rw[ci];obtain⟨S,⟨m0,w0⟩,turn⟩:=h;refine wpAny_While (codeAny_whileLoop (λn s'=>∃G H',ak X _ G H' s'/\S n G H') ?_ _ #[σ,H,I,w0]);rintro n s1⟨j,H1,I1,w1⟩;refine wp Z (a8 (O _ _ _ _ _ I1 (turn n _ _ w1)) λb s2#[H2,I2,B]=>?_);cases b with|true=>(rw[aK,N,hN,B,B,wp Z (a8 (J _ _ _ _ _ I2 B) λf s3 q=>?_)];cases f with|next=>rw[ag,z,F,U,W,q];rw[bx,m',hm,L,hN _ _ W,#[m',hm,z,F,U,L]]|cont=>rw[ag,z,F,U,W,q];grind|brk=>exact q|ret v=>exact q)|false=>exact CZ #[j,H2,I2,B]
end
structure It where
 go : Nat → Hp → Prop
 AT : Nat → Hp → V → Hp → Prop
 stop : Nat → Hp → Prop
def hC(X:Cx)(pins:[eH])(H:Hp)(b:ai):[P]:=[fz]/\b≠[gE]/\b∉X.fs/\[Be,b]/\[ur,b]/\[x9,b]
def ak.ju{σ:St}{b:ai}(I:[ah])(J:[ar]<=b)(U:[iO]):hC X pins H' b:=by refine#[U,gk (hc I.lt J),I.agH J,[eJ,c9 I.sz J],λx c e z=>?_,λp L z=>?_];{rw[aG,v,q,[sX],[c_,hc q.lt [f],qw _]]};{rw[be,hc (bF [M,I.eI p L]) [f],qw _]}
structure mX (P : cP) (w : cz) (K : aQ) (tg : bQ) (J : It) (fp : List ai) (it : ai) (tn : Nat → bP → Prop) : Prop where
 mem : it ∈ fp
 obj : ∀ i h, tn i h → ∀ b ∈ fp, ∃ o, h.get? b = aa o ∧ ∀ v, o.data ≠ .cell v
 keep : ∀ i h h', tn i h → (∀ b ∈ fp, ∀ o, h.get? b = aa o → h'.get? b = aa o) → tn i h'
 item : ∀ (X : Cx), X.prog = P → X.w = w → X.K = K → X.ci = ae → ∀ (i : Nat) (pins : List (ai × bn)) (s : aD) (σ : St) (H : Hp) (E : aq → aD → Prop), ak X pins σ H s → (∀ b ∈ fp, hC X pins H b) → tn i s.heap → J.go i H →
  aE (aK P w) X.A (jg (.ref it)) (fun r s1 => ∃ u, r = aa u ∧
   aE (aK P w) X.A (Tt tg (.ref it) u) (fun _ s2 => ∃ x H', ak X pins σ H' s2 ∧ bB x u ∧ J.AT i H x H' ∧ tn (i + 1) s2.heap ∧ ∀ b ∈ fp, H' b = ag) E s1) E s
 done : ∀ (X : Cx), X.prog = P → X.w = w → X.K = K → X.ci = ae → ∀ (i : Nat) (pins : List (ai × bn)) (s : aD) (σ : St) (H : Hp) (E : aq → aD → Prop), ak X pins σ H s → (∀ b ∈ fp, hC X pins H b) → tn i s.heap → J.stop i H →
  aE (aK P w) X.A (jg (.ref it)) (fun r s1 => r = ag ∧ ak X pins σ H s1) E s
 self : ∀ (A : dc) (i : Nat) (s : aD) (Q : aq → aD → Prop) (E : aq → aD → Prop), tn i s.heap → Q (.ref it) s → aE (aK P w) A (ze (.ref it)) Q E s
abbrev TI:=[r8,It]
def Bv(X:Cx)(pins:[eH])(σ:St)(tg:bQ)(R:It->[dM])(B:aq)(q:aD):[P]:=∃(it:ai)(O:[bc])(F:Nat->bP->[P])(J:It)(H':Hp),B=[gS]/\[c7,H',q]/\mX X.prog X.w X.K tg J O it F/\F 0 q.heap/\[qy,O,H']/\R J H'
def PI(X:Cx)(tg F:bQ)(B:TI):[P]:=[pL,R,It->[dM],B σ H R,[eN,F],λv j=>[gc,ze v,Bv X pins σ tg R,j]]
def Ar(J:[bJ,it,o])(O:o.cls=[bT,n])(hd:o.data=.fields B)(z:[tj,[AQ],n])(q:Q () s):[eF,M,Tt tg [gS] u]:=by cases tg<;>first|exact bg q|(cases u<;>first|exact bg q|(rw[an,Tu J ?_];rw[O,hd];show [eF,M,if [a3,[AQ].contains n&&B[0]?==[cj]]then _ else _];rw[V,[nw],bg q]))
def AO(K:aQ)(a:ai):It:=[F',[lT,xs]]
def G0(K:aQ)(a:ai):It:=[F',[vJ]]
def xl(lo:Int)(n:Nat):It:=#[λi _=>i<n,λi H x H'=>H'=H/\x=[l,lo+i],λi _=>n<=i]
def QJ{K}(a it:ai):[x2,AO K a,[wA,it,a]]where
 mem:=by simp
 obj:=[A']
 keep:=[qu,st.at λo e=>k _ (by simp) o e]
 item:=[FM,[eC,z],wpAny_pyNext_list_item st [kC] (x:=u) [f] λh' S sb=>?_,I.ve F z]
 done:=[Lu,[eC,z],wpAny_pyNext_list_end [e4] st [kC] [f] [Km]]
 self:=λ_ _ _ _ _ st h=>wpAny_pyIter_listiter st h
def aey{K}(a it:ai):[x2,G0 K a,h.IsTupleIter it a i]where
 mem:=by simp
 obj:=[A']
 keep:=[qu,st.at [f]]
 item:=[FM,[e_,z],wpAny_pyNext_tuple_item st [aA,s.heap.IsTuple a _,p] (x:=u) [f] λh' S sb=>?_,I.Nw F z]
 done:=[Lu,[e_,z],wpAny_pyNext_tuple_end [e4] st [aA,[mI,a,[hf]],p] [f] [Km]]
 self:=λ_ _ _ _ _ st h=>wpAny_pyIter_tupleiter st h
def afm{K}(it:ai)(lo:Int)(n:Nat):[x2,xl lo n,IsRangeIter h it (lo+i*1) (n-i) 1]where
 mem:=by simp
 obj:=λi h st b J=>[f]
 keep:=[qu,k _ (by simp) _ st]
 item:=by rw[b1,q,z];rw[c_];refine(Walks.range [e4] it _ 1 n).item i s _ _ z st λv h' tk U L j=>?_;rw[M,t,rfl,U];rw[ad,S,ak X _ _ H [cS,h'],[Dg,[f]],#[_,Y,Ar L Y Y Y #[[b3],H,S,#[t,?_],#[Y,Y],L,λb J=>[M,q b J]]]];grind
 done:=by rw[dq,q,z];rw[c_];exact wpAny_pyNext_range_end [e4] st (by have:n<=i:=z;omega) [Kl]
 self:=λ_ _ _ _ _ st h=>wpAny_pyIter_rangeiter st h
section
variable{X:Cx}{tg:bQ}
def O1(K:aQ)(tl:TE):TI:=λσ H R=>tl σ H λx H1=>∃a,[gA,∃xs,bp K H1 a xs,R (AO K a) H1]
def EU(U:PE X l tl):PI X tg l (O1 X.K tl):=by rw[aS,R,h,[ku,[uO],j,S,L,W]];obtain⟨a,e,⟨xs,z⟩,q⟩:=W;subst e;cases L;rw[ag,az,G,p,B,S.list z];rw[ai,sf [kC] ?_,#[j.heap.objs.size,[[si]],_,_,H1,Y,S.kept [rj],QJ a _,[mv],[fo],q]];rw[cQ,[De]]
def J_{σ:St}{lo hi}(I:[ah])(h1:-[ko]<=lo)(h2:lo<[ko])(z:-[ko]<=hi)(U:hi<[ko])(q:R (xl lo [hj,hi-lo]) H):aE [c6] X.A (ze [fs]) (Bv X pins σ tg R) E [cS,[Bm]]:=by refine wpAny_pyIter_range (IsRange.new ..) (small_one h1 h2 z U) ?_;rw[ad,S,ak X _ _ H [cS,[Bm]],I.kept [rj],#[[dh,[ol]],[[dh,[ol]]],_,_,H,Y,S.kept [rj],afm _ _ _,?_,[fo],q]];{rw[D,L,lo+[bd,0]*1=lo,by simp,j,[hj,hi-lo]-[bd,0]=aqo lo hi 1,[cz,rangeSize_one]];rw[a5,L,j,[cs]]};{have e:b=[dh,[Bm]]:=[f];rw[bh,e,[De]]}
def ZL(ta:TA):TI:=λσ H R=>[nj,B,H1,∃j:Int,B=[[c2]]/\-[ko]<=j/\j<[ko]/\R (xl 0 j.toNat) H1]
def Xz(ta:TA):TI:=λσ H R=>[nj,B,H1,∃i j:Int,B=[[aQ],[c2]]/\(-[ko]<=i/\i<[ko]/\[uz,j])/\R (xl i [hj,j-i]) H1]
def V'(J:[Av])(W:[zm])(U:PA X [a] ta)(O:[pD,a,a]:=by rfl):PI X tg [kU,"range",[a]] (ZL ta):=by rw[aS,R,h,Call_ (oV I J W boot_range (C0 [dL,U _ _ s _ H _ I h,us,Z,B,H1,S,N,z] O Y))];rw[ab,j,e,z,L,q,z];subst e;cases N with|cons r G=>cases G;rw[aG,t,rfl,r,call_range_1 (J_ S [g] [g] z L [f])]
def aaC{p pos}(J:[Av])(U:[zm])(O:PA X [ig] ta)(n:[Jr]:=by rfl)(z:[rg]:=by rfl):PI X tg [kU,"range",[ig]] (Xz ta):=by rw[aS,R,h,Call_ (oV I J U boot_range (C0 [dL,O _ _ s _ H _ I h,us,s1,B,H1,S,N,W] [f] [bP,z]))];obtain⟨i,j,e,⟨W,L,F,q4⟩,q⟩:=W;subst e;cases N with|cons r G=>cases G with|cons Z G=>cases G;rw[cw,r,Z,call_range_2 (J_ S W L F q4 q)]
def Xu(F:TI)(g:TG)(tb:TS):TS:=λD σ H=>F σ H λJ H1=>∃S:Nat->Nat->[rt],(∃m,S 0 m σ H1)/\∀i m σ H,S i m σ H->(J.stop i H/\D.nx σ H)\/(J.go i H/\∃N:[rt],(∀B H',N B H'->∃G,G<m/\S [aa] G B H')/\∀x H',J.AT i H x H'->g x σ H' λj H2=>tb [KZ] j H2)
def om(J:[bc])(h:bP):[eH]:=J.filterMap λb=>[cp,h.get? b,o,(b,o)]
def vM(J:b∈O)(e:[kx]):(b,o)∈om O h:=uk.mpr [f]
def aeO(L:p∈om O h):[L]∈O/\[de,[L],[Z]]:=by rw[K,b,J,e,uk.mp L];cases q:h.get? b with|none=>grind|some o=>grind
def ak.pinned{σ:St}(I:[ah])(W:[qy,O,H])(q:[ev,O,[Kb]]):ak X (pins++om O s.heap) σ H s:=I.M' λp L=>(cs.mp L).elim (λz=>I.eI p (pc _ z)) λz=>by rw[M,J,e,aeO z];obtain⟨f0,f1,f2,_⟩:=W _ J;rw[K,o,G,d,q _ J];grind
def ak.uX{σ:St}(I:ak X (pins++pl) σ H s):[ah]:=I.M' [DQ]
def acM(hp:[sv,X.xe])(O:[cG])(hi:[vr])(hg:PG X tg g)(J:fO X body tb)(hs:[k3]:=by intro _;rfl):[hF,.For tg F body [] pos,Xu wi g tb]:=by rw[aS,D,h,wpAny_For (a8 (hi _ s _ H _ I h) λv s1 h1=>a8 h1 λSe s2 h2=>?_) hs];obtain⟨it,fp,tn,qh,H2,e,I2,T,t_,f2,S,⟨m0,w0⟩,turn⟩:=h2;subst e;rw[ad,nz,∀{H'},([ev,fp,[iO]])->[ev,fp,hC X _ H' b],λhn b J=>#[hn b J,[bq,f2 b J]],codeAny_forLoop_any (λn s'=>∃i mu H',ak X _ mu H' s'/\tn i [jI]/\[ev,fp,[iO]]/\S i n mu H') ?_ m0 #[0,σ,H2,I2,t_,λb J=>[M,f2 b J],w0]];rintro n s3⟨i,z,H3,I3,v1,q,L⟩;rcases turn i n _ H3 L with⟨stop,qn⟩|⟨go,N,hN,step⟩;{refine wp hp (a8 (T.done X Y Y Y O i _ s3 z H3 X.xe I3 (nz q) v1 stop) λr s4#[hr,I4]=>?_);rw[bh,hr,CZ #[z,H3,I4,qn]]};{refine wp hp (a8 (T.item X Y Y Y O i _ _ _ _ _ I3 (nz q) v1 go) λr s4#[u,hr,h4]=>?_);subst hr;rw[ai,wp hp (a8 h4 λ_ s5#[x,H5,I5,r5,B,qm,U]=>?_),wp hp (a8 (hg _ s5 _ H5 x u _ (I5.pinned (nz U) (T.obj _ _ qm)) r5 (step x H5 B)) λ_ Z#[σ6,H6,I6,q6]=>?_)];refine wp hp (a8 (J _ Z _ H6 _ I6 q6) λf s7 G=>?_);(have again:∀{j}{H7},ak X _ _ H7 s7->N _ H7->∃m,m<n/\∃i mu H',ak X pins mu H' s7/\tn i _/\[ev,fp,[iO]]/\S i m mu H':=λ{j H7}I7 n7=>by rw[aK,m',hm,W,hN _ H7 n7,#[m',hm,[aa],j,H7,I7.uX,T.keep _ _ _ qm λb J o e=>[M,I7.eI _ [x5]],[fo],W]];rw[bx,o,e,d,T.obj _ _ qm b J,[ak,I7.eI _ [x5]]]);cases f with|next=>rw[dH,j,H7,I7,n7,G,again I7 n7]|cont=>rw[dH,j,H7,I7,n7,G,again I7 n7]|brk=>rw[dH,j,H7,I7,G,G,#[j,H7,I7.uX,G]]|ret v=>rw[am,x7,j,H7,I7,r7,G,G];exact#[x7,j,H7,I7.uX,r7,G]}
end
abbrev R2:=[qW]
def cI(X:Cx)(f:aq->aq->Sem aq)(r:R2):[P]:=[wU,x,y,v,u,r x y H Q,f v u]
def FI(X:Cx)(f:aq->Sem aq)(r:V->[nE]):[P]:=[xt,x,V,v,aq,VK,bB x v,r x H Q,f v,[jl]]
def fy(X:Cx)(f:aq)(r:[p3]):[P]:=[xt,xs,[cR],us,[dW],VK,[iK],r xs H Q,gS f us,[jl]]
def kv(r:R2)(ta tb:TE):TE:=[pV,[zu,r x y H2 Q]]
def tUn(r:V->[nE])(ta:TE):TE:=[pV,r x H1 Q]
def rI(C:[o7,[P]])(g:[o7,V]):R2:=[xO,C i j/\Q (g i j) H]
def oa(g:[o7,V]):R2:=[xO,Q (g i j) H]
def rU(g:Int->V):V->[nE]:=λx H Q=>∃i,x=[aQ]/\Q (g i) H
section
variable{X:Cx}{a b c:bQ}{ta tb tc:TE}{pos:eo}
def Gp(L:[iF])(J:[m1]){σ:St}{R:V->V->[dM]}(I:[ah])(h:[w0,[zu,R x y H2]]){f:aq->aq->Sem aq}(Z:[G8]):[HC]:=by rw[ai,[ku,[r9],N,j,U,z],[I4]];grind
def xa(L:[lK,j,r])(O:[iF])(J:[m1]):[cn,.BinOp a j b pos,kv r ta tb]:=by rw[bH];exact wpAny_BinOp [HT,O]
def afu(J:FI X (unaryOp j) r)(L:[iF]):[cn,.UnaryOp j a pos,tUn r ta]:=by rw[bH];exact UnaryOp_ [eU,[r9],v,G,x,H1,S,z,q,J _ _ _ _ x v Q S z q]
def DW{g:[o7,Int]}(rule:[KK,C i j,[Bj,g i j,[DL]]]):cI X f (rI C [q0,g i j]):=by rw[ce];rw[am,i,j,rfl,rfl,O,q,h];rw[cw,z,N,rule i j t _ s _ _ O [o']]
def K_{g:[o7,Int]}(rule:∀(i j:Int)(t u:iz)(s:aD)(Q:[em])(E:[em]),[Bj,g i j,[DL]]):cI X f (oa [q0,g i j]):=[KV,[o']]
def Ca{g:[o7,Bool]}(rule:[KK,Q (.bool (g i j)) s,aE [c6] X.A [DL] Q E s]):cI X f [sy,g i j]:=[KV,[k_,I]]
def FF(i j:Int):[P]:=[Eu,i]\/[Eu,j]
def FF.ok(h:FF i j):IntMulOk i j:=by rcases h with⟨h1,h2⟩|⟨h1,h2⟩;rw[aq,.of_left (intBits_le_64 h1 h2),.of_right (intBits_le_64 h1 h2)]
def aeV:[lK,.Add,oa [q0,i+j]]:=K_ λ_ _ _ _ _ _ _ q=>add_int q
def ag5:[lK,.Sub,oa [q0,i-j]]:=K_ λ_ _ _ _ _ _ _ q=>sub_int q
def aeF:[lK,.Mult,rI FF [q0,i*j]]:=DW λ_ _ _ _ _ _ _ O q=>mul_int q O.ok
def aa2:[lK,.Mod,rI (λ_ j=>0<j) [q0,i%j]]:=DW λi j _ _ _ _ _ O q=>by exact mod_int' [g] [f]
def XP{g:Int->Int}(rule:∀(i:Int)(t:iz)(s:aD)(Q:[em])(E:[em]),[Bj,g i,f [sp]]):FI X f (rU λi=>[l,g i]):=by intro pins s σ H x v Q I N h;rw[K,i,rfl,q,h];rw[aG,t,rfl,N,rule i t s _ _ [o']]
def aen:FI X (unaryOp .USub) (rU λi=>[l,-i]):=XP λ_ _ _ _ _ q=>neg_int q
end
def Rn:V->V->Bool|[aY],[aY]=>ae|[aY],[b3]=>ae|[b3],[aY]=>ae|[aY],[eO]=>ae|[eO],[aY]=>ae|[aY],[dE]=>ae|[dE],[aY]=>ae|[b3],[b3]=>ae|[eO],[eO]=>ae|[dE],[dE]=>ae|.lu _,.lu _=>ae|[b3],[dE]=>ae|[dE],[b3]=>ae|[eO],[dE]=>ae|[dE],[eO]=>ae|_,_=>af
def Yx:R2:=[d4,Rn x y=ae/\[iS,ao (x=y)]]
def rNe:R2:=[d4,Rn x y=ae/\[iS,! ao (x=y)]]
def zS:ao (V.int i=V.int j)=(i==j):=[f]
def Q9:ao (V.bl i=V.bl j)=(i==j):=[f]
def Ry:ao (V.str i=V.str j)=(i==j):=[f]
def RE:ao (V.lu i=V.lu j)=(i.toList==j.toList):=[ey,gZ]
section
variable{X:Cx}{a b c:bQ}{ta tb tc:TE}{pos:eo}
def d8{σ:St}(I:[ah])(q:[iS,k])(e:k=G):EP X pins σ Q (.bool G) s:=[bh,e,#[[bj,k],H,I,Y,q]]
def XJ:[dD,.Eq,Yx]:=by rw[ce];rw[M,O,q,h];cases x with|a0=>cases z;rw[cb,y,N,aqp [el],j,aqq [el],t',aqr [el],aqs [el],O]|bl i=>rw[fv,aqt [el],eq_bool [ne,Q9],aqu [el]]|int i=>rw[fq,aqv [el],eq_int [ne,zS],aqw [el]]|str i=>rw[cP];rw[cb,y,N,aqx [el],j,aqy [el],t',aqz [el],eq_str [ne,Ry],O]|lu i=>(rw[cP];cases y with|lu j=>rw[aG,t',rfl,N,PySem.W.eq_bytes [ne,RE]]|_=>rw[db])|_=>cases y<;>exact [c_,[tq,O],iN]
def aaX:[dD,.NotEq,rNe]:=by rw[ce];rw[M,O,q,h];cases x with|a0=>cases z;rw[cb,y,N,aqA [el],j,aqB [el],t',aqC [el],aqD [el],O]|bl i=>rw[fv,aqE [el],ne_bool [ne,jN not Q9],aqF [el]]|int i=>rw[fq,aqG [el],ne_int [ne,jN not zS],aqH [el]]|str i=>rw[cP];rw[cb,y,N,aqI [el],j,aqJ [el],t',aqK [el],ne_str [ne,jN not Ry],O]|lu i=>(rw[cP];cases y with|lu j=>rw[aG,t',rfl,N,PySem.W.ne_bytes [ne,jN not RE]]|_=>rw[db])|_=>cases y<;>exact [c_,[tq,O],iN]
def UJ:[dD,.Lt,[sy,ao (i<j)]]:=[yt,ai3 q]
def yg:[dD,.LtE,[sy,ao (i<=j)]]:=[yt,le_int q]
def Z3:[dD,.Gt,[sy,ao (j<i)]]:=[yt,gt_int q]
def agZ:[dD,.GtE,[sy,ao (j<=i)]]:=[yt,ge_int q]
def Nj:[dD,.Is,[d4,y=[aY]/\[iS,ao (x=[aY])]]]:=[IS,is_none_gen (d8 I q ?_)]
def Rk:[dD,.IsNot,[d4,y=[aY]/\[iS,! ao (x=[aY])]]]:=[IS,isnot_none_gen (d8 I q ?_)]
def cI.or(h:cI X f r)(h':cI X f j):cI X f [d4,r x y H Q\/j x y H Q]:=by rw[bC,y,u,z,N,q];rw[d_,q,q,q,h _ s _ H x y v u Q I z N q,h' _ s _ H x y v u Q I z N q]
def rj(b:bQ)(h:j≠.In:=by rw[af])(h2:j≠.NotIn:=by rw[af]):[wo]:=by rw[D,z,[bH,j,CmpOp.In],[f],q,[bH,j,CmpOp.NotIn],[f]];cases b<;>simp[r_,z,q]
def yf(L:[dD,j,r])(U:[iF])(J:[m1])(O:[wo]):[cn,[jf,j],kv r ta tb]:=by rw[bH];exact wpAny_Compare1 [HT,U] O
def Pw(t:TE):TT:=λσ H Q=>t σ H λx H'=>∃k,x=[bj,k]/\Q k H'
def yB(q:[dD,j,r])(G:[iF])(J:[m1])(O:[wo]):PT X [jf,j] (Pw (kv r ta tb)):=by rw[aS,Q,h,aiZ [eU,G _ s _ H _ I h,v,s1,x,H1,F,r1,N,[eU,J _ _ _ _ _ F N,u,s2,y,H2,Z,L,n,a8 (q _ _ _ _ x y v u _ Z r1 L n) λc s3#[z,W,S,B,k,e,U]=>?_]] O];subst e;rw[aU,B,nW #[W,S,U]]
def Ey(r G:R2)(ta tb tc:TE):TE:=[pV,[zu,r x y H2 λz J=>∃k,z=[bj,k]/\[ap,k,tc σ J λj q=>G y j q Q,Q [bj,af] J]]]
def VQ(L:[dD,j,r])(N:[dD,n,r'])(Z:[iF])(J:[m1])(O:PE X c tc)(W:Tv [j,n] [b,c]=af:=by with_unfolding_all rfl):[cn,[Ld],Ey r r' ta tb tc]:=by rw[aS,Q,h,Compare_chain [eU,Z _ s _ H _ I h,v,s1,x,H1,I1,r1,q1,chain_link [Ha,L _ _ _ _ x y v u _ I2 r1 q q2,F]] W];subst e;cases F;refine nW ?_;cases k with|false=>exact ite_ff #[[eO],H3,S,Y,U]|true=>exact ite_tt (chain_last [eU,O _ _ _ _ _ S U,w',s4,z',H4,G,B,q4,N _ _ _ _ y _ u _ Q G q B q4])
def abB(W:[dD,j,r])(N:[dD,n,r'])(ha:[iF])(J:[m1])(O:PE X c tc)(Z:Tv [j,n] [b,c]=af:=by with_unfolding_all rfl):PT X [Ld] (Pw (Ey r r' ta tb tc)):=by rw[aS,Q,h,isTrue_chain [eU,ha _ s _ H _ I h,v,s1,x,H1,I1,r1,q1,test_link [Ha,W _ _ _ _ x y v u _ I2 r1 q q2,r3]] Z];subst e;cases r3;refine nW ?_;cases k with|false=>rw[K,k',e',q',U];rw[aU,e',ite_ff #[H3,S,q']]|true=>refine ite_tt (test_last [eU,O _ _ _ _ _ S U,w',s4,z',H4,G,B,q4,a8 (N _ _ _ _ y _ u _ _ G q B q4) λd' s5#[z2,F,I5,r5,k2,e2,L]=>?_]);subst e2;rw[aU,r5,nW #[F,I5,L]]
def tH:bS<2^63:=[af]
def ZT:[lK,.Add,[d4,∃i j,x=[K,i]/\y=[K,j]/\i.length+j.length<=bS/\Q [K,i++j] H]]:=by rw[ce];rw[am,i,j,rfl,rfl,L,q,h];rw[cw,z,N,add_str (λt' tk=>[wV,[dE]]) L]
def lQ(r:bq [x] us):∃u,us=[u]/\bB x u:=by cases r with|cons j q=>rw[bO];grind
def Go(r:bq [x,y] us):∃u j,us=[u,j]/\bB x u/\bB y j:=by cases r with|cons J L=>cases L with|cons z q=>rw[bO];grind
def agO(O:[cG]):[kb,"max",[ID,j>i]]:=[Ge,max_two_ints [e4] [JZ],j>i]
def Yt(O:[cG]):[kb,"min",[ID,j<i]]:=[Ge,min_two_ints [e4] [JZ],j<i]
def VG:[sM,[bT,"str"],xs,∃i,xs=[[aQ]]/\i.natAbs.log2<1920/\Q [K,kK i] H]:=by rw[cu];rw[ag,i,rfl,z,q,h];rw[dH,u,rfl,t,rfl,lQ r,PySem.P.str_of_int z [wV,[dE]]]
def agM:[kb,"ord",λxs H Q=>∃x,xs=[[K,x]]/\[eS]=1/\Q [l,x.cps.getD 0 0] H]:=by rw[cu];rw[ag,x,rfl,z,q,h];rw[dH,u,rfl,t,rfl,lQ r,ord_of_one z [o']]
end
structure sR (h : bP) (x dx C : ai) (mA : au → Option aq) : Prop where
 obj : h.get? x = aa (zc C dx)
 ns : h.Ns1 dx mA
 ne : dx ≠ x
def ab1{h:bP}(n:[s5]):∃j,[de,dx,j]/\[K8]:=by obtain⟨o,es,ep,J,hd,q,_,O⟩:=n;refine#[o,J,λname=>?_];have e:=O name;unfold nsFind findBy at e;rw[aP,Array.find?_toList,e];rw[dV,IY,hd];dsimp only;split;rw[ar];{rw[eT,a,es.toList.any (·.refKey)=af,by rw[SY];intro y L;rw[K,z,t,B,q y [f]];simp[DictEntry.refKey,B]]}
def sR.look(I:sR h x dx C mA):∃j,PySem.W.InstAt h x (zc C dx) C (aa j)/\[K8]:=let#[j,q,U]:=ab1 I.ns;#[j,#[I.obj,Y,Y,q],U]
section
variable{prog:cP}{w:cz}{A:dc}{E:aq->aD->Prop}{s:aD}{K:aQ}{x dx C f:ai}{mA:au->Option aq}{name:au}{v:aq}
def ad8(X:[qT])(I:[DJ])(q:C1 K C name=ae)(hh:IZ K C=ae)(L:[rC,name]=aa ag)(W:mA name=[cX])(N:ai4 v=ae)(h:Q v [tK,s,s.toks+1]):[dS,C2 [eA] name j]:=[bx,z,J,U,I.look,PySem.W.get_value X J [M,Tw q] (PySem.W.findObj_own hh L Y [f]) N h]
def afQ(X:[qT])(I:[DJ])(q:C1 K C name=ae)(O:[rC,name]=aa [er,f])(j:uH K [hC]=ae)(W:mA name=ag)(h:Q ([hC],[[eA]]) s):[dS,zf [eA] name pl]:=[bx,z,J,U,I.look,PySem.W.method_fn X J [M,Tw q] [bq,Tw q] O (ip.mp j) ([h_,[fO,IY _ _]=[cj]]) h]
def ab7(X:[qT])(I:[DJ])(Z:[rC,"__setattr__"]=aa [gF,"object.__setattr__"])(hp:Tx K C=ae)(ht:Tz K C name=aa ag)(hh:IZ K C=ae)(W:IN mA ns)(i8:[gL]<=bS)(h:∀h',sR h' x dx C (λy=>[fc,y,name,v,mA y])->wk dx s.heap h'->Q () [l7,h',s.toks+2]):[dS,zg [eA] name v]:=by rw[aK,od,S,U,I.look,PySem.W.set_plain X S Z (PySem.W.osa_open X S hp ht λb=>?_)];rw[K,G,O,J,PySem.W.any_some hh];rw[an,bg [aJ,[aJ,wpAny_loadPart (I.obj) [aJ,aqL (PySem.W.looks_clsIn X O) ?_]]]];rw[J];rw[ai,bg [aJ,bg [hZ]],wpAny_nsSet1 I.ns λh' L z=>?_];rw[am,n,q,F,j,B,N,L.count (ai5 _ v W)];rw[an,ai6 j [q,B,ai7 [f]] ?_];exact bg (h _ #[[bY,z.2 _ (dt I.ne),I.obj],L,I.ne] z)
def VO(X:[qT])(q:TD K C=ae)(hi:[rC,"__init__"]=aa [er,f])(O:PySem.W.typeIn K [hC]=aa [bT,"function"])(h:jh [g_] [tY,B] (.call [hC] #[[m,[bN]]::B,J]) (PySem.W.InitBack [bN] R) [Lo]):[o4,.call [iR] #[B,J],s]:=by exact PySem.W.make_core (PySem.W.makes_of X q) (PySem.W.looks_findIn X hi) (λself=>PySem.W.bind_fn X _ O) [fa] h
end
def iE(f:au)(v:V):([fy,V])->[fy,V]|[]=>[(f,v)]|(g,x)::r=>[A,g=f,(g,v)::r,(g,x)::iE f v r]
def KI(f g:au)(v:V):∀fs,(iE f v fs).lookup g=[fc,g,f,v,[lt,g]]|[]=>[h_,uI g [(f,v)]=_]|(k,x)::r=>by rw[[Bi]];rw[aE,k=f];rw[ar];{rw[aw q];rw[bo,h,g=k];{simp[uI,(uv.mpr h)];exact(KI f g v r)}}
def DF(f:au)(v:V):∀fs,f∈[lS,iE f v fs]/\∀g,g∈[zD]->g∈[lS,iE f v fs]|[]=>#[by simp[iE],λg h=>[f]]|(k,x)::r=>by rw[M,i1,I,DF f v r];rw[ba,[Bi]]
def N4(f:au)(v:V):∀fs,[aO,iE f v fs,[tv]+1]|[]=>by simp[iE]|(k,x)::r=>by have q:=N4 f v r;rw[ba,[Bi]]
def hE.x_(r:hE [cX] o):∃u,o=aa u/\[i2]:=by cases o with|none=>rw[av,r]|some u=>exact#[u,Y,r]
def hE.XH(r:hE ag o):o=ag:=by cases o with|none=>rfl|some u=>rw[av,r]
def Zw(r:[i2]):ai4 u=ae:=by cases v with|a0=>cases [aA,u=qB,r];rfl|bl b=>cases [aA,u=r9 b,r];rfl|int i=>rw[dc,o_ i t]|str x=>rw[dc,CW x t]|lu b=>rw[dc,To b t]|yo b=>rw[dc,Tp b t]|ref a=>cases [aA,u=da a,r];rfl|ty n=>cases [aA,u=uA n,r];rfl
section
variable{P:cP}{w:cz}{H H':Hp}{h h':bP}{a C dx:ai}{fs fs':List (au×V)}
def FY(aO:[iC])(e:H a=[nZ]):∃mA,sR h a dx C mA/\[CP]/\IN mA [zD]/\[tv]<=1000/\H dx=aa [bn,a]:=by obtain⟨d,z,ne,ob,mA,n,r,q⟩:=[aA,[zr],aO a _ e];exact#[mA,#[ob,n,ne],r,q,z,d]
end
structure kH (K : aQ) (C : ai) : Prop where
 pg : C1 K C Str.empty = ae
 hd : IZ K C = ae
 po : Tx K C = ae
 sa : mH K (.ref C) "__setattr__" = aa (aa (.builtin "object.__setattr__"))
def kH.get{K}(c:kH K C)(f:au):C1 K C f=ae:=c.pg
def oH(K:aQ)(C:ai)(f:au):[P]:=[rC,f]=aa ag
def oH.acO{K}(n:oH K C f):Tz K C f=aa ag:=by unfold Tz;rw[a_,[aA,mH K _ f=[cj],n]]
structure pM (K : aQ) (C : ai) (m : au) (f : ai) : Prop where
 at_ : mH K (.ref C) m = aa (aa (.ref f))
 fn : uH K (.ref f) = ae
 kp : ji K (.ref f) = ae
section
variable{X:Cx}{pins:List (ai×bn)}{σ:St}{H:Hp}{s:aD}{a C dx:ai}{fs:List (au×V)}{f:au}{v:V}{A:dc}{E:aq->aD->Prop}
def Po(I:[ah])(e:H a=[nZ])(c:kH X.K C)(n:oH X.K C f)(l:[lt,f]=[cX])(h:∀u s',([c7,H,s'])->([i2])->Q u s'):[eF,[c6],C2 [aL] f b]:=by obtain⟨mA,O,r,_,_,_⟩:=FY I.aO e;rw[bx,u,hu,L,hE.x_ (v:=v) (o:=mA f) [f],ad8 I.dW O (c.get f) c.hd n hu (Zw L) (h u _ [hp] L)]
def DV(I:[ah])(e:H a=[nZ])(c:kH X.K C)(k:pM X.K C m g)(l:[lt,m]=ag)(h:Q ([m,g],[[aL]]) s):[eF,[c6],zf [aL] m pl]:=by obtain⟨mA,O,r,_,_,_⟩:=FY I.aO e;exact afQ I.dW O (c.get m) k.at_ k.fn (hE.XH [f]) h
def Ma(I:[ah])(e:H a=[nZ])(c:kH X.K C)(n:oH X.K C f)(U:[tv]<1000)(N:[hA])(h:[uS,[f3,.aW C dx (iE f y fs)],()]):[eF,[c6],zg [aL] f u]:=by obtain⟨mA,O,r,B,_,W⟩:=FY I.aO e;rw[ad,L,[aO,[zD],bS],by rw[aR,kZ];omega,ab7 I.dW O c.sa c.po n.acO c.hd B L λh' j Z=>h _ ?_];have hd:∃o,h'.get? _=[a']:=let#[o,_,_,S,_]:=j.ns;#[o,S];rw[ai,I.write [yP] [aC,W] (λb q J z=>[bY,Z.2 b J,z]) hd ?_,#[[ba,aX O.ne],?_,O.ne,j.obj,_,j.ns,λg=>?_,λg G=>?_]];{rw[aN,N4 f y fs]};{rw[KI];rw[aE,g=f];{rw[a5,aJ q,aJ q,N]};grind};{rw[aE,g=f];{rw[V,q,[M,DF f y _]]};{rw[gM,(DF f y _).2 g (B g λz=>G ?_)]}}
def ak.made(I:[ah]):[c7,[xC,[ar],[bN],C],[Lo]]:=by rw[ay,z,[pc,[hR,C4]]=[cj],[cs],j,by have:=cZ [hR,C4] (o:=zc C [ar]) Y;rwa [gp]at this];rw[ad,B,[ol].Ns _ _,#[C4,[cd],_,z,Y,(λe O=>[ga,O]),[bL]],(I.laid (o:=[pg]) (t':=s.toks) [Fa] (by simp) #[_,z]).laid [Fa] (by simp) ?_];rw[ad,ne,[ar]≠[bN],di (by simp),#[by rw[aX ne,bW],[f7],ne,j,[mY],(ai8 B).at λo q=>[kI],λ_=>True.intro,λy L=>[c_,Y,L]]]
def Pt(J:eF e f env [tH]=[tH])(h:[mD,[tH],λo W=>[mD,C2 o f ae,Q,W],s]):[dS,aM [Dl] env]:=Attribute_any_ h (by rw[arm_eval_Attribute,J])
end
def VN(K:aQ)(ta:TE)(f:au):TE:=[pV,[HF,Q v H1]]
def aat(K:aQ)(ta tv:TE)(f:au):TS:=λD σ H=>tv σ H λy H1=>ta σ H1 λx H2=>∃a C dx fs,[gA,H2 a=[nZ],kH K C/\oH K C f/\[tv]<1000/\D.nx σ (upd H2 a (.aW C dx (iE f y fs)))]
def QV(X:Cx)(j:Operator)(rd:[qW]):[P]:=[wU,x,y,u,v,rd x y H Q,Tr j u v]
def Y'(K:aQ)(ta tv:TE)(rd:[qW])(f:au):TS:=λD σ H=>[w0,[HF,tv σ H1 λy H2=>rd v y H2 λz J=>∃F fs',J a=aa (.aW C F fs')/\fs'.length<1000/\D.nx σ (upd J a (.aW C F (iE f z fs')))]]
section
variable{X:Cx}{o e value:bQ}{f:au}{pos pos' tpos:eo}{ta tv:TE}
def Wn(O:[gC,ta])(J:[eE,e,f]):[cn,[Dl],VN X.K ta f]:=by rw[bP,Q,Pt J (a8 [r4] λu G#[x,H1,j,z,a,C,dx,fs,v,ex,B,c,n,l,q]=>?_),ex,u=da a,z];exact Po j B c n l λN W S L=>#[v,H1,S,L,q]
def Q6(U:PE X o ta)(W:PE X value tv)(O:[j6,value,aa (.Attribute o f pos')]):[hF,.Assign [.Attribute o f pos'] value pos,aat X.K ta tv f]:=by rw[bP,D,ai9 [eU,W _ s _ H _ I h,u,s1,y,H1,L,N,q,a8 (U _ _ _ _ _ L q) λj Z#[x,H2,S,z,a,C,dx,fs,ex,G,c,n,l,J]=>?_] O,ex,j=da a,z];exact Ma S G c n l N λF B=>#[σ,_,B,J]
def aaM(ha:PE X o ta)(hv:PE X value tv)(G:QV X j rd):[hF,.AugAssign (.Attribute o f tpos) j value pos,Y' X.K ta tv rd f]:=by rw[bP,D,wpAny_AugAssign_AttributeAny (a8 (ha _ s _ H _ I h) λov s1#[x,H1,I1,rx,a,C,dx,fs,v,ex,ea,c,n,l,q]=>?_),ex,ov=da a,rx];rw[d8,Po I1 ea c n l λu s2 I2 ru=>[eU,hv _ _ _ _ _ I2 q,L,s3,y,H2,Z,N,W,a8 (G _ _ _ _ v y u _ _ Z ru N W) λS s4#[z,H3,U,B,F,fs',O,J,q4]=>?_],Ma U O c n J B λs5 I5=>#[σ,_,I5,q4]]
def Ve:[qW]:=[xO,Q [l,i+j] H]
def adN:QV X .Add Ve:=by rintro pins s σ H x y u v Q I z N⟨i,j,rfl,rfl,q⟩;rw[cw,[aA,∃t,u=o_ i t,z],[aA,∃t',v=o_ j _,N],ai2 [o']]
def amE{σ:St}(O:[h0])(I:[ah])(h:[ws,x,∃a C dx fs g,[gA,H1 a=[nZ],kH X.K C/\pM X.K C m g/\[lt,m]=ag/\∀L,([c7,H1,L])->[gc,zh pos [m,g] [[aL]] (dE pos [pI,j]) (jl pos (jm [] X.env)),Q,L]]])(W:[CK,e,j,G]):[gc,[eN,[en,e,m,apos,j,pos]],Q,s]:=by refine TF (a8 [r4] λu L#[x,H1,S,N,a,C,dx,fs,g,ex,B,c,k,l,q]=>?_) W;subst ex;obtain rfl:u=da a:=N;exact DV S B c k l (q _ S)
end
structure eL (k : Nat) (A : dc) : Prop where
 hd : A.handled = ag
 dp : A.depth + 3 * k + 5 < uJ
 un : A.units + 16 * k + 200 < dM
def eL.mono(r:eL k A)(h:j<=k):eL j A:=#[r.hd,[aN,r.dp],[aN,r.un]]
def eL.deeper(r:eL [ao] A)(env:jf):eL k (A.deeper env):=#[r.hd,by have:=r.dp;show A.depth+1+3*k+5<_;omega,by have:=r.un;show A.units+3+16*k+200<_;omega]
def KP{A:dc}:[tY,us].depth=A.depth+1:=by rfl
def acT{A:dc}:[tY,us].units=A.units+1:=by rfl
def eL.make(r:eL [ao] A)(C:ai)(us:[h])(J:[h]):eL k [tY,us]:=#[r.hd,by have:=r.dp;rw[cz,KP],by have:=r.un;rw[cz,acT]]
def eL.depth(r:eL k A):A.depth<uJ:=[aN,r.dp]
def eL.units(r:eL k A):A.units+64<dM:=[aN,r.un]
def tw:TA:=λ_ H Q=>Q [] H
def xV(ta:TE)(tr:TA):TA:=[pV,tr σ H1 λxs H2=>Q (x::xs) H2]
section
variable{X:Cx}{e:bQ}{es:List bQ}{te:TE}{t:TA}{pos:eo}
def jp:PA X [] tw:=λ_ _ _ _ H Q I h=>I0 #[[],H,I,[aM],h]
def iZ(J:[h0])(O:PA X es t)(q:[il,es]:=by rfl):PA X [jE] (xV te t):=by intro pos pins s σ H Q I h;rw[cm,q,C5 [dL,[n6],u,N,x,H1,j,G,z]];exact [eU,O _ _ _ _ _ _ j z,us,W,xs,H2,S,L,B,#[x::xs,H2,S,[bF,G,L],B]]
def ag6(t:TA):TE:=[IQ,[bw,xs]]
def aaH(t:TA):TE:=[IQ,[ax,xs]]
def RH(h:PA X es t):[cn,.Tuple es G pos,ag6 t]:=by rw[eP,wpAny_Tuple_spliced [GJ]];exact#[z,us,r,#[_,[cs],Y,_,Y]]
def Qu(h:PA X es t):[cn,.List es pos,aaH t]:=by rw[eP,wpAny_List_spliced [GJ]];exact#[z,us,0,r,[cs]]
end
abbrev Sp:=([cR])->Hp->VK->XK->[P]
abbrev tM:=List jf->Hp->aD->XK->[em]
structure sI (P : cP) (w : cz) (K : aQ) (mg : au → Option aq) (base : bP) (A : dc) (outer : List jf) (s : aD) (H : Hp) : Prop where
 frames : A.frames = aa outer
 mod : Mod K mg base
 bs : ∀ b o, base.get? b = aa o → s.heap.get? b = aa o ∧ H b = ag
 lO : base.objs.size ≤ s.heap.objs.size
 kq : s.heap.FunFrames base outer
 pY : ∀ b ∈ i4 outer, H b = ag
 aO : cW P w H s.heap
 bare : uB s.gens
def CE(outer:List jf)(P:cP)(w:cz)(H:Hp)(s:aD)(Q:VK)(u:aq)(s':aD):[P]:=∃v H',[He,[i2],Q v H']
def CR(CX:tM)(outer:List jf)(P:cP)(w:cz)(H:Hp)(s:aD)(Q:VK)(E:XK)(r:zi)(s':aD):[P]:=match r with|[iB,u]=>CE outer P w H s Q u s'|.ok _=>False|[kZ]=>CX outer H s E e s'
structure lN (P : cP) (w : cz) (K : aQ) (mg : au → Option aq) (base : bP) (CX : tM) (k : Nat) (f : ai) (fd : uK) (ps : List au) (sp : Sp) : Prop where
 len : ∀ vs H Q E, sp vs H Q E → vs.length = ps.length
 run : ∀ (A : dc) (outer : List jf) (s : aD) (H : Hp) (args : Args) (us : List aq) (vs : List V) (Q : VK) (E : XK), eL k A → sI P w K mg base A outer s H → I_ s fd args (ps.zip us) → bq vs us → sp vs H Q E →
  jh (aK P w) A (.call (.ref f) args) (CR CX outer P w H s Q E) s
def sI.make{K}(e:[C7,A])(C:ai)(us:[h])(J:[h]):[C7,[tY,us]]:=#[by first|exact e.frames|rfl,e.mod,e.bs,e.lO,e.kq,e.pY,e.aO,e.bare]
section
variable{X:Cx}{pins:List (ai×bn)}{σ:St}{H:Hp}{s s':aD}
def ak.Fv(I:[ah]):sI X.prog X.w X.K X.mg X.base X.A [gs] s H:=#[I.ok.frames,I.ok.mod,I.bs,c9 I.ok.lO I.sz,I.stack,I.EB,I.aO,I.bare]
def ak.after(I:[ah])(h:CE [gs] X.prog X.w H s Q u s'):EP X pins σ Q u s':=by rw[bU,v,H',os,bare,un,aO,r,q];rw[ab,hh,g,d,t,j,s'];obtain rfl:j=s.os:=os;exact#[v,H',I.call un aO bare (by simp),r,q]
end
def Ow(sp:Sp)(dvs:[cR])(E:XK)(t:TA):TE:=[k2,B,sp (B++dvs) H1 Q E]
def RJ(C:ai)(m:au)(sp:Sp)(dvs:[cR])(E:XK)(ta:TE)(t:TA):TE:=[pV,∃a dx fs,[gA,H1 a=[nZ],[lt,m]=ag/\t σ H1 λB H2=>sp (x::(B++dvs)) H2 Q E]]
def Mb(C:ai)(sp:Sp)(dvs:[cR])(E:XK)(t:TA):TE:=[k2,B,[GK,H1 x,H1 dx,upd H1 dx [bn,x]]]
def lE(K:aQ)(fd:uK)(ps:[dF])(ds:[dW]):[P]:=∀(s:aD)(us:[dW]),([qT])->[Q,us++ds]=[mH]->I_ s fd #[us,[]] (ps.zip (us++ds))
def lE.all{K}(h:∀us,([zx])->Ja fd #[us,[]]=bx [sH]):lE K fd ps []:=λs us _ U=>by rw[iu]at U|-;exact .of_eq (h _ U)
def ly(CX:tM)(X:Cx)(E:XK):[P]:=∀(pins:[eH])(σ:St)(H:Hp)(s:aD)(e:aq)(s':aD),([ah])->CX [gs] H s E e s'->X.xe e s'
section
variable{X:Cx}{CX:tM}{k:Nat}{f C:ai}{fd:uK}{ps:List au}{sp:Sp}{dvs:List V}{ds:List aq}{E:XK}{x m:au}{p pos apos:eo}{e o:bQ}{es:List bQ}{ta:TE}{t:TA}
def xr{σ:St}(F:[nH])(O:eL k X.A)(J:[og])(hd:[oZ])(L:[oX])(I:[ah])(r:bq vs us)(h:sp (vs++dvs) H Q E):[hI,gS [hC] us,[jl]]:=by have q:=r.append hd;rw[ad,U,[Q,us++ds]=[mH],[bD,q.length,F.len _ _ _ _ h],C6 (wq (F.run _ _ s H _ _ _ Q E O I.Fv (J s _ I.dW U) q h) λr s' z=>?_)];cases r with|error e=>exact L _ _ H s e _ I z|ok fl=>cases fl with|ret u=>exact I.after z|next=>exact et z|brk=>exact et z|cont=>exact et z
def Y7(F:[nH])(Z:eL k X.A)(z:[dJ])(W:[fm,f])(O:ji X.K [hC]=ae)(J:[og])(hd:[oZ])(L:[oX])(G:[sr])(j:[j1]:=by rw[af])(U:[il,es]:=by rfl)(N:[jG,es]:=by rfl):[cn,[fE,[jE]],Ow sp dvs E t]:=by rw[bH];rw[ai,nY (p9 I z W ?_ j),[CS,O,G _ _ s _ H _ I h,n,H1,q,U]];exact xr F Z J hd L S r q
def abt(F:[nH])(U:eL k X.A)(z:[dJ])(O:[fm,f])(q:ji X.K [hC]=ae)(J:[og])(hd:[oZ])(L:[oX])(j:[j1]:=by rw[af]):[cn,[fE,[]],Ow sp dvs E tw]:=by rw[aS,Q,h,nY (p9 I z O ?_ j)];exact TH I.dW q (xr F U J hd L I [aM] h)
def V6{pl}(W:PE X o ta)(c:kH X.K C)(O:pM X.K C m f)(F:[nH])(hr:eL k X.A)(J:[og])(hd:[oZ])(L:[oX])(G:[sr])(j8:[il,es]:=by rfl)(N:[jG,es]:=by rfl)(n:[CK,o,[jE],j]:=by rfl):[mx,m,[jE],pos,RJ C m sp dvs E ta t]:=by rw[bP,Q,TF (a8 (W _ s _ H _ I h) λu s1#[x,H1,U,rx,a,dx,fs,ex,Z,l,q]=>?_) n,ex,u=da a,rx];rw[ai,DV U Z c O l ?_,[CS,O.kp,G _ _ _ _ _ _ U q,s2,H2,q2,j8]];exact xr (vs:=[aL]::B) F hr J hd L S [bF,Y,r] q2
def agS(U:PE X o ta)(c:kH X.K C)(O:pM X.K C m f)(F:[nH])(W:eL k X.A)(J:[og])(hd:[oZ])(L:[oX])(G:[CK,o,[],j]:=by rfl):[mx,m,[],pos,RJ C m sp dvs E ta tw]:=by rw[bP,Q,TF (a8 [uO] λu Z#[x,H1,S,N,a,dx,fs,ex,B,l,q]=>?_) G,ex,u=da a,N];rw[d8,DV S B c O l ?_,TH S.dW O.kp (xr (vs:=[[aL]]) F W J hd L S [hH,Y] q)]
structure Mk (K : aQ) (C f : ai) : Prop where
 abg : TD K C = ae
 init : mH K (.ref C) "__init__" = aa (aa (.ref f))
 fn : uH K (.ref f) = ae
 kp : ji K (.ref C) = ae
def Nz{σ:St}(M:Mk X.K C f)(F:[nH])(N:[v0])(J:[og])(hd:[oZ])(L:[oX])(I:[ah])(r:bq B us)(h:[GK,H x,H dx,[cw,dx,[bn,x]]]):[hI,gS [iR] us,[jl]]:=by rw[R,q,h _ _ [j3,Nat.le_succ _] [tE] (by simp),S,ak.made (C:=C) I];rw[ay,j,bq (V.ref [bN]::(B++dvs)) _,[bF,Y,r.append hd],U,[hr,e,j.length,F.len _ _ _ _ q,e.symm]];refine C6 (VO I.dW M.abg M.init (ip.mp M.fn) (wq (F.run _ _ _ _ _ _ _ _ E (N.make C _ _) (S.Fv.make C _ _) (J _ _ S.dW U) j q) λr s' z=>?_));cases r with|error e=>exact L _ _ _ _ e _ S z|ok fl=>cases fl with|ret u=>rw[am,v,H',O,G,W,Z,S.after z];rw[bh,W,#[G,#[V.ref _,H',O,Y,Z]]]|next=>exact et z|brk=>exact et z|cont=>exact et z
def Xb(M:Mk X.K C f)(F:[nH])(G:[v0])(z:[dJ])(W:[fm,C])(J:[og])(hd:[oZ])(L:[oX])(U:[sr])(j:[j1]:=by rw[af])(O:[il,es]:=by rfl)(N:[jG,es]:=by rfl):[cn,[fE,[jE]],Mb C sp dvs E t]:=by rw[bH];rw[ai,nY (p9 I z W ?_ j),[CS,M.kp,U _ _ s _ H _ I h,Z,H1,q,O]];exact Nz M F G J hd L S r q
def aaN(M:Mk X.K C f)(F:[nH])(z:[v0])(q:[dJ])(O:[fm,C])(J:[og])(hd:[oZ])(L:[oX])(j:[j1]:=by rw[af]):[cn,[fE,[]],Mb C sp dvs E tw]:=by rw[aS,Q,h,nY (p9 I q O ?_ j)];exact TH I.dW M.kp (Nz M F z J hd L I [aM] h)
end
structure A2 (N P : List au) (sc : fo) : Prop where
 kind : sc.kind = .function
 co : sc.isCoroutine = af
 gen : sc.isGenerator = af
 nd : N.Nodup
 pre : N.take P.length = P
 Na : ∀ x ∈ P, sc.names.lookup x = aa .local ∨ sc.names.lookup x = aa .cell
 aeA : ∀ y ∈ sc.names, y.2 ≠ .free
def Ll{kindOf}:[L1,si kindOf B m x]|[],_,_=>rfl|(n,v)::r,m,h=>by rw[dV,si,Ll [f]];split;{grind};rfl
def QG{kindOf}:[L1,uL kindOf B m x]|[],_,_=>rfl|(n,v)::r,m,h=>by rw[dV,uL,QG [f]];split;{rfl};grind
def vy{kindOf}:[Ii,kindOf x=[fj],si kindOf (P.zip B) m x]|[],_,_,_,_,h,_,_=>[hG]|[d5],[],_,_,_,_,h,_=>[hG]|p::P,w::B,0,m,nd,h1,h2,q=>by simp at h1 h2;subst h1;subst h2;show si _ ((p,w)::P.zip _) m p=_;unfold si;rw[Ll [KI],aJ q];simp|p::P,w::B,[aa],m,nd,h1,h2,q=>[h8,si,vy (i:=i) [bq,mx.mp nd] [f] [f] q]
def No{kindOf}:[Ii,kindOf x≠[fj],uL kindOf (P.zip B) m x]|[],_,_,_,_,h,_,_=>[hG]|[d5],[],_,_,_,_,h,_=>[hG]|p::P,w::B,0,m,nd,h1,h2,q=>by simp at h1 h2;subst h1;subst h2;show uL _ ((p,w)::P.zip _) m p=_;unfold uL;rw[QG [KI],aw q];simp|p::P,w::B,[aa],m,nd,h1,h2,q=>[h8,uL,No (i:=i) [f] [f] [f] q]
def start(N:[dF])(B:[cR]):St:=[eD,aa]++fH ([eu]-[bu]) ag
def nq (CX : tM) (P : cP) (w : cz) (K : aQ) (mg : au → Option aq) (base : bP) (N : List au) (qual : au) (scope : fo) (f : ai) (G : aq) (A : dc) (outer : List jf) (s : aD) (H : Hp) (E : XK) : Cx where
 prog := P
 w := w
 K := K
 mg := mg
 base := base
 A := A.deeper (k4 qual scope s.heap.objs.size f G)
 N := N
 eA := s
 sX := H
 env := k4 qual scope s.heap.objs.size f G
 outer := outer
 stack := k4 qual scope s.heap.objs.size f G :: outer
 ex := []
 ci := ae
 fn := fun _ => ae
 pn := []
 xe := fun e s' => aE (aK P w) (A.deeper (k4 qual scope s.heap.objs.size f G)) (leaving (k4 qual scope s.heap.objs.size f G) e) (fun _ W => CX outer H s E e W) (fun J W => CX outer H s E J W) s'
def KQ{sc:fo}(h:[n_,x]=[kf]):∃c,(fq n sc.names []).lookup x=aa c:=by exact Option.isSome_iff_exists.mp (ai_ _ n _ [H,h])
def afW{K}(S:A2 N ps scope)(hd:[gi])(I:[C7,A])(U:[bu]=[mH])(r:bq B us)(x:[GX,G,[sH],F]):ak [yx,G] [] (start N B) H F:=by have Ch:=[aN,jN mw S.pre];rw[ag,h1,tk,rfl,O,x.done];rw[ad,Z,∀b,b∉[yx,G].ex,λb z=>[ga,[aA,b∈[],z]],#[#[I.mod,S.kind,Y,Y,[dr],λy z c h1 h2=>?_,λy L=>?_,λy c _ h=>?_,λ_=>hd,ai' I.frames,[aC,#[Y,Y]],[yH],I.bs,I.lO,λb _ _=>Z b,[yH],I.kq,I.pY],Y,I.bare,Un.kept O,#[_,x.toInCall.ns,λi y v h1 h2 h3=>?_],λy c h=>#[_,x.cell y c h],[tE],λy c h=>?_,λp J=>[ga,[aA,p∈[],J]],I.aO.kept O,?_]];{exact name_of_addr x.apart (jQ h1) (jQ h2)};{rw[d_,L,L,L,KQ L,[c_,Y,S.aeA _ (jQ L)]]};{exact yQ (x.above y c (jQ h))};{rw[D,hi,i<[bu],by rw[al,start,h2];rw[b,hi,i<[bu]];{exact hi};{rw[nT ([aD,hi])]at h2;rw[C8]at h2;split at h2<;>cases h2},n,[aZ,B,v],by rw[al,start,h2];rw[lK ([aD,hi]),dQ]at h2;grind];rw[K,u,hu,W,r.get n];rw[D,J,[aZ,ps,y],by rw[<-S.pre,aja [g]];exact h1,j,ps.Nodup,[bD,S.pre,S.nd.sublist (List.take_sublist _ _)]];rw[bm,u,W];rw[aZ,S.Na y (cG J),k,k,[H,#[k,vy j J hu k]]];{rw[bA,c,e,KQ k,[aC,#[[H,k],c,e,?_]]];rw[hr,q,x.cell y c e,No j J hu (by show [ml,y]≠_;rw[k];rw[af]),q]}};{exact [j3,yQ (x.above y c (jQ h))]};{unfold start;rw[h_,_=[eu]]}
def aaT{K}{F kV rF pm O ct oc}(lk:[e8,f]=aa #[oc,od,.func [xp,v0,rF],t7])(gi:sj K O qual=ae)(S:A2 N ps scope)(len:∀B H Q E,sp B H Q E->[bu]=[mH])(L:∀(A:dc)(outer:[h])(s:aD)(H:Hp)(B:[cR])(Q:VK)(E:XK),eL k [D_]->sp B H Q E->∃t,fO [yx,O] body t/\t {nx:=λ_ H'=>Q [aY] H',rt:=Q} (start N B) H):lN P w K mg base CX [ao] f [xp,v0,rF] ps sp:=by rw[a3,len,λA outer s H j us B Q E hr W J r Cm=>?_];rw[R,KX,W.mod.tF.keeps [dC,[M,W.bs b o e]],lim,W.mod.nolimit.keeps [dC,[M,W.bs b o e]]];have z:∀y∈[sH],[ml,[b7]]=[cj]\/([ml,[b7]]=[cj]/\[es,(fq [bN] _ []).lookup [b7]]=ae):=λ#[n,v]hy=>[d_,S.Na n [M,kb hy],q,q,[H,q],[aC,#[q,ai_ _ _ _ [H,q]]]];rw[ai,ajb hr.depth (KX _ _ lk) Y S.co S.gen Y (ajc KX gi) (J _ _ _ _ ?_),ajd S.kind z λenv he s1 x=>?_];subst he;rw[a3,lim.keeps x.toInCall.keep,codeAny_func ?_];rw[K,t,ht,hq,L A _ s H _ Q E (hr.deeper _) Cm];rw[ad,I,ak (nq CX P w K _ _ N _ _ f _ A _ s H E) _ _ H _,afW S hr.hd W (len _ _ _ _ Cm) r x,[pv,ht _ _ _ H _ I hq,fl,s',U,λe s' U=>U]];have fj:∀{Z}{H'}{v}{u},ak [yx,O] [] Z _ _->([i2])->Q v _->CE _ P w H s Q u s':=λ{Z H' v u}G rv q=>#[v,H',G.os,G.bare,G.base,G.aO,rv,q];cases fl with|ret u=>rw[am,v,Z,H',G,rv,q,U];exact fj G rv q|next=>rw[dH,Z,H',G,q,U,fj (v:=V.a0) G Y q]|brk=>obtain⟨_,_,_,q⟩:=U;exact et q|cont=>obtain⟨_,_,_,q⟩:=U;exact et q
section
variable{X:Cx}{x:au}{p pos:eo}{e:bQ}{es:List bQ}{t:TA}{id T:String}{r:List V->Hp->VK->Prop}
def xW(r:[p3])(t:TA):TE:=[k2,B,r B H1 Q]
def E4(O:[kb,id,r])(L:[dJ])(W:[wq])(q:hl x=[gF,id])(G:[sr])(U:[zy]:=by rw[af])(j:[j1]:=by rw[af])(J:[il,es]:=by rfl)(N:[jG,es]:=by rfl):[cn,[fE,[jE]],xW r t]:=by rw[aS,Q,h,nY (oV I L W q ?_ U j)];exact aqM [Hd] J N
def xm(O:fy X [iA] r)(L:[dJ])(W:[wq])(q:hl x=aa [iA])(G:[sr])(U:[zy]:=by rw[af])(j:[j1]:=by rw[af])(J:[il,es]:=by rfl)(N:[jG,es]:=by rfl):[cn,[fE,[jE]],xW r t]:=by rw[aS,Q,h,nY (oV I L W q ?_ U j)];exact C0 [Hd] J N
end
end L2
namespace HT
open PySem PyProof.Rows
def lexLt:([a4])->([a4])->Bool|[],[]=>af|[],[d5]=>ae|[d5],[]=>af|x::xs,y::ys=>[K3]
def NO(x y:Int)(xs ys:[h]):lexLt (x::xs) (y::ys)=[K3]:=rfl
def aa3:lexLt [] []=af:=rfl
def abc(y:Int)(ys:[h]):lexLt [] (y::ys)=ae:=rfl
def Zl(x:Int)(xs:[h]):lexLt (x::xs) []=af:=rfl
def V2(A:dc)(s:aD)(a:Int)(t:iz)(c:Int)(u:iz):∃e,TJ A s (.int a t) (.int c u) e/\(e=ae↔a=c):=#[(a==c),aje a t c u,by simp]
def YF(A:dc)(s:aD)(a:Int)(t:iz)(c:Int)(u:iz)(prog:cP)(w:cz)(E:[em])(Q:[em])(h:Q (.bool (ao (a<c))) s):[dS,TK .Lt (.int a t) (.int c u)]:=ai3 h
section
open PySem.SeqAt
open PySem.AutoSeq1(wpAny_loadPart')
open PySem.MeetsSeq PySem.MeetsSeq2 PySem.MeetsSeq3
def WV(l b:ai)(G z:[lB])(n n2:Nat)(j Sb:[kK])(sl sl2:Array [gP])(ns ms:[a4])(hi:mI G.toList ns)(hj:mI z.toList ms):zk (Builtin.«tuple.__lt__» #[[[hD],[fZ]],[]]) (λ_ R s=>[bJ,l,[rP,[oi],j,.seq G n,sl]]/\[bJ,b,[rP,[oi],Sb,.seq z n2,sl2]]/\R (.ok [b4,.bool (lexLt ns ms)]) s):=.of_wp λprog w A R s h=>by rw[ab,hp,g,d,tk,os,s];rw[K,U,J,h,h];rw[a1,f2,AutoSeq1.sub_tuple_tuple,z1,G.size=[gL],by rw[<-hi.length];simp,z2,z.size=ms.length,by rw[<-hj.length];simp];wp_walk using[Ep],wpAny_loadPart' J,wpAny_forIn_list _ (λrest b s'=>b.1=ag/\s'=[yQ]/\∃(B ws:[dW])(N I:[a4]),rest=B.zip ws/\mI B N/\mI ws I/\[eu]+z.size=I.length+G.size/\R (.ok [b4,.bool (lexLt N I)]) [yQ]) _;(case turn=>rintro⟨y,x⟩rest b s'⟨t4,rfl,B,ws,N,I,hz,O,Z,fS,hR⟩;cases O with|nil=>rw[az,ajf,hz,hz]|cons a t S=>cases Z with|nil=>rw[az,List.zip_nil_right,hz,hz]|cons c u yH=>rw[rS]at hz;injection hz with yE ahO;injection yE with hy L;subst hy L;rw[NO]at hR;rw[ao,b7,fS];rw[K,e,he,F,V2 A.in1 [yQ] a t c u];rw[an,he prog w _ _ ?_];cases e with|true=>rw[aJ (F.mp Y)]at hR;wp_walk;exact#[Y,Y,_,_,_,_,ahO,S,yH,[g],hR]|false=>rw[aw (λq=>[c_,F.mpr q,iN])]at hR;wp_walk using(YF A.in1 [yQ] a t c u prog w);exact#[_,Y,[aD,hR]]);(case fin=>rintro⟨b1,b2⟩s'⟨t4,rfl,B,ws,N,I,hz,O,Z,fS,hR⟩;simp only at t4;subst t4;rw[aH,hv,lexLt N I=ao (G.size<z.size),by cases O with|nil=>(cases Z with|nil=>rw[ao,gL,fS];rw[V,aa3,[dI,nV [g]]]|cons c u W=>rw[aO,gL,b7,fS];rw[V,abc,[dI,uM [g]]])|cons a t hv=>cases Z with|nil=>rw[aO,gL,b7,fS];rw[V,Zl,[dI,nV [g]]]|cons c u W=>rw[az,rS,hz,hz],hv,hR];wp_walk;exact#[_,Y,[gr,aqN,hR]]);case h=>exact#[Y,Y,G.toList,z.toList,ns,ms,Y,hi,hj,[g],h]
end
section
variable{prog:cP}{w:cz}{A:dc}{E:aq->aD->Prop}{s:aD}
def Xw(U:wj s.heap l G)(J:wj s.heap b z)(hi:mI G.toList ns)(Z:mI z.toList N)(hu:A.units<dM)(h:Q (.bool (lexLt ns N)) s):[dS,eU .Lt [hD] [fZ]]:=by obtain⟨⟨cls,j,apX,sl⟩,q,O,n,hd⟩:=id U;obtain⟨⟨apY,I,data2,F⟩,S,B,W,L⟩:=id J;subst O hd B L;exact richCompare_meets_room (op:=.Lt) #[_,q,Y] #[_,S,Y] PySem.F.slot_tuple_lt PySem.F.entry_tuple_lt (PySem.F.args_tuple_lt_2 _ _) (WV l b _ _ n W j I sl F _ _ hi Z) [f] hu
def agt(z:wj s.heap t [ks])(J:wj s.heap b ws.toArray)(I:B≠[])(h1:ws=[]->Q [m,t] s)(h2:ws≠[]->[KQ,B++ws])(i8:[bu]+[gG]<=bS):[dS,pd .Add [m,t] [fZ]]:=by obtain⟨⟨cls,j,S,sl⟩,q,O,n,hd⟩:=id z;obtain⟨⟨N,Sb,data2,U⟩,F,G,Z,L⟩:=id J;subst O hd G L;(have e:[ks]++ws.toArray=[hg,B++ws]:=by simp);rw[b,W,ws=[]];{exact TM #[_,q,Y] #[_,F,Y] TN TQ TR TU (TV _ _) (tuple_addW1 t b _ _ n _ _ _ _ _ ([aD,I]) (by simp[W])) #[q,F,h1 W]};{rw[gM,TM #[_,q,Y] #[_,F,Y] TN TQ TR TU (TV _ _) (tuple_addW2 t b _ _ n _ _ _ _ _ [f] ([bb]) [f]) #[q,F,?_]]}
def dO(n d:Nat):([nb])->Nat|ag=>d|[cX]=>[JD]
def amJ(n d:Nat)(hd:d<=n)(o:[fP]):dO n d o<=n:=by cases o with|none=>exact hd|some v=>rw[h_,[Ma]<=n]
def OE(v:Int)(n d:Nat):[A,v<0,fk (v+(n)) 0,ek v n]=dO n d [cX]:=[h_,[A,v<0,fk _ 0,ek v n]=[Ma]]
def Vl(lo hi:[fP])(n:Nat):TW lo hi 1 n=([an,dO n 0 lo],[an,dO n n hi]):=by have h1:¬(1<0):=[g];unfold TW;refine Prod.ext ?_ ?_;{cases lo with|none=>rfl|some v=>exact OE v n 0};{cases hi with|none=>rfl|some v=>exact OE v n n}
def UP(i j:Nat):TX i j 1=j-i:=by unfold TX;omega
def RG(p:uN v o)(h:Q o s):[dS,aqO v]:=by cases p with|none=>exact ajg h|int i t=>exact slicePart_int h
def V4{lo hi}{n:Nat}(O:[Cq])(pl:uN z lo)(j:uN N hi)(h:Q (dO n 0 lo,1,dO n n hi-dO n 0 lo) s):[dS,aqP [m,sl] (bx n)]:=by rw[ag,os,q,L,B,id O];rw[aT,[aJ,fu q B Y [aJ,fu q B Y [aJ,fu q B Y [cA]]]],ajg ?_];rw[an,RG pl [aJ,RG j (am [cA])]];show [sA,match TW _ _ 1 n with|(lo,hi)=>bx (lo,[an,1],TX lo hi 1)];rw[Vl _ _ n];show [sA,bx _];rw[V,UP,bg h]
def Ya(xs:[lB])(i k:Nat):[hg,(br k).filterMap [Jx]]=[hg,(xs.toList.drop i).take k]:=by have e:[Jx]=λm=>xs[i+m]?:=[f];have:=pick_run xs i k;rw[eT,z,((λx=>xs[x]?)∘λx=>i+x)=λm=>xs[i+m]?,rfl]
def Zi{lo hi}(L:wj s.heap t G)(O:[Cq])(pl:uN z lo)(j:uN N hi)(W:¬([u6]=0/\[DI]=G.size))(h:[KQ,[GT]])(I:G.size<=bS):[dS,wo [m,t] [m,sl]]:=by have n:=[h_,[GT].toArray.size<=bS];rw[ag,os,q,J,B,id O];have F:s.TypeIs [dQ] _:=#[os,q,J];unfold wo;(try with_reducible refine kh ?_);rw[aT,wpAny_sequenceKey L.typeIs Y ?_,uO L.typeIs Jb (sm Jb L.typeIs entry_tuple_getitem ?_ (args_tuple_getitem _ _))];show [sA,aqQ _>>=_];rw[aT,tupleItemsOf_ L ?_,wpAny_typeOf F ?_];rw[an,V4 O pl j ?_];have Z:¬[a3,[an,[u6]]==0&&[an,1]==1&&([DI]-[u6])==G.size]:=[f];show [sA,if [a3,[an,dO _ 0 _]==0&&(1)==1&&(dO _ _ _-dO _ 0 _)==G.size]then _ else _];rw[aw Z,Ya];first|exact [aJ,pf (bg #[_,Y,bg h]) n]|grind|grind|grind
end
end HT
namespace L2
open PySem PySem.Spec PyProof.Rows
abbrev TO:=[r8,[nb]]
def PO(X:Cx)(e:[bg,bQ])(t:TO):[P]:=[pL,Q,([nb])->[dM],t σ H Q,evalPart e X.env,λu s'=>∃o H',[qX]/\uN u o/\Q o H']
def aa5:TO:=λ_ H Q=>Q ag H
def aaZ(t:TE):TO:=[k2,x,∃i,x=[aQ]/\Q (aa i) H1]
def Mu:∀{us},bq [ji] us->mI us ns:=by induction ns with|nil=>intro us r;rw[aU,r,[aM]]|cons n ns U=>intro us r;cases r with|cons j q=>rw[M,t,e,j];rw[bh,e,.cons n t (U q)]
section
variable{X:Cx}{e:bQ}{te:TE}{lo hi:Option bQ}{tl th:TO}{pos p2:eo}
def Q8:PO X ag aa5:=by rw[bH];exact bg #[ag,H,I,[a0],h]
def Ah(h:[h0]):PO X (aa e) (aaZ te):=by rw[aS,Q,W,[dL,[El],u,L,x,H1,S,j,z]];rw[K,i,rfl,q,z];rw[aG,t,rfl,j,#[aa i,H1,S,[sp],q]]
def oy(X:Cx)(r:[ua]):[P]:=∀(pins:[eH])(s:aD)(σ:St)(H:Hp)(x:V)(v z N:aq)(lo hi:[nb])(sl:ai)(Q:VK),([ah])->bB x v->([Cq])->uN z lo->uN N hi->r x lo hi H Q->∃T id,iO [iA] "__getitem__"=bx [gF,id]/\s.TypeIs v T/\[hI,wo v [m,sl],[jl]]
def oy.or(h:oy X r)(h':oy X J):oy X (λx lo hi H Q=>r x lo hi H Q\/J x lo hi H Q):=by intro pins s σ H x v z N lo hi sl Q I G O pl j q;rw[d_,q,q,q,h _ s _ H x v _ _ _ _ _ Q I G O pl j q,h' _ s _ H x v _ _ _ _ _ Q I G O pl j q]
def tSl(r:[ua])(te:TE)(tl th:TO):TE:=λσ H Q=>[ws,x,tl σ H1 λl H2=>th σ H2 λu z=>r x l u z Q]
def FU(hr:oy X r)(J:[h0])(U:PO X lo tl)(hu:PO X hi th):[cn,.Subscript e (.Slice lo hi ag p2) pos,tSl r te tl th]:=by rw[bH];rw[ai,Subscript_ [ku,[n6],s1,I1,r1,n],wpAny_Slice [eU,U _ _ _ _ _ I1 n,z,s2,l,H2,W,pl,q2,[dL,hu _ _ _ _ _ W q2,N,G,u,H3,S,j,L]]];refine [cA];have O:ak X _ _ _ [mO,G,G.heap.push [p0,"slice",[z,N,[a0]]]]:=S.kept [Fe];rw[ab,T,id,Z,F,B,hr _ _ _ _ x v _ _ l u _ Q O r1 (aqR ..) pl j L];exact Jc F Z B Y
def vF(xs:[cR])(lo hi:[nb]):[cR]:=(xs.drop [to,[cF]]).take (HT.dO [cF] [cF] hi-[to,[cF]])
def RO(xs:[cR])(lo hi:[fP]):[aO,vF xs lo hi,[cF]]:=[b_,vF]
def J6(K:aQ):[ua]:=λx lo hi H Q=>∃a xs,[gA,[vJ],¬([to,[cF]]=0/\HT.dO [cF] [cF] hi=[cF])/\[j0,p,[bw,vF xs lo hi]]]
def FT:oy X (J6 X.K):=by intro pins s σ H x v z N lo hi sl Q I G J pl j h;rw[am,a,xs,rfl,L,W,q,h];cases G;rw[ag,az,r,O,B,[e_,L]];(have U:[u1]=[cF]:=by exact r.length.symm);rw[ai,#["tuple",_,Jb.lookup,O.typeIs,?_],HT.Zi O J pl j [f] ?_ [f]];rw[cm,U,#[[dQ],_,[BA],Y,q _ [mt]]];exact#[c9 (RO _ _ _) B,_,(r.drop _).take _,TY _ _]
def adF(K:aQ):R2:=[d4,∃a b ns I,[gA,y=[fZ],cx K H a [ji]/\cx K H b (I.map V.int)/\[iS,HT.lexLt ns I]]]
def adT(hu:X.A.units<dM):[dD,.Lt,adF X.K]:=by rw[ce];obtain⟨a,b,ns,W,rfl,rfl,L,J,q⟩:=h;cases z;cases N;rw[bL,az,S,j,[e_,L],B,G,p2,[e_,J]];exact HT.Xw j p2 (Mu S) (Mu G) hu [k_,I]
def VB(K:aQ):R2:=[d4,∃a b xs ys,[gA,y=[fZ],[vJ]/\cx K H b ys/\xs≠[]/\[cF]+[m0]<=bS/\(ys=[]->Q [aL] H)/\(ys≠[]->[j0,p,[bw,xs++ys]])]]
def bq.zI(r:[iK]):us=[]↔xs=[]:=by cases r with|nil=>simp|cons _ _=>simp
def afA:[lK,.Add,VB X.K]:=by rw[bC,y,u,W,N,h];obtain⟨a,b,xs,ys,rfl,rfl,O,J,L,Z,B,F⟩:=h;cases W;cases N;rw[bL,az,G,U,[e_,O],S,j,p2,[e_,J]];rw[ai,HT.agt U p2 (λz=>L (G.zI.mp z)) (λz=>#[[aL],H,I,Y,B (j.zI.mp z)]) [lo] (by rw[<-G.length,<-j.length];grind),#[[dQ],_,[BA],Y,F (λw=>z (j.zI.mpr w)) _ [mt]]];exact#[[f],_,G.append j,TY _ _]
end
def oE(n:Nat)(i:Int):[kD]:=[G']
def oF{U:[aH]}(xs:[gw])(i:Int):[bg,U]:=(oE [cF] i).bind λj=>xs[j]?
def Ka(h:oE n i=aa j):seqIndex? i n=aa j/\j<n/\-n<=i/\i<n:=by rw[al,oE,h];rw[b,h0,0<=i];{rw[aJ h0]at h;rw[b,h1,i<n];{rw[aJ h1]at h;rw[bd,e,uC h,#[by rw[Jd h0 h1,e],[g],[g],h1]]};grind};{rw[aw h0]at h;rw[b,h1,-n<=i];{rw[aJ h1]at h;rw[bd,e,uC h,#[by rw[Je [g] h1,e],[g],h1,[g]]]};grind}
def zW(h:oF xs i=[cX]):∃j,seqIndex? i [cF]=aa j/\[ce,xs,v]/\j<[cF]/\-[cF]<=i/\i<[cF]:=by rw[al,oF,h];cases e:oE [cF] i with|none=>rw[bb]|some j=>rw[ag,h1,h2,q,z,Ka e];grind
def FV(b:bQ):[P]:=∀o i,subscripted b af o i=operate [o,i] (wo o i)
def ll(X:Cx)(r:R2):[P]:=∀(value O:bQ)(pins:[eH])(s:aD)(σ:St)(H:Hp)(x y:V)(v u:aq)(Q:VK),([ah])->bB x v->([hA])->r x y H Q->subscripted O af v u=operate [v,u] (wo v u)->[hI,subscriptTail value O v u,[jl]]
def mV(X:Cx)(id:String)(r:[ns]):[P]:=[FV]
section
variable{X:Cx}{a b:bQ}{ta tb:TE}{pos:eo}
def ll.or(h:ll X r)(h':ll X j):ll X [d4,r x y H Q\/j x y H Q]:=by intro value O pins s σ H x y v u Q I z N q J;rw[d_,q,q,q,h _ _ _ s _ H x y v u Q I z N q J,h' _ _ _ s _ H x y v u Q I z N q J]
def Mh(U:ll X r)(L:[iF])(J:[m1])(O:FV b):[cn,.Subscript a b pos,kv r ta tb]:=by rw[bH];exact Subscript_ (Gp L J I h λv u j x y H2 S z N q=>U a b _ _ _ _ x y v u Q S z N q (O _ _))
def Hm(K:aQ):R2:=[Il,bp K H p xs]
def BB(K:aQ):R2:=[Il,cx K H p xs]
def NR:R2:=[d4,∃z i c,x=[K,z]/\y=[aQ]/\z.length<=bS/\oF z.cps.toList i=aa c/\Q [K,#[[ff,[c]]]] H]
def agp:ll X (Hm X.K):=by rw[e_,n,G];rw[ag,az,r,pl,hz,[eC,W]];rw[am,j,h1,h2,h3,Z,F,zW G];rw[K,w,ew,L,r.get h2];rw[R,U,r.length,hn,tH];have B:EP X _ _ Q w s:=#[z,H,I,L,q];rw[dB,i,S,F,h1,item_listR [mS] h0 [g] ([bb]) B J,Z,ajh pl.isList.typeIs aji.lookup [L3,#[Y,B]] J]
def LD:ll X (BB X.K):=by rw[e_,G,U];rw[ag,az,r,pl,S,[e_,W]];rw[am,j,h1,h2,Z,h4,h5,zW U];rw[K,w,F,L,r.get h2];rw[ah,n,tH,B,EP X _ _ Q w s,#[z,H,I,L,q]];exact ajh pl.typeIs Jb.lookup (getItem_tuple (j:=j) pl [g] [g] (by rw[ph,<-(r.length)];grind) [f] #[Y,B]) J
def acr:ll X NR:=by intro value O pins s σ H x y v u Q I G N h J;rw[bU,z,i,c,rfl,rfl,W,L,q];rw[M,t,rfl,G];rw[M,t',rfl,N];rw[am,j,h1,h2,B,F,Z,zW L];rw[ay,U,z.cps.toList.length=z.length,by rfl,S,tH];exact Jc Y slot_str_getitem.lookup (getItem_str [f] [f] [wV,[dE]]) J
def rIx(K:aQ):R2:=[d4,Hm K x y H Q\/BB K x y H Q\/NR x y H Q]
def YA:ll X (rIx X.K):=agp.or (LD.or acr)
def X1(az:[h])(n j:Nat)(u:aq):lL (·.setIfInBounds j u) [pY]=[sG,[hg,az.set j u],n]:=by simp[lL]
def ak.lst{σ:St}(I:[ah])(h:[m_,p]):∃(az:[h])(n:Nat),bq xs az/\[bJ,p,[pY]]/\[q6]:=by rw[ab,z,az,n,r,e,I.aO p _ h];grind
def ak.WJ{σ:St}{az B:[h]}(I:[ah])(h:[m_,p])(L:[bJ,p,[pY]])(O:f [pY]=[sG,[ks],j])(r:bq ys B)(z:[m0]<=bS)(t:Nat):[c7,[eY,[ax,ys]],[l7,[sw,p,f],t]]:=by rw[ad,e,[sw,p,f].get? p=aa [sG,[ks],j],by rw[mJ f L (by rw[O]<;>rfl),O],I.write ([jq,h]) [fa] (λb u J q=>[oA,[ld,J]]) #[_,e] ?_];exact#[z,B,j,r,e]
def Nm:V->V->V->Hp->([dM])->[P]:=λo i v H Q=>∃p xs k j,o=[dq]/\i=[l,k]/\[m_,p]/\oE [cF] k=aa j/\Q [eY,[X,xs.set j v]]
def Ep:AR X Nm:=by intro pins s σ H o i v Z O u Q I ro z F h;obtain⟨p,xs,k,j,rfl,rfl,B,G,q⟩:=h;cases ro;rw[cP];rw[ab,az,n,r,J,hz,I.lst B];rw[ag,h1,h2,W,N,Ka G];rw[R,U,r.length,hn,tH];have S:=I.WJ B J (X1 _ n j u) (r.set F j) ([bb]) s.toks;rw[dB,k,L,N,h1,PySem.W.ki_setAt J h0 [g] [f] [q,L,#[_,S,q]],W,PySem.W.ki_setBack J [g] [f] [g] [q,L,#[_,S,q]]]
def acm(lo hi:[fP])(n:Nat):[M,C9 lo hi ag n]=[to,n]/\[ak,C9 lo hi ag n]=HT.dO n n hi/\[aE,C9 lo hi ag n]=1:=by refine#[?_,?_,Y];{cases lo with|none=>rfl|some i=>rw[Y,C9,HT.dO];grind};{cases hi with|none=>rfl|some i=>rw[fN,C9,HT.dO]}
def afD(az:[h])(lo hi:[fP]):slicePick [hf] lo hi ag=[hg,(az.drop [to,[o0]]).take (HT.dO [o0] [o0] hi-[to,[o0]])]:=by rw[K,h1,h2,q,acm _ _ _];unfold slicePick;rw[h1,h2,q];simp only[sliceRange_one,pick_run]<;>rfl
def Qm(K:aQ):[ua]:=λx lo hi H Q=>∃a xs,[gA,[lT,xs],[j0,p,[X,vF xs lo hi]]]
def Fl:oy X (Qm X.K):=by intro pins s σ H x v z N lo hi sl Q I G J pl j h;rw[ab,a,xs,rfl,L,q,h];cases G;rw[ag,az,r,O,B,[eC,L]];have U:=r.length;rw[ai,#["list",_,aji.lookup,O.isList.typeIs,?_],wpAny_getItem_list_slice O.isList J pl j [a0] (by simp) ?_ [f]];rw[afD,<-U];rw[d8,#[[dQ],_,[BA],Y,q _ [mt]],#[c9 (RO _ _ _) B,_,0,(r.drop _).take _,[cs]]]
def oI:V->Bool|[aY]=>ae|[eO]=>ae|[b3]=>ae|[dE]=>ae|_=>af
def oA:V->V->Bool|[aY],[aY]=>ae|[bj,a],[jR]=>a==b|[bj,a],[l,b]=>[A,a,1,0]==b|[kR],[jR]=>a==[A,b,1,0]|[kR],[l,b]=>a==b|[K,a],[K,b]=>a==b|_,_=>af
def aer(N:[hA])(z:bB x v)(q:oI y=ae)(fx:oI x=ae):TJ A s u v (oA y x):=by cases y with|a0=>cases N;rw[cb,x,z,SeqAt.EqAt.same _,b,SeqAt.EqAt.none_bool b,t,SeqAt.EqAt.none_int b t,SeqAt.EqAt.none_str b t,fx]|bl a=>cases N;rw[cb,x,z,SeqAt.EqAt.bool_none a,b,SeqAt.EqAt.bool_bool a b,t,SeqAt.EqAt.bool_int a b t,SeqAt.EqAt.bool_str a b t,fx]|int a=>rw[M,t',rfl,N];rw[cb,x,z,SeqAt.EqAt.int_none a t',b,SeqAt.EqAt.int_bool a t' b,t,aje a t' b t,aiU a t' b t,fx]|str a=>rw[M,t',rfl,N];rw[cb,x,z,SeqAt.EqAt.str_none a t',b,SeqAt.EqAt.str_bool a t' b,t,aiV a t' b t,SeqAt.EqAt.str_str a t' b t,fx]|_=>rw[be,[tq,q],iN]
def qg(x:V)(u:aq):Bool:=match u with|[a0]=>oA [aY] x|.bool b=>oA [jR] x|.int i _=>oA [aQ] x|.str z _=>oA [K,z] x|_=>af
def Q_(r:[hA])(f:oI y=ae):qg x u=oA y x:=by cases y with|a0=>cases r;rfl|bl b=>cases r;rfl|int i=>rw[bQ,r]|str z=>rw[bQ,r]|_=>exact [ga,[tq,f]]
def wH:∀{xs}{us},([iK])->xs.all oI=ae->us.any (qg x)=xs.any λy=>oA y x|_,_,[aM],_=>rfl|y::xs,u::us,[oD],f=>by rw[e8,aF]at f;rw[n3,n3,Q_ r f.1,wH t [gx]]
def yt(q:bB x v)(fx:oI x=ae):∀{xs}{us},([iK])->xs.all oI=ae->∀u∈us,TJ A s u v (qg x u)|_,_,[aM],_=>λu hu=>[f]|y::xs,u::us,[oD],f=>λN hu=>by rw[e8,aF]at f;rw[aJ,[c4,hu],rfl,hu];{rw[V,Q_ r f.1,aer r q f.1 fx]};{exact yt q fx t [gx] _ hu}
def B8(x:V)(xs:[cR]):Bool:=xs.any λy=>oA y x
def A5(K:aQ)(neg:Bool):R2:=[d4,∃p xs,y=[dq]/\[ya,K,xs]/\oI x=ae/\xs.all oI=ae/\[iS,[A,neg,! B8 x xs,B8 x xs]]]
def acv:[dD,.In,A5 X.K af]:=[FL,SeqAt.in_listAt _ [mS] [xI] [yw],SeqAt.in_tupleAt _ pl [xI] [yw]]
def W':[dD,.NotIn,A5 X.K ae]:=[FL,SeqAt.notIn_listAt _ [mS] [xI] [yw],SeqAt.notIn_tupleAt _ pl [xI] [yw]]
def afh:[kb,"len",[Cg,[ya,X.K,ys]/\Q [l,[m0]] H]]:=by rw[cu];rw[ab,p,ys,rfl,z,q,h];rw[K,u,rfl,N,lQ r];cases N;have O:=tH;rw[aJ,z,z,z];{rw[ag,az,j,pl,L,[eC,z]];rw[bd,U,j.length,Calls.call_len_list [mS] [f] [Ka]]};{rw[ag,az,j,pl,L,[e_,z]];rw[bd,U,j.length,len_tuple pl [f] [Ka]]}
def X9:[kb,"len",λxs H Q=>∃z,xs=[[K,z]]/\z.length<=bS/\Q [l,z.length] H]:=by rw[cu];rw[ag,z,rfl,L,q,h];rw[ag,u,rfl,t,rfl,lQ r];rw[bd,U,tH,len_str [g] [o']]
def Li:fy X [jh] [Cg,[ya,X.K,ys]/\[j0,l,[ax,ys]]]:=by rw[cu];rw[ab,p,ys,rfl,z,q,h];rw[K,u,rfl,W,lQ r];cases W;have N:∀(az:[h]),bq _ _->[m0]<=bS->∀(h':bP)(G:Nat),(∀b o',[wD,b]=[cj]->[i1,b]=[cj])->h'.get? _=[cj]->EP X _ _ Q _ _:=λaz j L h' G kp e=>#[[dQ],_,I.laid (t':=s.toks) kp [dr] [aA,c7 _ _ _ _ _ [b9],#[L,az,G,j,e]],Y,q _ [mt]];rw[aJ,z,z,z];{rw[ag,az,j,pl,L,[eC,z]];have U:=j.length;rw[ab,o,J,O,n,hd,pl.isList];exact call_list_seq p [fa] J O hd (λh' G kp e=>N _ j L _ _ kp e) [f]};{rw[ag,az,j,pl,L,[e_,z]];have U:=j.length;rw[ab,o,J,O,n,hd,pl];exact call_list_seq p [aC,Y] J O hd (λh' G kp e=>N az j L _ _ kp e) [f]}
def VS:fy X [oi] [Cg,(bp X.K H p ys/\[j0,l,[bw,ys]])\/(cx X.K H p ys/\Q [dq] H)]:=by rw[cu];rw[ag,p,ys,rfl,h,h];rw[K,u,rfl,N,lQ r];cases N;rcases h with⟨z,q⟩|⟨z,q⟩;{rw[ag,az,j,pl,L,[eC,z]];rw[aY,U,j.length,call_tuple_list [mS] (λh' kp=>?_) [f]];rw[R,S,I.kept (t':=s.toks) kp,B,S.laid (t':=s.toks) [rj] (by simp) [aA,c7 _ _ _ _ _ (.tup _),#[L,az,j,TY _ _]]];exact#[[dQ],_,B,Y,q _ [Bv]]};{rw[dH,az,j,pl,L,[e_,z],call_tuple_same pl #[[dq],H,I,Y,q]]}
def Gi(K:aQ)(T:String)(x:V)(H:Hp):[P]:=match x with|[dE]=>T="str"|[b3]=>T="int"|[dq]=>(T="list"/\∃xs,bp K H p xs)\/(T="tuple"/\∃o,[e8,p]=[a']/\o.cls=[oi]/\o.dict=ag)\/(T="dict"/\((∃kvs,H p=aa [mU])\/∃kvs,H p=aa [oP]))\/(T="set"/\∃S n,H p=aa [cE,S,n])|_=>False
def KL{σ:St}(I:[ah])(r:bB x v)(ty:Gi X.K T x H):s.TypeIs v T/\∀a,v=[aL]->∃ob,[bJ,a,ob]/\[lQ]=ag:=by cases x with|str z=>rw[M,t,rfl,r];cases [aA,T="str",ty];rw[aQ,C_ s z t,[DP]]|int i=>rw[M,t,rfl,r];cases [aA,T="int",ty];rw[aQ,typeIs_int s i t,[DP]]|ref p=>cases r;rcases ty with⟨rfl,xs,L⟩|⟨rfl,o,q,O,hd⟩|⟨rfl,q⟩|⟨rfl,S,n,q⟩;{obtain⟨az,_,pl,_⟩:=[eC,L];rw[a3,pl.isList.typeIs,[ox]];rw[cJ];obtain⟨o,n,e,c,hd,_⟩:=pl;grind};{rw[a3,#[o,I.dW p o q,O],[ox]];rw[aU,e,#[o,I.dW _ o q,hd]]};{(have z:∃o,[bJ,p,o]/\o.ExactDict:=by rcases q with⟨kvs,q⟩|⟨kvs,q⟩;{rw[fx];rw[bb]};{rw[fx];grind});rw[aK,o,e,ex,z,#[#[o,e,ex.1],λa j=>?_]];rw[aU,j,#[o,e,[ak,ex]]]};{obtain⟨o,_,_,_,e,ex,_⟩:=I.aO p _ q;rw[a3,#[o,e,ex.1],λa j=>?_];rw[aU,j,#[o,e,[ak,ex]]]}|_=>exact et ty
def aal(K:aQ)(T:String)(r:[ns])(to:TE):TE:=[x3,Gi K T x H1,r x [] H1 Q]
def tBM(K:aQ)(T:String)(r:[ns])(to:TE)(t:TA):TE:=[x3,Gi K T x H1,t σ H1 λxs H2=>r x xs H2 Q]
variable{o e:bQ}{es:List bQ}{to:TE}{t:TA}{name:au}{apos cpos:eo}{T id:String}{r:V->List V->Hp->VK->Prop}
def aeN(j:PlainAttrs T)(slot:Slot T name id)(q:[tW])(O:mV X id r)(J:[o1])(W:[Am]:=by rfl)(B:[a3,[sW]==cpos.line]:=by rfl):[mx,name,[],cpos,aal X.K T r to]:=by rw[aS,Q,h,wpAny_Call_method0_late W B (a8 [n6] λv G#[x,H1,S,L,ty,z]=>?_)];rw[aG,h1,h2,KL S L ty,#[T,id,j,slot,q,h1,h2,zl Y (Da (O _ _ _ _ x _ v _ Q S L [aM] z))]]
def Fe(j:PlainAttrs T)(slot:Slot T name id)(q:[tW])(G:mV X id r)(U:[o1])(Z:[sr])(W:[Am]:=by rfl)(n:[AP,cpos,[pI,[jE]],X.env,[jE]]:=by rfl)(Hz:[a3,[sW]==cpos.line]:=by rfl)(O:[il,es]:=by rfl)(z:[wG,cpos,es]:=by rfl):[mx,name,[jE],cpos,tBM X.K T r to t]:=by rw[aS,Q,h,wpAny_Call_method_late W n Hz Y (a8 [uO] λv s1#[x,H1,S,J,ty,q1]=>?_)];rw[bA,h1,h2,KL S J ty,#[T,id,j,slot,q,h1,h2,?_]];have L:=Z cpos _ _ _ _ _ S q1;rw[O]at L|-;rw[d8,zl [f] (Jf ?_),[eU,L,us,s2,B,H2,F,N,q2,G _ _ _ _ x _ v _ Q F J N q2]]
end
def Ft(X:Cx)(id:String)(r:[ns]):[P]:=[FV]
def bq.one:∀{x}{us},bq [x] us->∃u,us=[u]/\bB x u|_,_,[hH,r]=>#[_,Y,r]
def bq.zero:∀{us},bq [] us->us=[]|_,[aM]=>rfl
def bq.dropLast(h:[iK]):bq xs.dropLast us.dropLast:=by induction h with|nil=>exact [aM]|cons r t U=>cases t with|nil=>grind|cons q t'=>exact [bF,r,U]
def am4{U:[aH]}(l:[gw]):l.eraseIdx ([E]-1)=[v']:=[f]
section
variable{X:Cx}{pins:List (ai×bn)}{σ:St}{H:Hp}{s:aD}{l b:ai}{xs ys zs:List V}
def ak.EJ{az B:[h]}(I:[ah])(O:[m_,l])(e:[bJ,l,[pY]])(U:f [hf]=[ks])(W:bq ys B)(z:[m0]<=bS):[c7,[cw,l,[ax,ys]],[l7,[sw,l,lL f],t']]:=by rw[bk,q,PySem.IsL.update e f,U,q];rw[d8,I.write [q,O,zm] [fa] (λS u J hu=>[bY,[ld,J],hu]) #[_,q] ?_,#[z,B,_,W,q]]
def ak.ach(I:[ah])(W:bq ys az)(z:[m0]<=bS):[c7,[cw,[ar],[ax,ys]],[l7,[hR,[k0,[hf]]],t']]:=[uH,[uk],#[z,az,0,W,[cs]]]
def ak.fresh(I:[ah]):H [ar]=ag:=[mt]
def ak.vU(I:[ah])(O:[m_,l]):[q6]/\∃(az:[h])(n:Nat),bq xs az/\[cF]=[o0]/\[bJ,l,[pY]]:=by rw[ab,z,az,n,r,e,I.aO l _ O];exact#[z,az,n,r,r.length,e]
def ZR(h:n<=bS):TZ n=af:=[b_,TZ]
end
section
variable{X:Cx}
def abM:[ns]:=[n0,B,∃l xs y,x=[hD]/\B=[y]/\[m_,l]/\[cF]<bS/\Q [aY] [cw,l,[X,xs++[y]]]]
def Nf:Ft X "list.append" abM:=by rw[bC,B,us,N,J,h];rw[bU,l,xs,y,rfl,rfl,O,j,q];cases N;rw[K,u,rfl,L,J.one];rw[di];rw[ai,zn T1 [wk] F.entry_list_append (F.args_list_append_2 _ _) (PySem.list_append l _ n u [f]) #[e,?_],[Ix,[hH,L]]];grind
def XZ:[ns]:=[n0,B,[H_,B,[[fZ]],Q [aY] [cw,l,[X,xs++zs]]]]
def X2:Ft X "list.extend" XZ:=by rw[bC,B,us,N,S,h];obtain⟨l,b,xs,zs,rfl,rfl,O,W,hz,q⟩:=h;cases N;rw[K,u,rfl,L,S.one];cases L;rw[di];rw[am,z2,G,n2,J,qj,Z,I.vU W];rw[D,i8,[u1]+G.toArray.size<=bS,[f],j,¬[a3,! az.toArray.isEmpty&&TZ ([u1]+G.toArray.size)],[ba,ZR i8]];rw[ai,zn ajk [wk] F.entry_list_extend (F.args_list_extend_2 _ _) (AutoSeq1.list_extend_list_list_0 l _ n b _ _ j [g] [g]) #[e,Z,?_],[Ix,J]];grind
def agn:[ns]:=[n0,B,∃l xs y,x=[hD]/\B=[]/\[m_,l]/\[aR,xs,[cF]-1,y]/\Q y [cw,l,[ax,xs.dropLast]]]
def ahk:Ft X "list.pop" agn:=by rw[bC,B,us,N,W,h];rw[bU,l,xs,y,rfl,rfl,O,L,q];cases N;have j:=W.zero;subst j;rw[di];rw[K,u,hu,J,r.get L];(have G:=by show [aR,[hf],[o0]-1,u];rw[bb]);rw[ai,zn ajl [wk] F.entry_list_pop (F.args_list_pop_1 _) (MeetsSeq.list_pop_last l _ n u G ([bb])) #[e,?_],#[y,_,I.EJ O e ?_ r.dropLast ?_,J,q]];{simp};{rw[cz,ajm]}
def adU:R2:=[d4,[H_,y,[fZ],[j0,p,[X,xs++zs]]]]
def WK:[lK,.Add,adU]:=by rw[bC,y,u,W,N,h];obtain⟨l,b,xs,zs,rfl,rfl,O,L,Z,q⟩:=h;cases W;cases N;rw[di];rw[am,z2,G,F,J,B,j,I.vU L];refine PySem.P.add_list e j ?_ [f];(have S:[hf]++G.toArray=[hg,az++G]:=by simp);rw[V,S,#[[dQ],_,I.ach (r.append J) [f],Y,q _ I.fresh]]
end
def bq.«ints»:∀{ns}{us},bq [ji] us->mI us ns|[],us,h=>[aU,h,IntsAre.nil]|n::ns,us,h=>by cases h with|cons r t=>rw[aG,k,rfl,r,IntsAre.cons n k (bq.«ints» t)]
def Kx:∀{us}{ns},mI us ns->bq [ji] us|_,_,[aM]=>by exact ajn|_,_,.cons n t h=>by exact Paired.cons [aA,bB _ _,#[t,Y]] (Kx h)
def bq.sQ:∀{bs:[h]}{us},bq (bs.map V.bl) us->us=bs.map r9|[],us,h=>by rw[a7];rfl|b::bs,us,h=>by cases h with|cons r t=>cases r;rw[bq.sQ t,bT]
def bq.AU(r:bq [V.ref a] us):us=[da a]:=by cases r with|cons r t=>cases t;cases r;rfl
section
variable{prog:cP}{w:cz}{A:dc}{E:aq->aD->Prop}{s:aD}{l:ai}{az:List aq}{ns:List Int}{Q:aq->aD->Prop}
def agX(hh:[gi])(U:[qx,[hf]])(hi:mI az ns)(h:∀h' tk t',([mz,[i1,b]])->Q (.int ns.sum t') [cS,h']):[dS,[s0,"sum",[[hD]]]]:=by rw[M,xs,e,hi.allInts.items];rw[aH,q,numsOf (intItems xs).toList=ns,[bD,e,hi.numsOf],nums_intItems,q];rw[e]at U;refine PySem.sum_intListG hh U λh' tk t' O=>?_;rw[preSum_eq,gI (by simp)];grind
end
section
variable{X:Cx}
def Wd(K:aQ):[p3]:=[Bn,ns,[a4],[ji],Q [l,ns.sum] H]
def Wo(O:[cG]):[kb,"sum",Wd X.K]:=by rw[c1];rw[ab,a,ns,rfl,J,q,h];obtain⟨az,W,U,_⟩:=[eC,J];rw[V,bq.AU r,agX [e4] U.isList W.«ints» λh' tk t' z=>#[[b3],H,I.kept z,[gV],q]]
def agw(K:aQ):[p3]:=[Bn,ns,[a4],[ji],[gL]<64/\∀(N:[a4])(p:ai),N.Perm ns->N.Pairwise (·<=·)->([gZ])->Q [dq] [eY,[X,N.map V.int]]]
def anu(h:n<64):n<=bS:=[cz,kZ]
def VV:[kb,"sorted",agw X.K]:=by rw[c1];rw[am,a,ns,rfl,O,F,q,h];obtain⟨az,J,U,_⟩:=[eC,O];rw[bq.AU r];rw[aY,hi,J.«ints»,aqS U.isList hi ([ba,hi.length]) λj N h1 h2 z=>?_];rw[M,ep,n,aqT _ _ _];rw[br,W,[aO,N.map V.int,bS],by rw[aR,h2.length_eq];grind,#[[dQ],upd H _ [b9],[uH,λ_ _=>aqU,#[W,j.toList,ep,Kx h1,n]],Y,q _ _ h2 z [mt]]]
end
def Qa(U:[qx,G])(h:∀S,S=[cv,[sE]]->(S.heap.IsListIter [ar] l 0/\S.heap.IsList l G)->l≠[ar]->Q [fs] S):[dS,ze [hD]]:=[br,O,l<[ar],[p4,e,U],sf U (h _ Y #[[mv],U.push _] [f])]
def Mi{bs:[h]}(e:az=bs.map r9):TruthOf prog w A (λi v=>[aZ,[hf],v]) [C_]:=λi v s Q E I q=>by have N:=[aD,I];rw[e,dQ]at N;rw[K,b,J,rfl,lG.mp N];rw[D,O,bs.getD i af=b,[f],z,Q (bs.getD i _) s,q];rw[ae,O,z,nW z]
def RS:∀bs:[h],(br bs.length).any [C_]=bs.any id|[]=>rfl|b::bs=>by rw[b7,yU,n3,rR,n3,<-RS _];rfl
def OB:∀bs:[h],(br bs.length).all [C_]=bs.all id|[]=>rfl|b::bs=>by rw[b7,yU,e8,wa,e8,<-OB _];rfl
section
variable{X:Cx}
def Y2(K:aQ):[p3]:=[LR,bs.any id]
def Vm(K:aQ):[p3]:=[LR,bs.all id]
def acB(O:[cG]):[kb,"any",Y2 X.K]:=[Fx,call_any_walk [KW],RS]
def ac_(O:[cG]):[kb,"all",Vm X.K]:=[Fx,call_all_walk [KW],OB]
end
mutual
inductive Dp(K:aQ)(H:Hp):V→wt→Prop|a0:Dp K H .a0 .none|bl(b:Bool):Dp K H (.bl b) (.bool b)|int(i:Int):Dp K H (.int i) (.int i)|str(x:au):Dp K H (.str x) (.str x)|lst{a:ai}{xs:List V}{ds:List wt}:bp K H a xs→rq K H xs ds→Dp K H (.ref a) (.list ds)|tup{a:ai}{xs:List V}{ds:List wt}:cx K H a xs→rq K H xs ds→Dp K H (.ref a) (.tuple ds)
inductive rq(K:aQ)(H:Hp):List V→List wt→Prop|nil:rq K H [] []|cons{v:V}{B:List V}{d:wt}{ds:List wt}:Dp K H v d→rq K H B ds→rq K H (v::B) (d::ds)
end
section
variable{X:Cx}{pins:List (ai×bn)}{σ:St}{H:Hp}{s:aD}
mutual
theorem Dp.reads(I:ak X pins σ H s):∀(d:wt)(v:V)(u:aq),Dp X.K H v d→bB v u→∃L,Reads s.heap u d L|.none,_,_,h,r=>by cases h;cases r;exact⟨_,Reads.none⟩|.bool b,_,_,h,r=>by cases h;cases r;exact⟨_,Reads.bool b⟩|.int i,_,_,h,r=>by cases h;obtain⟨t,rfl⟩:=r;exact⟨_,Reads.int i t⟩|.str x,_,_,h,r=>by cases h;obtain⟨t,rfl⟩:=r;exact⟨_,Reads.str x t⟩|.list ds,_,_,h,r=>by(cases h with|lst q S=>cases r;obtain⟨az,W,⟨o,n,J,O,_,hd⟩,_⟩:=I.list q;obtain⟨L,z⟩:=Dp.EA I ds _ _ S W;exact⟨_,Reads.list J O hd z⟩)|.tuple ds,_,_,h,r=>by(cases h with|tup q S=>cases r;obtain⟨az,W,⟨o,J,O,n,hd⟩,_⟩:=I.tuple q;obtain⟨L,z⟩:=Dp.EA I _ _ _ S W;exact⟨_,Reads.tuple J O hd z⟩)|.dict _,_,_,h,_=>by cases h
theorem Dp.EA(I:ak X pins σ H s):∀(ds:List _)(B:List V)(us:List _),rq X.K H B ds→bq B us→∃L,ReadsAll s.heap us ds L|[],_,_,h,r=>by cases h;cases r;exact⟨_,ReadsAll.nil⟩|d::ds,_,_,h,r=>by cases h with|cons h1 h2=>cases r with|cons N G=>obtain⟨L,j⟩:=Dp.reads I d _ _ h1 N;obtain⟨bs,U⟩:=Dp.EA I _ _ _ h2 G;exact⟨_,ReadsAll.cons j U⟩
end
end
section
variable{X:Cx}
def aeS(K:aQ):R2:=[HH,uP d e]
def aea(K:aQ):R2:=[HH,! uP d e]
def agz(hu:[pi]):[dD,.Eq,aeS X.K]:=[GS,SeqAt.compareEq_shaped J j W se hu [k_,I]]
def aah(hu:[pi]):[dD,.NotEq,aea X.K]:=[GS,SeqAt.compareNe_shaped J j W se hu [k_,I]]
end
abbrev la(h:bP)(c:ai)(v:[gP]):[P]:=h.IsCell c v
def fg(j:[fy,ai]):([fy,zp])->([fy,ai])->[fy,ai]|[],acc=>acc|(n,k)::r,acc=>[A,k==[ec],fg j r ((n,[mT,j.lookup n])::acc),fg j r acc]
def Nr(env:jf)(f:au×zp->([h])->Sem _)(J:∀n k c,f (n,k) c=[A,k==[ec],do let a←Jh env n;bx (.yield ((n,a)::c)),bx (.yield c)]):[h4,G,acc,[h],∀y∈G,[IN],forIn G acc f=bx (fg env.cells G acc)]|[],acc,_=>by rfl|(n,k)::r,acc,h=>by rw[List.forIn_cons,J];have U:=λacc=>Nr _ f J r acc λy L=>h y [o3];unfold fg;rw[aE,[a3,k==ajo]];{rw[M,c,O,h (n,k) (by simp) ([aD,q])];rw[eT,e,Jh env n=bx c,[dV,Jh,O]]};{rw[a5,aw q,aw q,U _]}
def Nd(h:∀y∈scope.names,[IN]):Db scope env=bx (fg env.cells [jn] []):=by rw[aa,Db];rw[a_,Nr _ _ (by simp) _ _ h]
def Fc{U:[aH]}:∀{l:[fy,U]}{n}{c},(n,c)∈l->∃j,l.lookup n=aa j|(k,v)::r,n,c,h=>by rw[pi];cases J:n==k with|true=>grind|false=>rw[aJ,[c4,h],e,h];rw[ar];{exact Fc h}
def AZ:∀{G}{acc}{n}{c},(n,c)∈fg j G acc->(n,c)∈acc\/((n,[ec])∈G/\c=[mT,j.lookup n])|[],_,_,_,h=>[H,h]|[wC],acc,n,c,h=>by rw[aC,fg,h];{rw[bX,AZ h,h,h1,h2];rw[cp]};{rw[bX,AZ h,h,h1,h2];rw[cp]}
def Fp:∀{G}{acc}{p},p∈acc->p∈fg j G acc|[],_,_,h=>h|[wC],acc,p,h=>by unfold fg;split;rw[aq,Fp [f],Fp h]
def G5:∀{G}{acc}{n},(n,[ec])∈G->(n,[mT,cells.lookup n])∈fg cells G acc|[wC],acc,n,h=>by unfold fg;rw[aJ,[c4,h],e,h];{rw[aU,e,Fp (by simp)]};{split;rw[aq,G5 h,G5 h]}
def w4:∀{G}{h:bP}{acc}{x}{c},(x,c)∈fq [c9] G acc->(x,c)∈acc\/((x,[lZ])∈G/\[c9]<=c/\la (qC h G) c ag)|[],_,_,_,_,h=>[H,h]|(n,k)::r,h,acc,x,c,q=>by rw[al,fq,q];unfold qC;rw[aA,q];{rw[ax,O];rw[aJ O];have O:=[aD,O];rw[aP,gp h [i7,"cell",.cell ag],q];rcases w4 q with q|⟨h1,h2,z⟩;{rw[aJ,[c4,q],e,q];{rw[aU,e,[aC,#[O▸qv,[dr],_,Dc r _ _ _ [cs],Y]]]};grind};{rw[gp]at h2;grind}};{rcases w4 q with q|⟨h1,h2,z⟩;rw[cp]}
def A6:∀{names}{n}{acc}{p},p∈acc->p∈fq n names acc|[],_,_,_,h=>h|[wC],n,acc,p,h=>by unfold fq;split;rw[aq,A6 [f],A6 h]
def Fa:∀{G}{n}{acc}{x},(x,[lZ])∈G->∃c,(x,c)∈fq n G acc|[wC],n,acc,x,h=>by unfold fq;rw[aJ,[c4,h],e,h];{rw[aU,e,#[n,A6 (by simp)]]};{split;rw[aq,Fa h,Fa h]}
def D_:∀{G}{h:bP}{acc:[fy,ai]}{x y}{c},([g4,acc,[Z]<[c9]])->(∀x y c,[KY,acc])->[KY,fq [c9] G acc]|[],_,_,_,_,_,_,hi,h1,h2=>hi _ _ _ h1 h2|(n,k)::r,h,acc,x,y,c,U,hi,h1,h2=>by unfold fq at h1 h2;rw[aA,h1];{rw[ax,q];rw[aJ q]at h2;rw[<-gp h [i7,"cell",.cell ag]]at h1 h2;refine D_ (λp L=>?_) (λx y c a b=>?_) h1 h2;{rw[ba,gp]};grind};{rw[ax,q];rw[ae,aw q,h2,D_ U hi h1 h2]}
def Ml{code}(h:Q (newEnv scope [ar] j (fq [bN] [jn] n) qual q code (aa z) B) [cv,[yW]]):[eF,M,ajp scope j n [] qual q code (aa z) B]:=by simp[ajp];rw[aT,wpAny_alloc ?_,wpAny_layCells _ (by simp) _ _ _ _ ?_];rw[V,[aA,([cv,[ol]]:aD).heap.objs.size=[bN],gp ..],[aJ,bg (bg h)]]
def GU{sc:fo}:∀{G:[h]}{x}{k},[f4,[Is,ajo,NameKind.cell]].lookup x=aa k->∃z,G.lookup x=aa z/\(k=z\/(z=[ec]/\k=[lZ]))|[],_,_,h=>[f]|(n,j)::r,x,k,h=>[jN,q,@GU sc r x k]
structure l_ (N : List au) (sc scope : fo) (own : List (au × Nat)) : Prop where
 kind : scope.kind = .function
 uniq : ∀ y ∈ scope.names, scope.names.lookup y.1 = aa y.2
 ix : ∀ p ∈ own, N[p.2]? = aa p.1
 free : ∀ y ∈ scope.names, y.2 = .free → sc.names.lookup y.1 = aa .cell ∨ sc.names.lookup y.1 = aa .free
 own : ∀ y ∈ scope.names, y.2 = .local ∨ y.2 = .cell → y.1 ∈ own.map (·.1) ∨ y.1 ∉ N
def b6(σ:St):([aj])->St|[]=>σ|v::B=>(b6 σ B).set v ag
def rA(σ:St):∀B,[Q,b6 σ B]=[ho]|[]=>rfl|v::B=>by unfold b6;rw[jM,rA _ _]
def BI:∀{B},([aZ,b6 σ B,aa x])->[aZ,σ,aa x]/\i∉B|[],h=>[qZ,h]|v::B,h=>by rw[al,b6,h];rw[bo,hi,v=i];{rw[ap,gm hi,h,h1,h2,BI h];rw[aQ,h1,by simp;grind]}
abbrev Cx.bY(X:Cx)(s:aD)(H:Hp)(scope:fo)(G:jf)(J:[bc]):Cx:=[Ih,J,[ml,x],[],[qf]]
section
variable{X:Cx}{pins:List (ai×bn)}{σ:St}{H:Hp}{s:aD}
def R1(I:[ah])(ok:[li,scope])(hN:X.N.Nodup)(n:[ev,fp,hC X pins H b/\b<[ar]]):ak [pG,scope,[nL,[bN],[jn]],[ar],fp] [] [Au] H [cv,[yW]]:=by have yJ:∀y∈scope.names,y.2=[ec]->∃c,[l_,[b7],c]:=[Hk,[aC,k]];generalize B:dN scope [nL,[bN],[jn]] [ar] X.env=gH;rw[D,kp,[mz,[yW].get? b],[dC,Dc _ _ _ _ [gU]],hL,gH.locals=[ar],[jL,B]];rw[D,dw,gH.cells=[nL,[bN],[jn]],[jL,B],j,gH.scope=tW scope [i_],[jL,B]];rw[aP,gp s.heap [kX],dw];rw[D,cm,∀{y c},(y,c)∈fg X.env.cells [jn] []->[l_,y,c]/\c<[ar],λhm=>by rw[bX,AZ hm,hm,h1,rfl];{cases hm};{rw[M,c,O,yJ _ h1 Y];rw[O];rw[aG,w,z,I.cell _ _ O,#[Y,z.lt]]},mem,∀{y c},([x'])->([l_,y,c]/\c<[ar])\/([bN]<=c/\la [yW] c ag),λe=>by rw[dw]at e;rcases w4 (jQ e)with hm|⟨_,h2,h3⟩;{exact [H,cm hm]};{rw[ae,gp,h2,[aC,#[h2,h3]]]}];rw[a0,look,∀{y},[ml,y]=aa [ec]->∃c,[x']/\[l_,y,c],λ{y}U=>by rw[M,c',e',Fc (A6 (names:=scope.names) (n:=[dh,[hR,[kX]]]) (G5 (cells:=X.env.cells) (acc:=[]) (jQ U)))];rw[aP,dw,e'];rw[bm,c',e'];rw[dw]at e';rcases w4 (jQ e')with hm|⟨h1,_,_⟩;{exact [M,cm hm]};{have:=ok.uniq _ h1;rw[az,U,this,this]},L,(X.bY s H scope gH fp).Ok,by refine#[I.ok.mod,by show gH.scope.kind=_;rw[V,j,ok.kind],by show gH.globals=_;rw[bD,B,I.ok.fw],by show gH.builtins=_;rw[bD,B,I.ok.blt],by show [ar]<=gH.locals;rw[V,hL,[dr]],λy z c e1 e2=>?_,λy hy=>?_,λy c z e=>?_,I.ok.hd,I.ok.frames,[fa],λb J=>#[?_,λy c e z=>?_],I.bs,c9 I.ok.lO I.sz,λb o e J=>?_,λb J z=>?_,I.stack,I.EB];{rw[R,e1,e1,e2,e2];rw[dw]at e1 e2;refine D_ [vm] (λy z c a b=>I.ok.inj y z c [M,cm a] [M,cm b]) (jQ e1) (jQ e2);rw[V,gp,wu [bq,cm (y:=[L]) (c:=[Z]) hp]]};{show∃c,[x'];(have key:∀k,gH.kindOf y=aa k->(k=[lZ]\/k=[ec])->∃c,[x']:=λk hk Z=>by rw[al,Env.kindOf,hk];rw[j]at hk;rw[K,k',e,r,GU hk];(have:k'=[lZ]\/k'=[ec]:=by rcases r with rfl|⟨rfl,_⟩;rw[aq,Z,[aC,Y]]);rw[aJ,this,rfl,rfl];{rw[M,c,hm,Fa (n:=[dh,[hR,[kX]]]) (acc:=fg X.env.cells [jn] []) (jQ e)];rw[aG,c',e',Fc hm,#[c',[q,dw,e']]]};{rw[a4,c,h1,look e];rw[aQ,c,h1]});rw[d_,hy,hy,hy,key _ hy [fa],key _ hy [aC,Y]]};{rw[R,z,z,z,[aD,z]];rw[bk,e,e,dw,e];rcases w4 (jQ e)with hm|⟨_,h2,_⟩;{rcases AZ hm with hm|⟨h1,_⟩;{cases hm};{have q:=ok.uniq _ h1;rw[az,z,q,q]}};{rw[ae,gp,h2,T2 h2]}};{show b≠gH.locals;rw[V,hL,di [bq,n b J]]};{rcases mem (e)with⟨h1,_⟩|⟨h1,_⟩;rw[bS,[mW,[M,n b J]].1 y c h1 z]};{rw[d_,[cQ,[M,n b J].2],z,z,I.ok.u9 b o e z,[c_,hc [ee] (c9 I.ok.lO z),qw _]]};{rw[d_,[c4,I.A8 b z],z,z,[M,n b J].2.1 z,[aE,[M,n b J]].1 z]},#[L,Y,I.bare,Un.kept kp,#[[mY],?_,λi y F e1 e2 e3=>?_],[zR],?_,[zR],[vm],I.aO.kept kp,[q,rA,I.len]]];{show Heap.Ns _ gH.locals _;rw[V,hL,Heap.Ns.keeps (Heap.Ns.new ..) [dC,Dc _ _ _ _ e]]};{rw[bj,e2,im,BI e2,N,[HR],by rw[ay,key,∀k,gH.scope.names.lookup y=aa k->k=.local\/k=[lZ]\/k=[ec]->[HR],λk hk Z=>by rw[bk,G,hk,j,hk];rw[K,k',e,r,GU hk];(have no:¬(k'=.local\/k'=[lZ]):=λhh=>by rw[aJ,ok.own _ (jQ e) hh,e',e'];{rw[K,p,hp,W,b0.mp e'];have e3:=ok.ix p hp;have:=W;rw[ae,this,e3,im (b0.mpr #[p,hp,Bn hN e3 e1])]};{exact e' (cG e1)});rw[bX,r,rfl,rfl,rfl];{rcases Z with rfl|rfl|rfl;rw[aq,[c_,[fa],no],[c_,[aC,Y],no]];{rw[aQ,e,[aC,G]]}};{rw[aQ,e,[H,G]]},e3,e3];rcases e3 with e3|e3|e3;rw[b6,key _ e3 [fa],key _ e3 [e6,Y],key _ e3 [lJ,Y]]];rw[K,m,hn,U,I.loc];have S:gf [i_] y:=(ok.free _ (jQ N.1) Y).elim (λk=>[e6,k]) (λk=>[lJ,k]);rw[aK,w,r,q,U i y F e1 e2 S,#[w,r,[aC,#[N.2,?_]]]];rw[K,c,h1,h2,look N.1];rcases q with⟨k,_⟩|⟨_,c',e',z⟩;{have k:[jW,y]=[fj]:=k;rcases ok.free _ (jQ N.1) Y with k'|k'<;>rw[[aA,[jW,y]=_,k']]at k<;>cases k};{rw[dg,h2,e',#[c,h1,z.keeps kp]]}};{rcases mem (e)with⟨h1,_⟩|⟨_,z⟩;{rw[aG,w,z,I.cell y c h1,#[w,z.keeps kp]]};{exact#[_,z]}};{show H gH.locals=ag;rw[V,hL,[tE]]};{rcases mem (e)with⟨h1,_⟩|⟨h1,_⟩;rw[aq,I.ie y c h1,[j3,T2 h1]]};{exact [ga,[aA,p∈[]++[],hp]]}
def LQ(I:[ah])(L:[m_,D])(B:[cF]<bS)(r:bB y v)(h:[uS,[cw,D,[X,xs++[y]]],[a0]]):aE [c6] X.A [s0,"list.append",[[kT],v]] Q E s:=by rw[ab,G,az,n,z,e,I.aO D _ L];have U:=z.length;rw[ai,append_at (hsz:=[cz,ph]) e λh' j N=>?_,h _ (I.write ([jq,L]) [fa] (λb u J q=>[oA,j.2 b J]) #[_,N] #[[f],az++[v],[aw],z.append [hH,r],?_])];rw[bb]
def lU (X : Cx) (j : List bQ) (t : TT) : Prop :=
 ∀ (pins : List (ai × bn)) (s : aD) (σ : St) (H : Hp) (Q : Bool → Hp → Prop), ak X pins σ H s → t σ H Q →
  aE (aK X.prog X.w) X.A (forIn j ae fun c r => if r = ae then do let ok ← uD c X.env (aM c X.env); bx (Ji ok) else bx (Ji r)) (TP X pins σ Q) X.xe s
def vt:TT:=λ_ H Q=>Q ae H
def zM:lU X [] vt:=λ_ _ _ H _ I h=>wpAny_tests_nil #[H,I,h]
def UI(h:PT X c t):lU X [c] t:=[uZ,W,wpAny_tests_one [z8,W]]
end
def m6{t:Sem U}(h:aE M A t Q [qf] s)(q:∀a s,Q a s->j a s):aE M A t j E s:=gR h q (by simp)
def OQ(I:Nat->aD->[P])(turn:∀n s,I n s->aE [g_] A (jg it) (λr W=>[cZ,r,ag,R (.ok .next) W,[cX],aE [g_] A (Tt z it v) (λ_ B=>aE [g_] A (uE z env v) (λ_ S=>aE [g_] A (forIn ej ae λc r=>if r=ae then do let ok←uD c env (aM c env);bx (Ji ok)else bx (Ji r)) (λok q=>[ap,ok,aE [g_] A (aM elt env) (λx G=>aE [g_] A [s0,"list.append",[acc,x]] (λ_ J=>∃m,m<n/\I m J) [rR] G) [rR] q,∃m,m<n/\I m q]) [rR] S) [rR] B) [rR] W]) [rR] s)(n:Nat)(h:I n s):[o4,.compLoop [rQ,z,ej] 0 it acc env,s]:=by refine codeAny_loop Y I (λn s hI=>?_) n h;show aE _ A _ _ _ s;rw[ai,wpAny_noted ?_,[aJ,wm [aJ,[pv,turn n s hI,r,W,Z,by simp]]]];cases r with|none=>exact bg Z|some v=>rw[aT,gR Z (λ_ B U=>?_) (by simp),gR U (λ_ S N=>[aJ,[pv,N,ok,q,j,by simp]]) (by simp)];cases ok with|false=>exact bg #[Y,j]|true=>exact [aJ,[aJ,gR j (λx G L=>[aJ,gR L (λ_ J O=>bg (bg #[Y,O])) (by simp)]) (by simp)]]
section
variable{X:Cx}
def sW(I:TI)(g:TG)(L:TT)(te:TE)(B:[aj]):TE:=λσ H Q=>I σ H λJ H1=>∀D,H1 D=ag->∃S:Nat->Nat->[dM],(∃m,S 0 m (upd H1 D [bI]))/\∀i m H,S i m H->(J.stop i H/\Q [kT] H)\/(J.go i H/\∃F:[dM],(∀H',F H'->∃N,N<m/\S [aa] N H')/\∀x H',J.AT i H x H'->g x (b6 σ B) H' λG H2=>b6 G B=b6 σ B/\L G H2 λb z=>[ap,b,te G z λy q=>∃acc,q D=[ls,acc]/\acc.length<bS/\F (upd q D [X,acc++[y]]),F z])
def Qn{σ:St}(O:[cG])(hN:X.N.Nodup)(I:[ah])(hi:[vr])(ok:[li,scope])(hg:[jZ,cl,W,[bc],PG [nd,cl,W] tg g])(ht:[jZ,cl,W,[bc],lU [nd,cl,W] ej tt])(he:[jZ,cl,W,[bc],PE [nd,cl,W] elt te])(hs:[k3])(h:sW wi g tt te [k6] σ H Q)(HD:∀D C s' m H',[GH,C,m]):[KE,[rQ,tg,ej],scope,pos']:=by rw[ef,scope.names,y.2=[ec],[aC,k],h2];rw[d6,W,B,h2,.seq [hg,[]],G,G.heap=s2.heap.push [Aw]];rw[d0,W,b<s2.heap.objs.size,[bI],b<[ob],G.heap,G,[ob],[ob]+1,[jn]];rw[d4,elt,scope,[ob]+1,[jn],[ob],G,G.heap.push [kX],N];(have cL:N.locals=[ob]:=by subst Cn;rfl);rw[ft,G,G.heap.push [kX],[jn]];rw[aj,yL,tn 0 s4.heap,[Ht],nz,[G9,[DG],W],[Gg],yM,jh [c6] X.A (.compLoop [rQ,tg,ej] 0 [gS] [kT] N) [Cs,[ob]] s4,by refine OQ (λn s'=>[FN,G,scope,N,W,n]) ?_ m0 #[0,H3,I4,yL,yK,w0];rw[en,[Io,[DG]],r,Z,z,m,D,[ob],I3.A' (ch:=W) I6.os I6.base I6.aO I6.bare [Ce],I3.ju [dr] nC];{rw[d5,G,scope,N,W,u,m,m<n,[iO]];cases b with|false=>simp only[dj,b8]at q9|-;exact fj I9 q9|true=>simp only[bI]at q9|-;rw[d8,m6 (pe _ s9 nB H9 _ I9 q9) λz Sj#[yv,Sk,HG,HH,acc,HI,HJ,nx]=>?_,[KO,[DG]]]}];exact [Kh]
def Gq(O:[cG])(hN:X.N.Nodup)(hi:[vr])(ok:[li,scope])(B:[jZ,z,G,[bc],PG [nd,z,G] tg g])(n:[jZ,z,G,[h],lU [nd,z,G] S N])(j:[t9,z,G,PE [nd,z,G] elt te])(L:[k3]:=by intro _;rfl):[cn,[rQ,tg,S],sW wi g N te [k6]]:=[JY,Qn O hN I hi ok B n j L h λD C s' m H' Z q U f=>#[m,U,λny W=>?_],H',W]
def QS{g}(O:[cG])(hN:X.N.Nodup)(hy:[aZ,X.N,y])(Z:[jW,y]=[fj])(B:[Dc,[rQ,tg,n]]=bx ae)(hi:[vr])(ok:[li,scope])(hg:[t9,W,U,PG [nd,W,U] tg g])(ht:[jZ,W,U,[h],lU [nd,W,U] n tt])(he:[jZ,W,U,[bc],PE [nd,W,U] elt te])(hs:[k3]:=by intro _;rfl):[sn,[sm],[rQ,tg,n],S,sW wi g tt te [k6],lg i]:=by rw[ci];rw[exec_Assign_Name_used _ _ _ _ B];rw[aT,wm [hZ],a8 (Qn O hN I hi ok hg ht he hs (h) λN C s' m H' I' q hn f=>?_) λ_ s' hq=>bg (bg hq)];refine ai1 (Qx (v:=V.ref N) I' hN hy [H,Z] Y (λs2 I2#[a,sb,ha]=>?_) [aC,Z]);rw[am,f0,f1,f2,f3,f4,f5,f];rw[ad,j,C≠a,by rw[aJ,ha,z,z];{rw[V,z,f1]};{exactλe=>f4 y a z e.symm},#[m,hn.sameBut sb j,λh3 L=>?_]];exact#[_,H',I2.turned [yF,L] f0 f1 f3 f4 f5,q]
end
def Zb(h:Hh N sc scope own=ae):l_ N sc scope own:=by rw[al,Hh,h];simp only[aF,ck,dZ]at h;obtain⟨⟨⟨h1,h2⟩,z⟩,j⟩:=h;refine#[?_,h2,z,λy L e=>?_,λy L e=>?_];{rw[aA,h1];{rw[h5]};{cases h1}};rw[ar];{have q:=j y L;rcases e with e|e<;>(simp only[e,kP,dZ]at q;exact q)}
section
variable{κ:Type}[DecidableEq κ]
def fP(kvs:[wl])(k:κ):[bg,V]:=[hY,kvs.find? [xs]]
def jy(kvs:[wl])(k:κ)(v:V):[wl]:=[ap,[zM],kvs.map [xK,v],kvs++[(k,v)]]
def yx{k:κ}(e:[L]=k):fP [eZ] k=aa [Z]:=by simp[fP,e]
def wZ{k:κ}(e:¬[L]=k):fP [eZ] k=fP r k:=by simp[fP,e]
def L5(k:κ):∀kvs,[zM]=[es,fP kvs k]|[]=>rfl|[eZ]=>by rw[n3];rw[b,e,[L]=k];{simp[yx e,uM e,aiJ,o8]};{rw[a5,wZ e,nV e,L5 k r]}
def Rr(kvs:[h])(k:κ)(v:V):[aO,[qO],[ln]+1]:=[b_,jy]
def hE.tV(r:hE o u):o.isSome=u.isSome:=by cases o with|none=>(cases u with|none=>rfl|some _=>rw[av,r])|some _=>cases u with|none=>rw[av,r]|some _=>rfl
def hE.getD(r:hE o u)(rd:bB d q):bB (o.getD d) (u.getD q):=by cases o with|none=>(cases u with|none=>grind|some _=>rw[av,r])|some _=>cases u with|none=>rw[av,r]|some _=>exact r
def KV.val(r:KV kvs B)(k:κ):hE (fP kvs k) (zq B k):=by induction r with|nil=>exact True.intro|@cons p q ps G h t U=>rw[M,h1,h2,h];rw[em,zq (q::G) k,zq,zq G k]
def KV.any(r:KV kvs B)(k:κ):[zM]=B.any [xs]:=by induction r with|nil=>rfl|cons h t q=>grind
def KV.GZ(r:KV kvs B)(k:κ)(N:[hA]):KV (kvs.map [xK,y]) [eD,[xK,u]]:=by induction r with|nil=>exact [aM]|@cons p q ps j h t U=>rw[gM,.cons ?_ U]
def KV.put(r:KV kvs B)(k:κ)(N:[hA]):KV (jy kvs k y) (stored B k u):=by unfold jy stored;rw[r.any k];rw[b,e,[a3,B.any [xs]]];{rw[a5,aJ e,aJ e,r.GZ k N]};{rw[a5,aw e,aw e,ajs r [f]]}
def KV.length{kvs:[wl]}(r:KV kvs B):[ln]=[bu]:=IM r
end
def oX(r:bB (kV k) u):[m9].is k u=ae:=by cases k with|inl i=>rw[M,t,e,[sf,u=o_ i t]];rw[bh,e,Z_ P w i t]|inr x=>rw[M,t,e,[sf,u=CW x t]];rw[bh,e,acp P w x t]
def Ls:∀{ks}{us},bq (ks.map kV) us->ItemsAre [m9] ks us|[],_,r=>[aU,r,[aM]]|k::ks,_,r=>by cases r with|cons h t=>exact [bF,oX h,Ls t]
abbrev KT(H:Hp):([vL])->([f_,[iH],ai×aq])->[P]:=wg λp q=>[HY]
def KT.val(r:[vG])(k:[h]):hE (fP kvs k) [hY,uR xs k]:=by induction r with|nil=>exact True.intro|@cons p q ps B h t U=>obtain⟨h1,_,h2⟩:=h;rw[em,uR (q::B) k,uR,uR B k]
def KT.GZ(r:[vG])(k:[h])(N:[hA]):KT H (kvs.map [xK,y]) (xs.map (putAt k u)):=by induction r with|nil=>exact [aM]|@cons p q ps B h t U=>refine .cons ?_ U;rw[b_,putAt]
def KT.put(r:[vG])(k:[h])(J:H b=[ok])(N:[hA]):KT H (jy kvs k y) (storedH xs k b u):=by(have e:[zM]=[es,uR xs k]:=by rw[L5,(r.val k).tV,wd]);unfold jy storedH;rw[e];rw[aE,[es,uR xs k]=ae];{rw[a5,aJ q,aJ q,r.GZ k N]};{rw[a5,aw q,aw q,ajs r [f]]}
def KT.keeps(r:[vG])(q:∀b ys,[Dx,ys]):KT H' kvs xs:=Paired.FR r [f]
section
variable{P:cP}{w:cz}{H:Hp}{h:bP}{a:ai}
def Lg(ok:[iC])(e:Rd H a u):[tf,u]:=e.ok ok
def sC(ok:[iC])(e:Rd H a [mU]):[CM]:=[aA,[zr],Lg ok e]
def N1(ok:[iC])(e:[et,[mU]]):[CM]:=sC ok [H,e]
def sx(ok:[iC])(e:H a=[hN,ks.map kV]):(zb [m9]).is h ks a:=by obtain⟨_,az,r,o,h1,h2,n,q⟩:=[aA,[zr],ok a _ e];exact#[o,az.toArray,n,h1,h2,q,[aD,Ls r]]
def sH(ok:[iC])(e:Rd H a [oP]):[G4]:=by obtain⟨z,y,xs,r,o,es,ep,h1,h2,j,B,O⟩:=[aA,[zr],Lg ok e];refine#[z,y,xs,r,o,es,ep,h1,h2,j,B,[gJ],O];rw[br,all,∀{l}{m},KT H l m->[b',m,(zb [m9]).is h [S] [bM]],by intro l m q;induction q with|nil=>grind|@cons p q ps G W t U=>intro x L;rw[aJ,[c4,L],e,L];{rw[bh,e,sx ok [f]]};{exact U x L},all r x L]
def My(ok:[iC])(e:[et,[oP]]):[G4]:=sH ok [H,e]
end
def qd(H:Hp)(a:ai)(y:V)(r:[bg,V]):[P]:=(∃kvs k,Rd H a [mU]/\y=kV k/\r=fP kvs k)\/∃kvs k b,Rd H a [oP]/\y=[fZ]/\H b=[ok]/\r=fP kvs k
def pG(H:Hp)(a:ai)(y v:V)(H':Hp):[P]:=(∃kvs k,[et,[mU]]/\y=kV k/\[ln]<bS/\H'=[f3,.dK [qO]])\/∃kvs k b,[et,[oP]]/\y=[fZ]/\H b=[ok]/\[ln]<bS/\H'=[f3,.dT [qO]]
def pG.k{k}(e:[et,[mU]])(U:[ln]<bS):pG H a (kV k) v [f3,.dK [qO]]:=[H,[f]]
def pG.t{k}(e:[et,[oP]])(J:H b=[ok])(U:[ln]<bS):pG H a [fZ] v [f3,.dT [qO]]:=[aC,[f]]
section
variable{X:Cx}{pins:List (ai×bn)}{σ:St}{H:Hp}{s:aD}{a:ai}{y v:V}{u r:aq}{o:Option V}{A:dc}{E:aq->aD->Prop}
def ak.B9(I:[ah]):iA<[ar]:=by exact y4 ([af]) ([yu].lt)
def aho(hu:[ve])(I:[ah])(g:qd H a y [cX])(N:[hA])(h:[L9,v]):[eF,[c6],wo [aL] u]:=by rw[dI,q];{subst q;rw[dS];rw[bx,S,W,L,hE.x_ [q,l,[lA]],ajt (oX N) j.mapOf W (h _ _ [hp] L)]};{subst q;rw[dL,u=da b];rw[K,S,W,L,hE.x_ (v:=v) [q,l,[lA]]];rw[aK,p,U,O,lG.mp W,wpAny_getItem_heap (Dd hu) (sx I.aO G) j U ?_];rw[V,O,h _ _ [hp] L]}
def ad9(hu:[ve])(I:[ah])(g:qd H a y o)(N:[hA])(h:[uS,H,.bool o.isSome]):[eF,[c6],eU .In u [aL]]:=[FJ,wpAny_in_of (oX N) hd j.mapOf ?_,wpAny_in_heap (Dd hu) (sx I.aO G) hd j ?_]
def Yy(hu:[ve])(I:[ah])(g:qd H a y o)(N:[hA])(h:[uS,H,.bool (! o.isSome)]):[eF,[c6],eU .NotIn u [aL]]:=[FJ,aju (oX N) hd j.mapOf ?_,wpAny_notIn_heap (Dd hu) (sx I.aO G) hd j ?_]
def G'(I:[ah])(U:vf (H a))(O:wk a s.heap h')(j:∃q,[i1,a]=aa q)(new:[lb,a,ob,h',ob]):[kc,[f3,ob]]:=I.write U [fa] (λb q J z=>[bY,O.2 b J,z]) j new
def aeY(z:[ln]<=bS)(hd:[wm])(J:KV kvs B)(j:h'.DictOf [m9] a B):c7 P w H' h' a [mU]:=#[z,hd,B,J,j]
def acx(hu:[ve])(I:[ah])(g:pG H a y v H')(N:[hA])(rv:bB v r)(h:[uS,H',()]):[eF,[c6],uG [aL] u r]:=by rcases g with⟨kvs,k,e,S,l,W⟩|⟨kvs,k,b,e,S,n,l,W⟩;{subst S W;rw[ab,z,hd,B,J,j,N1 I.aO e];rw[a0,Z,[bu]<=bS,[bD,J.length,z],U,[aO,[qO],bS],[aN,Rr kvs k v],wpAny_setItem_pairs (hsz:=Z) (oX N) j λh' G O=>h _ ?_];rw[br,he,∃q,[i1,a]=aa q,let#[q,_,_,L,_]:=G;#[q,L],G' I [yP] O he (aeY U hd (J.put k rv) G)]};{subst S W;cases [aA,u=da b,N];rw[ab,z,hd,xs,J,j,My I.aO e];rw[a0,Z,[q6],[bD,IM J,z],U,[aO,[qO],bS],[aN,Rr kvs k v],wpAny_setItem_heap (hsz:=Z) (Dd hu) (sx I.aO n) j λh' G O=>h _ ?_];obtain⟨q,es,ep,L,h2,h3,h4,_,h5⟩:=G;refine G' I [yP] O #[q,L] #[U,hd,_,(J.put k n rv).keeps λc ys F=>?_,q,es,ep,L,h2,h3,h4,h5];rw[ba,[dw]]}
end
def ahe{σ:St}(I:[ah])(g:qd H a y o):s.TypeIs [aL] "dict":=by rcases g with⟨kvs,k,e,_,_⟩|⟨kvs,k,b,e,_,_,_⟩;{obtain⟨_,_,B,_,j⟩:=sC I.aO e;exact j.typeIs};{obtain⟨_,_,xs,_,j⟩:=sH I.aO e;exact j.typeIs}
def aag(h:bP)(J:iA<[c9]):c7 P w H [zT] [c9] (.dK []):=#[[f7],uv.mpr [f],[],[aM],aqV h]
def QC(h:bP)(J:iA<[c9]):c7 P w H [zT] [c9] (.dT []):=#[[f7],uv.mpr [f],[],[aM],_,[cd],0,[cs],#[Y,Y,Y],Y,Y,aiO]
def ZF:TE:=λ_ H Q=>[j0,p,.dK []]
def afz:TE:=λ_ H Q=>[j0,p,.dT []]
section
variable{X:Cx}{pos:eo}
def PV:PE X [yV] ZF:=[J2,aag _ I.B9]
def MZ:PE X [yV] afz:=[J2,QC _ I.B9]
end
structure M1 (X : Cx) (o : bQ) (m : au) (apos : eo) (e : bQ) (cpos : eo) : Prop where
 base : eF o m X.env (aM o X.env) = aM o X.env
 kz : ((dE cpos (bb [e] X.env)).all (fun x => !x.1) && (jl cpos (jm [] X.env)).all (fun x => x.1.isSome)
  && ao (([e] : List bQ).length + ([] : List nZ).length + (if ([] : List nZ).isEmpty then 0 else 1) < 30)) = ae
 line : (apos.endLine == cpos.line) = ae
 trees : dE cpos (bb [e] X.env) = [(af, aM e X.env)]
structure M2 (X : Cx) (o : bQ) (m : au) (apos : eo) (e f : bQ) (cpos : eo) : Prop where
 base : eF o m X.env (aM o X.env) = aM o X.env
 kz : ((dE cpos (bb [e, f] X.env)).all (fun x => !x.1) && (jl cpos (jm [] X.env)).all (fun x => x.1.isSome)
  && ao (([e, f] : List bQ).length + ([] : List nZ).length + (if ([] : List nZ).isEmpty then 0 else 1) < 30)) = ae
 line : (apos.endLine == cpos.line) = ae
 trees : dE cpos (bb [e, f] X.env) = [(af, aM e X.env), (af, aM f X.env)]
def DC(H:Hp)(a:ai):[P]:=(∃kvs,Rd H a [mU])\/∃kvs,Rd H a [oP]
def Vs{σ:St}(I:[ah])(d:DC H a):s.TypeIs [aL] "dict"/\(∀b,da a=[fZ]->∃ob,[bJ,b,ob]/\[lQ]=ag)/\[wm]:=by rcases d with⟨kvs,e⟩|⟨kvs,e⟩;{obtain⟨_,hd,B,_,j⟩:=sC I.aO e;rw[eJ]};{obtain⟨_,hd,xs,_,j⟩:=sH I.aO e;rw[eJ]}
section
variable{X:Cx}{pins:List (ai×bn)}{σ:St}{H:Hp}{s:aD}{a:ai}{y d:V}{u r:aq}{o:Option V}{A:dc}{E:aq->aD->Prop}
def afL(hu:[ve])(I:[ah])(g:qd H a y o)(N:[hA])(rd:bB d r)(h:[L9,o.getD d]):[eF,[c6],[s0,"dict.get",[[aL],u,r]]]:=by rw[dI,q];{subst q;rw[dS];refine T3 De j.typeIs T4 (ajw _ _ _) (meets_dict_get_default _ a (oX N) hd r) #[_,j.mapOf,h _ _ [hp] ?_];rw[V,l,[lA].getD rd]};{subst q;rw[dL,u=da b];refine T3 De j.typeIs T4 (ajw _ _ _) (meetsH_dict_get_default _ a b hd r) #[Dd hu,k,xs,sx I.aO G,j,h _ _ [hp] ?_];rw[V,l,[lA].getD rd]}
end
def adC(td ty tx:TE):TE:=λσ H Q=>td σ H λx H1=>∃a,[gA,DC H1 a,ty σ H1 λy H2=>tx σ H2 λz J=>∃o,qd J a y o/\Q (o.getD z) J]
section
variable{X:Cx}{o e f:bQ}{apos cpos:eo}{td ty tx:TE}
def aei(hu:[kM])(J:PE X o td)(F:[gC,ty])(W:PE X f tx)(m:M2 X o "get" apos e f cpos):[mx,"get",[e,f],cpos,adC td ty tx]:=by rw[bP,Q,Jj m.base m.kz m.line Jk De ajx (a8 [n6] λu s1#[x,H1,S,rx,a,ex,d,q1]=>?_),ex,u=da a,rx];rw[a4,t1,Z,Vs S d];rw[bm,t1,Z];rw[cm,m.trees,zl Y (Jf (C5 [eU,F _ _ _ _ _ S q1,O,s2,y,H2,I2,N,q2,C5 (a8 (W _ _ _ _ _ I2 q2) λj s3#[z,n,G,B,ov,g,U]=>I0 ?_)]))];exact afL hu G g N B λw' s4 q L=>#[_,n,q,L,U]
end
section
variable{X:Cx}{pins:List (ai×bn)}{σ:St}{H:Hp}{s:aD}{h':bP}
def ak.BV{ch:[h]}(I:[ah])(k:[di,[hx],[l',[i1,b]]])(W:[qy,ch,H]):[kc,H]:=by rw[ad,j,∀b u,H b=aa u->[hx],[JE],[Ga,W b J,by simp,by simp,by simp,[f],m,u]];{rw[ab,o,es,ep,L,r,U];exact#[o,es,ep,k _ o [uV,W _ z] L,r]};{rw[gM,[IG]]}
def ak.wQ{ch:[h]}{T:ai}(I:[ah])(k:[di,[hx],[l',[i1,b]]])(W:[qy,ch,H])(L:[ar]<=T)(new:[lb,T,ob,h',ob]):[kc,[cw,T,ob]]:=by have U:=[j3,L];rw[ad,j,∀b u,H b=aa u->[hx],[JE],I.step [AG,W b J,W b J] [Lk] [BL,O] (λb o _ e n=>?_) [Ls] (λb xs e=>?_) (λb o u e=>?_) (λb ps e=>#[[cd],?_]) (λm G=>?_) (λb u e=>?_) I.bare];{rw[V,aX (di (hc [ee] L)),n]};{rw[V,aX (iF e U),e]};{rw[V,aX (iF e U),e]};{rw[aX (iF e U),e];simp};{rw[ab,o,es,ep,B,r,G];exact#[o,es,ep,k _ o [uV,W _ z] B,r]};{rw[b,J,b=T];{subst J;rw[bW]at e;grind};{rw[aX J]at e;rw[gM,(I.aO b u e).jR [BK] (λc q=>[ny,q,U]) λc xs q=>[ny,q,U]]}}
def ak.lock(I:[ah])(h:H d=aa u)(U:vf (aa u)):∃B,[c7,[cw,d,.cb B u],s]:=by rw[ah,x,I.aO d u h,ex,∃B,[bJ,d,B],by cases u with|lst xs=>rw[dT];rw[bb]|dK kvs=>rw[cK];grind|dT kvs=>rw[cK];rw[aQ,o,e]|set S n=>rw[dO];grind|aW C dx fs=>rw[dU];grind|ext j=>obtain⟨_,⟨_,e⟩,_⟩:=x;exact#[_,e]|_=>exact et U];rw[M,B,e,ex];rw[br,new,[lb,d,.cb B u,s.heap,.cb B u],by rw[a3,e,x.jR (by simp) (λb q=>?_) λb xs q=>?_];{rw[V,[I1],q]};{rw[V,[I1],q]},#[B,I.write [f] [fa] (λb v _ q=>q) #[B,e] new]]
end
section
variable{X:Cx}
def Er{σ:St}(I:[ah])(o:bn)(T:mX X.prog X.w X.K tg j [[ar]] [ar] F)(st:F 0 [hR,o])(q:R j H):Bv X pins σ tg R [fs] [cS,[hR,o]]:=by refine#[s.heap.objs.size,[[ar]],F,j,H,Y,I.kept λb ob e=>[gU],T,st,[fo],q];rw[cQ,I.ju (by simp) [mt]]
end
def DM(x:au):It:=#[λi _=>i<[te],λi H v H'=>H'=H/\∃c,[aZ,x.cps,c]/\v=[K,#[[ff,[c]]]],λi _=>[te]<=i]
def Ol{K}(it:ai)(x:au)(t:iz)(ty:String)(q:ty="str_ascii_iterator"\/ty="str_iterator"):[x2,DM x,h.IsStrIter it ty x t i]where
 mem:=by simp
 obj:=[A']
 keep:=[qu,[vP,ho,r,st,k _ (by simp) o ho]]
 item:=by rw[b1,z,U];rw[am,f0,f1,f2,f3,f4,f5,z it (by simp)];rw[a0,S,Walks X.prog X.w X.A it [it] [it] [te] (SignAt x) (λi h=>h.IsStrIter it ty x t i),by rw[aJ,q,e,e];{rw[V,e,Walks.strAscii [e4] it x t]};{rw[V,e,Walks.strWide [e4] it x t]},Z,[tj,[AQ],ty],[f],S.item i s _ _ U st λv h' tk hv F kk=>?_];rw[ag,c,u,HC,rfl,hv];have I1:ak X _ _ H [cS,h']:=[tT,o,e,kk b o ([aD,J]) e];rw[dH,n,e,cc,j,id F,#[_,Y,Ar e cc j Z #[[dE],H,I1,#[u,Y],#[Y,c,HC,Y],F,λb J=>[M,z b J]]]]
 done:=by rw[dq,z,U];rw[am,f0,f1,f2,f3,f4,f5,z it (by simp)];have L:=ajy U;rw[aJ,q,e,e];{rw[ae,e,st,wpAny_pyNext_ascii_end [e4] st L [Kl]]};{rw[ae,e,st,wpAny_pyNext_wide_end [e4] st L λh' G=>[JS,[iv,G b o J e]]]}
 self:=λA i s Q E st h=>by rw[aJ,q,e,e];{rw[ae,e,st,wpAny_pyIter_striter_ascii st h]};{rw[ae,e,st,wpAny_pyIter_striter_wide st h]}
def adz(te:TE):TI:=λσ H R=>[ws,v,∃x,v=[K,x]/\R (DM x) H1]
def ab0(O:[h0]):PI X tg e (adz te):=by rw[aS,R,h,a8 [r4] λv L#[y,H1,S,j,x,ex,q]=>?_];subst ex;rw[M,t,rfl,j];cases J:x.cps.all _;rw[aq,wpAny_pyIter_wide J (Er S _ (Ol _ x t _ [aC,Y]) [mv] q),wpAny_pyIter_ascii J (Er S _ (Ol _ x t _ [fa]) [mv] q)]
def Zc{S}{q}{B:List J}(h:wg S q B):∀{i:Nat}{a:U},([aZ,q,a])->∃b,[aZ,B,b]/\S a b:=by induction h with|nil=>simp|@cons a b q B r t z=>intro i G e;cases i with|zero=>grind|succ j=>exact z e
def LI{o:bn}{es S:Array pj}{ep U:Nat}(h:[yo])(h':o.data=.dict S U):S=es/\U=ep:=[dg,h,h',#[Y,Y]]
def Fz(K:aQ)(a:ai):It:=[F5,xs,H',[bd,i],[cF]]
def agN{K}(a e it:ai):[Hy,P,tpos,Fz K a,i]where
 mem:=by simp
 obj:=[Hp,F]
 keep:=[HV,F,Z]
 item:=by rw[e9,F,Z,u];rw[ah,j,bF F,G,it<[ar],[p4,q,nu]];rw[ai,wpAny_pyNext_enum_item F nu [kC] (x:=u) [f] Z λh' ho HL hT i8 hk=>?_,#[_,Y,ajz ho [Fc]]];rw[a0,new,c7 X.prog X.w [cw,[ar],[bk,[aQ],x]] ny _ [bk,[l,[bd,i]],x],[tP,.int i s.toks,u,[gV],ru,j],I1,ak X pins σ _ [l7,ny,s.toks+1],I.wQ [GI] hf [dr] new,#[[dQ],_,I1,Y,[H9],#[#[u,?_],HL.at λo q=>[oA,sb.2 it (dt Z)],Z],[fo]]];rw[ar];{rw[fB]}
 done:=by rw[b1,hf,hg];rw[eL,F,Z];rw[bd,U,rv.length,wpAny_pyNext_enum_end [e4] F nu [kC] ([bE]) λh' eb=>#[Y,[tT,o,q,eb b o J q]]]
 self:=[JU,F]
def YW(K:aQ)(ta:TA):TI:=[LJ,H1,xs,Fz K a]
def ae6(W:[zh])(U:[yD])(Z:PA X [e] ta)(L:[dT]:=by rfl):PI X (.Tuple vY kk tpos) [kU,"enumerate",[e]] (YW X.K ta):=by rw[aS,R,h,Call_ (oV I W U ajA (C0 [dL,Z _ _ s _ H _ I h,us,j,B,H1,S,r1,F] L Y))];rw[ab,a,xs,ex,z,q,F];subst ex;cases r1 with|cons r G=>cases G;cases r;rw[ag,az,rv,p',hz,S.list z];rw[ai,call_enumerate_list p'.isList λh' O n i8 hk=>Jl O ?_,#[[si]+1,[[si]+1,[si]],_,_,H1,Y,(S.kept hk),agN a _ _,#[#[[a0],O],n,ajB _],[fo],q]];rw[br,N,[si]<=b,[f],S.ju N (S.aO.fresh N)]
def aed:[uD,"zip"]:=[dz]
def DD(K:aQ)(a b:ai):It:=[FP,xs,ys,bp K H b ys,H',[cF],[m0]]
def U7{K}{a b z TI TO i1 F}(D:Jm z TI TO i1 F a b):mX P w K (.Tuple vY kk tpos) (DD K a b) [z,TI,TO,i1,F] z [GP,F,[wA,F,b]]where
 mem:=by simp
 obj:=[GD,Z]
 keep:=[qu,[K7,Z,h1,h2,h1.at [ue,i1],h2.at [ue,F]]]
 item:=by rw[ex,Z,h1,h2,[eC,ql],u];rw[ai,wpAny_pyNext_zip_item D Z j n h1 h2 [kC] p2.isList (x:=u) (y:=u2) [f] [f] λh' z' HN G HA hT i8 hk=>?_,[Ke,h']];have new:[lb,[ar],[kz],ny,[kz]]:=[tP,u,u2,ru,HM,Cs];rw[d1,F,S,[ba,I.ve U qk],I.ve U ql,u,HA.at [Ed,D.i2z],h1,h2]
 done:=by rw[eM,Z,h1,h2,[eC,ql]];rw[br,he,[Kj],[f],wpAny_pyNext_zip_end [e4] D Z j n h1 h2 [kC] p2.isList he λh' hk=>[IK,F,S,[pT,S]]]
 self:=[LO]
end L2
section
namespace TL
open PySem PySem.Builtin PySem.Builtin.Str PySem.StrLaws
abbrev tl(x:au):[aj]:=x.cps.toList
def vV(x:au):[eS]=[Q,tl x]:=by rfl
def Ou(h:tl x=tl y):x=y:=Str.ext' (Array.toList_inj.mp h)
def OT(x y:au):tl (x++y)=tl x++tl y:=by show(x++y).cps.toList=_;rw[Str.cps_append,Array.toList_append]
def RB:∀{l m:[h]},[aT,tl]=m.map tl->l=m|[],[],_=>rfl|[],[d5],h=>[f]|[d5],[],h=>[f]|[gB],y::m,h=>by injection h with h1 h2;rw[Ou h1,RB h2]
def pre(S l:[aj]):Bool:=l.take [ad]==S
def gA(S:[aj]):Nat->([aj])->([aj])->[lC]|_,acc,[]=>[acc]|0,acc,[cI]=>[ap,pre S [cI],acc::gA S ([ad]-1) [] r,gA S 0 (acc++[c]) r]|[ao],acc,_::r=>gA S k acc r
def OG(S:[h])(k:Nat)(acc:[h]):gA S k acc []=[acc]:=by rfl
def LZ(h:pre S [cI]=ae):gA S 0 acc [cI]=acc::gA S ([ad]-1) [] r:=[h_,[Iu]]
def Os(h:pre S [cI]=af):gA S 0 acc [cI]=gA S 0 (acc++[c]) r:=[h_,[Iu]]
def Fx(S:[h]):∀(k:Nat)(acc l:[h]),gA S k acc l=gA S 0 acc [ed,k]|0,_,_=>by rfl|[ao],acc,[]=>by rfl|[ao],acc,[cI]=>by exact Fx S k _ r
def aac(q:S≠[]):pre S []=af:=by cases S with|nil=>grind|cons s S=>rfl
def agF(S r:[h])(h:c≠s):pre (s::S) [cI]=af:=by cases q:pre _ _ with|false=>rfl|true=>rw[jN,e,gq q]
def aga(S r:[h]):pre S (S++r)=ae:=[h_,[a3,(S++r).take _==S]]
def XS{L:[aj]}(h:a<L.length):∃c,[jK,a]=c::[jK,a+1]:=#[L[a],mG h]
def F_(S L:[h]):∀(m a:Nat)(acc:[h]),a+m<=L.length->(∀k,a<=k->k<a+m->pre S [jK,k]=af)->gA S 0 acc [jK,a]=gA S 0 (acc++[jK,a].take m) [jK,a+m]|0,a,acc,_,_=>[f]|m+1,a,acc,h,U=>by have O:a<L.length:=[g];rw[M,c,e,XS O];rw[R,h0,U a (by simp) [g],q,F_ S L m (a+1) (acc++[c]) [g] [f]];rw[aH,z,a+1+m=a+(m+1),[g],z,q];rw[e]at h0;rw[e,Os h0,q,em]<;>rfl
def Wh(L:[aj])(a b:Nat):[jK,a].drop b=[jK,a+b]:=by simp
def ae1{S L:[h]}(q:S≠[])(h:pre S [jK,c]=ae):gA S 0 acc [jK,c]=acc::gA S 0 [] [jK,c+[ad]]:=by rw[<-Wh];cases e:[jK,c]with|nil=>rw[e,aac q]at h;rw[a7]|cons d r=>rw[e]at h;rw[LZ h,Fx];cases S with|nil=>grind|cons s S=>rfl
def MY(q:tl y≠[])(i:Nat):At x y [eS] i↔pre (tl y) [y2]=ae:=by rw[R,L,vV x,U,vV y];rw[a8];{intro h;rw[hr,h2,[cW],subAt_eq,h2]};{intro h;have z:=jN mw (gq h);rw[o5,rW]at z;rw[aY,j,S6.mpr q,#[[g],?_]];rw[V,subAt_eq,h]}
def Q3(L:tl y≠[])(h:¬At x y [eS] i):pre (tl y) [y2]=af:=by cases q:pre _ _ with|false=>rfl|true=>rw[be,(MY L i).mpr q,h]
def acy(L:tl y≠[]):1<=y.length:=[ba,vV y]
def NJ(x:au)(i j:Nat):tl (strSub x i j)=[y2].take (j-i):=strSub_toList x i j
def ag1(x:au)(i:Nat):tl (strSub x i [eS])=[y2]:=[a5,NJ,vV x,gI [f]]
def MX(q:tl y≠[]):∀(j:[h])(a f:Nat),a<=[Q,tl x]->ChainG x y [eS] a j f->(∀k,f<=k->¬At x y [eS] k)->[R,partsFrom x y.length a j,tl]=gA (tl y) 0 [] ((tl x).drop a)|[],a,f,S,h,z=>by subst(h);show [tl _]=_;rw[ah,run,F_ _ _ ([Q,tl x]-f) f [] [g] (λk h1 _=>Q3 q (z k h1)),J,f+([Q,tl x]-f)=[Q,tl x],[g]];rw[J,Jo,OG,wc,gI [f]]at run;rw[run,ag1]|[cI],a,f,S,h,z=>by rw[ag,h1,h2,B,U,h];rw[R,O,h2.1,L,vV x];show tl _::[fO,partsFrom x _ _ r]=_;rw[ah,run,F_ (tl y) (tl x) (c-a) a [] [g] (λk Z N=>Q3 q [f]),J,a+(c-a)=c,[g]];rw[J,wc,ae1 q ((MY q c).mp h2)]at run;rw[run,(MX q r _ f [g] U z),NJ,(vV y)]
def acI(x y:au)(L:tl y≠[])(W:¬pk x<pk y):[R,zr x y,tl]=gA (tl y) 0 [] (tl x):=by rw[K,f,g,z,occ_tight x y (acy L)];rw[bk,key,MX L _ 0 f (by simp) g z,g',key];(have j:Dg x y 0 _ _=[]->[fO,[x]]=gA _ 0 _ _:=λq=>by rw[q]at key;rw[<-key];show [tl x]=[tl _];rw[sub_whole]);unfold zr;rw[b,h1,[a3,ao ([eS]<y.length)||ao (pk x<pk y)]];{rw[aJ h1];rw[ad,U,[eS]<y.length,[f],j ?_];cases q:Dg x y 0 _ _ with|nil=>rfl|cons c r=>rw[q]at g;have O:=[ak,g].1;omega};{rw[aw h1];rw[bo,h2,[tA,Dg x y 0 [eS] ([eS]+1)]=ae];{rw[a5,aw h2,partsBetween_eq,key]}}
def xM(S:[aj]):([lC])->[aj]|[]=>[]|[p]=>p|p::q::r=>p++(S++xM S (q::r))
def L8(y:au):∀j,tl (T5 y j)=xM (tl y) (j.map tl)|[]=>rfl|[_]=>rfl|x::z::r=>by show tl (x++y++T5 y _)=tl x++(tl y++xM _ [fO,z::r]);rw[OT,OT,L8 y _,em]
def Wx(y:au)(j:[h]):Jp y j=T5 y j:=glued_eq_join y _
end TL
end
namespace L2
open PySem PySem.Spec PyProof.Rows
def PR:∀l,bq [R,[aT,(·.1)],V.str] (T6 l)|[]=>[aM]|[eZ]=>[bF,#[[Z],Y],PR r]
def FJ:∀{ys}{us},bq (ys.map V.str) us->StrsAre us ys|[],_,[aM]=>[aM]|y::ys,_,[oD]=>[aG,k,rfl,r,.cons y k (FJ t)]
def Hr(ys:[dF]):[nE]:=λH Q=>[j0,p,[X,ys.map V.str]]
section
variable{X:Cx}{pins:List (ai×bn)}{σ:St}{H:Hp}{s:aD}{Q:VK}
def DU(I:[ah])(e:[aT,(·.1)]=ys)(z:[m0]<=bS)(h:Hr ys H Q):EP X pins σ Q [fs] {s with toks:=k,heap:=[hR,[k0,[hg,T6 l]]]}:=by rw[aY,L,[tE],#[[dQ],upd H _ [b9],[uH,[Fa],#[[f],T6 l,_,?_,[cs]]],Y,h _ L]];rw[bD,e,PR l]
end
section
variable{X:Cx}
def WQ:mV X "str.split" [GE]:=by rw[bC,xs,us,N,rs,h];obtain⟨a,b,rfl,rfl,J,z,h⟩:=h;rw[M,t,rfl,N];cases rs with|cons j rs=>cases rs;rw[M,u,rfl,j];rw[ah,U,c9 (aqW a b) z,O,[aO,aqX a (Dg a b 0 [bW] ([bW]+1)) b.length,bS],by have L:=StrLaws.occ_length_le a b 0 [bW] ([bW]+1);rw[cz,length_partsBetween]];cases h1:(ao ([bW]<b.length)||ao (pk a<pk b));{cases q:[tA,Dg a b 0 [bW] ([bW]+1)];{refine [Lc,meets_str_split_sep a b t u h1 J q [g] O];rw[V,strsFrom_eq,DU I [bY,numbered_texts _ _,[dI,[bY,[nw],[f]]]] U h]};{rw[d8,[Lc,meets_str_split_not_found a b t u h1 J q],DU (l:=[(a,t)]) I [dI,[cy,[nw],aJ q]] U h]}};{rw[d8,zn Jq Y T7 (T8 _ _) (meets_str_split_cannot_occur a b t u h1) ?_,DU (l:=[(a,t)]) (ys:=zr a b) I [dI,aJ h1] U h]}
def X4:mV X "str.join" [FQ]:=by rw[bC,xs,us,N,rs,h];rw[bU,a,p,ys,rfl,rfl,q,z,h];rw[M,t,rfl,N];cases rs with|cons L rs=>cases rs;cases L;rw[aJ,q,q,q];{obtain⟨az,r,⟨o,n,J,O,_,hd⟩,_⟩:=[eC,q];exact aqY #[o,J,O,n,hd] (by exact FJ r) z [Jv]};{obtain⟨az,r,j,_⟩:=[e_,q];exact aqZ j (by exact FJ r) z [Jv]}
def EV{id}{C:au->[P]}{g:au->V}(rule:∀(a:au)(t:iz)(s:aD)(Q:[em]),C a->(∀(u:aq)(k:Nat),bB (g a) u->Q u [tK,s,k])->[gc,[s0,id,[.str a t]],Q,s]):mV X id [n0,xs,∃a,[rf]/\xs=[]/\C a/\Q (g a) H]:=by rw[bC,xs,us,N,rs,h];rw[ab,a,rfl,rfl,O,h,h];rw[M,t,rfl,N];rw[aU,rs,rule a t s _ O λu k r=>#[g a,H,I.tok k,r,h]]
def ael:[xe,"str.isdigit",xs,ajD a]:=EV λ_ _ s _ _ h=>PySem.SC.isdigit (h _ _ Y)
def W8:[xe,"str.isalpha",xs,ajE a]:=EV λ_ _ s _ _ h=>PySem.SC.isalpha (h _ _ Y)
def Yv:[xe,"str.isalnum",xs,ajF a]:=EV λ_ _ s _ _ h=>PySem.SC.isalnum (h _ _ Y)
def XB:[sM,[bT,"int"],xs,∃a n,xs=[[K,a]]/\PySem.intText? a=aa n/\[bW]<=640/\Q [dn] H]:=by intro pins s σ H xs us Q I rs h;rw[am,a,n,rfl,q,U,h,h];cases rs with|cons j rs=>cases rs;rw[aG,t,rfl,j,aq0 q U #[[dn],H,[hp],[gV],h]]
end
section
variable{X:Cx}{o e:bQ}{to te:TE}
def tM0(r:[ns])(to:TE):TE:=[x3,∃a,[rf],r x [] H1 Q]
def GK(r:[ns])(to te:TE):TE:=[x3,∃a,[rf],te σ H1 λy H2=>r x [y] H2 Q]
def adG{id}{apos pos}(slot:Slot "str" name id)(ty:[tW])(rule:mV X id r)(J:[o1])(W:[Am]:=by rfl)(B:[hQ,[sW]]:=by rfl):[mx,name,[],pos,tM0 r to]:=by rw[aS,Q,h,PySem.Call_method0 W B [ku,[n6],L,S,j,q]];obtain⟨⟨a,rfl⟩,q⟩:=q;rw[aG,t,rfl,_root_.id j,[HS,Da (rule _ _ _ _ _ _ _ _ Q S j [aM] q)]]
def Rg{id}{apos pos}(slot:Slot "str" name id)(ty:[tW])(rule:mV X id r)(z:[o1])(J:[h0])(O:[dT]:=by rfl)(W:[Am]:=by rfl)(B:[hQ,[sW]]:=by rfl):[mx,name,[e],pos,GK r to te]:=by rw[aS,Q,h,PySem.Call_method1 W O B [ku,z _ s _ H _ I h,Z,L,j,q]];obtain⟨⟨a,rfl⟩,q⟩:=q;rw[M,t,rfl,_root_.id j];rw[d8,[HS,Jf (C5 ?_)],[eU,J _ _ _ _ _ L q,u,N,y,H2,S,G,U,I0 (rule _ _ _ _ _ _ _ _ Q S j [hH,G] U)]]
def M7{apos pos}(J:[o1])(O:[h0])(q:[dT]:=by rfl)(W:[eE,o,"split"]:=by rfl)(B:[hQ,[sW]]:=by rfl):[mx,"split",[e],pos,GK [GE] to te]:=Rg Jq F.type_str_split WQ J O q W B
def ad3{apos pos}(J:[o1])(O:[h0])(q:[dT]:=by rfl)(W:[eE,o,"join"]:=by rfl)(B:[hQ,[sW]]:=by rfl):[mx,"join",[e],pos,GK [FQ] to te]:=Rg F.slot_str_join F.type_str_join X4 J O q W B
end
end L2
namespace Att
open PySem PySem.W PySem.Calls PyProof.Rows
section
variable{prog:cP}{w:cz}{A:dc}{E:aq->aD->Prop}{s:aD}{K:aQ}
def aap(X:[qT])(qi:s.heap.NoLimit)(J:[e8,f]=aa #[oc,od,.func [xp,Z,U],t7])(N:sj K O qual=ae)(n:A.depth<uJ)(I:I_ s [xp,Z,U] j B)(z:[a3,B.all λy=>[ml,[b7]]==[fj]||[ml,[b7]]==[kf]])(h:∀W,([GX,O,B,W])->aE [g_] [D_] (execs body [t6,O]) (λfl s'=>R [iB,[d6,fl,[bl,v],v,[a0]]] s') (λe s'=>aE [g_] [D_] (leaving [t6,O] e) (λ_ G=>R [kZ] G) (λe' G=>R (.error e') G) s') W)(q:scope.isCoroutine=af)(S:scope.isGenerator=af)(hk:scope.kind=[km]):[o4,.call [hC] j,s]:=by rw[ai,ajb n (X _ _ J) Y q S Y (ajc X N) (I _ _ _ _ ?_),ajd hk (kindsX z _) λenv L W x=>?_];rw[bh,L,#[qi.keeps x.toInCall.keep,codeAny_func (h _ x)]]
end
end Att
namespace L2
open PySem PySem.Spec PyProof.Rows
def Lk:∀{B}{ns},mI B ns->bq [ji] B|_,_,[aM]=>[aM]|_,_,.cons n t h=>[bF,#[t,Y],Lk h]
def XD(s:kY):so:=[d6,s,.FunctionDef _ a _ _ _ _ _ _ _ _,a,{posonlyargs:=[],args:=[],vararg:=ag,kwonlyargs:=[],kw_defaults:=[],kwarg:=ag,defaults:=[]}]
def Np(s:kY):List kY:=[d6,s,.FunctionDef _ _ b _ _ _ _ _ _ _,b,[]]
def vv(s:kY):fo:=[d6,s,.FunctionDef _ _ _ _ _ _ sc _ _ _,sc,{kind:=[km],names:=[],isGenerator:=af,isCoroutine:=af}]
structure YP (K : aQ) (x qual : au) (st : kY) (f : ai) (fd : uK) : Prop where
 ex : ∃ (oc : aq) (od : Option ai) (kV doc pm : aq) (an : Option ai) (cdv ct : aq) (osl : Array (Option aq)),
  fd = zj x qual (XD st) (Np st) (vv st) .none kV doc pm an cdv ct ∧ K.lookup f = aa ⟨oc, od, .func fd, osl⟩ ∧ sj K cdv qual = ae
 kp : ji K (.ref f) = ae
def sV(h:bP)(I:ai)(cls:aq)(W:[kK])(a:[bg,ai×aq]):[P]:=∃C B,[de,I,C]/\C.cls=cls/\C.dict=W/\C.data=.fields B/\1<B.size/\[cZ,a,ag,[aR,B,1,qB],[oK],[aR,B,1,[m,T]]/\T≠I/\∃t ts,[de,T,t]/\t.data=.fields ts/\[aR,ts,3,fl]]
def tO(I:ai)(a:[bg,ai×aq]):[bc]:=I::[f5,(·.1)].toList
def vW(h:b∉tO I a):b≠I/\∀T fl,a=[oK]->b≠T:=#[λq=>h [q,q,[qV]],λT fl e q=>h (by subst e;rw[V,q,[r1]])]
def ZJ(f:Array _->Array _)(o:bn):(Jr f o).dict=o.dict:=by obtain⟨_,_,d,_⟩:=o;rw[bz,d]
section
variable{M:Model}{A:dc}{E:aq->aD->Prop}{s:aD}
def N3(N:A.frames=aa [s4])(U:[vD,base,[s4]])(O:w.frame=aa l)(d:env.frame=aa l)(f:[bJ,I,C])(hd:C.data=.fields B)(W:1<B.size)(h:∀h' j,([lX,j])->sV h' I C.cls C.dict (aa (j,fv l))->[Gi,b≠I]):aE M A (do let a←Js env;let pl←entryPlaceOf l r;let b←ajH e a [a0] (fv l) [a0] pl;T9 [m,I] 1 b) Q E s:=by rw[D,nf,I∉[s4].filterMap _,λi=>by obtain⟨_,o,z,L⟩:=U.mem i;rw[az,f,z,z];rw[bb],P,Js env=Js w,by unfold Js;rw[d,O]];rw[P];rw[an,wpAny_frameOf_fun N U O λg x=>[aJ,wpAny_entryPlaceOf λpl S=>?_]];unfold ajH newFields;rw[an,pf ?_ (S.sizeOk5 _ _ _ _ _)];generalize hN:({cls:=.type _,dict:=ag,data:=.fields _}:bn)=G;have u:=[bY,[bG].1 _ nf,f];rw[ad,p,[pc,g.push G]=[cj],[dR,u],zt p hd W ?_];rw[R,ne,gk (bF u),y,Dh hd (·.setIfInBounds 1 (da g.objs.size))];rw[ad,kp,[h9,I,g.get? b=[a'],[le,(g.push G).update _ (Jr (·.setIfInBounds 1 (da g.objs.size)))]],λb o nb J=>[q,[ld,nb],[dR,J]],h _ _ (IP (uQ [dI,[S]])) ?_ (λb o J nb m=>kp b o nb [bY,[bG].1 b m,J]) λb o J nb=>?_];{refine#[_,_,(mJ _ p (T_ y)),ajI _ _,ZJ _ _,y,[aD,W],by simp[W],ne,G,[hg,[e,[hD],[a0],fv l,[a0]]++[A,pl.isEmpty,fH 6 _,pl]],[cy,[ld,ne],cZ g ([jL,hN])],by rw[<-hN],?_];rfl};{rw[aG,sl,q,[bG].2 b o J,#[sl,kp b _ nb q]]}
def agY(N:A.frames=aa [s4])(U:[vD,base,[s4]])(y:[sQ])(d:env.frame=aa L)(x:sV s.heap S cls W a)(h:∀h' j,([lX,j]\/∃fl,a=aa (j,fl))->sV h' S cls W (aa (j,fv L))->[Gi,b∉tO S a]):[eF,M,Jt [l4] env]:=by obtain⟨v,B,u,O,l,hd,r,i⟩:=x;unfold Jt;rw[aa,d];match a,i,h with|ag,i,h=>rw[ai,[aJ,fu u hd i ?_],N3 N U y d u hd r λh' j n x Z F=>?_];rw[O,l]at x;exact h _ _ [H,n] x (λb o e nb=>Z b o e [M,vW nb]) λb o e nb=>F b o e [M,vW nb]|[oK],#[m,I,t,ts,G,C,P],h=>rw[aT,fu u hd m ?_,fu G C P ?_];rw[b,z,fl=fv L];{subst z;rw[V,aJ (by simp),bg (h _ T (by simp) #[v,B,u,O,l,hd,r,m,I,t,ts,G,C,P] (λb o e _ _=>e) λb o e _=>#[o.slots,e])]};{rw[aw [aA,¬[a3,fl==fv L],λq=>z (gq q)]];rw[an,zt G C [M,Ju.mp P] ?_];rw[a0,g,[KL,(·.setIfInBounds 3 qB)],λb J=>[ld,J],c,[di,[gl],(∀ws,o.data≠.fields ws)->b≠T],λb o J p q=>by rw[q,G]at J;rw[aU,J,p _ C],N3 N (U.of_keeps λb o J p=>#[o,[bY,g b (c b o J p),J],Y]) y d [bY,g _ (dt I),u] hd r λh' j n x Z F=>?_];rw[O,l]at x;rw[br,f,[lX,j]\/∃k,[oK]=aa (j,k),by rw[aE,j=T];rw[aq,[aC,#[fl,by rw[q]]],[H,(g _ q).symm.trans n]],h _ _ f x (λb o e nb nf=>Z b o [hO,g b ((vW nb).2 T _ Y)] [M,vW nb] nf) λb o e nb=>F b o [hO,g b ((vW nb).2 T fl Y)] [M,vW nb]]}
def UO(x:sV s.heap a cls W [oK])(h:∀h',sV h' a cls W [K0]->([di,[gl],b≠T->[md,o]])->[Ax]):[eF,M,T' [aL] d]:=by obtain⟨e,B,q,O,l,hd,z,m,I,t,ts,U,C,u⟩:=x;have z3:=[M,Ju.mp u];rw[an,fu q hd m ?_];rw[ad,g,[KL,(·.setIfInBounds 3 (d.elim qB λf=>fv f))],λb J=>[ld,J],zt U C z3 (h _ #[e,B,[oA,g _ (dt I)],O,l,hd,z,m,I,_,_,mJ _ U (T_ (Dh C _)),Dh C _,by simp[z3]] [f])]
end
def c7.there(x:[tf,o]):∃ob,[de,a,ob]:=by cases o with|lst G=>rw[dT];grind|tup G=>obtain⟨_,_,_,ob,e,_⟩:=x;grind|dK B=>rw[cK];grind|dT B=>rw[cK];exact#[_,e]|set S n=>rw[dO];exact#[_,e]|aW q p fs=>rw[dU];grind|own y=>exact x|xd fs=>obtain⟨_,⟨_,_,_,e,_⟩,_⟩:=x;exact#[_,e]|mW lo m=>obtain⟨_,_,_,e⟩:=x;rw[bb]|cb ob C=>exact#[_,[S]]|fL ps=>exact#[_,[yg]]|met f y=>exact#[_,[yg]]|ext j=>exact [bM]
section
variable{X:Cx}{pins:List (ai×bn)}{σ:St}{H H':Hp}{s s':aD}{h':bP}
def ak.R3{ch:[h]}(I:[ah])(Z:[di,[gl],([hx])->b∉i4 [gs]->[md,o]])(B:[di,[gl],([hx])->[B9]])(j:[ev,ch,[r5]=ag/\[fz]/\[AL]]):[c7,H,[cv,h']]:=by rw[D,S,[di,[r5]=[a'],[hx]],λb o e z=>[az,[M,j b z],e,e],lo,[CQ],λb o e q=>[c_,hc [ee] [q,q,I.ok.above],qw _]];rw[a0,g,∀b,b≠[gE]->b∉X.fs->b∉i4 _,λb m u z=>[c4,I.A8 b z].elim m u,mY,∀c v,(∀q∈ch,c≠q)->[KJ],λc v O#[o,e,d]=>[aG,sl,Q,B c o e λz=>O c z Y,#[_,Q,d]],#[I.ok,I.os,I.bare,[xh,λb o e n J L=>Z b o [uB,n] [ww] (g b (lo b o e) J),[qd],[u7]],?_,[zQ],I.free,I.ie,λp y=>?_,[zP],I.len]];{rw[M,sl,P,[uG,n]];rw[aG,N,h,B b _ P [ww],#[N,h]]};{rw[M,o',P,[p8]];rw[aG,sl,h,B b _ P [ww],#[_,h]]};{obtain⟨G,⟨o,k,t,w,r⟩,U⟩:=I.loc;rw[bA,sl,h,B _ o w λz=>[aE,j _ z].1 Y,#[G,#[_,k,t,h,r],λi x v a b c=>?_]];rw[aK,C,ru,lk,U i x v a b c,#[C,ru,?_]];rcases lk with q|⟨hk,c',F,T⟩;rw[aq,[H,q],[aC,#[hk,c',F,mY _ _ (λq W=>[eQ,j q W].1 x _ F) T]]]};{rw[aG,v,T,[sX],#[v,mY c v (λq W=>[eQ,j q W].1 x c e) T]]};{rw[ab,e,n,l,f,d,I.eI p y];exact#[Z _ _ e (λz=>[eQ,j _ z].2 p y Y) (g _ l f),n,l,f,d]};{rw[ad,nt,[qj,[hx]/\b∉i4 _],λb C q=>#[λz=>([az,[ak,j b z],q,q]),λz=>([az,I.EB b z,q,q])],(I.aO a C e).jR (λb v J q=>?_) (by simp) (by simp)];rw[aJ,J,z,z];{rw[bh,z,Z b v q [M,nt b C e] [bq,nt b C e]]};{exact Z b v q [M,nt b _ z] [bq,nt b _ z]}}
structure XI (X : Cx) (pins : List (ai × bn)) (σ : St) (H : Hp) (s : aD) (ea : ai) (cls : aq) (dxo : Option ai) (md : Option (ai × aq)) : Prop where
 inv : ak X pins σ H s
 hex : ∀ b ∈ X.ex, ∃ o, (b, o) ∈ X.pn
 og : sV s.heap ea cls dxo md
 ap : ∀ b ∈ tO ea md, X.eA.heap.get? b = ag ∧ H b = ag ∧ b ≠ X.env.locals ∧ (∀ x c, X.env.cells.lookup x = aa c → c ≠ b) ∧ ∀ p ∈ X.pn ++ pins, p.1 ≠ b
def gz(X:Cx)(E:XK):[P]:=∀(pins:[eH])(σ:St)(H:Hp)(s:aD)(I:ai)(cls:aq)(W:[kK])(a:[bg,ai×aq]),([mp,s,I,a])->E cls W H->X.xe [m,I] s
def kA(P:cP)(w:cz):tM:=λouter H s E e s'=>∃a cls W T H',e=[aL]/\[He,sV [jI] a cls W (aa (T,[a0])),[lX,a]/\[lX,T]/\H' a=ag/\H' T=ag/\E cls W H']
def ak.apart(I:[ah])(hex:[ke])(J:[lX,b])(h:[iO]):[r5]=ag/\[iO]/\[AL]:=by rw[ad,no,∀o,([gl])->False,λo e=>[f],#[?_,h,λq=>?_,λx c e q=>?_,λp m q=>?_]];{cases e:[r5]with|none=>rfl|some o=>rw[b,L,b∈X.ex];{rw[aG,a,N,hex b L,(no _ [M,I.eI _ (IQ _ N)]).elim]};{rw[iT,a,d,[p8]]}};{obtain⟨G,⟨o,_,_,z,_⟩,_⟩:=I.loc;grind};{obtain⟨v,o,d,_⟩:=[sX];grind};{rw[ch,[M,I.eI p m]]}
def D4(hex:[ke])(t:[l3]):ly (kA X.prog X.w) X E:=by intro pins σ H s e s' I h;obtain⟨S,cls,W,T,H',rfl,os,bare,un,aO,x,a,G,C,j,q⟩:=h;refine t _ _ _ _ _ _ _ _ #[I.A' os un aO bare (by simp),hex,x,[fo]] q;rw[aZ,[c4,J],rfl,J,I.apart hex a C];{rw[cQ,I.apart hex G j]}
def XI.EE{r}(x:[mp,s,S,a])(C:[EP])(I:[gs]=w::r)(O:[sQ])(d:env.frame=aa L)(h:∀h' j,([mp,[cv,h'],S,aa (j,fv L)])->[Ax]):[eF,M,Jt [l4] env]:=by rw[bk,st,x.inv.stack,I,st];refine agY (C.trans (by rw[I])) st O d x.og λh' j U z u Z=>?_;rw[aY,B,x.inv.R3 (λb o e nb nf=>u b o e nb ([ae,I,nf,nf])) Z x.ap,h _ _ #[B,x.hex,z,[fo]]];rw[aZ,[c4,J],rfl,J,x.ap b [qV]];{have e:=[aD,J];subst e;rw[bX,U,n,fl,rfl];{rw[br,m,[fz],by cases q:H b with|none=>rfl|some o=>rw[iT,ob,c,(x.inv.aO b o q).there],x.inv.apart x.hex n m]};{exact x.ap b [r1]}}
def XI.wF(x:[mp,s,a,[oK]])(h:∀h',([mp,[cv,h'],a,[K0]])->[Ax]):[eF,M,T' [aL] d]:=by refine UO x.og λh' z k=>h _ #[x.inv.R3 (ch:=[T]) [f] (λb o e nb=>#[o.slots,k b o e [f]]) [fo],x.hex,z,x.ap];rw[cQ,x.ap b [r1]]
def Lv{K}:gz [wQ,kA P w,t,f,G,L,S] E:=by intro pins σ H s e cls W a x q;show aE _ _ _ _ _ s;rw[ai,[aJ,x.EE x.inv.ok.frames Y Y Y λh' j z=>?_],z.wF λh I=>?_];exact#[e,cls,W,j,H,Y,I.inv.os,I.inv.bare,I.inv.base,I.inv.aO,I.og,[M,I.ap _ [qV]],[M,I.ap _ [r1]],[ak,I.ap _ [qV]],[ak,I.ap _ [r1]],q]
def abo{K}:sd (aK P w) [x4].A [x4].env [x4].xe:=PassesOwn.leaving
def aaP{K}:ly (kA P w) [x4] E:=D4 [Db,[]] Lv
end
abbrev BM:[dW]:=[[bT,"Exception"],[ye],[bT,"object"]]
abbrev iS(C N:ai)(p:au×au×[dW]×[dF]×[dW]×Bool×[bg,Bool]×[kK])(k:[gP]×[gP]×[gP]×[gP]×[gP]):bn:=excClassObj [L] [ak,p] C N [cQ,p] BM ae [cQ,[Z]] [pl,p] [pl,[Z]] [cQ,[mW,p]] [mW,[aE,[Z]]] k.1 [ak,k] [cQ,k] [cQ,k.2] [mW,k] "Exception.__new__"
structure XC (K : aQ) (C N : ai) (eD : Option aq) : Prop where
 ex : ∃ p k, K.lookup C = aa (iS C N p k)
 ok : Jv K N = ae
 eD : gu K N "__init__" = aa eD
def abG{K}(X:K.In h)(S:h.Ns N a)(q:gu K N x=aa [cX]):a x=[cX]:=by obtain⟨o,l,B,e,hd,_,O⟩:=S;rw[aC,gu,q];{rename_i j p d W G lk;rw[bk,z,X _ _ lk,e,z];rw[aA,q];{rw[<-O];unfold nsFind findBy;grind};grind};{rw[bO]}
def AD{K}(X:K.In h)(e:Jv K N=ae)(q:gu K N x=[a']):h.nsMap N x=o:=by cases o with|none=>exact PySem.W.nsMap_none_of_in X e q|some v=>exact abG X (.of_isNs (Ua X e)) q
section
variable{X:Cx}{pins:List (ai×bn)}{σ:St}{H H':Hp}{s:aD}{C N:ai}{eD:Option aq}
def XC.at{K}(c:XC K C N eD)(x:K.In h):∃p k,[j8]/\h.Ns N (h.nsMap N)/\h.nsMap N "__init__"=eD:=[bx,p,k,e,c.ex,#[p,k,x _ _ e,.of_isNs (Ua x c.ok),AD x c.ok c.eD]]
def ak.BG(I:[ah])(n:[lX,b]):[fz]:=by cases q:H b with|none=>rfl|some o=>rw[iT,ob,e,(I.aO b o q).there]
def aeg(C:ai)(E:XK):TS:=λ_ _ H=>E [iR] ag H
def aaA(hh:[sq])(hex:[ke])(t:[l3])(c:XC X.K C N ag)(m:[dJ])(q:[fm,C])(hd:[cq]:=by rfl):[hF,[xa,[],i],aeg C E]:=by rw[ci];obtain⟨⟨nm,L,bs,p,sub,B,col,j⟩,⟨f,u,S,g,Z⟩,P,hN,a⟩:=c.at I.dW;rw[ai,wpAny_Raise_call_sub (nm:=nm) (q:=L) (N:=N) (bs:=bs) (hdct:=ae) (sn:=p) (sub:=sub) (ab:=B) (col:=col) (dd:=j) (k0:=f) (k1:=u) (k2:=S) (k3:=g) (k5:=Z) ajJ hh Y a (p9 I m q #[Y,?_] hd),Da #[Y,[f7],P,hN,λl e G=>?_]];obtain⟨d,O,_,_⟩:=G.there;exact t _ _ H _ e _ _ ag #[I.kept G.keeps,hex,#[_,_,O,Y,Y,Y,by simp,Y],λb J=>by have z:=[gr,tO,J];rw[bh,z,I.apart hex G.new (I.BG G.new)]] h
end
section
variable{prog:cP}{w:cz}{A:dc}{E:aq->aD->Prop}{h:bP}{g:Array GenState}{d:Drawn}{t:Nat}{os:OsState}
variable{C N x:ai}{p:au×au×List aq×List au×List aq×Bool×Option Bool×Option ai}{k:Option aq×Option aq×Option aq×Option aq×Option aq}{mN:au->Option aq}{nm:au}{v:aq}{ob:bn}
open Builtin Builtin.ObjectAttr in def abC(f:[Da])(P:[j8])(S:[oV])(m:[o6])(T:[px])(L:[mV])(O:[mB])(r:[nS])(j:[lQ]=ag)(Z:[F7,.done [bl,[a0]]]):[tk,Builtin.«object.__setattr__» #[[[eA],[sT],v],[]]]:=by unfold Builtin.«object.__setattr__»;(repeat(first|rw[refuse_eq]|(rw[refuseLoop_ref,(f.passes [eA])])|rw[c5]|with_reducible refine wpAny_mroOf_exc P ?_|(rw[bI,Di P S f.mro T ?_,m])|wp_step));rw[j,aw (by simp[typeHasDict])];split;{rw[ax,z];cases z};split;{rename_i c z;rw[be,z,r c]};rw[ay,U,[zT].get? x=aa ob,[dR,L],ne,di (bF L)];rw[an,wpAny_alloc' [aJ,wpAny_update' U [cA]]];rw[D,u,[Hb].get? [c9]=aa [kX],[cy,ajK _ _ _ _ ne.symm,Heap.get?_push_at Y Y],nd,[Hb].Ns [c9] [mY],#[_,[cd],_,u,Y,λe H=>[ga,H],[bL]]];show [su,storeInDict [c9] [sT] nm v];unfold storeInDict newKeyGuard;rw[an,bg [aJ,wpAny_nsSet1 (ai8 nd) λG W J=>?_]];rw[am,n,q,F,l,s,I,W.count (ai5 nm v Within.nil)];rw[an,ai6 l [q,s,ai7 (c9 I (by rw[b7,gL,kZ];omega))] ?_];wp_walk;rw[ai,Z G _ ?_ W λb o nb e=>[cy,J.2 b [tw],[cy,ajK _ _ _ _ nb,[gU]]],[cy,J.2 x ne,mJ _ U ?_]];obtain⟨_,_,a,_⟩:=ob;cases a<;>first|rfl|exact [bq,Heap.get?_some_iff.mp L]
def WP(f:[Da])(P:[j8])(q:[oV])(m:[o6])(W:[px])(L:[mV])(O:[mB])(r:[nS])(j:[lQ]=ag)(z:∀a B,a.get? x=aa {ob with dict:=aa [c9]}->a.Ns1 [c9] [D1,ag]->([h9,x,[kx],a.get? b=[a']])->R [iB,[a0]] #[a,g,d,B,os]):[o4,[bZ,.builtin sa,#[[[eA],[sT],v],[]]],[k5]]:=Jw f.slot.plain f.entry (wpAny_check_sa f P L O (abC f P q m W L O r j z))
def WR(f:[Da])(P:[j8])(q:[oV])(J:mN "__setattr__"=ag)(m:[o6])(W:[px])(L:[mV])(O:[mB])(r:[nS])(j:[lQ]=ag)(z:[F7,()]):[tk,zg [eA] nm v]:=by have f3:=f.slot.bind [eA];unfold zg callSpecial? specialOf;(repeat(any_goals(first|rfl|(with_reducible rw[O])|(rw[bI,Di P q f.mro f.slot.lookup ?_,J])|wp_step)));refine WP f P q m W L O r j (λG B a b c=>?_);rw[cI];grind
def KF(P:[j8])(X:[oV])(H:mN "__setattr__"=ag)(m:[o6])(hB:[px])(f:x≠C)(L:[mV])(O:[mB])(r:[nS])(l:[lQ]=aa z)(im:z≠x)(hA:h.Ns1 z S)(W:IN S ns)(Z:[gL]<=1000)(hq:∀s B,s.get? x=aa ob->s.Ns1 z [D1,S y]->([h9,x,b≠z,([kx])->s.get? b=[a']])->Q () #[s,g,d,B,os]):[tk,zg [eA] nm v]:=by refine store_attr ajL P X H m hB f #[ob,L,O,r,[aC,#[z,l,im,hA]]] (λs B I k1 k2=>?_) W (c9 Z ([cz,kZ]));rw[am,J,u,c1,d1,s1,x1,k2 _ L];(have e:J=ob:=by rw[ag,a,b,c,j,J];rw[ag,a',b',c',G,ob];have:=x1 _ l;subst c1 d1 s1 this l;rfl);subst e;obtain⟨o2,U,_,_,q⟩:=I;rw[az,u,U,U];rcases q with⟨q,_⟩|⟨F,q,_,T⟩;{rw[az,l,q,q]};{rw[dg,l,q,hq _ _ u T λb o nb nd e=>k1 b o nb (λi n z1 z2=>by rw[az,L,z1,z1];rw[dg,l,z2,nd]) e]}
end
def rk(d a q:au)(st:kY):[P]:=∃i z S pos,st=.Assign [.Attribute (.Name d i) a z] (.Name q S) pos
section
variable{M:Model}{A:dc}{E:aq->aD->Prop}{s:aD}
def G_{env}{st}(i:rk d a q st)(O:env.scope.kind=[km])(u:[z',d])(B:[z',q])(m:s.heap.Ns env.locals G)(n:G d=aa e)(F:G q=aa C)(h:aE M A (zg e a C) (λ_=>Q .next) E s)(j:[bH,d,"__debug__"]:=by rw[af])(z:[bH,q,"__debug__"]:=by rfl):[eF,M,exec st env]:=by rw[ab,x,r,S,pos,rfl,i];exact ai9 (CY (IR O B m F (CY (IR O u m n h) j)) z)
end
def aar{K}(h:uH K [hC]=ae)(l:[e8,f]=[a']):o.cls=[bT,"function"]:=[eT,e,[a3,[fO,[e8,f]]==[cj]],h]
structure X3 (K : aQ) (C N fI : ai) (fd : uK) (qual : au) (st : kY) (a1 a2 a3 q1 q2 q3 : au) : Prop where
 c : XC K C N (aa (.ref fI))
 F : YP K "__init__" qual st fI fd
 fn : uH K (.ref fI) = ae
 b : ∃ s1 s2 s3, Np st = [s1, s2, s3] ∧ rk "self" a1 q1 s1 ∧ rk "self" a2 q2 s2 ∧ rk "self" a3 q3 s3
 bi : lE K fd ["self", q1, q2, q3] []
 sc : (vv st).kind = .function ∧ (vv st).isCoroutine = af ∧ (vv st).isGenerator = af
 lo : ∀ x ∈ (["self", q1, q2, q3] : List au), (vv st).names.lookup x = aa .local
 nd : (["self", q1, q2, q3] : List au).Nodup
 na : ∀ x ∈ [a1, a2, a3], gu K N x = aa ag ∧ iO (.type "Exception") x = bx ag
 ns : gu K N "__setattr__" = aa ag
 FN : ∀ x ∈ [q1, q2, q3], (x == ("__debug__" : au)) = af
 ad : a1 ≠ a2 ∧ a1 ≠ a3 ∧ a2 ≠ a3
def yz(e z h:au)(G f d:V):[fy,V]:=[(e,G),(z,f),(h,d)]
def X3.call{K}{st}(x:X3 K iJ N fI fd qual st a1 a2 a3 q1 q2 q3)(B:K.In s.heap)(U:s.heap.NoLimit)(hr:eL (k+1) A)(h:∀h' tk e dx S,(∀b o,s.heap.get? b=aa o->h'.get? b=aa o)->s.heap.get? e=ag->s.heap.get? dx=ag->dx≠e->h'.Ns1 dx S->S a1=aa C->S a2=aa u2->S a3=aa u3->(∀y,y≠a1->y≠a2->y≠a3->S y=ag)->(∃t,h'.get? e=aa {cls:=.ref iJ,dict:=aa dx,data:=.fields (List.toArray [.ref t,.none,.none,.none,.bool af,.none])})->Q (.ref e) {s with heap:=h',toks:=tk}):aE (aK prog w) A (gS (.ref iJ) [C,u2,u3]) Q E s:=by obtain⟨⟨nm,qn,bs,sn,sub,ab,col,j⟩,⟨k0,k1,k2,k3,Z⟩,P,hN,hi⟩:=x.c.at B;obtain⟨oc,od,kV,rF,pm,an,O,ct,t7,rfl,lk,gi⟩:=x.F.ex;obtain⟨s1,s2,s3,eb,i1,i2,i3⟩:=x.b;obtain⟨hh,g,d,t,os⟩:=s;refine wpAny_call_exc_init ajJ P hN hi (B _ _ lk) (aar (o:=#[oc,od,_,t7]) x.fn lk) λm e G=>?_;obtain⟨tt,he,_,_⟩:=G.there;have i:=B.keeps G.keeps;(have ps:=λus e=>by have:=x.bi #[m,g,d,t,os] us i (by simpa using e);simpa using this);refine C6 (Att.aap (s:=#[m,g,d,t,os]) i (U.keeps G.keeps) lk gi (by have:=hr.dp;rw[KP];omega) (ps [.ref e,C,u2,u3] Y) ?_ (λs2' T=>?_) x.sc.2.1 x.sc.2.2 x.sc.1);{rw[ck];rintro⟨n,v⟩hy;have:=x.lo n (kb hy).1;simp[this]};{obtain⟨u,t2,rfl,kp⟩:=T.done;generalize hL:(#[m,g,d,t,os]:aD).heap.objs.size=ik at T|-;generalize HQ:k4 qual (vv st) ik fI O=env at T|-;(have L:env.scope.kind=.function:=by rw[<-HQ];exact x.sc.1);(have p:env.locals=ik:=by rw[<-HQ];rfl);(have a:∀y∈(["self",q1,q2,q3]:List au),env.kindOf y=aa .local:=λy hy=>by rw[<-HQ];exact x.lo y hy);have ns:=T.toInCall.ns;generalize hm:(si env.kindOf ((["self",q1,q2,q3]:List au).zip [.ref e,C,u2,u3]) λ_=>ag)=ml at ns;(have g0:ml "self"=aa (.ref e):=by rw[<-hm];exact vy (i:=0) x.nd Y Y (a _ (by simp)));(have g1:ml q1=aa C:=by rw[<-hm];exact vy (i:=1) x.nd Y Y (a _ (by simp)));(have g2:ml q2=aa u2:=by rw[<-hm];exact vy (i:=2) x.nd Y Y (a _ (by simp)));(have g3:ml q3=aa u3:=by rw[<-hm];exact vy (i:=3) x.nd Y Y (a _ (by simp)));have Sd:=kp _ _ he;(have Sn:e≠ik:=λq=>by rw[q,(IP (uQ hL))]at he;cases he);(have H:e≠iJ:=λq=>by have:=G.new;rw[q,P]at this;cases this);have So:∀{ha J:bP}{mm}{b},ha.Ns b mm->(∀o,ha.get? b=aa o->J.get? b=aa o)->J.Ns b mm:=λ#[o,es,ep,e1,r]kk=>#[o,es,ep,kk o e1,r];have cN:∀{J},K.In J->J.Ns N (J.nsMap N)/\J.nsMap N "__setattr__"=ag/\∀y∈[a1,a2,a3],J.nsMap N y=ag:=λkk=>#[.of_isNs (Ua kk x.c.ok),AD kk x.c.ok x.ns,λy hy=>AD kk x.c.ok (x.na y hy).1];rw[eb];have K2:=i.keeps kp;obtain⟨c1,c2,c3⟩:=cN K2;refine IU (G_ i1 L (a _ (by simp)) (a _ (by simp)) (by rw[p];exact ns) g0 g1 (WR ajL (kp _ _ (G.keeps _ _ P)) c1 c2 (c3 _ (by simp)) (x.na a1 (by simp)).2 Sd Y (λc q=>by cases q) Y λh3 t3 e3 W yP=>?_) (by decide) (x.FN _ (by simp)));generalize l:u.objs.size=dx at e3 W yP;have f:=IP (uQ l);(have Sr:m.get? dx=ag:=by cases q:m.get? dx with|none=>rfl|some o=>rw[kp _ _ q]at f;cases f);(have HR:dx≠e:=λq=>by rw[q,Sd]at f;cases f);(have Ldx:ik≠dx:=λq=>by obtain⟨o,_,_,e1,_⟩:=ns;rw[q,f]at e1;cases e1);have K3:=λb o q=>yP b o (λz=>by have:=B _ _ q;rw[z,G.new]at this;cases this) (K2 b o q);have Ss:=So ns λo q=>yP ik o (dt Sn) q;obtain⟨c1,c2,c3⟩:=cN K3;have C3:=yP _ _ (dt H) (kp _ _ (G.keeps _ _ P));refine IU (G_ i2 L (a _ (by simp)) (a _ (by simp)) (by rw[p];exact Ss) g0 g2 (KF (ns:=[a1]) C3 c1 c2 (c3 _ (by simp)) (x.na a2 (by simp)).2 H e3 Y (λc q=>by cases q) Y HR W ?w1 (by simp) λh4 I e4 n4 Ct=>?_) (by decide) (x.FN _ (by simp)));(case w1=>intro y hy;by_cases q:y=a1;{simp[q]};{exact absurd (aw q) hy});obtain⟨c1,c2,c3⟩:=cN (λb o q=>Ct b o (λz=>by have:=B _ _ q;rw[z,G.new]at this;cases this) (λz=>by have:=K2 _ _ q;rw[z,f]at this;cases this) (K3 b o q));(have Cdx:iJ≠dx:=λq=>by rw[<-q,kp _ _ (G.keeps _ _ P)]at f;cases f);refine IU (G_ i3 L (a _ (by simp)) (a _ (by simp)) (by rw[p];exact(So Ss λo q=>Ct ik o (dt Sn) Ldx q)) g0 g3 (KF (ns:=[a2,a1]) (Ct _ _ (dt H) Cdx C3) c1 c2 (c3 _ (by simp)) (x.na a3 (by simp)).2 H e4 Y (λc q=>by cases q) Y HR n4 ?w2 (by simp) λh5 F e5 n5 k5'=>?_) (by decide) (x.FN _ (by simp)));(case w2=>intro y hy;by_cases q:y=a2;{simp[q]};{by_cases q':y=a1;{simp[q']};{exact absurd (show(if y=a2 then aa u2 else if y=a1 then aa C else ag)=ag by rw[aw q,aw q']) hy}});refine CZ #[Y,?_];refine h h5 F e dx _ (λb o q=>?_) G.new ?_ HR n5 ?_ ?_ ?_ ?_ #[tt,e5];{(have be:b≠e:=λz=>by rw[z]at q;have:=G.new;rw[q]at this;cases this);have q2:=kp _ _ (G.keeps _ _ q);(have bd:b≠dx:=λz=>by rw[z,f]at q2;cases q2);exact k5' b o be bd (Ct b o be bd (yP b o be q2))};{show hh.get? dx=ag;cases q:hh.get? dx with|none=>rfl|some o=>rw[G.keeps _ _ q]at Sr;cases Sr};{rw[aw x.ad.2.1,aw x.ad.1,aJ Y]};{rw[aw x.ad.2.2,aJ Y]};{rw[aJ Y]};grind}
def WW(hh:[gi])(h:aE M A x (λv j=>∃e t W,v=[m,e]/\j.heap.get? q=aa (iS q N p k)/\j.heap.get? e=[A_,q,W,t]/\E [m,e] j) E s):[eF,M,raiseStmt env (aa x) ag]:=by have a:[mA,da q::BM,[ye]]:=[bP,Uc];unfold raiseStmt;rw[an,[pv,h,v,j,m,[vx]]];obtain⟨e,t,W,rfl,P,O,C⟩:=m;rw[ab,L,g,d,tk,os,j];(repeat(first|rfl|rfl|(rw[bI,Jx P ?_,a])|wp_step));exact wpAny_raiseNew_none hh C
def ahm(r:bq [x,y,z] us):∃C v d,us=[C,v,d]/\bB x C/\bB y v/\bB z d:=by cases r with|cons a r=>rw[ab,v,d,rfl,b,c,Go r];grind
section
variable{X:Cx}
def ak.ac6{σ:St}(I:[ah])(k:∀b C,([bJ,b,C])->x.get? b=aa C)(h:[lX,a])(new:[lb,a,o,x,o]):[c7,[f3,o],[l7,x,t']]:=by rw[aY,m,I.BG h,I.un #[λb C q _ _ _=>k b C q,λb C q _ _ _=>#[C.slots,k b C q],λb C q n _=>?_,λb C q _=>#[C,k b C q],λb G q=>?_,λb C G q=>?_,λb ps q=>#[[cd],?_]] [vl]];{rw[V,[dw],n]};{rw[V,[dw],q]};{rw[V,[dw],q]};{rw[aX (iF q m),q];simp};{rw[eX,I.aO b C e,G]}
def YO(C:ai)(z j h:au)(E:XK)(ta:TA):TS:=λ_ σ H=>[nj,B,e,∃G f d,B=[G,f,d]/\∀a,e a=ag->E [iR] (aa a) (upd e a (.xd (yz z j h G f d)))]
def ag8{st}{np kJ pos}(hh:[sq])(hr:[v0])(hex:[ke])(t:[l3])(c:X3 X.K i N fI fd qual st a1 y a3 O g w)(hg:[dJ])(hm:[fm,i])(hk:ji X.K [m,i]=ae)(ha:PA X (e::Q) ta)(hd:[cq]:=by rfl)(he:[il,Q]:=by rfl)(Ch:[wG,kJ,Q]:=by rfl):[hF,[xa,e::Q,kJ],YO i a1 y a3 E ta]:=by rw[ci];obtain⟨⟨nm,qn,bs,sn,sub,ab,col,j⟩,⟨k0,k1,k2,k3,Z⟩,P,hN,hi⟩:=c.c.at I.dW;(have L:[hI,[eN,.Call (.Name x np) (e::Q) [] kJ],λv T=>∃U tt W,v=[m,U]/\T.heap.get? i=[HA]/\T.heap.get? U=[A_,i,W,tt]/\X.xe [m,U] T]:=by rw[ai,nY (p9 I hg hm ?_ hd),C7 (h₀:=X.base) I.ok.mod.tF hk (a8 (ha kJ pins s σ H _ I h) λus T#[B,H1,u,r,G,v2,d,ev,q]=>#[u.dW,?_]) he Ch];subst ev;obtain⟨C,u2,u3,rfl,r1,r2,r3⟩:=ahm r;case _=>refine c.call u.dW u.nolimit hr λh' tk U dx S kp ne nd a nA m1 F n m0#[tt,m]=>?_;rw[ad,l,[i1,i]=[HA],by rw[K,p,k,e,c.c.ex];rw[bk,z1,I.dW _ _ e,P,z1];rw[V,uC z1,kp _ _ (u.dW _ _ e)],#[U,tt,aa dx,Y,l,m,?_]];rw[ad,I2,[c7,upd H1 dx (.xd (yz a1 y a3 G v2 d)),{T with heap:=h',toks:=tk}],by refine u.ac6 kp nd #[S,nA,λf=>?_];show hE (uI f [(a1,G),(y,v2),(a3,d)]) (S f);rw[b,O,f=a1];{subst O;rw[Y,uI,uz];rw[V,m1,r1]};{rw[b,g,f=y];{subst g;rw[ac,uI,uz,wx O];rw[V,F,r2]};{rw[b,w,f=a3];{subst w;rw[au,uI,uz,wx O,wx g];rw[V,n,r3]};{rw[au,uI,wx O,wx g,wx w];rw[jq,m0 f O g w]}}},t pins σ _ _ U [m,i] (aa dx) ag #[I2,hex,#[_,_,m,Y,Y,Y,by simp,Y],[fo]] (q dx (u.BG nd))];have e1:=[gr,tO,J];rw[bh,e1,u.apart hex ne [hl,dt a,u.BG ne]]);rw[an,wm ?_];first|exact WW hh [aJ,gR L (λv s3 h3=>[aJ,wm (bg h3)]) [vx]]|simp
end
def N_{os}(P:[j8])(F:[de,j,iS j y B x])(J:[de,e,i])(O:i.cls=[m,j])(z:Q (ao (j=C)) [k5]):aE M A (excMatches [m,e] [iR]) Q E [k5]:=by rw[D,a,[mA,da C::BM,[ye]],[bP,Uc],c,(da j::BM).contains [iR]=ao (j=C),[f]];have f:=tc_notTuple;unfold excMatches;(repeat(first|(rw[bI,uT J ?_,O])|with_reducible refine uT P ?_|(rw[bI,Jx P ?_,a])|(rw[bI,Jx F ?_,c])|wp_step));rw[aE,j=C];{rw[uM q]at z|-;wp_walk;exact z};{rw[nV q]at z|-;wp_walk;exact z}
section
variable{X:Cx}{pins:List (ai×bn)}{σ:St}{H:Hp}{s:aD}
abbrev Cx.bU(X:Cx)(e:aq):Cx:={X with A:=X.A.mark (aa e),ci:=af,xe:=[qf]}
def Cx.Ok.bU(ok:X.Ok)(e:aq):[m2].Ok:=#[ok.mod,ok.kind,ok.fw,ok.blt,ok.above,ok.inj,ok.has,ok.vr,(λh=>nomatch h),ok.frames,ok.xX,ok.tP,ok.bs,ok.lO,ok.u9,ok.sT,ok.kq,ok.pY]
def ak.bU(I:[ah])(e:aq):ak [m2] pins σ H s:=[tS,I.ok.bU e,I.eI]
def ak.oj(ok:X.Ok)(I:ak [m2] pins σ H s):[ah]:=[tS,ok,I.eI]
def SP.oj(ok:X.Ok)(h:SP [m2] pins D f s):SP X pins D f s:=[AE,h,#[a,b,c.oj ok,d],#[v,a,b,c.oj ok,r,d]]
def PH(X:Cx)(h:List Ud)(l:lZ->XK):[P]:=∀(D:lZ)(pins:[eH])(σ:St)(H:Hp)(s:aD)(a:ai)(cls:aq)(W:[kK])(T:ai)(fl:aq),([mp,s,a,[oK]])->l D cls W H->[hI,handleBy [aL] X.env h,SP X pins D]
def XI.passOn(x:[mp,s,I,[oK]])(h:∀i C,([mp,[cv,i],I,aa (T,C)])->E [m,I] [cv,i]):aE M A (PySem.passOn a [m,I] env:Sem U) Q E s:=by obtain⟨d,B,q,O,l,hd,e,m,r⟩:=id x.og;rw[an,fu q hd m ?_];exact [aJ,x.wF λi z=>Ue (h _ _ z)]
def ae5(t:[l3]):PH X [] (λ_=>E):=by intro D pins σ H s a cls W T fl x q;exact wpAny_handleBy_nil (x.passOn λi C z=>t _ _ _ _ _ _ _ _ z q)
def afg(K:aQ)(n:Nat)(C:ai)(ts:TS)(l:lZ->XK):lZ->XK:=[Hv,∀σ:St,[ho]=n->ts D σ H]
def XI.bU(x:[mp,s,I,a])(e:aq):XI [m2] pins σ H s I cls W a:=#[x.inv.bU e,x.hex,x.og,x.ap]
def ab9{r}(c:XC X.K C N eD)(L:[dJ])(m:[fm,C])(a:∀e,fO [m2] (b::A) ts)(u:PH X r l)(hd:[cq]:=by rfl):[w8,ag,b,r,afg X.K [vi] C ts l]:=by intro D pins σ H s S cls W T fl I q;rw[am,j,y,h,rfl,i,q,q];rw[aY,g,I.bU [l4],[J_,L,m]];rw[bL,p,k,P,c.at I.inv.dW,Z,G,F,i.at I.inv.dW];obtain⟨U,B,J,O,_⟩:=id I.og;refine N_ P F J O ?_;rw[b,e,j=C];{rw[aJ e]at q;rw[uM e];rw[ai,codeAny_handlers_suite (g.wF λQ d=>?_),gR (a _ _ _ _ H D d.inv (q _ I.inv.len)) (λf n z=>z.oj I.inv.ok) (by simp)]};{rw[aw e]at q;rw[V,nV e,u D _ _ H _ _ _ _ T _ I q]}
abbrev Cx.tr(X:Cx)(xe:[em])(pn:[eH]):Cx:={X with xe:=xe,pn:=pn}
def ak.tr(I:[ah])(xe:[em]):ak [x7] [] σ H s:=[tS,#[I.ok.mod,I.ok.kind,I.ok.fw,I.ok.blt,I.ok.above,I.ok.inj,I.ok.has,I.ok.vr,I.ok.hd,I.ok.frames,I.ok.xX,I.ok.tP,I.ok.bs,I.ok.lO,I.ok.u9,I.ok.sT,I.ok.kq,I.ok.pY],[DQ]]
def ak.tS(ok:X.Ok)(I:ak [x7] j σ H s):[ah]:=[tS,ok,[DQ]]
def SP.tS(ok:X.Ok)(h:SP [x7] [] D f s):SP X pins D f s:=[AE,h,#[a,b,c.tS ok,d],#[v,a,b,c.tS ok,r,d]]
def WX{G:XK->TS}{r}(P:[gs]=w::r)(U:[sQ])(d:[y7])(hex:[ke])(J:[Gp,G E])(hh:PH X (h0::O) l):[hF,.Try body (h0::O) [] [] pos,λD σ H=>G (l D) D σ H]:=by rw[aS,D,h,wpAny_Try_except ?_];let xe:=λe j=>[gc,Jt e X.env,λ_ S=>[gc,T' e ag,λ_ i=>[gc,handleBy e X.env (h0::O),SP X pins D,i],S],j];rw[ad,tk,gz [x7] (l D),by intro F Q n y T cls W a x q;rw[br,N,XI X _ _ _ _ _ _ _ _,#[x.inv.tS I.ok,hex,x.og,λb J=>let z:=x.ap b J;#[[cK],[fD],[cQ,z],[cQ,z.2],λp B=>[eQ,z].2 p (IQ _ B)]],N.EE I.ok.frames P U d λm A Z=>Z.wF λu x3=>hh D _ _ _ _ _ _ _ _ _ x3 q],[pv,J _ _ _ tk PassesOwn.looking (λb J=>let#[o,z]:=hex b J;#[o,IQ _ z]) _ s _ H D (I.tr _) h,f,j,q,[vx]]];have q:=q.tS I.ok;cases f with|next=>exact CZ q|brk=>exact q|cont=>exact q|ret C=>exact q
end
section
variable{prog:cP}{w:cz}{A:dc}{E:aq->aD->Prop}{h:bP}{g:Array GenState}{d:Drawn}{t:Nat}{os:OsState}
variable{C N x dx:ai}{p:au×au×List aq×List au×List aq×Bool×Option Bool×Option ai}{k:Option aq×Option aq×Option aq×Option aq×Option aq}{mN mA:au->Option aq}{nm:au}{v:aq}{ob:bn}
def XQ(P:[j8])(u:[oV])(m:[o6])(f:[px])(L:[mV])(O:[mB])(r:[nS])(l:[lQ]=aa dx)(W:[s5])(e:mA nm=[cX])(q:Q (.done [bl,v]) [k5]):[tk,Builtin.«object.__getattribute__» #[[[eA],[sT]],[]]]:=by
 repeat(any_goals(first|rw[h5]|rw[c5]|(rw[bI,Di P u (Uf.mro) f ?_,m])|wp_step))
 split;{rename_i c z;rw[be,z,r c]};unfold instanceDict;repeat(first|rw[c5]|with_reducible refine uT P ?_|wp_step)
 rw[l];unfold aq1;repeat(first|(rw[bI,wpAny_nsGet W.ns ?_,e])|wp_step)
 exact q
def ace{M:Model}{e:aq}{Q:Unit->aD->[P]}(P:[j8])(L:[mV])(O:[mB])(z:Q () [k5]):aE M A (Jy "BaseException.__getattribute__" #[[[eA],e],[]]) Q E [k5]:=by rw[aj,m,builtinKind "BaseException.__getattribute__"=aa .slot,[dz],q,splitId "BaseException.__getattribute__"=aa ("BaseException","__getattribute__"),[dz],a,[mA,da C::BM,[ye]],[bP,Uc]];have J:=PySem.F.args_bexc_ga [eA] e;rw[ac,Jy,m,q];refine [hZ];unfold isInstance;(repeat(first|rw[c5]|(rw[bI,Jx P ?_,a])|wp_step));exact z
def Yh{tk:iz}{R:zi->aD->[P]}(P:[j8])(e:[oV])(m:[o6])(f:[px])(L:[mV])(O:[mB])(r:[nS])(l:[lQ]=aa dx)(W:[s5])(q:mA nm=[cX])(z:R [iB,v] [k5]):[o4,[bZ,.builtin "BaseException.__getattribute__",#[[[eA],[sT]],[]]],[k5]]:=Jw Uf.ga.plain PySem.F.entry_bexc_ga (ace P L O (XQ P e m f L O r l W q z))
def VC{tk:iz}{fill j:Bool}{Q:[em]}(P:[j8])(q:[oV])(e:mN "__getattribute__"=ag)(J:mN "__getattr__"=ag)(m:[o6])(W:[px])(L:[mV])(O:[mB])(r:[nS])(l:[lQ]=aa dx)(z:[s5])(I:mA nm=[cX])(hh:Ug v=bx v)(u:Q v [k5]):[tk,getAttrBy [eA] [sT] fill j]:=by rw[R,f,Uf,f3,f.ga.bind [eA]];rw[aj,F,(j&&onTheHeap [BM])=af,[bz,j],B,[bH,[BM],[L8]],[dz],G,(onTheHeap (da C)&&[BM]==[L8])=af,[bP,B]];(repeat(any_goals(first|rw[h5]|rw[c5]|(rw[bI,Di P q f.mro f.ga.lookup ?_,e])|(rw[bI,Di P q f.mro f.noGetattr ?_,J])|wp_step)));refine Yh P q m W L O r l z I ?_;rw[cI]
def adf{j:Bool}{Q:[em]}(P:[j8])(u:[oV])(e:mN "__getattribute__"=ag)(J:mN "__getattr__"=ag)(m:[o6])(f:[px])(L:[mV])(O:[mB])(r:[nS])(l:[lQ]=aa dx)(z:[s5])(q:mA nm=[cX])(hh:Ug v=bx v)(a:Q v #[h,g,d,t+1,os]):[tk,C2 [eA] nm j]:=by unfold C2;repeat(any_goals(first|rw[h5]|with_reducible apply VC P u e J m f L O r l z q hh|wp_step))
end
def Ce(I C:ai)(W:[kK]):HO:=.ext λh=>∃a,[de,I,a]/\a.cls=[iR]/\a.dict=W/\∃B,a.data=.fields B
section
variable{X:Cx}{pins:List (ai×bn)}{σ:St}{H:Hp}{s:aD}
def ak.aay(I:[ah])(n:[nz])(h0:X.eA.heap.get? a=ag)(W:a≠[gE])(O:[ur,a])(m:[x9,a])(new:[lb,a,o,s.heap,o]):[c7,[f3,o],s]:=by refine#[I.ok,I.os,I.bare,#[I.base.keep,I.base.slot,λb ob e nb L=>?_,I.base.there,λb B e=>?_,λb ob C e=>?_,λb ps e=>?_],I.loc,I.cell,?_,[zQ],λp h=>?_,[vl],I.len];{rw[V,[dw],I.base.free b _ e nb L]};{rw[V,aX (iF [Ei] n),[Ei]]};{rw[V,aX (iF (I.base.k_ b _ C e) n),I.base.k_ b _ C e]};{rw[aG,G,q,I.base.mj b _ e,#[G,[ny,q,n]]]};{rw[V,aX (dt W),I.free]};{rw[V,aX (O x c e),[Ae]]};{rw[bx,e,z,r,I.eI p h,#[e,[hl,m p h,z],r]]};{rw[aE,b=a];{subst q;rw[bW]at e;grind};{rw[ae,aX q,e,(I.aO b C e).jR (by simp) (λc z=>[ny,z,n]) λc B z=>[nm,z]]}}
def ahf(K:aQ)(ta:TE)(f:au):TE:=λσ H Q=>[nj,x,e,∃a C N eD p fs v,[gA,e a=aa (Ce a C (aa p)),e p=aa (.xd fs)/\XC K C N eD/\[HK,K]/\[pH,f]/\[lt,f]=[cX]/\Q v e]]
def af8(r:bB v C):Ug C=bx C:=by cases v with|a0=>obtain rfl:C=qB:=r;rfl|bl b=>obtain rfl:C=r9 b:=r;rfl|int i=>rw[bQ,[sf,C=o_ i t]]|str x=>rw[bQ,[sf,C=CW x t]]|lu b=>rw[bQ,[sf,C=To b t]]|yo b=>rw[bQ,[sf,C=Tp b t]]|ref a=>obtain rfl:C=da a:=r;rfl|ty n=>obtain rfl:C=uA n:=r;rfl
def ad7(U:[gC,ta])(J:[eE,e,f]):[cn,[Dl],ahf X.K ta f]:=by rw[bP,Q,Pt J (a8 [uO] λC T#[x,F,d,Z,a,j,N,eD,t,fs,v,ex,i,A,c,ns,tl,l,q]=>?_),ex,C=da a,Z];rw[ab,p,k,P,hN,E,c.at d.dW];obtain⟨⟨w,g,n,W,B,u⟩,_⟩:=d.aO a _ i;rw[aM,S,O,r,d.aO _ _ A,C,hu,L,hE.x_ (v:=v) (o:=S f) [f]];rw[bd,G,λy m=>AD d.dW c.ok (ns y m),adf P hN [D'] [D'] [D'] tl g n (λc z=>[az,u,z,z]) W O hu (af8 L) #[v,F,d.tok _,L,q]]
def ak.AQ(I:[ah])(hN:X.N.Nodup)(a:[aZ,X.N,n])(U:[wh,n]=[fj])(h:∀S,ak X pins (σ.set i ag) H S->Q () S):aE M A (do bindName X.env n [a0];unbindBehindTheSuite X.env n pos) Q E s:=by rw[K,G,f,W,id I.loc];rw[ad,F,i<[ho],[q,I.len,[dB,a]],wpAny_nameGoes_keeps U f [bP,I.ok.kind] λg v Z x=>h _ ?_];rw[ad,lo,[CQ],[dC,di (hc [ee] [oG])],[vo,I.ok,[xh,λb o e nb J L=>[cy,[Do],[uB,nb]],λb o e nb J L=>?_,[u7]],#[_,Z,λj y T m B P=>?_],[zR],λp N=>?_,λb ob e=>?_,[aD,I.len]]];{rw[aG,sl,m,[uG,nb],#[sl,[bY,[Do],m]]]};{rw[aG,l,m,[p8],#[l,[bY,[Do],m]]]};{rw[b,u,j=i];{rw[bb]};{rw[gm (dt u)]at B;rw[aK,C,r,q,W j y _ m B P,#[C,r,?_]];rcases q with⟨k,e⟩|⟨k,c,e,z⟩;{have:y≠n:=λz=>u (Bn hN m (z▸a));exact [H,#[k,[hO,aw this]]]};{exact [aC,#[k,c,e,z.sameBut x (I.pJ y c e)]]}}};{rw[aG,d,z,I.cell y c e,#[d,z.sameBut x (I.pJ y c e)]]};{rw[dH,e,z,ne,r,I.eI p N,#[[hO,x.2 _ ne],z,ne,r]]};{refine(I.aO b _ e).jR (λc d O q=>[oA,x.2 c ?_]) (by simp) (by simp);rintro rfl;rw[aJ,O,z,z];{have:=I.free;rw[gH,z,e,this]};{have:=I.free;rw[az,z,this,this]}}
def aci(K:aQ)(n i:Nat)(C:ai)(ts:TS)(l:lZ->XK):lZ->XK:=[Hv,∀(σ:St)(a:ai),[ho]=n->([nz])->ts {nx:=λB e=>D.nx (B.set i ag) e,rt:=D.rt,bk:=λB e=>D.bk (B.set i ag) e,ct:=λB e=>D.ct (B.set i ag) e} [oo,[aL]] [f3,Ce a C W]]
def ags{rC}(c:XC X.K S N eD)(hg:[dJ])(hm:[fm,S])(hN:X.N.Nodup)(E:[aZ,X.N,nm])(U:[wh,nm]=[fj])(hs:∀e,fO [m2] (b::A) ts)(hr:PH X rC l)(hd:[cq]:=by rfl):[w8,aa nm,b,rC,aci X.K [vi] i S ts l]:=by intro D pins σ H s ea cls W T fl t q;rw[am,j,y,h,rfl,c',q,q];rw[aY,g,t.bU [m,ea],[J_,hg,hm]];rw[bL,p,k,P,c.at t.inv.dW,p',k',F,c'.at t.inv.dW];obtain⟨oe,B,he,O,_⟩:=id t.og;refine N_ P F he O ?_;rw[b,e,j=S];{rw[aJ e]at q;subst e;rw[cm,uM Y,codeAny_handlers_suite_as (g.wF λh' x'=>?_)];rw[ab,Z,a1,a2,a3,a4,x'.ap _ [qV]];obtain⟨G,I,n,vZ,L,J,_⟩:=id x'.og;have I1:ak _ _ _ (upd H _ (Ce _ _ _)) _:=x'.inv.aay a1 Z a2 a3 a4 #[#[G,n,vZ,L,I,J],#[_,n],λm u#[o,e1,e2]z=>#[o,z o e1,e2]];rw[ai,BN (X:=X.bU _) (v:=[dQ]) I1 hN E [H,U] Y (λs2 I2=>?_) [aC,U],[pv,hs _ _ _ _ _ _ I2 (q _ _ t.inv.len a1),f,s',z,by simp]];have ok:=t.inv.ok;rw[AE,z,(c.oj ok).AQ hN E U λw Q=>#[_,_,Q,d],(c.oj ok).AQ hN E U λw Q=>#[v,_,_,Q,r,d]]};{rw[aw e]at q;rw[V,nV e,hr D _ _ H _ _ _ _ T _ t q]}
end
section
variable{X:Cx}
abbrev Cx.lB(X:Cx)(s:aD)(H:Hp)(S:fo)(G:jf)(l:[bc])(xe:[em])(pn:[eH]):Cx:=[Ih,l,S.names.lookup x,pn,xe]
def Yc{σ:St}{rC}(tk:[l3])(hex:[ke])(j8:[gs]=w::rC)(hfe:w.frame=aa ik)(d:X.env.frame=aa ik)(O:[cG])(hN:X.N.Nodup)(I:[ah])(hi:[vr])(ok:[li,c8])(hg:[Kv,PG [pG,c8,cl,iJ,fp] tg g])(ht:[Kv,lU [pG,c8,cl,iJ,fp] ej tt])(he:[IF,iJ,cl,fp,[bc],[eH],c8,te])(hs:[k3])(h:sW wi g tt te [k6] σ H Q)(HD:∀D iJ s' G H',[GH,iJ,G]):[KE,[I7],c8,Cu]:=by rw[ef,c8.names,y.2=[ec],[aC,k],u];rw[d6,fp,qh,u,.seq [hg,[]],s3,s3.heap=s2.heap.push [Aw]];rw[d0,fp,b<s2.heap.objs.size,[bI],b<[j_],s3.heap,s3,[j_],[j_]+1,c8.names];rw[d4,l,c8,[j_]+1,c8.names,[j_],s3,s3.heap.push [kX],ce];rw[D,cL,ce.locals=[j_],by subst Cn;rfl,cF,ce.frame=X.env.frame,by subst Cn;rfl];rw[ft,s3,s3.heap.push [kX],c8.names];rw[aj,yL,tn 0 s4.heap,[Ht],nz,[G9,[xQ],fp],[Gg],yM,jh [c6] X.A (.compLoop [I7] 0 [gS] [kT] ce) [Cs,[j_]] s4,by refine OQ (λn s'=>[FN,s3,c8,ce,fp,n]) ?_ m0 #[0,H3,I4,yL,yK,w0];rw[en,[Io,[xQ]],r,Z,z,G,D,[j_],I3.A' (ch:=fp) I6.os I6.base I6.aO I6.bare [Ce],I3.ju [dr] nC];{rw[d5,s3,c8,ce,fp,C,G,G<n,[iO]];cases b with|false=>simp only[dj,b8]at q9|-;exact fj I9 q9|true=>simp only[bI]at q9|-;let xb:=wv [c6] X.A ce (λe s'=>ww [c6] X.A X.xe oZ Qf [kT] [j_] [kZ] s');rw[D,hpn,[rG,fp,[yM]],λb J=>by rw[a4,o,e,T.obj _ _ rH b J];rw[aQ,o,vM J e],tb,gz [Lj] E,by intro apW mu H' s' ea cls W a xi q;refine xi.EE (M:=[c6]) (A:=X.A) (env:=ce) (xi.inv.ok.frames) j8 hfe (cF.trans d) λm A x1=>?_;rw[a4,G,hn,x1.inv.loc];rw[bk,hn,hn,cL,hn];refine#[G,hn,λu sb gH dw=>?_];have nC:H' [j_]=ag:=[hr,z,x1.inv.free,cL,z];rw[am,g0,g1,g2,g3,g4,g5,I3.ju [dr] nC];rw[a1,I8,ak.turned (s:=[mO,s',m]) (h':=u) (t':=s'.toks) (it:=s3.heap.objs.size) (I3.A' (ch:=fp) x1.inv.os x1.inv.base x1.inv.aO x1.inv.bare [Ce]) [yF,sb] g0 g1 g3 g4 g5,nL,[ev,tO ea (aa (A,fv ik)),b≠[j_]],λb J z=>[aE,x1.ap b J].1 (by rw[z,cL]),x2,XI X pins σ H' [mO,s',u] ea cls W (aa (A,fv ik)),by refine#[I8,hex,?_,λb J=>I3.apart hex [M,x1.ap b J] [ak,x1.ap b J]];obtain⟨oe,B,he,a1,a2,a3,a4,a5,a6,t,ts,hT,P⟩:=x1.og;exact#[oe,B,[bY,sb.2 ea (nL ea [qV]),he],a1,a2,a3,a4,a5,a6,t,ts,[bY,sb.2 A (nL A [r1]),hT],P]];exact x2.passOn λh3' R' x3=>tk _ _ _ _ _ _ _ _ x3 q];rw[ad,I9',ak [Lj] [] nB H9 s9,#[#[I9.ok.mod,I9.ok.kind,I9.ok.fw,I9.ok.blt,I9.ok.above,I9.ok.inj,I9.ok.has,I9.ok.vr,I9.ok.hd,I9.ok.frames,I9.ok.xX,I9.ok.tP,I9.ok.bs,I9.ok.lO,I9.ok.u9,I9.ok.sT,I9.ok.kq,I9.ok.pY],I9.os,I9.bare,I9.base,I9.loc,I9.cell,I9.free,I9.ie,λp hp=>I9.eI p ([aD,hp]),I9.aO,I9.len],gR (pe xb [yM] hpn tb [] s9 nB H9 _ I9' q9) (λz Sj#[yv,Sk,f,HH,N,HI,HJ,nx]=>?_) [vx]];rw[br,HG,ak [xQ] ([]++[yM]) nB Sk Sj,#[I9.ok,f.os,f.bare,f.base,f.loc,f.cell,f.free,f.ie,λp hp=>f.eI p ([aD,hp]),f.aO,f.len],[KO,[xQ]]]}];exact [Kh]
def YM{i}{A}{g}{j}{a}(tk:[l3])(hex:[ke])(c:[gs]=w::i)(y:[sQ])(d:[y7])(O:[cG])(hN:X.N.Nodup)(N:PI X B F A)(ok:[li,S])(p:[jZ,z,u,[bc],PG [q2,S] B g])(P:[t9,z,u,lU [q2,S] r j])(W:[F0,a])(U:[k3]:=by rfl):[cn,[rU,r],sW A g j a [k6]]:=[JY,Yc tk hex c y d O hN I N ok p P W U h λD C v G T Z q m f=>#[G,m,λt n=>?_],T,n]
end
end L2
namespace Snd
open PySem PySem.Spec PyProof.Rows L2
open Ir(D aP aj lim)
abbrev Le(F H:Hp):[P]:=∀a o,F a=[a']->[jS]
abbrev lx(r r':[bc]):[P]:=[lY,n,a,ai,[AD],[aR,r',n,a]]
def h9:([al])->[bg,[iH]]|[]=>aa []|[bp]=>(gX x).bind λk=>[R,h9 r,(k::·)]
def mZ:D->[bg,[iH]]|[eB]=>h9 l|_=>ag
section
variable(T:Tb)(K:aQ)
mutual
def aG(r:List ai)(F:Hp):D→V→Prop|.a0,v=>v=.a0|.bl b,v=>v=.bl b|.int i,v=>v=.int i|.str s,v=>v=.str (sv s)|.tup l,v=>∃a B,v=.ref a∧F a=aa (.tup B)∧l.length≤lim∧aY r F l B|.lst l,v=>∃a B,v=.ref a∧F a=aa (.lst B)∧l.length≤lim∧aY r F l B|.dU l,v=>∃a B,v=.ref a∧Rd F a (.lst B)∧l.length≤lim∧aY r F l B|.b4 l,v=>∃a B,v=.ref a∧cx K F a B∧aY r F l B|.aV l,v=>∃a e,v=.ref a∧F a=aa (.dK e)∧l.length≤lim∧cE r F l e|.du l,v=>∃a,v=.ref a∧T.du a l|.bZ l,v=>∃a e,v=.ref a∧F a=aa (.dT e)∧l.length≤lim∧cw r F l e|.iY l,v=>∃a x e,v=.ref a∧F a=aa (.cb x (.dT e))∧l.length≤lim∧cw r F l e|.obj c l,v=>∃a p fs,v=.ref a∧F a=aa (.aW (T.eB c) p fs)∧dA r F l fs|.ref n,v=>∃a,v=.ref a∧r[n]?=aa a|.fn k,v=>v=.ref (T.cU k)
def aY(r:List ai)(F:Hp):List D→List V→Prop|[],B=>B=[]|d::G,B=>∃v ws,B=v::ws∧aG r F d v∧aY r F G ws
def cE(r:List ai)(F:Hp):List (D×D)→List (dG×V)→Prop|[],B=>B=[]|(k,d)::G,B=>∃j v ws,B=(j,v)::ws∧gX k=aa j∧aG r F d v∧cE r F G ws
def cw(r:List ai)(F:Hp):List (D×D)→List (List dG×V)→Prop|[],B=>B=[]|(k,d)::G,B=>∃j v ws,B=(j,v)::ws∧mZ k=aa j∧aG r F d v∧cw r F G ws
def dA(r:List ai)(F:Hp):List (Nat×D)→List (au×V)→Prop|[],B=>B=[]|(k,d)::G,B=>∃v ws,B=(T.eW k,v)::ws∧aG r F d v∧dA r F G ws
end
end
section
variable{T:Tb}{K:aQ}{r r':List ai}{F F':Hp}
def u6(h:Le F F')(x:Rd F a o):Rd F' a o:=x.elim (λe=>[H,h _ _ e]) λ#[b,e]=>[aC,[f]]
def Az(h:Le F F')(x:cx K F a B):cx K F' a B:=x.elim (λe=>[H,u6 h e]) .inr
mutual
theorem aG.mono(L:lx r r')(h:Le F F'):∀(d:D)(v:V),aG T K r F d v→aG T K r' F' d v|.a0,v,x=>by exact x|.bl b,v,x=>by exact x|.int i,v,x=>by exact x|.str s,v,x=>by exact x|.fn s,v,x=>by exact x|.tup l,v,x=>by obtain⟨a,B,e,q,n,z⟩:=x;exact⟨a,B,e,h _ _ q,n,aY.mono L h l B z⟩|.lst l,v,x=>by obtain⟨a,B,e,q,n,z⟩:=x;exact⟨a,B,e,h _ _ q,n,aY.mono L h l _ z⟩|.dU l,v,x=>by obtain⟨a,B,e,q,n,z⟩:=x;exact⟨a,B,e,u6 h q,n,aY.mono L h l B z⟩|.b4 l,v,x=>by obtain⟨a,B,e,q,z⟩:=x;exact⟨a,B,e,Az h q,aY.mono L h l _ z⟩|.aV l,v,x=>by obtain⟨a,G,e,q,n,z⟩:=x;exact⟨a,G,e,h _ _ q,n,cE.mono L h l _ z⟩|.du l,v,x=>by exact x|.bZ l,v,x=>by obtain⟨a,G,e,q,n,z⟩:=x;exact⟨a,G,e,h _ _ q,n,cw.mono L h l _ z⟩|.iY l,v,x=>by obtain⟨a,I,G,e,q,n,z⟩:=x;exact⟨a,I,G,e,h _ _ q,n,cw.mono L h l G z⟩|.obj c l,v,x=>by obtain⟨a,p,fs,e,q,z⟩:=x;exact⟨a,p,fs,e,h _ _ q,dA.mono L h l _ z⟩|.ref n,v,x=>by unfold aG at x⊢;grind
theorem aY.mono(L:lx r r')(h:Le F F'):∀(l:List D)(B:List V),aY T K r F l B→aY T K r' F' l B|[],B,x=>by exact x|d::C,B,x=>by obtain⟨v,ws,e,a,b⟩:=x;exact⟨v,ws,e,aG.mono L h d v a,aY.mono L h _ _ b⟩
theorem cE.mono(L:lx r r')(h:Le F F'):∀(l:List _)(B:List _),cE T K r F l B→cE T K r' F' l B|[],B,x=>by exact x|(k,d)::C,B,x=>by obtain⟨j,v,ws,e,u,a,b⟩:=x;exact⟨j,v,ws,e,u,aG.mono L h d v a,cE.mono L h _ _ b⟩
theorem cw.mono(L:lx r r')(h:Le F F'):∀(l:List (D×D))(B:List _),cw T K r F l B→cw T K r' F' l B|[],B,x=>by exact x|(k,d)::C,B,x=>by obtain⟨j,v,ws,e,u,a,b⟩:=x;exact⟨j,v,ws,e,u,aG.mono L h d v a,cw.mono L h _ _ b⟩
theorem dA.mono(L:lx r r')(h:Le F F'):∀(l:List _)(B:List _),dA T K r F l B→dA T K r' F' l B|[],B,x=>by exact x|(k,d)::C,B,x=>by obtain⟨v,ws,e,a,b⟩:=x;exact⟨v,ws,e,aG.mono L h d v a,dA.mono L h _ _ b⟩
end
end
section
variable(T:Tb)(K:aQ)
def la(r:[bc])(F H:Hp)(a:ai):aP->[P]|[oS]=>∃p fs,[LA]|[aW]=>∃B,[CX]|[b6]=>∃e,[CA]
def oT:([bg,HO])->[P]|aa (.fL _)=>False|aa (.ext _)=>False|_=>True
def ij(F H:Hp):[P]:=F T.tab=ag/\(H T.tab=aa (.fL [cd])\/∃c,H T.tab=[BC]/\H c=aa [pS])
structure a_ (r : List ai) (F H : Hp) (S : aj) : Prop where
 len : r.length = S.length
 nd : r.Nodup
 sub : Le F H
 off : ∀ a ∈ r, F a = ag
 rep : ∀ (n : Nat) (c : aP) (a : ai), S[n]? = aa c → r[n]? = aa a → la T K r F H a c
 tab : ij T F H
structure bD (r : List ai) (F H : Hp) (r' : List ai) (F' H' : Hp) : Prop where
 keep : ∀ a o, H a = aa o → a ∉ r → H' a = aa o ∨ ∃ ps ps', o = .fL ps ∧ H' a = aa (.fL ps')
 fr : Le F F'
 nf : ∀ a o, F' a = aa o → F a = aa o ∨ H a = ag ∨ ∃ vs, o = .tup vs ∧ H a = aa o ∧ a ∉ r
 pre : lx r r'
 nr : ∀ a ∈ r', a ∈ r ∨ H a = ag
 fR : ∀ a, H' a = ag → H a = ag
def fZ(r:[bc])(F H:Hp)(a:ai):D->[P]|[aW]=>∃B,[CX]|[b6]=>∃e,[CA]|[hv]=>∃e,[et,.dT e]/\[hk]/\[lr,e]|_=>False
def Bh(r:[bc])(H:Hp)(a:ai)(B:[al]):[P]:=∃p i j k,a∉r/\p∉r/\B=[ei,[aQ],j,k]/\[et,Ce a [pt] (aa p)]/\H p=aa [Ir]
def tQ(r:[bc])(F H:Hp)(o:ai)(x:[bg,V]):Ir.Slot->[P]|[W]=>True|[g5]=>[z0,x]|[ie]=>x=[er,o]/\F o=ag/\o∉r/\[lj,o]|.exc B=>∃a,x=aa [aL]/\Bh T r H a B
structure cJ (r : List ai) (F H : Hp) (σ : L2.St) (e : Ir.Env) (O : Nat → ai) : Prop where
 len : σ.length = e.length
 at_ : ∀ (i : Nat) (s : Ir.Slot) (x : Option V), e[i]? = aa s → σ[i]? = aa x → tQ T K r F H (O i) x s
 inj : ∀ (i j : Nat) (d d' : D), e[i]? = aa (.own d) → e[j]? = aa (.own d') → O i = O j → i = j
def xK(r:[bc])(H:Hp)(B:[al])(W:[kK]):[P]:=(B=[]/\W=ag)\/∃a i j k,B=[ei,[aQ],j,k]/\W=aa a/\a∉r/\[et,[Ir]]
def al{U:[aH]}(r:[bc])(F H:Hp)(G:Ir.R U)(ok:U->([bc])->Hp->[dM])(E:XK):[P]:=match G with|[be,a,l]=>∀j x e,bD r F H j x e->a_ T K j x e l->ok a j x e|[iX,l]=>∀j x e W,bD r F H j x e->a_ T K j x e l->xK j e B W->E [m,T.dr c] W e|[aX]=>False
end
section
variable{T:Tb}{K:aQ}{r r1 r2:List ai}{F F1 F2 H H1 H2:Hp}{S:aj}
def Le.refl(H:Hp):Le H H:=[c0]
def Le.trans(a:Le F F1)(b:Le F1 F2):Le F F2:=λx o e=>b x o (a x o e)
def ij.step(t:[rs])(h:∀a,¬oT (H a)->H1 a=H a)(q:F1 T.tab=ag):ij T F1 H1:=by obtain⟨_,t⟩:=t;refine#[q,?_];rcases t with t|⟨c,t,C⟩;rw[aq,[H,[bY,h _ [q,t,id],t]],[aC,#[c,[bY,h _ [q,t,id],t],[bY,h _ [q,C,id],C]]]]
def ij.upd(t:[rs])(q:oT (H p)):ij T F [eY,o]:=t.step (λa n=>[dw]) [f6]
def ij.ne(t:[rs])(q:oT (H p)):T.tab≠p:=λz=>by subst z;rcases t.2 with t|⟨c,t,C⟩<;>(rw[ae,t,q,q])
def ij.lay(t:[rs])(n:[gZ]):ij T (L2.upd F p o) (L2.upd H p o):=(t.upd ([jq,n])).step [zA] [hl,t.ne ([jq,n]),[f6]]
def ij.fr(t:[rs])(h:F1 T.tab=ag):ij T F1 H:=t.step (by simp) h
def Bb(h:[nz]):oT (H a):=[jq,h]
def NQ(h:[et,[ax,B]]):oT (H a):=[jq,h]
def bD.kp(x:[n8])(e:[jS])(n:a∉r)(t:∀ps,o≠.fL ps):H1 a=[a']:=(x.keep a o e n).elim id [f]
def bD.refl:bD r F H r F H:=#[λ_ _ e _=>[H,e],[c0],[y8],[c0],[mw],λ_ e=>e]
def bD.OL(x:[n8])(h:a∈r):a∈r1:=[bx,i,q,e,qD.mp h,cG (x.pre i a [f])]
def bD.trans(x:[n8])(y:bD r1 F1 H1 r2 F2 H2):bD r F H r2 F2 H2 where
 keep:=λa o e n=>by have W:=[sZ,x.nr a z,n,[f]];rcases x.keep a o e n with q|⟨ps,l,rfl,q⟩;{exact y.keep a o q W};{rcases y.keep a _ q W with w|⟨_,_,_,w⟩<;>exact [aC,[f]]}
 fr:=x.fr.trans y.fr
 nf:=λa o e=>by rcases y.nf a o e with q|q|⟨B,rfl,q,n⟩;rw[aq,x.nf a o q,[e6,x.fR a q]];{have j:=λz=>n (x.OL z);cases h:H a with|none=>grind|some I=>rcases x.keep a _ h j with this|⟨_,_,_,this⟩;(all_goals rw[q]at this);(all_goals cases this);grind}
 pre:=[KD]
 nr:=λa e=>(y.nr a e).elim (λq=>x.nr a q) λq=>[eJ,x.fR a q]
 fR:=λa e=>x.fR a (y.fR a e)
def al.mono{E}(h:al T K r F H G ok E)(q:∀a j C e,ok a j C e->b a j C e):al T K r F H G b E:=by cases G with|ok a l=>exactλj C e x c=>q _ _ _ _ (h _ _ _ x c)|ex c B l=>exact h|bad=>exact h
def al.from(x:[n8])(h:al T K r F H G ok E):al T K r1 F1 H1 G ok E:=by cases G with|ok a e=>exactλj C q y c=>h _ _ _ (x.trans y) c|ex c B e=>exactλj C q d y c=>h _ _ _ d (x.trans y) c|bad=>exact h
def al.bind{f:U->Ir.M J}(h:[hT,G]):[jV,K,G S,λa j C z=>∃l,a_ T K j C z l/\bD r F H j C z/\al T K j C z (f a l) ok E]:=by rw[cd,e,(G>>=f) S=Ir.M.bind G f S,rfl,h];cases q:G S with|ok a l=>rw[ae,q,h,λj C z x c=>#[l,c,x,h.from x]]|ex c B l=>rw[ae,q,h,h]|bad=>rw[ae,q,h,h]
def al.pure{a:U}(c:[bB])(h:[pR,[s7,a]]):ok a r F H:=h r F H .refl c
def al.bad(h:[pR,Ir.bad S]):False:=h
def al.bC(c:[bB])(h:[pR,Ir.bC o S]):∃a,o=aa a/\ok a r F H:=by cases o with|none=>rw[av,h]|some a=>exact#[a,Y,h r F H .refl c]
def al.ite{p}[Decidable p]{G:Ir.M U}{ok}{E}(h:[pR,([A,p,G,Ir.bad]) S]):p/\[pR,G S]:=by rw[bo,q,p];{rw[ae,aw q,h,(al.bad h).elim]}
def la.step(p:lx r r1)(f:Le F F1)(e:H1 a=H a)(h:la T K r F H a c):la T K r1 F1 H1 a c:=by cases c with|aW k l=>rw[dH,x,fs,q,z,h,#[x,fs,e.trans q,dA.mono p f _ _ z]]|lst l=>rw[cY,[m',p,f,z]]|aV l=>rw[cY,cE.mono p f _ _ z]
def a_.has(c:[bB])(h:a∈r):∃o,[jS]:=by rw[K,n,m,e,qD.mp h];rw[R,L,c.len▸m,q,[kG,a,cQ L,[f]]];cases O:S[n]with|aW k l=>rw[O]at q;obtain⟨_,_,q,_⟩:=q;grind|lst l=>rw[dd];grind|aV l=>rw[dd];rw[bb]
def fZ.step(p:lx r r1)(f:Le F F1)(e:H1 a=H a)(h:[lj,a]):fZ T K r1 F1 H1 a d:=by cases d with|lst l=>rw[cY,[m',p,f,z]]|aV l=>rw[cY,cE.mono p f _ _ z]|bZ l=>rw[cY,cw.mono p f _ _ z]|_=>exact h
def fZ.some(h:[lj,a]):∃o,[jS]:=by cases d with|lst l=>rw[a4,B,q,h];grind|aV l=>rw[a4,B,q,h];grind|bZ l=>rw[a4,B,q,h];exact#[_,q]|_=>exact et h
def fZ.W5(h:[lj,a])(e:[et,C])(z:C=[bw,B]):False:=by subst z;rw[dx,d,h,e]
def fZ.XY(h:[lj,a])(e:[et,C])(z:C=.fL y):False:=by subst z;rw[dx,d,h,e]
def fZ.ord(h:[lj,a]):oT (H a):=by cases d with|lst l=>rw[c2]|aV l=>rw[c2]|bZ l=>rw[c2]|_=>exact et h
def la.ord(h:la T K r F H a c):oT (H a):=by cases c with|aW k l=>rw[ag,p,fs,q,z,h];rw[jq,q]|lst l=>rw[c2]|aV l=>rw[c2]
def a_.ord(c:[bB])(h:a∈r):oT (H a):=by rw[K,n,q,e,qD.mp h];rw[bd,L,c.len▸q,(c.rep n S[n] a (by simp) [f]).ord]
def a_.KN(c:[bB]):T.tab∉r:=λz=>c.tab.ne (c.ord z) Y
def ij.LU(t:[rs])(le:Le H H1)(h:F1 T.tab=ag):ij T F1 H1:=t.step (λa n=>by cases q:H a with|none=>rw[ae,q,n,[c_,zm,n]]|some o=>grind) h
def Bh.step(x:[n8])(h:Bh T r H a B):Bh T r1 H1 a B:=by obtain⟨p,i,j,k,W,G,e,m,u⟩:=h;exact#[p,i,j,k,[sZ,x.nr a z,W,[f]],[sZ,x.nr _ z,G,[f]],e,x.kp m W [r0],x.kp u G (by simp)]
def tQ.step(x:[n8])(h:tQ T K r F H o v s):tQ T K r1 F1 H1 o v s:=by cases s with|un=>exact True.intro|val d=>rw[bx,w,e,z,h,#[w,e,[eM,x.pre,x.fr,z]]]|own d=>(rw[ag,e,W,G,z,h];rw[bA,ob,m,z.some,#[e,?_,λq=>(x.nr o q).elim G [f],z.step x.pre x.fr [bY,x.kp m G λps e=>z.XY m e,m.symm]]];cases q:F1 o with|none=>rfl|some C=>rcases x.nf o C q with w|w|⟨B,u,w,_⟩;rw[ar];rw[ar];{rw[bF,z.W5 w u]})|exc B=>rw[bx,a,e,z,h,#[a,e,z.step x]]
def cJ.step(x:[n8])(h:[nG,e]):cJ T K r1 F1 H1 σ e O:=#[h.len,λi s v a b=>(h.at_ i s v a b).step x,h.inj]
def bD.lay(c:[bB])(n:[gZ]):bD r F H r (upd F p o) [eY,o]:=by rw[ad,j,F p=ag,[JF],#[λa C e _=>.inl ?_,[zP],[zP],[c0],[mw],[ox]]];{rw[V,[dw],e]};{rw[V,[dw],e]};{rw[aE,a=p];rw[ar];{rw[aX q]at e;grind}};{rw[cT,a,p,e]}
def a_.lay(c:[bB])(n:[gZ]):[pp,upd F p o,[eY,o]]:=by rw[ad,nr,p∉r,λz=>[iT,C,q,c.has z],[IU,[An],G,(bD.lay c n).fr,c.tab.lay n]];{rw[dM,a=p];{rw[aX q]at e|-;exact [fk,e]}};{rw[V,[dw],c.off a h]}
def bD.own(n:[gZ]):bD r F H r F [eY,o]:=by refine#[λa C e _=>.inl ?_,λa C e=>e,λa C e=>[H,e],[c0],[mw],[ox]];{rw[V,[dw],e]};{rw[cT,a,p,e]}
def a_.own(c:[bB])(n:p∉r)(G:F p=ag)(h:oT (H p):=by first|exact Bb ([h5])|exact NQ ([h5])):[pp,F,[eY,o]]:=by refine [IU,c.off,q,[gK],c.tab.upd h];rw[V,[dw],[fk,e]]
end
open Ir(Ex)
section
variable(T:Tb)(K:aQ)
def jt(r:[bc])(F H:Hp):D->V->[P]|[aW],v=>∃a B,v=[aL]/\[CX]|[b6],v=>∃a e,v=[aL]/\[CA]|[hv],v=>∃a e,v=[aL]/\[et,.dT e]/\[hk]/\[lr,e]|[oI],v=>∃a p fs,v=[aL]/\[LA]|d,v=>[cN]
def Reads(r:[bc])(F H:Hp)(d:D)(v:V):[P]:=[cN]\/∃o,v=[m,o]/\F o=ag/\o∉r/\[lj,o]
def cT(Z:Ir.bM)(E:XK)(e:Ex):TE:=[A6,[hd,K,[qk,e],j,x,q]]
def kx(Z:Ir.bM)(E:XK)(e:Ex):TT:=[EY,[qk,e],∃b,d=[jR]/\Q b q]
def vm(Z:Ir.bM)(E:XK)(e:Ex):TE:=[EY,Ir.rd e env [bt,e] S,∀v,Reads T K j x q d v->Q v q]
end
structure SE (T : Tb) (Z : Ir.bM) (E : XK) (X : Cx) (e : bQ) (e' : Ex) : Prop where
 pe : PE X e (cT T X.K Z E e')
 pt : PT X e (kx T X.K Z E e')
 pr : PE X e (vm T X.K Z E e')
def b9(h:[gC,t])(q:[Cb]):[gC,t']:=[uZ,z,[z8,[u4]]]
def px(h:PT X e t)(q:[Cb]):PT X e t':=[uZ,z,[z8,[u4]]]
section
variable{T:Tb}{K:aQ}{r r1:List ai}{F F1 H H1:Hp}{S:aj}
def Reads.step(x:[n8])(h:[yE]):Reads T K r1 F1 H1 d v:=by rcases h with h|⟨o,e,a,b,c⟩;{exact [H,[eM,x.pre,x.fr,h]]};{rw[bd,q,tQ.step (s:=[ie]) x #[Y,a,b,c],[aC,#[o,e,[ak,q],[cQ,q],[eQ,q]]]]}
def An(c:[bB])(h:[yE])(e:Ir.bH d S=[be,f,j]):jt T K r F H f v/\j=S:=by cases d with|ref n=>rcases h with h|⟨o,_,_,_,q⟩;{rw[K,a,rfl,J,h];rw[al,Ir.bH,e];simp only at e;cases L:S[n]? with|none=>grind|some x=>rw[L]at e;have q:=[kG,a,L,J];cases x with|aW k l=>rw[cJ];rw[ag,p,fs,q,z,q];rw[aW,#[a,p,fs,Y,q,z]]|lst l=>rw[fD]|aV l=>rw[fD]};{rw[av,q]}|lst l=>rw[cJ];rcases h with h|⟨o,e,_,_,B,q,n,z⟩;{rw[am,a,B,e,q,n,z,h];rw[aW,#[a,B,e,[fk,q],n,z]]};{rw[aW,#[o,B,e,q,n,z]]}|aV l=>rw[cJ];rcases h with h|⟨o,e,_,_,G,q,z⟩;{rw[ab,a,G,e,q,z,h];rw[aW,#[a,G,e,[fk,q],z]]};{rw[aW,#[o,G,e,q,z]]}|bZ l=>rw[cJ];rcases h with h|⟨o,e,_,_,G,q,z⟩;{rw[al,aG,h];rw[ab,a,G,e,q,z,h];rw[aW,#[a,G,e,[fk,q],z]]};{rw[aW,#[o,G,e,q,z]]}|obj k l=>rw[cJ];rcases h with h|⟨o,_,_,_,q⟩;{rw[al,aG,h];rw[am,a,p,fs,e,q,z,h];rw[aW,#[a,p,fs,e,[fk,q],z]]};{rw[av,q]}|iY l=>rw[b3]|a0=>rw[b3]|bl b=>rw[b3]|int i=>rw[b3]|str s=>rw[b3]|tup l=>rw[b3]|fn k=>rw[b3]|dU l=>rw[b3]|b4 l=>rw[b3]|du l=>rw[b3]
def al.kn{f:D->Ir.M J}(c:[bB])(h:[yE])(a:[hT,Ir.bH d]):∃x,jt T K r F H x v/\[hs,x]:=by rw[cd,e,[pW,Ir.bH d,f],rfl,a];cases q:Ir.bH d S with|ok x l=>rw[iT,z,rfl,An c h q]|ex c B l=>rw[aC,Ir.bH,q];{split at q<;>cases q};grind|bad=>rw[bn,q,a]
def al.f_{f:Int->Ir.M J}(a:[hT,[eh,d]]):∃i,d=[aQ]/\[hs,i]:=by cases d with|int i=>exact#[i,Y,a]|_=>rw[av,a]
def al.kG{f:Bool->Ir.M J}(a:[hT,Ir.eP d]):∃i,d=[bj,i]/\[hs,i]:=by cases d with|bl i=>exact#[i,Y,a]|_=>rw[av,a]
def al.iQ{f:U->Ir.M J}(a:[hT,Ir.bC o]):∃x,o=aa x/\[hs,x]:=by cases o with|some x=>exact#[x,Y,a]|none=>rw[av,a]
def aG.cg(h:[h7,[aQ],v]):v=[aQ]:=by exact h
def aG.xh(h:[h7,[bj,i],v]):v=[bj,i]:=by exact h
def aG.gb(h:[h7,[K,i],v]):v=[K,sv i]:=by exact h
def aG.int(i:Int):[h7,[aQ],[aQ]]:=by rfl
def aG.bl(i:Bool):[h7,[bj,i],[bj,i]]:=by rfl
def aG.str(i:[h]):[h7,[K,i],[K,sv i]]:=by rfl
def aG.a0:[h7,[aY],[aY]]:=by rfl
end
section
variable{T:Tb}{Z:Ir.bM}{E:XK}{X:Cx}
def mO(h:[gC,[fl,J]])(n:∀i,J≠[g3]):[cn,e,vm T X.K Z E J]:=[pE,h,a,[iu,O,by(have q:Ir.rd J env [bt,J] S=[qk,J]:=by unfold Ir.rd;simp);rw[ae,q,a,a.mono λd j x W z v m=>z v [H,m]]]]
def afn{ta G:TE}{R:V->V->[dM]}{f:D->D->Ir.M D}{Q:VK}(l:[vj,a,ta σ H Q])(J:[vj,b,G σ H Q])(h:∃env O S r F,[gR]/\[x8]/\[hd,X.K,(do let x←[bt,a];let y←[bt,b];f x y) S,z,e,q])(j:∀x y r F H S v C,([gR])->([qH,x])->aG T X.K r F y C->([hd,X.K,f x y S,z,e,q])->R v C H):[w0,G σ H1 λy L=>R x y L]:=by rw[cn];rw[ai,l _ _ _ [gD,r1,F1,H1,p,U,I,B],J _ _ _ [ip,p,r1,F1,U,I,[st,s,n,L,i,N,W,hu]]];exact j x y _ _ _ _ v C N [eM,W.pre,W.fr,B] hu u
def qX(h:kx T X.K Z E J σ H Q):[nU,J,λx z=>∃k,x=[bj,k]/\Q k z]:=by rw[bU,env,O,S,r,F,c,P,a];exact [iu,O,a.mono λd j C z#[b,e,q]v m=>#[b,[ae,e,m,m.xh],q]]
def SE.of(h:[gC,[fl,e']])(q:[wS])(n:∀i,e'≠[g3]):[oO]:=#[h,px (MB h q) λσ H Q z=>qX z,mO h n]
def BS(h:[cn,e,tC v])(q:∀r F,[qH,d])(j:[wS]):[aq,e,.c d]:=.of [pE,h,a,[AA,q _ _]] j [f]
def MR:[aq,.Constant [aQ] j pos,[fd,i]]:=[Ao,Pm,[aQ]]
def acj:[aq,.Constant [db] j pos,[aS,s.cps.toList]]:=[Ao,ae0,by rfl]
def aad:[aq,.Constant (.bool b) j pos,.c [jR]]:=[Ao,WG,[jR]]
def afJ:[aq,.Constant [a0] j pos,[tJ]]:=[Ao,wT,[aY]]
def WA(m:[dJ])(U:X.mg x=aa C)(I:bB v C)(q:∀r F,[qH,d])(h:Z.fw k=aa d)(hd:[cq]):[aq,[ou],.g k]:=[jj,aek m U I hd,a,by have e:[bt,.g k]=Ir.bC _:=rfl;rw[e,h]at a;exact [AA,q _ _]]
def Al(hN:[cl])(h:[fQ])(hd:[cq])(B:[f']):[aq,[ou],[g3]]:=by rw[ad,pe,PE X [ou] [fl,[g3]],[pE,ls hN h hd B,a,by cases q:[kA]with|none=>rw[ct,[lc],Ir.ah]|some s=>cases s with|val d=>rw[c6,[lc]=[b1,d],Ir.ah];have j:i<[ho]:=[q,P.len,[dB,q]];rw[bx,v,u,h,[zc,j],#[v,by rw[cQ j,u],[AA,h]]]|un=>rw[ct,[lc],Ir.ah]|own d=>rw[ct,[lc],Ir.ah]|exc d=>rw[ct,[lc],Ir.ah]],#[pe,px (MB pe [bL]) λσ H Q z=>qX z,b9 (ls hN h hd B) [Cu,O,a]]];cases q:[kA]with|none=>rw[ct,[us],Ir.rd]|some s=>rw[ay,j,i<[ho],[ba,P.len],z,[zc,j]];cases s with|val d=>rw[c6,[us]=[b1,d],Ir.rd];rw[bx,v,u,h,z,#[v,[f],[AA,[H,h]]]]|own d=>rw[c6,[us]=[b1,d],Ir.rd];rw[dH,u,W,G,h,z,#[[m,O i],[bb],[dO,c,a,[aC,#[O i,Y,W,G,h]]]]]|un=>rw[ct,[us],Ir.rd]|exc d=>rw[ct,[us],Ir.rd]
def sK{f:Int->Int->Ir.M D}(e:∀env,Ir.ah Z N env=(do let x←Ir.bo (←Ir.ah Z a env);let y←Ir.bo (←Ir.ah Z l env);f x y))(g:∀i j r F H S Q,a_ T X.K r F H S->al T X.K r F H (f i j S) (λd p J W=>∀v,aG T X.K p J d v->Q v W) E->G (.int i) (.int j) H Q)(h:cT T X.K Z E N σ H Q):kv G (cT T X.K Z E a) (cT T X.K Z E l) σ H Q:=by obtain⟨env,O,S,r,F,c,P,h⟩:=h;rw[e]at h;refine#[env,O,S,r,F,c,P,h.bind.mono λx s q k#[B,U,z,m]v I=>?_];obtain⟨i,rfl,L⟩:=m.f_;refine#[env,O,B,s,q,U,P.step z,L.bind.mono λy A o b#[t,w,n,u]C hu=>?_];obtain⟨j,rfl,g2⟩:=u.f_;rw[I.cg,hu.cg];grind
def vi(e:[dD,j,G])(h:[eb,p])(J:[jC])(q:[wo])(n:∀i,d≠[g3])(st:[vj,d,kv G [fl,p] [fl,l] σ H Q]):[aq,[jf,j],d]:=[br,pe,[Lx],b9 (yf e h.pe J.pe q) st,#[pe,px (yB e h.pe J.pe q) [LT],mO pe n]]
def RY(x:[hB])(J:[kv]):[uX,.Sub,.sub l e]:=[kW,xa ag5 x.pe J.pe,z,[CC,#[i,j,Y,Y,[vg,h]]]]
def aas(x:[hB])(J:[kv]):[uX,.Mult,.mul l e]:=[A3,aeF,[H,h.ite.1]]
def Y6:[lK,.FloorDiv,rI (λ_ j=>0<j/\j<2^64) [q0,i/j]]:=DW λi j _ _ _ _ _ O q=>by refine floordiv_int [g] [f] [H,PyProof.noPylong_of_log2 ?_];rw[D,u,j.natAbs≠0,[g],m,j.natAbs<2^64,[g]];exact y4 ((ajO u).mpr m) ([af])
def adm(x:[hB])(J:[kv]):[uX,.FloorDiv,.mT l e]:=[A3,Y6,h.ite.1]
def Wk(x:[hB])(J:[kv]):[uX,.Mod,.mod l e]:=[A3,aa2,h.ite.1]
def adH(J:[hB]):[aq,.UnaryOp .USub a pos,.neg l]:=[jj,afu aen J.pe,h,by rw[ad,e,[ca,.neg l]=(do let x←[eh,←Ir.ah Z _ env];[b1,[l,-x]]),rfl,[gD,d,z,j,p,B,L,q]];rw[K,i,rfl,u,m.f_];rw[V,q.cg,#[i,Y,[dO,B,u,Y]]]]
def afI(x:[hB])(J:[kv]):[aq,[jf,.LtE],.le l e]:=[A2,yg]
def abw(x:[hB])(J:[kv]):[aq,[jf,.Gt],.gt l e]:=[A2,Z3]
def acY(x:[hB])(J:[kv]):[aq,[jf,.GtE],.ge l e]:=[A2,agZ]
def zN{f:D->D->Ir.M D}(q:∀env,Ir.ah Z J env=(do let x←Ir.ah Z l env;let y←Ir.ah Z e env;f x y))(L:∀x y r F H S v C Q,a_ T X.K r F H S->aG T X.K r F x v->aG T X.K r F y C->al T X.K r F H (f x y S) (λd j a z=>∀v,aG T X.K j a d v->Q v z) E->G v C H Q)(h:cT T X.K Z E J σ H Q):kv G (cT T X.K Z E l) (cT T X.K Z E e) σ H Q:=by obtain⟨env,O,S,r,F,c,P,h⟩:=h;rw[q]at h;exact afn (by simp) (by simp) #[env,O,S,r,F,c,P,h] (by grind)
def Pj:ao (V.str (sv a)=V.str (sv b))=(a==b):=[f]
section
variable{K:aQ}{r:List ai}{F H:Hp}{S:aj}
def K0{f:Bool->Ir.M J}(h:[hT,Ir.mQ x y]):(∃a b,x=[kR]/\y=[l,b]/\[hs,a==b])\/(∃a b,[rf]/\y=[K,b]/\[hs,a==b])\/∃a b,x=[ax,a]/\y=[ax,b]/\Ir.kz a=ae/\Ir.kz b=ae/\[hs,Ir.lm a b]:=by rw[aC,Ir.mQ,h];rw[aq,[H,#[_,_,Y,Y,h]],[e6,#[_,_,Y,Y,h]]];{rename_i a b;rw[b,q,Ir.kz a=ae/\Ir.kz b=ae];{rw[ae,aJ q,h,[lJ,#[_,_,Y,Y,[cV],q.2,h]]]};{rw[bn,aw q,h]}};{rw[av,h]}
def zG(h:Ir.kz l=ae)(q:[cg]):∃G,rq K H B G/\zo (.list G)=ae/\[B2,l,G]:=by rw[aC,Ir.kz,h];{rw[bh,q,#[[],[aM],Y,[H,by simp]]]};{rw[ax,s];rw[ab,v,ws,rfl,m,q,q];subst q;rw[cm,m.gb,#[[[dE]],[hH,[dE]],?_,[eJ,by simp]]];(have e:Jz [K,[g7]]=ae:=by unfold Jz PyData.strOk;rw[fn,Ir.plain]);unfold zo;simp[Jz,Dk,JA,wy]at e|-;exact e};grind
def O_(h:[B2,a,B])(J:[B2,b,l]):uP (.list B) (.list l)=Ir.lm a b:=by rcases h with⟨rfl,rfl⟩|⟨s,rfl,rfl⟩<;>rcases J with⟨rfl,rfl⟩|⟨j,rfl,rfl⟩;{rfl};{rfl};{rfl};{rw[h_,(([g7]==sv _)&&ae)=((s==j)&&ae)]}
end
def Z1(hu:X.A.units+64<dM)(l:SE T Z E X a G)(J:SE T Z E X b e):SE T Z E X (.Compare a [.Eq] [b] pos) (.eq G e):=vi (cI.or XJ (agz hu)) l J (rj _) (by grind) λσ H Q z=>zN (λ_=>rfl) (λx y r F H S v C Q c q W h=>by rcases K0 h with⟨i,j,rfl,rfl,g⟩|⟨i,j,rfl,rfl,g⟩|⟨i,j,rfl,rfl,f1,f2,g⟩;{rw[q.cg,W.cg];exact .inl #[Y,by rw[zS];exact al.pure c g _ (.bl _)]};{rw[q.gb,W.gb];exact .inl #[Y,by rw[Pj];exact al.pure c g _ (.bl _)]};{obtain⟨p,B,rfl,m,_,u⟩:=q;obtain⟨n,I,rfl,f,_,U⟩:=W;obtain⟨A,s,L,N⟩:=zG f1 u;obtain⟨P,d,O,w2⟩:=zG f2 U;exact .inr #[_,_,.lst (bp.of (c.sub _ _ m)) s,.lst (bp.of (c.sub _ _ f)) d,L,O,by rw[O_ N w2];exact al.pure c g _ Y]}) z
def aaU(hu:X.A.units+64<dM)(l:SE T Z E X a G)(J:SE T Z E X b e):SE T Z E X (.Compare a [.NotEq] [b] pos) (.ne G e):=vi (cI.or aaX (aah hu)) l J (rj _) (by grind) λσ H Q z=>zN (λ_=>rfl) (λx y r F H S v C Q c q W h=>by rcases K0 h with⟨i,j,rfl,rfl,g⟩|⟨i,j,rfl,rfl,g⟩|⟨i,j,rfl,rfl,f1,f2,g⟩;{rw[q.cg,W.cg];exact .inl #[Y,by rw[zS];exact al.pure c g _ (.bl _)]};{rw[q.gb,W.gb];exact .inl #[Y,by rw[Pj];exact al.pure c g _ (.bl _)]};{obtain⟨p,B,rfl,m,_,u⟩:=q;obtain⟨n,I,rfl,f,_,U⟩:=W;obtain⟨A,s,L,N⟩:=zG f1 u;obtain⟨P,d,O,w2⟩:=zG f2 U;exact .inr #[_,_,.lst (bp.of (c.sub _ _ m)) s,.lst (bp.of (c.sub _ _ f)) d,L,O,by rw[O_ N w2];exact al.pure c g _ Y]}) z
def Qq{K}(h:[cN]):(d=[aY]/\v=[aY])\/(d≠[aY]/\v≠[aY]):=by cases d<;>unfold aG at h;rw[ar];rw[ar];rw[ar];rw[ar];rw[ar];rw[ar];rw[ar];rw[ar];rw[ar];rw[ar];{obtain⟨a,_,rfl,_⟩:=h;exact [eJ,by simp]};rw[ar];rw[ar];rw[cp]
def aaI(J:[hB]):[aq,[K1,.Is],.kE l]:=[Fs,.kE l,[bj,ao (x=[aY])],[ca,.kE _],←Ir.ah Z l env,Y,[eO],Nj]
def VU(J:[hB]):[aq,[K1,.IsNot],.pV l]:=[Fs,.pV l,[bj,! ao (x=[aY])],[bt,.pV _],←Ir.ah Z l _,[eO],Y,Rk]
end
def lP:lim=bS:=by rfl
section
variable{T:Tb}{Z:Ir.bM}{E:XK}{X:Cx}
section
variable{K:aQ}{r:List ai}{F H:Hp}{S:aj}
def aY.length:[hW,[cg],[bu]=[E]]|[],B,h=>[fn,aY]|d::G,B,h=>by obtain⟨v,ws,rfl,_,q⟩:=h;rw[b7,b7,aY.length q]
def aY.nil:[fr,[],[]]:=by rfl
def aY.cons(h:[cN])(q:[cg]):[fr,d::l,v::B]:=[b_,aY]
def aY.fY(h:[fr,[],B]):B=[]:=by exact h
def aY.dP(h:[fr,d::l,B]):∃v ws,B=v::ws/\[cN]/\[fr,l,ws]:=by exact h
def aY.append:∀{l G}{B ws},([cg])->([fr,G,ws])->[fr,l++G,B++ws]|[],G,B,ws,h,q=>[q,h.fY,q]|d::x,G,B,ws,h,q=>by rw[cv];exact [bF,a,aY.append b q]
def aY.get:∀{l}{B}{n:Nat}{d},([cg])->([aR,l,n,d])->∃v,[aR,B,n,v]/\[cN]|[],B,n,d,h,q=>by simp at q|x::G,B,0,d,h,q=>by rw[cv];rw[bb]|x::G,B,[aw],d,h,q=>by rw[cv];rw[K,w,e,z,aY.get b ([aD,q])];grind
def aY.drop:∀{l}{B}(n:Nat),([cg])->[fr,[ed,n],B.drop n]|l,B,0,h=>h|[],B,[aw],h=>[bP,h.fY]|x::G,B,[aw],h=>by rw[cv];exact aY.drop n b
def aY.take:∀{l}{B}(n:Nat),([cg])->[fr,l.take n,B.take n]|l,B,0,h=>by rfl|[],B,[aw],h=>[bP,h.fY]|x::G,B,[aw],h=>by rw[cv];exact [bF,a,aY.take n b]
def aY.«ints»:[CR,Ir.eQ l,[ji]]|[],B,ns,h,q=>by rw[bO];rw[a_,h.fY]|[aQ]::G,B,ns,h,q=>by(rw[cv];rw[al,Ir.eQ,q];cases e:Ir.eQ G with|none=>grind|some I=>rw[az,e,q,q];rw[aV,a.cg,aY.«ints» b e])|[aY]::_,_,_,_,q=>[bO]|[eO]::_,_,_,_,q=>[bO]|[dE]::_,_,_,_,q=>[bO]|.tup _::_,_,_,_,q=>[bO]|[b9]::_,_,_,_,q=>[bO]|.aV _::_,_,_,_,q=>[bO]|.obj _ _::_,_,_,_,q=>[bO]|[dQ]::_,_,_,_,q=>[bO]|.fn _::_,_,_,_,q=>[bO]|.dU _::_,_,_,_,q=>[bO]|.b4 _::_,_,_,_,q=>[bO]|.bZ _::_,_,_,_,q=>[bO]|.iY _::_,_,_,_,q=>[bO]|.du _::_,_,_,_,q=>[bO]
def aG.P4(n:F p=ag)(U:[hk])(h:[cg]):aG T K r (upd F p [bw,B]) [eB] [dq]:=by exact [HD]
def aG.PL(n:F p=ag)(U:[hk])(h:[cg]):aG T K r (upd F p [ax,B]) [aW] [dq]:=by exact [HD]
def a_.hV(c:[bB])(n:[gZ]):F p=ag:=[JF]
def al.tup{Q:VK}(c:[bB])(h:[hd,K,[s7,D.tup l],j,x,e])(U:[hk])(q:[cg])(n:[gZ]):Q [dq] [eY,[bw,B]]:=h r _ _ (.lay c n) (c.lay n) _ (.P4 [rp] U q)
def al.lst{Q:VK}(c:[bB])(h:[hd,K,[s7,[ih,l]],j,x,e])(U:[hk])(q:[cg])(n:[gZ]):Q [dq] [eY,[ax,B]]:=h r _ _ (.lay c n) (c.lay n) _ (.PL [rp] U q)
def Zm(a b:[h]):sv a++sv b=sv (a++b):=by show(#[a.toArray++b.toArray]:au)=#[[hg,a++b]];simp
def tR(a:[h]):[Q,sv a]=[bW]:=rfl
end
def Yr:[lK,.Add,[d4,∃a b B,[gA,y=[fZ],cx X.K H a []/\cx X.K H b B/\Q [fZ] H]]]:=by rw[c7];rw[bU,a,b,B,rfl,rfl,l,J,q];cases d;cases N;rw[bL,az,m,i,[e_,l],p,u,z,[e_,J]];obtain rfl:az=[]:=m.zI.mpr Y;obtain⟨⟨cls,j,P,sl⟩,e,O,n,hd⟩:=id i;obtain⟨⟨A,W,data2,U⟩,f,G,g,L⟩:=id z;subst O hd G L;exact TM [wk] #[_,f,Y] TN TQ TR TU (TV _ _) (tuple_addW0 a b _ _ n _ _ _ _ _ Y) #[e,f,#[[fZ],H,I,Y,q]]
def Vc(O:[eb,G])(J:[jC]):[uX,.Add,.add G l]:=[kW,xa (cI.or aeV (cI.or ZT (cI.or WK (cI.or afA Yr)))) O.pe J.pe,z,zN [bL] (λx y r F H S v C Q c m W h=>by rw[aC,Ir.oz,h];{rw[a5,m.cg,W.cg,[Li]]};{rw[m.gb,W.gb];rw[aG,q,h,h.ite,[e6,#[_,_,Y,Y,by exact q,[q,Zm,[dO,c,h,Y]]]]]};{rw[M,q,h,h.ite];unfold aG at m W;obtain⟨p,B,rfl,j,_,u⟩:=m;obtain⟨N,I,rfl,f,_,L⟩:=W;exact [eJ,[e6,#[p,N,B,I,Y,Y,[fk,j],[fk,f],[a5,u.length,L.length,q],λo n=>al.lst c h [f] (u.append L) n]]]};{rw[M,q,h,h.ite];unfold aG at m W;rw[am,p,B,rfl,j,U,u,m];rw[am,N,I,rfl,f,s,L,W];rw[b,e,B=[]];{subst e;refine [eJ,[eJ,[lJ,#[p,N,I,Y,Y,[jB,j],[jB,f],al.pure c h _ ?_]]]];rw[ajP [dI,u.length],wc];rw[b_,aG]};{refine [eJ,[eJ,[e6,#[p,N,B,I,Y,Y,[jB,j],[jB,f],e,by rw[u.length,L.length,<-lP];exact q,λz=>al.pure c h _ ?_,λz o n=>al.tup c h [q,cO,q] (u.append L) n]]]];subst z;rw[ajP [dI,L.length],iu];rw[b_,aG]}};{rw[av,h]}) z]
def Ov:∀(a b:[h]),HT.lexLt a b=Ir.lexLt a b|[],[]=>rfl|[],[d5]=>rfl|[d5],[]=>rfl|x::G,y::B=>[aV,HT.NO,Ov _ _]
def agb(hu:X.A.units<dM)(L:[eb,j])(J:[jC]):[aq,[jf,.Lt],.lt j l]:=[Eb,cI.or UJ (adT hu),L,zN [bL] (λx y r F H S v C Q c e W h=>by rw[aC,Ir.xO,h];{rw[a5,e.cg,W.cg,[Li]]};{rw[aM,ns,m,h,h.iQ,G,d,h,h.iQ];rw[am,p,B,rfl,q,U,u,e];rw[am,N,I,rfl,f,s,O,W];rw[u.«ints» m]at q;rw[ae,O.«ints» d,f,[aC,#[p,N,ns,G,Y,Y,[jB,q],[jB,f],[q,Ov,[dO,c,h,Y]]]]]};{rw[av,h]}) z]
def Wg(J:[hB]):[aq,[C5],.not l]:=by rw[D,e,∀env,[bt,.not _]=(do let x←Ir.eP (←Ir.ah Z l _);[b1,[bj,! x]]),[bL],pe,PE X (.UnaryOp _ a pos) [fl,.not l],[pE,Vx J.pe,h,by refine [gD,d,z,j,p,B,L,I];rw[bx,i,rfl,u,m.kG,#[i,I.xh,[dO,B,u,Y]]]]];rw[ai,#[pe,px (VX J.pt) [wF,O],mO pe [f]],[jU,λx d z j#[p,B,L,m]=>?_]];rw[aM,i,rfl,u,m.kG,b,U,q,al.pure B u];grind
def abV{l}(g:[eb,f])(B:PE X [k1,b,l] [fl,p])(z:[uE,[k1,b,l],p]):[I9,[k1,a,b::l],.and f p]:=by have e:∀env,[ca,.and f p]=(do let x←Ir.eP (←Ir.ah Z _ env);if x=ae then do [b1,[bj,←Ir.eP (←Ir.ah Z _ _)]]else [gg]):=[bL];rw[a8];{rw[fj,Z5 g.pe B];cases i with|true=>rw[eE]|false=>exact [dO,J,L,Y]};{rw[eW,Yj g.pt z _ _ s _ H Q I ?_];cases i with|true=>rw[aJ Y]at L|-;rw[eD]|false=>rw[K,b,o,q,al.pure J L];grind}
def acb{l}(g:[eb,f])(B:PE X [k4,b,l] [fl,p])(z:[uE,[k4,b,l],p]):[I9,[k4,a,b::l],.or f p]:=by have e:∀env,[ca,.or f p]=(do let x←Ir.eP (←Ir.ah Z _ _);if x=ae then [gg]else do [b1,[bj,←Ir.eP (←Ir.ah Z _ env)]]):=[bL];rw[a8];{rw[fj,V_ g.pe B];cases i with|false=>rw[aw (by simp)]at L|-;rw[eE]|true=>exact [dO,J,L,Y]};{rw[eW,aa1 g.pt z _ _ s _ H Q I ?_];cases i with|false=>rw[eD]|true=>rw[K,b,o,q,al.pure J L];grind}
def Xa(U:[aq,t,t'])(L:[eb,p])(J:[jC]):[aq,.IfExp t a b pos,.ite t' p l]:=by rw[D,e,∀env,[ca,.ite t' _ _]=(do let x←Ir.eP (←Ir.ah Z _ _);if x=ae then [bt,p]else [ca,l]),[bL],pe,PE X (.IfExp t a b pos) [fl,.ite t' p l],[pE,aba U.pt L.pe J.pe,h,by refine [KN];rw[aK,i,rfl,u,m.kG,#[i,Y,?_]];cases i with|true=>rw[aJ Y]at u|-;exact [yA]|false=>exact [yA]]];rw[ai,#[pe,λpins s σ H Q I#[env,O,S,r,F,c,P,h]=>?_,mO pe [f]],isTrue_IfExp (a8 (U.pt _ s _ H (λb C=>[ap,b,kx T X.K Z E p σ C Q,kx T X.K Z E l σ C Q]) I [KN]) λd n#[N,f,G]=>?_)];{rw[aK,i,rfl,u,m.kG,#[i,Y,?_]];cases i with|true=>exact [yA]|false=>rw[aw (by simp)]at u|-;exact [yA]};{cases d with|true=>exact L.pt _ _ _ _ Q f G|false=>exact J.pt _ _ _ _ Q f G}
def Vk(U:Tv [.LtE,.LtE] [b,d]=af)(L:[eb,p])(J:[jC])(hd:[aq,d,G]):[aq,.Compare a [.LtE,.LtE] [b,d] pos,.pC p l G]:=by rw[aj,e,∀env,[ca,.pC p l G]=(do let x←[eh,←Ir.ah Z _ _];let y←[eh,←Ir.ah Z _ _];if x<=y then do let z←[eh,←Ir.ah Z _ env];[b1,[bj,ao (y<=z)]]else [gg]),[bL],st,[vj,.pC p l G,Ey [sy,ao _] (oa _) [zg] [zg] [zg] _ H Q],λσ H Q#[env,O,S,r,F,c,P,h]=>by refine [sB,o,I,A];rw[aK,i,rfl,g1,m.f_,[ip,S1,r1,o,c1,I,g1.bind.mono λy n F2 H2#[t,B,s,u]C hu=>?_]];rw[aK,j,rfl,g2,u.f_,#[i,j,A.cg,hu.cg,_,Y,?_]];rw[b,q,i<=j];{rw[aJ q]at g2;rw[cm,uM q,#[env,O,t,n,F2,B,[fA,I].step s,g2.bind.mono λy r3 F3 H3#[S3,f,a3,g]w W=>?_]];rw[bx,k,rfl,N,g.f_,#[j,k,hu.cg,W.cg,[dO,f,N,Y]]]};{rw[aw q]at g2;rw[V,nV q,[dO,B,g2,Y]]},pe,[Lx],b9 (VQ yg yg L.pe J.pe hd.pe U) st];exact [w4,abB yg yg L.pe J.pe hd.pe U]
def h_(T:Tb)(K:aQ)(Z:Ir.bM)(E:XK)(l:[iV]):TA:=[A6,[jV,K,Ir.cD Z l env S,λG j x e=>[gq]=[E]->∀B,aY T K j x G B->Q B e]]
def Oq(h:PA X l t)(q:[Cb]):PA X l t':=λpos pins s σ H Q I z=>h _ _ s _ H Q I [u4]
def P8:[wP,[],[]]:=Oq jp λσ H Q#[env,O,S,r,F,c,P,h]=>al.pure c h Y _ [aM]
def Fd(L:[il,a])(j:[tz])(d:[ii,a]):[wP,e::a,J::l]:=Oq (iZ j.pe d L) λσ H Q#[env,O,S,r,F,c,P,h]=>by have g:Ir.cD Z (J::l) _=(do let x←[vv];let G←[ti,l];[b1,x::G]):=rfl;rw[ai,[gD,s,C,A,p,N,I,W],[ip,p,s,C,N,I,m.bind.mono λG i o y#[n,f,z,u]U B q=>?_]];exact al.pure f u [f] _ [bF,[eM,z.pre,z.fr,W],q]
def Mx(U:[hk])(h:[ii,a]):[aq,.Tuple a k pos,[eB]]:=[jj,RH h,h,[br,e,[bt,[eB]]=(do [b1,[bw,←Ir.cD Z l _]]),rfl,[Bf,G,d,al.tup I m [f] q n]]]
def abQ(U:[hk])(h:[ii,a]):[aq,.List a pos,[aW]]:=[jj,Qu h,h,[br,e,[ca,[aW]]=(do [b1,[X,←Ir.cD Z l env]]),rfl,[Bf,G,d,al.lst I m [f] q n]]]
def adZ:[aq,[yV],.i5 b]:=by refine .of ?_ [bL] [f];cases b with|false=>rw[br,e,[yy,af],[bL],b9 PV λσ H Q#[env,O,S,r,F,c,P,h]p n=>[d8,[xn],[xM]]]|true=>rw[br,e,[yy,ae],[bL],b9 MZ λσ H Q#[env,O,S,r,F,c,P,h]p n=>by rw[e]at h;refine [xn];rw[h8,aG,[xM]]]
end
structure iW (T : Tb) (P : cP) (w : cz) (K : aQ) : Prop where
 cls : ∀ c, kH K (T.eB c)
 AB : ∀ c f, f < T.nf → oH K (T.eB c) (T.eW f)
 xR : ∀ f g, T.eW f = T.eW g → f = g
 kd : ∀ a l, T.du a l → ∃ kvs, (∀ r F, cE T K r F l kvs) ∧ ∀ h, K.In h → (a == iA) = af ∧ ∃ vs, KV kvs vs ∧ h.DictOf (gB P w) a vs
section
variable{T:Tb}{K:aQ}{r:List ai}{F H:Hp}{S:aj}
def p7(h:d.atom=ae):∃k,gX d=aa k:=by cases d<;>first|exact [gV]|rw[a7]
def qb(h:gX d=aa k)(q:[cN]):v=kV k:=by cases d<;>first|(rw[a7];first|exact q.cg|exact q.gb)|rw[a7]
def zV(L:gX x=aa i)(h:gX y=aa j):x.beq y=ao (i=j):=by(cases x<;>first|cases L|skip);{rw[c8,y];{rw[b_,Ir.D.beq]};rfl};{rw[c8,y];{rfl};{rw[b_,Ir.D.beq]}}
def JZ:∀{l G}{i j},h9 l=aa i->h9 G=aa j->Ir.lm l G=ao (i=j)|[],[],i,j,h,q=>by rw[a7];rw[bO];rfl|[],y::G,i,j,h,q=>by(rw[al,h9,q];cases e:gX y with|none=>grind|some k=>rw[e]at q;cases z:h9 G with|none=>grind|some B=>rw[az,z,q,q];rw[a7];rfl)|[gB],[],i,j,h,q=>by(rw[al,h9,h];cases e:gX x with|none=>grind|some k=>rw[e]at h;cases z:h9 l with|none=>grind|some B=>rw[az,z,h,h];rw[bO];rfl)|[gB],y::G,i,j,h,q=>by unfold h9 at h q;cases e:gX x with|none=>grind|some k=>cases z:h9 l with|none=>grind|some B=>cases L:gX y with|none=>grind|some C=>cases I:h9 G with|none=>grind|some a=>rw[e,z]at h;rw[L,I]at q;rw[a7];rw[bO];unfold Ir.lm;rw[zV e L,JZ z I];simp
def Fh(L:mZ x=aa i)(h:mZ y=aa j):x.beq y=ao (i=j):=by(cases x<;>first|cases L|skip);rw[c8,y];exact JZ L h
def R4:∀{l},([u'])->∃k,h9 l=aa k|[],_=>#[[],Y]|[gB],h=>by rw[e8,aF]at h;rw[M,k,e,p7 [dK]];rw[aG,B,z,R4 [cW],#[k::B,[b_,h9]]]
def GG(h:d.jv=ae):∃k,mZ d=aa k:=by cases d<;>first|exact R4 h|rw[a7]
def Lw:∀{l}{k}{B},h9 l=aa k->([cg])->B=k.map kV|[],k,B,h,q=>by rw[a7];rw[a_,q.fY]|[gB],k,B,h,q=>by rw[ab,v,ws,rfl,a,b,q.dP];rw[al,h9,h];cases e:gX x with|none=>grind|some j=>cases z:h9 l with|none=>grind|some f=>rw[e,z]at h;rw[a7];rw[aV,qb e a,Lw z b]
def F9(h:mZ d=aa k)(q:[cN]):∃a,v=[aL]/\F a=[ok]:=by rw[c8,d];obtain⟨a,B,e,z,_,u⟩:=q;exact#[a,e,by rw[z,Lw h u]]
def cE.get:[GF,[lm,B],gX x]|[],B,x,j,h,e=>[bh,h,[L0]]|[fY,d],B,x,j,h,e=>by rw[al,cE,h];rw[fl,cE.get L e,zV O e];rw[aE,i=j];{rw[ba,yx q]};{rw[ba,wZ q]}
def cw.get:[GF,[lr,B],mZ x]|[],B,x,j,h,e=>[bh,h,[L0]]|[fY,d],B,x,j,h,e=>by rw[al,cw,h];rw[fl,cw.get L e,Fh O e];rw[aE,i=j];{rw[uM q]at b;rw[ba,yx q]};{rw[ba,wZ q]}
def dA.get(inj:∀f g,[kL]=T.eW g->f=g):∀{l}{fs}{f}{d},([sc])->Ir.eV l f=aa d->[z0,[lt,[kL]]]|[],fs,f,d,h,q=>[bO]|[fY,x],fs,f,d,h,q=>by rw[ab,v,ws,rfl,m,L,h];rw[al,Ir.eV,q];rw[bo,e,k=f];{rw[aw e]at q;rw[K,a,z,u,dA.get inj L q];grind}
def aY.at(h:[cg])(q:Ir.at_ l i=aa d):[z0,oF B i]:=by rw[al,Ir.at_,q];rw[dV,L2.oF,h.length];have e:oE [E] i=Ir.place _ i:=rfl;cases z:[vz,i]with|none=>grind|some j=>rw[z]at q;rw[K,v,m,u,h.get [aA,[ce,l,d],q]];grind
end
section
variable{T:Tb}{Z:Ir.bM}{E:XK}{X:Cx}
def aeD(hu:[kM]):ll X [d4,∃a v,[gA,qd H a y [cX],Q v H]]:=by intro d O pins s σ H x y v C Q I m N h e;rw[ab,a,z,rfl,g,q,h];rw[aU,m,Jc (ahe I g) ajQ.lookup (aho hu I g N λB G j L=>#[z,H,j,L,q]) e]
def W2(P:cP)(w:cz)(K:aQ):R2:=[d4,∃a e k v,[gA,y=kV k,(∀h,K.In h->[wN,e,P,w])/\fP e k=[cX]/\Q v H]]
def ZW:ll X (W2 X.prog X.w X.K):=by intro d O pins s σ H x y v C Q I m N h e;obtain⟨a,G,k,z,rfl,rfl,hd,l,q⟩:=h;cases m;rw[ag,u,B,J,j,hd _ I.dW];rw[bx,f,W,L,hE.x_ ([bD,l,[lA]]),Jc j.typeIs ajQ.lookup (ajt (oX N) j.mapOf W #[z,H,[hp],L,q]) e]
def R0(ft:[hb])(hu:[kM])(ha:[eb,s])(J:[aq,b,t])(W:FV b):[aq,.Subscript a b pos,.ix s t]:=[jj,Mh (ll.or YA (ll.or (aeD hu) ZW)) ha.pr J.pe W,h,by have e:[bt,.ix s t]=(do let x←Ir.rd s env [bt,s];let y←[bt,t];Ir.eu (←Ir.bH x) y):=rfl;rw[ai,[sB,F1,a1,hv],[ip,S1,r1,F1,c1,a1,[st,r2,F2,H2,S2,N,o,z]]];rw[K,d,hd,g,al.kn N (hv.step o) u];rw[aC,Ir.eu,g];{rw[dA,[H,#[p,B,_,w,Y,Y,[cL,W],f,I w G]]]};{rw[dA,[e6,#[p,B,_,w,Y,Y,cx.of (N.sub _ _ W),f,I w G]]]};{rw[ab,p,B,rfl,W,q,hd];rw[z.cg];rw[aM,x,j,I,[tu],w,f,G,q.at j];exact [H,[e6,#[p,B,_,w,Y,Y,Az N.sub W,f,I w G]]]};{unfold jt aG at hd;rw[dA,[H,#[p,B,_,w,Y,Y,[H,u6 N.sub W],f,I w G]]]};{rw[al,jt,hd];rw[hd.gb,z.cg];rw[M,U,g,g.ite];rw[aM,x,j,I,[tu],n,f,e3,lG.mp j];rw[bh,e3,[H,[lJ,#[_,_,n,Y,Y,by rw[tR,<-lP];grind,f,I _ [K,[n]]]]]]};{rw[c0,p7 i];rw[K,x,j,I,[tu]];rw[bR,p,l,rfl,W,q];rw[bx,w,f,G,[tn].1 _ j,[e6,#[p,w,Y,[H,#[l,k,[H,W],qb L z,f.symm]],I w G]]]};{rw[c0,GG i];rw[K,x,j,I,[tu]];rw[bR,p,l,rfl,W,q];rw[aM,b,ey,A,F9 L z,w,f,G,[tn].1 _ j];exact [e6,#[p,w,Y,[aC,#[l,k,b,[H,W],ey,N.sub _ _ A,f.symm]],I w G]]};{rw[c0,p7 i];rw[aM,x,j,I,[tu],p,rfl,hd,hd];rw[aM,l,hr,hh,ft.kd p _ hd,w,f,G,((hr r2 F2).get L).1 _ j];exact [lJ,#[p,l,k,w,Y,qb L z,hh,f,I w G]]};{rw[aL]}]
def VY(ft:[hb])(W:f<T.nf)(J:[eE,a,[kL]])(L:[eb,j]):[aq,.Attribute a [kL] pos,.av j f]:=[jj,Wn L.pe J,h,by rw[ad,e,[bt,.av j f]=(do match←Ir.bH (←Ir.ah Z _ _)with|.obj _ l=>Ir.bC (Ir.eV l f)|_=>Ir.bad),rfl,[gD,y,s,n,t,B,N,I]];rw[K,d,hd,g,al.kn B [H,I] m];rw[aA,g];{rw[am,p,i,fs,rfl,z,q,hd];rw[aM,x,U,u,al.bC B g,w,C,G,q.get ft.xR U];exact#[p,_,i,fs,w,Y,z,ft.cls _,ft.AB _ f W,C,u w G]};{rw[aL]}]
section
variable{K:aQ}{r:List ai}{F H:Hp}{S:aj}
def Cb(h:d.atom=ae)(q:[cN]):oI v=ae:=by cases d<;>first|(rw[a_,q.cg])|(rw[a_,q.gb])|rw[a7]
def agD(h:d.atom=ae)(x:e.atom=ae)(q:[cN])(z:[h7,e,C]):oA v C=d.beq e:=by rw[c8,d];{(cases e<;>first|cases x|skip);{rw[aV,q.cg,z.cg]};{rw[aV,q.cg,z.gb]}};{(cases e<;>first|cases x|skip);{rw[aV,q.gb,z.cg]};{rw[q.gb,z.gb];unfold Ir.D.beq oA;grind}}
def AI:[hW,[u'],([cg])->B.all oI=ae]|[],B,h,q=>[bP,q.fY]|d::l,B,h,q=>by rw[ab,v,ws,rfl,a,b,q.dP];rw[e8,aF]at h;rw[e8,Cb [dK] a,AI [cW] b];rfl
def Bm(h:[jt])(q:[h7,x,v]):[hW,[u'],([cg])->B8 v B=Ir.jX x l]|[],B,h,q=>[bP,q.fY]|d::l,B,i,z=>by rw[ab,C,ws,rfl,a,b,z.dP];rw[e8,aF]at i;have e:=Bm h q i.2 b;unfold B8 Ir.jX at e|-;rw[n3,n3,agD [fF] h a q,e]
def QX(sub:Le F H)(h:x.pair=ae)(q:[h7,x,v]):∃i j,x=[bk,[aQ],[c2]]/\Dp K H v [wW]:=by rw[aC,Ir.D.pair,h];{rename_i i j;obtain⟨a,B,rfl,e,_,q⟩:=q;rw[ab,G,C,rfl,z,q,q.dP];rw[ab,d,w2,rfl,u,q,q.dP];rw[q.fY,z.cg,u.cg]at e;exact#[i,j,Y,.tup (cx.of (sub _ _ e)) [bF,[aQ],[hH,[c2]]]]};grind
def Of(sub:Le F H):[hW,[jv,Ir.D.pair],([cg])->∃G,rq K H B G/\Dk G=ae/\wy G<=8/\∀i j,G.any (λy=>uP y [wW])=Ir.jX [bk,[aQ],[c2]] l]|[],B,h,q=>[q,q.fY,#[[],[aM],Y,[af],[zA]]]|d::l,B,h,q=>by rw[ab,v,ws,rfl,a,b,q.dP];rw[e8,aF]at h;rw[ag,i,j,rfl,hd,QX sub [dK] a];rw[ab,G,m,u,L,z,Of sub [cW] b];refine#[.tuple _::G,[bF,hd,m],?_,?_,λx U=>?_];{simp[Dk,Jz,u,lI]};{(have e:JA [wW]<=8:=by rw[Y,JA,wy];rw[af]);rw[b2,wy]};{rw[aV,n3,z _ _]}
end
def ahr(hu:[pi])(neg:Bool):[dD,[un],[d4,[FS]]]:=by rw[c7];rw[bU,i,j,l,m,u,z,U,q];rw[M,L,J,Dp.reads I _ x v m d];rw[bj,bs,e,Dp.reads I _ y C u N,hd,X.A.units+1+ek (wy l) (JA [wW])<dM,[f]];rw[Dw,SeqAt.in_list_reads e J z Y hd [k_,I],SeqAt.notIn_list_reads e J z Y hd [k_,I]]
def adv(hu:[kM])(neg:Bool):[dD,[un],[d4,[Hf]]]:=by rw[c7];rw[ab,a,o,rfl,g,q,h];cases N;rw[Dw,ad9 hu I g d λj B=>[k_,B],Yy hu I g d λj B=>[k_,B]]
def abR(neg:Bool):[dD,[un],[d4,[Gk]]]:=by rw[c7];obtain⟨a,e,k,rfl,rfl,hd,q⟩:=h;cases N;rw[ag,m,B,J,j,hd _ I.dW];cases neg with|false=>refine wpAny_in_of (oX d) m j.mapOf ?_;rw[bD,[lA].tV,[k_,[hp]]]|true=>refine aju (oX d) m j.mapOf ?_;rw[bD,[lA].tV,[k_,[hp]]]
def U1(neg:Bool):[dD,[un],A5 X.K neg]:=[Dw,acv,W']
def zT(X:Cx)(neg:Bool):R2:=[d4,A5 X.K neg x y H Q\/[Hf]\/[Gk]\/[FS]]
def Bz(hu:[pi])(neg:Bool):[dD,[un],zT X neg]:=cI.or (U1 _) (cI.or (adv [g] _) (cI.or (abR _) (ahr hu _)))
def Qc(ft:[hb])(h:∃env O S r F,[gR]/\[x8]/\[hd,X.K,(do let x←[bt,a'];let y←Ir.bH (←Ir.rd t env (Ir.ah Z t env));let G←Ir.gx x y;[b1,D.bl [A,neg,! G,G]]) S,r',F',H']):kv (zT X neg) [fl,a'] (vm T X.K Z E t) σ H Q:=by rw[cn];rw[ai,[sB,F1,a1,I],[ip,S1,r1,F1,c1,a1,[st,o,F2,H2,S2,a,A,W]]];rw[K,d,hd,g,al.kn a W u];have I:=[eM,A.pre,A.fr,I];rw[aC,Ir.gx,g];{rw[ax,l];rw[aE,[jt]];{rw[ap,aJ q,g,k,L,p7 q];rw[bR,p,f,rfl,U,z];rw[aY,J,[dO,a,g,[eO]],[e6,#[p,_,Y,[H,#[f,k,[H,U],qb L I,Y]],?_]]];have e:[Mi]:=[GN];rw[ae,e,J,J]};{rw[bn,aw q,g]}};{rw[ax,l];rw[aE,[jt]];{rw[ap,aJ q,g,k,L,p7 q];rw[aM,p,rfl,hd,hd,f,hr,hh,ft.kd p _ hd];rw[R,z,hr o F2,J,[dO,a,g,[eO]]];refine [eJ,[e6,#[p,f,k,Y,qb L I,hh,?_]]];rw[eT,e,[Mi],[GN]]};{rw[bn,aw q,g]}};{rw[ax,l];rw[b,q,([jt]/\[u'])\/(x.pair=ae/\[jv,Ir.D.pair])];{rw[aJ q]at g;have J:=[dO,a,g,Y];rw[bR,p,B,rfl,U,z];rcases q with⟨N,n⟩|⟨N,n⟩;{exact [H,#[p,B,Y,[H,[cL,U]],Cb N I,AI n z,[q,Bm N I n z,J]]]};{rw[ag,i,j,rfl,dx,QX a.sub N I];rw[ab,ds,m,u,b,h4,Of a.sub n z];exact [eJ,[lJ,#[i,j,ds,dx,.lst [cL,U] m,u,b,[f]]]]}};{rw[bn,aw q,g]}};{rw[ax,l];rw[bR,p,B,rfl,U,z];rw[eu,cx.of (a.sub _ _ U),[eO]]};{rw[ax,l];unfold jt aG at hd;rw[ab,p,B,rfl,U,z,hd];rw[eu,Az a.sub U,Y]};{rw[aL]}
def ab6(ft:[hb])(hu:[pi])(q:r_ .In b=af)(x:[hB])(J:[kv]):[aq,[jf,.In],.mem l e]:=by rw[ay,st,∀σ H Q,cT T _ Z E (.mem l e) σ H Q->kv (zT X af) _ _ _ H Q,λσ H Q h=>Qc ft h,pe,[Kn,af]];exact [w4,yB (Bz hu af) x.pe J.pr q]
def af5(ft:[hb])(hu:[pi])(q:r_ .NotIn b=af)(x:[hB])(J:[kv]):[aq,[jf,.NotIn],.ot l e]:=by rw[ay,st,∀σ H Q,cT T _ Z E (.ot l e) _ H Q->kv (zT X ae) _ _ σ H Q,λσ H Q h=>Qc ft h,pe,[Kn,ae]];exact [w4,yB (Bz hu ae) x.pe J.pr q]
section
variable{K:aQ}{r:List ai}{F H:Hp}{S:aj}
def A_(n d:Nat)(o:[fP]):HT.dO n d o=(o.map (Ir.clip n)).getD d:=[bz,o]
def aY.cut(lo q:[fP])(h:[cg]):[fr,Ir.cut l [mT,lo.map [zw]] [D0,[zw]],vF B lo q]:=by unfold vF Ir.cut;rw[h.length,A_,A_];exact(h.drop _).take _
def Es(l:[gw])(a b:Nat):[aO,Ir.cut l a b,[E]]:=[b_,Ir.cut]
end
def rSl(K:aQ):[ua]:=λx lo q H Q=>Qm K x lo q H Q\/J6 K x lo q H Q
def E7{lo h}(c:[gR])(hd:jt T X.K r F H x v)(g:[hd,X.K,Ir.gE x lo h S,j,C,W]):rSl X.K v lo h H Q:=by rw[aC,Ir.gE,g];{rw[cg,e,hd,[H,#[p,B,Y,[H,u6 c.sub e],λo n=>al.lst c g [DC] (q.cut _ _) n]]]};{rw[cg,e,hd,[H,#[p,B,Y,[cL,e],λo n=>al.lst c g [DC] (q.cut lo h) n]]]};{rw[am,p,B,rfl,e,U,q,hd];rw[ax,l];rw[b,z,[mT,lo.map [zw]]=0/\(h.map [zw]).getD [E]=[E]];{rw[ae,aJ z,g,g.bad.elim]};{rw[aw z]at g;rw[<-q.length,<-A_,<-A_]at z;exact [aC,#[p,B,Y,[jB,e],z,λo n=>al.tup c g [DC] (q.cut lo _) n]]}};{rw[aL]}
def WC(f:[eb,B])(J:[jC])(hd:[aq,d,G]):[aq,[C3,aa b,aa d,p2],.ko B l G]:=[jj,FU (oy.or Fl FT) f.pr (Ah J.pe) (Ah hd.pe),h,by have e:[ca,.ko _ l G]=(do let x←Ir.rd B env _;let y←[eh,←Ir.ah Z _ _];let z←[eh,←Ir.ah Z _ _];Ir.gE (←Ir.bH x) (aa y) (aa z)):=rfl;rw[ai,[sB,I,L,A],[ip,S1,r1,I,c1,L,[st,s,k,H2,n,o,q,hu]]];rw[K,i,rfl,g2,u.f_];rw[ai,#[i,hu.cg,?_],#[env,O,n,s,k,o,[fA,L].step q,g2.bind.mono λy r3 F3 H3#[S3,p,t,U]w W=>?_]];rw[aK,j,rfl,N,U.f_,#[j,W.cg,?_]];rw[bx,d,hd,g,al.kn p ((A.step q).step t) N,E7 p hd g]]
def aeB(L:[eb,p])(J:[jC]):[aq,[C3,aa b,ag,N],.qI p l]:=[FO,Ah J.pe,Q8,[ca,.qI _ l]=(do let x←Ir.rd p env _;let y←[eh,←Ir.ah Z _ _];Ir.gE (←Ir.bH x) (aa y) _)]
def agc(L:[eb,p])(J:[jC]):[aq,[C3,ag,aa b,N],.l8 p l]:=[FO,Q8,Ah J.pe,[bt,.l8 p l]=(do let x←Ir.rd _ _ _;let y←[eh,←Ir.ah Z _ _];Ir.gE (←Ir.bH x) _ (aa y))]
def al.lC{K}{f:[z2]}(c:[bB])(h:[yE])(a:[hT,Ir.lC d]):(∃p,v=[dq]/\DC H p)/\[hs,()]:=by rw[da,Ir.lC d,Ir.lC];cases q:Ir.bH d S with|ok x j=>(rw[M,z,rfl,An c h q];rw[q]at a;cases x with|aV l=>obtain⟨p,G,e,m,_⟩:=z;rw[aQ,#[p,e,[H,#[G,[H,m]]]],a]|bZ l=>obtain⟨p,G,e,m,_⟩:=z;rw[aQ,#[p,e,[aC,#[G,[H,m]]]],a]|_=>rw[av,a])|ex c B j=>rw[bn,q,a]|bad=>rw[bn,q,a]
def ad4(hu:[kM])(G:M2 X a "get" yC b d kJ)(ha:[eb,A])(J:[aq,b,t])(hd:[aq,d,d']):[aq,[en,a,"get",yC,[b,d],kJ],.iU A t d']:=[jj,aei hu ha.pr J.pe hd.pe G,h,by rw[ad,e,[ca,.iU _ _ _]=(do let x←Ir.rd A _ _;Ir.lC x;let y←[ca,t];let z←[bt,d'];match←Ir.bH x with|[b6]=>[ap,y.atom,[b1,[vY].getD z],Ir.bad]|[hv]=>[ap,y.jv,[b1,[vY].getD z],Ir.bad]|_=>Ir.bad),rfl,[sB,F1,o,hv]];obtain⟨⟨p,rfl,j⟩,g1⟩:=m.lC c1 hv;rw[ai,#[p,Y,j,?_],[ip,S1,r1,F1,c1,o,g1.bind.mono [CT,c2,s]]];refine#[env,O,S2,r2,F2,c2,[fA,o].step s,u.bind.mono λz r3 F3 H3#[S3,I,U,h3]w W=>?_];rw[K,d,hd,g,al.kn I ((hv.step s).step U) h3];have hu:=[eM,U.pre,U.fr,hu];rw[aA,g];{rw[ax,l];rw[c0,p7 i];rw[bR,p',B,e,j,q];rw[cJ];rw[bm,fP _ k,[H,#[B,k,[H,j],qb L hu,Y]]];have f:=al.pure I g;rw[eo]};{rw[ax,l];rw[c0,GG i];rw[bR,p',B,e,j,q];rw[cJ];rw[aK,b,ey,eb,F9 L hu,#[fP _ k,[aC,#[B,k,b,[H,j],ey,I.sub _ _ eb,Y]],?_]];have f:=al.pure I g;rw[eo]};{rw[aL]}]
def WD(W:PE X o g)(p:[gC,ty])(G:M1 X o "get" t e A):[cn,[en,o,"get",t,[e],A],λσ H Q=>g σ H λx z=>∃a l,[gA,[LI,l],ty σ z λy L=>∃k,y=kV k/\Q ((fP l k).getD [aY]) L]]:=by rw[bP,Q,Jj G.base G.kz G.line Jk De ajx (a8 (W pins s σ H _ I h) λC i#[x,z,P,w,a,l,ex,d,n]=>?_),ex,C=da a,w];rw[ag,U,B,J,j,d i.heap P.dW];rw[bm,j.typeIs,λb q=>?_];{rw[bO];obtain⟨ob,_,_,m,u,_⟩:=j;exact#[ob,m,[ak,u]]};rw[cm,G.trees,zl Y (Jf (C5 (a8 (p pins i σ z _ P n) λO c#[y,L,f,N,k,v,q2]=>I0 ?_)))];subst v;rw[ag,U,B,J,j,d c.heap f.dW];refine T3 De j.typeIs T4 Y (meets_dict_get _ a (oX N) U) #[_,j.mapOf,#[_,L,f.tok _,[lA].getD [aA,bB [aY] qB,rfl],q2]]
def Wv(ft:[hb])(G:M1 X a "get" t b s)(i:[eb,j])(J:[aq,b,f]):[aq,[en,a,"get",t,[b],s],.qO j f]:=by rw[cs,WD i.pe J.pe G,O];rw[ad,e,[ca,.qO _ _]=(do match←Ir.ah Z j _ with|[jH]=>(do let y←[bt,f];if y.atom=ae then [b1,[vY].getD _]else Ir.bad)|_=>Ir.bad),rfl,[gD,r1,I,H1,A,c1,W,B]];cases x with|du l=>(rw[K,p,rfl,hd,B];rw[aK,U,w,hh,ft.kd p _ hd,#[p,U,Y,hh,env,O,A,r1,I,c1,[fA,W],[st,z,o,H2,S2,N,a2,hu]]];rw[M,n,g,u.ite];rw[M,k,L,p7 n];rw[bm,k,qb L hu];rw[R,d,al.pure N g,q,w z o];cases e:[vY]with|none=>rw[[tn].2 e];rw[ae,e,d,d _ [aY]]|some x=>rw[K,w',e2,q2,[tn].1 x e];grind)|_=>rw[av,m]
def fy.or(h:fy X f r)(x:fy X f j):[sM,f,G,r G H Q\/j G H Q]:=by intro pins s σ H G us Q I rs q;rw[d_,q,q,q,h _ s _ H _ _ Q I rs q,x _ s _ H _ _ Q I rs q]
structure Bt (X : Cx) (x : au) (u : aq) : Prop where
 gl : Gl X x
 mg : X.mg x = ag
 bt : hl x = aa u
 nm : x ≠ "__name__"
 db : (x == ("__debug__" : au)) = af
def Rz(q:[A5,z])(h:[nU,.b1 o a,Q]):[CN,a,tw]:=by rw[cn];rw[ad,e,[ca,.b1 o a]=(do Ir.dk o (←Ir.bH (←Ir.rd _ env _))),rfl,[gD,s,J,u,p,B,L,I]];rw[bx,d,hd,g,al.kn B I m,q d _ _ _ _ v Q B hd g]
def vJ{id}(b:[io,id])(O:[kb,id,G])(I:[dT])(J:[d'])(h:[A5,q]):[j5,o]:=[kW,E4 O b.gl b.mg b.bt (iZ J.pr jp I) b.nm b.db I,z,Rz h z]
def AS{id}(b:Bt X x [bT,id])(O:fy X [bT,id] G)(I:[dT])(J:[d'])(h:[A5,q]):[j5,o]:=[kW,[xA,O,J.pr,I],z,Rz h z]
section
variable{K:aQ}{r:List ai}{F H:Hp}{S:aj}
def aY.sQ:[CR,Ir.oR l,ns.map V.bl]|[],B,ns,h,q=>by rw[bO];rw[a_,h.fY]|d::G,B,ns,h,q=>[Ij,Ir.oR,Ir.oR G,a.xh,aY.sQ b e]
def aY.strs:[CR,Ir.pF l,[R,ns.map sv,V.str]]|[],B,ns,h,q=>by rw[bO];rw[a_,h.fY]|d::G,B,ns,h,q=>[Ij,Ir.pF,Ir.pF G,a.gb,aY.strs b e]
def aY.zB:∀(ns:[h]),aY T K r F (ns.map .int) [ji]|[]=>[aM]|i::ns=>[bF,Y,aY.zB _]
def aY.E8:∀(ns:[h]),[fr,ns.map .str,[R,ns.map sv,V.str]]|[]=>[aM]|i::ns=>[bF,Y,aY.E8 _]
end
def ade(b:[io,"len"])(I:[dT])(h:[d']):[j5,.len]:=vJ b (fy.or afh X9) I h λd r F H S v Q c hd g=>by cases d with|lst l=>rw[dJ,[H,[cL,m]],[vg,g]]|dU l=>rw[dJ,[H,[H,u6 c.sub m]],[qP]]|tup l=>rw[dJ,[eJ,[jB,m]],[vg,g]]|str l=>rw[al,jt,hd];rw[c3];rw[V,hd.gb,[aC,#[_,Y,by rw[tR,<-lP];grind,by exact [vg,g]]]]|_=>rw[aL]
def ad2(O:[cG])(b:[io,"sum"])(I:[dT])(h:[d']):[j5,.sum]:=[AF,Wo O,q.«ints» e]
def ac2(O:[cG])(b:[io,"any"])(I:[dT])(h:[d']):[j5,.any]:=[AF,acB O,q.sQ e]
def aew(O:[cG])(b:[io,"all"])(I:[dT])(h:[d']):[j5,.all]:=[AF,ac_ O,q.sQ e]
def WI(b:Bt X x [jh])(I:[dT])(h:[d']):[j5,[l0]]:=AS b Li I h λd r F H S v Q c hd g=>[FT,al.lst c g U q n]
def ae2(b:Bt X x [oi])(I:[dT])(h:[d']):[j5,.tuple]:=AS b VS I h λd r F H S v Q c hd g=>by cases d with|lst l=>rw[cg,m,hd,#[p,B,Y,[H,#[[cL,m],λo n=>al.tup c g U q n]]]]|_=>rw[aL]
def tK(x:Int):∀l,(Ir.l0 x l).Perm [gB]|[]=>.refl _|y::r=>by unfold Ir.l0;split;{rfl};{exact [bY,List.Perm.cons y (tK x r),[f]]}
def tL:∀l,(Ir.pq l).Perm l|[]=>.refl _|[bp]=>by exact [cy,tK x _,[bF,x,tL r]]
def ye(x:Int):∀{l},[Cd,(·<=·),Ir.l0 x l]|[],_=>[b_,Ir.l0]|y::r,h=>by unfold Ir.l0;rw[kO]at h;split;{rw[gM,[bF,[zX],[bF,[dK],[cW]]]]};{refine [bF,[zX],ye x [cW]];rw[fs]}
def xL:∀l,(Ir.pq l).Pairwise (·<=·)|[]=>[aM]|[bp]=>by exact ye x (xL r)
def Kt:[H7,[a4],(·<=·)]|[],G,p,_,_=>p.nil_eq|[gB],[],p,_,_=>[ga,p.length_eq]|[gB],y::G,p,m,u=>by rw[kO]at m u;(have e:x=y:=by rw[R,a,p.mem_iff.mp (qv),b,p.mem_iff.mpr (qv)];grind);subst e;rw[Kt (ajR p) m.2 u.2]
def aeJ(b:[io,"sorted"])(I:[dT])(h:[aq,e,j]):[aq,[fE,[e]],.b1 .sorted j]:=vJ b VV I h λd r F H S v Q c hd g=>by cases d with|lst l=>rw[am,p,B,rfl,m,U,q,hd];rw[K,ns,e,g,al.iQ [wY]];rw[M,L,g,g.ite];rw[q.«ints» e]at m;refine#[p,ns,Y,[cL,m],L,λN o i a n=>?_];have z:=Kt (i.trans [dI,tL _]) a (xL _);subst z;refine al.lst c g ?_ (aY.zB _) n;rw[aR,(tL _).length_eq];have:64<=lim:=[af];omega|_=>rw[aL]
end
def ae9:∀c,c<128->Unicode.isDigit c=Ir.lc c:=[dz]
def aaq:∀c,c<128->Unicode.isAlpha c=(Ir.pR c||Ir.pS c):=[dz]
def agq:∀c,c<128->Unicode.isAlnum c=(Ir.lc c||(Ir.pR c||Ir.pS c)):=[dz]
def Et(h:Ir.plain s=ae)(e:∀c,c<128->f c=g c):[g7].cps.all f=s.all g:=by(have q:[g7].cps.all f=s.all f:=by simp);rw[al,Ir.plain,h];rw[ck]at h;grind
def FK(s:[h]):ao ([Q,[g7]]>0)=! s.isEmpty:=[ba,tR]
def Wu(i:Int)(h:0<=i):(iP (kK i))=sv (Ir.digits i.toNat):=by rw[M,G,rfl,Int.eq_ofNat_of_zero_le h];rw[a_,Str.ofString_eq_toList]
def YS(s:[h]):ajS s=Ir.yw s:=by unfold ajS Ir.yw;grind
def GP(c:Nat):∀(l N:[h]),TL.gA [c] 0 N l=[yi,Ir.jx c l,N,N++w]|[],N=>by rw[TL.OG];unfold Ir.jx;simp|[bp],N=>by unfold Ir.jx;rw[b,e,x=c];{subst e;rw[TL.LZ [aA,TL.pre _ [bp]=ae,TL.aga _ r],TL.Fx,aiP,g',GP x r _];rw[e',x,r]};{rw[TL.Os (TL.agF _ r e),GP c r _];grind}
def LL(c:Nat)(s:[h])(O:c<128):zr [g7] (sv [c])=[R,Ir.jx c s,sv]:=by apply TL.RB;rw[ak,h,¬pk [g7]<pk (sv [c]),by rw[ak,e,pk (sv [c])=1,[dV,pk,aJ ([bE])],e];rw[b_,pk],TL.acI _ _ (by simp) h];rw[GP,cq];(have e:(TL.tl∘sv)=id:=by rfl);rw[e,v6];rw[e',c,s]
def OA(y:[h]):∀ws,TL.xM y ws=Ir.lY y ws|[]=>rfl|[w]=>rfl|w::v::r=>by show w++(y++TL.xM y _)=w++y++Ir.lY y _;rw[OA y _,em]
def Y1(y:[h])(ws:[h]):Jp (sv y) [hz,sv]=sv (Ir.lY y ws):=by apply TL.Ou;rw[TL.Wx,TL.L8,cq];(have e:(TL.tl∘sv)=id:=by rfl);rw[a5,e,v6,OA y _]
def DK(c:Nat):∀s,[aO,Ir.jx c s,s.length+1]|[]=>by unfold Ir.jx;simp|[bp]=>by have q:=DK c r;rw[b_,Ir.jx]
section
variable{T:Tb}{Z:Ir.bM}{E:XK}{X:Cx}
def abU(b:Bt X x [bT,"str"])(I:[dT])(h:[d']):[j5,.str]:=AS b VG I h λd r F H S v Q c hd g=>by cases d with|int i=>rw[al,jt,hd];rw[c3];rw[cm,hd.cg,#[i,Y,?_,?_]];{rw[b,z,i.natAbs=0];{rw[bb]};{exact y4 ((ajO z).mpr [gf,i.natAbs<2^64]) ([af])}};{rw[V,Wu i U.1,[qP]]}|_=>rw[aL]
def aff(b:Bt X x [bT,"int"])(I:[dT])(h:[d']):[j5,.int]:=AS b XB I h λd r F H S v Q c hd g=>by cases d with|str s=>rw[al,jt,hd];rw[c3];rw[cm,hd.gb,#[_,Ir.yw s,Y,?_,[cz,tR],[qP]]];rw[<-YS];refine PySem.intText_digits (λc O=>?_) [lo] ([cz,tR]);{have:=ck.mp U.1 c O;rw[al,Ir.lc,this];grind};grind|_=>rw[aL]
def ZU(b:[io,"ord"])(I:[dT])(h:[d']):[j5,.ord]:=vJ b agM I h λd r F H S v Q c hd g=>by cases d with|str s=>(rw[al,jt,hd];match s,hd,g with|[k],hd,g=>rw[V,hd.gb,#[_,Y,Y,[qP]]]|[],hd,g=>rw[aL]|_::[d5],hd,g=>rw[aL])|_=>rw[aL]
def FE{id}{f:au->Bool}{g:([h])->Bool}(slot:Slot "str" I id)(ty:[tW])(rule:[xe,id,G,f a])(W:[eE,e,I])(C:[hQ,t.endLine])(L:[aq,e,l])(u:∀s,Ir.plain s=ae->f [g7]=g s)(J:∀d,Ir.dk o d=[d6,d,[db],[ap,Ir.plain s,[b1,[bj,g s]],Ir.bad],Ir.bad]):[aq,[en,e,I,t,[],pos],.b1 o l]:=[jj,adG slot ty rule L.pr W C,h,by rw[ad,q,[ca,.b1 o l]=(do Ir.dk o (←Ir.bH (←Ir.rd _ env _))),rfl,[gD,n,j,p,i,B,N,U]];rw[K,d,hd,k,al.kn B U m];rw[J]at k;cases d with|str s=>rw[al,jt,hd];rw[M,z,k,k.ite];rw[V,hd.gb,#[[gV],_,Y,Y,True.intro,[q,u s z,[dO,B,k,Y]]]]|_=>rw[av,k]]
def XA(W:[eE,e,"isdigit"])(B:[hQ,S.endLine])(J:[d']):[C8,"isdigit",.isdigit]:=[Bz,PySem.F.slot_str_isdigit,PySem.F.type_str_isdigit,ael,ajD,ae9]
def ae3(W:[eE,e,"isalpha"])(B:[hQ,S.endLine])(J:[d']):[C8,"isalpha",.isalpha]:=[Bz,PySem.F.slot_str_isalpha,PySem.F.type_str_isalpha,W8,ajE,aaq]
def Ze(W:[eE,e,"isalnum"])(B:[hQ,S.endLine])(J:[d']):[C8,"isalnum",.isalnum]:=[Bz,PySem.F.slot_str_isalnum,PySem.F.type_str_isalnum,Yv,ajF,agq]
def al.D5{K}{f:[z2]}(m:o=[nr]\/o=.join)(e:Reads T K r F H x v)(h:[hT,Ir.tZ o x]):∃s,x=[db]/\v=[K,[g7]]/\[hs,()]:=by cases x with|str s=>refine#[s,Y,?_,?_];{rcases e with e|⟨_,_,_,_,q⟩;{exact e.gb};{rw[av,q]}};{rw[u8,m,h]}|_=>rw[u8,m,[tL,h]]
def ad5(q:[rg])(W:[eE,a,"split"])(G:[hQ,f.endLine])(L:[eb,j])(J:[jC]):[aq,[en,a,"split",f,[b],pos],.b2 [nr] j l]:=[jj,M7 L.pr J.pe q W G,h,[FB,N,e,i,A,z,d,d.bind.mono λy o F2 H2#[S2,B,w,u]C hu=>?_,al.lst B g ?_ (aY.E8 _) n]]
def Z'(ws:[h]):[R,[hz,sv],(·.length)].sum=[hz,mw].sum:=[bP,cq]
def Xy(i:[rg])(W:[eE,a,"join"])(A:[hQ,t.endLine])(G:[eb,d])(J:[aq,b,f]):[aq,[en,a,"join",t,[b],pos],.b2 .join d f]:=[jj,ad3 G.pr J.pe i W A,h,by refine [gD,w,z,H1,o,k,I,N];rw[ag,s,rfl,rfl,n,m.D5 [aC,Y] N];refine#[[gV],env,O,o,w,z,k,[fA,I],n.bind.mono [CT,j,a2]];have g:=[aA,[pK],u];cases y with|lst l=>rw[K,ws,e,g,al.iQ [aA,[pK],g]];rw[M,U,g,g.ite];obtain⟨p,B,rfl,L,_,q⟩:=hu;rw[q.strs e]at L;refine#[_,p,ws.map _,Y,Y,[H,[cL,j.sub _ _ L]],?_,?_];{rw[a5,Z',aR,U]};{rw[V,Y1,[dO,j,g,Y]]}|_=>rw[aL]]
def Nv(e:o=.min\/o=.max)(U:∀i j r F H S Q,([gR])->([hd,X.K,Ir.jD o [aQ] [c2] S,s,q,z])->G [[aQ],[c2]] H Q)(h:[nU,.b2 o p l,Q]):[CN,p,xV [fl,l] tw]:=by rw[cn];refine [gD,L,J,N,B,A,I,W];rw[ad,n,al T X.K L J N ((do let y←[bt,l];Ir.jD o (←Ir.bH x) y) B) (λd s q z=>[tQ,X.K,s,q,z]) E,[u8,e,m],[ip,B,L,J,A,I,n.bind.mono λy t b k#[w,a,f,u]C hu=>?_]];rw[K,d,hd,g,al.kn a (W.step f) u];cases d with|int i=>(cases y with|int j=>rw[al,jt,hd];rw[a5,hd.cg,hu.cg,U i j _ _ _ _ Q a g]|_=>rw[u8,e,[tL,g]])|_=>rw[u8,e,[tL,g]]
def Xq(O:[cG])(bt:[io,"min"])(m:[CZ])(u:[rg])(q:[jG,[b]])(h:[eb,B])(J:[jC]):[aq,[fE,[ig]],.b2 .min B l]:=[F_,Yt O,[fa],j<i,ek i j]
def Xi(O:[cG])(bt:[io,"max"])(m:[CZ])(u:[rg])(q:[jG,[b]])(h:[eb,B])(J:[jC]):[aq,[fE,[ig]],.b2 .max B l]:=[F_,agO O,[aC,Y],j>i,fk i j]
end
def cb(n0:Nat)(r:[bc])(F H:Hp):Hp:=λa=>[gp,F a,o,[a'],[A,a∈r.drop n0,H a,ag]]
section
variable{T:Tb}{K:aQ}{r:List ai}{F H:Hp}{S:aj}{n0:Nat}
def kr:Le F (cb n0 r F H):=λa o e=>[dV,cb,e]
def ahd(s:Le F H):Le (cb n0 r F H) H:=λa o e=>by rw[al,cb,e];grind
def Xm(n:F a=ag)(h:a∈r.drop n0):cb n0 r F H a=H a:=[b_,cb]
def zK(h:¬n<n0)(e:[AD]):a∈r.drop n0:=[gM,cG (i:=n-n0) ?_]
mutual
theorem aG.eH(le:Le F F1):∀(d:D)(v:V),aG T K r F d v→d.low n0=ae→aG T K (r.take n0) F1 d v|.a0,v,x,_=>by exact x|.bl b,v,x,_=>by exact x|.int i,v,x,_=>by exact x|.str s,v,x,_=>by exact x|.fn s,v,x,_=>by exact x|.du l,v,x,_=>by exact x|.tup l,v,x,h=>by unfold aG at x⊢;unfold Ir.D.low at h;obtain⟨a,B,e,q,n,z⟩:=x;exact⟨a,B,e,le _ _ q,n,aY.eH le l B z h⟩|.lst l,v,x,h=>by obtain⟨a,B,e,q,n,z⟩:=x;exact⟨a,B,e,le _ _ q,n,aY.eH le l B z h⟩|.dU l,v,x,h=>by unfold aG at x⊢;unfold Ir.D.low at h;obtain⟨a,B,e,q,n,z⟩:=x;exact⟨a,B,e,u6 le q,n,aY.eH le l _ z h⟩|.b4 l,v,x,h=>by obtain⟨a,B,e,q,z⟩:=x;exact⟨a,B,e,Az le q,aY.eH le l B z h⟩|.aV l,v,x,h=>by obtain⟨a,B,e,q,n,z⟩:=x;exact⟨a,B,e,le _ _ q,n,cE.eH le l B z h⟩|.bZ l,v,x,h=>by obtain⟨a,B,e,q,n,z⟩:=x;exact⟨a,B,e,le _ _ q,n,cw.eH le l B z h⟩|.iY l,v,x,h=>by obtain⟨a,I,B,e,q,n,z⟩:=x;exact⟨a,I,B,e,le _ _ q,n,cw.eH le l B z h⟩|.obj c l,v,x,h=>by obtain⟨a,p,fs,e,q,z⟩:=x;exact⟨a,p,fs,e,le _ _ q,dA.eH le l fs z h⟩|.ref n,v,x,h=>by unfold aG at x⊢;unfold Ir.D.low at h;grind
theorem aY.eH(le:Le F F1):∀(l:List D)(B:List V),aY T K r F l B→Ir.eG n0 l=ae→aY T K (r.take n0) F1 l B|[],B,x,_=>by exact x|d::G,B,x,h=>by unfold Ir.eG at h;rw[aF]at h;obtain⟨v,ws,e,a,b⟩:=x;exact⟨v,ws,e,aG.eH le d v a h.1,aY.eH le _ ws b h.2⟩
theorem cE.eH(le:Le F F1):∀(l:List (D×D))(B:List _),cE T K r F l B→Ir.lowP n0 l=ae→cE T K (r.take n0) F1 l B|[],B,x,_=>by exact x|(k,d)::G,B,x,h=>by unfold Ir.lowP at h;rw[aF]at h;obtain⟨j,v,ws,e,u,a,b⟩:=x;exact⟨j,v,ws,e,u,aG.eH le d v a h.1,cE.eH le G ws b h.2⟩
theorem cw.eH(le:Le F F1):∀(l:List _)(B:List _),cw T K r F l B→Ir.lowP n0 l=ae→cw T K (r.take n0) F1 l B|[],B,x,_=>by exact x|(k,d)::G,B,x,h=>by unfold Ir.lowP at h;rw[aF]at h;obtain⟨j,v,ws,e,u,a,b⟩:=x;exact⟨j,v,ws,e,u,aG.eH le d v a h.1,cw.eH le G ws b h.2⟩
theorem dA.eH(le:Le F F1):∀(l:List _)(B:List _),dA T K r F l B→Ir.i7 n0 l=ae→dA T K (r.take n0) F1 l B|[],B,x,_=>by exact x|(k,d)::G,B,x,h=>by unfold Ir.i7 at h;rw[aF]at h;obtain⟨v,ws,e,a,b⟩:=x;exact⟨v,ws,e,aG.eH le d v a h.1,dA.eH le G ws b h.2⟩
end
def Bi(O:[BU,j]):∀{l J}{B},Ir.cM f l=aa J->([cg])->aY T K j Q J B/\J.length=[E]|[],J,B,e,h=>by rw[cJ];rw[V,h.fY,#[[aM],Y]]|d::l,J,B,e,h=>by rw[ab,v,ws,rfl,a,b,h.dP];rw[al,Ir.cM,e];cases q:f d with|none=>grind|some y=>cases u:Ir.cM f l with|none=>grind|some G=>rw[gH,q,u,e];rw[aG,z1,z2,Bi O u b,#[[bF,[f],z1],[f]]]
def GX{f:D->[bg,D]}(O:[BU,L]):∀{l J}{B},[xq]=aa J->([lm,B])->cE T K L Q J B/\J.length=[E]|[],J,B,e,h=>[aU,e,#[h,Y]]|[fY,d],J,B,e,h=>by obtain⟨j,v,ws,rfl,m,a,b⟩:=h;rw[al,Ir.cM,e];simp only at e;cases q:f d with|none=>rw[az,q,e,e]|some y=>cases u:[xq]with|none=>grind|some G=>rw[gH,q,u,e];rw[aG,z1,z2,GX O u b,#[[b_,cE],[f]]]
def FM{f:D->[bg,D]}(O:[BU,j]):∀{l J}{B},[xq]=aa J->dA T K r F l B->dA T K j Q J B|[],J,B,e,h=>[aU,e,h]|[fY,d],J,B,e,h=>by rw[ab,v,ws,rfl,a,b,h];rw[al,Ir.cM,e];cases q:f d with|none=>grind|some y=>cases u:[xq]with|none=>grind|some G=>rw[q,u]at e;rw[aU,e,#[v,ws,Y,O d y v q a,FM O u b]]
def NC(c:[bB]):∀(k:Nat)(d x:D)(v:V),Ir.cp n0 S k d=aa x->([cN])->aG T K (r.take n0) (cb n0 r F H) x v|0,d,x,v,e,h=>[cJ]|[ao],d,x,v,e,h=>by have U:=NC c k;rw[al,Ir.cp,e];cases d with|ref n=>simp only at e;rw[b,q,n<n0];{rw[az,aJ q,e,e];unfold aG at h|-;grind};{rw[aw q]at e;rw[K,a,rfl,z,h];cases C:S[n]? with|none=>rw[bb]|some G=>rw[C]at e;rw[ah,O,[kG,a,C,z],f,cb _ r F H a=H a,Xm (c.off a (cG z)) (zK q z)];cases G with|aW W l=>rw[ag,p,fs,m,u,O];rw[bx,J,L,rfl,lG.mp e,#[a,p,fs,Y,f.trans m,FM U L u]]|lst l=>rw[ag,B,m,j,u,O];rw[dp];rw[M,z1,z2,Bi U L u];rw[b_,aG]|aV l=>rw[ag,B,m,j,u,O];rw[dp];rw[M,z1,z2,GX U L u];rw[h8,aG,#[a,B,Y,f.trans m,[q,z2,j],z1]]}|tup l=>rw[dt,Bi U L u]|lst l=>rw[dt,Bi U L u]|aV l=>rw[dt,GX U L u]|obj W l=>rw[dp];unfold aG at h|-;rw[am,a,p,fs,rfl,m,u,h];exact#[a,p,fs,Y,kr _ _ m,FM U L u]|bZ l=>rw[cJ]|iY l=>rw[cJ]|dU l=>rw[cJ]|b4 l=>rw[cJ]|a0=>rw[cR]|bl b=>rw[cR]|int i=>rw[cR]|str s=>rw[cR]|fn s=>rw[cR]|du s=>rw[cR]
end
section
variable{T:Tb}{K:aQ}{r:List ai}{F H:Hp}{S:aj}{E:XK}
def DP(p:lx r j):j.take [gn]=r:=by apply my;grind
def Nu(c:[bB])(a:bD r F H h O W)(p:a_ T K h O W B):bD r F H r (cb [ad] h O W) W where
 keep:=a.keep
 fr:=a.fr.trans kr
 nf:=λx o e=>by rw[al,cb,e];cases q:O x with|some C=>rw[dg,q,e,a.nf x _ q]|none=>rw[bw,q,e];rw[aA,e];{rw[ax,z];rw[aP,c.len,z];rw[aJ,a.nr x (Ta z),y,y];{exfalso;rw[aM,i,L,U,qD.mp y,j,J,d,qD.mp z];rw[List.getElem_drop]at d;rw[eS,[f],p.nd]};{exact [e6,y]}};{rw[cJ]}
 pre:=[c0]
 nr:=[mw]
 fR:=a.fR
def Pd(c:[bB])(a:bD r F H h Q W)(C:a_ T K h Q W p)(low:[hV,p.take [ad],c,[q7]]=ae):a_ T K r (cb [ad] h Q W) W (p.take [ad]):=by rw[a0,e,h.take [ad]=r,[bD,c.len,DP a.pre],N,[gn]<=h.length,by rw[<-e,o5];omega,#[?_,c.nd,ahd C.sub,[gJ],λn G x m u=>?_,C.tab.fr (by unfold cb;rw[V,C.tab.1,aw λz=>C.KN (Ta z)])]];{rw[o5,<-C.len,<-c.len];omega};{(have d:=by rw[aP,e,L];exact Ii L);rw[dV,cb,C.off x d];rw[bp];split;{rw[ax,z];rw[aP,c.len,z];rw[aM,i,s,O,qD.mp L,j,g,J,qD.mp z];rw[eS,by rw[cQ s,O],C.nd]};rfl};{rw[ay,f,n<[ad],[f],U,ck.mp low _ (cG m)];rw[aja f]at m;have q:=C.rep n _ x m (a.pre n x u);cases G with|aW k l=>rw[ag,P,fs,O,J,q];rw[hr,z,dA.eH (F1:=cb [ad] h _ W) kr l _ J U,e,#[P,fs,O,z]]|lst l=>rw[ag,B,O,I,J,q];rw[hr,z,aY.eH (F1:=cb [ad] h Q W) kr l _ J U,e,#[B,O,I,z]]|aV l=>rw[ag,B,O,I,J,q];rw[hr,z,cE.eH (F1:=cb [ad] h Q W) kr l B J U,e,#[B,O,I,z]]}
def xK.acl(p:lx r x)(h:xK x H B W):xK r H B W:=by rcases h with h|⟨a,i,j,k,e,q,n,u⟩;{exact [H,h]};{refine [aC,#[a,i,j,k,e,q,λz=>n ?_,u]];rw[bx,G,m,e,qD.mp z,cG (p G _ [f])]}
def al.gc{Q:VK}(c:[bB])(h:[hd,K,Ir.gc G S,j,C,L]):[hd,K,G S,j,C,L]:=by rw[al,Ir.gc,h];cases q:G S with|ok d l=>(rw[bw,q,h];cases e:Ir.cp _ _ 8 d with|none=>rw[bn,e,h]|some x=>rw[bw,e,h];rw[a2];{rw[ax,low];intro j C L a i v m;rw[hr,z,NC i 8 d x v e m,show j.take _=r by rw[bD,c.len,DP a.pre],h r _ _ (Nu c a i) (Pd c a i low) v z]};{rw[av,h]})|ex k B l=>rw[bw,q,h];rw[a2];{rw[ax,low];intro j C L W a i x;exact h r _ _ _ (Nu c a i) (Pd c a i low.1) (x.acl a.pre)};{rw[av,h]}|bad=>grind
end
def q7(T:Tb)(K:aQ)(G:([al])->Ir.M D)(np:Nat):Sp:=λB H Q E=>∃l S r F,[bB]/\[cg]/\[E]=np/\[hd,K,G l S,j,x,e]
structure qL (T : Tb) (Z : Ir.bM) (X : Cx) (E : XK) (f np : Nat) : Prop where
 ex : ∃ k fd ps, lN X.prog X.w X.K X.mg X.base (kA X.prog X.w) k (T.cU f) fd ps (q7 T X.K (Z.call f) np) ∧ eL (k + 1) X.A ∧ lE X.K fd ps []
 kp : ji X.K (.ref (T.cU f)) = ae
 ps : ly (kA X.prog X.w) X E
section
variable{T:Tb}{Z:Ir.bM}{E:XK}{X:Cx}
def abE(ff:[v3,[E]])(d:[dJ])(U:[fm,[gT]])(j:[cq])(L:[il,q])(W:[jG,q])(a:[ii,e::q]):[aq,[fE,e::q],[bZ,f,l]]:=by rw[am,k,y,ps,F,i,J,ff.ex];rw[cs,Y7 F (i.mono (by simp)) d U ff.kp J [aM] ff.ps a j L W,O];rw[ad,e,[ca,[bZ,f,l]]=(do Z.call f (←Ir.cD Z l env)),rfl,[jU,λC s z n#[G,N,g,m]u B I=>?_]];show q7 T _ _ _ _ _ Q E;rw[V,iu,#[C,G,s,z,N,I,u,m]]
def Yw(ff:[v3,0])(q:[dJ])(m:[fm,[gT]])(j:[cq]):[aq,[fE,[]],[bZ,f,[]]]:=by rw[am,k,l,ps,F,L,J,ff.ex];rw[cs,abt F (L.mono (by simp)) q m ff.kp J [aM] ff.ps j,O];rw[ay,e,[bt,[bZ,f,[]]]=(do Z.call f _),rfl,a,h];exact#[[],S,r,F,c,[aM],Y,a]
end
def fE(h:[qJ]):bb (e::l) env=(af,[tH])::bb l env:=[nT,e]
def sy:∀{l},([jv,noStar])->[t_,l].any (·.1)=af|[],_=>rfl|e::l,h=>by rw[e8,aF]at h;rw[V,fE [dK],sy [cW]]
def QE:∀{l},([jv,noStar])->[kp,[t_,l],λx=>! [S]]|[],_=>rfl|e::l,h=>by rw[e8,aF]at h;rw[V,fE [dK],QE [cW]]
def ahi(h:[jv,noStar])(U:[E]<30):ajT ([E]+[Q,([]:List nZ)]) [t_,l] (jl pos (jm [] env))=ae:=by rw[dV,ajT,QE h];rw[fN,jl,jm]
def LK(J:eF o G env (aM o env)=aM o env)(h:[jv,noStar])(q:[E]<30)(U:[hQ,e.endLine]):[Fy,o,G,e,l,env,x,e.atName,do return(←importBound o env).getD ae]:=by show(do let x←eF o G _ _;pb _;methodCall o G _ _ _ _ _ _ _)=_;rw[J];unfold methodCall calleeOf methodCallPos;rw[aV,ahi h q,U]
section
variable{T:Tb}{K:aQ}{r:List ai}{F H:Hp}{S:aj}{E:XK}{Z:Ir.bM}
def a_.hG(c:[bB])(n:H x=ag):x∉r:=λz=>[iT,C,q,c.has z]
def NK(e:[aR,r++[x],n,a]):[AD]\/(n=[gn]/\a=x):=[f]
def tN(r:[h])(x:ai):lx r (r++[x]):=λn a e=>[f]
def bD.made(W:H x=ag)(G:[gZ]):bD r F H (r++[x]) F [xC,p,x,C]:=by rw[ad,kp,∀a o,([jS])->upd [eY,[bn,x]] x (.aW C p []) a=[a'],λa o e=>[a5,[dw],[dw],e],#[λa o e _=>[H,kp a o e],λa o e=>e,[ze],tN r x,[An],[ox]]];rw[ar];{cases q:H a with|none=>rfl|some o=>grind}
def a_.made(c:[bB])(W:H x=ag)(G:[nz]):a_ T K (r++[x]) F [xC,a,x,[gY]] (S++[.aW k []]):=by refine#[by rw[cO,cO,c.len];rfl,?_,[j9],λb h=>?_,λn d b m u=>?_,(c.tab.upd (Bb G)).upd (by rw[aE,x=a];(rw[q,bW];trivial);(rw[aX q,W];trivial))];{rw[cm,g8,[J']];rw[ae,dL.mp L,e,c.hG W (e▸J)]};{have z:=c.sub b o e;rw[a5,[dw],[dw],z]};{rw[aZ,cs.mp h,h,h,c.off b h];{rw[V,dL.mp h,c.hV W]}};{rw[bX,NK u,u,rfl,rfl];{(have U:n<[ad]:=by rw[<-c.len];grind);rw[ap,lK U,m,o,j,c.has (cG u)];exact [kG,b,m,u].step (tN r x) [gK] (by rw[[dw],[dw]])};{rw[c.len,[zI],JB]at m;rw[aU,m,#[a,[],bW,by rfl]]}}
def al.newD{Q:VK}(c:[bB])(h:[hd,K,Ir.newD Z k l S,s,C,J])(e:[cg])(m:[E]+1=np)(W:H x=ag)(G:[gZ]):q7 T K (Z.call (Z.init k)) np ([eA]::B) [xC,p,x,[gY]] (λv L=>v=[aY]/\Q [eA] L) E:=by rw[aY,a,bD.made (r:=r) (F:=F) (C:=[gY]) W G,#[[hh]::l,S++[.aW k _],r++[x],F,c.made W G,.cons ?_ [m',a.pre,a.fr,e],[f],?_]];{rw[bm,x,Y];rw[<-c.len,[zI],JB];rfl};{rw[al,Ir.newD,h];cases q:Z.call _ _ _ with|ok d i=>(rw[q]at h;cases d with|a0=>intro O u L z j v e;rw[ai,#[e,h _ _ _ [iM,z] j _ ?_],#[x,Y,z.pre _ _ ?_]];rw[<-c.len,nT [f],JB];rfl|_=>rw[av,h])|ex _ _ _=>rw[bY]|bad=>rw[bY]}
end
structure Ek (T : Tb) (Z : Ir.bM) (X : Cx) (E : XK) (c np : Nat) : Prop where
 m4 : Mk X.K (T.eB c) (T.cU (Z.init c))
 ff : qL T Z X E (Z.init c) np
section
variable{T:Tb}{Z:Ir.bM}{E:XK}{X:Cx}
def RX(cf:Ek T Z X E k ([E]+1))(d:[dJ])(U:[fm,[gY]])(j:[cq])(L:[il,q])(s:[jG,q])(f:[ii,e::q]):[aq,[fE,e::q],.new k l]/\[aq,[fE,e::q],.lS k l]:=by rw[am,v,A,ps,F,g,J,cf.ff.ex];have pe:=Xb (p:=p) cf.m4 F g d U J [aM] cf.ff.ps f j L s;rw[a8];{rw[cs,pe,O];rw[fa,[bt,.new k l]=(do Ir.newD Z k (←Ir.cD Z l _)),m]};{refine .of (b9 pe [wF,O]) [bL] (by simp);rw[fa,[bt,.lS k l]=(do let i←Ir.cD Z l _;Ir.gc _),m.gc I]}
def adu(cf:Ek T Z X E k 1)(q:[dJ])(m:[fm,[gY]])(j:[cq]):[aq,[fE,[]],.new k []]:=by rw[am,B,l,ps,F,L,J,cf.ff.ex];rw[cs,aaN cf.m4 F L q m J [aM] cf.ff.ps j,O];intro x e a G W;exact al.newD c (h) [aM] Y a G
def al.lw{K}{f:[z2]}(c:[bB])(h:[cN])(a:[hT,Ir.lw k d]):(∃p x fs l,v=[dq]/\H p=aa (.aW [gY] x fs)/\[sc])/\[hs,()]:=by rw[da,Ir.lw k d,Ir.lw];cases q:Ir.bH d S with|ok G j=>(rw[M,z,rfl,An c [H,h] q];rw[q]at a;cases G with|obj C l=>simp only at a;rw[b,e,C=k];{rw[am,p,x,fs,e,m,z,z];grind};{rw[bn,aw e,a]}|_=>rw[av,a])|ex c B j=>rw[bn,q,a]|bad=>rw[bn,q,a]
def dA.ES{K}(m:∀f,[kL]≠G):∀{l}{fs},([sc])->[lt,G]=ag|[],fs,h=>[fn,dA]|[fY,d],fs,h=>by obtain⟨v,ws,rfl,_,q⟩:=h;rw[Y,uI,uv.mpr λz=>m k z.symm];exact dA.ES m q
def abO(ft:[hb])(ff:[v3,[E]+1])(s:pM X.K [gY] G [gT])(O:∀f,[kL]≠G)(j8:[kp,e::a,noStar])(z:[Q,e::a]<30)(U:[hQ,b.endLine])(d:[aq,[s'],i])(A:[ii,e::a]):[aq,[en,[s'],G,b,e::a,pos],.bG k i f l]:=by rw[am,kk,fd,ps,F,hr,J,ff.ex];refine .of (b9 (V6 d.pe (ft.cls k) s F (hr.mono (by simp)) J [aM] ff.ps A (fE [f]) (sy [f]) (LK Y j8 z U)) [wF,j]) [bL] (by simp);rw[ad,e,[ca,.bG k _ f l]=(do let x←[ca,i];Ir.lw k x;let y←[ti,l];Z.call f (x::y)),rfl,[iu,j,[tr,λx r1 n H1#[S1,L,o,m]v I=>?_]]];obtain⟨⟨p,dx,fs,fl,rfl,w,g⟩,g1⟩:=m.lw L I;refine#[p,dx,fs,Y,w,g.ES O,env,j,S1,r1,n,L,[fA,o],g1.bind.mono λds N F2 H2#[t,c2,W,u]z B q=>?_];show q7 T _ _ _ _ _ Q E;rw[V,iu,#[x::ds,t,N,F2,c2,[bF,[eM,W.pre,W.fr,I],q],by rw[b7,z],u]]
def aeX(ft:[hb])(ff:[v3,1])(L:pM X.K [gY] G [gT])(O:∀f,[kL]≠G)(U:[hQ,t.endLine])(z:[aq,[s'],a]):[aq,[en,[s'],G,t,[],pos],.bG k a f []]:=by rw[am,A,g,ps,F,i,J,ff.ex];rw[cs,agS z.pe (ft.cls k) L F (i.mono (by simp)) J [aM] ff.ps (LK Y Y ([af]) U),B];rw[ad,e,[ca,.bG k _ f []]=(do let x←[bt,a];Ir.lw k x;let y←[ti,[]];Z.call f _),rfl,[iu,B,[tr,λx s d w#[l,I,n,m]v q=>?_]]];obtain⟨⟨p,N,fs,fl,rfl,u,W⟩,j⟩:=m.lw I q;rw[bd,g2,j,#[p,N,fs,Y,u,W.ES O,[x],l,s,d,I,[hH,q],Y,g2]]
def adi{ok:Nat->[P]}(m:PE X [dx] G)(u:∀k,ok k->qL T Z X E k np)(i:PA X (e::l) t)(O:[il,l])(U:[jG,l]):[cn,[fE,e::l],λσ H Q=>G σ H λy z=>∃k,y=[m,T.cU k]/\ok k/\t σ z λB n=>q7 T X.K (Z.call k) np B n Q E]:=by rw[bP,Q,nY (a8 (m _ s _ H _ I h) λC L#[y,o,a,N,k,W,d,q]=>?_),W,C=da _,N];have ff:=u k d;rw[am,A,g,ps,F,f,J,ff.ex];rw[d8,C7 I.ok.mod.tF ff.kp [eU,i _ _ _ _ _ _ a q,us,P,B,z,j,r,q,#[j.dW,?_]] O U,xr F (f.mono (by simp)) J [aM] ff.ps j r [f]]
def ac9(U:∀k,Z.ar k=[E]->qL T Z X E k [E])(z:[aq,[dx],G])(i:[ii,e::j])(a:[kp,e::j,noStar]):[aq,[fE,e::j],.lh G l]:=by rw[e8,aF]at a;rw[cs,adi z.pe U i (fE a.1) (sy a.2),O];rw[ad,e,[ca,.lh G l]=(do match←Ir.ah Z _ env with|[pz]=>(if Z.ar f=[E]then do Z.call f (←Ir.cD Z l _)else Ir.bad)|_=>Ir.bad),rfl,[gD,g,J,o,t,y,W,d]];cases x with|fn k=>rw[M,C,n,[vc,m]];rw[d8,#[k,d,C,env,O,t,g,J,y,[fA,W],n.bind.mono λA L s b#[I,N,w,u]z B q=>?_],#[A,I,L,s,N,q,z,u]]|_=>rw[av,m]
end
def j6(T:Tb)(K:aQ)(J:It)(Q:[bc])(I:Hp)(l:[al]):[P]:=∀(r:[bc])(F H:Hp),lx Q r->Le I F->Le F H->(J.stop [E] H)/\[lY,i,d,D,[aZ,l,d],J.go i H/\∀x e,J.AT i H x e->∃C,Le F C/\Le C e/\Le H e/\[Ck,C a,F a,H a,[jS]]/\[sJ,e a=ag]/\aG T K r C d x]
def j5 (T : Tb) (K : aQ) (Z : Ir.bM) (E : XK) (k : Nat) (l : List Ex) : TI := fun σ H R => ∃ env O S r F, a_ T K r F H S ∧ cJ T K r F H σ env O ∧
 al T K r F H ((do Ir.ez k (← Ir.cD Z l env)) S) (fun B j x e => B.length ≤ lim → ∀ J, j6 T K J j x B → R J e) E
section
variable{T:Tb}{K:aQ}{r:List ai}{F H:Hp}{S:aj}
def a_.zD(c:[bB])(h:a∈r)(e:H a=[hN,B]):False:=by rw[K,n,m,z,qD.mp h];rw[R,L,c.len▸m,q,[kG,a,cQ L,[f]]];cases O:S[n]with|aW k l=>rw[O]at q;obtain⟨_,_,q,_⟩:=q;grind|lst l=>rw[dd];grind|aV l=>rw[dd];grind
def j6.N7(c:[bB])(m:Le F x)(u:Le x W)(U:Le H W)(L:[Ck,x a,F a,H a,[jS]])(O:[sJ,W a=ag]):bD r F H r x W/\[pp,x,W]:=by rw[a3,#[λa o e _=>[H,U a o e],m,λa o e=>(L a o e).imp id (Or.imp id λ#[B,h,j]=>#[B,h,j,λz=>c.zD z (h▸j)]),[c0],[mw],O],#[c.len,c.nd,u,λa J=>?_,λn G a h j=>?_,c.tab.LU U (by cases q:x _ with|none=>rfl|some o=>rcases L _ o q with z|z|⟨B,h,z⟩;{rw[az,c.tab.1,z,z]};rw[aq,[c_,Y,c.tab.ne (Bb z)],[c_,Y,c.tab.ne (by rw[z,h];trivial)]])]];{cases q:x a with|none=>rfl|some o=>rcases L a o q with z|z|⟨B,h,z⟩;{rw[az,c.off a J,z,z]};{rw[iT,C,e,c.has J]};{rw[bF,c.zD J (h▸z)]}};{rw[aG,o,d,c.has (cG j),[kG,a,h,j].step [c0] m [f]]}
def ZA(h:[vT])(q:[cg]):[mX,AO K a,l]:=[FR,[cL,e]]
def aaY(h:F a=[hN,B])(q:[cg]):[mX,G0 K a,l]:=[FR,cx.of e]
def Ru(lo:Int)(n:Nat):[mX,xl lo n,[jA,n,[l,lo+i]]]:=by intro j C W p f s;rw[a3,by show n<=_;simp,[sx]];rw[dQ]at hd;have q:i<n:=[f];rw[gH,cQ [f],uf,hd];rw[a3,q,λx h#[z,I]=>?_];subst z I;exact#[C,[gK],s,[gK],[ze],λ_ e=>e,[b3]]
def ag7(s:[h]):[mX,DM [g7],s.map λc=>[K,[c]]]:=by intro J C W p f z;rw[a3,by show [g7].cps.size<=_;simp,[sx]];rw[dQ]at hd;cases e:s[i]? with|none=>rw[bb]|some c=>rw[az,e,hd,hd];rw[a3,[h_,i<[g7].cps.size],λx L#[h,j,q,I]=>?_];subst h I;(have:[g7].cps[i]?=s[i]?:=by simp);rw[this,e]at q;rw[aU,q,#[C,[gK],z,[gK],[ze],λ_ e=>e,[dE]]]
def wM(s:Le C z)(n:z t=ag)(hd:aG T K h C d x)(O:aG T K h C e y):∃J,Le C J/\Le J (upd z t [kz])/\Le z (upd z t [kz])/\[Ck,J a,C a,z a,z a=[a']]/\(∀a,upd z t [kz] a=ag->z a=ag)/\aG T K h J [bk,d,e] [m,t]:=by rw[a0,j,C t=ag,by cases q:C t with|none=>rfl|some o=>grind,l,Le C (upd _ t [kz]),λa o e=>[nm,e],#[upd _ t _,l,[sI],[sI],[sI],[ox],?_]];{rw[dM,a=t];{rw[aX q]at e|-;grind}};{rw[V,aX (iF e n),e]};{rw[aE,a=t];rw[ar];{rw[aX q]at e;grind}};{rw[cT,a,t,e]};{exact .P4 j (by show 2<=lim;rw[af]) [bF,hd,[hH,O]]}
def ac0(h:[vT])(q:[cg]):[mX,Fz K a,[rT,[Z]]]:=by intro U O J p f s;rw[d7,G]
def aaw(h:[vT])(U:F b=[ls,ws])(q:[cg])(O:[fr,z,ws]):[mX,DD K a b,[fb,l.zip z,[n1]]]:=[Fp,[cL,G]]
end
section
variable{T:Tb}{Z:Ir.bM}{E:XK}{X:Cx}
def qY(h:PI X B e t)(q:∀σ H R,t' σ H R->t σ H R):PI X B e t':=λpins s σ H R I z=>h _ s _ H R I [u4]
def adW(U:PE X l tl):PI X i l (λσ H R=>tl σ H λx z=>(∃a,[gA,∃G,bp X.K z a G,R (AO X.K a) z])\/∃a,[gA,∃G,cx X.K z a G,R (G0 X.K a) z]):=by rw[aS,R,h,[dL,[uO],v,L,x,z,j,d,B]];rcases B with⟨a,e,⟨G,m⟩,q⟩|⟨a,e,⟨G,m⟩,q⟩;{subst e;cases d;rw[ag,az,W,p,u,j.list m];rw[ai,sf [kC] ?_,#[L.heap.objs.size,[[gb]],_,_,z,Y,j.kept (t':=L.toks) [rj],QJ a _,[mv],[fo],q]];have e:b=[gb]:=[f];rw[bh,e,j.ju (by simp) (j.aO.fresh (by simp))]};{subst e;cases d;rw[ag,az,W,p,u,j.tuple m];rw[ai,ajV [aA,L.heap.IsTuple a _,p] ?_,#[L.heap.objs.size,[[gb]],_,_,z,Y,j.kept [rj],aey a _,[mv],[fo],q]];rw[cQ,j.ju [f] (j.aO.fresh (by simp))]}
def Ew{a:V->[dM]}(h:j5 T X.K Z E k [C] σ H R)(L:∀d r F H S v,([gR])->([qH,d])->([jV,X.K,Ir.ez k [d] S,λl j z q=>([hk])->∀J,j6 T X.K J j z l->R J q])->a v H):[nU,C,a]:=by rw[cn];(have e:(do [lL,←Ir.cD Z [C] env])=(do let x←[bt,C];[lL,[x]]):=by funext S;show [mL,Ir.M.bind _ _,S]=[qE,S];unfold Ir.M.bind Ir.M.pure;rw[bz,[zC]]);rw[ae,e,h,[jU,[f]]]
def afN(O:[d']):[kd,i,e,0,[a]]:=[ot,adW O.pe,Ew h λd r F H S v c I g=>by cases d with|lst l=>rw[cg,m,I,[H,#[p,Y,#[B,[cL,[fk,m]]],al.pure c g U _ (ZA m q)]]]|tup l=>rw[cg,m,I,[aC,#[p,Y,#[B,[jB,m]],al.pure (a:=l) c g U _ (aaY m q)]]]|_=>rw[aL]]
def YB(O:[d']):[kd,B,e,7,[a]]:=[ot,ab0 O.pe,Ew h λd r F H S v c q g=>by cases d with|str s=>rw[aG,U,g,al.ite [wY],#[_,q.gb,[uQ,ag7 s]]]|_=>rw[aL]]
def xT(h:j5 T X.K Z E k l σ H R)(q:∀G r F H S B,([gR])->aY T X.K r F G B->([jV,X.K,Ir.ez k G S,λG j x e=>[gq]<=lim->∀J,j6 T X.K J j x G->R J e])->a B H):h_ T X.K Z E l σ H a:=by rw[cn];exact [jU,[f]]
def abX(e:[Av])(O:[zm])(J:[ii,[a]])(x:[pD,a,a]):[kd,I,[kU,"range",[a]],1,l]:=[ot,V' e O J x,xT h λG r F H S B c q g=>by match G,q,g with|[d],q,g=>(cases d with|int n=>rw[c3];rw[ab,v,ws,rfl,m,u,q.dP];rw[u.fY,m.cg];rw[ad,z,lim<[ko],[af],#[n,Y,U.1,[g],al.pure c g [f] _ ?_]];rw[ch,Ru (T:=T) (K:=X.K) (r:=r) (F:=F) 0 [fw]]|_=>rw[aL])|[],q,g=>rw[aL]|[_,_],q,g=>rw[aL]|[os],q,g=>rw[aL]]
def aeU(J:[Av])(O:[zm])(I:[ii,[ig]])(x:[Jr])(z:[rg]):[kd,C,[kU,"range",[ig]],2,l]:=[ot,aaC J O I x z,xT h λj r F H S B c q g=>by match j,q,g with|[d,e],q,g=>(cases d with|int G=>(cases e with|int n=>rw[c3];rw[ab,v,ws,rfl,m,u,q.dP];rw[ab,s,i,rfl,L,W,u.dP];rw[W.fY,m.cg,L.cg];exact#[G,n,Y,#[U.1.1,U.1.2,[ak,U].1,[ak,U].2],[uQ,Ru G _]]|_=>rw[aL])|_=>rw[aL])|[],q,g=>rw[aL]|[_],q,g=>rw[aL]|[os],q,g=>rw[aL]]
def adQ(z:[zh])(O:[yD])(J:[ii,[a]])(x:[pD,a,a]):[kd,.Tuple I f t,[kU,"enumerate",[a]],3,l]:=[ot,ae6 z O J x,[FE,j,ac0 L j]]
end
def gT(K:aQ):([aj])->TG|[i]=>lg i|[i,j]=>L7 K 2 (Hb (lg i) (Hb (lg j) QW))|_=>λ_ _ _ _=>False
section
variable{T:Tb}{K:aQ}{r:List ai}{F H:Hp}{S:aj}
def cJ.set(h:[nG,e])(I:[cN]):cJ T K r F H [oo,v] [qi] O:=by refine [B_,h.len,m,u,B,L];{rw[aE,i=j];{subst q;rw[b,z,i<e.length];{rw[rZ z]at m;rw[az,rZ [q,h.len,z],u,m];rw[aU,u,#[v,Y,I]]};rw[bb]};{rw[gm q]at m u;exact h.at_ j s x m u}};{rw[br,a,[oh,C,D,[qi],[bn,C],[ce,e,[bn,C]]],[HL],h.inj j k _ _ (a j _ m) (a k _ u) L]}
def cJ.b6(h:[nG,e]):∀t,cJ T K r F H [qN] [vZ] O|[]=>h|i::t=>by have U:=cJ.b6 h t;unfold L2.b6 Ir.b6;refine [B_,U.len,m,u,d,L];{rw[aE,i=j];{subst q;rw[b,z,i<[Q,[vZ]]];{rw[dg,rZ z,m,True.intro]};rw[bb]};{rw[gm q]at m u;exact U.at_ j s x m u}};{rw[br,a,[oh,C,D,[vZ].set i [W],[bn,C],[ce,[vZ],[bn,C]]],[HL],U.inj j k _ _ (a j _ m) (a k _ u) L]}
inductive ya(σ:L2.St):([aj])->L2.St->[P]|one(i:Nat)(v:V):ya σ [i] [oo,v]|two(i j:Nat)(v w:V):ya σ [i,j] ([oo,v].set j (aa w))
def ML(c:[bB])(h:[nG,e])(I:[h7,d,x])(J:Ir.fX e t d=aa C)(q:∀G,cJ T K r F H G C O->ya σ t G->Q G H):gT K t x σ H Q:=by match t,J with|[],J=>cases J|[i],J=>rw[aU,J,q _ (h.set I) (.one i x)]|[i,j],J=>(cases d with|tup l=>(match l,J with|[y,z],J=>cases J;obtain⟨a,B,rfl,L,_,p⟩:=I;rw[ab,v,ws,rfl,m,u,p.dP];rw[ab,w,us,rfl,U,W,u.dP];rw[ae,W.fY,L,#[a,[v,w],Y,[jB,L],Y,v,[w],Y,w,[],Y,Y,q _ ((h.set m).set U) (.two i j v w)]]|[],J=>cases J|[_],J=>cases J|[os],J=>cases J)|_=>cases J)|[os],J=>cases J
def xY(σ:L2.St)(j:Nat):∀t,[qN][j]?=[A,j∈t/\j<[ho],aa ag,σ[j]?]|[]=>by rfl|i::t=>by unfold L2.b6;rw[aE,i=j];{subst q;rw[b,z,i<[ho]];{rw[rZ [q,rA,z],aJ [f]]};{rw[mz ([eG,rA]),[nw],mz [g]]}};{rw[gm q,(xY _ j t)];grind}
def Bk(h:i∈t):L2.b6 (σ.set i y) t=[qN]:=by apply my;intro j;rw[xY,xY];grind
def Hl(σ:L2.St)(t:[h]):L2.b6 [qN] t=[qN]:=by apply my;intro j;rw[xY,rA,xY];grind
def ya.agh(h:ya [qN] t B):L2.b6 B t=[qN]:=by cases h with|one i v=>rw[Bk (by simp),Hl]|two i j v w=>rw[Bk (by simp),Bk (by simp),Hl]
end
def bD.put(a:bD j Q z r F H)(n:z p=ag):bD j Q z r F [eY,o]:=by refine#[λb C e nb=>?_,a.fr,a.nf,a.pre,a.nr,λb e=>?_];{rw[V,[dw],a.keep b C e nb]};{rw[cT,b,p,a.fR b e]}
def EF:XK:=[EM]
def fW (Z : Ir.bM) (I : Ex) (t : List Nat) (a : List Ex) (w : Ir.Env) (d : D) : Ir.M (Option D) := do
 let e ← Ir.bC (Ir.fX w t d)
 match a with
 | [] => do Ir.M.pure (aa (← Ir.ah Z I e))
 | c :: _ => do
  let b ← Ir.eP (← Ir.ci (Ir.ah Z c e))
  if b = ae then do Ir.M.pure (aa (← Ir.ah Z I e)) else Ir.M.pure ag
def aet:Ir.ah Z [yI] e=(do let B←[lL,←Ir.cD Z it e];let l←Ir.eJ (fW Z I t d [vZ]) B;[b1,[aW]]):=[bz,d]
def qQ(T:Tb)(K:aQ)(Z:Ir.bM):([iV])->TT|[]=>vt|c::_=>kx T K Z EF c
section
variable{T:Tb}{Z:Ir.bM}{E:XK}{K:aQ}
inductive m8(T:Tb)(K:aQ)(H0:Hp)(Q:VK):(D->([bc])->Hp->[dM])->[P]|fz:m8 T K H0 Q λd r' F' H'=>[tQ,K,r',F',H']|ow:m8 T K H0 Q λd r' F' H'=>∀p,H0 p=ag->F' p=ag->p∉r'->fZ T K r' F' H' p d->Q [dq] H'
def fB(T:Tb)(K:aQ)(Z:Ir.bM)(E:XK)(e:Ex):TE:=λσ H Q=>∃env O S r F a,m8 T K H Q a/\[bB]/\[iJ]/\[jV,K,[qk,e],a]
def tFr(T:Tb)(K:aQ)(Z:Ir.bM)(E:XK)(e:Ex):TE:=[EY,[qk,e],∀p,([gZ])->x p=ag->p∉j->fZ T K j x q p d->Q [dq] q]
def x6(h:cT T K Z E e σ H Q):fB T K Z E e σ H Q:=[JC,.fz]
def ED(h:tFr T K Z E e σ H Q):fB T K Z E e σ H Q:=[JC,.ow]
def m8.lst(A:m8 T K t Q X)(h:∀i s W,bD N x d i s W->a_ T K i s W I->X [aW] i s W)(G:t p=ag)(n1:d p=ag)(k:Le x d)(a:bD N x d L O m)(c:a_ T K L O m I)(nr:p∉L)(j:O p=ag)(u:m p=[ls,B])(U:[hk])(f:aY T K L O l B):Q [dq] m:=by(have g:x p=ag:=by cases q:x p with|none=>rfl|some C=>grind);cases A with|ow=>exact h _ _ _ a c p G j nr #[B,u,U,f]|fz=>rw[D,y,bD N x d L (upd O p [ax,B]) m,[Gh],P,a_ T K L (upd O p [ax,B]) m I,[F6,cc,w,v,[dC,[hl,[jb,z,j,e],e]],NQ u,u]];exact h _ _ _ y P _ (.PL j U f)
def al.xq(O:m8 T K I Q a)(c:[bB])(h:[jV,K,[s7,[ih,l]],a])(U:[hk])(q:[cg])(G:I p=ag)(n:[gZ]):Q [dq] [eY,[ax,B]]:=O.lst h G n c.sub [bn,n] [xw] (c.hG n) [rp] bW U q
def Hd(h:fB T K Z E (.comp I t k it ej) σ H Q):sW (j5 T K Z E k it) (gT K t) (qQ T K Z ej) (cT T K Z E I) t σ H Q:=by obtain⟨env,hX,S,r,F,R9,nw,c,P,h⟩:=h;rw[aet]at h;rw[aH,e0,(do let ds←[lL,←Ir.cD Z it env];let l←[uq,ds];[b1,[ih,l]])=(do let ds←(do [lL,←Ir.cD Z it env]);let l←[uq,ds];[b1,[ih,l]]),by funext S;rw[bJ,Ir.M.bind [ti,it] (λx=>Ir.M.bind [lL,x] _) S=[mL,Ir.M.bind [ti,it] λx=>[lL,x],S]];rw[bz,Ir.cD Z it env S],e0,h];refine [iu,hX,[tr,λds r1 F1 H1#[S1,c1,a1,m]U qh hJ=>?_]];intro A nA;generalize Su:(do let l←[uq,ds];[b1,[ih,l]]) S1=X at m;rw[bm,λi G H'=>∃r F S N B,G=[h1]-i/\i<=[h1]/\[AK,H',H' A,N,[eu],i],#[ds.length,r1,F1,S1,[],[],by simp,[f7],(bD.refl).put nA,c1.own (c1.hG nA) (c1.hV nA),c1.hG nA,c1.hV nA,bW,[aM],[f7],[aD,Su]]];rintro i G H2⟨r2,F2,S2,N,B,rfl,hi,a2,c2,nr,j,hA,vX,fS,u⟩;rw[M,y1,y2,[La]];rw[aE,i=[h1]];{subst q;refine [H,#[y1,?_]];rw[Jo]at u;rw[aH,u,Ir.R.ok [ih,N++[]] S2=X,u,iu,u];rw[aP,u,m];exact nw.lst m (a1.fR A nA) nA c1.sub a2 c2 nr j hA [g] vX};{rw[eB,i<[h1],ds.drop i=d::[sU]];rw[D,step,∀(o:[bg,D])(S3:aj),[r7]=[be,o,S3]->(do let l←[uq,[sU]];[b1,[ih,(N++o.toList)++l]]) S3=X,λo S3 e=>by rw[<-u];rw[bJ,[mL,Ir.eJ _ _,S3]=[AR]];rw[e];rw[bp];cases Ir.eJ (fW Z I t ej [pZ]) [sU] S3 with|ok l s=>cases o<;>simp[Ir.M.pure]|ex _ _ _=>rfl|bad=>rfl,stop,∀(f:Nat)(xs:[al])(S3:aj),[r7]=.ex f xs S3->X=.ex f xs S3,λf xs S3 e=>by rw[<-u];rw[bJ,[AR]=_];rw[e]];rw[ad,w,[r7]≠[aX],λe=>by(have:X=[aX]:=by rw[<-u];rw[bJ,[AR]=_];rw[e]);rw[ae,this,m,m],[aC,#[go,λH'=>∃r F S N B,[aa]<=[h1]/\[AK,H',H' A,N,[eu],[aa]],λH'#[r,F,S,N,B,z1,z2,z3,z4,z5,z6,z7,z8,z9]=>#[[h1]-[aa],[g],r,F,S,N,B,Y,z1,z2,z3,z4,z5,z6,z7,z8,z9],λx H3 L=>?_]]];rw[e7];rw[ah,Cv,a2.trans a3,Sv,F3 A=ag,by cases q:F3 A with|none=>rfl|some o=>rcases l4 A o q with z|z|⟨_,e1,z⟩;{rw[az,j,z,z]};{rw[az,z,hA,hA]};{rw[gH,hA,e1,z]}];rw[R,O,n _ _ hA,Sw,[m',[c0],l1,vX]];cases J:Ir.fX [pZ] t d with|none=>exfalso;apply w;unfold fW;rw[a_,J]|some e2=>refine ML c3 (([fA,a1].b6 t).step Cv) v3 J λCi v4 bd=>#[bd.agh,?_];(have fj:∀(r5:[bc])(F5 H5:Hp)(S5:aj),bD r2 F3 H3 r5 F5 H5->a_ T K r5 F5 H5 S5->(∀y a,[qL,S5]=[be,y,a]->[r7]=[be,aa y,a])->(∀f xs a,[qL,S5]=.ex f xs a->[r7]=.ex f xs a)->([qL,S5]=[aX]->[r7]=[aX])->cT T K Z E I Ci H5 λy H4=>∃N,H4 A=[ls,N]/\[eu]<bS/\(∃r F S HV B,[aa]<=[h1]/\[AK,upd H4 A [X,N++[y]],(upd H4 A [X,N++[y]]) A,HV,HV.length,[aa]]):=by intro r5 F5 H5 S5 a5 c5 k1 k2 k3;refine#[e2,hX,S5,r5,F5,c5,v4.step a5,?_];cases ev:[qL,S5]with|ok y a=>intro r6 F6 H6 a6 c6 v hv;rw[R,v5,a5.trans a6,Sx,[sZ,v5.nr A z,nr,λz=>[az,z,O,O]]];rw[ay,Sy,F6 A=ag,by cases q:F6 A with|none=>rfl|some o=>rcases v5.nf A o q with z|z|⟨_,e1,z,_⟩;{rw[az,Sv,z,z]};{rw[az,z,O,O]};{rw[gH,O,e1,z]},hA6,v5.kp O nr [r0]];refine#[B,hA6,by rw[vX.length,<-lP];omega,r6,F6,a,N++[y],B++[v],C,?_,c6.own Sx Sy,Sx,Sy,bW,[m',v5.pre,v5.fr,Sw].append [hH,hv],by rw[cO];rw[bE],?_];rw[aq,(Cv.trans v5).put nA,step (aa y) a (k1 y a ev)]|ex f xs a=>intro r6 F6 H6 W a6 c6 L;rw[ae,stop f xs a (k2 f xs a ev),m,m r6 F6 H6 W [bY,Cv.trans a5,a6] c6 L]|bad=>exact w (k3 ev));match ej,J,step,stop,w,fj,u,Su with|[],J,step,stop,w,fj,_,_=>rw[[iP,qQ T K Z []=vt]];unfold vt;dsimp only;rw[aJ Y];rw[br,e5,∀S,fW Z I t [] [pZ] d S=[Lh,S],λS=>by rw[dV,fW,J];rw[bJ,[mL,Ir.ah Z I e2,S]=_];rw[bz,[qL,S]],fj r2 F3 H3 S2 .refl c3 (λy a e=>by rw[e5,e]) (λf xs a e=>by rw[e5,e]) (λe=>by rw[e5,e])]|g::gs,J,step,stop,w,fj,_,_=>rw[ak,e5,∀S,fW Z I t (g::gs) [pZ] d S=[gh,Ir.ah Z g e2 S,[be,[bj,ae],S'],[Lh,S'],[be,[bj,af],S'],[be,ag,S'],[aX]],λS=>by rw[dV,fW,J];show [mL,Ir.ci (Ir.ah Z g e2),S]=_;unfold Ir.M.bind Ir.ci;cases Ir.ah Z g e2 S with|ok b S'=>(cases b with|bl b=>(cases b with|true=>rw[bJ,[mL,Ir.ah Z I e2,S']=_];cases hq:[qL,S']<;>simp only[hq]<;>rfl|false=>rfl)|_=>rfl)|ex _ _ _=>rfl|bad=>rfl,[iP,qQ T K Z (g::gs)=kx T K Z EF g]];refine#[e2,hX,S2,r2,F3,c3,v4,?_];cases ev:Ir.ah Z g e2 S2 with|ok b s=>(intro r4 p H4 a4 c4;cases b with|bl b=>(rw[bm,b,Y];cases b with|true=>rw[V,aJ Y,fj r4 p H4 s a4 c4 (λy a e=>by rw[e5,ev];rw[aa,e]) (λf xs a e=>by rw[e5,ev];rw[aa,e]) (λe=>by rw[e5,ev];rw[aa,e])]|false=>rw[aw iN];rw[ad,nF4,p A=ag,by cases q:p A with|none=>rfl|some o=>rcases a4.nf A o q with z|z|⟨_,e1,z,_⟩;{rw[az,Sv,z,z]};{rw[az,z,O,O]};{rw[gH,O,e1,z]},#[r4,p,s,N,B,C,Cv.trans a4,c4,[sZ,a4.nr A z,nr,λz=>[az,z,O,O]],nF4,a4.kp O nr [r0],[m',a4.pre,a4.fr,Sw],[g],?_]];have:=step ag s (by rw[e5,ev]);rw[aD,this])|_=>rw[bF,[DM]])|ex f xs s=>rw[bF,[DM]]|bad=>rw[bF,[DM]]}
end
section
variable{T:Tb}{Z:Ir.bM}{E:XK}{X:Cx}
def Zz(U:[hk])(h:[ii,a]):[l6,.List a pos,[aW]]:=b9 (Qu h) λσ H Q#[env,O,S,r,F,d,G,c,P,h]=>[br,e,[ca,[aW]]=(do [b1,[X,←Ir.cD Z l env]]),rfl,[Bf,x,s,al.xq G I m [f] q (z.fR p n) n]]
def Pf(q:∀H0 a d r F H S v Q,m8 T X.K H0 Q a->(∀p,([gZ])->H0 p=ag)->[Lv,[jV,X.K,Ir.dk o d S,a]])(h:fB T X.K Z E (.b1 o l) σ H Q):[CN,l,tw]:=by obtain⟨env,O,S,r,F,a,s,c,P,h⟩:=h;rw[ad,e,[bt,.b1 o _]=(do Ir.dk o (←Ir.bH (←Ir.rd l _ _))),rfl,[gD,C,J,L,j,B,z,I]];rw[bx,d,hd,g,al.kn B I m,q H _ d _ _ _ _ v Q s z.fR B hd g]
def afR(b:Bt X x [jh])(I:[dT])(h:[d']):[l6,[fE,[e]],.b1 [l0] a]:=b9 [xA,Li,h.pr,I] λσ H Q z=>Pf (λH0 C d r F H S v Q G W c hd g=>[FT,al.xq G c g U q (W o n) n]) z
def abF(q:[rg])(W:[eE,a,"split"])(N:[hQ,f.endLine])(L:[eb,j])(J:[jC]):[l6,[en,a,"split",f,[b],pos],.b2 [nr] j l]:=b9 (M7 L.pr J.pe q W N) λσ H Q#[env,O,S,r,F,R9,G,c,P,h]=>[FB,A,d,o,w,e,i,i.bind.mono [CT,B,z],al.xq G B g ?_ (aY.E8 _) ((e.trans z).fR p n) n]
def agP:[l6,[yV],.i5 b]:=by cases b with|false=>(rw[ad,e,[yy,af],[bL],b9 PV [BB,a]];rw[e]at h;cases G with|fz=>rw[d8,[xn],[xM]]|ow=>exact [Ho])|true=>rw[ad,e,[yy,ae],[bL],b9 MZ [BB,a]];cases G with|fz=>refine [xn];rw[h8,aG,[xM]]|ow=>exact [Ho]
def fc(H0:Hp)(e:Ir.Env)(O:Nat->ai):[P]:=[lY,i,d,D,[aZ,e,[ie]],H0 (O i)=ag]
def gy(T:Tb)(K:aQ)(H0:Hp)(N:lZ):Ir.Flow->([bc])->Hp->[dM]:=λf r F H=>match f with|.nx e=>∀σ O,([nG,e])->fc H0 e O->N.nx σ H|.bk e=>∀σ O,([nG,e])->fc H0 e O->N.bk σ H|[ps]=>∀v,([cN])->N.rt v H
def KD(T:Tb)(K:aQ)(E:XK)(G:Ir.Env->[vu]):TS:=λN σ H=>∃r0 F0 H0 env O S r F,[n7]/\[bB]/\[iJ]/\[s6]/\[k9,K,r0,F0,H0,G env S]
def dX(T:Tb)(K:aQ)(Z:Ir.bM)(E:XK)(s:Ir.Sm):TS:=KD T K E (Ir.bE Z s)
def l6(T:Tb)(K:aQ)(Z:Ir.bM)(E:XK)(l:List Ir.Sm):TS:=KD T K E (Ir.bj Z l)
def eK(h:PS X s t)(q:[LB]):PS X s t':=[Jd]
def N0(h:fO X s t)(q:[LB]):fO X s t':=[Jd]
def P':[qh,[],[]]:=[I8,acA,[Dy]]
def Pr(m:PS X s [rE,G])(u:[qh,C,l]):[qh,s::C,G::l]:=[I8,Zy m u,by refine#[r0,F0,H0,env,O,S,r,F,a,c,P,A,?_];rw[aH,e,Ir.bj Z (G::l) env S=(match [qm,G]with|[dA,z,p]=>Ir.bj Z l z p|[be,f,p]=>[be,f,p]|[iX,p]=>[iX,p]|[aX]=>[aX]),by rw[bJ,[qE,S]=_];cases Ir.bE Z _ _ S with|ok f p=>rw[bz,f]|ex _ _ _=>rfl|bad=>rfl,e,h];cases q:Ir.bE Z _ _ S with|ok f p=>(rw[q]at h;cases f with|nx z=>intro J Q U i L I j W x;exact#[r0,F0,H0,z,j,p,J,Q,i,L,W,x,h]|bk z=>exact h|rt d=>exact h)|ex _ _ _=>rw[ae,q,h,h]|bad=>rw[ae,q,h,h]]
def gh{m:D->Ir.M U}(a:[n7])(c:[gR])(P:[x8])(h:[J7])(k:∀d j Q z p v,[Hn,aG T X.K j Q d v,([k9,X.K,r0,F0,H0,f d p])->G v z]):[nU,J,G]:=by rw[fm];cases q:[zC]with|ok d p=>rw[ae,q,h,λj Q z L I v u=>k d _ _ _ _ v L [iM,L] I [fA,L] u h]|ex c B p=>rw[ae,q,h,λj Q z W L I x=>h _ _ _ _ [iM,L] I x]|bad=>rw[bY]
def fc.set(h:fc H0 e O):fc H0 [qi] O:=λj C z=>by rw[aE,i=j];rw[ar];{rw[ae,gm q,z,h j _ z]}
def aaJ(hN:X.N.Nodup)(z:[cl])(L:[o_])(q:[j6,e,aa [dx]])(m:[l5])(B:∀G,Ir.jz J G=G)(j:[tz]):[ej,.Assign [[dx]] e pos,[cE,i,J]]:=[du,yr hN z L j.pe q m,r0,F0,H0,O,c,by have u:[Kf,J]:=rfl;rw[u,B]at h;exact gh (m:=[pQ]) a c P h λd n Q l f v U I C s W g=>g _ _ _ I C _ O (s.set W) A.set]
def afG(x:[j6,e,ag])(q:[tz]):[ej,.Expr e pos,.ex J]:=[du,wV q.pe x,r0,F0,H0,O,c,[br,u,[hU,.ex J]=(do let _←Ir.ah Z _ env;[gg]),rfl,gh (m:=[pQ]) a c P h λd j Q L p v z I B s m g=>g _ _ _ I B _ O s A]]
def Ke(a:[n7])(c:[gR])(P:[x8])(h:[J7])(k:∀d j Q z p,[Hn,[k9,X.K,r0,F0,H0,f d p],∃b,d=[jR]/\G b z]):kx T X.K Z E J σ H G:=by rw[fm];rw[eC,Q,z,L,I]
def aaS(L:[aq,t,t'])(x:[qh,a,l])(J:[qh,b,e]):[ej,.If t a b pos,.iff t' l e]:=[du,agI L.pt x J,r0,F0,H0,O,c,by rw[ad,m,[hU,.iff _ _ _]=(do let k←Ir.eP (←Ir.ah Z t' _);if k=ae then Ir.bj Z l _ else Ir.bj Z e env),rfl,Ke a c P h λd j q W B u I z s g=>?_];rw[aK,k,rfl,g2,g.kG,#[k,Y,?_]];cases k with|true=>exact [I3]|false=>exact [I3]]
def Xp:[ej,.Break pos,.brk]:=[du,ZO,r0,F0,H0,O,c,[Dy]]
def U':[ej,.Pass pos,.ex [tJ]]:=[du,Ww,r0,F0,H0,O,c,[Dy]]
section
variable{K:aQ}{r0 r:List ai}{F0 H0 F H:Hp}{S:aj}{σ:L2.St}{env:Ir.Env}{O:Nat->ai}
noncomputable def lR(P:[gN])(env:Ir.Env)(O:Nat->ai)(F H:Hp):Hp:=open Classical inλa=>[A,∃i d,P i=ae/\[ow,d]/\O i=a,H a,F a]
def oQ(P:[gN])(env:Ir.Env):Ir.Env:=env.mapIdx λi s=>[ap,P i,s.cb,s]
def G4(P:[gN])(c:[bB]):Le F (lR P env O F H):=λa o e=>by unfold lR;split;rw[bS,c.sub a o e]
def agR(N:P i=ae)(h:[ow,d]):lR P env O F H (O i)=H (O i):=[dV,lR,aJ [f]]
def Oy(G:[gN])(c:[bB])(P:[iJ]):[pp,lR G env O F H,H]:=by refine#[c.len,c.nd,[sI],[An],λn x a m u=>[kG,a,m,u].step [f] (G4 G c) Y,c.tab.fr (by rw[dV,lR,aw];{exact c.tab.1};{rintro⟨i,d,_,q,z⟩;rw[br,U,i<[ho],[ba,P.len],c.tab.ne [eQ,[zc,U]].ord (by rw[z])]})];{rw[aC,lR,e];rw[aq,e,c.sub a o e]};{unfold lR;split;{rw[ax,z];obtain⟨i,d,_,q,rfl⟩:=z;rw[br,U,i<[ho],[q,P.len,[dB,q]],[c_,h,[cQ,[zc,U]]]]};{exact c.off a h}}
def Mn(P:[gN])(c:[bB])(a:[n7])(A:[s6]):bD r0 F0 H0 r (lR P env O F H) H:=by refine#[a.keep,a.fr.trans (G4 P c),[j9],a.pre,a.nr,a.fR];rw[aC,lR,e];{rw[ax,z];obtain⟨i,d,_,q,rfl⟩:=z;exact [e6,A i d q]};{exact a.nf b o e}
def MN(G:[gN])(c:[bB])(P:[iJ]):cJ T K r (lR G env O F H) H σ (oQ G env) O:=by rw[ad,a,[lY,i,s,Ir.Slot,[aZ,oQ G env,s],∃L,[aZ,env,L]/\s=[ap,G i,L.cb,L]],λi s e=>by rw[al,oQ,e];grind,#[by unfold oQ;rw[V,List.length_mapIdx,P.len],λi s x W C=>?_,λi j d Q W C J=>?_]];{rw[K,L,I,rfl,a i s W];rw[R,q,P.at_ i _ x I C,le,G4 (env:=env) (O:=O) G c];cases L with|un=>split<;>exact True.intro|val d=>rw[K,v,J,z,q];split<;>exact#[v,J,[eM,[c0],le,z]]|exc B=>split<;>exact q|own d=>rw[ag,J,p,y,z,q];rw[b,N,G i=ae];{rw[aJ N];rw[bm,[dQ],J];have w:=agR (F:=F) (H:=H) (O:=O) N I;cases d with|lst l=>rw[dE,[m',[c0],le,U]]|aV l=>rw[dE,cE.mono [c0] le _ _ U]|bZ l=>rw[dE,cw.mono [c0] le _ _ U]|_=>exact et z};{rw[cm,aw N,#[J,?_,y,z.step [c0] le Y]];rw[dV,lR,aw];{exact p};{rintro⟨j,Q,A,g,n⟩;have:=P.inj j i _ d g I n;subst this;rw[bb]}}};{rw[aM,L,I,h0,a i _ W,t,h,m,a j _ C];rw[aH,f,∀(b:Bool)(s:Ir.Slot)(d:D),Ir.Slot.own d=[ap,b,s.cb,s]->s=[ie],λb s d e=>by cases b with|true=>cases s<;>cases e|false=>grind,f _ _ _ h0,I];rw[ae,f _ _ _ m,h,P.inj i j d _ I h J]}
def VI(P:[gN])(A:[s6]):fc H0 (oQ P env) O:=λi d e=>by rw[al,oQ,e];rw[ajW]at e;cases q:[kA]with|none=>grind|some L=>rw[eK,q,e];rw[b,N,P i=ae];{rw[aJ N]at e;cases L<;>cases e};{exact A i d [f]}
end
def aa8(env:Ir.Env):oQ (λ_=>ae) env=env.map Ir.Slot.cb:=by unfold oQ;apply my;simp
def VJ(q:[tz]):[ej,.Return (aa e) pos,[bl,J]]:=[du,Dy q.pe,r0,F0,H0,O,c,by rw[ay,u,[qA,.ret _]=(do let d←[ca,J];[gg]),rfl,W,MN (λ_=>ae) c P];rw[ae,aa8,W,gh (m:=[pQ]) (Mn _ c a A) (Oy _ c P) W h λd j Q L p v z I B s m g=>g _ _ _ I B v m]]
def US(h:[ow,d]):oQ (λj=>j==i) env=[pb,[g5]]:=by unfold oQ;apply my;intro j;rw[ajW];rw[aE,i=j];{subst q;rw[rZ [f],h];simp[Ir.Slot.cb]};grind
def Z0(e:PS X s [rE,G]):PS X s [rE,.fz i G]:=[du,e,r0,F0,H0,O,c,by rw[aH,z,[hU,.fz i G]=(do let d←[oB];Ir.bE Z _ _),rfl,z,h];cases q:[kA]with|none=>exact [A0]|some sl=>cases sl with|own d=>rw[aH,u,[oB]=[b1,d],by simp[Ir.dh,q],u,h];rw[R,W,MN (λj=>j==i) c P,x,VI (λj=>j==i) A];rw[US q]at W x;exact#[r0,F0,H0,_,O,S,r,_,Mn _ c a A,Oy _ c P,W,x,h]|un=>exact [A0]|val d=>exact [A0]|exc d=>rw[bF,show False by(have:[oB]=Ir.bad:=by simp[Ir.dh,q]);rw[ae,this,h,h]]]
end
section
variable{T:Tb}{K:aQ}{r r0:List ai}{F F0 H H0:Hp}{S:aj}{σ:L2.St}{env:Ir.Env}{O:Nat->ai}{i:Nat}
def ki{U:[aH]}{l:[gw]}{x y}(h:[ce,l.set i x,y]):(j=i/\y=x/\i<[E])\/(j≠i/\[ce,l,y]):=[f]
def cJ.slot(P:[iJ])(h:[aZ,env,s]):∃x,[cT,σ]/\tQ T K r F H (O i) x s:=[br,U,i<[ho],[ba,P.len],#[σ[i],cQ _,P.at_ i _ _ h (by simp)]]
def cJ.DR(P:[iJ])(W:[ow,C])(n:fZ T K r F [Ak] (O i) p):cJ T K r F [Ak] σ [pU,p] O:=by rw[am,x0,h,Q,f0,G,I,P.slot W];refine#[[q,jM,P.len],λj s x U J=>?_,λj k L db U J w=>?_];{rcases ki U with⟨rfl,rfl,_⟩|⟨ne,U⟩;{rw[dg,h,J,#[Q,f0,G,n]]};{have q:=P.at_ j s x U J;cases s with|un=>exact True.intro|val d=>exact q|own d=>rw[dH,a,b,c,z,q,#[a,b,c,z.step [c0] [gK] (aX λe=>ne (P.inj j i d _ U W e))]]|exc B=>obtain⟨a,X,N,i',o,g,y,v,e,m,u⟩:=q;rw[D,na,a≠O i,λe=>by rw[e]at m;cases C with|lst l=>rw[dY]|aV l=>rw[dY]|bZ l=>rw[dY]|_=>exact et I,nd,N≠O i,λe=>by rw[e]at u;rw[dx,C,I,u]];exact#[a,X,N,i',o,g,y,v,e,[ba,aX na],[ba,aX nd]]}};{have f:[oh,d,D,[pU,p],[ie],∃A,[ce,env,[bn,A]]]:=[Ie,#[C,W],#[d,e]];obtain⟨_,t⟩:=f j _ U;obtain⟨_,q2⟩:=f k _ J;exact P.inj j k _ _ t q2 w}
def fc.DR(A:[s6])(q:[ow,C]):fc H0 [pU,z] O:=[Ie,A j _ q,A j d e]
def s0(a:[n7])(c:[bB])(P:[iJ])(A:[s6])(q:[ow,C])(e:fZ T K r F [Ak] (O i) d1)(g:[k9,K,r0,F0,H0,[s7,Ir.Flow.nx [pU,d1]]]):N.nx σ [Ak]:=by rw[am,x0,h,z,f0,G,I,P.slot q];exact g r F _ (a.put (A i _ q)) (c.own G f0 I.ord) _ O (P.DR q e) (A.DR q)
def cJ.Gg(P:[iJ])(n:[Lt])(f:F p=ag)(nr:p∉r)(m:[lj,p]):cJ T K r F H (σ.set i [er,p]) [pU,d] [Mk]:=by refine [B_,P.len,q,z,B,h];{rcases ki q with⟨rfl,rfl,_⟩|⟨ne,q⟩;{rcases ki z with⟨_,rfl,_⟩|⟨ne,_⟩;{rw[bp];exact#[Y,f,nr,m]};{rw[be,Y,ne]}};{rcases ki z with⟨e,_,_⟩|⟨_,z⟩;rw[ar];{rw[aa,aw ne];exact P.at_ j s x q z}}};{rcases ki q with⟨I,_,_⟩|⟨ne,f1⟩;rw[ar];{rcases ki z with⟨u,_,_⟩|⟨g,f2⟩;{simp[aJ u,aw ne]at h;rw[be,h,n j _ f1]};{simp[aw ne,aw g]at h;exact P.inj j k _ _ f1 f2 h}}}
def fc.Gg(A:[s6])(q:H0 p=ag):fc H0 [pU,d] [Mk]:=λj a e=>by rcases ki e with⟨rfl,_,_⟩|⟨ne,e⟩;rw[ar];{simp[aw ne];exact A j _ e}
def cJ.age(P:[iJ])(m:[gZ]):[Lt]:=λj a e q=>by obtain⟨_,_,_,_,_,z⟩:=P.slot e;rw[iT,o,h,z.some]
def bD.cell(h:a∈r):bD r F H r F [f3,ob]:=by refine#[λb o e nb=>?_,[c0],[y8],[c0],[mw],λb e=>?_];{rw[ba,[dw]]};{rw[aE,b=a];{rw[b8,q,bW,e]};{rw[ae,aX q,e,e]}}
def a_.cell(c:[bB])(h:[AD])(q:la T K r F [f3,ob] a B):a_ T K r F [f3,ob] [dm,n,B]:=by refine#[[q,jM,c.len],c.nd,[j9],c.off,λG d b m u=>?_,c.tab.upd (c.ord (cG h))];{rw[V,aX [jb,z,c.off a (cG h),e],c.sub b o e]};{rcases ki m with⟨rfl,rfl,_⟩|⟨ne,m⟩;rw[ar];{rw[br,nb,b≠a,λz=>ne ([ae,z,u,(v9 [f] c.nd).mp [f]]),(c.rep G _ b m u).step [f] [gK] (aX nb)]}}
def a_.push(c:[bB])(f:F p=ag)(nr:p∉r)(q:la T K r F H p B):a_ T K (r++[p]) F H (S++[B]):=by refine#[by rw[cO,cO,c.len];rfl,?_,c.sub,λb h=>?_,λn G b m u=>?_,c.tab];{rw[cm,g8,[J']];grind};{rw[sz,h,c.off b h]};{rw[bX,NK u,u,rfl,rfl];{(have z:n<[ad]:=by rw[<-c.len];grind);rw[ae,lK z,m,[kG,b,m,u].step (tN r p) [gK] Y]};{rw[c.len,[zI],JB]at m;rw[aU,m,q.step (tN r b) [gK] Y]}}
def bD.push(a:[n7])(h:H0 p=ag):bD r0 F0 H0 (r++[p]) F H:=#[a.keep,a.fr,a.nf,λn b e=>tN r p n b (a.pre n b e),λb J=>(cs.mp J).elim (a.nr b) [f],a.fR]
def fZ.cell(h:[lj,p])(e:Ir.iI d S=[be,I,B]):la T K r F H p I/\B=S:=by cases d with|lst l=>rw[aU,e,#[h,Y]]|aV l=>rw[aU,e,#[h,Y]]|_=>rw[cJ]
end
section
variable{T:Tb}{K:aQ}{r:List ai}{F H:Hp}{S:aj}{E:XK}{β:Type}{Z:Ir.bM}
def al.PZ{f:D->Ir.M β}(a:[hT,[lc]]):∃d,[aZ,env,[g5]]/\[hs,d]:=by cases q:[kA]with|none=>rw[c6,[lc]=Ir.bad,Ir.ah];rw[av,a]|some s=>cases s with|val d=>(have e:[lc]=[b1,d]:=by simp[Ir.ah,q]);rw[ae,e,a,#[d,Y,a]]|_=>rw[aH,e,[lc]=Ir.bad,by simp[Ir.ah,q],e,a];rw[av,a]
def al.u4{f:D->Ir.M β}(a:[hT,[oB]]):∃d,[ow,d]/\[hs,d]:=by cases q:[kA]with|none=>rw[c6,[oB]=Ir.bad,Ir.dh];rw[av,a]|some s=>cases s with|own d=>(have e:[oB]=[b1,d]:=by simp[Ir.dh,q]);rw[ae,e,a,#[d,Y,a]]|_=>rw[aH,e,[oB]=Ir.bad,by simp[Ir.dh,q],e,a];rw[av,a]
def al.tu{f:([al])->Ir.M β}(a:[hT,Ir.fV d]):∃l,d=[aW]/\[hs,l]:=by cases d with|lst i=>exact#[i,Y,a]|_=>rw[av,a]
def al.u0{f:([rv])->Ir.M β}(a:[hT,Ir.fQ d]):∃n c,d=[m,n]/\[aR,S,n,c]/\[hs,(n,c)]:=by cases d with|ref n=>(rw[da,Ir.fQ [m,n],Ir.fQ];cases q:S[n]? with|none=>rw[aI,q,a];rw[av,a]|some c=>grind)|_=>rw[av,a]
def al.BK{f:Unit->Ir.M β}(a:[hT,Ir.tJ b]):b=ae/\[hs,()]:=by cases b with|true=>rw[aQ,Y,a]|false=>rw[av,a]
end
section
variable{T:Tb}{K:aQ}{r:List ai}{F H:Hp}
def dA.put(inj:∀f g,[kL]=T.eW g->f=g)(e:[cN]):∀{l}{fs},([sc])->dA T K r F (Ir.dV l f d) (iE [kL] v fs)|[],fs,h=>[bh,h,#[v,[],Y,e,by rfl]]|[fY,x],fs,h=>by rw[ab,w,ws,rfl,W,L,h];unfold Ir.dV iE;rw[aE,k=f];{rw[b_,dA]};{rw[a5,aw q,[nw],#[w,_,Y,W,dA.put inj e L]]}
def dA.length:∀{l}{fs},([sc])->[tv]=[E]|[],fs,h=>[fn,dA]|[fY,x],fs,h=>by rw[ab,w,ws,rfl,W,q,h];rw[b7,b7,dA.length q]
def cE.length:[hW,[lm,B],[bu]=[E]]|[],fs,h=>[fn,cE]|[fY,x],fs,h=>by obtain⟨j,w,ws,rfl,_,W,q⟩:=h;rw[b7,b7,cE.length q]
def cw.length:[hW,[lr,B],[bu]=[E]]|[],fs,h=>[fn,cw]|[fY,x],fs,h=>by obtain⟨j,w,ws,rfl,_,W,q⟩:=h;rw[b7,b7,cw.length q]
def cE.any(L:gX x=aa j):[hW,[lm,B],[JI]]|[],B,h=>[fn,cE]|[fY,d],B,h=>by obtain⟨i,v,ws,rfl,e,m,q⟩:=h;rw[n3,n3,cE.any L q,zV e L]
def cw.any(L:mZ x=aa j):[hW,[lr,B],[JI]]|[],B,h=>[fn,cw]|[fY,d],B,h=>by obtain⟨i,v,ws,rfl,e,m,q⟩:=h;rw[n3,n3,cw.any L q,Fh e L]
def cE.map(L:gX x=aa j)(e:[cN]):[hW,[lm,B],cE T K r F [aT,[rX,x,d]] [KA]]|[],B,h=>by subst h;rfl|[fY,a],B,h=>by obtain⟨i,w,ws,rfl,O,W,m⟩:=h;rw[bT,bT];rw[R,b,zV O L,u,cE.map L e m];rw[aE,i=j];{rw[b_,cE]};{rw[b_,cE]}
def cw.map(L:mZ x=aa j)(e:[cN]):[hW,[lr,B],cw T K r F [aT,[rX,x,d]] [KA]]|[],B,h=>by subst h;rfl|[fY,a],B,h=>by obtain⟨i,w,ws,rfl,O,W,m⟩:=h;rw[bT,bT];rw[R,b,Fh O L,u,cw.map L e m];rw[aE,i=j];{rw[uM q]at b;simp[b,aJ q];rw[b_,cw]};{rw[b_,cw]}
def cE.snoc(L:gX x=aa j)(q:[cN]):[hW,[lm,B],cE T K r F (l++[(x,d)]) (B++[(j,v)])]|[],B,h=>[bh,h,[Mh]]|[fY,a],B,h=>by obtain⟨i,w,ws,rfl,e,W,O⟩:=h;exact#[i,w,_,Y,e,W,cE.snoc L q O]
def cw.snoc(L:mZ x=aa j)(q:[cN]):[hW,[lr,B],cw T K r F (l++[(x,d)]) (B++[(j,v)])]|[],B,h=>[bh,h,[Mh]]|[fY,a],B,h=>by obtain⟨i,w,ws,rfl,e,W,O⟩:=h;exact#[i,w,_,Y,e,W,cw.snoc L q O]
def cE.put(L:gX x=aa j)(q:[cN])(h:[lm,B]):cE T K r F [sK] (jy B j v):=[IO]
def cw.put(L:mZ x=aa j)(q:[cN])(h:[lr,B]):cw T K r F [sK] (jy B j v):=[IO]
def m5(l:[h])(x d:D):[aO,[sK],[E]+1]:=[b_,Ir.cB]
def aY.set(q:[cN]):∀{l}{B}{j},([cg])->[fr,l.set j d,B.set j v]|[],B,j,h=>[bP,h.fY]|[gB],B,0,h=>by rw[dm];exact [bF,q,u]|[gB],B,[cU],h=>by rw[dm];exact [bF,m,aY.set q u]
def aY.dropLast:[hW,[cg],[fr,[v'],B.dropLast]]|[],B,h=>[bP,h.fY]|[x],B,h=>by rw[dm];rw[a_,u.fY]|x::y::l,B,h=>by rw[dm];rw[ab,d,i,rfl,q,z,u.dP];exact [bF,m,aY.dropLast [f]]
end
section
variable{T:Tb}{Z:Ir.bM}{E:XK}{X:Cx}
inductive qH(E:XK)(e:Ex):XK->[P]|same:(∀m,Ir.jz e m=m)->qH E e E|ci:(∀m,Ir.jz e m=Ir.ci m)->qH E e EF
def FP{K}(C:qH E i u)(a:bD Q n I r F H)(P:[iJ])(h:[k9,K,Q,n,I,(Ir.jz i [bt,i]>>=f) S])(k:∀d j J L p,bD r F H j J L->bD Q n I j J L->a_ T K j J L p->cJ T K j J L σ env O->([k9,K,Q,n,I,f d p])->G d j J L):al T K r F H [qk,i] G u:=by rw[cd,e,[pW,Ir.jz i [bt,i],f],rfl,h];cases C with|same U=>rw[U]at h;rw[eC,J,L,z,m]|ci U=>rw[U]at h;rw[al,Ir.ci,h];cases q:Ir.ah Z i _ S with|ok d p=>rw[ae,q,h,λj J L z m=>k d j _ _ _ z [iM,z] m [fA,z] h]|ex c B p=>rw[bY]|bad=>rw[bY]
def NM{st}(C:qH E e u)(z:[C4,u]):PS X st [rE,.own i e]:=[du,z,Q,j,U,O,c,by rw[ad,m,[qA,.own i _]=(do let d←Ir.jz _ _;if e.fresh=ae/\Ir.u7 d=ae then [gg]else Ir.bad),rfl,ED [iu,O,FP C a P h λd l J x G L I B s g p np f nr q=>?_]];obtain⟨_,g⟩:=al.ite g;exact g _ _ _ I B _ _ (s.Gg (P.age np) f nr q) (A.Gg (a.fR p np))]
def aeu{st}(C:qH E e u)(z:[C4,u]):PS X st [rE,[cE,i,e]]:=[du,z,Q,j,U,O,c,[br,m,[Kf,e],rfl,x6 [iu,O,FP C a P h λd G J x p L I B s g v q=>g _ _ _ I B _ O (s.set q) A.set]]]
def Xt{st}(x:∀G,Ir.jz e G=G)(C:[C4,E]):PS X st [rE,.mY i e]:=[du,C,Q,n,t,j,c,by rw[aH,l,[qA,.mY i e]=(do let d←Ir.jz e [bt,e];if e.fresh=ae then(do let r←Ir.qM (←Ir.iI d);[b1,.nx [pb,[cb,r]]])else Ir.bad),[bP,x],l,h];refine ED [iu,j,FP (.same x) a P h λd y o v m W I J s g p np f nr L=>?_];obtain⟨_,g⟩:=al.ite g;cases q:Ir.iI d m with|ok U z=>rw[M,O,rfl,L.cell q];rw[aH,u,(do let r←Ir.qM (←Ir.iI d);[vd,[pb,[cb,r]]]) z=[dA,[pb,[c8,z.length]],z++[U]],by rw[bJ,Ir.M.bind _ _ _=_];rw[a_,q],u,g];rw[d8,g _ _ _ (I.push (a.fR p np)) (J.push f nr O) _ j ([fA,W.push np].set ?_) A.set,#[p,Y,by rw[<-J.len];simp]]|ex k B z=>cases d<;>cases q|bad=>rw[aH,u,(do let r←Ir.qM (←Ir.iI d);[vd,[pb,[cb,r]]]) m=[aX],by rw[bJ,[Mf]];rw[q],u,g];rw[aL]]
def ad0(hN:X.N.Nodup)(C:[cl])(L:[o_])(q:[l5])(U:[tz]):[ej,.AugAssign [dx] .Add e pos,.inc i J]:=[FF,NU,.inc i _,.nx [pb,[ay,x+y]]]
def XV(hN:X.N.Nodup)(C:[cl])(L:[o_])(q:[l5])(U:[tz]):[ej,.AugAssign [dx] .Sub e pos,.dec i J]:=[FF,KY,.dec i _,.nx [pb,[ay,x-y]]]
def BJ(h:[qJ]):[AP,q,bb [e] env,env,[e]]:=[bP,fE h]
def lj{r r1:[bc]}{F F1 H H1:Hp}{K}(P:[iJ])(h:[ow,d]):[aZ,σ,[er,O i]]/\[lj,O i]:=by obtain⟨x,ex,a,_,_,z⟩:=P.slot h;grind
def VM(b:[cl])(hv:[fQ])(hd:[cq])(k:[f'])(L:[qJ])(J:[eE,[dx],"append"])(U:[vb,j.line])(G:[j6,[yp,[dx]],ag])(n:[aq,e,C]):[ej,.Expr [yp,[dx]] pos,.d_ i C]:=[du,wV [ER,T1,ajX,Nf,ls b hv hd k,n.pe,L] G,Q,F0,H0,O,c,by have e1:[hU,.d_ i C]=(do let o←[tm];let l←Ir.fV o;let d←[vv];if [lw]then [qD,[X,l++[d]]]else Ir.bad):=rfl;rw[aM,o,q,m,h.u4,l,rfl,u,m.tu];rw[ab,v,B,hp,U,hr,[kY,P,q]];refine#[_,v,[zt,hp],[ux,u]];rw[M,y,g2,al.ite g];obtain⟨_,f,mv,_,z⟩:=[kY,s,q];exact#[O i,f,w,Y,Y,mv,[q,z.length,y],s0 (d1:=D.lst _) I c1 s A q #[f++[w],bW,[bE],z.append [hH,W]] g2]]
def agJ(hi:[cl])(hv:[fQ])(hd:[cq])(gi:[f'])(j:[qJ])(J:[eE,[dx],"extend"])(U:[vb,k.line])(v:[j6,[L'],ag])(he:[aq,e,n]):[ej,.Expr [L'] pos,.ee i n]:=[du,wV [ER,ajk,PySem.F.type_list_extend,X2,[y5],he.pe,j] v,Q,F0,H0,O,c,by have e1:[hU,.ee i _]=(do let o←[tm];let l←Ir.fV o;let d←[ca,n];let x←Ir.fV d;if [E]+[eS]<=lim then [qD,[X,l++x]]else Ir.bad):=rfl;rw[aM,o,L,m,h.u4,l,rfl,u,m.tu];rw[ab,es,B,hp,U,hr,[kY,P,L]];refine#[_,es,[zt,hp],[wK,u,d,F1,w,a1,y,W]];rw[K,G,rfl,g1,g.tu];rw[M,C,g2,al.ite g1];obtain⟨_,f,mv,_,z⟩:=[kY,s,L];obtain⟨b,ws,rfl,J,_,q⟩:=W;exact#[O i,b,f,ws,Y,Y,mv,y.sub _ _ J,[a5,z.length,q.length,C],s0 (d1:=D.lst _) I y s A L #[f++ws,bW,[q,cO,C],z.append q] g2]]
def Xo(d:[cl])(I:[fQ])(hd:[cq])(z:[f'])(J:[eE,[dx],"pop"])(U:[vb,j.line])(f:[j6,[en,[dx],"pop",t,[],j],ag]):[ej,.Expr [en,[dx],"pop",t,[],j] pos,.qP i]:=[du,wV (aeN JC ajl PySem.F.type_list_pop ahk (ls d I hd z) J U) f,Q,W,s,O,c,by have C:[hU,.qP i]=(do let o←[tm];let l←Ir.fV o;if l.isEmpty=ae then Ir.bad else [qD,[ax,[v']]]):=rfl;rw[aM,o,e,m,h.u4,l,rfl,u,m.tu];rw[ab,G,B,q,U,L,[kY,P,e]];rw[aA,u];{rw[av,u]};{rw[ah,g,L.length,pos,0<[E],[f]];exact#[_,G,[zt,q],O i,B,B[[bu]-1],Y,Y,q,cQ _,s0 (d1:=D.lst _) a c P A e #[B.dropLast,bW,[cz,ajm],L.dropLast] u]}]
def OM:L' X (Hm X.K):=by rw[c7];obtain⟨p,l,i,z,rfl,rfl,O,J,q⟩:=h;cases d;rw[M,t,rfl,N];rw[ag,az,r,pl,G,[eC,O]];rw[am,j,m,u,g,B,W,zW J];rw[K,w,F,L,r.get u];rw[R,U,r.length,f,tH];have e:EP X _ _ Q w s:=#[z,H,I,L,q];rw[dB,i,a,W,m,wpAny_getItem_list [mS] h0 [g] ([bb]) e,B,[L3,e]]
def zY{K}(h:[cg])(m:[vz,k]=aa j)(hd:[ce,l,d]):∃v,L2.oF B k=[cX]/\[cN]/\oE [bu] k=aa j:=by have e:oE [bu] k=aa j:=[q,h.length,m];rw[bx,v,q,z,h.get hd,#[v,[b_,L2.oF],z,e]]
def Vb(hi:[cl])(hv:[fQ])(hd:[cq])(gi:[f'])(hk:[aq,k,k'])(he:[oO])(ha:∀ov O new,[wX,k,ov]):[Lf,.Add,.mS i k' e']:=[G3,NU,.mS i _ _,do let o←[tm];let l←Ir.fV o;let kd←[ca,k'];let G←[eh,kd];let j←Ir.bC [vz,G];let xd←Ir.bC l[j]?;let x←[eh,xd];let B←[ca,e'];let y←[eh,B];[qD,[wi,[l,x+y]]]]
def acL(hi:[cl])(hv:[fQ])(hd:[cq])(gi:[f'])(hk:[aq,k,k'])(he:[oO])(ha:∀ov O new,[wX,k,ov]):[Lf,.Sub,.pB i k' e']:=[G3,KY,.pB i _ _,do let o←[tm];let l←Ir.fV o;let kd←[ca,k'];let G←[eh,kd];let j←Ir.bC [vz,G];let xd←Ir.bC l[j]?;let x←[eh,xd];let B←[ca,e'];let y←[eh,B];[qD,[wi,[l,x-y]]]]
def VW:Ai:=λo i v H Q=>(∃a e,o=[aL]/\pG H a i v e/\Q e)\/Nm o i v H Q
def Kj(hu:[kM]):AR X VW:=by intro pins s σ H o i v x O C Q I ro z J h;rcases h with⟨a,e,rfl,g,q⟩|h;{rw[aU,ro,acx hu I g z J [f]]};{exact Ep _ s _ H o i v _ _ C Q I ro z J h}
def DG (X : Cx) (o i : bQ) (pos : eo) : Prop := ∀ v, uE (.Subscript o i pos) X.env v = (do
   let x ← iC [v] (aM o X.env)
   let O ← iC [v, x] (aM i X.env)
   pb pos
   iC [v, x, O] (uG x O v)
   zd [v, x, O] [])
def Zu(hu:[kM])(hi:[cl])(hv:[fQ])(hd:[cq])(gi:[f'])(hk:[aq,k,k'])(he:[oO])(ha:DG X [dx] k t)(hs:[C',[mm,[dx]]])(W:IW [mm,[dx]] e X.env=bx ag)(m:[IT,[dx]]):[zv,[mm,[dx]],.jS i k' e']:=[du,[Lz,[y5]],Q,F0,H0,O,c,by rw[ad,e1,[hU,.jS i _ e']=(do let d←[vv];let o←[tm];let x←[ca,k'];match o with|[b6]=>[A,[jt]/\[lw],[qD,[cf,[sK]]],Ir.bad]|[hv]=>[A,x.jv=ae/\[lw],[qD,.bZ [sK]],Ir.bad]|_=>Ir.bad),rfl,[ux,h]];rw[K,o,B,g1,g.u4];obtain⟨es,_⟩:=[kY,s,B];refine#[_,es,gh (m:=[pQ]) I c1 s g1 λx r2 F2 H2 S2 C v jF n G hu g=>?_];obtain⟨_,z⟩:=[kY,G,B];have y:=[eM,v.pre,v.fr,W];cases o with|aV l=>obtain⟨⟨L,U⟩,g2⟩:=[vc,g];obtain⟨gG,f,_,q⟩:=z;rw[M,j,u,p7 L];rw[cm,qb u hu,[H,#[O i,_,Y,pG.k f [q,q.length,U],[Jh,D.aV _]]]];rw[aN,m5 l x d]|bZ l=>obtain⟨⟨L,U⟩,g2⟩:=al.ite [aA,al T X.K _ _ _ _ _ E,g];obtain⟨gG,f,_,q⟩:=z;rw[M,j,u,GG L];rw[aK,b,rfl,J,F9 u hu,[H,#[O i,_,Y,pG.t f (n.sub _ _ J) [q,q.length,U],[Jh,D.bZ _]]]];rw[aN,m5 l x d]|_=>rw[aL]]
def wL{K}(a:bD Q B I r F H)(c:[bB])(P:[iJ])(A:fc I env O)(J:[aR,r,n,b])(q:la T K r F [cw,b,ob] b c1)(g:[k9,K,Q,B,I,(do Ir.j3 n c1;[vd,env]) S]):N.nx σ [cw,b,ob]:=[br,x,bD r F H r F [cw,b,ob],.cell [f],(g) r F _ [iM,x] (c.cell J q) _ O [fA,x] A]
def abu(hu:[kM])(ho:[aq,o,o'])(hk:[aq,k,k'])(he:[oO])(ha:DG X o k t)(hs:[C',[mm,o]])(W:IW [mm,o] e X.env=bx ag)(m:[IT,o]):[zv,[mm,o],.put o' k' e']:=[du,[Lz,ho.pe],Q,F0,H0,O,c,by have e1:[hU,.put o' _ _]=(do let d←[ca,e'];let G←Ir.ah Z _ env;let x←[ca,k'];let nc←Ir.fQ G;match nc.2 with|[b6]=>[A,[jt]/\[lw],do [ta,[cf,[sK]]];[gg],Ir.bad]|[aW]=>(do let xi←[eh,x];let j←Ir.bC [vz,xi];[ta,[wi,d]];[gg])|_=>Ir.bad):=rfl;rw[ai,[ux,h],[uP,I,s,g,o,v,a2,c2,hv,g1]];refine gh (m:=[pQ]) jF c2 i9 g1 λx r3 F3 H3 S3 C u i c3 y hu g2=>?_;rw[ab,n,cc,rfl,hn,g3,g2.u0];have f:=[eM,(a2.trans u).pre,(a2.trans u).fr,W];rw[K,b,rfl,J,[eM,u.pre,u.fr,hv]];have q:=c3.rep n _ b hn J;cases cc with|aV l=>obtain⟨⟨L,U⟩,g4⟩:=[vc,g3];obtain⟨gG,hp,_,z⟩:=q;rw[M,j,p,p7 L];rw[cm,qb p hu,[H,#[b,_,Y,pG.k hp [q,z.length,U],wL i c3 y A J (c1:=.aV _) #[_,bW,?_,z.put p f] g4]]];rw[aN,m5 l x d]|lst l=>rw[aM,xi,rfl,g4,al.f_ [aA,[pK],g3],j,p,g5,g4.iQ];rw[ag,B,hp,U,z,q];refine [aC,#[b,B,xi,j,Y,hu.cg,hp,[q,z.length,p],wL i c3 y A J (c1:=[b9]) #[_,bW,[q,jM,U],z.set f] g5]]|aW k l=>rw[av,g3]]
def al.adb{K}{f:[z2]}(c:[bB])(h:[cN])(a:al T K Q I j ((Ir.rc d>>=f) S) ok E):(∃b B,v=[fZ]/\H b=[ls,B])/\al T K Q I j (f () S) ok E:=by rw[da,Ir.rc d,Ir.rc];cases q:Ir.bH d S with|ok x p=>(rw[ap,q,a,z,rfl,An c [H,h] q];cases x with|lst l=>obtain⟨b,B,m,u,_⟩:=z;grind|_=>rw[av,a])|ex k B p=>rw[bn,q,a]|bad=>rw[bn,q,a]
def aaB(q:[qJ])(J:[eE,o,"append"])(U:[vb,j.line])(hs:[j6,[yp,o],ag])(ho:[aq,o,C])(he:[oO]):[ej,.Expr [yp,o] pos,.app C e']:=[du,wV [ER,T1,ajX,Nf,ho.pe,he.pe,q] hs,Q,F0,H0,O,c,by rw[ad,e1,[hU,.app _ _]=(do let G←[bt,C];Ir.rc _;let d←[ca,e'];let nc←Ir.fQ _;match nc.2 with|[aW]=>[A,[lw],do [ta,[X,l++[d]]];[gg],Ir.bad]|_=>Ir.bad),rfl,[wK,h,o,F1,v,a1,y,m]];obtain⟨⟨b,B,rfl,f⟩,g1⟩:=al.adb y m g;rw[a3,[zt,f],gh (m:=[pQ]) I y s g1 λd r2 F2 H2 S2 w z jF x i9 W g2=>?_];rw[ab,n,cc,rfl,q,u,g2.u0];rw[K,b',e2,i,[eM,z.pre,z.fr,m]];cases e2;cases cc with|lst l=>rw[M,U,g4,[vc,u]];obtain⟨L,hp,_,p⟩:=(x.rep n _ b q i);exact#[b,L,w,Y,Y,hp,[q,p.length,U],wL jF x i9 A i (c1:=[b9]) #[_,bW,[bE],p.append [hH,W]] g4]|aW k l=>rw[av,u]|aV l=>rw[av,u]]
def abp(ft:[hb])(i:f<T.nf)(x:[j6,e,aa [xR]])(m:[aq,o,B])(t:[aq,e,C]):[zv,[[xR]],.dv B f C]:=[du,Q6 m.pe t.pe x,Q,F0,H0,O,c,by have e1:[qA,.dv _ f _]=(do let d←[ca,C];let od←[ca,B];let nc←Ir.fQ od;match nc.2 with|[rm]=>(do Ir.tJ (ao [m5]);[ta,[sa,d]];[gg])|_=>Ir.bad):=rfl;rw[ai,[ux,h],[uP,I,s,g,o,v,z,j,hv,g1]];rw[ab,n,G,rfl,L,u,g1.u0];have y:=[eM,z.pre,z.fr,W];rw[K,b,rfl,J,hv];cases G with|aW k l=>rw[M,U,g4,al.BK [aA,[pK],u]];rw[ag,p,fs,hp,q,j.rep n _ b L J];rw[bd,U,bz U,#[b,_,p,fs,Y,hp,ft.cls k,ft.AB k f i,[cz,q.length],wL jF j i9 A J (c1:=.aW k _) #[p,_,bW,q.put ft.xR y] g4]]|lst l=>rw[av,u]|aV l=>rw[av,u]]
def UW(ft:[hb])(hf:f<T.nf)(ho:[aq,o,o'])(he:[oO]):[ej,.AugAssign (.Attribute o [kL] t) .Add e pos,.lq o' f e']:=[du,aaM ho.pe he.pe adN,Q,F0,H0,hX,c,by rw[ad,e1,[qA,.lq _ f _]=(do let x←[ca,o'];let nc←Ir.fQ x;match nc.2 with|.aW k0 l=>(do let B←Ir.bC (Ir.eV l f);let y←[eh,B];let G←[ca,e'];let z←[eh,G];let nc←Ir.fQ x;match nc.2 with|[rm]=>(do Ir.tJ (ao ([m5]/\k=k0));[ta,[sa,[l,y+z]]];[gg])|_=>Ir.bad)|_=>Ir.bad),rfl,[wK,h,o,F1,v,a1,c1,hv]];rw[ab,n,cc,rfl,hn,g1,g.u0];rw[K,b,rfl,J,hv];cases cc with|aW k l=>(rw[aM,B,hy,g2,al.iQ [aA,[pK],g1],y,rfl,g3,g2.f_];rw[ag,dx,fs,hp,hr,c1.rep n _ b hn J];rw[aK,yv,e2,u,hr.get ft.xR hy,#[b,_,dx,fs,yv,Y,hp,ft.cls k,ft.AB k f hf,e2,[uP,I,s,g3,z,w,a2,c2,W,g4]]];rw[K,i,rfl,g5,g4.f_];rw[ab,n2,C,e3,L,m,g5.u0];cases e3;rw[aY,j,a2.pre n b J,#[y,i,u.cg,W.cg,?_]];cases C with|aW k2 l2=>rw[M,U,p,al.BK [aA,[pK],m]];rw[ag,d,O,fG,q,c2.rep n _ b L j];rw[aG,U,rfl,bz U,#[d,O,fG,[cz,q.length],wL jF c2 i9 A j (c1:=.aW _ _) #[d,_,bW,q.put ft.xR [b3]] p]]|lst l=>rw[av,m]|aV l=>rw[av,m])|lst l=>rw[av,g1]|aV l=>rw[av,g1]]
end
section
variable{T:Tb}{K:aQ}{r0 r1 r:List ai}{F0 F1 F H0 H1 H:Hp}
def bD.base(x:[Dt]):bD r1 F1 H0 r1 F1 H1:=#[λa o e n=>x.keep a o e λz=>n ([bx,i,h,q,qD.mp z,cG (x.pre i a [f])]),[gK],[y8],[c0],[mw],x.fR]
def bD.chain(x:[Dt])(y:[Er]):[n7]:=#[λa o e n=>y.keep a o e [sZ,x.nr a z,n,[f]],x.fr.trans y.fr,λa o e=>(y.nf a o e).elim (x.nf a o) λq=>[eJ,q.imp id λ#[B,m,u,n]=>#[B,m,u,λz=>n (x.OL z)]],[KD],λa e=>(y.nr a e).elim (x.nr a) .inr,y.fR]
def al.Zx(x:[Dt])(h:al T K r0 F0 H0 G ok E):al T K r1 F1 H0 G ok E:=by cases G with|ok a S=>exactλj C e y c=>h _ _ _ (x.chain y) c|ex c B S=>exactλj C e d y c=>h _ _ _ d (x.chain y) c|bad=>exact h
end
section
variable{T:Tb}{Z:Ir.bM}{E:XK}{X:Cx}
def Xx(ft:[hb])(hf:f<T.nf)(hs:[j6,e,aa [xR]])(ho:[aq,o,o'])(he:[gC,[Ar,y]]):[zv,[[xR]],.eO o' f y]:=[du,Q6 ho.pe he hs,r0,F0,H0,I,c,by rw[aH,e1,[hU,.eO o' f _]=(do let d←[bt,y];let od←[vv];let nc←Ir.fQ od;match nc.2 with|[rm]=>[A,y.fresh=ae/\[m5],do let G←Ir.iI d;let r←Ir.qM G;[ta,[sa,r]];[gg],Ir.bad]|_=>Ir.bad),rfl,e1,h];refine ED #[env,I,S,r,F,c,P,?_];rw[cd,e2,∀(g:D->[vu]),[pW,[bt,y],g],[bL],h];cases q:[zC]with|ex c B S1=>rw[ae,q,h,λr1 F1 H1 W z c1 x=>h r1 _ _ _ [iM,z] c1 x]|bad=>rw[bY]|ok d S1=>rw[q]at h;intro r1 F1 H1 z c1 p np fp nr ow;refine [uP,[iM,z],[fA,z],h,od,v,a2,t,hv,g1];rw[ab,n,G,rfl,hn,Q,g1.u0];obtain⟨_,i,m,s⟩:=(tQ.step (s:=[ie]) a2 #[Y,fp,nr,ow]);rw[K,b,rfl,J,hv];have qq:=t.rep n G b hn J;cases G with|aW k l=>(obtain⟨⟨_,U⟩,L⟩:=[vc,Q];rw[ag,dx,fs,hp,hr,qq];cases u:Ir.iI d S2 with|ok c3 C=>rw[M,O,rfl,s.cell u];rw[aH,w,(do let G←Ir.iI d;let r←Ir.qM G;Ir.j3 n [sa,r];[vd,env]) C=[dA,env,(C++[c3]).set n [sa,[m,[iL]]]],by rw[bJ,[qE,C]=_];rw[a_,u],w,L];rw[ah,j,tN r2 p n b J,x2,∀ob,bD _ F2 H2 _ F2 (upd _ b ob),λob=>.cell (cG j)];rw[ai,#[b,_,dx,fs,Y,hp,ft.cls k,ft.AB k f hf,[cz,hr.length],?_],L _ _ _ [cy,jF.push (a.fR p np),x2 _] ((t.push i m O).cell j #[dx,_,bW,(dA.mono (tN r2 p) [gK] _ _ hr).put ft.xR ?_]) σ I [fA,[cy,(z.trans a2).push np,x2 _]] A];exact#[p,Y,by rw[<-t.len];simp]|ex k B C=>cases d<;>cases u|bad=>rw[aH,w,(do let G←Ir.iI d;let r←Ir.qM G;Ir.j3 n [sa,r];[vd,env]) S2=[aX],by rw[bJ,[Mf]];rw[u],w,L];rw[av,L])|lst l=>rw[av,Q]|aV l=>rw[av,Q]]
def iV(h:Ir.fX e t d=aa q):Ir.cV b t (d::l) e S=(match b q S with|[dA,z,a]=>Ir.cV b t l z a|[be,.bk z,a]=>[dA,z,a]|[be,.rt x,a]=>[be,.rt x,a]|[iX,a]=>[iX,a]|[aX]=>[aX]):=by show [qE,S]=_;rw[h];rw[bJ,[mL,b _,S]=_];cases b _ S with|ok f a=>rw[bz,f]|ex _ _ _=>rfl|bad=>rfl
def fc.bind(h:fc H0 e O)(J:Ir.fX e t d=aa q):fc H0 q O:=by match t,J with|[],J=>cases J|[i],J=>rw[aU,J,h.set]|[i,j],J=>(cases d with|tup l=>(match l,J with|[y,z],J=>rw[aU,J,h.set.set]|[],J=>cases J|[_],J=>cases J|[os],J=>cases J)|_=>cases J)|[os],J=>cases J
def acD(hp:[sv,X.xe])(O:[cG])(hi:[kd,tg,it,k,l])(hg:PG X tg (gT X.K t))(J:[qh,body,b])(hs:∀x,nX it X.env x=bx x):[ej,.For tg it body [] pos,.cS t k l b]:=[du,acM hp O hi hg J hs,r0,F0,H0,hX,c,by rw[aH,e1,[qA,.cS t k l b]=(do let ds←(do [lL,←Ir.cD Z l env]);Ir.cV (λe=>Ir.bj Z b e) t ds env),by funext S;show Ir.M.bind _ (λx=>Ir.M.bind _ _) S=[mL,Ir.M.bind _ _,S];rw[b_,Ir.M.bind],e1,h];refine#[env,hX,S,r,F,c,P,?_];rw[cd,e2,∀(g:([al])->[vu]),[pW,do [lL,←Ir.cD Z l env],g],[bL],h];cases q:(do [lL,←Ir.cD Z l env]) S with|ex c B S1=>rw[ae,q,h,λr1 F1 H1 W a1 c1 x=>h r1 F1 H1 W [iM,a1] c1 x]|bad=>rw[bY]|ok ds S1=>rw[q]at h;intro r1 F1 H1 a1 c1 U qh hJ;have I:=[iM,a1];rw[bm,λi G σ H=>∃m j r F S,G=[h1]-i/\i<=[h1]/\[Er]/\[gR]/\cJ T X.K r F H σ m j/\fc H0 m j/\al T X.K r1 F1 H0 (Ir.cV _ t (ds.drop i) m S) _ E,#[ds.length,env,hX,r1,F1,S1,Y,[f7],I.base,c1,[fA,a1],A,[aD,h.Zx I]]];rintro i G Ci H2⟨Q,o,r2,F2,S2,rfl,hi,a2,c2,i9,w,u⟩;rw[M,y1,y2,[La]];rw[aE,i=[h1]];{subst q;refine [H,#[y1,?_]];rw[ae,Jo,u,u r2 F2 H2 a2 c2 Ci o i9 w]};{rw[eB,i<[h1],ds.drop i=d::[sU]];refine [aC,#[go,λσ H=>∃m j r F S,[aa]<=[h1]/\[Er]/\[gR]/\cJ T X.K r F H σ m j/\fc H0 m j/\al T X.K r1 F1 H0 _ _ E,λmu H'#[e',j,r',F',S',z1,z2,z3,z4,z5,z6]=>#[[h1]-[aa],[g],e',j,r',F',S',Y,z1,z2,z3,z4,z5,z6],λx H3 L=>?_]];rw[e7];cases J:Ir.fX _ t d with|none=>exfalso;(have:Ir.cV (λe=>Ir.bj Z b e) t (d::[sU]) Q S2=[aX]:=by show [qE,S2]=_;rw[a_,J]);rw[ae,this,u,u]|some e3=>rw[iV J]at u;rw[ai,ML c3 (i9.step a3) v3 J λz y _=>?_,#[r1,F1,H0,e3,o,S2,r2,F3,a2.trans a3,c3,y,w.bind J,?_]];cases q4:Ir.bj Z b e3 S2 with|ok f s=>(rw[q4]at u;cases f with|nx e4=>exactλr4 p H4 a4 c4 σ4 O4 v4 HW=>#[e4,O4,r4,p,s,C,a4,c4,v4,HW,u]|bk e4=>exact u|rt v=>exact u)|ex k B s=>rw[ae,q4,u,u]|bad=>rw[ae,q4,u,u]}]
def YV(t:[sv,X.xe])(O:[aq,c,e])(J:[qh,body,b]):[ej,.While c body [] pos,.mh e b]:=[du,Zo t O.pt J,r0,F0,H0,I,c,by rw[ad,e1,[hU,.mh e b]=Ir.jT _ _ _ env,rfl,#[λG σ H=>∃m j r F S,bD r0 _ _ r F H/\a_ T _ r F H S/\cJ T _ r F H σ m j/\fc _ m j/\al T _ _ _ _ (Ir.jT _ _ G m S) _ E,#[Z.fuel,env,I,r,F,S,a,c,P,A,h],?_]];rintro G Ci H2⟨Q,o,r2,F2,S2,W,c2,n,w,u⟩;cases G with|zero=>rw[av,u]|succ G=>refine Ke W c2 n u λd l U H3 q a3 i x y g=>?_;rw[aK,k,rfl,g2,g.kG,#[k,Y,?_]];cases k with|false=>exact g2 _ _ _ i x _ _ y w|true=>rw[aJ Y]at g2|-;refine#[λσ H=>∃m j r F S,bD _ _ _ r F H/\a_ T _ r F H S/\cJ T _ r F H σ m j/\fc H0 m j/\al T X.K _ _ _ _ _ E,λmu H' z=>#[G,ajY _,z],r0,F0,H0,Q,o,q,l,U,i,x,y,w,?_];rw[cd,e2,∀(g:Ir.Flow->[vu]),(Ir.bj Z b Q>>=g) q=Ir.M.bind _ g _,[bL],g2];cases q4:Ir.bj Z b _ _ with|ok f s=>(rw[q4]at g2;cases f with|nx L=>exactλC p H4 a4 c4 σ4 O4 v4 HW=>#[L,O4,C,p,s,a4,c4,v4,HW,g2]|bk L=>exact g2|rt v=>exact g2)|ex k B s=>rw[ae,q4,g2,g2]|bad=>rw[ae,q4,g2,g2]]
def YU(hh:[sq])(hex:[ke])(t:[l3])(xc:XC X.K (T.dr c) N ag)(m:[dJ])(U:[fm,T.dr c])(hd:[cq]):[ej,[xa,[],j],.hW c []]:=[du,aaA hh hex t xc m U hd,Q,B,I,O,q,by rw[aH,e,[qm,.hW c []]=[nx,Ir.kB c _,.ex c _ S],rfl,e,h];rw[a2];{exact h r F H _ a q [H,by simp]};{rw[av,h]}]
def Zn(h:Ir.kB c [C,d,y]=ae):c=9/\∃i j k,C=[aQ]/\d=[c2]/\y=[l,k]:=by rw[aC,Ir.kB,h];rw[ar];rw[cp]
def acR{C N fI:ai}{st}(hh:[sq])(hr:[v0])(hex:[ke])(t:[l3])(c:X3 X.K [pt] N fI fd qual st "line" "place" "why" q1 q2 q3)(hg:[dJ])(n:[fm,[pt]])(hk:ji X.K [m,[pt]]=ae)(U:[E]=3)(ha:[ii,e::s])(hd:[cq])(he:[il,s])(Ch:[wG,kJ,s]):[ej,[xa,e::s,kJ],.hW 9 l]:=[du,ag8 hh hr hex t c hg n hk ha hd he Ch,Q,F0,H0,O,v,by rw[ad,e1,[hU,.hW 9 l]=(do let B←[ti,l];λS=>[nx,Ir.kB 9 B,.ex 9 B S]),rfl,#[env,O,S,r,F,v,P,?_]];have h:al T _ _ _ H0 [qE,S] _ E:=h;rw[al,Ir.M.bind,h];cases q:Ir.cD Z l _ S with|ex c B S1=>rw[ae,q,h,λg J H1 W f z x=>h g J _ _ [iM,f] z x]|bad=>rw[bY]|ok ds S1=>rw[q]at h;intro g J H1 f z p B I;rw[U]at p;match ds,p,I,h with|[d1,d2,y],_,I,h=>dsimp only at h;rw[a2];{rw[ax,ok];obtain⟨_,i,j,k,rfl,rfl,rfl⟩:=Zn ok;rw[ab,G,w1,rfl,m,I,I.dP];rw[ab,v2,w2,rfl,u,I,I.dP];rw[ab,d,L,rfl,w,I,I.dP];rw[I.fY,m.cg,u.cg,w.cg];rw[d8,#[_,_,_,Y,λdx nd=>?_],h _ J _ _ [cy,[iM,f],[bn,nd]] (z.own (z.hG nd) (z.hV nd)) [aC,#[dx,i,j,k,Y,Y,z.hG nd,bW]]]};{rw[av,h]}]
def sO(T:Tb)(K:aQ)(Z:Ir.bM)(E:XK)(n:Nat)(h:List Ir.Sm):lZ->XK:=λN cls W H=>∃c B Q j I r F S,cls=[m,T.dr c]/\bD Q j I r F H/\[bB]/\xK r H B W/\[k9,K,Q,j,I,Ir.pO Z h c B (fH n Ir.Slot.un) S]
def ag4{K}(h:[ho]=n):[nG,fH n [W]]:=by rw[ad,un,[lY,i,s,Ir.Slot,[aZ,fH n Ir.Slot.un,s],s=[W]],λi s e=>[f],#[[f],λi s x e _=>?_,λi j d a e _ _=>?_]];{rw[V,un i s e,True.intro]};grind
def Vd:fc I (fH n [W]) O:=λi d e=>[f]
def Hi(h:PH X a t)(q:∀D cls W H,t' D cls W H->t D cls W H):PH X a t':=λD pins σ H s I cls W T fl x z=>h D _ _ H s _ _ _ T _ x [f]
def acJ(t:[l3]):[w9,[],[]]:=Hi (ae5 t) λN cls W H#[c,B,Q,I,d,r,F,S,e,a,q,x,h]=>[q,e,h r F H _ a q x]
structure zP (T : Tb) (K : aQ) : Prop where
 xc : ∀ c, 5 ≤ c → c ≤ 12 → ∃ N eD, XC K (T.dr c) N eD
 inj : ∀ c k, 5 ≤ c → c ≤ 12 → 5 ≤ k → k ≤ 12 → T.dr c = T.dr k → c = k
def JV{K}(L:y.rt=N.rt)(h:[k9,K,Q,j,I,(do match←Ir.ci (Ir.bj Z b e)with|[ps]=>[b1,Ir.Flow.rt d]|_=>Ir.bad) S]):al T K Q j I (Ir.bj Z b e S) (gy T K I y) EF:=by rw[aH,z,∀(g:Ir.Flow->[vu]),[pW,Ir.ci (Ir.bj Z b e),g],[bL],z,h];unfold Ir.M.bind Ir.ci at h;cases q:Ir.bj Z b e S with|ex c B p=>rw[bY]|bad=>rw[bY]|ok f p=>rw[q]at h;cases f with|nx _=>rw[av,h]|bk _=>rw[av,h]|rt d=>intro r F H a c v m;rw[V,L,h r F H a c v m]
def O0:Ir.pO Z (.hd k i b::r) c B e=[A,k=c,do Ir.tJ (i.isNone||(k==9&&[bu]==3));match←Ir.ci (Ir.bj Z b (match i with|aa i=>e.set i (.exc B)|ag=>e))with|[ps]=>[b1,[ps]]|_=>Ir.bad,[A,5<=c/\c<=12,Ir.pO Z r c B e,Ir.bad]]:=rfl
def YN{l}(xt:zP T X.K)(L:5<=k)(C:k<=12)(J:[dJ])(m:[fm,T.dr k])(O:[JH])(U:[w9,l,i])(hd:[cq]):[w8,ag,s,l,[E7,.hd k ag b::i]]:=by rw[aK,n,eD,xc,xt.xc k L C,Hi (ab9 xc J m O U hd) [Ku,j,d]];rw[O0]at h;rw[aE,k=c];{subst q;rw[aJ Y]at h;obtain⟨_,u⟩:=h.BK;refine#[T.dr k,n,eD,e,xc,?_];rw[V,aJ Y,λσ P=>#[Q,j,d,_,[h2],S,r,F,a,G,ag4 P,Vd,JV Y u]]};{rw[ei,k,L,C,j,d]}
def aa0{C}(xt:zP T X.K)(v:[dJ])(t:[fm,[pt]])(hN:X.N.Nodup)(hi:[aZ,X.N,nm])(U:[wh,nm]=[fj])(y:[JH])(hr:[w9,C,h'])(hd:[cq]):[w8,aa nm,s,C,[E7,.hd 9 (aa i) b::h']]:=by rw[aK,n,eD,xc,xt.xc 9 ([af]) ([af]),Hi (ags xc v t hN hi U y hr hd) [Ku,J,O]];rw[O0]at h;rw[aE,9=c];{subst q;rw[bA,g,u,h.BK,#[[pt],n,eD,e,xc,?_]];rw[aJ Y];intro σ ea P m;refine#[Q,J,O,(fH _ _).set i _,[h2],S,r,F,a.put (a.fR _ m),G.own (G.hG m) (G.hV m),?_,?_,JV (N:=N) Y u];{refine#[[f],λj s x' L e2=>?_,λj k d d' L _ _=>?_];{rcases ki L with⟨rfl,rfl,_⟩|⟨ne,L⟩;{rcases ki e2 with⟨_,rfl,_⟩|⟨ne,_⟩;{rcases x with⟨rfl,_⟩|⟨dx,i',j',o,rfl,rfl,f,l⟩;{cases g};{exact#[ea,Y,dx,i',j',o,G.hG m,f,Y,bW,[ny,l,m]]}};{rw[be,Y,ne]}};{rw[C8]at L;rw[aA,L];{rw[aU,L,True.intro]};{cases L}}};{rcases ki L with⟨_,z,_⟩|⟨_,L⟩;{cases z};{rw[C8]at L;split at L<;>cases L}}};{intro j d L;rcases ki L with⟨_,z,_⟩|⟨_,L⟩;{cases z};{rw[C8]at L;split at L<;>cases L}}};{rw[ei,9,[af],[af],J,O]}
def ZV{l}(g:[gs]=w::l)(m:[sQ])(d:[y7])(hex:[ke])(J:[Gp,l6 T X.K Z E b])(hh:[w9,h0::U,h]):[ej,.Try body (h0::U) [] [] pos,.tr b h]:=by rw[aS,N,#[Q,j,e,env,O,S,r,F,a,c,P,A,z],WX g m d hex J hh _ s _ H N I #[Q,j,e,env,O,S,r,F,a,c,P,A,?_]];rw[D,i,[qm,.tr b h]=[cZ,Ir.bj Z b _ S,[iX,t],Ir.pO Z h c _ _ _,r,r],rfl,G,(env.map λ_=>Ir.Slot.un)=fH [vi] Ir.Slot.un,by rw[<-I.len,P.len];exact List.map_const' ..];rw[i,G]at z;cases q:Ir.bj Z b _ S with|ok f p=>rw[ae,q,z,z]|bad=>rw[ae,q,z,z]|ex k B p=>rw[ae,q,z,λn C v W u y x=>#[k,B,Q,j,e,n,C,p,Y,u,y,x,z]]
def Mg{r}{pos}{I}{t}{k}(tk:[l3])(hex:[ke])(N:[gs]=w::r)(A:[sQ])(d:[y7])(O:[cG])(hN:X.N.Nodup)(i:[kd,B,F,k,it])(ok:[li,S])(W:[k6]=t)(m:[t9,z,u,PG [q2,S] B (gT X.K t)])(q:[jZ,z,u,[bc],lU [q2,S] j (qQ T X.K Z e)])(J:[F0,[fl,I]])(a:[k3]):[l6,[rU,j],[uM]]:=[bh,W,b9 (YM tk hex N A d O hN i ok m q J a) λσ H Q h=>Hd h]
def aa6(h:[l6,[rU,d],[uM]]):[aq,[rU,d],[uM]]:=[kW,h,z,x6 z]
def adw{i:Nat}{G}{f}{I}{t}{k}(O:[cG])(hN:X.N.Nodup)(m:[aZ,X.N,y])(L:L2.lr [i_] y)(g:[AO,y])(p:b=ae->[jW,y]=[fj])(B:[Dc,[Kt]]=bx b)(U:PI X a F (j5 T X.K Z EF k it))(ok:[li,f])(P:[k6]=t)(W:[jZ,z,u,[bc],PG [q2,f] a (gT X.K t)])(q:[jZ,z,u,[h],lU [q2,f] d (qQ T X.K Z e)])(j:[t9,z,u,PE [q2,f] l (cT T X.K Z EF I)])(J:[k3]):[sn,[sm],[Kt],S,[t3,EF,[uM]],lg i]:=by subst P;cases b with|true=>exact eK (QS O hN m (p Y) B U ok W q j J) λN σ H h=>Hd h|false=>exact eK (yr hN m L (Gq O hN U ok W q j J) B g) λN σ H h=>Hd h
def aab:qH E [uM] EF:=.ci [bL]
def aeG:lU X [] (qQ T X.K Z []):=zM
def ZM(h:SE T Z EF X c a):lU X [c] (qQ T X.K Z [a]):=UI h.pt
def F4{x f:au}(hN:[cl])(I:[fQ])(hd:[cq])(W:[f'])(xc:XC X.K [pt] N eD)(L:(k=0/\f="line")\/(k=1/\f="place")\/(k=2/\f="why"))(ns:[HK,X.K])(tl:[pH,f]):[aq,.Attribute [dx] f pos,.m7 i k]:=.of [pE,ad7 (ls hN I hd W) Y,h,by cases q:[kA]with|none=>have e:[bt,.m7 i k]=Ir.bad:=[Y,Ir.ah,q];rw[ae,e,h,h.bad.elim]|some s=>cases s with|exc B=>rw[aH,e,[bt,.m7 i k]=Ir.bC B[k]?,by simp[Ir.ah,q],e,h];obtain⟨U,ex,a,rfl,j,G,J,C,_,_,rfl,m,u⟩:=P.slot q;rw[aK,d,hd,z,al.bC c h,#[_,ex,a,[pt],N,eD,j,yz "line" "place" "why" [l,G] [l,J] [l,C],?_]];rcases L with⟨rfl,rfl⟩|⟨rfl,rfl⟩|⟨rfl,rfl⟩;{rw[aU,hd,[Cf,[b3]]]};{rw[aU,hd,[Cf,[b3]]]};{rw[aU,hd,[Cf,Y]]}|_=>(have e:[bt,.m7 i k]=Ir.bad:=by simp[Ir.ah,q]);rw[ae,e,h,h.bad.elim]] [bL] (by simp)
def Wz(h:k<n):oE n k=aa k:=[b_,oE]
def Qj{f}:∀{l}{G:List J},Ir.cM f l=aa G->[gq]=[E]/\[lY,i,x,U,[cT,l],∃y,f x=aa y/\[aZ,G,y]]|[],G,h=>by rw[a7];grind|[gB],G,h=>by rw[al,Ir.cM,h];cases e:f x with|none=>grind|some y=>cases q:Ir.cM f l with|none=>grind|some B=>rw[e,q]at h;rw[a7];rw[M,m,u,Qj q];rw[a3,by simp[m],λi z O=>?_];cases i with|zero=>rw[aU,O,#[y,e,Y]]|succ i=>exact u i z O
def Pn:∀{vs:[cR]}{P:Nat->V->V->[P]},([oh,w,V,vs,w,∃C,P j w C])->∃ws:[cR],[gG]=vs.length/\[oh,w,V,vs,w,∃C,[ce,ws,C]/\P j w C]|[],P,_=>#[[],Y,λj w e=>[cJ]]|v::vs,P,h=>by rw[M,C,hu,h 0 v Y];rw[aK,ws,U,W,Pn λj w e=>h [cU] w e,#[C::ws,[f],λj w e=>?_]];cases j with|zero=>grind|succ j=>exact W j w e
def OD{K}:∀{G}{ws},[gG]=[gq]->(∀(j:Nat)(d:D)(C:V),([ce,G,d])->([ce,ws,C])->[h7,d,C])->[fr,G,ws]|[],ws,U,_=>[bP,uh.mp U]|d::G,[],U,_=>[f]|d::G,w::ws,U,h=>[bF,h 0 d w Y Y,OD [f] λj d C e z=>h [cU] d C e z]
def PY(hi:i<[ho])(h:fB T X.K Z u (.proj a' k) σ H Q):sW (O1 X.K (cT T X.K Z u a')) (lg i) vt [KU] [i] σ H Q:=by obtain⟨env,O,S,r,F,R9,nw,c,P,h⟩:=h;rw[aH,e,[bt,.proj a' k]=(do let x←[bt,a'];let y←Ir.bH x;let l←Ir.fV y;let G←Ir.bC (Ir.cM (Ir.sM k) l);[b1,[ax,G]]),rfl,e,h];refine [sB,t,a1,hv];rw[aM,y,hy,g,al.kn c1 [H,hv] m,l,rfl,g2,g.tu];rw[K,G,hm,g3,g2.iQ];rw[am,a,B,rfl,ha,U,hr,hy];rw[M,ml,mg,Qj hm];rw[ay,step,[oh,w,V,B,w,∃b us d C,[LH,[ce,G,d]/\aG T X.K r1 t d C]],λj w ew=>by have hj:j<[E]:=[bD,hr.length,[dB,ew]];rw[K,w',e1,W,hr.get (cQ hj)];rw[az,ew,e1,e1];rw[K,d,hd,I,mg j _ (cQ hj)];cases p:l[j]with|tup q=>rw[p]at W hd;obtain⟨b,us,rfl,J,_,hq⟩:=W;rw[bx,C,hu,o,hq.get [aA,[aR,q,k,d],hd],#[b,us,d,C,Y,J,hu,I,o]]|_=>rw[az,p,hd,hd],z,hr.length];rw[K,ws,Co,iU,Pn (vs:=B) (P:=λj w C=>∃b us,[LH,∀d,([ce,G,d])->aG T X.K r1 t d C]) λj w e=>[f]];(have s:aY T X.K r1 t G ws:=OD [g] λj d C e1 e2=>by have hj:j<[bu]:=[bD,Co,[dB,e2]];obtain⟨N,e3,b,us,_,_,_,hu⟩:=iU j _ (cQ hj);rw[dg,e2,e3,hu d e1]);rw[ai,#[a,Y,#[B,[cL,ha]],λA nA=>?_],#[λj n H'=>n=[bu]-j/\j<=[bu]/\H'=[Ec,j],#[B.length,by simp,[f7],by simp],?_]];rintro j n H'⟨rfl,hj,rfl⟩;have f:bp X.K [Ec,j] a B:=[cL,[ny,ha,nA]];rw[aE,j=[bu]];{subst q;refine [H,#[#[B,f,[dr]],?_]];rw[V,gI [g],al.xq (l:=G) (E:=u) nw c1 g3 [g] s (a1.fR A nA) nA]};{rw[ad,L,j<[bu],[g],[aC,#[#[B,B[j],f,cQ L],λH'=>H'=[Ec,[cU]],λH' e=>#[[bu]-[cU],[g],Y,L,e],λx H3#[e3,e4]=>?_]]];subst e3;have ex:=e4 B f;rw[az,cQ L,ex,ex];obtain⟨C,W,b,us,e5,J,hu,_⟩:=iU j _ (cQ L);refine#[by rw[Bk qv,Hl],?_];unfold vt;dsimp only;rw[cm,aJ Y,#[B[j],rZ [q,rA,hi],b,us,k,C,e5,Y,cx.of ?_,?_,ws.take j,bW,?_,?_]];{rw[V,aX (iF (c1.sub _ _ J) nA),c1.sub _ _ J]};{unfold L2.oF;rw[V,Wz [dB,hu],hu]};{rw[o5,<-lP];omega};{rw[Z8,List.take_add_one,W];rfl}}
def NL(h:[cl]):i<[vi]:=[dB,h]
def DL{i k:Nat}(hN:[cl])(q:[fQ])(hd:[cq])(e:[f']):[cn,[Dk,a,.Constant [l,k] n z],[KU]]:=Mh LD (ls hN q hd e) Pm [zA]
def Nc{i k n:Nat}(O:[cG])(hN:X.N.Nodup)(j:[aq,F,p])(ok:[li,S])(m:[k6]=[i])(L:[cl])(U:(tW S [i_]).names.lookup x=[fj])(hd:[cq])(B:[f'])(e:[k3]):[l6,.ListComp [Dk,G,.Constant [l,k] n r] [#[.Name x a,F,[],0]] S pos,.proj p k]:=by rw[bH];have q:=PY [q,I.len,NL L] h;rw[aP,m,q];exact Gq O hN (EU j.pe) ok [BJ] [D9] [Cp,[pG,S,z,C,l],B] e _ s _ H Q I q
def ZN(h:[l6,[rU,[]],.proj e k]):[aq,[rU,[]],.proj e k]:=[kW,h,z,x6 z]
def agj{i j k n:Nat}(O:[cG])(hN:X.N.Nodup)(m:[ce,X.N,y])(Q:L2.lr [i_] y)(d:[AO,y])(f:b=ae->[jW,y]=[fj])(B:[Dc,[Gu]]=bx b)(W:SE T Z EF X F p)(ok:[li,e])(g:[k6]=[i])(L:[cl])(U:(tW e [i_]).names.lookup x=[fj])(hd:[cq])(u:[f'])(J:[k3]):[sn,[sm],[Gu],S,[t3,EF,.proj p k],lg j]:=by intro pins s σ H N I h;have q:=PY [q,I.len,NL L] [aA,fB T _ Z _ _ _ H _,h];rw[aP,g,q];cases b with|true=>exact QS O hN m (f Y) B (EU W.pe) ok [BJ] [D9] [Cp,X.bY s H _ (dN _ z C _) _,u] J pins s _ H N I q|false=>exact yr hN m Q (Gq O hN (EU W.pe) ok [BJ] [D9] [Cp,X.bY s H e (dN e z C _) l,u] J) B d pins s _ H N I q
def Yn:qH E (.proj a k) EF:=.ci [bL]
def m8.put{K}(y:m8 T K N Q A)(h:∀S s W,bD u O L S s W->a_ T K S s W i->A d S s W)(G:N p=ag)(v:L p=ag)(t:Le O L)(a:bD u O L r x H)(c:a_ T K r x H i)(nr:p∉r)(j:x p=ag)(ow:fZ T K r x H p d):Q [dq] H:=by(have g:O p=ag:=by cases q:O p with|none=>rfl|some C=>grind);rw[M,ob,m,ow.some];cases y with|ow=>grind|fz=>rw[D,f,Le x (upd _ p ob),[dC,[nm,e]],P,bD u O L r (upd x p ob) H,[Gh]];rw[ad,I,a_ T K r (upd x p ob) H i,[F6,k,F,w,f,ow.ord,m],h _ _ _ P I _ ?_];cases d with|lst l=>rw[dD,[m',[c0],f,z]]|aV l=>rw[dD,cE.mono [c0] f _ _ z]|bZ l=>rw[dD,cw.mono [c0] f _ _ z]|_=>exact et ow
def m8.at{K}(O:m8 T K I Q a)(c:[bB])(h:[jV,K,[s7,d],a])(G:I p=ag)(n:[gZ])(ow:fZ T K r F [eY,ob] p d):Q [dq] [eY,ob]:=O.put h G n c.sub [bn,n] [xw] (c.hG n) [rp] ow
def Xr:[sM,[bT,"dict"],G,∃p a,G=[[dq]]/\H p=aa (.dK a)/\[j0,l,.dK a]]:=by intro pins s σ H G us Q I r h;rw[ab,p,a,rfl,m,q,h];rw[K,C,rfl,N,lQ r];cases N;rw[ab,z,hd,B,J,j,N1 I.aO m];refine kt_call_dict hd j ([bD,J.length,z]) λi e x=>?_;rw[bd,u,by have:=I.B9;exact uv.mpr (gk this),#[[dQ],_,[uH,λb o q=>[cy,x.2 b (di (bF q)),[kI]],[aA,c7 _ _ _ _ _ (.dK _),#[z,u,B,J,e]]],Y,q _ I.fresh]]
def NI(b:Bt X x [bT,"dict"])(I:[dT])(h:[d']):[l6,[fE,[e]],.b1 .dict a]:=b9 [xA,Xr,h.pr,I] λσ H Q z=>Pf (λj C d r F H S v Q G W c hd g=>by cases d with|aV l=>rw[cg,m,hd,#[p,B,Y,m,λo n=>G.at c g (W o n) n #[B,bW,U,q]]]|_=>rw[aL]) z
def ZG(h:[gC,[Ar,a]])(q:[wS])(n:∀i,a≠[g3]):[d']:=.of (b9 h λσ H Q z=>x6 z) q n
end
end Snd
namespace Zt
open PySem PySem.Spec PyProof.Rows L2
section
variable{prog:cP}{w:cz}{A:dc}{E:aq->aD->Prop}{s:aD}
def acf(q:s.heap.IsTupleIter it t i)(m:[mI,t,G])(L:[cT,G])(I:∀j,j.IsTupleIter it t [aa]->wk it s.heap j->Q x [cv,j]):[dS,ajZ [gS]]:=by rw[ag,o,e,O,hd,id q];rw[el,q.typeIs,e];rw[an,zt e hd (by simp) (bg #[x,Y,bg (I _ ?_ (zu ..))])];exact#[_,mJ _ e (T_ (Dh hd _)),[bY,ajI ..,O],[bP,Dh hd]]
def abd(hh:[gi])(j:s.heap.IsTupleIter it t i)(m:[mI,t,G])(L:G[i]?=ag)(C:∀x e,Uh it s.heap x->[Jc,x.get? e,x]):[dS,ajZ [gS]]:=by rw[ag,o,q,O,hd,id j];rw[el,j.typeIs,q];rw[fh,wz [aJ,zt q hd (by simp) ?_],Dm Y ?_];(first|rfl|rw[hh]);rw[an,bg (Ue ?_)];exact C _ _ [Jn] #[_,[cs],Y]
def Hv{h j:bP}(x:h.IsTupleIter a t i)(k:∀o,([re])->j.get? a=[a']):j.IsTupleIter a t i:=[vP,e,r,x,k o e]
def adt{z TI TO P t l1 l2}{Q:[em]}(D:Jm z TI TO P t l1 l2)(X:uS s.heap z TI TO [a0])(j:k6 s.heap TI [m,P] [m,t])(n:k6 s.heap TO a b)(m:s.heap.IsListIter P l1 k1)(u:s.heap.IsTupleIter t l2 k2)(rE:s.heap.IsList l1 xs)(qj:[mI,l2,ys])(L:[aR,xs,k1,x])(hy:[aR,ys,k2,y])(hQ:∀S,uS S z TI TO (fv [ar])->k6 S TO x y->S.IsListIter P l1 (k1+1)->S.IsTupleIter t l2 (k2+1)->k6 S [ar] x y->S.objs.size=[bN]->([w5,P,t,S.get? c])->Q [fs] [cv,S]):[mD,[Js],λfj s'=>∃v,fj=.done [bl,v]/\Q v s',s]:=by rw[eA,X,[mR]];rw[aa,bI];rw[an,[Iw,X,W]];replace T:=T;rw[aT,[As],[Ic,W.extBut,Z]];have g:=Z.extBut _ _ D.TOi1 [wr,D.TOz,n];rw[an,k7 g Y [aJ,Uj g λO h N=>?_]];replace h:=h;rw[aT,mK (bg [aJ,[As]]),acf (((u.extBut W.extBut D.i2z).extBut Z.extBut D.i12.symm).extBut N.extBut D.TOi2.symm) (((qj.extBut W.extBut D.l2z).extBut Z.extBut D.l2i1).extBut N.extBut D.l2TO) hy λhd r s4=>[cA]];have d:=s4.extBut _ _ D.TOi2 h;rw[an,k7 d Y [aJ,Uj d λU q s5=>?_]];replace q:k6 U TO x y:=q;rw[aT,mK (bg [cA]),k7 q Y [aJ,JF ?_]];(have i8:U.objs.size=[ar]:=by rw[s5.1,s4.1,N.1,Z.1,W.1]);rw[ah,l,[IL,D.TOz.symm,D.i2z.symm,D.i1z.symm,T],F,[w5,P,t,U.get? c],λc o I c2 c3 c4 e=>[IL,c2,c4,c3,[wr,I,e]]];rw[aY,G,bF l,[hZ]];have H:uS (U.push [rH,x,y]) z TI TO .ellipsis:=[dR,l];rw[an,[oc,H,hf,p,s7]];replace p:=p;refine [oc,p,hg,B,s8];replace B:=B;have f:∀c o,c≠z->U.get? c=[a']->hg.get? c=[a']:=λc o I e=>s8.extBut _ _ I (s7.extBut _ _ I [gU]);rw[ah,C,s8.extBut _ _ (gk G) (s7.extBut _ _ (gk G) [cs]),k,hg.objs.size=U.objs.size+1,by rw[s8.1,s7.1,gp]];rw[i8]at B C k;refine bg [Ac];rw[V,i8,hQ hg B (f _ _ D.TOz q) ((((i.extBut N.extBut D.TOi1.symm).extBut s4.extBut D.i12).extBut s5.extBut D.TOi1.symm).at λo e=>f _ o D.i1z e) (Hv (r.extBut s5.extBut D.TOi2.symm) λo e=>f _ o D.i2z e) C k λc o I c2 c3 c4 e=>f c o I (F c o I c2 c3 c4 e)]
def abT{z TI TO r I Z l}(hh:[gi])(D:Jm z TI TO r I Z l)(U:uS s.heap z TI TO [a0])(j:k6 s.heap TI [bA] [m,I])(n:k6 s.heap TO a b)(m:s.heap.IsListIter r Z v)(u:s.heap.IsTupleIter I l k2)(rE:s.heap.IsList Z k)(qj:[mI,l,ys])(Sa:k[v]?=ag\/ys[k2]?=ag)(C:∀X e,([w5,r,I,X.get? c])->[Jc,X.get? e,X]):[dS,[Js]]:=by rw[eA,U,[mR]];rw[aT,[Iw,U,q],[As]];cases L:k[v]? with|none=>rw[an,Uk hh (m.extBut q.extBut D.i1z) (rE.extBut q.extBut D.l1z) L λJ e W P=>?_];rw[K,y,d,N,P];have p:=W _ _ D.i1z.symm T;rw[ad,f,e≠z,λx=>[f],n8 p (by simp) λO _ G=>C O e (λc o B _ S _ x=>G.extBut _ _ B (W _ _ S [vU,B,x])) #[y,G.extBut _ _ f d,N]]|some x=>have hy:ys[k2]?=ag:=[f];rw[an,[Ic,q.extBut,W]];have g:=[wr,D.TOi1,[vU,D.TOz,n]];rw[aT,k7 g Y [aJ,Uj g λO h G=>?_],mK (bg [aJ,[As]])];rw[an,abd hh (((u.extBut q.extBut D.i2z).extBut W.extBut D.i12.symm).extBut G.extBut D.TOi2.symm) (((qj.extBut q.extBut D.l2z).extBut W.extBut D.l2i1).extBut G.extBut D.l2TO) hy λhd e t P=>?_];rw[K,y,d,N,P];have H:=t _ _ D.i2z.symm (G.extBut _ _ D.TOz.symm [wr,D.i1z.symm,T]);rw[ad,f,e≠z,λx=>[f],n8 H (by simp) λhf _ F=>C hf e (λc o B c2 S c4 x=>F.extBut _ _ B (t _ _ c4 (G.extBut _ _ c2 [wr,S,[vU,B,x]]))) #[y,F.extBut _ _ f d,N]]
end
abbrev z1(h:bP)(l:ai):bP:=h.push [Fv]
abbrev z2(h:bP)(l C:ai):bP:=(z1 h l).push [p0,"tuple_iterator",[[iR],.int 0 0]]
abbrev z3(h:bP)(l C:ai):bP:=(z2 h l C).push [rH,[m,[c9]],[m,[dh,z1 h l]]]
abbrev z4(h:bP)(l C:ai):bP:=(z3 h l C).push [rH,[a0],[a0]]
abbrev z5(h:bP)(l C:ai):bP:=(z4 h l C).push [p0,"zip",[[a0],[mR],[mR],[m,[dh,z2 h l C]],[m,[dh,z3 h l C]]]]
def V8(l C:ai)(G B:[lB]):zk (Builtin.«zip.__new__» #[[[bT,"zip"],[hD],[iR]],[]]) (λ_ R s=>[qx,G]/\[mI,C,B]/\R [iB,[m,[dh,z4 s.heap l C]]] [cv,z5 s.heap l C]):=.of_wp λprog w A R s h=>by rw[ab,m,g,d,tk,os,s];rw[K,a,q,h,h];rw[ah,H,sub_zip,e,Heap.IsTuple (aj3 #[m.push [Fv],g,d,tk,os]) C B,aq2 q _];wp_walk using sf (a),ajV e;exact#[_,Y,h]
section
variable{prog:cP}{w:cz}{A:dc}{E:aq->aD->Prop}{s:aD}
def Wi(p:[qx,j])(H:[mI,C,G])(h:∀a,uS a ([ar]+4) ([ar]+2) ([ar]+3) [a0]->k6 a ([ar]+2) [fs] [m,[bN]]->k6 a ([ar]+3) [a0] [a0]->a.IsListIter [ar] l 0->a.IsTupleIter [bN] C 0->(∀c o,([bJ,c,o])->a.get? c=[a'])->Q [m,[ar]+4] [cv,a]):[dS,gS [bT,"zip"] [[hD],[iR]]]:=by refine callType_new F.called_zip (by rfl) (F.typeCall_zip_2 _ _) (F.newCall_zip_2 _ _) (λobj=>F.args_object_init_3 obj _ _) F.entry_zip_new (V8 l C j G) #[p,H,?_];rw[D,e,[dh,z1 s.heap l]=[bN],gp ..,z,[dh,z2 s.heap l C]=[ar]+2,by simp];rw[D,B,[dh,z3 s.heap l C]=[ar]+3,by simp,I,[dh,z4 s.heap l C]=[ar]+4,by simp];rw[D,L,[xE],[cs],q,[xE],bA _ [cs]];rw[aj,u,[xE],[dR,bA _ [cs]],g2,[xE],[q4,bA _ [cs]],m,(z5 s.heap l C).get? [ar]=[cj],[q4,[dR,bA _ [cs]]]];rw[z,B,I]at L;rw[e,z]at u;rw[B]at q;rw[e]at g2;rw[V,I,#[#[_,L,Y],h _ L u q #[_,m,Y,Y] #[_,g2,Y,Y] λc o x=>[q4,[q4,[dR,x]]]]]
end
end Zt
namespace Snd
open PySem PySem.Spec PyProof.Rows L2
open Ir(D aP aj lim Ex)
def D2(K:aQ)(a b:ai):It:=[FP,G,B,cx K H b B,e,[gq],[bu]]
def agd{K}{a b z TI TO i1 i2}(D:Jm z TI TO i1 i2 a b):mX f w K [DZ] (D2 K a b) [z,TI,TO,i1,i2] z [GP,i2,h.IsTupleIter i2 b i]where
 mem:=by simp
 obj:=[GD,v]
 keep:=λi h g st k=>[K7,v,m,u,m.at [ue,i1],Zt.Hv u [ue,i2]]
 item:=by rw[ex,v,m,u,[e_,ql],C];rw[D,hT,s.TypeIs [m,z] "zip",#[_,v,Y],go,∀Q,(∀g,uS g z TI TO (fv [ar])->k6 g TO C u2->g.IsListIter i1 a [aa]->g.IsTupleIter i2 b [aa]->k6 g [ar] C u2->g.objs.size=[bN]->([w5,i1,i2,g.get? c])->Q [er,[ar]] [cv,g])->aE [c6] X.A (jg [m,z]) Q E s,λQ hQ=>[h8,jg,[aJ,[H5,Zt.adt D v j n m u [kC] [aA,[mI,b,t5.toArray],p2] (x:=C) (y:=u2) ([aD,hu]) ([aD,Sc]) λg a1 a2 a3 a4 a5 a6 P=>bg (hQ g a1 a2 a3 a4 a5 a6 P)]]]];rw[ai,go _ λg z' HN G HA hT i8 hk=>?_,[Ke,g]];have new:[lb,[ar],[kz],ny,[kz]]:=[tP,C,u2,ru,HM,Cs];rw[d1,i2,d,[q,I.ve U qk,L],I.Nw U ql,C,Zt.Hv HA [Ed,D.i2z],m,u]
 done:=by rw[eM,v,m,u,[e_,ql]];rw[D,he,[Kj],[f],hT,s.TypeIs [m,z] "zip",#[_,v,Y]];unfold jg;rw[an,[H5,Zt.abT [e4] D v j n m u [kC] [aA,[mI,b,t5.toArray],p2] he λg e hk ho=>?_]];rw[K,o,ho,hcs,ho];rw[an,[Cn,#[o,ho,hcs],Um]];exact bg [IK,i2,d,J [f]]
 self:=[LO]
def afX(K:aQ)(ta:TA):TI:=λσ H R=>[nj,B,e,∃a b,B=[[aL],[fZ]]/\((∃l G,bp K e a l/\bp K e b G/\R (DD K a b) e)\/∃l G,bp K e a l/\cx K e b G/\R (D2 K a b) e)]
def Zg(w:Gl X "zip")(A:X.mg "zip"=ag)(v:PA X [e,O] ta)(l:[pI,[e,O]]=[FD,e,[O]])(k:[jG,[O]]):PI X [DZ] [kU,"zip",[e,O]] (afX X.K ta):=by rw[aS,R,h,Call_ (oV I w A aed (C0 [dL,v _ _ s _ H _ I h,us,L,B,Q,f,r1,q1] l k))];rw[ag,a,b,ex,q,q1];subst ex;cases r1 with|cons r G=>cases G with|cons r' G=>cases G;cases r;cases r';rcases q with⟨xs,ys,C,P,q⟩|⟨xs,ys,C,P,q⟩;{rw[bL,az,o,i,f.list C,y,g,J,f.list P];refine call_zip_2 i.isList J.isList λh' U j n m u i8 W=>Jn U ?_;rw[ad,I2,ak X _ _ _ _,f.kept (t':=L.toks) W,#[[gb]+4,[JM],_,_,Q,Y,I2,U7 (aj6 _ a b (i.lt) (J.lt)),#[U,j,#[_,_,n],m,u],λc x=>?_,q]];rw[br,N,[gb]<=c,[f],f.ju N (f.aO.fresh N)]};{rw[bL,az,o,i,f.list C,y,g,J,f.tuple P];have d:b<[gb]:=J.lt;rw[ai,Zt.Wi i.isList [aA,L.heap.IsTuple b _,J] λh' U j n m u W=>Jn U ?_,#[[gb]+4,[JM],_,_,Q,Y,(f.kept W),agd (aj6 _ a b (i.lt) d),#[U,j,#[_,_,n],m,u],λc x=>?_,q]];rw[ah,e',[aD,x],N,[gb]<=c,by rcases e' with z|z|z|z|z<;>rw[z]<;>omega];exact f.ju N (f.aO.fresh N)}
section
variable{T:Tb}{K:aQ}{r:List ai}{F H:Hp}{S:aj}
def agr(h:[vT])(U:F b=[hN,ws])(q:[cg])(O:[fr,z,ws]):[mX,D2 K a b,[fb,l.zip z,[n1]]]:=[Fp,cx.of G]
end
section
variable{T:Tb}{Z:Ir.bM}{E:XK}{X:Cx}
def ab'(N:Gl X "zip")(C:X.mg "zip"=ag)(P:[ii,[ig]])(x:[CZ])(A:[jG,[b]]):[kd,.Tuple k w t,[kU,"zip",[ig]],5,l]:=[ot,Zg N C P x A,xT h λs r F H S B c z g=>by match s,z,g with|[d,e],z,g=>(rw[ab,v,ws,rfl,m,u,z.dP];rw[ab,o,i,rfl,O,y,u.dP];rw[y.fY];cases d with|lst G=>(rw[am,q,B,rfl,L,U,J,m];cases e with|lst n=>rw[am,j,I,rfl,f,W,Q,O];exact#[q,j,Y,[H,#[B,I,[cL,[fk,L]],[cL,[fk,f]],[uQ,aaw L f J Q]]]]|tup n=>rw[am,j,I,rfl,f,W,Q,O];exact#[q,j,Y,[aC,#[B,I,[cL,[fk,L]],[jB,f],[uQ,agr L f J Q]]]]|_=>rw[aL])|_=>rw[aL])|[],z,g=>rw[aL]|[_],z,g=>rw[aL]|[os],z,g=>rw[aL]]
end
end Snd
namespace Mm
open PySem PySem.Spec PyProof.Rows L2
section
variable{prog:cP}{w:cz}{A:dc}{R:zi->aD->Prop}{I:ai}{fp wr:List ai}{n:Nat}{P:Nat->aq->Prop}{St:Nat->bP->Prop}
def UG(W:[KB])(bt:Nat->[gN])(i:CmpOf prog w A.in1 .Gt P bt)(S:ai)(g:S∉fp)(d:aq):[Fw,"max.loop"]:=by rw[ah,y,λh=>g (W.sub _ h),B,[Lp],[af]];intro k;induction k with|zero=>rw[eg,Uo,wA]|succ k X=>rw[et,[cU]<n,Uo,wA,[cU],.Gt];cases J:bt [cU] (fb bt j)with|true=>rw[aa,bI];rw[an,qF H Y [aJ,mK ?_]];rw[V,B,[m8,wA,X [cU] _ v _ [g] m (W.frame _ _ _ O [xk]) (by rw[ac,fb,J,bI];exact N) [vO] [Gb,[C9]]]]|false=>rw[ej,wA]
end
def abJ(a v:aq):JH "max" #[[a],[(iP "default",v)]]:=by kernel_rfl
section
variable{prog:cP}{w:cz}{A:dc}{E:aq->aD->Prop}{s:aD}
def afy{val:Nat->Int}(hh:[gi])(U:[qx,G])(a:[Ju])(h0:[IB])(m:[G7,val i>val j]):[dS,gS (.builtin "max") [[hD]] [uL]]:=by rw[ad,B,[Lp],by rfl,kmk_tree F.kind_max F.plain_max F.entry_max (abJ _ _) ?_];show [Dr,Up "max" ["key","default"] 0 #[[],[uL]]];rw[aT,[Gz,"max"],pf ?_];rw[a9,B,lt,l<[ar],[p4,e,U]];rw[dZ,wA,Uo,UG S [n5,val i>val j] (CmpOf.ints_gt val a) [bN] g d _ 0 _ v _ Y L (S.frame _ _ _ O [xk]) N [vO] λW X q p u=>?_]
end
section
variable{prog:cP}{w:cz}{A:dc}{R:zi->aD->Prop}{I:ai}{fp wr:List ai}{n:Nat}{P:Nat->aq->Prop}{St:Nat->bP->Prop}
def ag_(W:[KB])(bt:Nat->[gN])(i:CmpOf prog w A.in1 .Lt P bt)(S:ai)(g:S∉fp)(d:aq):[Fw,"min.loop"]:=by rw[ah,y,λh=>g (W.sub _ h),B,[Ll],by rfl];intro k;induction k with|zero=>rw[eg,Uq,wC]|succ k X=>rw[et,[cU]<n,Uq,wC,[cU],.Lt];cases J:bt [cU] (fb bt j)with|true=>rw[aa,bI];rw[an,qF H Y [aJ,mK ?_]];rw[V,B,[m8,wC,X [cU] _ v _ [g] m (W.frame _ _ _ O [xk]) (by rw[ac,fb,J,bI];grind) [vO] [Gb,[C9]]]]|false=>rw[ej,wC]
end
def ady(a v:aq):JH "min" #[[a],[(iP "default",v)]]:=by kernel_rfl
section
variable{prog:cP}{w:cz}{A:dc}{E:aq->aD->Prop}{s:aD}
def abe{val:Nat->Int}(hh:[gi])(U:[qx,G])(a:[Ju])(h0:[IB])(m:[G7,val i<val j]):[dS,gS (.builtin "min") [[hD]] [uL]]:=by(have B:[Ll]:=by rfl);rw[ai,kmk_tree F.kind_min F.plain_min F.entry_min (ady _ _) ?_,am [Gz,"min"]];rw[an,pf ?_];rw[a9,B,lt,l<[ar],[p4,e,U]];rw[dZ,wC,Uq,ag_ S [n5,val i<val j] (CmpOf.ints_lt val a) [bN] g d _ 0 _ v _ Y L (S.frame _ _ _ O [xk]) N [vO] λW X q p u=>?_]
end
end Mm
namespace Snd
open PySem PySem.Spec PyProof.Rows L2
open Ir(D aP aj lim Ex Sm)
def Rh:[h4,l,x,Int,l≠[],Ir.j0 (l++[x])=fk (Ir.j0 l) x]|[],_,h=>[c_,Y,h]|[a],x,_=>rfl|a::b::r,x,_=>by show fk a (Ir.j0 (b::r++[x]))=fk (fk a _) x;rw[cz,Rh _ x (by simp)]
def N6:[h4,l,x,Int,l≠[],Ir.oO (l++[x])=ek (Ir.oO l) x]|[],_,h=>[c_,Y,h]|[a],x,_=>rfl|a::b::r,x,_=>by show ek a (Ir.oO (b::r++[x]))=ek (ek a _) x;rw[cz,N6 _ x (by simp)]
section
variable{T:Tb}{Z:Ir.bM}{E:XK}{X:Cx}
def QU{ns:[h]}(h:i<[gL]):[aZ,[ji],[l,[kQ]]]:=[f]
def w3(P:V->[dM])(B:[cR])(H:Hp):[P]:=[d6,B,[v],P v H,False]
def FX(h:w3 P B H):∃v,B=[v]/\P v H:=[fn,w3]
def Mq(ns:[a4]):[H0,[kQ]>[mg,j],Ir.j0 (ns.take [ao])]|0,h=>[LG]|[ao],h=>by rw[bj,m,u,Mq ns k [g],e,[IW],[bb]];rw[e,Rh _ _ (by rw[Ne,<-uh,o5];omega)];rw[eT,a,fb [n5,[kQ]>[mg,j]] [ao]=[ap,ao (ns.getD _ 0>ns.getD _ 0),[ao],fb _ k],rfl]
def ad1(O:[cG])(b:[io,"max"])(N:[dT])(g:[gC,ta]):[GQ,Ir.j0 ns]:=[Iz,Mm.afy (val:=λi=>[kQ]) (S.ok.hd O) [mS] (λi v m=>?_) (λh0 A tk u=>?_) λv A tk h0 m u=>?_,by rw[U];rw[aD,h0],Mq ns ([gL]-1) [g],[kQ]>[mg,j]]
def adD(O:[cG])(b:[io,"max"])(u:[dT])(J:[d']):[aq,[AY],.b1 .vR a]:=[kW,ad1 O b u J.pr,h,[FC,.vR,←Ir.bH (←Ir.rd _ _ _)]]
def NX(ns:[a4]):[H0,[kQ]<[mg,j],Ir.oO (ns.take [ao])]|0,h=>[LG]|[ao],h=>by rw[bj,m,u,NX ns k [g],e,[IW],[bb]];rw[e,N6 _ _ (by rw[Ne,<-uh,o5];omega)];rw[eT,a,fb [n5,[kQ]<[mg,j]] [ao]=[ap,ao _,[ao],fb _ k],rfl]
def acd(O:[cG])(b:[io,"min"])(N:[dT])(g:[gC,ta]):[GQ,Ir.oO ns]:=[Iz,Mm.abe (val:=λi=>[kQ]) (S.ok.hd O) [mS] (λi v m=>?_) (λh0 A tk u=>?_) λv A tk h0 m u=>?_,[f],NX ns ([gL]-1) [g],[kQ]<[mg,j]]
def agE(O:[cG])(b:[io,"min"])(u:[dT])(J:[d']):[aq,[AY],.b1 .vz a]:=[kW,acd O b u J.pr,h,[FC,.vz,←Ir.bH (←Ir.rd _ _ _)]]
end
end Snd
namespace Sp
open PySem PySem.Spec PyProof.Rows L2
open AutoSeq1(wpAny_loadPart')
section
variable{prog:cP}{w:cz}{A:dc}{E:aq->aD->Prop}{s:aD}
def UY(a v:aq):checkTypeCall "enumerate" #[[a],[EO]]=bx ():=by kernel_rfl
def ac3(a v:aq):Jy "enumerate.__new__" #[[[EZ],a],[EO]]=bx ():=by kernel_rfl
def Yl(o a v:aq):JH "object.__init__" #[[o,a],[EO]]:=by kernel_rfl
def abq(l:ai)(G:[lB])(n:Nat)(bZ:[kK])(sl:Array [gP])(t:iz):zk (Builtin.«enumerate.__new__» #[[[EZ],[hD]],[(iP "start",.int 1 t)]]) (λ_ R s=>[bJ,l,[rP,[jh],bZ,.seq G n,sl]]/\R [iB,[m,[dh,[sE]]]] [cv,[sE].push [Bd]]):=.of_wp λprog w A R s h=>by rw[ab,q,g,d,tk,os,s];rw[M,U,h,h];rw[ah,H,sub_enumerate,z,Heap.IsList (aj3 #[q,g,d,tk,os]) l G,#[_,U,Y,n,Y]];wp_walk using[Ep];refine wpAny_stack_any λst=>[cA];split;{rename_i c _ _ _ _ _;cases(c==uA "enumerate");{rw[dF]};{rw[dF]}};{rw[dF]}
def ZK{r}(U:iO [iA] "__init__"=bx [gF,"object.__init__"])(q:Bind.madeBy [iA]=bx (aa f))(u:[a3,aa f !=aa "object.__new__"]):zk (Builtin.«object.__init__» #[self::r,[k]]) (λ_ R s=>s.TypeIs self T/\R [iB,[a0]] s):=by refine Meets.of_wp λprog w A R s h=>?_;rw[M,e,z,h];cases r with|nil=>(repeat(any_goals(first|rfl|wp_step)));grind|cons a r=>rw[cI];grind
def acF{T f a:String}{i p:Builtin}{j:[dW]}{J:[fy,aq]}{S:PySem.Spec}{Q R:[em]}(ft:TypeCalled T f a)(y:checkTypeCall T #[j,J]=bx ())(l:Jy f #[[iA]::j,J]=bx ())(O:entryFor table f=aa i)(P:entryFor table a=aa p)(g:zk (i #[[iA]::j,J]) S)(h:S A.in1 (wants R E) s)(L:∀o G,R o G->G.TypeIs o T/\JH a #[o::j,J]/\∃d,zk (p #[o::j,J]) d/\d A.in1 (wants (λr W=>r=[a0]/\Q o W) E) G):[dS,gS [iA] j J]:=by rw[K,c,tl,v,ft.mro];rw[R,k,ft.made,H,ft.sub];refine C6 (codeAny_of_tree ?_);show [su,callAny [iA] _];refine bg #[Code.quiet_builtin _ ([dz]),pp F.entry_type_call ?_];rw[Around.under_plain (weight_type_call_type T j J) (units_type_call_type T j J)];rw[R,m,ft.notType,u,ft.canCreate];rw[cI];refine wq (Jw ft.plain O (Dm l (g prog w A.in1 _ s h))) λr G U=>?_;cases r with|error e=>exact U|ok fl=>cases fl with|ret obj=>(rw[ab,I,aO,d,n,t,L _ _ U];rw[R,z,ft.init.lookup,C,ft.init.bind obj];rw[cI];refine wq (Jw ft.init.plain P (ft.init.check _ _ _ _ _ _ _ _ I aO (n prog w A.in1 _ G t))) λB W q=>?_;cases B with|error e=>exact q|ok x=>cases x with|ret r=>rw[M,rfl,N,q];rw[cI]|_=>exact q.elim)|_=>exact U.elim
def XE{l:ai}{G:[lB]}{t:iz}{Q:[em]}(W:[qx,G])(h:∀i,Df i [bN] [ar] 1 [a0]->i.IsListIter [ar] l 0->i.objs.size=[ar]+2->([mz,i.get? b])->Q [m,[bN]] [cv,i]):[dS,gS [EZ] [[hD]] [(iP "start",.int 1 t)]]:=by obtain⟨⟨c,bZ,a,sl⟩,U,O,n,hd⟩:=W;replace O:c=[jh]:=O;replace hd:a=.seq G n:=hd;subst O hd;refine acF Us (UY _ _) (ac3 _ _) F.entry_enumerate_new F.entry_object_init (abq l G n bZ sl t) (R:=λo j=>j.TypeIs o "enumerate"/\Q o j) #[U,?_] λo j q=>#[[cV],Yl o _ _,_,ZK Us.init.lookup Us.made ([af]),[cV],Y,q.2];have m:[dh,[sE]]=[bN]:=gp ..;show _/\_;rw[m];rw[br,e,Df ([sE].push [Bd]) [bN] [ar] 1 [a0],[hr,z,cZ [sE] (o:=[Bd]) Y,m,z],#[[wk],h _ e #[_,bA _ [cs],Y,Y] (by rw[gp,m]) λb o x=>[q4,x]]]
end
end Sp
namespace Snd
open PySem PySem.Spec PyProof.Rows L2
open Ir(D aP aj lim Ex)
def ab8{l}(h:aE M A (spliced [wj]) (λB j=>aE M A (evalAll [hY,[r']]) (λG C=>aE M A (gS [iA] B (([r'].filterMap (·.1)).zip G)) Q E C) E j) E s)(O:[wj]=(af,[tH])::[t_,l])(z:[wj].any (·.1)=af)(J:[kp,[r'],(·.1.isSome)])(q:[r'].any (·.1.isNone)=af):[eF,M,zh pos [iA] [] [wj] [r']]:=by(have x:aE M A (evalArgs [iA] ae [wj] [r']) (λa j=>aE M A (gS [iA] ([]++a.pos) a.kw) Q E j) E s:=by rw[O]at h|-;exact aq3 J h);rw[an,kh (gR x (λa j m=>[aJ,wm ?_]) (by simp))];simp[z,q];rw[an,[cA]];exact [aJ,gR m (λr C L=>[aJ,kh (wpAny_point (bg L))]) (by simp)]
def XN(hh:[gi])(it l:ai)(u:l≠it)(G:Array _):Draws prog w A it [it,l] (G.size+1) (λj v=>∃i,j=[aa]/\[aZ,G,v]) (λj h=>∃i,j=[aa]/\[wA,it,l]/\h.IsList l G)where
 live:=λ_ _#[_,_,st,_]=>let#[o,m,_]:=st;#[o,m]
 frame:=λ_ _ _#[i,e,H,L]O=>#[i,e,H.at [f],L.at [f]]
 item:=λj s Q E z#[i,e,H,L]I=>by subst e;rw[br,a,i<G.size,[g],Ui H L (x:=G[i]) (by simp) λd q x=>I _ _ _ (by simp) #[[aa],Y,q,L.extBut x.extBut u] x]
 done:=λs Q E#[i,e,H,L]C=>Uk hh H L [f] C
def Gk(K:aQ)(a:ai):It:=[F5,G,e,[an,[bd,i]+1],[gq]]
def ac'{K}(a e it:ai):[Hy,apT,t,Gk K a,[aa]]where
 mem:=by simp
 obj:=[Hp,he]
 keep:=[HV,he,im]
 item:=by rw[e9,he,im,C];rw[a1,j,bF he,G,it<[ar],[p4,q,nu],m,e≠a,λz=>by obtain⟨o,ho,dw,_⟩:=p.isList;grind];rw[D,c,a≠it,λz=>by rw[bL,o,ho,dw,p.isList,o2,ho2,hc2,nu];grind,eE,i<[o0],[f]];rw[ad,l,Df s.heap e it [bd,[aa]] S,he,wpAny_pyNext_enum_itemD (XN (prog:=X.prog) (w:=X.w) (A:=X.A.in1) [e4] it a c [hf]) l #[i,Y,nu,p.isList] ([bE]) im (by simp[im,m]) λx' h' tk#[i',y,d]ho j9 hT i8 hk=>?_];have u:i'=i:=[g];subst u;(have P:x'=C:=by have f:=[aD,d];rw[az,hu,f,f];rfl);subst P;obtain⟨j',g,HL,_⟩:=j9;have v:j'=i'+1:=[g];subst v;refine#[_,Y,ajz (s:=[l7,h',tk+1]) ho [Fc]];rw[ay,new,[lb,[ar],[bk,[l,i'+1],x],ny,[bk,[l,(i')+1],x]],[tP,.int (i'+1) tk,x',[gV],ru,j],I1,I.wQ (t':=tk+1) (ch:=[e,it]) [GI] hf [dr] new];refine#[[fs],_,I1,Y,[H9],#[#[x',?_],HL.at λo q=>[oA,sb.2 it (dt im)],im],[fo]];{exact n};{rw[fB]}
 done:=by rw[b1,hf,hg];rw[eL,he,im];rw[ah,U,rv.length,c,a≠it,λz=>by rw[bL,o,ho,dw,p.isList,o2,ho2,hc2,nu];rw[bb]];unfold jg;have hT:s.TypeIs [m,e] "enumerate":=#[_,he,Y];rw[an,zv (uO (name:=iP "__next__") hT aj8 (sm aj8 hT F.entry_enumerate_next ?_ (F.args_enumerate_next_1 _)))];show [su,Dl [m,e] 2>>=_];rw[aT,fu he Y (x:=[gS]) Y ?_,Uk [e4] nu [kC] ([bE]) λh' x eb d=>?_];rw[K,o,ho,vZ,d];rw[an,[Cn,#[o,ho,vZ],Um]];exact bg [JS,λb o J q=>eb b o J q]
 self:=[JU,he]
def acX(K:aQ)(ta:TA):TI:=[LJ,e,G,Gk K a]
def VF(d:[zh])(m:[yD])(l:PA X [e] ta)(x:[dT]):PI X (.Tuple A c t) [G6,e] (acX X.K ta):=by intro pins s σ H R I h;rw[ai,nY (oV I d m ajA ?_),ab8 [dL,l _ _ s _ H _ I h,us,L,B,Q,S,P,W] [bP,x] [bP,x] Y Y];rw[ab,a,y,ex,z,q,W];subst ex;cases P with|cons r G=>cases G;cases r;refine JI (IS (JJ ?_));rw[ag,az,n,i,g,S.list z];have u:ak X _ _ _ [tK,L,L.toks+1]:=S.tok _;rw[ai,Sp.XE i.isList λw O U v C=>Jl O ?_,#[[gb]+1,[[gb]+1,[gb]],_,_,Q,Y,(u.kept C),ac' a _ _,#[#[[a0],O],U,ajB _],[fo],q]];rw[br,N,[gb]<=b,[f],S.ju N (S.aO.fresh N)]
section
variable{T:Tb}{K:aQ}{r:List ai}{F:Hp}
def agU(h:[vT])(q:[cg]):[mX,Gk K a,[rT,[Z]+1]]:=by intro G O H p f s;rw[d7,J]
end
section
variable{T:Tb}{Z:Ir.bM}{E:XK}{X:Cx}
def Wr(z:[zh])(O:[yD])(J:[ii,[a]])(x:[pD,a,a]):[kd,.Tuple I i t,[G6,a],4,l]:=[ot,VF z O J x,[FE,W,agU L W]]
end
def YX(tk a:TE):TE:=λσ H Q=>∀p,([gZ])->tk σ [eY,.dT []] λx e=>a σ e λy q=>q p=aa (.dT [])/\∃(b:ai)(B:[iH]),x=[fZ]/\q b=[hN,[eD,kV]]/\Q [dq] (upd q p (.dT [(B,y)]))
def Yo(hu:[kM])(g:PE X k tk)(p:PE X v a):[cn,.Dict [aa k] [v] pos,YX tk a]:=by intro pins s σ H Q I q;rw[arm_eval_Dict,zip_pairTrees [aa k] [v] X.env pos Y Y,dictDisplay_pairs _ (by simp[pairTrees]) (by simp[pairTrees])];rw[aT,wm [hZ],wpAny_alloc ?_];rw[aT,kh ?_,pairTrees_cons_walk [eU,g pins _ σ _ _ (I.laid (o:=.dT []) (t':=s.toks) [uk] [dr] (QC s.heap I.B9)) (q _ [j3,dz [ar]]),C,S,x,n,f,r,i,[eU,p pins S σ n _ f i,w2,s2,y,w,d,N,A,pairTrees_nil_walk ?_]]];rw[am,e,b,t,ex,L,U,A];subst ex;cases [aA,C=da b,r];refine kh ?_;rw[ab,z,hd,xs,J,j,My d.aO e];cases J;rw[ai,[aJ,[aJ,[aJ,wpAny_dictSet_heap (hsz:=[f7]) [aA,(zb (gB X.prog X.w)).room X.A,aj9 hu] (sx d.aO L) j λh' G O=>[cA]]]],bg (bg (bg (bg #[[fs],_,?_,Y,U])))];obtain⟨o,l,B,h,u,m,W,_,P⟩:=G;refine G' d [yP] O #[o,h] #[by show 1<=bS;rw[af],hd,_,(KT.put [aA,KT w [] [],ajn] t L N).keeps λc ys F=>?_,o,l,B,h,u,m,W,P];rw[ba,aX (aeM F e [uY])]
section
variable{T:Tb}{Z:Ir.bM}{E:XK}{X:Cx}
def Qz(hu:[kM])(j:[cl])(f:[fQ])(hd:[cq])(B:[f']):[l6,[BW,l],[BI]]:=by rw[ai,b9 (Yo hu (RH jp) (ls j f hd B)) [BB,C],#[[f7],λq m=>?_]];rw[ay,J,q≠p,[jb,z,bW,m],a,[ae,aX J,m,m]];cases U:[kA]with|none=>rw[eO]|some s=>cases s with|val d=>(rw[aH,e,[qk,[BI]]=[ab,.bZ [([ib],d)]],[gv,Ir.ah,Ir.cD,U],e,h];rw[ab,w,I,v,rfl,u,P.slot U];refine#[v,I,by rw[aX (dt J),bW],q,[],Y,bW,?_];rw[ak,W,upd (upd [eY,.dT []] q [ib]) p [u_]=upd [eY,[u_]] q [ib],by funext b;rw[b_,upd],W];have L:([eY,[u_]]) q=ag:=[hl,J,a];cases G with|fz=>refine h r (upd F p [u_]) _ [cy,bD.lay c n,[bn,L]] (((c.lay n).own (c.hG a) [hl,J,c.hV a])) _ ?_;unfold aG;refine#[p,[([],v)],Y,bW,by show 1<=lim;rw[af],?_];rw[h8,cw,#[[],v,[],Y,Y,[eM,(bD.lay (o:=[u_]) c n).pre,(bD.lay c n).fr,u],by unfold cw;rfl]]|ow=>refine h r F _ [cy,bD.own n,[bn,L]] ([xw].own (c.hG a) (c.hV a)) p n [rp] (c.hG n) #[[([],v)],by rw[aX (dt J),bW],by show 1<=lim;rw[af],?_];rw[h8,cw,#[[],v,[],Y,Y,u,by unfold cw;rfl]])|_=>rw[eO]
def aex{x:au}{i B:Nat}{A p pos:eo}(hu:[kM])(h:[cl])(q:[fQ])(hd:[j1])(e:[xY]=af):[aq,[BW,B],[BI]]:=.of (b9 (Qz hu h q hd e) λσ H Q z=>x6 z) [bL] (by intro i z;cases z)
end
abbrev rh(x0 x1:aq)(d:ai)(i n ep:Nat)(ok ov:aq):bn:=[rP,[bT,"dict_itemiterator"],ag,.fields [ff,[x0,x1,[m,d],.int i 0,.int n 0,.int ep 0,ok,ov]],[cd]]
section
variable{prog:cP}{w:cz}{A:dc}{E:aq->aD->Prop}{s:aD}{d it:ai}{od:bn}{es:Array pj}{i n ep:Nat}{ok ov x0 x1:aq}
def Fo(I:[yf,x0,x1])(l:[oM])(z:[mi])(W:[fx]=n)(L:[aZ,es,P])(B:∀(C:bP)(m:dc)(x:[em])(R:[em]),C.get? it=aa (rh x0 x1 d [aa] n ep ok ov)->wk it s.heap C->(∀v S,Q [cX] S->R v S)->aE [g_] m (Ut [gS] 6 P.key P.val) R x [cv,C]):[At]:=by
 rw[ab,h,g,r,tk,os,s];have U:aj_ _ [gS] _:=#[_,I,Y];rw[fA,U];first|rw[an,JK U [cA]]|grind
 rw[eQ,I,[CF]];rw[M,f,c,Ju.mp L];rw[Y,Ux,akc f];refine [hZ];first|rw[an,JK U [cA]]|rfl
 rw[an,Uy U ?_];show [su,T9 _ 3 _>>=_];rw[an,[oc,I,C,j,u]];have a:aj_ #[C,g,r,tk,os] [gS] _:=#[_,j,Y];rw[aT,kh ?_,Uy a ?_];rw[an,Uy a ?_];rw[V,c,B C _ _ _ j u λv S q=>bg #[_,Y,bg q]]
def DT(hh:[gi])(L:[yf,x0,x1])(l:[oM])(z:[mi])(W:[fx]=n)(g:n<=i)(I:[Ky]):[At]:=by
 have q:s.TypeIs [gS] "dict_itemiterator":=#[_,L,Y];rw[fA,q];first|rw[an,JK q [cA]]|rfl
 rw[eQ,L,[CF]];have a:[fx]<=i:=[f];rw[Y,Ux,ajy a];refine [hZ];first|rw[an,JK q [cA]]|grind
 show [sA,T9 [gS] 2 [a0]>>=_];rw[fh,zt L Y (by simp) ?_,Dm (a:=qB) (by rfl) ?_];rw[[aA,A.in1.handled=ag,hh]];rw[aT,bg (Ue ?_),[Cn,#[_,[cs],Y],Um]];exact bg (I _ [Jn])
def OR(I:[yf,[a0],[mR]])(W:∀C,C.get? it=aa (rh (fv [ar]) [mR] d i n ep k v)->[In,[kw],R [fs] [cv,C]]):[mD,Ut [gS] 6 k v,R,s]:=by rw[ab,U,g,r,tk,os,s];rw[an,JF ?_];rw[ay,h,(U.push [kw]).get? it=[cj],[dR,I],G,bF I];rw[aj,u,[pc,U.push _]=aa [kw],[cs],m,[dh,U.push [kw]]=U.objs.size+1,gp _ _,c,[h9,it,U.get? b=[a'],[le,U.push [kw]]],[iv,[gU]]];rw[cG,fu h Y Y [cA]];rw[aT,fu h Y Y ?_,fu h Y Y ?_];rw[aT,[oc,h,j,p,q],[oc,p,L,x,a]];replace x:L.get? it=aa (rh _ _ d i n _ k v):=x;rw[aT,[oc,x,O,H,f],[oc,H,z,B,l]];rw[an,mK (bg (W _ B ?_ ?_ ?_))];{exact l.extBut _ _ (gk G) (f.extBut _ _ (gk G) (a.extBut _ _ [f] [vU,[f],u]))};{rw[l.1,f.1,a.1,[cV],m]};{exact [iv,l.extBut b o J (f.extBut b o J (a.extBut b o J [LU]))]}
def aeP{a:ai}(I:[yf,fv a,.bool f])(O:[bJ,a,G])(z:∀x,x.get? it=aa (rh (fv a) (.bool ae) d i n ep ok ov)->x.get? [ar]=aa [kw]->x.objs.size=[bN]->([di,b≠it,[l',x.get? b]])->R [fs] [cv,x]):[mD,Ut [gS] 6 k v,R,s]:=by rw[ab,L,g,r,tk,os,s];rw[an,JF ?_];rw[D,h,[pc,L.push [kw]]=[cj],[dR,I],l,(L.push [kw]).get? a=[cj],[dR,O]];rw[aj,u,[pc,L.push _]=aa [kw],[cs],m,[dh,L.push [kw]]=L.objs.size+1,gp _ _,c,[h9,it,L.get? b=[a'],[le,L.push [kw]]],[iv,[gU]]];generalize L.push _=N at h u m c l|-;rw[cG,fu h Y Y ?_];show aE _ _ _ _ _ _;rw[aT,PySem.W.kdx_alive l ?_,fu h Y (x:=.bool f) Y ?_];have C:∀j,j.get? it=[cj]->wk _ _ j->R _ _:=λj p q=>z _ p [vU,[f],u] (by rw[[cV],m]) [iv,[LU]];cases f with|true=>rw[d8,[cA],bg [f]]|false=>rw[ai,am [oc,h,j,p,q],[cA]];rw[bp];exact bg (C _ p q)
def GS(q:[yY,m])(h:[oM])(z:[mi])(I:Q [fs] [cv,[LM]]):[dS,ze [m,m]]:=by rw[ag,ov,H,a,B,id q];rw[ai,wpAny_pyIter_slot q.typeIs akd (sm akd q.typeIs PySem.F.entry_dict_items_iter ?_ (PySem.F.args_dict_items_iter_1 _)),am [cA]];rw[cG,fu H B Y [cA]];rw[cG,Uv h z ?_];rw[an,Uw h z ?_];(have e:[CF]:=by rfl);rw[Y,e,bI];refine pf (bg #[_,Y,"dict_itemiterator",_,#[_,[cs],Y],Dn.lookup,?_]) (by rw[aX,sizeOk,ake,ph,cO,b7,gL,kZ];omega);simpa[fv,ake]using I
end
def JS(d:ai)(hd:[bH,d,iA]):MeetsIn prog w (Builtin.«dict.items» #[[[m,d]],[]]) (λ_ R s=>s.TypeIs [m,d] "dict"/\R [iB,[fs]] [cv,[AH,"dict_items",[ff,[[m,d]]]]]):=.of_wp λA R s#[q,h]=>by rw[cG,wpAny_notOrdered_dict q ?_];refine [cA];rw[dV,aq4,[nw]];rw[an,[cA]];exact [aJ,pf (bg [f])]
section
variable{X:Cx}{pins:List (ai×bn)}{σ:L2.St}{H:Hp}{s:aD}{d:ai}{o:bn}
def wU(I:[ah])(h:H d=[uh]):[bH,d,iA]/\[bJ,d,o]/\o.ExactDict/\[bu]<=bS/\∃(l:Array _)(a:Nat),o.data=.dict l a/\l.size=[bu]/\∀(i:Nat)(k:[h])(v:V),([aZ,B,(k,v)])->∃(P:pj)(q:ai),[aZ,l,P]/\P.key=[jT]/\H q=[ok]/\bB v P.val:=by obtain⟨hd,z,x,p,pr,S,l,a,m,L,G,O,_⟩:=I.aO d _ h;rw[az,hd,m,m];refine#[x,hd,L,z,l,a,G,?_,λi k v e=>?_];{rw[R,f,size_of_entries O,C,IM pr];omega};{rw[ab,b,J,U,u,j,Zc pr e];rw[hr,q,entry_at O i,J,#[_,[ak,b],q,Y,u,j]]}
end
def Eo(d:ai)(o:bn)(B:[vL]):It:=[z6,H d=[uh]/\i<[bu],x,e,∃T k v q,[aZ,B,(k,v)]/\x=[m,T]/\H T=ag/\H q=[ok]/\k.length<=bS/\e=[cw,T,[bk,[jT],v]],H d=[uh]/\[bu]<=i]
def ac8{K}(it:ai)(l:[yo]):mX C w K [DZ] (Eo d o gG) [it] it (λi h=>∃ok g,IsItemIter h it d i gG.length ep ok g)where
 mem:=by simp
 obj:=λi h st b J=>[f]
 keep:=[qu,let#[ok,g,e]:=st;#[ok,g,k it (by simp) _ e]]
 item:=by rw[dq,hf,hg];rw[M,hd,hi,hg];rw[ff];obtain⟨⟨k,v⟩,a⟩:∃p,[aZ,gG,p]:=#[gG[i],cQ hi];rw[am,P,q,c,ahB,hq,ru,y i k v a];rw[K,ok,g,he,st];rw[aY,eE,bF he,Fo he f G i8 c λahv m x R j u hR=>OR j λh' ho hT hz hk=>hR _ _ ?_];rw[(u.1)]at ho hT hz|-;refine#[_,Y,wpAny_letOwnedTupleGo_items ho [Fc]];rw[ay,new,c7 X.prog X.w [cw,[ar],[bk,[jT],v]] ny _ [bk,[jT],v],[tP,P.key,P.val,ahB,ru,eE],I1,I.wQ (t':=s.toks) (λb ob J e=>[cy,[EE,sb],hk b ob ([aD,J]) [hO,[EE,u]]]) hf (by simp) new];refine#[[dQ],_,I1,Y,#[_,k,v,q,a,Y,[mt],hq,[jN,z,[aA,c7 _ X.w H _ q _,I.aO q _ hq].1],Y],#[P.key,P.val,n],[fo]];have e:=[aD,J];rw[a5,e,aX (di eE),[M,[EA]]]
 done:=by rw[b1,hf,hg];rw[M,hd,hi,hg];rw[am,f0,f1,f2,f3,f4,f5,[EA]];rw[ff];rw[bx,ok,g,he,st,DT [e4] he f G i8 hi λh' eb=>#[Y,[tT,ob,e,eb b ob J e]]]
 self:=λA i s Q E st h=>let#[_,_,e]:=st;PySem.W.kcp_self e h
def afw(g:TE):TI:=λσ H R=>[JN,R (Eo d o B) e]
def WF{p i}{B}{S}{t}(U:[gC,g])(W:[eE,e,"items"]:=by rfl)(P:[a3,p.endLine==i.line]:=by rfl):PI X (.Tuple B S t) [en,e,"items",p,[],i] (afw g):=by rw[bP,R,Jj (T:="dict") (id:="dict.items") W Y P Jk JL akf [KG,j,Q,u,c],ex,C=da d,N];obtain⟨J,f,L,_,A,n,G,l,y⟩:=wU u hd;rw[ad,O,j.TypeIs [m,d] "dict",#[o,f,L.1],#[O,[JX],?_]];rw[D,z,[c7,Q,[mO,j,j.heap.push [CB]]],u.kept (t':=j.toks) [Fe],m,[gc,ze [m,[si]],Bv X pins σ (.Tuple B S t) R,[mO,j,j.heap.push [CB]]],by refine GS (d:=d) [mv] [dR,f] G (Er (tk:=j.toks) z _ (ac8 _ G) #[[a0],[a0],?_] q);rw[bD,l,[cs]]];exact akg JL akh Y (Da #[Y,O,aki _,_,JS d J,O,m])
section
open Ir(D aP aj lim Ex)
variable{T:Tb}{K:aQ}{r:List ai}{F H:Hp}
def VL(h:gX d=aa k):[h7,d,kV k]:=by cases d<;>simp[gX]at h<;>cases h<;>(rfl)
def EW:∀{l}{j},h9 l=aa j->[fr,l,j.map kV]/\j.length=[E]|[],j,h=>[aU,h,#[[aM],Y]]|[gB],j,h=>by rw[al,h9,h];cases e:gX x with|none=>grind|some k=>rw[e]at h;cases z:h9 l with|none=>grind|some B=>rw[az,z,h,h];rw[aG,z1,z2,EW z,#[[bF,VL e,z1],[f]]]
def cw.at_:∀(l:[h])(B:[h])(i:Nat),([lr,B])->([aZ,l,(k,d)])->∃j v,[aZ,B,(j,v)]/\mZ k=aa j/\[cN]|[],_,_,_,e=>[cJ]|(x,C)::l,B,i,h,e=>by obtain⟨j,v,ws,rfl,q,u,z⟩:=h;cases i with|zero=>grind|succ i=>exact cw.at_ l _ i z e
def U0(h:F a=aa (.cb o (.dT S)))(q:[lr,S]):[mX,Eo a o S,[pn,[n1]]]:=by intro r' Q H' p f s;rw[aY,e,[y6],#[#[e,[a5,aR,q.length,[dr]]],[sx]]];rw[dQ]at hd;cases I:l[i]? with|none=>grind|some pr=>rw[M,k,x,pr];rw[az,I,hd,hd];rw[ab,j,v,u,J,P,q.at_ _ _ _ I];rw[a3,#[e,[dB,u]],λy H2#[t,j',v',c,L,A,n,O,U,C]=>?_];rw[az,u,L,L];subst A C;rw[D,same,∀o,Q c=[a']->o=[bw,j.map kV],λo z=>[f],B,Le Q (upd Q c _),λb o z=>by rw[b,w,b=c];{subst w;rw[bW,same o z]};{rw[V,aX w,z]}];rw[D,N,Le (upd Q c _) H',λb o z=>by rw[b,w,b=c];{subst w;rw[dg,bW,z,O]};{rw[ae,aX w,z,s _ _ z]},g,aG T K r' (upd Q c [bw,j.map kV]) k [l2],by cases k with|tup G=>rw[M,z1,z2,EW J];rw[h8,aG,#[c,_,Y,bW,[bD,z2,U],z1]]|_=>cases J];obtain⟨F2,g1,g2,W,g4,g5,m⟩:=wM N n g [eM,p,f.trans B,P];refine#[F2,B.trans g1,g2,W,λb o z=>?_,g5,m];rcases g4 b o z with w|w|w;{rw[b,w2,b=c];{subst w2;rw[dg,bW,w,[lJ,#[_,Y,O]]]};{rw[ae,aX w2,w,[H,w]]}};rw[aq,[e6,w],[lJ,w]]
end
section
open Ir(D aP aj lim Ex)
variable{T:Tb}{Z:Ir.bM}{E:XK}{X:Cx}
def ahg(J:[eb,p])(W:[eE,a,"items"])(C:[a3,f.endLine==G.line]):[kd,.Tuple I i t,[en,a,"items",f,[],G],6,[p]]:=[ot,WF J.pe W C,Ew h λd r F H S v c m g=>by cases d with|iY l=>obtain⟨q,j,B,rfl,e,U,L⟩:=m;exact#[q,j,B,Y,[fk,e],[uQ,U0 e L]]|_=>rw[aL]]
end
open PySem.Calls PyProof.V
open PySem.W(KdxSt kdx_hint)
section
variable{prog:cP}{w:cz}{A:dc}{E:aq->aD->Prop}{s:aD}{d it S:ai}{od:bn}{es:Array pj}{i ep:Nat}
def abf(g:[LL])(H:S<[ar])(l:[oM])(z:[mi])(L:[aZ,es,P])(Z:∀C,KdxSt C it d S [aa] [fx] ep->[In,[rH,P.key,P.val],Q [er,[ar]] [cv,C]]):[At]:=by rcases g with⟨rfl,ok,n,I⟩|⟨ok,n,a,f,G,I,N,h,q⟩;{refine Fo I l z Y L λT m x R j u p=>OR j λC O U B W=>p _ _ ?_;have z1:T.objs.size=[ar]:=u.1;rw[z1]at O U B|-;exact Z C [aC,#[_,_,_,af,_,O,U,gk (bF I),gk H]] U B [L6]};{refine Fo I l z Y L λT m x R j u p=>aeP j [bY,u.2 a h,N] λC O U B W=>p _ _ ?_;rw[(u.1)]at U B|-;exact Z _ [aC,#[_,_,a,ae,G,O,W a _ h [bY,u.2 a h,N],h,q]] U B [L6]}
def adY(hh:[gi])(W:[LL])(l:[oM])(z:[mi])(L:[fx]<=i)(I:[Ky]):[At]:=by rcases W with⟨rfl,ok,j,q⟩|⟨ok,j,a,f,G,q,_,_,_⟩;rw[aq,DT hh q l z Y L I,DT hh q l z Y L I]
end
abbrev yy(N:[lB])(c:Nat):bn:=[ET,N,c]
abbrev xN(P:pj):bn:=[rH,P.key,P.val]
section
variable{prog:cP}{w:cz}{A:dc}{s:aD}{R:zi->aD->Prop}{od:bn}{es:Array pj}{ep:Nat}
def acC(hh:[gi])(Q:S<I)(a:d≠S)(l:d≠I)(z:[mi])(hn:[fx]<=bS)(X:aq){h₁:bP}(hR:[AI,B,b≠S,b≠I->h₁.get? b=[a']->B.get? b=[a'],B.get? S,I,B.get? (I+1+j),R [iB,X] [cS,B]]):∀(k i:Nat)(h:bP)(tk c:Nat)(N:[lB]),[fx]-i=k->i<=[fx]->KdxSt h I d S i [fx] ep->([de,d,od])->([h9,S,b≠I,h₁.get? b=[a']->[kx]])->([de,S,yy N c])->([CV,i,I+1])->(∀j P,j<i->([ce,es,P])->[de,I+1+j,xN P])->[c9]=I+1+i->[HG,[m,I]]:=by rw[a1,y,di Q,nI,∀j,I+1+j≠I,λj=>gk [g],nS,∀j,I+1+j≠S,λj=>gk (hc Q [g])];intro k;induction k with|zero=>intro i h tk c N hk hi j8 F W Z T U n;have C:i=[fx]:=[g];subst C;refine pp akj ?_;rw[sq Do _];rw[ai,[aJ,adY (s:=[cS,h]) (A:=A.in1) hh j8 F z [dr] λB t=>?_],bg (hR B tk N c (λb o m u e=>t b o u (W b o m u e)) (t S _ y Z) T λj P v=>t _ _ (nI j) (U j P [M,Ju.mp v] v))]|succ k ih=>intro i h tk c N hk hi j8 F W Z T U n;have eE:i<[fx]:=[g];obtain⟨P,L⟩:∃p,[aZ,es,p]:=#[es[i],akc eE];rw[ad,i8,N.size=i,by rw[<-Uz,T,aR,gY],pp akj ?_];rw[sq Do _];rw[cX,jg [m,I]];rw[an,abf (s:=[cS,h]) (S:=S) j8 (bF Z) F z L λB O ht G x=>?_];rw[ah,H,x S _ y Z,f,[h9,S,B.get? b=[a'],[le,[I2]]],[EL]];rw[ai,[hZ],qF H Y [m8,Do,ih [aa] _ tk _ (N.push (da [c9])) [g] eE (O.keep f (dt y)) (f d od a (x d od l F)) (λb o m u e=>f b o m (x b o u (W b o m u e))) [vO] (by rw[Array.toList_push,T,ue,de,n];rfl) (λj e' v g=>?_) ?_] [g] ([cz,akk])];{rw[b,q,j<i];{exact f _ _ (nS j) (x _ _ (nI j) (U j e' q g))};{have:j=i:=[g];rw[b8,this,L,g];rw[bD,n,f _ _ (gk (bF Z)) ht]}};{rw[bG,[dh,[I2]]=B.objs.size,akl ..]}
end
section
variable{prog:cP}{w:cz}{A:dc}{E:aq->aD->Prop}{s:aD}{r d:ai}{od:bn}{es:Array pj}{ep:Nat}
def adc(hh:[gi])(I:[yY,r])(l:[oM])(z:[mi])(S:ai)(q:S≠r)(a:d≠S)(X:aq)(x:Nat)(T:[bJ,S,[sG,[cd],x]])(hR:[AI,G,b≠S,[l',G.get? b],G.get? S,[ar],G.get? ([bN]+j),R [iB,X] [cS,G]])(v:[fx]<=bS):[HU,akm [l4] [bA] X,k,C,F,F.quiet]:=by rw[ah,Q,bF T,key,∀(h:bP)(p tk:Nat),([h9,S,[le,[LM]],[kx]])->([de,S,[sG,[cd],p]])->[c9]=[bN]->[HG,[fs]],by intro h p tk L W n;rw[bd,hI,L [ar] _ (gk Q) [cs],acC (od:=od) (es:=es) (ep:=ep) (s:=s) (h₁:=s.heap) hh Q a (di (bF l)) z v X (λG B N c Z H vX U=>hR G B N c [iv,Z b o J [tw] e] H vX U) [fx] 0 h tk p [cd] (akn _) [f7] [H,#[Y,[a0],[a0],hI]] (L d _ a [dR,l]) (λb o J _ e=>L b o J [gU]) W Y (λj P hj=>[c_,hj,Nat.not_lt_zero _]) n]];unfold akm;rw[an,wpAny_typeOf (T:="dict_items") I.typeIs ?_];rw[aj,m,ako [l4] [bA]=af,by simp[ako,q],u,[bH,uA "dict_items",uA "list"],[af],t,[bH,uA "dict_items",uA "tuple"],[af]];simp only[m,u,t,Bool.or_false,dj,b8];rw[an,GS I l z ?_];have W:=bA [i7,"dict_itemiterator",.fields [F2]] T;rw[ai,[aJ,kh (kdx_hint (let#[o,y,O,_]:=I;#[o,[dR,y],O]) ?_)],wpAny_ite_split (λ_=>?_) (λ_=>[m8,Do,key _ x _ (λb o _ e=>e) W (gp _ _)])];rw[ai,[aJ,wz ?_],[hZ]];show [su,zw S (·.push .none)>>=λ_=>zw S (·.pop)];rw[an,qF W Y ?_];have g:=mJ (lL (·.push qB)) W Y;rw[ai,qF (hz:=by seq_fits) g Y ?_,[m8,Do,key _ _ _ (λb o J e=>?_) (mJ (lL (·.pop)) g Y) ?_]];{exact [cy,[ld,J],[hO,[ld,J]]]};simp
def ahb(hh:[gi])(I:[yY,r])(l:[oM])(z:[mi])(S:ai)(q:S≠r)(a:d≠S)(L:[bJ,S,[k0,[cd]]])(p:∀h tk N c,([h9,S,[gl],[kx]])->([de,S,yy N c])->([CV,[fx],[bN]])->(∀j P,([ce,es,P])->[de,[bN]+j,xN P])->R [iB,[a0]] [cS,h])(u:[fx]<=bS):[HU,Builtin.«list.__init__» #[[[l4],[bA]],[]],O,G,C,C.quiet]:=by rw[cG,k7 L Y [cA]];rw[an,qF L Y ?_];rw[a0,g,[di,b≠S,[l',[sw,S,lL [s3]].get? b]],[EL],B,[dh,[sw,S,lL [s3]]]=[ar],akl ..,adc (od:=od) (es:=es) (ep:=ep) hh [vP,m,x,I,g r o q.symm m] (g d _ a l) z S q a [a0] _ (mJ _ L Y) (λh tk N c W H Q U=>?_) u];grind
def Zs(hh:[gi])(h:[yY,r])(l:[oM])(z:[mi])(u:[fx]<=bS)(I:[AI,a,[gl],a.get? b=[a'],a.get? [ar],[bN],a.get? [vV],Q [fs] [cS,a]]):[dS,gS [jh] [[bA]]]:=by refine callType_codes (Q₁:=λobj W=>obj=[dQ]/\W=[cv,[ol]]) PySem.F.called_list (PySem.F.typeCall_list_1 _) PySem.F.entry_list_init (code_list_new _ #[Y,Y]) λobj W C=>?_;rw[M,rfl,rfl,C];rw[ad,L,[pc,[ol]]=aa [k0,[cd]],[cs],#[#[_,L,Y],PySem.F.args_list_init_2 _ _,ahb (A:=A.in1) hh [vP,q,x,h,[kI]] [dR,l] z _ (gk (let#[_,q,_]:=h;bF q)) (di (bF l)) L (λa tk N c O H B U=>?_) u]];have m:[dh,[hR,[k0,[cd]]]]=[bN]:=gp _ _;rw[m]at B U;rw[aQ,Y,I _ _ _ c [dC,O b o [tw] [gU]] H B U]
end
section
variable{X:Cx}{pins:List (ai×bn)}{σ:L2.St}{H H':Hp}{s:aD}{h':bP}
def ac1(I:[ah])(k:∀b C,[sL,C])(le:[qj,H' b=aa C])(new:[H8,[ar]<=b]):[kc,H']:=by refine I.un #[λb o q _ _ _=>k b o q,λb o q _ _ _=>#[o.slots,k b o q],λb o q n _=>?_,λb o q _=>#[o,k b o q],λb G q=>[rb],λb o C q=>[rb],λb ps q=>#[[cd],[f]]] [vl];{cases z:H' b with|none=>rfl|some C=>rw[aJ,new b C z,w,w];rw[ar];{rw[be,hc (bF q) w.1,qw _]}};{rw[aZ,new b C e,w,w,(I.aO b C w).jR (λc v _ q=>k c v q) (λc q=>[rb]) λc G q=>[rb]];rw[bb]}
end
def oP(H:Hp)(S I:ai)(l:[bc])(B:[vL]):Hp:=λa=>[fc,a,S,[dv,br [bu],λj=>[m,I+1+j]],[A,@uV Nat _ I a/\@uV Nat _ a (I+1+[bu]),aa [bk,[m,[lG,a-(I+1)]],[eD,(·.2)].getD (a-(I+1)) [aY]],H a]]
def ab2(g:TE):TE:=λσ H Q=>[JN,∀m,e m=ag->Q [m,m] (upd e m [rV,d])]
section
variable{X:Cx}
def aef{t i}(U:[gC,g])(W:[eE,e,"items"]:=by rfl)(P:[vb,i.line]:=by rfl):[cn,[en,e,"items",t,[],i],ab2 g]:=by rw[bP,Q,Jj (T:="dict") W Y P Jk JL akf [KG,J,n,S,Z],ex,C=da d,N];obtain⟨O,f,L,_,F,r,G,A,y⟩:=wU S hd;have j:J.TypeIs [m,d] "dict":=#[o,f,L.1];rw[ai,#[j,[JX],?_],akg JL akh Y (Da #[Y,j,aki _,_,JS d O,j,?_])];rw[ad,z,(J.heap.push [CB]).IsItemsView _ d,[mv],#[[dQ],_,S.laid [uk] [dr] ?_,Y,q _ S.fresh]];exact#[z,#[_,z.choose_spec.1],λm u#[o,p,l,B]k=>#[o,k o p,l,B]]
def agu(O:[cG]):[sM,[jh],T,∃(m d:ai)(o:bn)(B:[vL]),T=[[m,m]]/\H m=aa [rV,d]/\H d=[uh]/\∀(S I:ai)(x:[bc]),S<I->H S=ag->([sJ,I<=a])->[eS]=[bu]->([HX,B,x,H q])->Q [l4] (oP H S I x B)]:=by intro pins s σ H T us Q I r h;rw[bU,m,d,o,B,rfl,g,hd,q];rw[K,C,rfl,rx,lQ r];cases rx;obtain⟨hs,f,L,U,i,ep,G,n,y⟩:=wU I hd;let x:=i.toList.map λP=>[d6,P.key,[jT],q,0];rw[a0,A,∀(j:Nat)(k:[iH])(v:V),([ce,B,(k,v)])->∃P q,[ce,i,P]/\[ce,x,q]/\P.key=[jT]/\H q=[cj]/\bB v P.val,λj k v e=>by rw[am,P,q,u,p,e3,e4,y j k v e];refine#[P,q,u,?_,p,e3,e4];simp only[x,dQ,UA,u,g6,p],hn,i.size<=bS,[q,n,U],Zs [e4] [Jl,m,g] f G hn λh' tk N c kp hS w hT=>?_];rw[n]at w;rw[D,fr,[sJ,[ar]<=a],λa W=>[j3,W],lt,∀a C,([et,C])->a<[ar],λa C e=>I.aO.lt e];rw[D,nS,∀j,[vV]≠[ar],λj=>[g],atT,∀j(h:j<[bu]),oP H [ar] [bN] x B _=[cj],λj h=>by unfold oP;rw[aw (nS j),aJ [Az],UB]];rw[ad,le,[qj,oP H [ar] [bN] x B b=aa C],λb C e=>by have J:=lt b C e;unfold oP;rw[a5,aw (di J),aw (λz=>[c_,y4 J (aj9 [cK]),qw _]),e],#[[fs],oP H [ar] _ x B,ac1 I kp le [vl],Y,q _ _ x (ajY _) (fr _ [dr]) (λa W=>fr a (T2 W)) (by simp[x,n]) λj k v q u p=>?_]];{rw[aC,oP,e];{rw[ax,z];rw[cJ];subst z;rw[ai,[aC,#[[dr],?_]],#[[a5,aR,gY,U],N.toList,c,?_,[aD,hS]]];rw[w];(have:∀l:[aj],bq [aT,λj=>V.ref [vV]] [aT,λj=>da [vV]]:=λl=>by induction l with|nil=>exact [aM]|cons a l ih=>exact [bF,Y,ih]);exact this _};{rw[aA,e];{rw[ax,z];obtain⟨j,rfl⟩:∃j,b=[vV]:=#[b-([bN]+1),by have:=[cK];exact [dI,Nat.add_sub_cancel' this]];have E:=Nat.lt_of_add_lt_add_left z.2;rw[az,UB,e,e];obtain⟨P,q1,t,g2,F,Z,g5⟩:=A j B[j].1 B[j].2 (cQ E);refine [aC,#[[g],by show 2<=bS;rw[af],[P.key,P.val],.cons ?_ (.cons ?_ [aM]),#[_,hT j P t,Y,_,Y]]];{rw[hY,g2,F];rfl};{rw[hY,dQ,cQ E];exact g5}};{exact [H,e]}}};{obtain⟨P,q1,t,g2,F,Z,g5⟩:=A j k v u;rw[az,p,g2,g2];refine#[Z,?_];have z:=[aA,c7 X.prog X.w H s.heap q _,I.aO q _ Z].1;rwa [aR]at z}
end
section
variable{T:Tb}{K:aQ}{r r0:List ai}{F F0 H H0 H':Hp}{S:aj}
def Mc(a:[n7])(c:[bB])(j:F p=ag)(nr:p∉r)(G:H0 p=ag)(h:oT (H p)):bD r0 F0 H0 r [yd] [eY,.cb od u]/\[pp,[yd],[eY,.cb od u]]/\Le F [yd]:=by rw[ad,le,Le F [yd],[dC,[nm,e]],#[#[λb o e n=>?_,a.fr.trans le,[j9],a.pre,a.nr,λb e=>?_],#[c.len,c.nd,[j9],[fo],λn d b L m=>?_,(c.tab.upd h).fr [hl,c.tab.ne h,c.tab.1]],le]];{rw[V,[dw],a.keep b o e n]};{rw[cT,b,p,a.nf b o e]};{rw[cT,b,p,a.fR b e]};{rw[dM,b=p];{rw[aX q]at e|-;exact c.sub b o e}};{rw[V,[dw],c.off b J]};{exact [kG,b,L,m].step [f] le (aX [aA,b≠p,λz=>nr (z▸cG m)])}
open Classical in def aa7(P:ai->[P])(c:[bB])(le:Le H H')(N:∀a,P a->[nz]\/∃B,H a=[hN,B]):∃x,bD r F H r x H'/\[pp,x,H']/\Le F x/\∀a,P a->x a=H' a:=by let x:=λa=>[xL];rw[a0,l,Le F x,λa o e=>by show [xL]=_;rw[V,aJ [H,[q,e,[uY]]],le _ _ [fk,e]],nt,∀a∈r,¬P a,λa h m=>by rw[bX,N a m,z,B,z];{rw[M,o,e,c.has h];rw[az,z,e,e]};{exact c.zD h z},#[x,#[λa o e _=>[H,le a o e],l,[sI],[c0],[mw],[ox]],#[c.len,c.nd,(λa o e=>by have e:[xL]=[a']:=e;rw[aA,e];{exact e};{rw[cJ]}),[An],λn G a L u=>?_,c.tab.LU le ?_],l,λa m=>aJ [aC,m]]];{cases q:F a with|some I=>rw[bb]|none=>grind};{cases q:H a with|none=>rfl|some o=>rw[az,[rb],e,e]};{show [xL]=ag;rw[aw (λz=>z.elim (λw=>w (c.off a h)) (nt a h))]};{rw[aG,o,J,c.has (cG u),[kG,a,L,u].step [c0] l [bY,le a o J,J.symm]]};{show [A,F _≠ag\/P _,H' _,ag]=ag;rw[aw (λz=>z.elim (λw=>w c.tab.1) λw=>(N _ w).elim (λz=>c.tab.ne (Bb z) Y) λ#[B,z]=>c.tab.ne ([jq,z]) Y)]}
def Q4:[hW,[E]=[bu],(∀(j:Nat)(d:D)(v:V),([ce,l,d])->([ce,B,v])->[cN])->[cg]]|[],[],_,_=>[aM]|[],[d5],h,_=>[a7]|[d5],[],h,_=>[a7]|d::l,v::B,h,q=>[bF,q 0 d v Y Y,Q4 [f] λj d v e z=>q [cU] d v e z]
end
section
variable{T:Tb}{Z:Ir.bM}{E:XK}{X:Cx}
def acE(C:[cl])(J:[fQ])(hd:[cq])(u:[f']):[ej,.Return (aa [dx]) pos,.pP i]:=by intro pins s σ H N I#[r0,F0,H0,env,O,S,r,F,a,c,P,A,h];cases q:[kA]with|none=>rw[bF,[HW,.pP i]]|some sl=>have bad:Ir.bE Z _ _ S=[aX]->False:=λz=>[ae,z,h,h];cases sl with|own d=>(cases d with|bZ l=>rw[aH,e,[qm,.pP i]=[iz,.iY l],[w3],e,h];obtain⟨w,L,rfl,W,n,G,m,U,g⟩:=P.slot q;rw[M,j,B,I.lock m True.intro];rw[aK,f,Q,le,Mc a c W n (A i _ q) ([jq,m]),Dy (ls C J hd u) _ s σ _ N B #[_,L,h r _ _ f Q _ ?_]];exact#[O i,j,G,Y,bW,U,cw.mono [f] le _ _ g]|_=>rw[bF,[zf]])|_=>rw[bF,[zf]]
def adE(O:[cG])(b:Bt X y [jh])(j8:[pD,[BV],[BV]])(W:[eE,[s'],"items"])(Hz:[a3,yC.endLine==kJ.line])(hi:[cl])(hv:[fQ])(hd:[cq])(gi:[f']):[ej,.Return (aa [kU,y,[[BV]]]) Sz,.oD i]:=by intro pins s σ H N I#[r0,F0,H0,env,hX,S,r,F,a,c,P,A,h];cases q:[kA]with|none=>rw[bF,[HW,.oD i]]|some sl=>have bad:[qm,.oD i]=[aX]->False:=λz=>[ae,z,h,h];cases sl with|own d=>(cases d with|bZ l=>(rw[aH,e,[qm,.oD i]=[DV],[w3],e,h];obtain⟨w,ew,rfl,n1,n2,gG,hp,U,hr⟩:=P.slot q;rw[M,od,I',I.lock hp True.intro];rw[K,a1,c1,le,Mc (od:=od) (u:=.dT gG) a c n1 n2 (A i _ q) ([jq,hp])];have hr:=cw.mono [c0] le _ _ hr;generalize upd F (hX i) [yq]=F1 at a1 c1 le hr;have g:upd H (hX i) [yq] (hX i)=aa [yq]:=bW;generalize [cw,hX i,[yq]]=H1 at a1 c1 I' g;rw[ai,Dy [xA,agu O,aef [y5] W Hz,j8] pins s σ _ N I' #[_,ew,hX i,od,gG,Y,g,λm nv=>?_],#[m,hX i,od,gG,Y,bW,[ny,g,nv],λSl t qs Q nS nI hql hqs=>?_]];rw[D,f,Le H1 (upd H1 m [rV,hX i]),[dC,[ny,e,nv]],nn,∀b,upd H1 m [rV,hX i] b=ag->H1 b=ag,λb e=>by cases z:H1 b with|none=>rfl|some o=>rw[az,f _ _ z,e,e]];rw[D,L,[HX,gG,qs,H1 q],λj k v q e1 e2=>by rw[M,z1,z2,hqs j k v q e1 e2];rw[b,w,q=m];{rw[b8,w,bW,z1]};{rw[ae,aX w,z1,#[z1,z2]]},mW,∀b,([Bu,b])->upd H1 m [rV,hX i] b=ag,λb z=>nI b (yQ [cK])];rw[D,n,Le H1 (oP (upd H1 m [rV,hX i]) Sl t qs gG),[dC,by have e':=f _ _ e;unfold oP;rw[a5,aw [jb,z,nS,e'],aw (λz=>[az,mW b z,e',e']),e']],hkq,∀b,b∈qs->∃B,H1 b=[hN,B],λb J=>by rw[M,j,hj,Dq.mp J];rw[br,hj2,j<gG.length,[f],#[_,[M,L j gG[j].1 gG[j].2 b (cQ hj2) hj]]]];rw[ab,F2,a2,c2,l4,HX,aa7 (λb=>b=Sl\/[Bu,b]\/b∈qs) c1 n λb J=>by rcases J with z|z|z;{rw[bh,z,[H,nn _ nS]]};rw[aq,[H,nn _ (mW b z)],[eJ,hkq b z]]];refine h r F2 _ (a1.trans a2) c2 _ ?_;unfold aG;refine#[Sl,_,Y,[cy,HX Sl [fa],aJ Y],[q,aR,U],Q4 (by rw[aR,aR,gY,(hr.length)]) λj d v e1 e2=>?_];rw[dQ]at e1 e2;cases e0:l[j]? with|none=>rw[az,e0,e1,e1]|some pr=>rw[M,k,xd,pr];rw[az,e0,e1,e1];rw[ab,jk,v',g1,g2,g3,hr.at_ _ _ _ e0];have hj:=[dB,g1];rw[gH,cQ [q,gY,hj],uf,e2];obtain⟨u,HY⟩:∃u,[ce,qs,u]:=#[_,cQ [q,hql,hj]];rw[M,z1,z2,L j jk v' u g1 HY];rw[D,rg,[Bu,t+1+j],[Az],m1,F2 (t+1+j)=aa [bk,[m,u],v'],by rw[HX (t+1+j) [e6,rg]];unfold oP;rw[aw (λz=>[hr,w,y4 Q rg.1,z,qw _ w]),aJ rg,UB,hY,HY,hY,dQ,g1];rfl];unfold aG;refine#[t+1+j,_,Y,m1,by show 2<=lim;rw[af],.cons ?_ [hH,[eM,[c0],l4,g3]]];cases k with|tup G=>rw[M,y1,y2,EW (T:=T) (K:=X.K) (r:=r) (F:=F2) g2];rw[h8,aG,#[u,_,Y,[cy,HX u [eJ,[eJ,cG HY]],n _ _ z1],by rw[<-y2,lP];exact z2,y1]]|_=>cases g2)|_=>rw[bF,[zf]])|_=>rw[bF,[zf]]
end
section
variable{prog:cP}{w:cz}{A:dc}{E:aq->aD->Prop}{s:aD}{a kS:ai}{P:PySem.Fin->aD->Prop}
def QL{st}(q:[bJ,kS,[jF,l,e]])(J:[bJ,a,[jF,[cd],z]])(u:kS≠a)(O:failedOf st=ag)(d:l.size<64)(m:(sr st).size<64)(h:∀x c,[Gl]):[mD,ksk_tail a af z [m,kS] st,P,s]:=by rw[R,j,zu s.heap kS (lL [s3]),B,[bY,j.2 a [f],J]];rw[aT,JM q Y ?_ ([cz,kZ]) (by simp),mK ?_];rw[aT,seqEpoch_at B Y ?_,JM B Y ?_ (by simp) (by show [fO,sr _].size<=_;rw[Array.size_map,kZ];omega)];rw[ey,O];rw[d8,bg (h _ _ (λb o W G e=>?_) (UC B _)),[cy,(zu _ a _).2 b G,[hO,j.2 b W]]]
open PyProof.Rows.G in def UL{vs B fs:[h]}(W:[bJ,kS,[jF,[ks],e]])(J:[bJ,a,[jF,[cd],F]])(m:kS≠a)(U:[bu]=vs.length)(C:vs.length<64)(L:TupsOf s.heap shape B fs)(d:∀v,v∈B->∃l,zx s.heap shape v=aa l)(h:∀(st:SortSt)x c,(sr st).Perm [Ct]->UD (JN s.heap shape) (sr st) vs.length->[Gl]):[mD,ksk_end a af vs.toArray F [m,kS] [ks],P,s]:=by rw[aj,f,[Ct].size=vs.length,[f],g,B.toArray.size<64,[f],h0,KeysOf (JN _ shape) [Ct],λp q=>[ae,Array.toList_zip,q,d [L] ([aD,[M,kb [aA,([L],[Z])∈_,q]]])]];unfold ksk_end;dsimp only;rw[b,u,vs.toArray.size<2];{rw[aJ u,aJ u];rw[ai,am [cA],QL W J m Y g (by show(B.toArray.zip _).size<64;omega) λx c kp z=>h _ x c (by simp) ?_ kp z];intro i j H n;(have:i=j:=by rw[ph]at u;omega);rw[bh,this,KeyOrd.kle_refl _]};{rw[aw u,aw u];rw[ph]at u;rw[aT,tup_kind ([cz,TupsOf.length L]) L ?_,gR (wpS_sortRunsSt (Q:=λ_ I=>(sr I).Perm _/\failedOf I=ag/\UD _ (sr I) _) (tupC_ltAt ae (KeepsTups.refl _)) h0 #[Array.Perm.refl _,Y,Y] Y (Stable.refl _) [g] λI N S r Z=>#[N,S,r]) ?_ [c0]];rintro⟨⟨⟩,I⟩T⟨rfl,q,G,O⟩;rw[ae,f,O,QL W J m G g ([a5,q.size_eq,f,C]) λx c kp z=>h I x c q O kp z]}
def YT{n:Nat}(hh:[gi])(L:IsRange s.heap r 0 n 1 t C v)(m:n<64)(h:∀j tk N,([mz,j.get? b])->ItemsOf (λi v=>∃t,v=.int (0+i*1) t) N n->R N.toList [cS,j]):[mD,collect [bA],R,s]:=by rw[aT,wpAny_runValue (pp entry_proto_collect' ?_),pf ?_];refine [m8,akp,pp entry_list_iadd' ?_];rw[sq akp _];rw[ad,W,[pc,[ol]]=aa [k0,[cd]],[cs],[pv,wpAny_extend_range (s:=[cv,[ol]]) (R:=λq d=>∃(j:bP)(tk:Nat)(N:Array _)(G:Nat),q=.ok _/\d=[cS,j]/\[mz,j.get? b]/\j.get? _=aa [ET,N,G]/\ItemsOf _ N n) hh [dR,L] (small_one [g] [g] [g] [g]) ([ba,rangeSize_one]) [g] _ _ 0 W (λj tk N G O H B=>#[j,tk,N,G,Y,Y,[dC,O b o [tw] [gU]],H,B]),J,d,x,λe d x=>?_]];{cases J with|done f=>obtain⟨j,tk,N,G,e,rfl,O,H,B⟩:=x;rw[aU,e,[aJ,Tu H (bg [f])]]|again p=>rw[a3,[S],wq [bG] λq S y=>?_];obtain⟨j,tk,N,G,rfl,rfl,O,H,B⟩:=y;exact [aJ,Tu H (bg (h _ _ _ O B))]};grind
end
open PySem.W(kla_fn kla_obj kla_eval kla_makeFunction kla_makeFunctionHit kla_callFunE kla_codeExpr envX tabObj CodeHd)
section
variable{X:Cx}{pins:List (ai×bn)}{σ:L2.St}{H H':Hp}{s:aD}{h':bP}
def afC{ch:[h]}(I:[ah])(h:[qy,ch,H])(k:∀b C,([hx])->[sL,C])(le:[qj,H' b=aa C])(new:[H8,b∈ch\/[ar]<=b]):[kc,H']:=by rw[ad,j,[qj,[hx]],λb C e z=>[az,[M,h b z],e,e],[Ga,h b J,λb o O e n=>?_,λb B e=>le _ _ e,λb o C e=>le _ _ e,[ey,le _ _ e],G,C]];{cases z:H' b with|none=>rfl|some C=>rcases new b C z with w|⟨w|w,_⟩;{rw[az,n,w,w]};rw[aq,[c_,w,O],[ga,hc [ee] w]]};{rw[ab,o,l,a,m,r,U];exact#[o,l,a,k _ o [uV,h _ z] m,r]};{rw[aJ,new b C e,w,w];{rw[gM,(I.aO b C w).jR [BK] (λc q=>[rb]) λc B q=>[rb]]};{exact w.2}}
def abl{P c:ai}(I:[ah])(N:H P=aa (.fL ps))(k:∀b C,b≠P->[sL,C])(p:[i1,P]=aa (JO (ps++B)))(O:[ar]<=c)(d:c7 X.prog X.w [Jt] h' c (.ext j)):[kc,[Jt]]:=by rw[a1,h,[j3,O],f,[qj,b≠P->upd [cw,c,.ext j] P (.fL (ps++B)) b=aa C],λb C e n=>[a5,aX n,[dw],e],a,[qj,(∀q,C≠.fL q)->b≠P],λb C e n z=>by rw[z,N]at e;rw[aU,e,n _ Y]];rw[ad,G,∀b,([fz])->b≠P,λb e z=>[gH,z,N,e],I.un #[λb o q n _ _=>k b o (G b n) q,λb o q n _ _=>#[o.slots,k b o (G b n) q],λb o q n _=>?_,λb o q _=>?_,λb l q=>[CY],λb o C q=>[CY],λb S q=>?_] [vl]];{rw[a5,aX (G b n),aX (di (hc (bF q) O)),n]};{rw[b,z,b=P];{rw[bh,z,#[_,p]]};{rw[aQ,o,k b o z q]}};{rw[b,z,b=P];{subst z;rw[dg,N,q,#[B,bW]]};{rw[aQ,[cd],[ey,f _ _ q z]]}};{rw[b,z,b=P];{subst z;rw[dg,bW,e,p]};{rw[b,y,b=c];{subst y;rw[aX z,bW]at e;rw[aU,e,d]};{rw[aX z,aX y]at e;rw[gM,(I.aO b C e).jR (λx v L q=>k x v ?_ q) (λx q=>f _ _ q (a _ _ q (by simp))) λx l q=>[CY]]}}}
end
structure Pa (T : Tb) (X : Cx) (params : so) (body : bQ) (scope : fo) (pos : eo) (clos : List (au × ai)) : Prop where
 dw : Db scope X.env = bx clos
 code : ∃ c, X.env.code = .ref c ∧ akq X.base c T.tab
 blt : X.base.BuiltinsAt X.mg T.tab
 gP : iB ≠ T.tab
 dflt : defaultsOf params X.env = ([], [])
 line : pos.line = T.tl
 col : pos.col = T.tc
 qual : X.env.qual ++ "<lambda>" = T.tq
def BuiltinsAt.keep{h h':bP}(x:h.BuiltinsAt mg P)(k:[di,[kx],[md,o]]):h'.BuiltinsAt mg P:=let#[bm,o,a,b,c,d,e,f]:=x;#[bm,o,a,b,c,d,k _ _ e,f]
section
variable{T:Tb}{X:Cx}{pins:List (ai×bn)}{σ:L2.St}{F H:Hp}{s:aD}{E:aq->aD->Prop}{params:so}{body:bQ}{scope:fo}{pos:eo}{clos:List (au×ai)}
def Zv(L:Pa T X params body scope pos clos)(I:[ah])(N:[rs])(h:∀f c U H' G,([c7,H',G])->([Jq])->([sJ,H' a=ag])->H' T.tab=[BC]->H' c=aa [pS]->G.heap.get? f=aa [GU]->hC X pins H' f->Q [hC] G):[Ej,.Lambda params body scope pos]:=by rw[K,A,d,g,L.code];rw[R,j,g.keeps I.bk,W,[yu]];rw[aY,J,BuiltinsAt.keep L.blt I.bk,kla_eval L.dflt ?_];rw[L.qual];rcases N.2 with t|⟨c,t,C⟩;{refine kla_makeFunction L.dw I.ok.fw W d j (I.aO _ _ t) zm Y L.gP J λc U h' tk x ge lt cr p=>?_;rw[L.line,L.col]at p;rw[D,S,ak X _ _ (upd [cw,c,[pS]] _ _) [cS,h'],abl I t (λb C n e=>x b C n e) p ge #[cr,let#[l,o,_,_,e,q,_]:=cr;#[o,[aU,e,q]],λm u#[l,o,B,P,e,q,r]k=>#[l,o,B,P,e,[aU,e,k o q],r]],Z,ak X _ _ _ [cS,h'.push [GU]],S.kept λb C q=>[kI]];have O:=[j3,ge];rw[ad,i,c≠T.tab,λz=>[f],h _ c _ _ _ Z (λa o e n=>[a5,aX n,aX (iF e O),e]) [ox] bW (by rw[aX i,bW]) [cs] (S.ju [dr] [Bv])];rw[b,z,a=T.tab];{rw[b8,z,bW,e]};{rw[aX z]at e;rw[b,y,a=c];{rw[bh,y,O]};{rw[ae,aX y,e,e]}}};{refine kla_makeFunctionHit (cv:=[l2]) L.dw I.ok.fw W d j (I.aO _ _ t) zm ?_ J λU h' tk kp sz=>?_;{rw[<-L.line,<-L.col];exact codeAmong_snoc [] zm Y};rw[bd,S,I.kept (t':=tk) kp,h _ c _ _ _ (S.kept λb C q=>[kI]) (λa o e _=>e) (by simp) t C [cs] [De]]}
end
def GL(X:Cx)(A:dc)(env:jf)(N:[dF])(s:aD)(H:Hp):Cx:={X with A:=A.deeper env,N:=N,eA:=s,sX:=H,env:=env,outer:=X.stack,stack:=env::[gs],ex:=[],fn:=λ_=>af,ci:=ae,pn:=[],xe:=[qf]}
abbrev pH(p x:au)(j k:Nat)(J i q d O a A:eo):bQ:=.Tuple [.BinOp (.Constant [iZ] j J) .Sub [Dk,i,.Name p q] O,.Name p a] k A
structure vd (p x : au) (scope : fo) (params : so) : Prop where
 kind : scope.kind = .function
 co : scope.isCoroutine = af
 gen : scope.isGenerator = af
 cell : ∀ y ∈ scope.names, y.2 ≠ .cell
 pl : scope.names.lookup p = aa .local
 xf : scope.names.lookup x = aa .free
 only : ∀ y, scope.names.lookup y = aa .free → y = x
 bind : ∀ (name qual : au) (body : bQ) (cl : List (au × ai)) (pm cd ct u : aq), Ja (kla_fn name qual params body scope cl pm cd ct) ⟨[u], []⟩ = bx [(p, u)]
 nd : (p == ("__debug__" : au)) = af ∧ (x == ("__debug__" : au)) = af
 nc : (p == ("__classdict__" : au)) = af ∧ (x == ("__classdict__" : au)) = af
section
variable{T:Tb}{X:Cx}{pins:List (ai×bn)}{σ:L2.St}{H:Hp}{s:aD}{p x:au}{scope:fo}{params:so}
def ag9{i:Nat}(r:[yC])(I:[ah])(N:[EP])(hd:[gi])(hi:[cl])(L:[vK])(E:[wp])(P:[sP])(t:bB [c2] C)(Q:S.Ns [ar] (λy=>[(p,C)].reverse.lookup y))(k:[mz,S.get? b])(tk:Nat):ak [Hw] [] [aa [c2],[cX]] H [cS,S]:=by have h:=I.Fv;rw[aj,Z,∀b,b∉([]:[bc]),λb z=>(nomatch z),lk,∀y d,[rd].lookup y=aa d->y=x/\d=cr,λy d e=>by rw[pi]at e;rw[aA,e];{rw[ax,z];rw[aU,e,#[[aD,z],Y]]};{rw[cJ]},J,[rd].lookup x=aa cr,by rw[pi,uz]];rw[aM,G,hm,U,I.loc,l,rx,g,U i x v hi P [e6,L]];rw[a0,B,s.heap.IsCell cr (aa l),by rcases g with⟨z,_⟩|⟨_,c',F,e2⟩;{rw[gH,[iP,[wh,x]=[jW,x]],L,z]};{rw[dg,E,F,e2]},O,S.IsCell _ _,[vP,a,b,B,k _ _ a],#[#[h.mod,r.kind,Y,Y,[dr],λy z d m u=>[bY,[M,lk y d m],[dI,[M,lk z d u]]],λy W=>?_,λy d z=>(by cases z),λ_=>hd,ai' N,[aC,#[Y,Y]],[yH],h.bs,h.lO,λb _ _=>Z b,[yH],h.kq,h.pY],Y,h.bare,Un.kept k,#[_,Q,λi' y v' m u h3=>?_],λy d e=>#[aa l,[q,[bq,lk y d e],O]],h.aO.fresh [dr],λy d e=>[q,[bq,lk y d e],I.ie x _ E],λq w=>[ga,[aA,q∈[],w]],h.aO.kept k,Y]];{rw[d_,W,W,W,[c_,Y,r.cell _ (jQ W)],#[cr,[q,r.only y W,J]]]};{match i',m,u with|0,m,u=>cases m;rw[aU,u,#[C,t,[H,[qZ,r.pl]]]]|1,m,u=>cases m;rw[aU,u,#[l,rx,[aC,#[[aC,r.xf],cr,J,O]]]]|n+2,m,u=>rw[aI,GL,m]}
def Zq{E}{A:dc}{f c cr}{i k S:Nat}{v}{Q}(B:[yC])(I:[ah])(ft:[hb])(N:[EP])(hd:[gi])(hr:A.depth<uJ)(hu:∀env,(A.deeper env).units+1<dM)(hi:[cl])(L:[vK])(rG:[wp])(P:[sP])(ru:bB [c2] C)(F:[bJ,f,[D4,[zn,S,n,t],[rd],pm,U]])(O:H c=aa [pS])(ht:cT T X.K Z E [J3] [aa [c2],[cX]] H Q):aE [c6] A (gS [hC] [C]) [jl] r s:=by refine C6 (kla_callFunE hr F Y B.co B.gen Y [Jl,c,O] ?_);rw[cm,B.bind,bg (wpAny_newFunctionEnv B.cell (λy G=>[q,dL.mp G,B.pl]) (λahv W m=>#[I.nolimit.fresh _ m,?_]) B.kind)];rw[D,u,gf scope p,[H,B.pl],g,gf scope x,[lJ,B.xf]];rw[ad,se,SE T Z E [Hw] [zn,S,n,t] [bk,.sub _ (.ix [am] [aK]),[aK]],Mx ([af]) (Fd Y (RY MR (R0 ft (hu _) (Al Y g B.nd.2 B.nc.2) [LV] [zA])) (Fd Y [LV] P8)),kla_codeExpr (gR (se.pe [] _ _ _ _ (ag9 (c:=c) (A:=A) B I N hd hi L rG P ru W [dC,m.extBut b o [tw] [gU]] _) ht) (λw s'#[l,H',d,rv,q]=>?_) [Ex])];exact I.after #[l,H',d.os,d.bare,d.base,d.aO,rv,q]
end
def KG:[H7,[h],Ir.lp rs]|[],G,p,_,_=>p.nil_eq|[gB],[],p,_,_=>[ga,p.length_eq]|[gB],y::G,p,m,u=>by rw[kO]at m u;(have e:x=y:=by rw[aZ,[c4,p.mem_iff.mp (qv)],a,a,a];{rw[aJ,[c4,p.mem_iff.mpr (qv)],b,b];rw[ar];{rw[be,Ir.Gz (m.1 y b) (u.1 x a),Ir.GI]}});subst e;rw[KG (ajR p) m.2 u.2]
abbrev qW:[gN]:=λ_=>af
def sN(rs:[a4])(j:Nat):List (Int ⊕ [aj]):=[[H,0-[fK,j]],[H,j]]
def V7(h:akr itemOrd (sN rs j) (sN rs i)=af)(n:i≠j):Ir.lp rs i j:=by simp only[sN,akr,itemLt,Bool.or_eq_false_iff,Bool.and_eq_false_iff,Bool.not_eq_false',decide_eq_false_iff_not,dZ]at h;unfold Ir.lp;omega
def LO{U:[aH]}{f}{g}:∀(l:[gw]),([gy,bB (f x) (g x)])->bq [g2] [aT,g]|[],_=>[aM]|a::l,h=>[bF,[f],LO l [f]]
open PyProof.Rows.G in def X6{a B:[dW]}(U:[bW]=[fM])(N:[bu]=[fM])(F:[y9,a,zx h qW k=aa (sN rs j)])(O:∀(j:Nat)v,([ce,B,v])->∃t,v=.int j t)(d:l.Perm (a.toArray.zip [ks]))(x:UD (JN h qW) l [fM]):bq [l9,[rr],j,V.int j] [aT,(·.2)].toList:=by let g:Keyed->Nat:=[aF,[d6,[Z],.int i _,i.toNat,0]];rw[D,P,(a.toArray.zip [ks]).toList=a.zip B,by simp,f,l.toList.Perm (a.zip B),[bD,P,d.toList]];rw[D,I,[g4,l.toList,∃(j:Nat)(t:iz),[Z]=.int j t/\g p=j/\zx h qW [L]=aa (sN rs j)],λp W=>by rw[M,j,J,Dq.mp (f.mem_iff.mp W)];rw[M,z1,z2,CD.mp J];rw[aG,t,e,O j _ z2,#[j,t,e,by rw[Y,g,e];rfl,F j _ z1]],W,[R,a.zip B,g]=br [fM],by apply my;intro j;rw[dQ];rw[b,J,j<[fM]];{rw[D,m,j<[bW],[g],u,j<[bu],[g]];have:[ce,a.zip B,(a[j],B[j])]:=CD.mpr (by simp);rw[M,t,e,O j _ (cQ u)];rw[this,cQ ([aD,J]),uf];rw[aa,e];rfl};{rw[aV,[z7,mD],mz ([aD,J])]}];rw[aj,pr,(l.toList.map g).Perm (br [fM]),[bD,W,f.map g],sz,l.toList.length=[fM],by rw[f.length_eq,mD,U,N,aiM],pw,(l.toList.map g).Pairwise (Ir.lp rs),by rw[aiw];intro i j C L H;rw[aR]at C L;rw[ah,q,x i j (yQ H) [g],S,∀(i:Nat)(O:i<l.toList.length),KK (JN h qW) l i=sN rs (g [Al]),λi O=>by obtain⟨j,t,_,G,Z⟩:=I [Al] (SS O);(have:[aZ,l,[Al]]:=by rw[<-UA,cQ O]);rw[dV,KK,this];show(zx h qW [Al].1).getD []=_;rw[aV,Z,G]];rw[S i C,S j L]at q;rw[JP,JP];refine V7 q [lo];rw[aN,(aiW (h₀:=[q,aR,C]) (h₁:=[q,aR,L]) (pr.nodup_iff.mpr SO)).mp ([a5,JP,JP,z])]];rw[M,s,r,Ir.xU rs];rw[<-KG (pr.trans r.symm) pw s,cq,Array.toList_map];exact LO _ λp d=>by obtain⟨j,t,n,G,_⟩:=I p d;rw[aQ,t,[f]]
def afY(p:lx r j)(h:j.length=[gn]):j=r:=[ch,DP p]
def Aj(T:Tb)(X:Cx)(pins:[eH])(σ:L2.St)(r:[bc])(S:aj)(F0 H0:Hp)(rs:[a4])(a kS f c:ai)(e1:Nat)(d:bn)(i:Nat)(s:aD):[P]:=∃F H B e,[ah]/\bD r F0 H0 r F H/\[gR]/\[qy,[kS,a,f],H]/\[bJ,kS,[jF,Dr B,e]]/\[bJ,a,[jF,[cd],e1]]/\[bJ,f,d]/\H c=aa [pS]/\[bu]=i/\[Hm]
section
variable{T:Tb}{X:Cx}{pins:List (ai×bn)}{σ:L2.St}{p x:au}{scope:fo}{params:so}{r:List ai}{S:aj}{F0 H0:Hp}{rs:List Int}{a kS f c cr:ai}{e1 i jj kk:Nat}{s:aD}{pm ctv:aq}{v:V}{E':aq->aD->Prop}{p0 p1 p2 p3 p4 p5 p6:eo}
def aeC(ik:[yC])(ft:[hb])(hh:[sq])(hr:X.A.depth<uJ)(hu:[tV,8])(hi:[cl])(L:[vK])(rG:[wp])(P:[sP])(hv:aG T X.K r F0 [X,[qC]] v)(ne:kS≠a/\kS≠f)(hn:n<[fM])(yD:[fM]<64)(I:[LN,n,s]):aE [c6] X.A.in1.in1 (gS [hC] [.int n t]) (λk s'=>aE [c6] X.A.in1.in1 (aq5 [m,kS] (·.push k)) (λ_ R_=>[LN,[aw],R_]) E' s') E' s:=by obtain⟨F,H,ks,e,I,A,cl,hf,hk,ha,ua,O,U,key⟩:=I;rw[ay,ob,[ev,[kS,a,f],[Kb]],λb J=>[f],N,[eM,A.pre,A.fr,hv]];obtain⟨h,hrn⟩:∃z,[aR,rs,n,z]:=#[rs[n],cQ hn];have hg:[fK,n]=h:=[f];let Z:Ir.bM:=#[λ_ _=>Ir.bad,[h2],[mY],0,[h2]];rw[ad,ev,Ir.ah Z [J3] [[ay,n],[fH,[qC]]] S=[ab,[iw,0-h,n]],by(have at_:Ir.at_ [qC] n=aa [l,h]:=by unfold Ir.at_ Ir.place;rw[aR,aJ [g],aJ [g]];show [qC][[hj,[kO]]]?=_;rw[Ux,dQ,hrn];rfl);simp only[Ir.ah,Ir.cD,Ir.rd,Ir.bH,Ir.eu,bind,Ir.M.bind,Ir.M.pure,Ir.bo,rL,IE,at_,Ir.bC],gR (Zq (Z:=Z) (E:=[EM]) (j:=n) (v:=v) (Q:=λl H'=>∃F',bD r F H r F' H'/\a_ T X.K r F' H' S/\aG T X.K r F' [iw,0-h,n] l) ik (I.pinned hf ob) ft I.ok.frames hh hr (λenv=>by show X.A.units+1+1+3+1<dM;omega) hi L rG P #[t,Y] ua O #[[[ay,n],[fH,[qC]]],[h2],S,r,F,cl,#[Y,λj sl y e1 e2=>?_,λj k d d' e1=>?_],?_]) (λk s'#[l,H',qh,rv,F',HZ,E,Q]=>?_) [vx]];{match j,e1,e2 with|0,e1,e2=>cases e1;rw[aU,e2,#[_,Y,[b3]]]|1,e1,e2=>cases e1;rw[aU,e2,#[_,Y,N]]|G+2,e1,e2=>simp at e1};{match j,e1 with|0,e1=>cases e1|1,e1=>cases e1|G+2,e1=>simp at e1};{rw[ev];intro r' F' H' a1 c1 w W;have er:=afY a1.pre (by rw[c1.len,cl.len]);rw[bh,er,#[F',a1,c1,W]]};{rw[al,aG,Q];obtain⟨q,B,rfl,hq,_,hre⟩:=Q;rw[ab,w1,ws,rfl,m,u,hre.dP];rw[ab,w2,ws,rfl,h3,h4,u.dP];rw[h4.fY,m.cg,h3.cg]at hq;obtain rfl:k=[jT]:=rv;rw[D,eI,[di,b∈[kS,a,f],([gl])->[DK]/\[iO]],[iv,by have z:=qh.eI (b,o) [x5];rw[aQ,[cK],[fD]]],C,[qy,[kS,a,f],H'],λb J=>by rw[a4,o,e,ob b J];rw[aQ,[bq,eI b o J e],[bq,hf b J]]];obtain⟨k1,_⟩:=eI kS _ (by simp) hk;obtain⟨k2,_⟩:=eI a _ (by simp) ha;obtain⟨k3,_⟩:=eI f _ (by simp) ua;rw[a0,g,[h9,kS,[DK],[le,s'.heap.update kS (lL (·.push (da q)))]],[EL],ea,(Dr ks).push (da q)=Dr (ks++[da q]),by simp,JM k1 Y #[F',H',ks++[[jT]],_,((qh.uX).BV (t':=s'.toks) (ch:=[kS]) [iv,g b o ([aD,J]) e] λb J=>C b ([ey,dL.mp J])),A.trans HZ,E,C,[bD,ea,UC k1 (·.push (da q))],g _ _ (dt ne.1) k2,g _ _ (dt ne.2) k3,HZ.kp O (λz=>by have:=cl.ord z;rw[ae,O,this,this]) [r0],[aV,cO,U],λj k e=>?_] (by rw[ph,kZ];omega) (by show((Dr ks).push (da q)).size<=_;rw[akk,ph,kZ];omega)];rw[b,hj,j<ks.length];{rw[lK hj]at e;rw[bx,q',z1,z2,key j k e,#[q',z1,HZ.kp z2 (λz=>cl.zD z z2) [r0]]]};{rw[nT [g]]at e;rw[b,z,j-ks.length=0];{rw[az,z,e,e];obtain rfl:j=n:=[g];rw[V,hg,#[q,Y,E.sub _ _ hq]]};{rw[az,mz ([bE]),e,e]}}}
end
section
variable{T:Tb}{X:Cx}{pins:List (ai×bn)}{σ:L2.St}{H:Hp}{s:aD}
open PyProof.Rows.G in def aaO(I:[ah])(key:[Hm]):(∃fs,TupsOf s.heap qW B fs)/\[y9,B,zx s.heap qW k=aa (sN rs j)]:=by rw[ad,one,[y9,B,∃q o t t' n,k=[jT]/\[bJ,q,o]/\o.cls=[oi]/\o.data=.seq [ff,[.int _ t,.int j t']] n],λj k e=>by rw[K,q,rfl,a,key j k e];obtain⟨_,az,J,o,m,O,n,hd⟩:=[aA,c7 _ _ H _ q _,I.aO q _ a];cases J with|cons C J=>cases J with|cons d J=>cases J;rw[cw,C,d,#[q,o,t,t',n,Y,m,O,hd]],#[?_,λj k e=>?_]];{(have:∀l,(∀k∈l,∃q o x y t t' n,k=da q/\[bJ,q,o]/\o.cls=.type _/\o.data=.seq [ff,[.int x t,.int y t']] n)->∃fs,TupsOf _ qW l fs:=λl=>by induction l with|nil=>exactλ_=>#[[],[aM]]|cons k l U=>intro h;rw[M,fs,r,U λk L=>h k [o3]];obtain⟨q,o,x,y,t,t',n,e,m,O,hd⟩:=[gI,k];rw[aQ,.int x t::fs,[bF,#[q,o,_,n,e,m,O,hd,Y,λ_=>[v6],[uY]],r]]);exact this _ λk L=>by rw[M,j,W,Dq.mp L];rw[am,q,o,t,t',n,e,one j k W];exact#[q,o,_,_,t,t',n,e]};{obtain⟨q,o,t,t',n,rfl,m,O,hd⟩:=one j k e;unfold zx;have:isTupObj s.heap [jT]=ae:=[gv,isTupObj,m,O];rw[aJ this];rw[gv,tupKey,m,hd]}
end
section
variable{T:Tb}{X:Cx}{pins:List (ai×bn)}{σ:L2.St}{p x:au}{scope:fo}{params:so}{r:List ai}{S:aj}{F H:Hp}{rs:List Int}{f c cr rg:ai}{i jj kk:Nat}{s:aD}{pm ctv:aq}{v:V}{E':aq->aD->Prop}{p0 p1 p2 p3 p4 p5 p6:eo}{t u w:iz}{Q:VK}
def Z4(ik:[yC])(ft:[hb])(hh:[sq])(hr:X.A.depth<uJ)(hu:[tV,8])(hi:[cl])(L:[vK])(rG:[wp])(P:[sP])(hv:[qH,[X,[qC]]])(yD:[fM]<64)(I:[ah])(cl:[gR])(hf:hC X pins H f)(ua:[bJ,f,[wH]])(O:H c=aa [pS])(H_:IsRange s.heap rg 0 [fM] 1 t u w)(hQ:∀F' H' o,bD r F H r F' H'->a_ T X.K r F' H' S->H' o=ag->Q [m,o] (upd H' o [dv,[rr],[Fg,j]])):aE [c6] X.A (gS (.builtin "sorted") [[m,rg]] [(iP "key",[hC])]) [jl] E' s:=by refine call_function_entry_kw kind_sorted plain_sorted entry_sorted (ksk_s1 _ _) ?_;unfold aq6;rw[ai,am (m:=checkCount "sorted" 1 1 _) [cA],[aJ,YT hh H_ yD λh' tk N kp G=>?_]];have g:N.toList.length=[fM]:=[q,Uz,G.1];rw[an,wpAny_newList ?_ (by rw[g,kZ];omega)];rw[ah,I1,I.kept (t':=tk) kp,B,[pN].get? h'.objs.size=aa [jF,N.toList.toArray,0],[cs]];show aE _ _ _ _ _ [cS,[pN]];rw[an,kh (wpAny_call_entry_kw slot_list_sort #[_,B,Y] entry_list_sort ?_ (ksk_l1 _ _))];rw[ksk_t1];rw[R,fD,I1.ju [dr] (I1.aO.fresh [dr]),eE,[dC,bF (kp b o e)]];generalize hD:h'.objs.size=D at*;rw[ay,I2,[c7,H,[cS,[pN]]],I1.kept (t':=tk) λb o q=>[kI],s1,zu [pN] D (lL [s3])];obtain⟨e1,l⟩:∃e1,([pN].update D (lL λ_=>([cd]:[lB]))).get? D=aa [jF,[cd],e1]:=#[_,UC B [s3]];unfold ksk_tree;rw[aT,listItems_at B Y ?_,JM B Y ?_ (by rw[ph,g,kZ];omega) [f7]];rw[an,seqEpoch_at l Y ?_];rw[R,I3,ak.BV (s:=[cS,[pN]]) (t':=tk) (ch:=[D]) I2 [iv,[hO,[EE,s1]]] λb J=>[q,dL.mp J,fD],n,[cy,s1.2 f (di (eE f _ ua)),[dR,kp f _ ua]]];rw[bf,[pN].update D (lL [s3]),h3];rw[aT,JF ?_ (by rw[Uz,ph,g,kZ];omega),wpAny_newList ?_ [f7]];refine kh ?_;rw[D,I4,[c7,H,[cS,[pF]]],I3.kept (t':=tk) λb o q=>[kI],I5,[c7,H,[cS,[uf,[]]]],I4.kept (t':=tk) λb o q=>[kI]];rw[aj,hk5,[uf,([]:[dW])].get? [dh,[pF]]=aa [jF,Dr [],0],[cs],m,[dh,[pF]]≠D/\[dh,[pF]]≠f,#[gk (bF [dR,l]),gk (bF [dR,n])],st0,Aj T X pins σ r S F H rs D [dh,[pF]] f c e1 [wH] 0 [cS,[uf,[]]],#[F,H,[],0,I5,.refl,cl,λb J=>by rw[aZ,[c4,J],rfl,J,I4.ju [dr] (I4.aO.fresh [dr])];{rw[aZ,[c4,J],rfl,J,fD];{rw[V,dL.mp J,hf]}},hk5,[q4,l],[q4,n],O,Y,λj k e=>by simp at e]];show aE _ _ _ _ _ [cS,[uf,([]:[dW])]];rw[bf,[uf,([]:[dW])],h5];rw[bf,[dh,[pF]],kS];unfold ksk_rest;rw[an,wz ?_];(first|rw[List.forIn_toArray]|(rw[<-Array.forIn_toList];rw[aa,List.toList_toArray])|rw[<-Array.forIn_toList]);have a:∀(j:Nat)y,([ce,N.toList,y])->∃t,y=.int j t:=λj y e=>[aG,t,q,G.2 j y ([bD,UA,e]),#[t,by rw[q];rw[bu];omega]];rw[an,ksk_fold (Aj T X pins σ r S F H rs D kS f c e1 [wH]) N.toList 0 _ st0 (λj y s' hy hI=>?_) λs' hI=>?_];{rw[kN]at hI|-;rw[bj,ty,rfl,a j y hy,hj,j<[fM],[bD,g,[dB,hy]]];rw[an,zv [pv,aeC (E':=[qf]) ik ft hh hr hu hi L rG P hv m hj yD hI,k,R_,q,[Ex]]];exact [aJ,gR q (λ_ s3 z=>bg #[Y,z]) [Ex]]};{rw[kN,g]at hI;obtain⟨F',H',ks,e,qh,A,E,C,Z,ha',ap1,_,U,key⟩:=hI;rw[an,listItems_at Z Y ?_];obtain⟨⟨fs,ht⟩,d⟩:=aaO qh key;refine UL (vs:=N.toList) Z ha' m.1 [g] [g] ht (λk hk=>?_) λst h6 c6 pm W kp6 hA=>?_;{rw[aG,j,hj,Dq.mp hk,#[_,d j k hj]]};{rw[g]at W;rw[ai,#[_,Y,bg #[_,Y,[kT],upd H' D [dv,[rr],[Fg,j]],?_,Y,hQ F' H' D A E [M,C D (by simp)]]],afC (t':=s'.toks) (ch:=[kS,D]) qh (λb J=>C b (by rw[aJ,[c4,J],rfl,J];(simp);(rw[ey,dL.mp J]))) [iv,kp6 b o [u0] [u0] e] [dC,[ny,e,[M,C D (by simp)]]] [j9]];rw[b,z,b=D];{rw[b8,z,bW,e];refine [aC,#[[H,by simp],?_,[hY,sr st].toList,c6,(X6 [g] g d a pm W),[q,aks,hA]]];rw[aR,[bq,Ir.xU rs].length_eq,gY,kZ];omega};{rw[ae,aX z,e,[H,e]]}}}
end
def Qb:∀{l}{rs},Ir.eQ l=aa rs->l=[qC]|[],rs,h=>by rw[a7];rfl|d::l,rs,h=>by cases d with|int i=>(rw[al,Ir.eQ,h];cases e:Ir.eQ l with|none=>grind|some ns=>rw[az,e,h,h];rw[a_,Qb e])|_=>rw[a7]
def abx:[sM,[bT,"range"],G,∃n,G=[[dn]]/\[j0,p,.mW 0 n]]:=by intro pins s σ H G us Q I r h;rw[K,n,rfl,q,h];rw[dH,C,rfl,t,rfl,lQ r,call_range_1 #[[dQ],_,I.laid (o:=.mW 0 n) [uk] (by simp) #[_,_,_,[cs]],Y,q _ I.fresh]]
section
variable{T:Tb}{K:aQ}{r:List ai}{F H H':Hp}{S:aj}{c:ai}
def X7(q:[bB])(k:[Jq])(C:[sJ,H' a=ag])(j:H' T.tab=[BC])(O:H' c=aa [pS]):bD r F H r F H'/\[pp,F,H']:=by rw[a3,#[λa o e _=>?_,[gK],[y8],[c0],[mw],C],#[q.len,q.nd,[sI],q.off,λn G a L u=>?_,q.tab.1,[aC,#[c,j,O]]]];{rw[b,z,a=T.tab];{subst z;rcases q.tab.2 with t|⟨_,t,_⟩<;>(rw[dg,t,e,[aC,#[_,_,Y,j]]])};grind};{exact k a o (q.sub a o e) [jb,z,q.tab.1,e]};{rw[aG,o,m,q.has (cG u),(q.rep n _ a L u).step [f] [gK] [bY,k a o m λz=>q.KN (z▸cG u),m.symm]]}
end
def Dz (env : Ir.Env) (i : Nat) (n : Int) : Ir.M D := match env[i]? with
 | aa (.val (.lst l)) => (do
  let rs ← Ir.bC (Ir.eQ l)
  if n = (rs.length : Int) ∧ rs.length < 64 then Ir.M.pure (.lst ((Ir.iH rs).map fun (j : Nat) => .int (j : Int))) else Ir.bad)
 | _ => Ir.bad
section
variable{T:Tb}{Z:Ir.bM}{E:XK}{X:Cx}
def adR(t6:[cG])(b:Bt X y (.builtin "sorted"))(b':Bt X N [bT,"range"])(j8:[dT])(LA:∀cr,([wp])->Pa T X v0 [zn,kk,p4,p6] c8 ah6 [rd])(ik:vd p x c8 v0)(ft:[hb])(hr:X.A.depth<uJ)(hu:[tV,8])(hi:[cl])(L:[vK])(ha:[aq,e,a']):[aq,.Call [sm] [.Call (.Name N rp) [e] [] Sz] [#[aa "key",.Lambda v0 [zn,kk,p4,p6] c8 ah6,ap2]] kJ,.qS a' i]:=by refine SE.of (e':=.qS a' i) ?_ [bL] [f];intro pins s σ H Q I#[env,hX,S,r,F,cl,P,h];rw[bj,cr,rG,I.ok.has x [H,L],e1,[bt,.qS a' i]=(do let d←[bt,a'];let n←[eh,d];Dz env i n),rfl];rw[ai,[Jy],Ur [dL,(iZ (xm (pos:=Sz) (p:=rp) abx b'.gl b'.mg b'.bt (iZ ha.pe jp j8) b'.nm b'.db j8) jp Y) kJ pins s σ H (w3 λv H2=>∃r2 F2 S2 n J,v=[m,J]/\bD r F H r2 F2 H2/\a_ T X.K r2 F2 H2 S2/\H2 J=aa (.mW 0 n)/\al T X.K r2 F2 H2 (Dz env i n S2) (λd r' F' H'=>[tQ,X.K,r',F',H']) E) I ?_,us,s1,B,H1,I1,r1,q1] Y Y];{refine#[env,hX,S,r,F,cl,P,[tr,λd r1 F1 H1#[S1,c1,a1,m]w W=>?_]];cases d with|int n=>rw[cm,W.cg,#[n,Y,λp np=>#[r1,F1,S1,n,p,Y,a1.trans [bn,np],c1.own (c1.hG np) (c1.hV np),bW,?_]]];exact al.from [bn,np] m|_=>rw[av,m]};obtain⟨w,rfl,r2,F2,S2,n,pg,rfl,a2,c2,Ia,u⟩:=FX q1;rw[K,C,rfl,ru,lQ r1];cases ru;refine JI (Zv (LA cr rG) I1 c2.tab λf c U H3 s3 I3 kp dm ht O ua hf=>JJ ?_);rw[M,a3,c3,X7 c2 kp dm ht O];rw[ag,t1,t2,t3,H_,[aA,c7 X.prog X.w H3 s3.heap pg (.mW 0 n),I3.aO pg _ (kp _ _ Ia λz=>by subst z;rcases c2.tab.2 with t|⟨_,t,_⟩<;>(rw[az,t,Ia,Ia]))]];rw[al,Dz,u];cases q:[kA]with|none=>rw[bn,q,u]|some sl=>rw[q]at u;cases sl with|val d=>(cases d with|lst l=>rw[K,rs,ers,h5,al.iQ [aA,al T X.K r2 F2 H1 _ _ E,u]];obtain⟨⟨hn,yD⟩,h6⟩:=h5.ite;subst hn;rw[ab,y0,ey,v,rfl,hv,[fA,a2].slot q];rw[Qb ers]at hv;refine Z4 ik ft (I3.ok.hd t6) hr hu hi L rG ey hv yD I3 c3 hf ua O H_ λF' H' o a4 c4 no=>?_;rw[a1,g,al.from (a3.trans a4) h6,A,[R,[rr],[Fg,j]]=[R,[l9,[rr],j,[an,j]],V.int],[bP,cq],ed,[R,[rr],[sV,j,j]]=[R,[l9,[rr],j,[an,j]],D.int],[bP,cq]];rw[A];rw[ed]at g;refine al.lst c4 g ?_ (aY.zB _) no;rw[aR,aR,[bq,Ir.xU rs].length_eq,gY];have:64<=lim:=[af];omega|_=>rw[av,u])|_=>rw[av,u]
end
open Ir(Sm)
def Nk:∀{ps:[dF]}{us:[dW]}{n},n∈ps->([zx])->[es,[E0]]=ae|[],_,_,h,_=>[a7]|p::ps,[],_,_,U=>[f]|p::ps,C::us,n,h,U=>by rw[rS,pi];cases q:(n==p)with|true=>rfl|false=>rw[gM,Nk ?_ [f]]
def Ky{U J:[aH]}{f g:U->[bg,J]}:∀{l:[h]},([gy,f x=g x])->l.filterMap f=l.filterMap g|[],_=>rfl|[gB],h=>by rw[rO,rO,[gI,x],Ky λy L=>h y [f]]
def KJ:∀{ps:[dF]}{us:[dW]},ps.Nodup->([zx])->(ps.filterMap λn=>[cp,[E0],v,(n,v)])=[sH]|[],us,_,U=>rfl|p::ps,[],_,U=>[f]|p::ps,C::us,nd,U=>by rw[mx]at nd;rw[rS,rO,pi,uz];simp;rw[bu];rw[Ky];rw[bS,KJ nd.2 [f]]
def BU(q:oG l.params=aa ps)(hd:l.defaults=[a0])(nd:ps.Nodup)(U:[zx]):Ja l #[us,[]]=bx [sH]:=by obtain⟨nm,L,pr,body,sc,gl,z,c,kd,I,pm,C,G,ct,bt⟩:=l;simp only at q hd;subst hd;rw[aC,oG,q];{rw[ax,j];rw[bO];unfold Ja;rw[ac,uq,wc,iu];rw[ak,m,wB qB=bx _,rfl,m];rw[bf,IA _ _,ps];rw[D,u,aif (λn=>[E0].isNone) ps=[],by rw[Cy];intro n h;have:=Nk h U;rw[bb],e,ao (us.length>[mH])=af,nV [g]];simp only[pure_bind,Option.getD_none,gL,akn,Nat.zero_sub,g',nK,u,e,nF,dj,b8,aig,Ip,Jo,ajf,List.forIn_nil,KJ nd U]};grind
def Ws(q:oG A=aa ps):defaultsOf A env=([],[]):=by rw[aC,oG,q];{rfl};grind
def J4(h:[a3,! b]):b=af:=[f]
def afr(h:Hx p x S=ae)(j:oG A=aa [p])(nd:[bH,p,"__debug__"]/\[cq])(nc:[bH,p,"__classdict__"]/\[f']):vd p x S A/\∀(env:jf)(cr:ai),env.cells.lookup x=aa cr->Db S env=bx [rd]:=by rw[cr,Hx];rw[co,m,u,e,U,P,h];rw[ah,q,bz m,W,S.kind=[km],by rw[aA,u];{rw[h5]};{cases u}];(have g:=by have:p≠x:=λz=>[bb];exact uv.mpr (dt this));rw[ad,J,S.names.lookup x=aa [ec],by rw[q,pi,g,pi,uz],#[#[W,J4 U,J4 e,λy L=>?_,by rw[q,pi,uz],J,λy L=>?_,λI qual body a pm G ct C=>?_,nd,nc],λenv cr O=>?_]];{rw[q]at L;rw[aZ,[c4,L],rfl,L,[uY]];{rw[V,dL.mp L,[uY]]}};rw[ar];{exact BU (ps:=[p]) j Y (by simp) Y};{rw[dV,Db,q];simp[Jh,O]}
def kC(h:pE o=ae):eF o G env whole=whole:=by rw[aC,pE,h];{rw[a7]};{unfold eF;simp}
def ss(h:qG e=ae):∀x,nX e env x=bx x:=by intro x;rw[nT,e]
def Gv(h:qG e=ae):r_ j e=af:=[nT,e]
def aaz(h:rr e=ae):FV e:=by intro o i;rw[nT,e]
def Q2(h:rr i=ae):∀x O new,[wX,i,x]:=by intro x O new;rw[nT,i]
def zQ(h:xD e=ae):jP e t n env=bx af:=[nT,e]
def ia(h:[qJ]):bb [e] env=[(af,[tH])]:=fE h
open Ir(Sm)
structure FnX (T : Tb) (Z : Ir.bM) (X : Cx) (f np : Nat) : Prop where
 ex : ∃ k fd ps, lN X.prog X.w X.K X.mg X.base (kA X.prog X.w) k (T.cU f) fd ps (q7 T X.K (Z.call f) np) ∧ eL (k + 1) X.A ∧ lE X.K fd ps []
 kp : ji X.K (.ref (T.cU f)) = ae
def Z7(T:Tb)(Z:Ir.bM)(X:Cx)(x:au):GV->[P]|.fn k=>[fm,T.cU k]|.cls k=>[fm,[gY]]|.exc k=>[fm,T.dr k]|.dg k=>∃d v C,X.mg x=aa C/\bB v C/\(∀r F,[qH,d])/\Z.fw k=aa d|[vH]=>[wq]
structure Rs (T : Tb) (X : Cx) : Prop where
 x0 : ∀ k, 5 ≤ k → k ≤ 12 → k ≠ 9 → ∃ N, XC X.K (T.dr k) N ag
 x3 : ∃ N fI fd qual st q1 q2 q3, X3 X.K (T.dr 9) N fI fd qual st "line" "place" "why" q1 q2 q3
 k9 : ji X.K (.ref (T.dr 9)) = ae
 rm : ∃ k, eL (k + 1) X.A
 xt : zP T X.K
structure Bd (T : Tb) (X : Cx) (E : XK) : Prop where
 tk : gz X E
 hex : ∀ b ∈ X.ex, ∃ o, (b, o) ∈ X.pn
 st : ∃ fe rest L, X.stack = fe :: rest ∧ fe.frame = aa L ∧ X.env.frame = aa L
 po : sd (aK X.prog X.w) X.A X.env X.xe
 hh : X.A.handled = ag
 rs : Rs T X
structure af9 (T : Tb) (X : Cx) : Prop where
 code : ∃ c, X.env.code = .ref c ∧ akq X.base c T.tab
 blt : X.base.BuiltinsAt X.mg T.tab
 gP : iB ≠ T.tab
 qual : X.env.qual ++ "<lambda>" = T.tq
 room : X.A.depth < uJ
structure Gx (T : Tb) (Z : Ir.bM) (W : gC) (c : Ck) (X : Cx) (E : XK) : Prop where
 ft : iW T X.prog X.w X.K
 hu : X.A.units + 64 < dM
 hN : X.N = c.N
 nd : c.N.Nodup
 sc : X.env.scope = c.sc
 gv : ∀ x g, W.gn x = aa g → Z7 T Z X x g
 mt : ∀ k m f, W.mt k m = aa f → pM X.K (T.eB k) m (T.cU f) ∧ ∀ j, T.eW j ≠ m
 fx : c.bU = af → ∀ f np, W.ar f = aa np → FnX T Z X f np
 m4 : ∀ k np, W.eD k = aa np → Mk X.K (T.eB k) (T.cU (Z.init k)) ∧ W.ar (Z.init k) = aa np
 za : ∀ k, Z.ar k ≠ 0 → W.ar k = aa (Z.ar k)
 wf : ∀ f, W.fn f = T.eW f
 wn : W.nf = T.nf
 wl : W.tl = T.tl ∧ W.tc = T.tc
 ps : c.bU = af → ly (kA X.prog X.w) X E
 cm : c.bU = af → X.ci = ae
 bd : c.bU = af → c.bY = af → Bd T X E
 fn : c.bY = af → ∀ x, c.sc.names.lookup x = aa .cell → X.fn x = ae
 lam : c.lam = ae → c.bY = af → af9 T X
 xe : ∃ N eD, XC X.K (T.dr 9) N eD ∧ ∀ f ∈ [("line" : au), "place", "why"], (∀ y ∈ [("__getattribute__" : au), "__getattr__", f], gu X.K N y = aa ag) ∧ iO (.type "Exception") f = bx ag
section
variable{T:Tb}{Z:Ir.bM}{E:XK}{X:Cx}{W:gC}{c:Ck}
def Gx.gl(g:[ep])(h:AN [nO]=ae):[dJ]:=by rw[aC,AN,h];{rw[ax,q];show [jW,x]=_;rw[V,g.sc,q]};grind
def Gx.EK(g:[ep])(h:DE [nO]=ae):[fQ]:=by rw[dV,gf,g.sc];rw[fn,DE]
def Gx.UU(g:[ep])(h:[a3,[LW]]):L2.lr [i_] x/\[l5]:=by rw[dV,L2.lr,g.sc];rw[aJ,(kP _ _).mp h,h,h];{rw[fn,xx]};{rw[aF]at h;rw[aC,xH,h];rw[ar];{rw[aQ,[aC,[f]],[H,g.fn [f] x [f]]]};grind}
def s_(h:sw x=ae):[cq]:=[fn,sw]
def not_of(h:[a3,! b]):b=af:=[f]
def Gx.m3(g:[ep])(h:c.var i x=ae):[cl]/\[fQ]/\[cq]/\[f']:=by rw[cr,Ck.var];obtain⟨⟨⟨m,u⟩,q⟩,z⟩:=h;exact#[[ba,g.hN],g.EK u,s_ q,[hE,z]]
def Gx.qe(g:[ep])(h:c.loc i x=ae):[cl]/\L2.lr [i_] x/\[l5]:=by rw[cr,Ck.loc];rw[aQ,[ba,g.hN],g.UU [cW]]
def Gx.u_(g:[ep])(h:c.dg x=ae):[dJ]/\[cq]:=by rw[al,Ck.dg,h];rw[hG];rw[aQ,g.gl [dK],s_ [cW]]
def Gx.u5(g:[ep])(h:c.bt W x y=ae):x=y/\[dJ]/\[wq]:=by rw[cr,Ck.bt];obtain⟨⟨m,u⟩,e⟩:=h;rw[bm,bz m,g.gl u];rw[aC,Re,e];{rw[ax,q];exact g.gv x _ q};grind
def Gx.Bq(g:[ep])(hh:c.bU=af)(h:W.ar f=aa np):[v3,np]:=let z:=g.fx hh f _ h;#[z.ex,z.kp,g.ps hh]
def Gx.N2(g:[ep])(hh:c.bU=af)(h:W.eD k=aa np):Ek T Z X E k np:=let#[a,b]:=g.m4 k _ h;#[a,g.Bq hh b]
def abz:gz X EF:=λ_ _ _ _ _ _ _ _ _ h=>h.elim
def NN:ly (kA X.prog X.w) X EF:=by intro pins σ H s e S I h;obtain⟨_,_,_,_,_,_,_,_,_,_,_,_,_,_,_,q⟩:=h;exact q.elim
def Gx.ef(g:[ep]):Gx T Z W c X EF:=[wO,g.sc,g.fx,λ_=>NN,g.cm,λa b=>let z:=g.bd a b;#[abz,z.hex,z.st,z.po,z.hh,z.rs],g.fn,g.lam]
def Gx.lB(g:Gx T Z W c X E)(hh:c.bU=af){xe}(A:∀b∈l,∃o,(b,o)∈pn)(tk:gz (X.lB s H S (dN S q C X.env) l xe pn) E):Gx T Z W (c.wI S) (X.lB s H S (dN S q C X.env) l xe pn) E:=#[g.ft,g.hu,g.hN,g.nd,by show tW _ _=_;rw[g.sc];rfl,g.gv,g.mt,λ_ f np h=>let z:=g.fx hh f _ h;#[z.ex,z.kp],g.m4,g.za,g.wf,g.wn,g.wl,λ_=>D4 A tk,λ_=>g.cm hh,(λ_ z=>by cases z),(λz=>by cases z),(λ_ z=>by cases z),g.xe]
def Gx.bY(g:Gx T Z W c X E)(hh:c.bU=af):Gx T Z W (c.wI S) (X.bY s H S (dN S q C X.env) l) EF:=#[g.ft,g.hu,g.hN,g.nd,by show tW _ _=_;rw[g.sc];rfl,g.gv,g.mt,λ_ f np h=>let z:=g.fx hh f _ h;#[z.ex,z.kp],g.m4,g.za,g.wf,g.wn,g.wl,λ_=>NN,λ_=>g.cm hh,(λ_ z=>by cases z),(λz=>by cases z),(λ_ z=>by cases z),g.xe]
end
def RI:[o5]|.BoolOp _ _ _=>ae|_=>af
structure SB (T : Tb) (Z : Ir.bM) (E : XK) (X : Cx) (e : bQ) (e' : Ex) : Prop where
 se : SE T Z E X e e'
 pw : RI e = ae → PW X e (kx T X.K Z E e')
def SB.of(h:[oO])(n:RI e=af):SB T Z E X e e':=#[h,λq=>[f]]
section
variable{T:Tb}{Z:Ir.bM}{E:XK}{X:Cx}{W:gC}{c:Ck}
def Ye(h:isFn k o=ae):o=aa (.fn k):=[fn,isFn]
def Rv(h:Ad k o=ae):o=aa (.cls k):=[fn,Ad]
def WM(h:Ei k o=ae):o=aa (.dg k):=[fn,Ei]
def OW(h:zE k o=ae):o=aa (.exc k):=[fn,zE]
def GM(h:n<=100):n<=lim:=by have:100<=lim:=[af];omega
def aee(h:[qJ])(u:noStar f=ae):[AP,q,bb [e,f] env,env,[e,f]]:=[aV,fE h,fE u]
def Ab(g:[ep])(O:[cG])(h:BE c t B=ae):PG X B (gT X.K t):=by rw[aC,BE,h];{rw[bx,m,u,q,g.qe h,vc [u9] m u q]};{rw[aF]at h;rw[aM,m,u,q,g.qe [dK],z,j,e,g.qe [cW]];rw[br,nd,X.N.Nodup,[u9],Xs O (NE (vc nd m u q) (NE (vc nd z j e) abI))]};grind
def AJ(g:[ep])(f:∀l,L l=ae->[wP,l,it])(N:∀e,L [e]=ae->∃a,it=[a]/\[d'])(h:Ak W c k B F L=ae):[kd,B,F,k,it]:=by rw[aC,Ak,h];{rw[bx,a,rfl,z,N _ h,afN z]};{rw[bx,a,rfl,z,N _ h,YB z]};{rw[bq];obtain⟨⟨m,u⟩,q⟩:=h;rw[bx,rfl,gl,mg,g.u5 u,abX gl mg (f _ q) (ia m)]};{rw[bq];obtain⟨⟨⟨m,G⟩,u⟩,q⟩:=h;rw[bx,rfl,gl,mg,g.u5 u,aeU gl mg (f _ q) ([aV,fE m,fE G]) (ia G)]};{rw[bq];obtain⟨⟨⟨m,G⟩,u⟩,q⟩:=h;rw[K,rfl,gl,mg,g.u5 u];rw[aC,rz,G];rw[bS,adQ gl mg (f _ q) (ia m)]};{rw[cZ,m,j,u,d,J,q];rw[K,rfl,gl,mg,g.u5 u];rw[R,d,bz d,J,bz J];subst d J;rw[aC,rz,j];rw[bS,Wr gl mg (f _ q) (ia m)]};{rw[bq];rw[co,m,G,j,u,q,h];rw[K,rfl,gl,mg,g.u5 u];rw[aC,rz,j];rw[bS,ab' gl mg (f _ q) (fE m) [bP,ia G]]};{rw[bq];rw[co,j,x,U,O,q,h];have O:=bz O;subst O;rw[K,a,rfl,z,N _ q];rw[aC,rz,j];rw[bS,ahg z (kC x) U]};grind
def vl(g:[ep])(h:Ap c S B t=ae):l_ X.N [i_] S [zj]/\[hY,[zj]]=t:=by rw[al,Ap,h];rw[ae,aF,h,#[[a5,g.hN,g.sc,Zb [dK]],bz [cW]]]
def afO:hl "len"=[gF,"len"]:=[dz]
def acP:hl "sum"=[gF,"sum"]:=[dz]
def VP:hl "any"=[gF,"any"]:=[dz]
def Yu:hl "all"=[gF,"all"]:=[dz]
def abN:[uD,"int"]:=[dz]
def aaL:[uD,"str"]:=[dz]
def afK:hl "ord"=[gF,"ord"]:=[dz]
def Ez:hl "list"=aa [jh]:=[dz]
def acW:hl "tuple"=aa [oi]:=[dz]
def J0:[uD,"dict"]:=[dz]
def QH:hl "sorted"=[gF,"sorted"]:=[dz]
def agB:[uD,"range"]:=[dz]
def acQ(h:BR a=ae):a=[ib]:=[fn,BR]
def agV(h:AK b=aa i):b=[g3]:=[fn,AK]
def K5(g:[ep]){e:bQ}(h:[g1,e,.Dict [aa (.Tuple [] _ _)] [.Name x _] _,BR a&&[gp,AK b,i,c.var i x,af]]=ae):∃B A x p pos i,e=[BW,B]/\a=[ib]/\b=[g3]/\[cl]/\[fQ]/\[cq]/\[f']:=by rw[a2];{rw[ap,aF,h,m,u,h];rw[aA,u];{rw[ax,q];exact#[_,_,_,_,_,_,Y,acQ m,agV q,g.m3 u]};grind};grind
def M4:hl "min"=[gF,"min"]:=[dz]
def J9:hl "max"=[gF,"max"]:=[dz]
def Gx.bt(g:[ep])(h:c.bt W x y=ae)(J:hl y=aa C)(nm:y≠"__name__")(db:[bH,y,"__debug__"]):Bt X x C:=[bx,rfl,gl,mg,g.u5 h,#[gl,mg,J,nm,db]]
end
def PB{r}(h:[hB])(B:PE X [k1,b,r] [fl,e])(z:[uE,[k1,b,r],e]):SB T Z E X [k1,a,b::r] (.and l e):=[JL,abV h B z]
def Md{r}(h:[hB])(B:PE X [k4,b,r] [fl,e])(z:[uE,[k4,b,r],e]):SB T Z E X [k4,a,b::r] (.or l e):=[JL,acb h B z]
section
variable{T:Tb}{Z:Ir.bM}{W:gC}
mutual
theorem bf:∀(e':Ex)(c:Ck)(e:bQ),aL W e' c e=ae→∀(X:Cx)(E:XK),Gx T Z W c X E→SB T Z E X e e'|.c d,c,e,h,X,E,g=>by unfold aL at h;split at h;{split at h;{rw[←bz h];exact .of MR Y};{cases h}};{split at h;{rw[←bz h];exact .of acj Y};{cases h}};{split at h;{rw[←gq h];exact .of aad Y};{cases h}};{split at h;{exact .of afJ Y};{cases h}};{cases h}|.v i,c,e,h,X,E,g=>by unfold aL at h;split at h;{obtain⟨m,u,h3,h4⟩:=g.m3 h;exact .of (Al m u h3 h4) Y};{cases h}|.g k,c,e,h,X,E,g=>by unfold aL at h;split at h;{rw[aF]at h;obtain⟨gl,db⟩:=g.u_ h.1;obtain⟨d,v,C,m,u,h3,h4⟩:=g.gv _ _ (WM h.2);exact .of (WA gl m u h3 h4 db) Y};{cases h}|.add a b,c,e,h,X,E,g=>by unfold aL at h;split at h;{rw[aF]at h;exact .of (Vc (bf a c _ h.1 X E g).se (bf b c _ h.2 X E g).se) Y};{cases h}|.sub a b,c,e,h,X,E,g=>by unfold aL at h;split at h;{rw[aF]at h;exact .of (RY (bf a c _ h.1 X E g).se (bf b c _ h.2 X E g).se) Y};{cases h}|.mul a b,c,e,h,X,E,g=>by unfold aL at h;split at h;{rw[aF]at h;exact .of (aas (bf a c _ h.1 X E g).se (bf b c _ h.2 X E g).se) Y};{cases h}|.mT a b,c,e,h,X,E,g=>by unfold aL at h;split at h;{rw[aF]at h;exact .of (adm (bf a c _ h.1 X E g).se (bf b c _ h.2 X E g).se) Y};{cases h}|.mod a b,c,e,h,X,E,g=>by unfold aL at h;split at h;{rw[aF]at h;exact .of (Wk (bf a c _ h.1 X E g).se (bf b c _ h.2 X E g).se) Y};{cases h}|.neg a,c,e,h,X,E,g=>by unfold aL at h;split at h;{exact .of (adH (bf a c _ h X E g).se) Y};{cases h}|.lt a b,c,e,h,X,E,g=>by unfold aL at h;split at h;{rw[aF]at h;exact .of (agb (by have:=g.hu;omega) (bf a c _ h.1 X E g).se (bf b c _ h.2 X E g).se) Y};{cases h}|.le a b,c,e,h,X,E,g=>by unfold aL at h;split at h;{rw[aF]at h;exact .of (afI (bf a c _ h.1 X E g).se (bf b c _ h.2 X E g).se) Y};{cases h}|.gt a b,c,e,h,X,E,g=>by unfold aL at h;split at h;{rw[aF]at h;exact .of (abw (bf a c _ h.1 X E g).se (bf b c _ h.2 X E g).se) Y};{cases h}|.ge a b,c,e,h,X,E,g=>by unfold aL at h;split at h;{rw[aF]at h;exact .of (acY (bf a c _ h.1 X E g).se (bf b c _ h.2 X E g).se) Y};{cases h}|.eq a b,c,e,h,X,E,g=>by unfold aL at h;split at h;{rw[aF]at h;exact .of (Z1 g.hu (bf a c _ h.1 X E g).se (bf b c _ h.2 X E g).se) Y};{cases h}|.ne a b,c,e,h,X,E,g=>by unfold aL at h;split at h;{rw[aF]at h;exact .of (aaU g.hu (bf a c _ h.1 X E g).se (bf b c _ h.2 X E g).se) Y};{cases h}|.kE a,c,e,h,X,E,g=>by unfold aL at h;split at h;{exact .of (aaI (bf a c _ h X E g).se) Y};{cases h}|.pV a,c,e,h,X,E,g=>by unfold aL at h;split at h;{exact .of (VU (bf a c _ h X E g).se) Y};{cases h}|.mem a b,c,e,h,X,E,g=>by unfold aL at h;split at h;{simp only[aF]at h;exact .of (ab6 g.ft g.hu (Gv h.1.1) (bf a c _ h.1.2 X E g).se (bf b c _ h.2 X E g).se) Y};{cases h}|.ot a b,c,e,h,X,E,g=>by unfold aL at h;split at h;{simp only[aF]at h;exact .of (af5 g.ft g.hu (Gv h.1.1) (bf a c _ h.1.2 X E g).se (bf b c _ h.2 X E g).se) Y};{cases h}|.pC a b d,c,e,h,X,E,g=>by unfold aL at h;split at h;{simp only[aF]at h;exact .of (Vk (Gv h.1.1.1) (bf a c _ h.1.1.2 X E g).se (bf b c _ h.1.2 X E g).se (bf d c _ h.2 X E g).se) Y};{cases h}|.and a b,c,e,h,X,E,g=>by unfold aL at h;split at h;{rw[aF]at h;have J:=(bf b c _ h.2 X E g).se;exact PB (bf a c _ h.1 X E g).se (R7 J.pe) (abm J.pt)};{rw[aF]at h;have J:=bf b c _ h.2 X E g;exact PB (bf a c _ h.1 X E g).se J.se.pe (J.pw Y)};{cases h}|.or a b,c,e,h,X,E,g=>by unfold aL at h;split at h;{rw[aF]at h;have J:=(bf b c _ h.2 X E g).se;exact Md (bf a c _ h.1 X E g).se (R7 J.pe) (af7 J.pt)};{rw[aF]at h;have J:=bf b c _ h.2 X E g;exact Md (bf a c _ h.1 X E g).se J.se.pe (J.pw Y)};{cases h}|.not a,c,e,h,X,E,g=>by unfold aL at h;split at h;{exact .of (Wg (bf a c _ h X E g).se) Y};{cases h}|.ite t a b,c,e,h,X,E,g=>by unfold aL at h;split at h;{simp only[aF]at h;exact .of (Xa (bf t c _ h.1.1 X E g).se (bf a c _ h.1.2 X E g).se (bf b c _ h.2 X E g).se) Y};{cases h}|.tup l,c,e,h,X,E,g=>by unfold aL at h;split at h;{rw[aF]at h;exact .of (Mx (GM (bz h.2)) (kl l c _ h.1 X E g)) Y};{cases h}|.lst l,c,e,h,X,E,g=>by unfold aL at h;split at h;{rw[aF]at h;exact .of (abQ (GM (bz h.2)) (kl l c _ h.1 X E g)) Y};{cases h}|.i5 b,c,e,h,X,E,g=>by unfold aL at h;split at h;{exact .of adZ Y};{cases h}|.lD a b,c,e,h,X,E,g=>by unfold aL at h;obtain⟨kk,A,x,p,pos,i,rfl,rfl,rfl,m,u,h3,h4⟩:=K5 g h;exact .of (aex (by have:=g.hu;omega) m u h3 h4) Y|.ix a i,c,e,h,X,E,g=>by unfold aL at h;split at h;{simp only[aF]at h;exact .of (R0 g.ft (by have:=g.hu;omega) (bf a c _ h.1.2 X E g).se (bf i c _ h.2 X E g).se (aaz h.1.1)) Y};{cases h}|.ko a lo hi,c,e,h,X,E,g=>by unfold aL at h;split at h;{simp only[aF]at h;exact .of (WC (bf a c _ h.1.1 X E g).se (bf lo c _ h.1.2 X E g).se (bf hi c _ h.2 X E g).se) Y};{cases h}|.qI a lo,c,e,h,X,E,g=>by unfold aL at h;split at h;{simp only[aF]at h;exact .of (aeB (bf a c _ h.1 X E g).se (bf lo c _ h.2 X E g).se) Y};{cases h}|.l8 a hi,c,e,h,X,E,g=>by unfold aL at h;split at h;{simp only[aF]at h;exact .of (agc (bf a c _ h.1 X E g).se (bf hi c _ h.2 X E g).se) Y};{cases h}|.av a f,c,e,h,X,E,g=>by unfold aL at h;split at h;{simp only[aF]at h;obtain⟨⟨⟨m,u⟩,h3⟩,h4⟩:=h;rw[bz h3,g.wf];exact .of (VY g.ft (by rw[←g.wn];exact bz u) (kC m) (bf a c _ h4 X E g).se) Y};{cases h}|.m7 i k,c,e,h,X,E,g=>by unfold aL at h;split at h;{rw[aF]at h;obtain⟨m,u,h3,h4⟩:=g.m3 h.1;obtain⟨N,eD,xc,q⟩:=g.xe;have hk:=h.2;simp only[kP,aF,dZ]at hk;rcases hk with(⟨rfl,rfl⟩|⟨rfl,rfl⟩)|⟨rfl,rfl⟩;{obtain⟨q1,q2⟩:=q "line" (by simp);exact .of (F4 m u h3 h4 xc (.inl ⟨Y,Y⟩) q1 q2) Y};{obtain⟨q1,q2⟩:=q "place" (by simp);exact .of (F4 m u h3 h4 xc (.inr (.inl ⟨Y,Y⟩)) q1 q2) Y};{obtain⟨q1,q2⟩:=q "why" (by simp);exact .of (F4 m u h3 h4 xc (.inr (.inr ⟨Y,Y⟩)) q1 q2) Y}};{cases h}|.call f l,c,e,h,X,E,g=>by unfold aL at h;split at h;{simp only[aF]at h;obtain⟨⟨⟨⟨⟨m,u⟩,h3⟩,h4⟩,h5⟩,h6⟩:=h;obtain⟨gl,db⟩:=g.u_ u;have ff:=g.Bq (not_of m) (bz h4);have mg:=g.gv _ _ (Ye h3);rename_i es _;cases es with|nil=>(cases l with|nil=>exact .of (Yw ff gl mg db) Y|cons _ _=>unfold fN at h6;cases h6)|cons y es=>rw[e8,aF]at h5;exact .of (abE ff gl mg db (fE h5.1) (sy h5.2) (kl l c _ h6 X E g)) Y};{cases h}|.lS k l,c,e,h,X,E,g=>by unfold aL at h;split at h;{simp only[aF]at h;obtain⟨⟨⟨⟨⟨m,u⟩,h3⟩,h4⟩,h5⟩,h6⟩:=h;obtain⟨gl,db⟩:=g.u_ u;rw[e8,aF]at h5;exact .of (RX (g.N2 (not_of m) (bz h4)) gl (g.gv _ _ (Rv h3)) db (fE h5.1) (sy h5.2) (kl l c _ h6 X E g)).2 Y};{cases h}|.lh a l,c,e,h,X,E,g=>by unfold aL at h;split at h;{simp only[aF]at h;obtain⟨⟨⟨m,u⟩,h3⟩,h4⟩:=h;(have U:l.length≠0:=by cases l with|nil=>unfold fN at h3;cases h3|cons _ _=>simp);exact .of (ac9 (fun k hk=>g.Bq (not_of m) (by rw[←hk];exact g.za k (by rw[hk];exact U))) (bf a c _ h4 X E g).se (kl l c _ h3 X E g) u) Y};{cases h}|.new k l,c,e,h,X,E,g=>by unfold aL at h;split at h;{simp only[aF]at h;obtain⟨⟨⟨⟨⟨m,u⟩,h3⟩,h4⟩,h5⟩,h6⟩:=h;obtain⟨gl,db⟩:=g.u_ u;have cf:=g.N2 (not_of m) (bz h4);have mg:=g.gv _ _ (Rv h3);rename_i es _;cases es with|nil=>(cases l with|nil=>exact .of (adu cf gl mg db) Y|cons _ _=>unfold fN at h6;cases h6)|cons y es=>rw[e8,aF]at h5;exact .of (RX cf gl mg db (fE h5.1) (sy h5.2) (kl l c _ h6 X E g)).1 Y};{cases h}|.bG k a f l,c,e,h,X,E,g=>by unfold aL at h;split at h;{simp only[aF]at h;obtain⟨⟨⟨⟨⟨⟨⟨m,u⟩,h3⟩,h4⟩,h5⟩,h6⟩,P⟩,B⟩:=h;obtain⟨m1,F⟩:=g.mt _ _ _ (bz u);have ff:=g.Bq (not_of m) (bz h3);have n:=(bf a c _ P X E g).se;rename_i es _;cases es with|nil=>(cases l with|nil=>exact .of (aeX g.ft ff m1 F h6 n) Y|cons _ _=>unfold fN at B;cases B)|cons y es=>exact .of (abO g.ft ff m1 F h4 (bz h5) h6 n (kl l c _ B X E g)) Y};{cases h}|.b1 o a,c,e,h,X,E,g=>by unfold aL at h;split at h;{simp only[aF]at h;obtain⟨⟨m,u⟩,h3⟩:=h;have sa:=(bf a c _ u X E g).se;have st:=ia (env:=X.env) m;split at h3;{exact .of (ade (g.bt h3 afO (by decide) (by decide)) st sa) Y};{rw[aF]at h3;exact .of (ad2 (g.cm (not_of h3.1)) (g.bt h3.2 acP (by decide) (by decide)) st sa) Y};{rw[aF]at h3;exact .of (ac2 (g.cm (not_of h3.1)) (g.bt h3.2 VP (by decide) (by decide)) st sa) Y};{rw[aF]at h3;exact .of (aew (g.cm (not_of h3.1)) (g.bt h3.2 Yu (by decide) (by decide)) st sa) Y};{exact .of (aff (g.bt h3 abN (by decide) (by decide)) st sa) Y};{exact .of (abU (g.bt h3 aaL (by decide) (by decide)) st sa) Y};{exact .of (ZU (g.bt h3 afK (by decide) (by decide)) st sa) Y};{exact .of (WI (g.bt h3 Ez (by decide) (by decide)) st sa) Y};{exact .of (ae2 (g.bt h3 acW (by decide) (by decide)) st sa) Y};{exact .of (ZG (NI (g.bt h3 J0 (by decide) (by decide)) st sa) (fun _=>rfl) (by intro i z;cases z)) Y};{exact .of (aeJ (g.bt h3 QH (by decide) (by decide)) st sa) Y};{cases h3}};{simp only[aF]at h;obtain⟨⟨⟨m,u⟩,h3⟩,h4⟩:=h;have sa:=(bf a c _ h3 X E g).se;split at h4;{rw[bz h4];exact .of (Ze (kC m) u sa) Y};{rw[bz h4];exact .of (ae3 (kC m) u sa) Y};{rw[bz h4];exact .of (XA (kC m) u sa) Y};{cases h4}};{simp only[aF]at h;obtain⟨⟨⟨⟨⟨h0,m⟩,u⟩,hk⟩,hj⟩,h3⟩:=h;have sa:=(bf a c _ u X E g).se;have st:=ia (env:=X.env) m;have hk:=bz hk;have hj:=bz hj;subst hk hj;split at h3;{exact .of (agE (g.cm (not_of h0)) (g.bt h3 M4 (by decide) (by decide)) st sa) Y};{exact .of (adD (g.cm (not_of h0)) (g.bt h3 J9 (by decide) (by decide)) st sa) Y};{cases h3}};{cases h}|.b2 o a b,c,e,h,X,E,g=>by unfold aL at h;split at h;{simp only[aF]at h;obtain⟨⟨⟨⟨⟨h0,m⟩,u⟩,h3⟩,h4⟩,h5⟩:=h;have sa:=(bf a c _ h3 X E g).se;have sb:=(bf b c _ h4 X E g).se;have cm:=g.cm (not_of h0);split at h5;{exact .of (Xq cm (g.bt h5 M4 (by decide) (by decide)) (fE m) (ia u) (by rw[ia u];rfl) sa sb) Y};{exact .of (Xi cm (g.bt h5 J9 (by decide) (by decide)) (fE m) (ia u) (by rw[ia u];rfl) sa sb) Y};{cases h5}};{simp only[aF]at h;obtain⟨⟨⟨⟨⟨h0,m⟩,u⟩,h3⟩,h4⟩,h5⟩:=h;have sa:=(bf a c _ h3 X E g).se;have sb:=(bf b c _ h4 X E g).se;split at h5;{rw[bz h5];exact .of (ad5 (ia m) (kC h0) u sa sb) Y};{rw[bz h5];exact .of (Xy (ia m) (kC h0) u sa sb) Y};{cases h5}};{cases h}|.iU a b d,c,e,h,X,E,g=>by unfold aL at h;split at h;{simp only[aF]at h;obtain⟨⟨⟨⟨⟨⟨⟨m,u⟩,h3⟩,h4⟩,h5⟩,h6⟩,P⟩,B⟩:=h;rw[bz h5];exact .of (ad4 (by have:=g.hu;omega) ⟨kC m,aee u h3,h4,by rw[fE u,ia h3];rfl⟩ (bf a c _ h6 X E g).se (bf b c _ P X E g).se (bf d c _ B X E g).se) Y};{cases h}|.qO a b,c,e,h,X,E,g=>by unfold aL at h;split at h;{simp only[aF]at h;obtain⟨⟨⟨⟨⟨m,u⟩,h4⟩,h5⟩,h6⟩,P⟩:=h;rw[bz h5];exact .of (Wv g.ft ⟨kC m,BJ u,h4,by rw[ia u];rfl⟩ (bf a c _ h6 X E g).se (bf b c _ P X E g).se) Y};{cases h}|.comp I t k it ej,c,e,h,X,E,g=>by unfold aL at h;split at h;{simp only[aF]at h;obtain⟨⟨⟨⟨⟨⟨⟨m,u⟩,h3⟩,h4⟩,h5⟩,h6⟩,P⟩,B⟩:=h;have hh:=not_of u;have bd:=g.bd hh (not_of m);obtain⟨w,rC,ik,s1,s2,s3⟩:=bd.st;obtain⟨ok,ho⟩:=vl g h4;refine .of (aa6 (Mg bd.tk bd.hex s1 s2 s3 (g.cm hh) (by rw[g.hN];exact g.nd) (AJ g (fun es q=>kl it c es q X E g) (fun e q=>?_) B) ok ho (fun s H iJ cl fp=>Ab (g.bY hh) (g.cm hh) h5) (fun s H iJ cl fp=>Em ej _ _ P _ (g.bY hh)) (fun s H iJ cl fp xe pn hp tk=>(bf I _ _ h6 _ _ (g.lB hh hp tk)).se.pe) (ss h3))) Y;match it,q with|[],q=>unfold fN at q;cases q|a::l,q=>unfold fN at q;simp only[aF]at q;match l,q with|[],q=>exact⟨a,Y,(bf a c _ q.1.2 X E g).se⟩|_::_,q=>unfold fN at q;cases q.2};{cases h}|.qS a i,c,e,h,X,E,g=>by unfold aL at h;split at h;{simp only[aF]at h;obtain⟨⟨⟨⟨⟨⟨⟨⟨⟨⟨h0,m⟩,u⟩,hk⟩,hz⟩,hp⟩,h3⟩,h4⟩,h5⟩,h6⟩,P⟩:=h;have hk:=bz hk;have hz:=bz hz;have hp:=bz hp;subst hk hz hp;unfold Nl at P;simp only[aF]at P;obtain⟨⟨⟨⟨⟨⟨⟨⟨⟨q1,q2⟩,q3⟩,q4⟩,L⟩,q6⟩,G⟩,q8⟩,q9⟩,Q⟩:=P;obtain⟨ik,cf⟩:=afr q2 (bz q1) ⟨s_ L,s_ q6⟩ ⟨not_of G,not_of q8⟩;have S:=g.lam u (not_of m);exact .of (adR (g.cm (not_of h0)) (g.bt h3 QH (by decide) (by decide)) (g.bt h4 agB (by decide) (by decide)) (ia h5) (fun cr O=>⟨cf _ _ O,S.code,S.blt,S.gP,(Ws (env:=X.env) (bz q1)),(bz q9).trans g.wl.1,(bz Q).trans g.wl.2,S.qual⟩) ik g.ft S.room (by have:=g.hu;omega) (by rw[g.hN];exact bz q3) (by rw[g.sc];exact bz q4) ((bf a c _ h6 X E g).se)) Y};{cases h}|.proj a k,c,e,h,X,E,g=>by unfold aL at h;split at h;{simp only[aF]at h;obtain⟨⟨⟨⟨⟨m,u⟩,h3⟩,h4⟩,h5⟩,h6⟩:=h;split at h6;{simp only[aF]at h6;obtain⟨⟨⟨⟨q1,q2⟩,q3⟩,q4⟩,L⟩:=h6;obtain⟨ok,ho⟩:=vl g q1;have j:=bz h3;have r:=bz h4;subst j r;exact .of (ZN (Nc (g.cm (not_of m)) (by rw[g.hN];exact g.nd) (bf a c _ h5 X E g).se ok ho (by rw[g.hN];exact bz q3) (by rw[g.sc];exact bz q2) (s_ q4) (not_of L) (ss u))) Y};{cases h6}};{cases h}
theorem kl:∀(l:List Ex)(c:Ck)(es:List bQ),fN W l c es=ae→∀(X:Cx)(E:XK),Gx T Z W c X E→PA X es (h_ T X.K Z E l)|[],c,es,h,X,E,g=>by unfold fN at h;split at h;{exact P8};{cases h}|a::l,c,es,h,X,E,g=>by unfold fN at h;split at h;{simp only[aF]at h;exact Fd (fE h.1.1) (bf a c _ h.1.2 X E g).se (kl l c _ h.2 X E g)};{cases h}
theorem Em:∀(l:List Ex)(c:Ck)(es:List bQ),zX W l c es=ae→∀(X:Cx),Gx T Z W c X EF→lU X es (qQ T X.K Z l)|[],c,es,h,X,g=>by unfold zX at h;split at h;{exact aeG};{cases h}|a::l,c,es,h,X,g=>by unfold zX at h;split at h;{rw[aF]at h;cases l with|nil=>exact ZM (bf a c _ h.1 X EF g).se|cons _ _=>cases h.2};{cases h}
end
end
section
variable{T:Tb}{Z:Ir.bM}{W:gC}{c:Ck}{X:Cx}{E:XK}
def Ee(g:[ep])(q:fN W it c [e]=ae):∃a,it=[a]/\[d']:=by match it,q with|[],q=>rw[bO]|a::l,q=>rw[al,fN,q];simp at q;match l,q with|[],q=>exact#[a,Y,[uF,[cV].2]]|[d5],q=>rw[al,fN,q];grind
def Dw(g:[ep])(h:aL W S c e=ae)(f:S.fresh=ae):[gC,[Ar,S]]:=by cases S with|lst l=>rw[aC,aL,h];{rw[ae,aF,h,Zz (GM (bz [cW])) (kl l c _ [dK] X E g)]};{rw[a7]}|i5 b=>rw[aC,aL,h];{exact agP};{rw[a7]}|lD a b=>rw[al,aL,h];obtain⟨kk,A,x,p,pos,i,rfl,rfl,rfl,m,u,z,U⟩:=K5 g h;exact Qz ([aN,g.hu]) m u z U|comp I t k it n=>rw[aC,aL,h];{rw[bq];obtain⟨⟨⟨⟨⟨⟨⟨m,u⟩,z⟩,U⟩,J⟩,O⟩,P⟩,B⟩:=h;rw[R,hh,[hE,u],bd,g.bd hh [hE,m]];rw[am,w,rC,G,y,s2,F,bd.st];rw[aG,ok,d,vl g U,Mg bd.tk bd.hex y s2 F (g.cm hh) [u9] (AJ g (λes q=>kl it c es q X E g) (λe q=>Ee g q) B) ok d (λs H C N Q=>Ab [wv] (g.cm hh) J) (λs H C N Q=>Em n _ _ P _ [wv]) (λs H C N Q xe pn hp tk=>(bf I _ _ O _ _ (g.lB hh hp tk)).se.pe) (ss z)]};{rw[a7]}|proj a k=>rw[aC,aL,h];{rw[cZ,m,u,z,U,J,O];rw[aA,O];{rw[ao,aF,O];rw[co,q1,q2,v,q4,L,O];rw[M,ok,d,vl g q1];rw[R,j,bz z,r,bz U];subst j r;exact Nc (g.cm [hE,m]) [u9] [uF,J] ok d [q,g.hN,bz v] [q,g.sc,bz q2] (s_ q4) [hE,L] (ss u)};{cases O}};{rw[a7]}|b1 o a=>(cases o<;>first|(cases f;done)|skip);{rw[eZ,afR [L4,Ez] (ia m) [uF,u]]};{rw[eZ,NI [L4,J0] (ia m) [uF,u]]}|b2 o a b=>(cases o<;>first|(cases f;done)|skip);rw[aC,aL,h];{rw[bq];cases [cW]};{rw[cZ,h0,m,u,z,U,J];rw[V,bz J,abF (ia m) (kC h0) u [uF,z] (bf b c _ U X E g).se]};{rw[a7]}|_=>cases f
def K':∃b,jP (.ListComp l B S pos) (aa [sm]) n env=bx b/\(b=ae->env.scope.names.lookup y=[fj]):=#[_,Y,λh=>by rw[hG];exact [dK].1.2]
def Ks(g:[ep])(U:c.loc i x=ae)(h:aL W S c v=ae)(O:ry S=ae):[sn,[dx],v,pos,[t3,EF,S],lg i]:=by rw[K,y,F,n,g.qe U];have nd:X.N.Nodup:=[u9];cases S with|comp I t k it w=>rw[aC,aL,h];{rw[bq];obtain⟨⟨⟨⟨⟨⟨⟨m,u⟩,G⟩,l⟩,N⟩,z⟩,P⟩,B⟩:=h;have hh:=[hE,u];rw[M,ok,J,vl g l];rw[bx,b,d,f,K',adw (g.cm hh) nd y F n f d (AJ g.ef (λes q=>kl _ c _ q X _ g.ef) (λe q=>Ee g.ef q) B) ok J (λs H C Q A=>Ab [wv] (g.cm hh) N) (λs H C Q A=>Em _ _ _ P _ [wv]) (λs H C Q A=>(bf _ _ _ z _ _ [wv]).se.pe) (ss G)]};grind|proj a k=>rw[aC,aL,h];{rw[cZ,m,u,G,l,N,z];rw[aA,z];{rw[ao,aF,z];rw[co,o,q2,q3,q4,L,z];rw[M,ok,J,vl g o];rw[R,j,bz G,r,bz l];subst j r;rw[bx,b,d,f,K',agj (g.cm [hE,m]) nd y F n f d (bf a c _ N X _ g.ef).se ok J ([ba,g.hN]) ([ba,g.sc]) (s_ q4) [hE,L] (ss u)]};grind};grind|_=>cases O
def Ot(h:ry e=ae):qH E e EF:=by cases e with|comp _ _ _ _ _=>exact aab|proj _ _=>exact Yn|_=>rw[a7]
def G6(h:ry e=af):∀G,Ir.jz e G=G:=by intro G;cases e with|comp _ _ _ _ _=>rw[a7]|proj _ _=>rw[a7]|_=>rfl
def Gx.bU(g:[ep])(J:c.bY=af)(e:aq):Gx T Z W {c with bU:=ae} [m2] EF:=[wO,g.sc,[u5],[u5],[u5],[u5],g.fn,[Hr]]
def Gx.tr(g:[ep])(hh:c.bU=af)(J:c.bY=af){xe}(tk:gz [z1] r)(po:[sv,xe])(hex:[rG,X.ex,pn]):Gx T Z W c [z1] r:=[wO,g.sc,[Ik],λ_=>D4 hex tk,g.cm,λa b=>let z:=g.bd a b;#[tk,hex,z.st,po,z.hh,#[z.rs.x0,z.rs.x3,z.rs.k9,z.rs.rm,z.rs.xt]],g.fn,[Hr]]
end
section
variable{T:Tb}{Z:Ir.bM}{W:gC}
def RZ(h:rr i=ae):DG X o i pos:=by intro v;rw[nT,i]
def RP:IV [mm,o] v n env=bx af:=[bz,v]
def Oj:IW [mm,o] v env=bx ag:=rfl
def PJ:jP v (aa (.Attribute o f p)) n env=bx af:=[bz,v]
mutual
theorem Q':∀(Q:Sm)(c:Ck)(s:kY),eg W Q c s=ae→∀(X:Cx)(E:XK),Gx T Z W c X E→PS X s (dX T X.K Z E Q)|.set i e,c,s,h,X,E,g=>by unfold eg at h;split at h;{simp only[aF]at h;obtain⟨⟨m,u⟩,z⟩:=h;obtain⟨H,F,n⟩:=g.qe m;cases q:ry e with|true=>exact aeu (Ot q) (Ks g m u q)|false=>rw[q,CI]at z;exact aaJ (by rw[g.hN];exact g.nd) H F (zQ z) n (G6 q) (bf e c _ u X E g).se};{cases h}|.own i e,c,s,h,X,E,g=>by unfold eg at h;split at h;{simp only[aF]at h;obtain⟨⟨⟨m,u⟩,z⟩,O⟩:=h;obtain⟨H,F,n⟩:=g.qe m;cases q:ry e with|true=>exact NM (Ot q) (Ks g m u q)|false=>rw[q,CI]at z;exact NM (.same (G6 q)) (yr (by rw[g.hN];exact g.nd) H F (Dw g u O) (zQ z) n)};{cases h}|.mY i e,c,s,h,X,E,g=>by unfold eg at h;split at h;{simp only[aF]at h;obtain⟨⟨⟨⟨m,u⟩,z⟩,O⟩,P⟩:=h;obtain⟨H,F,n⟩:=g.qe m;exact Xt (G6 (not_of O)) (yr (by rw[g.hN];exact g.nd) H F (Dw g u P) (zQ z) n)};{cases h}|.fz i Q,c,s,h,X,E,g=>by unfold eg at h;exact Z0 (Q' Q c s h X E g)|.dv a f e,c,s,h,X,E,g=>by unfold eg at h;split at h;{simp only[aF]at h;obtain⟨⟨⟨m,u⟩,z⟩,O⟩:=h;rw[bz u,g.wf];exact abp g.ft (by rw[←g.wn];exact bz m) PJ (bf a c _ z X E g).se (bf e c _ O X E g).se};{cases h}|.eO a f e,c,s,h,X,E,g=>by unfold eg at h;split at h;{simp only[aF]at h;obtain⟨⟨⟨⟨m,u⟩,z⟩,O⟩,P⟩:=h;rw[bz u,g.wf];exact Xx g.ft (by rw[←g.wn];exact bz m) PJ (bf a c _ z X E g).se (Dw g O P)};{cases h}|.lq a f e,c,s,h,X,E,g=>by unfold eg at h;split at h;{simp only[aF]at h;obtain⟨⟨⟨m,u⟩,z⟩,O⟩:=h;rw[bz u,g.wf];exact UW g.ft (by rw[←g.wn];exact bz m) (bf a c _ z X E g).se (bf e c _ O X E g).se};{cases h}|.inc i e,c,s,h,X,E,g=>by unfold eg at h;split at h;{rw[aF]at h;obtain⟨H,F,n⟩:=g.qe h.1;exact ad0 (by rw[g.hN];exact g.nd) H F n (bf e c _ h.2 X E g).se};{cases h}|.dec i e,c,s,h,X,E,g=>by unfold eg at h;split at h;{rw[aF]at h;obtain⟨H,F,n⟩:=g.qe h.1;exact XV (by rw[g.hN];exact g.nd) H F n (bf e c _ h.2 X E g).se};{cases h}|.mS i k e,c,s,h,X,E,g=>by unfold eg at h;split at h;{simp only[aF]at h;obtain⟨⟨⟨m,u⟩,z⟩,O⟩:=h;obtain⟨G,S,d,j⟩:=g.m3 m;exact Vb G S d j (bf k c _ z X E g).se (bf e c _ O X E g).se (Q2 u)};{cases h}|.pB i k e,c,s,h,X,E,g=>by unfold eg at h;split at h;{simp only[aF]at h;obtain⟨⟨⟨m,u⟩,z⟩,O⟩:=h;obtain⟨G,S,d,j⟩:=g.m3 m;exact acL G S d j (bf k c _ z X E g).se (bf e c _ O X E g).se (Q2 u)};{cases h}|.jS i k e,c,s,h,X,E,g=>by unfold eg at h;split at h;{simp only[aF]at h;obtain⟨⟨⟨m,u⟩,z⟩,O⟩:=h;obtain⟨G,S,d,j⟩:=g.m3 m;exact Zu (by have:=g.hu;omega) G S d j (bf k c _ u X E g).se (bf e c _ z X E g).se (RZ O) RP Oj Y};{cases h}|.put a k e,c,s,h,X,E,g=>by unfold eg at h;split at h;{simp only[aF]at h;obtain⟨⟨⟨m,u⟩,z⟩,O⟩:=h;exact abu (by have:=g.hu;omega) (bf a c _ m X E g).se (bf k c _ u X E g).se (bf e c _ z X E g).se (RZ O) RP Oj Y};{cases h}|.d_ i e,c,s,h,X,E,g=>by unfold eg at h;split at h;{simp only[aF]at h;obtain⟨⟨⟨⟨m,u⟩,z⟩,O⟩,P⟩:=h;obtain⟨G,S,d,j⟩:=g.m3 u;rw[bz m];exact VM G S d j z Y O Y (bf e c _ P X E g).se};{cases h}|.app a e,c,s,h,X,E,g=>by unfold eg at h;split at h;{simp only[aF]at h;obtain⟨⟨⟨⟨⟨m,u⟩,z⟩,O⟩,P⟩,I⟩:=h;rw[bz m];exact aaB z (kC u) O Y (bf a c _ P X E g).se (bf e c _ I X E g).se};{cases h}|.ee i e,c,s,h,X,E,g=>by unfold eg at h;split at h;{simp only[aF]at h;obtain⟨⟨⟨⟨m,u⟩,z⟩,O⟩,P⟩:=h;obtain⟨G,S,d,j⟩:=g.m3 u;rw[bz m];exact agJ G S d j z Y O Y (bf e c _ P X E g).se};{cases h}|.qP i,c,s,h,X,E,g=>by unfold eg at h;split at h;{simp only[aF]at h;obtain⟨⟨m,u⟩,z⟩:=h;obtain⟨G,S,d,j⟩:=g.m3 u;rw[bz m];exact Xo G S d j Y z Y};{cases h}|.ex e,c,s,h,X,E,g=>by unfold eg at h;split at h;{rw[aF]at h;exact afG (zQ h.2) (bf e c _ h.1 X E g).se};{split at h;{exact U'};{cases h}};{cases h}|.ret e,c,s,h,X,E,g=>by unfold eg at h;split at h;{exact VJ (bf e c _ h X E g).se};{cases h}|.pP i,c,s,h,X,E,g=>by unfold eg at h;split at h;{obtain⟨m,u,z,O⟩:=g.m3 h;exact acE m u z O};{cases h}|.oD i,c,s,h,X,E,g=>by unfold eg at h;split at h;{simp only[aF]at h;obtain⟨⟨⟨⟨h0,v⟩,U⟩,J⟩,hv⟩:=h;have v:=bz v;subst v;obtain⟨m,u,z,O⟩:=g.m3 hv;exact adE (g.cm (not_of h0)) (g.bt J Ez (by decide) (by decide)) Y Y U m u z O};{cases h}|.iff t a b,c,s,h,X,E,g=>by unfold eg at h;split at h;{simp only[aF]at h;exact aaS (bf t c _ h.1.1 X E g).se (pN a c _ h.1.2 X E g) (pN b c _ h.2 X E g)};{cases h}|.cS t k it b,c,s,h,X,E,g=>by unfold eg at h;split at h;{simp only[aF]at h;obtain⟨⟨⟨⟨⟨m,u⟩,z⟩,O⟩,P⟩,I⟩:=h;have hh:=not_of m;exact acD (g.bd hh (not_of u)).po (g.cm hh) (AJ g (fun es q=>kl it c es q X E g) (fun e q=>Ee g q) P) (Ab g (g.cm hh) O) (pN b c _ I X E g) (ss z)};{cases h}|.mh t b,c,s,h,X,E,g=>by unfold eg at h;split at h;{simp only[aF]at h;obtain⟨⟨⟨m,u⟩,z⟩,O⟩:=h;exact YV (g.bd (not_of m) (not_of u)).po (bf t c _ z X E g).se (pN b c _ O X E g)};{cases h}|.brk,c,s,h,X,E,g=>by unfold eg at h;split at h;{exact Xp};{cases h}|.hW k l,c,s,h,X,E,g=>by unfold eg at h;split at h;{simp only[aF]at h;obtain⟨⟨⟨⟨⟨m,u⟩,z⟩,O⟩,P⟩,I⟩:=h;have bd:=g.bd (not_of m) (not_of u);obtain⟨gl,db⟩:=g.u_ z;have mg:=g.gv _ _ (OW O);have y:=bz P;split at I;{rw[aF]at I;cases l with|nil=>obtain⟨N,xc⟩:=bd.rs.x0 k y.1 y.2 (bz I.1);exact YU bd.hh bd.hex bd.tk xc gl mg db|cons _ _=>cases I.2};{simp only[aF]at I;obtain⟨⟨⟨o,q2⟩,p⟩,q4⟩:=I;have A:=bz o;subst A;obtain⟨N,fI,fd,qual,st,a1,a2,a3,x3⟩:=bd.rs.x3;obtain⟨kk,rm⟩:=bd.rs.rm;rw[e8,aF]at p;exact acR (C:=0) bd.hh rm bd.hex bd.tk x3 gl mg bd.rs.k9 (bz q2) (kl l c _ q4 X E g) db (fE p.1) (sy p.2)}};{cases h}|.tr b h',c,s,h,X,E,g=>by unfold eg at h;split at h;{simp only[aF]at h;obtain⟨⟨⟨m,u⟩,z⟩,O⟩:=h;have hh:=not_of m;have J:=not_of u;have bd:=g.bd hh J;obtain⟨w,rC,B,s1,s2,s3⟩:=bd.st;exact ZV s1 s2 s3 bd.hex (fun r xe pn tk po L=>pN b c _ z _ r (g.tr hh J tk po L)) (DH h' c _ O X E g hh J)};{cases h}|.hd _ _ _,c,s,h,X,E,g=>by unfold eg at h;cases h
theorem pN:∀(l:List Sm)(c:Ck)(C:List kY),l' W l c C=ae→∀(X:Cx)(E:XK),Gx T Z W c X E→fO X C (l6 T X.K Z E l)|[],c,C,h,X,E,g=>by unfold l' at h;split at h;{exact P'};{cases h}|a::l,c,C,h,X,E,g=>by unfold l' at h;split at h;{rw[aF]at h;exact Pr (Q' a c _ h.1 X E g) (pN l c _ h.2 X E g)};{cases h}
theorem DH:∀(l:List Sm)(c:Ck)(x:List Ud),d6 W l c x=ae→∀(X:Cx)(E:XK),Gx T Z W c X E→c.bU=af→c.bY=af→PH X x (sO T X.K Z E X.N.length l)|[],c,x,h,X,E,g,hh,J=>by unfold d6 at h;split at h;{exact acJ (g.bd hh J).tk};{cases h}|.hd k i b::l,c,x,h,X,E,g,hh,J=>by unfold d6 at h;split at h;{simp only[aF]at h;obtain⟨⟨⟨⟨⟨m,u⟩,z⟩,O⟩,P⟩,I⟩:=h;have bd:=g.bd hh J;obtain⟨gl,db⟩:=g.u_ u;have mg:=g.gv _ _ (OW z);have y:=bz m;split at I;{exact YN bd.rs.xt y.1 y.2 gl mg (fun e=>pN b _ _ O _ EF (g.bU J e)) (DH l c _ P X E g hh J) db};{simp only[aF]at I;obtain⟨⟨o,q2⟩,p⟩:=I;have A:=bz o;subst A;exact aa0 bd.rs.xt gl mg (by rw[g.hN];exact g.nd) (by rw[g.hN];exact bz q2) (by show X.env.scope.names.lookup _=_;rw[g.sc];exact bz p) (fun e=>pN b _ _ O _ EF (g.bU J e)) (DH l c _ P X E g hh J) db};{cases I}};{cases h}|.set _ _::_,c,x,h,X,E,g,hh,J=>by unfold d6 at h;cases h|.own _ _::_,c,x,h,X,E,g,hh,J=>by unfold d6 at h;cases h|.mY _ _::_,c,x,h,X,E,g,hh,J=>by unfold d6 at h;cases h|.fz _ _::_,c,x,h,X,E,g,hh,J=>by unfold d6 at h;cases h|.dv _ _ _::_,c,x,h,X,E,g,hh,J=>by unfold d6 at h;cases h|.eO _ _ _::_,c,x,h,X,E,g,hh,J=>by unfold d6 at h;cases h|.lq _ _ _::_,c,x,h,X,E,g,hh,J=>by unfold d6 at h;cases h|.inc _ _::_,c,x,h,X,E,g,hh,J=>by unfold d6 at h;cases h|.dec _ _::_,c,x,h,X,E,g,hh,J=>by unfold d6 at h;cases h|.mS _ _ _::_,c,x,h,X,E,g,hh,J=>by unfold d6 at h;cases h|.pB _ _ _::_,c,x,h,X,E,g,hh,J=>by unfold d6 at h;cases h|.jS _ _ _::_,c,x,h,X,E,g,hh,J=>by unfold d6 at h;cases h|.put _ _ _::_,c,x,h,X,E,g,hh,J=>by unfold d6 at h;cases h|.d_ _ _::_,c,x,h,X,E,g,hh,J=>by unfold d6 at h;cases h|.app _ _::_,c,x,h,X,E,g,hh,J=>by unfold d6 at h;cases h|.ee _ _::_,c,x,h,X,E,g,hh,J=>by unfold d6 at h;cases h|.qP _::_,c,x,h,X,E,g,hh,J=>by unfold d6 at h;cases h|.ex _::_,c,x,h,X,E,g,hh,J=>by unfold d6 at h;cases h|.ret _::_,c,x,h,X,E,g,hh,J=>by unfold d6 at h;cases h|.pP _::_,c,x,h,X,E,g,hh,J=>by unfold d6 at h;cases h|.oD _::_,c,x,h,X,E,g,hh,J=>by unfold d6 at h;cases h|.iff _ _ _::_,c,x,h,X,E,g,hh,J=>by unfold d6 at h;cases h|.cS _ _ _ _::_,c,x,h,X,E,g,hh,J=>by unfold d6 at h;cases h|.mh _ _::_,c,x,h,X,E,g,hh,J=>by unfold d6 at h;cases h|.brk::_,c,x,h,X,E,g,hh,J=>by unfold d6 at h;cases h|.hW _ _::_,c,x,h,X,E,g,hh,J=>by unfold d6 at h;cases h|.tr _ _::_,c,x,h,X,E,g,hh,J=>by unfold d6 at h;cases h
end
end
structure ET (T : Tb) (W : gC) (K : aQ) (f : Nat) (F : Ir.Fn) (fd : uK) (ps : List au) : Prop where
 ex : ∃ name qual params body scope kV doc pm an cdv ct oc od osl N, fd = zj name qual params body scope .none kV doc pm an cdv ct ∧ K.lookup (T.cU f) = aa ⟨oc, od, .func fd, osl⟩ ∧ sj K cdv qual = ae ∧ A2 N ps scope ∧ oG params = aa ps ∧ N.length = F.ns ∧ l' W F.body ⟨N, scope, af, af, f == W.lf⟩ body = ae ∧ ((f == W.lf) = ae → ∃ c, cdv = .ref c ∧ Ds K c T.tab = ae ∧ (qual ++ (".<locals>." : au)) ++ ("<lambda>" : au) = T.tq)
 kp : ji K (.ref (T.cU f)) = ae
 nd : ps.Nodup
 np : ps.length = F.np
def Kz(T:Tb)(G:Ir.qJ)(K:aQ)(mg:[pa])(x:au):GV->[P]|.fn k=>mg x=[er,T.cU k]|.cls k=>mg x=[er,[gY]]|.exc k=>mg x=[er,T.dr k]|.dg k=>∃d v C,mg x=aa C/\bB v C/\(∀r F,[cN])/\G.fw k=aa d|[vH]=>mg x=ag
structure Ox (T : Tb) (W : gC) (G : Ir.qJ) (P : cP) (w : cz) (K : aQ) (mg : au → Option aq) : Prop where
 ft : iW T P w K
 gv : ∀ x g, W.gn x = aa g → Kz T G K mg x g
 mt : ∀ k m f, W.mt k m = aa f → pM K (T.eB k) m (T.cU f) ∧ ∀ j, T.eW j ≠ m
 m4 : ∀ k np, W.eD k = aa np → Mk K (T.eB k) (T.cU (G.init k)) ∧ W.ar (G.init k) = aa np
 za : ∀ k, G.ar k ≠ 0 → W.ar k = aa (G.ar k)
 ar : ∀ f np, W.ar f = aa np → ∃ F, G.fns[f]? = aa F ∧ F.np = np
 wf : ∀ f, W.fn f = T.eW f
 wn : W.nf = T.nf
 wl : W.tl = T.tl ∧ W.tc = T.tc
 ba : ∃ bm o, mg "__builtins__" = aa (.ref bm) ∧ bm ≠ pa ∧ bm ≠ iB ∧ bm ≠ T.tab ∧ K.lookup bm = aa o ∧ o.cls = .type "module" ∧ o.dict = aa pa ∧ o.data = .plain
 gP : iB ≠ T.tab
 xe : ∃ N eD, XC K (T.dr 9) N eD ∧ ∀ f ∈ [("line" : au), "place", "why"], (∀ y ∈ [("__getattribute__" : au), "__getattr__", f], gu K N y = aa ag) ∧ iO (.type "Exception") f = bx ag
 x0 : ∀ k, 5 ≤ k → k ≤ 12 → k ≠ 9 → ∃ N, XC K (T.dr k) N ag
 x3 : ∃ N fI fd qual st q1 q2 q3, X3 K (T.dr 9) N fI fd qual st "line" "place" "why" q1 q2 q3
 k9 : ji K (.ref (T.dr 9)) = ae
 xt : zP T K
 fn : ∀ f F, G.fns[f]? = aa F → ∃ fd ps, ET T W K f F fd ps
section
variable{T:Tb}{W:gC}{G:Ir.qJ}{P:cP}{w:cz}{K:aQ}{mg:au->Option aq}{base:bP}
def Vf(h:[cg]):cJ T K r F H ([eD,aa]++fH n ag) [B5,n] [h2]:=by rw[aY,U,h.length,#[by simp[U],λi s x e z=>?_,λi j d a e _ _=>?_]];{rw[b,q,i<[E]];{rw[lK ([aD,q]),dQ,cQ q]at e;rw[cJ];rw[K,v,L,m,h.get (cQ q)];rw[lK (by simp[U];exact q),dQ,L]at z;rw[aU,z,#[v,Y,m]]};{rw[nT ([aD,q]),C8]at e;rw[aA,e];{rw[aU,e,True.intro]};{rw[cJ]}}};grind
def afP{l:[al]}:fc I [B5,n] O:=λi d e=>[f]
def ahn(h:al T K r m H (Ir.jV Z F l S) (λd j x z=>[tQ,K,j,x,z]) E):al T K r m H (Ir.bj Z F.body [B5,F.ns-F.np] S) (gy T K H {nx:=λ_ z=>Q [aY] z,rt:=Q}) E:=by rw[cd,e,Ir.jV Z F l S=[qE,S],rfl,h];cases q:Ir.bj Z _ _ S with|ok f p=>(rw[q]at h;cases f with|nx u=>exactλj x z a c σ O _ _=>h _ _ _ a c _ [aY]|rt d=>exact h|bk u=>rw[av,h])|ex k B p=>rw[ae,q,h,h]|bad=>rw[ae,q,h,h]
def P0(S:Ox T W G P w K mg)(hB:K.In base):∀(n f:Nat)(F:Ir.Fn)(fd:uK)(ps:[dF]),([aR,G.fns,f,F])->ET T W K f F fd ps->lN P w K mg base (kA P w) (2*n) [gT] fd ps (q7 T K (Ir.run G n f) F.np)|0,f,F,fd,ps,hF,s=>#[λB H Q E#[ds,a,r,m,c,hr,hn,h]=>[tL,h],λA outer s H j us B Q E _ _ _ _#[ds,a,r,m,c,hr,hn,h]=>[tL,h]]|[aw],f,F,fd,ps,hF,s=>by obtain⟨I,qual,v0,body,c8,kV,rF,pm,an,O,ct,oc,od,t7,N,rfl,lk,gi,sc,X,Cj,SA,i⟩:=s.ex;refine aaT (k:=2*n+1) lk gi sc (λB H Q E#[ds,a,r,m,c,hr,hn,h]=>by rw[hr.length,hn,s.np]) λA outer L H B Q E hr#[ds,a,r,m,c,v3,hn,h]=>?_;let Z:Ir.bM:=#[Ir.run G n,G.init,G.fw,G.fuel,G.ar];rw[ad,g,Gx T Z W #[N,c8,af,af,f==W.lf] [wQ,kA P w,c8,[gT],O,L,H] E,by refine#[S.ft,hr.units,Y,sc.nd,Y,λx gv hg=>?_,S.mt,λ_ e q ha=>?_,S.m4,S.za,S.wf,S.wn,S.wl,λ_=>aaP,[bL],λ_ _=>#[Lv,[Db,[]],#[_,_,_,Y,Y,Y],abo,hr.hd,#[S.x0,S.x3,S.k9,#[2*n,hr],S.xt]],λ_ _ _=>rfl,λU _=>?_,S.xe];{have:=S.gv x gv hg;cases gv with|fn k=>rw[bZ]|cls k=>rw[bZ]|exc k=>rw[bZ]|dg k=>rw[bZ]|blt=>rw[bZ]};{rw[aM,F',p,rfl,S.ar e q ha,C,l,s',S.fn e F' p];obtain⟨ap3,ap4,ap5,ap6,ap7,kV',ap9,pm',an',aqa,ct',oc',od',aqe,y,rfl,lk',aqg,sc',z,ah8,aqi,_⟩:=id s'.ex;rw[aQ,#[2*n,_,l,P0 S hB n e F' _ l p s',hr,.all λus U=>BU z Y s'.nd U],s'.kp]};{rw[ag,c0,e1,e2,e3,i U];obtain⟨bm,o,b1,b2,v,t,b5,d⟩:=S.ba;exact#[#[c0,e1,akt hB e2],#[bm,o,b1,b2,v,t,hB _ _ b5,d],S.gP,e3,hr.depth]},#[l6 T K Z E F.body,pN F.body _ _ SA _ E g,?_]];rw[aH,e1,Ir.run G [aw] f ds a=[ap,F.sc,Ir.gc (Ir.jV Z F ds) a,Ir.jV Z F ds a],by show([gp,G.fns[f]?,F,[A,[h1]=F.np,[ap,F.sc,Ir.gc (Ir.jV Z F ds),Ir.jV Z F ds],Ir.bad],Ir.bad]) a=_;rw[ba,hF],e1,h];rw[aY,u,by rw[a2];rw[bS,h.gc c],#[r,m,H,_,[h2],a,r,m,.refl,c,?_,afP,ahn u]];unfold L2.start;rw[Cj,v3.length,hn];exact(Vf (T:=T) (K:=K) (H:=H) (n:=F.ns-F.np) v3)
end
section
variable{T:Tb}{W:gC}{K:aQ}
def Fb{v:aq}(h:Ac v=ae):v=[a0]:=[nT,v]
def ac7{N ps:[dF]}{sc:fo}(h:Hq N ps sc=ae):A2 N ps sc:=by rw[cr,Hq];obtain⟨⟨⟨⟨⟨⟨m,u⟩,e⟩,j⟩,U⟩,f⟩,P⟩:=h;refine#[?_,[hE,u],[hE,e],bz j,bz U,[gJ],λy O z=>?_];{rw[aA,m];{rw[h5]};{cases m}};{have q:=ck.mp f x L;rw[aC,xH,q];rw[aq,[H,[h5]],[eJ,[h5]]];{rw[bO]}};{have q:=ck.mp P y O;rw[az,z,q,q]}
def agl{f:Nat}{F:Ir.Fn}{N:[dF]}(h:vn T W K f F N=ae):∃l ps,ET T W K f F l ps:=by rw[aC,vn,h];{rename_i S x l I lk;rw[a2];{rename_i body J;rw[a2];{rename_i ps e;rw[bq];obtain⟨⟨⟨⟨⟨⟨⟨⟨⟨⟨⟨m,u⟩,q⟩,z⟩,L⟩,a⟩,P⟩,B⟩,g⟩,Z⟩,O⟩,j⟩:=h;obtain⟨nm,p,pr,bd,sc,gl,i,c,kd,H,pm,Q,G,ct,bt⟩:=l;simp only at J e m u q z L a O j;rw[R,C,gq m,g2,aku.mp u];rw[R,r,Fb q,d,gq z];subst J C g2 r d;refine#[_,ps,#[nm,p,pr,body,sc,kd,H,pm,Q,G,ct,S,x,I,N,Y,lk,L,ac7 a,e,bz P,j,λU=>?_],Z,bz g,bz B];rw[U]at O;rw[aO,Ip,CI,O];rw[aA,O];{rw[ae,aF,O,#[_,Y,O.1,bz O.2]]};{cases O}};{rw[a7]}};{rw[a7]}};{rw[a7]}
mutual
theorem Gc:∀(n:Nat)(d:D)(C:aq),vA T K n d C=ae→∃v,bB v C∧∀r F,aG T K r F d v|0,d,C,h=>by unfold vA at h;cases h|n+1,d,C,h=>by unfold vA at h;split at h;{rw[Fb h];exact⟨.a0,Y,fun r F=>.a0⟩};{split at h;{rw[←gq h];exact⟨.bl _,Y,fun r F=>.bl _⟩};{cases h}};{split at h;{rw[←bz h];exact⟨.int _,⟨_,Y⟩,fun r F=>.int _⟩};{cases h}};{split at h;{rw[bz h];exact⟨.str _,⟨_,Y⟩,fun r F=>.str _⟩};{cases h}};{split at h;{rw[gq h];exact⟨.ref _,Y,fun r F=>by unfold aG;rfl⟩};{cases h}};{rename_i l;split at h;{rename_i a;split at h;{rename_i c j G sl lk;simp only[aF]at h;obtain⟨⟨m,u⟩,e⟩:=h;obtain⟨B,I,O⟩:=LN n l _ e;refine⟨.ref a,Y,fun r F=>?_⟩;unfold aG;refine⟨a,B,Y,.inr ⟨_,j,G,lk,by rw[gq m],Y,?_,I⟩,O r F⟩;have:=bz u;rw[kZ];omega};{cases h}};{cases h}};{cases h}
theorem LN:∀(n:Nat)(x:List D)(us:List aq),vT T K n x us=ae→∃B,bq B us∧∀r F,aY T K r F x B|n,[],[],_=>⟨[],.nil,fun r F=>.nil⟩|n,[],_::_,h=>by unfold vT at h;cases h|n,_::_,[],h=>by unfold vT at h;cases h|n,d::x,C::us,h=>by unfold vT at h;rw[aF]at h;obtain⟨v,J,z⟩:=Gc n d C h.1;obtain⟨B,q,L⟩:=LN n x us h.2;exact⟨v::B,.cons J q,fun r F=>.cons (z r F) (L r F)⟩
end
def vb{a:ai}{x:[bg,[gP]]}(h:n_ a x=ae):x=aa (aa [aL]):=by rw[aC,n_,h];{rw[gq h]};{rw[a7]}
def vE{x:[bg,[gP]]}(h:pL x=ae):x=aa ag:=by rw[aC,pL,h];{rfl};{rw[a7]}
def Zj{n:String}{x:[bg,[gP]]}(h:Hs n x=ae):x=aa [gF,n]:=by rw[aC,Hs,h];{rw[gq h]};{rw[a7]}
def Wy{C:ai}(h:lV K C=ae):[Me,C]:=by rw[cr,lV];rw[co,m,u,q,z,e,h];rw[aQ,#[m,u,q,Zj z],λf O=>vE (ck.mp e f O)]
def XG{G:au}(h:j2.all (λx=>!(x==G))=ae)(u:G.cps.size≠1):∀j,oh j≠G:=λj z=>by rw[aC,oh,z];{rename_i x L;have q:=ck.mp h x (cG L);rw[eK,z,q]};{rw[aP,z,u];exact u Y}
def UT{k f:Nat}{G:au}(U:T.eW=oh)(h:Bc T K k G f=ae):pM K [gY] G [gT]/\∀j,T.eW j≠G:=by rw[cr,Bc];rw[co,m,u,q,z,e,h];rw[aQ,#[vb m,u,q],[q,U,XG z (bz e)]]
def ZZ{k f:Nat}(h:Hg T K k f=ae):Mk K [gY] [gT]:=by rw[cr,Hg];exact#[[dK].1.1,vb [dK].1.2,[dK].2,[cW]]
def ago(hd:j2.Nodup)(m:[b',j2,[te]≠1\/∃c,x.cps=[ff,[c]]/\c<2000000]):∀f g,oh f=oh g->f=g:=λf g e=>by rw[al,oh,e];cases h:j2[f]? with|some x=>(rw[h]at e;cases q:j2[g]? with|some y=>rw[bw,q,e];rw[bh,e,(v9 [dB,h] hd).mp (h.trans q.symm)]|none=>rw[bw,q,e];exfalso;rcases m x (cG h)with z|⟨c,z,l⟩;{rw[ae,e,z,z Y]};{rw[e]at z;rw[uI,λa:Array Nat=>a[0]?,z]})|none=>rw[h]at e;cases q:j2[g]? with|some y=>rw[bw,q,e];exfalso;rcases m y (cG q)with z|⟨c,z,l⟩;{rw[aP,e,z];exact z Y};{rw[aP,e,z];rw[uI,λa:Array Nat=>a[0]?,z]}|none=>rw[bw,q,e];rw[uI,λs:au=>s.cps[0]?,e]
def afc{d:D}{C:aq}{k:dG}(h:By d C=aa k):gX d=aa k/\qa k C=ae:=by rw[aC,By,h];{rw[fy,Tl]};{rw[fy,Tn]};{rw[a7]}
def NT:∀{l:[dk]}{x:List pj}{G:[iH]},qR T K l x=aa G->∃(z:[f_,dG,V])(B:[f_,dG,aq]),(∀r F,[lm,z])/\KV z B/\[v1]=G/\[eS]=[gq]/\∀(P:cP)(w:cz),Pairs [m9] x B/\∀(i:Nat)e k,([aZ,x,e])->([aZ,G,k])->[m9].is k e.key=ae|[],[],G,h=>by rw[al,qR,h];rw[aU,h,#[[],[],λr F=>by unfold cE;rfl,[aM],Y,Y,λP w=>#[[aM],λi e k q=>by simp at q]]]|[],[d5],G,h=>by rw[al,qR,h];rw[a7]|[d5],[],G,h=>by rw[al,qR,h];rw[a7]|[fY,d],e::x,G,h=>by rw[aC,qR,h];{rw[ax,s];cases m:By k e.key with|none=>rw[az,m,h,h]|some j=>rw[m]at h;cases u:qR T K l x with|none=>rw[az,u,h,h]|some f=>rw[az,u,h,h];obtain⟨z,B,p,N,U,q4,L⟩:=NT u;rw[K,v,I,J,Gc 5 d e.val s];rw[bA,O,Z,afc m,#[(j,v)::z,(j,e.val)::B,λr F=>?_,[bF,#[Y,I],N],by rw[bT,U],by rw[b7,b7,q4],λP w=>#[.cons Z Y [M,L P w],λi S C a b=>?_]]];{rw[h8,cE,#[j,v,z,Y,O,J r F,p r F]]};{cases i with|zero=>cases a;rw[aU,b,Z]|succ i=>exact(L P w).2 i S C a b}};{rw[a7]}
def WE{a:ai}{l:[dk]}{P:cP}{w:cz}(h:B4 T K a l=ae)(hh:x8 K a=[R,BX l,BC w]):∃j,(∀r F,[lm,j])/\∀h,K.In h->[wN,j,P,w]:=by rw[aC,B4,h];{rename_i t x d sl lk;rw[bq];obtain⟨⟨⟨m,u⟩,q⟩,p⟩:=h;rw[aA,q];{rename_i S f;rw[aF]at q;rw[R,nd,bz [cV],c,bz q.2];obtain⟨j,B,C,N,I,q4,L⟩:=NT f;refine#[j,C,λh X=>#[[hE,p],B,N,_,x,d,X _ _ lk,#[by rw[gq m],Y,?_],Y,λe J=>?_,[M,L P w],[q,I,nd]]];{rw[aD,u]};{rw[M,i,O,Dq.mp (Array.mem_toList_iff.mpr J)];rw[ad,U,i<[ad],[bD,q4,[dB,O]],#[S[i],(L P w).2 i e _ O (cQ U),?_]];have z:x8 K a=x.toList.map (·.hash):=[dV,x8,lk];rw[z,<-c]at hh;have:=jN (λG:[a4]=>G[i]?) hh;simp only[dQ,O,cQ U,g6,cX]at this;rw[bZ]}};{rw[bO]}};{rw[a7]}
def zU{q:ai}(h:sA K q=ae):(∃p k,[e8,q]=aa (iS q (jq K q) p k))/\Jv K (jq K q)=ae:=by rw[aC,sA,h];{rename_i t j G sl lk;rw[cZ,m,u,B,L,O,X];rw[ak,P,jq K q=G.ns,[dV,jq,lk],P];refine#[?_,X];obtain⟨nm,bs,c,ns,r,d,o,sub,w,col,f⟩:=G;simp only at u B L O;rw[aA,L];{rename_i a x y z;rw[ao,aF,L];obtain⟨⟨⟨s,U⟩,F⟩,J⟩:=L;rw[aA,O];{rename_i i H N g n Z l;rw[R,E,gq m,v,[hE,B]];rw[R,Q,gq s,I,gq U];rw[R,A,gq F,C,gq J];have e:=gq O;subst E u v Q I A C e;(have S:sl=[ff,[i,H,N,g,[gF,"Exception.__new__"],Z]]:=by rw[<-aks (xs:=sl),l]);rw[bh,S,#[(nm,r,bs,o,sub,w,col,j),(i,H,N,g,Z),lk]]};{cases O}};{cases L}};{rw[a7]}
def VE{C:ai}(h:sA K C=ae)(q:pL [up,C]=ae):XC K C (jq K C) ag:=#[[M,zU h],[bq,zU h],vE q]
def RU{C f:ai}(h:sA K C=ae)(q:n_ f [up,C]=ae):XC K C (jq K C) [er,f]:=#[[M,zU h],[bq,zU h],vb q]
end
section
variable{K:aQ}
def adn:[pH,("line":au)]:=by rw[UE,UF];kernel_rfl
def aax:[pH,("place":au)]:=by rw[UE,UF];kernel_rfl
def aaV:[pH,("why":au)]:=by rw[UE,UF];kernel_rfl
def Lp:[b',[Md],[pH,x]]:=λx L=>by rw[cf,L];rcases L with rfl|rfl|rfl;rw[b6,adn,aax,aaV]
def aeb(h:G2 K=ae)(he:sA K 269=ae)(b:n_ [q9] [up,269]=ae)(ha:[b',[Md],[EI,x]=ae])(E:[EI,"__setattr__"]=ae):∃N fI S qual st n X I,X3 K 269 N fI S qual st "line" "place" "why" n X I:=by rw[aC,G2,h];{rename_i oc od S t7 lk;rw[a2];{rename_i s1 p1 a1 p2 n p3 p4 s2 a a2 p6 X l p s3 r a3 s I y z J;rw[bq];obtain⟨⟨⟨⟨⟨⟨⟨⟨⟨⟨⟨⟨⟨⟨⟨⟨⟨⟨⟨⟨⟨b1,b2⟩,v⟩,t⟩,b5⟩,d⟩,H⟩,W⟩,i⟩,f⟩,m⟩,u⟩,Q⟩,T⟩,F⟩,h6⟩,P⟩,B⟩,g⟩,Z⟩,O⟩,j⟩:=h;obtain⟨nm,qn,pr,bd,sc,gl,cl,c,kd,rF,pm,an,G,ct,bt⟩:=S;simp only at J f m u Q T F B g Z O j;rw[R,e1,bz b1,e2,bz b2];rw[R,e3,bz v,e4,bz t];rw[R,e5,bz b5,C,bz d];rw[R,e,bz H,k,bz W];rw[R,A,bz i,w,bz f];rw[R,g1,gq m,g2,aku.mp u];rw[R,o,Fb Q,g4,gq T];have hp:=bz B;subst J e1 e2 e3 e4 e5 C e k A w g1 g2 o g4;rw[ad,hk,sc.kind=[km],by rw[aA,g];{rw[h5]};{cases g},#[_,[q9],_,qn,.FunctionDef "__init__" pr _ [] ag [] sc ag "__init__" p4,"line","place","why",RU he b,#[#[oc,od,kd,rF,pm,an,G,ct,t7,Y,lk,F],h6],P,#[_,_,_,Y,[EN],[EN],[EN]],.all λus U=>BU hp Y ([af]) U,#[hk,[hE,Z],[hE,O]],[gJ],[af],λx L=>#[vE (ha x L),Lp x L],vE E,[af],[af]]];have q:=ck.mp j x L;rw[aC,xx,q];{rw[h5]};{rw[bO]}};{rw[a7]}};{rw[a7]}
def aan{h:bP}{mg:[pa]}(X:K.In h)(S:h.Ns iB mg){x:au}{g:GV}(q:xG K x g=ae):Kz T0 Ir.prog K mg x g:=by cases g with|fn k=>exact zy X S (vb q)|cls k=>exact zy X S (vb q)|exc k=>exact zy X S (vb q)|blt=>exact PySem.W.mg_none_of X S (vE q)|dg k=>rw[ao,xG,q];rw[aA,q];{rename_i C l z e;rw[aA,q];{rw[ax,a];exact#[[jH],[aL],[aL],zy X S z,Y,λr F=>[h8,aG,#[a,Y,k,[aD,q],e]],e]};{rw[bO]}};{rename_i C d _ z e;rw[bx,v,r,m,Gc 5 d C q,#[d,v,C,zy X S z,r,m,e]]};{rw[bO]}
def XW{h:bP}{mg:[pa]}(X:K.In h)(S:h.Ns iB mg)(q:zZ K=ae):∃bm o,mg "__builtins__"=[er,bm]/\bm≠pa/\bm≠iB/\bm≠T0.tab/\[e8,bm]=[a']/\o.cls=[bT,"module"]/\o.dict=aa pa/\o.data=.plain:=by rw[aC,zZ,q];{rename_i bm O;rw[ao,aF,q];obtain⟨⟨⟨m,u⟩,L⟩,e⟩:=q;rw[aA,e];{rename_i t d sl lk;rw[ae,aF,e,#[bm,_,zy X S O,λz=>[eK,z,m],λz=>[eK,z,u],λz=>[fp,z,L,T0],lk,by rw[gq e.1],by rw[gq e.2],Y]]};{rw[cJ]}};{rw[bO]}
def ado{J:[aH]}{l:[fy,J]}{x:au}{b:J}(h:[EV]):(x,b)∈l:=jQ h
def aaf{l:[jQ,Nat×au]}{x:Nat×au}{b:Nat}(h:[EV]):(x,b)∈l:=by induction l with|nil=>rw[a7]|cons p l e=>rw[eY]
def mU{l:[bc]}{d:ai}(h:d∈l)(k:Nat):l.getD k d∈l:=by rw[hY];cases q:l[k]? with|none=>exact h|some a=>exact cG q
def Wt{h:bP}{mg:[pa]}{P:cP}{w:cz}(X:K.In h)(S:h.Ns iB mg)(q:Av K=ae)(hh:DN w K):Ox T0 W0 Ir.prog P w K mg:=by rw[al,Av,q];rw[ao,aF,q];obtain⟨⟨⟨⟨⟨⟨⟨⟨b1,b2⟩,v⟩,t⟩,b5⟩,d⟩,H⟩,W⟩,i⟩:=q;have O:∀c,[Me,T0.eB c]:=λc=>Wy (ck.mp t _ (mU ([af]) c));rw[al,Gu,d];rw[ao,aF,d];rw[co,x1,b,x3,J,x5,d];rw[a1,x3,ck.mp x3,n,∀k,5<=k->k<=12->k≠9->XC K [tB] (jq K [tB]) ag,λk m u E=>by rw[ay,G,k∈[CH],[bE],z,ck.mp H k G];rw[al,FQ,z];rw[ae,aF,z,VE [cK] z.2],A,T0.dr 9=269,rfl];rw[a0,r,XC K (T0.dr 9) (jq K 269) [er,[q9]],[q,A,RU x1 b],fS,Ir.fns.length=147,[dz],#[#[λc=>[M,O c],λc f Z=>?_,ago ([dz]) ?_,λa l#[k,B,Q]=>?_],λx g Q=>aan X S (ck.mp b2 (x,g) (ado Q)),λk G f hm=>UT Y (ck.mp v _ (aaf hm)),λk np p=>?_,λk B=>?_,λf np s=>?_,λf=>rfl,Y,#[Y,Y],XW X S i,[af],#[_,_,r,λf Z=>#[λy o=>vE (x3 y ?_),Lp f Z]],λk m u E=>#[_,n k m u E],?_,[q,A,x5],#[λc m u=>?_,λc k m u E h4=>?_],λf F T=>?_]];{refine(O c).2 _ ?_;have U:f<j2.length:=Z;show oh f∈j2;unfold oh;rw[V,cQ U,SS U]};{have:[b',j2,ao ([te]≠1)=ae]:=ck.mp ([dz]:j2.all (λx=>decide ([te]≠1))=true);exactλx L=>[H,bz (this x L)]};{rw[hr,z,ck.mp W _ B,Q,WE z (hh _ B l Q)]};{(have I:k<16:=by rw[b,B,k<16];{exact B};{have:Ir.vS[k]?=ag:=mz [gf,16<=k];rw[aH,p,[II]=aa np,p,this,p];split at p<;>cases p});rw[ah,z,ck.mp b5 k (ja.mpr I),C,Aa k=aa np,p];rw[al,DQ,z];rw[C]at z;simp only[o8,Ip,CI]at z;refine#[ZZ z,?_];rw[aC,Aa,C];{cases C};{show zO (Ir.vS.getD k 999)=_;rw[hY];cases q:Ir.vS[k]? with|none=>rw[az,q,C,C]|some j=>rw[ae,q,C,C]}};{show [DU,k]=_;unfold Ir.qJ.ar at B|-;have e:Ir.prog.fns=Ir.fns:=rfl;rw[e]at B|-;cases q:Ir.fns[k]? with|none=>rw[ae,q,B,[c_,Y,B]]|some F=>rfl};{have s:[DU,f]=aa np:=s;cases q:Ir.fns[f]? with|none=>rw[az,q,s,s]|some F=>rw[dg,q,s,#[F,q,Y]]};{simp only[bX,dR,d4]at o Z|-;rcases o with rfl|rfl|rfl;{simp};{simp};{rcases Z with rfl|rfl|rfl<;>simp}};{rw[V,A,aeb J x1 b (λx L=>x3 x (by simp only[bX,dR,d4]at L|-;rcases L with rfl|rfl|rfl<;>simp)) (x3 _ (by simp))]};{rw[b,z,c=9];{rw[bh,z,#[_,_,r]]};{exact#[_,_,n c m u z]}};{intro e;have:∀c∈[L7],∀k∈[L7],T0.dr c=[tB]->c=k:=[af];exact this c ([bE]) k ([bE]) e};{rw[D,T,[aR,Ir.fns,f,F],T,U,f<147,[bD,fS,[dB,T]]];have z:=ck.mp b1 f (ja.mpr U);rw[al,tE,z];rw[T]at z;rw[aA,z];{rename_i F' N e1 e2;rw[aU,e1,agl z]};{cases z}}
end
open PySem.W(WellAll Well WData ReadsW ReadsAllW)
def AG:∀l:[a4],Ir.eQ [oF]=aa l|[]=>rfl|i::l=>by show [R,Ir.eQ [oF],(i::·)]=_;rw[a_,AG l]
def Vu:W0.gn "answers"=aa (.fn 146):=by rfl
def VZ{K:aQ}{a:ai}{o:bn}(h:[a3,K.all [Bq]])(e:[e8,a]=[a']):o.cls≠[jh]:=λz=>by have q:=ck.mp h (a,o) (zA e);rw[eK,[aA,(a,o).2.cls=_,z],q]
def PK{P:Params}{h:bP}:∀{l:[a4]}{B:[dW]},WellAll P h B [aT,JQ]->mI B l|[],_,[aM]=>[aM]|i::l,_,[bF,x,y]=>[aU,x,.cons _ _ (PK y)]
def QK{cl:au->[kK]}{h:bP}:∀{l:[a4]}{us:[dW]},bq [aT,V.int] us->∃L,ReadsAllW [] cl h us [aT,JQ] L|[],_,[aM]=>#[_,[aM]]|i::l,_,[bF,x,y]=>by rw[M,t,rfl,x];rw[aG,L,z,QK y,#[_,[bF,[sp],z]]]
def aaa{P:cP}{w:cz}{K:aQ}{mg mb:[pa]}{W:aD}{a s:ai}{B:[dW]}{l f:[a4]}{cl:au->[kK]}(KX:K.In W.heap)(Cj:W.heap.Ns iB mg)(J:W.heap.Ns pa mb)(hbb:∀x:au,([zy])->mb x=hl x)(qi:W.heap.NoLimit)(hg:W.gens=[cd])(ha:W.heap.get? a=aa [k0,[ks]])(hi:mI B l)(U:[E]<=16000)(ht:W.heap.get? 622=aa (JO [cd]))(tb:yn K=ae)(hh:DN w K)(hfa:mg "answers"=[er,s])(y:∃S',[Lg]=[be,[X,f.map D.int],S']):jh (aK P w) callerA (.call [m,s] #[[[aL]],[]]) (λr s'=>∃C L,r=[iB,C]/\ReadsW [] cl [jI] C (.list (f.map JQ)) L/\OldK W.heap [jI]/\s'.os=W.os/\uB s'.gens) W:=by rw[al,yn,tb];rw[ao,aF,tb];obtain⟨⟨q,h⟩,j⟩:=tb;rw[ay,j,[e8,622]=ag,[aD,j],S,Wt (P:=P) KX Cj q hh];rw[D,na,[e8,a]=ag,by cases e:[e8,a]with|none=>rfl|some o=>have z:=KX a o e;rw[dg,ha,z,[c_,Y,VZ h e]],n6,a≠622,[jb,z,ht,ha]];let lo:bn:=[k0,[ks]];let H:Hp:=λb=>[fc,b,a,[DX],[fc,b,622,.fL [cd],ag]];rw[aj,Q,[et,[DX]],aJ Y,H6,H 622=aa (.fL [cd]),by show [BN]=_;rw[aw (dt n6),aJ Y],g,∀b,b≠a->b≠622->[fz],λb m u=>by show [BN]=_;rw[aw m,aw u]];rw[R,rv,Lk hi,aqj,hi.length];rw[D,SD,[E]<=bS,[cz,kZ],aO,cW P w H W.heap,λb C e=>by rw[b,m,b=a];{subst m;rw[dg,Q,e,#[ha,[q,aR,SD],B,_,rv,ha]]};{rw[b,u,b=622];{subst u;rw[dg,H6,e,ht]};{rw[az,g b m u,e,e]}}];rw[D,kC,∀{b:ai}{o:bn},W.heap.get? b=[a']->([fz])->[le,[sO]],λe n=>YC e n,Z,∀{b:ai}{o:bn}{es:Array pj}{ep:Nat},W.heap.get? b=[a']->([yo])->[fz],λ{b o es ep}e d=>by refine g b [lo] [lo];{rw[b8,z,ha,e];cases d};{rw[b8,z,ht,e];cases d}];rw[D,k,∀{b:ai}{G:[pa]},W.heap.Ns b G->[sO].Ns b G,λ{b G}#[o,es,ep,e,d,r]=>#[o,es,ep,kC e (Z e d),d,r],SF,K.In [sO],[dC,kC (KX b o e) (g b [jb,z,na,e] [jb,z,j,e])]];rw[aj,hM,Mod K mg [sO],#[SF,k Cj,#[mb,k J,hbb],let#[mc,m,u]:=qi;#[mc,k m,u]],e0,sI P w K mg [sO] callerA [] W H,#[Y,hM,[dC,ac4 e],uQ (aep _ _),zm,[Db,([]:[bc])],aO,.of_eq hg],hF,[aR,Ir.prog.fns,146,Ir.Cg],rfl];rw[K,fd,ps,fs,S.fn 146 _ hF];rw[ah,ok,P0 (base:=[sO]) S SF 40 146 _ fd ps hF fs,efa,s=T0.cU 146,by have z:mg "answers"=[er,T0.cU 146]:=S.gv "answers" (.fn 146) Vu;rw[az,hfa,z,z];rfl];subst efa;obtain⟨I,qual,v0,body,c8,kV,rF,pm,an,O,ct,oc,od,t7,N,efd,lk,gi,sc,X,ah8,SA,i⟩:=id fs.ex;have ahC:I_ W fd #[[[aL]],[]] (ps.zip [[aL]]):=[bh,efd,.of_eq (BU X Y fs.nd [bP,fs.np])];rw[M,S',y,y];let F:Hp:=λb=>[fc,b,a,[DX],ag];rw[ad,Cm,q7 T0 K (Ir.run Ir.prog 40 146) Ir.Cg.np [[aL]] H (λv H'=>∃p,v=[dq]/\H' p=aa [X,f.map V.int]) [EM],by refine#[[[rS]],[],[],F,#[Y,[aM],[j9],λb J=>[ga,J],λn c b e=>by simp at e,#[aw (dt n6),[H,H6]]],.cons ?_ [aM],Y,?_];{have e:(if b=a then _ else ag)=[a']:=e;rw[aA,e];{rw[ax,z];rw[cJ];rw[V,z,Q]};{rw[cJ]}};{unfold aG;refine#[a,[aT,V.int],Y,[aC,#[lo,aJ Y]],?_,aY.zB l];rw[a5,aR,lP,SD]};{rw[y];intro r' F' H' A E v hv;rw[al,aG,hv];obtain⟨p,ws,rfl,hp,_,hr⟩:=hv;rw[ae,hr.«ints» (AG f),hp,#[p,Y,E.sub _ _ hp]]},wq (ok.run callerA [] W H #[[[aL]],[]] [[aL]] [[aL]] _ _ #[Y,[af],[af]] e0 ahC [hH,Y] Cm) λr s' x=>?_];cases r with|error e=>obtain⟨_,_,_,_,_,_,_,_,_,_,_,_,_,_,_,q⟩:=x;exact et q|ok fl=>cases fl with|next=>exact et x|brk=>exact et x|cont=>exact et x|ret C=>obtain⟨v,H',os,bare,un,t,r',p,rfl,hp⟩:=x;obtain rfl:C=da p:=r';obtain⟨_,az,n,rv',hpo⟩:=[aA,c7 P w H' [jI] p [b9],t p _ hp];rw[bA,L,T,QK (cl:=cl) (h:=s'.heap) rv',#[[dq],_,Y,.list hpo Y Y ([aD,T]),#[[j9],[j9]],os,bare]];{rw[b,m,b=a];{subst m;rw[dg,ha,e,[H,[M,t b _ (un.k_ b _ _ Q)]]]};{rw[b,u,b=622];{rw[b8,u,ht,e];rw[M,HB,z,un.mj 622 _ H6];rw[K,fd1,ps1,fs1,S.fn 61 _ [aA,[aR,Ir.prog.fns,61,Ir.A9],rfl]];obtain⟨_,_,_,_,_,_,_,_,_,_,_,_,_,_,_,_,_,_,_,_,_,_,rE⟩:=fs1.ex;obtain⟨c,_,e2,_⟩:=rE Y;obtain⟨co,cvs,_,_,_,_,_,_,_,g1,g2,g3,g4,_⟩:=akt KX e2;exact [e6,#[#[c,co,cvs,g1,g2,g3,g4],Y,[cd],HB,Y,t 622 _ z]]};{exact [H,un.keep b o e (g b m u) (by intro z;exact [ga,[aA,b∈([]:[bc]),z]]) (by simp)]}}};{exact un.there b o e (by simp)}
open PySem.W(Codec OpenSpec)
def anc(f:Int->WData)(l:[a4]):aq8 f l=.list [g2]:=rfl
def akR{q:cP}{i:[dF]}{p:([pa])->bP->[P]}{d:DefRec}{r:[fy,bQ]}(g:AL.wellSaid=ae)(O:d.name="answers")(y:∀l:[a4],IL l=ae->∃t,[Lg]=[be,[dv,Tk l,D.int],t]):PySem.W.WalkOS q i p AF AL d r (λf B=>gS f B):=by intro w eA W mg mb S x s o pm G rF F kV ho hd gi hD e T j b L h c k v J;rw[K,a,e1,N,PySem.W.os_pre_some h];rw[M,I,Z,Codec.encAll_of_decAll AL.args j a e1];obtain⟨⟨K,A,E,hh⟩,ht⟩:=x;rw[M,l,C,a];rw[aj,U,[aO,(l:[a4]),16000],by rw[R,z,[M,akv.mp Z],z,[M,akv.mp z]];exact [bq,aq9.mp z],I,j=[.list [R,(l:[a4]),JQ]],I,N,IL l=ae,N];subst I;cases v with|cons m u=>cases u;cases m;rename_i a B c1 c2 Q;rw[O]at e;refine PySem.W.enter_call (wq (aaa (P:=AL.prog) (w:=w) (cl:=classAt eA.heap) A S.T.g S.T.b S.T.builtins S.T.nolimit T c2 (PK Q) U ht E hh e (y l N)) λr' s' P=>?_);obtain⟨C,n,rfl,m,u,H,X⟩:=P;exact#[[H,#[C,_,n,Y,[bL],m,(OpenSpec.post_iff g Z _ _).mpr Y,λz=>Bool.noConfusion [tq,z]]],u,H,X]
end Snd
end
namespace Snd
theorem hrun (l : List Int) (h : PyVbmoad.answers_asked l = true) : ∃ S', Ir.run Ir.prog 40 146 [.dU (l.map Ir.D.int)] [] = .ok (.lst ((PyVbmoad.answers l).map Ir.D.int)) S' := Ir.aoc l h 26
end Snd
theorem PySem.Challenge.cw_pricebook_s01_answers_holds : PySem.Challenge.rw_pricebook_s01_answers.Holds := by
  exact Snd.top fun h => Snd.akR Snd.wS h Snd.hrun
