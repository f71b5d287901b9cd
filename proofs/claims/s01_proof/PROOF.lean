import PyProof.Rows.All
import PySem.Challenge.RW_pricebook_s01_answers
import KE.BitLaws
import KE.IntTextLaws
import KE.KDictOf
import KE.KItemsList
import KE.KLam
import KE.KMinKey
import KE.KNestM
import KE.KSortTupG
import KE.OsGo
import Open.SpecLaws
import OpenK.AllK
import PyProof.EqAt
import PyProof.EqKinds
import PyProof.ExcAttrAll.Exception
import PyProof.ExcBaseAll.Exception
import PyProof.ExcInit
import PyProof.InstStoreFacts
import PyProof.ListRange
import PyProof.NsDelKeeps
import PyProof.P3In
import PyProof.TupleCall
import PyProof.WalkInts
import PyProof.ZipIter
import Wide.All
import Wide.FinOn
set_option linter.all false
set_option Elab.async false
set_option maxRecDepth 100000
set_option maxHeartbeats 1000000
set_option hygiene false
open Array renaming getElem?_eq_some_iff→Jr,length_toList→Uq,getElem?_toList→Ur,toList→aiU,getElem?_eq_none→ajs,getElem?_eq_getElem→aj8,size_push→ake,toArray_toList→akm
open BEq renaming rfl→CA
open Bool renaming true→ae,false→af,and_eq_true→aF,false_eq_true→dj,eq_iff_iff→gZ,false_ne_true→iN,true_and→kK,or_eq_true→kN,and_self→lG,false_and→nF,and_true→yX,eq_false_iff→yY,false_or→CG,not_true→Il,not_eq_true'→Iq,and_false→SR,true_or→aiD,true_eq_false→aiF,and_eq_true_iff→akp
open Char renaming toNat→Sw
open Classical renaming byContradiction→CH
open Decidable renaming decide→ao
open Except.ok renaming injEq→qA
open False renaming elim→eu
open ForInStep renaming yield→Jf
open Function renaming comp→jG
open Int renaming ofNat_le→HZ,natCast_add→H_,ofNat_zero→Iy,ofNat→Sx,ofNat_lt→Sz,toNat_natCast→Uo,ofNat_sub→aic,lt_irrefl→aiB
open LT renaming lt→uT
open LawfulBEq renaming eq_of_beq→gp
open List renaming length_map→aR,range→br,map_cons→bT,mem_cons→bX,mem_map→b0,length_cons→b7,all_eq_true→ck,map_map→cq,mem_append→cs,mem_of_getElem?→cG,length_append→cO,getElem?_eq_getElem→cQ,map_append→de,getElem?_eq_some_iff→dC,mem_singleton→dL,getElem?_map→dR,not_mem_nil→dS,append_assoc→en,all_cons→e8,replicate→fH,getElem?_set_ne→gk,take_of_length_le→gH,length_nil→gK,length_range→gY,nodup_append→g8,drop_zero→g',getD_eq_getElem?_getD→hY,flatMap_cons→ir,append_nil→iu,map_congr_left→iL,mem_range→i9,foldr_cons→jE,take_succ→jH,length_set→jJ,of_mem_zip→j9,mem_flatMap→j_,drop_succ_cons→kb,pairwise_cons→kM,getElem?_of_mem→kO,mem_cons_of_mem→lD,getElem?_append_left→lI,length→mu,nodup_cons→mv,ext_getElem?→mw,getElem?_eq_none→mx,length_zip→mB,drop_eq_getElem_cons→mE,foldl_cons→nE,take_length→nK,mem_filter→nN,getElem?_append_right→nT,any_cons→n3,length_take→o7,drop_of_length_le→o8,mem_append_right→pf,size_toArray→pj,lookup_cons→pk,mem_cons_self→qx,mem_iff_getElem→qF,getElem?_cons_zero→rL,flatMap_append→rN,filterMap_cons→rO,contains_iff_mem→rQ,any_map→rR,zip_cons_cons→rS,length_drop→rW,getElem?_set_self→rZ,filter_cons→ub,range_succ→uc,getElem_range→ud,length_eq_zero_iff→uf,mem_filterMap→ui,map_nil→uo,head?_cons→ur,lookup→uG,map_id→v5,getElem?_eq_none_iff→v6,getElem?_inj→v8,all_map→v_,nil_append→wb,foldl_append→yR,range_succ_eq_map→yU,flatMap_nil→yV,filter_append→yW,map_drop→yZ,drop_drop→y6,filter_eq_nil_iff→Cv,map_take→Cy,getElem?_zip_eq_some→CB,any_eq_true→CC,take_append_of_le_length→CJ,range'→CM,getElem?_replicate→C6,mem_iff_getElem?→Dn,toArray→Do,mem_of_mem_take→Ie,cons_append→Ih,pairwise_map→Ii,getElem?_take→Ij,all_nil→Io,contains_eq_any_beq→Ip,filter_map→Iu,getElem?_append→Iv,map→Ix,head?_nil→Iz,mem_or_eq_of_mem_set→IA,getElem?_cons_succ→IB,find?_cons→IE,mem_append_left→IM,drop_length→Jl,getElem_map→JM,nodup_range→SH,map_set→SI,zip_map_left→SJ,getElem_mem→SK,length_filterMap_le→SL,foldl_map→SM,filter_congr→SN,length_filter_le→SO,any_eq_false→SQ,flatMap_map→SS,map_flatMap→SU,length_pos_iff→SV,isEmpty_cons→SZ,mem_of_mem_drop→S0,set_comm→S4,perm_append_comm→S6,filterMap_append→S7,perm_middle→S8,contains_cons→T5,filter→ah',isEmpty_nil→aia,sum_cons→aib,take_succ_cons→aif,getElem?_set→aij,filterMap_map→ail,take_zero→ain,getElem?_range→aio,pairwise_iff_getElem→aiq,pairwise_append→ait,Nodup→aiu,map_eq_nil_iff→aiA,getLast?_eq_some_getLast→aiC,find?_nil→aiH,nodup_nil→aiI,length_singleton→aiJ,mem_replicate→aiK,countP_map→aiL,countP_congr→aiM,getElem_inj→aiQ,getElem?_take_of_lt→ai6,zip_nil_left→ai',length_dropLast→ajg,eq_nil_of_length_eq_zero→ajJ,getElem?_zipIdx→ajO,getElem?_mapIdx→ajQ,getElem?_toArray→aj1,isEmpty_iff→ako
open List.Pairwise renaming nil→Ib,imp_of_mem→aqf
open List.Perm renaming append_left→y8,refl→SG,cons_inv→ajL
open List.cons renaming injEq→SY
open Max renaming max→fk
open Min renaming min→el
open MonadExcept renaming tryCatch→uS
open Nat renaming le_trans→c9,ne_of_lt→di,le_refl→dz,zero_le→fU,ne_of_gt→gj,lt_of_lt_of_le→hc,zero_add→kL,mul_le_mul_right→mz,mul_comm→nG,lt_irrefl→qy,mul_le_mul_left→rJ,mul_le_mul→uh,le_of_eq→uO,le_succ_of_le→v7,lt_succ_of_lt→wt,le_of_lt→yQ,succ_mul→yT,lt_trans→y4,toDigits→y5,div_add_mod→Cu,succ→Cz,mul_add→Ic,div_le_of_le_mul→Ig,add_le_add_right→Im,sub_self→Jy,div_le_self→Sy,add_assoc→SA,add_zero→SD,toList_repr→SX,le_of_succ_le→TQ,add_sub_cancel_left→Us,mod_eq_of_lt→aid,add_comm→aie,mul_div_le→aig,le_of_mul_le_mul_right→aih,mul_pos→aii,mod_lt→aik,sub_le→aim,lt_trichotomy→aip,testBit_lt_two_pow→air,pow_succ→ais,pow_le_pow_right→aiv,min_def→aiw,add_le_add→aix,lt_or_ge→aiy,le_antisymm→aiz,min_self→aiG,succ_ne_self→ajv,log2_lt→ajI,lt_succ_self→ajS,lt_of_succ_lt→aj3,sub_zero→akh
open Ne renaming symm→dt
open Option renaming some→aa,none→ag,map_some→g6,map_eq_some_iff→lE,getD_some→nJ,isSome_none→nQ,isSome_some→o_,map_none→qw,bind_some→t_,isSome_map→wc,toList_none→IC,toList_some→ID,map_eq_none_iff→aiE
open Option.some renaming injEq→cX,inj→uA
open Or renaming inl→e6,inr→kQ
open Prod.mk renaming injEq→gO
open Pure renaming pure→bx
open PyFlat renaming calls→wd,rows→CQ,told→IG,played→IH,row→S9,call→Ta
open PyProof.Rows renaming seqObj→d6,envOfC→kY,IntsAre→mG,arrOf→sr,AllBare→uz,IsTup→wg,callWith_type1→CY,slot_tuple_getitem→I0,tail_any→I_,kws_cons→JF,kws_nil→JG,listUpdate_at→JJ,callWith_kw→Uh,get?_update_seq→Ut,SortedToK→Uu,iadd_int→aiW,lt_int→aiX,slicePart_none→aja,subscriptTail_builtinR→ajb,boot_enumerate→aju,lexLt→akl,callWith_builtin1→aqF,sorted_ints→aqL,sortedAll_at→aqM,sortedAll_old→aqN,split_le→aqP,join_list→aqR,join_tuple→aqS,evalArgs_kwB→aqW
open PyProof.Rows.G renaming tupKeyC→zx,tupKindC→JK
open PyProof.Rows.IsTup renaming new→TK
open PySem renaming Addr→ai,wpAny_bind→am,Value→aq,Str→au,Shared→aD,wpAny→aE,model→aK,eval→aM,starEach→bb,wpAny_pure→bg,Obj→bn,Heap→bP,Expr→bQ,sizeLine→bS,World→cz,Program→cP,Around→dc,backTo→dE,cLine→dM,compEnvC→dN,Pos→et,attributeBase→eF,compareOp→eU,argBest→fb,Scope→fo,cellsFrom→fq,wpAny_field→fu,rawInt→fv,wpAny_mono→gQ,call→gR,bootBuiltins→hl,Tok→iz,sysModules→iA,mainGlobals→iB,holding→iC,typeLookup→iO,Env→jd,pyNext→je,codeAny→jf,backToKw→jh,keywordEach→ji,swapsWith→jM,mem_of_lookup→jN,wpAny_holding→kc,Stmt→kW,sizeLine_eq→kX,IsPair→kZ,wpAny_seqItems→k4,wpAny_letGo→mI,wpAny_truthy_bool→nW,foldedSetIterable→nX,wpAny_Call_Name_kw→nY,Keyword→nZ,wpAny_setField_rec→n8,plainId_quiet→n9,builtinsNs→pc,standAt→pd,binaryOp→ph,wpAny_newObj_type→pi,DictEntry→pp,codeAny_builtin→pu,pushCells→qE,wpAny_tryCatch→qG,wpAny_updateSeq→qH,behindInMarks→r_,PassesOwn→sd,wpAny_pyIter_list→sf,bindL→si,wpAny_call_entry→sm,Arguments→so,isTrue→uB,assign→uC,assignEach→uD,setItem→uE,recursionLimit→uH,FuncData→uI,bindC→uJ,IsPart→uL,wpAny_callSpecial?_slot→uM,atKey→uP,IsZip→uQ,wpAny_loadPart_at→uR,Paired→we,wpAny_standAt→wk,getItem→wm,wpAny_passesOwn→wo,codeAny_mono→wp,PyData→wq,notedBy→wu,compPost→wv,wpAny_rule→wy,seqItems?→wA,tupleKind→zb,release→zd,pyIter→ze,getMethod→zf,setAttr→zg,callWith→zh,Result→zi,Meets→zk,call_meets→zn,NameKind→zp,valueAt→zq,wpAny_setField→zt,wpAny_attempt→zv,updateSeq→zw,wpAny_Name→CV,wpAny_execs_nil→CW,getAttr→C0,wpAny_call→C4,sliceBounds→C7,typeIs_str→C8,typeOf→C9,evalArgs_none→C_,closureFor→C',pushCells_keeps→Da,tupleKind_room_in1→Db,IsEnum→Dd,wpAny_typeLookup_exc→Dg,field→Dj,wpAny_of_eq→Dk,Within→IK,wpAny_loadName_local→IN,wpAny_Constant_int→IP,truthy→IQ,wpAny_execs_cons→IR,swapsWithSole→IS,swappedStores→IT,augStore→IU,BindsTo→IY,bindArgs→IZ,seqIndex_of→Ja,seqIndex_neg→Jb,cellOf→Je,wpAny_Call_method→Jg,wpAny_pyIter_enum→Ji,ZipApart→Jj,wpAny_pyIter_zip→Jk,frameOf→Jp,noteFrame→Jq,codeAny_call_builtin→Jt,wpAny_isSubtype_exc→Ju,checkBuiltinCall→Jv,wpAny_onRaise→JB,wpAny_newTuple→JC,argsOk→JE,wpAny_typeNameOfWhole_itemiter→JH,storeName→Ti,inplaceOp→Tj,letOwnedTupleGo→Tk,wpAny_load→Tl,lastMarks→Tn,richCompare→Tw,concat_meets→Tx,noFill_tuple_add→Tz,seq_tuple_add→TB,call_meetsIn→TR,strValues→TW,setField→TZ,setFlight→T2,StoreFacts→T4,ExceptHandler→T6,wpAny_throw→T7,handedOut→T9,wpAny_nextOf_list_item→T',wpAny_updateSeq_pair→Ua,wpAny_nextOf_list_end→Ub,wpAny_isInstance→Uc,isSubtype_stop→Ud,wpAny_dictEntries→Ul,wpAny_dictEpoch→Um,wpAny_isOneOf_itemiter→Up,typeLookup_type→Uv,builtinLookup_eq_fast→Uw,wpAny_loadName_cell→aiR,wpAny_isTrue_Compare1→aiT,wpAny_assign_Name→aiV,wpAny_lookBehind→ai0,pastItsLine_dict→ai1,plainObj_wpAny_Assign_Attribute→ai3,codeAny_call_function→ai7,wpAny_newFunctionEnv_cells→ai9,slot_list_getitem→ajc,wpAny_getItem_list_neg→ajd,newFunctionEnv→ajj,wpAny_comprehension_free→ajk,codeAny_compStart_list→ajl,wpAny_getItem_of→ajn,wpAny_notIn_of→ajo,wpAny_Dict_empty→ajp,wpAny_letOwnedTupleGo_enum→ajt,wpAny_letOwnedTupleGo_zip→ajw,wpAny_handleBy_cons→ajG,codeAny_handlers_test→ajH,methodCallForm→ajN,wpAny_pyIter_tuple→ajP,firstArgMember→ajW,wpAny_fieldsOf→aj7,method_meetsIn→aka
open PySem.Around renaming under_plainId→sq,frames_deeper→ai5
open PySem.Builtin renaming sorted→aqZ
open PySem.Builtin.Builtins renaming bindParams→Uf
open PySem.Builtin.Dict renaming showsAll→aqX
open PySem.Builtin.Dict_items renaming pairFromOwner→Uj,ownsTuple→Uk,ownedTupleFields→aj_
open PySem.Builtin.List renaming listTooLong→TM,listExtendWith→akg,listSameRef→aki,listUpdate→aqY
open PySem.Builtin.ObjectAttr renaming inDict→aqU
open PySem.Builtin.Range renaming rangeSize→aqh
open PySem.Builtin.Slice renaming sliceAdjust→TH,slicePlaces→TJ,slicePartIndex→aqH,sliceApplied→aqI
open PySem.Builtin.SmallTypes renaming nextOf→ajT
open PySem.Builtin.Str renaming strKind→pq,occurrences→De,partsBetween→aqQ
open PySem.Builtin.Tuple renaming tupleCompareSizes→aqG,tupleItemsOf→aqJ
open PySem.Calls renaming callWith_builtin→zl,spliced_cons→C2,spliced_nil→IX,evalArgs_plain→Jc,Name_function_global→aiS
open PySem.Challenge renaming rw_pricebook_s01_answers→aq0
open PySem.EntryCells renaming newEntry→ajB
open PySem.EqMixed renaming eq_bool_str→aqn,eq_int_str→aqp,eq_str_bool→aqr,eq_str_int→aqs,ne_bool_str→aqy,ne_int_str→aqA,ne_str_bool→aqC,ne_str_int→aqD
open PySem.EqNone renaming eq_none_none→aqi,eq_none_bool→aqj,eq_none_int→aqk,eq_none_str→aql,eq_bool_none→aqm,eq_int_none→aqo,eq_str_none→aqq,ne_none_none→aqt,ne_none_bool→aqu,ne_none_int→aqv,ne_none_str→aqw,ne_bool_none→aqx,ne_int_none→aqz,ne_str_none→aqB
open PySem.F renaming plain_max_loop→wz,plain_min_loop→wB,slot_dict_get→Dc,slot_dict_itemiterator_next→Dl,plain_extend_loop→Dm,plainAttrs_dict→Jh,slot_str_split→Jn,plainAttrs_list→Jz,slot_tuple_iterator_next→JA,slot_zip_next→JD,slot_dict_items→JI,slot_tuple_add→TC,entry_tuple_add→TD,args_tuple_add_2→TF,slot_list_append→TN,entry_dict_get→TU,entry_str_split→TX,args_str_split_2→TY,attrBase_Exception→T8,entry_max_loop→Ue,entry_min_loop→Ug,called_enumerate→Ui,slot_list_extend→aje,slot_list_pop→ajf,args_dict_get_3→ajq,type_dict_get→ajr,plainAttrs_str→ajA,excBase_Exception→ajD,store_Exception→ajF,slot_dict_getitem→ajK,type_list_append→ajR,entry_tuple_iterator_next→ajU,args_tuple_iterator_next_1→ajV,entry_zip_next→ajY,args_zip_next_1→ajZ,slot_enumerate_next→aj2,entry_dict_itemiterator_next→aj5,args_dict_itemiterator_next_1→aj6,slot_dict_items_iter→aj9,type_dict_items→aj',entry_dict_items→akb,args_dict_items_1→akc,entry_extend_loop→akd,plain_list_iadd→akj
open PySem.Heap renaming get?_push_of_some→bA,lt_size→bF,get?_push_size→cZ,size_push→gm,get?_update_other→h8,get?_update_self→mH,SameBut→wj,get?_none_of_le→IL,ExtBut→T_,get?_update_ne→ajE,size_update→akf
open PySem.Heap.DictOf renaming new→aqO
open PySem.Heap.IsSliceOf renaming new→aqK
open PySem.Heap.IsTuple renaming push→aqV
open PySem.Heap.Ns1 renaming of_empty→ai2
open PySem.Heap.SameBut renaming update→zu
open PySem.NameKind renaming free→aji
open PySem.NumText renaming digitsVal→ajM
open PySem.Obj renaming mapSeq→lJ,data_mapFields→Df,mapFields→Jo,isFreed_of_fields→T1,cls_mapFields→ajC
open PySem.Paired renaming length→IJ,nil→ajh,snoc→ajm
open PySem.PyData renaming eqv→uN,depthAll→wx,canLayAll0→Di,canLay0→Jw,depth→Jx
open PySem.SeqAt renaming shaped→zo,EqAt→Tv
open PySem.SeqAt.EqAt renaming int_str→aiO,str_int→aiP,int_int→ai_
open PySem.Shared renaming heap→ajX,TypeIs→aj4
open PySem.Str renaming ofString→iP,join→TV
open PySem.Txt renaming split→zr,join→Jm,isdigit→ajx,isalpha→ajy,isalnum→ajz
open PySem.Value renaming ref→da,int→pb,none→qD,bool→r9,type→uy,str→CU,builtin→Dh,isInt→Te,isStrOf→Tf,bytes→Tg,float→Th
open PySem.W renaming Frag→aQ,nsIn→gq,keepIn→jg,findIn→mF,codeIn→sj,isFn→uF,kla_obj→uU,instObj→zc,fnOf→zj,mg_of→zy,plainGet→CZ,emptyDict→C1,callWith_K→C5,codeHdIn→Dq,lookIn→IV,hasDictIn→IW,nsOkIn→Js,tabObj→JL,plainGet_of→To,plainOver→Tp,takerIn→Tq,makesIn→Tr,methodCall_KW→Tt,callWith_K0→Tu,isNs_of_in→T3,handedIn→aiY,cellsFrom_some→ai4,codeRec_of→ai8,ktu_apart→aj0,CodeHd→akk,codeHd_of_K→akn
open PySem.W.Codec renaming encList→aq1,inNat_iff→aq2
open PySem.W.KIN renaming call_text→aqT
open PySem.W.Looks renaming here→aqE
open PySem.W.WData renaming int→JN
open PySem.Walks renaming list→Jd
open PySem.Within renaming cons→aiZ
open PyVbmoad renaming shape→fa,answers_asked→II,whole→S_,answers→Td
open Sum renaming inl→CS,inr→CT
open ToString renaming toString→kI
open Vbmoad renaming asc→ay,sumOf→aH,bind_→aZ,Book→a7,numberText→bJ,number→bN,Words→bO,inRange→b3,int→b_,taxAt→cj,isKey→cn,oldName→cu,nats→cy,itemAt→cC,Text→cK,sortedIn→cY,namesOf→c_,itemNames→df,MONEY→dy,step→dD,linesOf→dJ,isName→dU,Item→dZ,couponNames→d3,taxNames→d4,COUNT→em,bundleNames→eo,Got→eT,countAt→e7,leastFor→e9,TOP→e_,isDigit→fm,addGroup→fJ,indexOf→fK,setOf→fT,floors→gi,taxesOf→gI,mayGo→gJ,members→gL,isLetter→gM,itemName→gN,bareOf→g7,groupsOf→g9,rowsUpTo→g_,newName→hZ,Head→h7,Bundle→io,shares→iq,grossOf→iv,itemLines→iw,headLine→iy,couponName→iM,isFree→i8,rounded→i_,heldTax→ja,roundWords→jb,wordsFrom→jc,paidPieces→jD,cashOf→jF,isBasket→jI,blank→jL,Coupon→j7,room→ka,costOf→kJ,remainder→kP,Line→kR,itemNumbers→kT,inRates→kU,isText→lF,key→lH,usedOf→my,billOf→mC,numberOf→mD,roundingOf→nH,amounts→nM,wayOf→nO,taxWords→nP,linesFrom→nR,onBook→nU,Rounding→o5,allApart→o6,headLines→o9,stepNumbers→pa,stepPrice→qr,taxTotals→qt,USES→qu,couponWords→qv,roundingIn→qz,isHead→qB,firstUnlike→qC,volumePrice→rK,bundleLines→rM,discounted→rP,dueOf→rT,onTop→rV,pick→rX,bookLines→rY,lastFrom→r8,Scale→ua,couponAt→ug,touches→uj,waysOf→uk,billLines→up,KEYS→uq,taxList→uu,readFrom→uv,«ints»→uw,paidOf→v9,taxName→wa,before→yS,rising→y3,SCALES→y9,lineOf→y_,headFrom→y',roundTo→Cw,bestOf→CD,couponRest→CI,partList→CK,State→CN,onItem→CO,cheapest→Ia,topTotal→Ik,priceOf→Iw,readBook→IF,pieceRow→SF,lineText→SW
open Vbmoad.isHead renaming isKeyWord→CL
open VbmoadNeutral renaming asked1→CP,step→Tc,row→aiN,asked→aqg
def Y:=@rfl
def aw:=@if_neg
def aJ:=@if_pos
def bz:=@of_decide_eq_true
def bI:=@if_true
def b8:=@if_false
def d0:=@decide_eq_true_eq
def d5:=@or_false
def ip:=@beq_iff_eq
def iK:=@decide_true
def jK:=@congrArg
def j8:=@decide_false
def nV:=@decide_eq_false
def ue:=@not_or
def ut:=@beq_eq_false_iff_ne
def ux:=@beq_self_eq_true
def uK:=@decide_eq_true
def ww:=@beq_false_of_ne
def zm:=@trivial
def CF:=@and_true
abbrev Q0:=∀{k:Lean.SyntaxNodeKinds},Lean.TSyntax k
abbrev M0:=Array Lean.Syntax→Lean.MacroM Lean.Syntax
abbrev L0:=List (Lean.Name×M0)
def f0(f:Lean.MacroM Lean.Term):M0:=λx=>do return (←f ).raw
def f1(f:Q0→Lean.MacroM Lean.Term):M0:=λx=>do return (←f ⟨x[0]!⟩).raw
def f2(f:Q0→Q0→Lean.MacroM Lean.Term):M0:=λx=>do return (←f ⟨x[0]!⟩ ⟨x[1]!⟩).raw
def f3(f:Q0→Q0→Q0→Lean.MacroM Lean.Term):M0:=λx=>do return (←f ⟨x[0]!⟩ ⟨x[1]!⟩ ⟨x[2]!⟩).raw
def f4(f:Q0→Q0→Q0→Q0→Lean.MacroM Lean.Term):M0:=λx=>do return (←f ⟨x[0]!⟩ ⟨x[1]!⟩ ⟨x[2]!⟩ ⟨x[3]!⟩).raw
def f5(f:Q0→Q0→Q0→Q0→Q0→Lean.MacroM Lean.Term):M0:=λx=>do return (←f ⟨x[0]!⟩ ⟨x[1]!⟩ ⟨x[2]!⟩ ⟨x[3]!⟩ ⟨x[4]!⟩).raw
def f6(f:Q0→Q0→Q0→Q0→Q0→Q0→Lean.MacroM Lean.Term):M0:=λx=>do return (←f ⟨x[0]!⟩ ⟨x[1]!⟩ ⟨x[2]!⟩ ⟨x[3]!⟩ ⟨x[4]!⟩ ⟨x[5]!⟩).raw
def f7(f:Q0→Q0→Q0→Q0→Q0→Q0→Q0→Lean.MacroM Lean.Term):M0:=λx=>do return (←f ⟨x[0]!⟩ ⟨x[1]!⟩ ⟨x[2]!⟩ ⟨x[3]!⟩ ⟨x[4]!⟩ ⟨x[5]!⟩ ⟨x[6]!⟩).raw
def f8(f:Q0→Q0→Q0→Q0→Q0→Q0→Q0→Q0→Lean.MacroM Lean.Term):M0:=λx=>do return (←f ⟨x[0]!⟩ ⟨x[1]!⟩ ⟨x[2]!⟩ ⟨x[3]!⟩ ⟨x[4]!⟩ ⟨x[5]!⟩ ⟨x[6]!⟩ ⟨x[7]!⟩).raw
def f9(f:Q0→Q0→Q0→Q0→Q0→Q0→Q0→Q0→Q0→Lean.MacroM Lean.Term):M0:=λx=>do return (←f ⟨x[0]!⟩ ⟨x[1]!⟩ ⟨x[2]!⟩ ⟨x[3]!⟩ ⟨x[4]!⟩ ⟨x[5]!⟩ ⟨x[6]!⟩ ⟨x[7]!⟩ ⟨x[8]!⟩).raw
def T0:L0:=[(`A,f3 λa b c=>`(if$a then$b else$c)),
(`A',f0 `([iM,iE f v _=[A,k=f,(k,v)::r,(k,x)::iE f v r]])),
(`A0,f2 λa b=>`([v3,$a,[[lE],$b,bJ ($a)]])),
(`A1,f3 λa b c=>`(aa {cls:=[m,$a],dict:=$b,data:=.fields [fg,[[m,$c],[aZ],[aZ],[aZ],[mP],[aZ]]]})),
(`A2,f0 `(λi h st b J=>by have e:=[aD,J];rw[ag,o,e,c,d,st];grind)),
(`A3,f0 `([Q,[mC]]==[cs]&&[hR,[mC],n,[qZ,qu]])),
(`A4,f0 `([ms,[DH]]++[jM,[CW]])),
(`A5,f2 λa b=>`([jS,λ$a:ident L J x#[j,I,z,m]u B q=>#[by rw[q.length,<-me];grind,λp n=>$b]])),
(`A7,f0 `([pW,"enumerate",[[aZ],[mP],[fq],fv 1,[aZ],[aZ]]])),
(`A8,f1 λa=>`($a∈X.ex\/X.eD.heap.objs.size<=$a)),
(`A9,f0 `(.app [a6,20] (.lO 3 [[U],[ai],[av],[a4],[cZ],[fT]]))),
(`AA,f5 λa b c d e=>`(bB r1 F1 H1 r F $a/\[pl,F,$a]/\A∉r/\F A=ag/\$b=[ln,B]/\[eP,$c,B]/\$d<=$e/\(do let l←[uo,ds.drop $e];[bZ,[ic,$c ++l]]) S=X)),
(`AB,f5 λa b c d e=>`(f_ (m:=λ_=>[bZ,()]) a c P $a λ$b:ident r1 F1 H1 S1$c:ident a1 I$d:ident s$e:ident g=>?_)),
(`AC,f0 `(b≠X.env.locals/\[up,b]/\[x1,b])),
(`AD,f4 λa b c d=>`(BG hr hw [ay $a,ay $b] (by intro c O;rw[cg,O];rw[d_,O,rfl,rfl,[BJ],[BJ]]) $c (k+$d))),
(`AE,f0 `([L,[97,98,99,100,101,102,103,104,105,106,107,108,109,110,111,112,113,114,115,116,117,118,119,120,121,122]])),
(`AF,f1 λa=>`(X.fn $a=ae\/[jU,$a]=aa .local)),
(`AG,f4 λa b c d=>`(([ny,dE $a $b,λx=>! [R]]&&[ny,jh $a (ji [] $c),λx=>[er,[R]]]&&ao ([Q,$d]+[Q,([]:List nZ)]+[A,[tx,([]:List nZ)],0,1]<30))=ae)),
(`AH,f0 `(["enumerate","zip","dict_itemiterator","dict_reverseitemiterator","odict_iterator","itertools.zip_longest","itertools.pairwise"])),
(`AI,f0 `([mJ,Ir.M.bind (f' Z I t d_ [pV] d) λy=>Ir.M.bind (Ir.eJ _ [sO]) λys=>[gf],S2])),
(`AJ,f0 `([q,hE hrn,I.pr])),
(`AK,f0 `([aF,ao (J=[nl])])),
(`AL,f0 `([ay "item",x.name,bJ [ea]]++[v',wa b])),
(`AN,f0 `([[fA,[qx,[hL]]],[zI,[a4],[av]],.ei 4 [a4]])),
(`AO,f0 `(.Call [dx] [e] [#[aa "default",.Constant [iW] j f,kp]] pos)),
(`AP,f0 `([cl,cp G S k [X],x,([H],x)])),
(`AQ,f1 λa=>`([D5,$a,x,[Cu,#[i,j,Y,Y,al.pure c h _ (.bl _)]]])),
(`AR,f0 `([[hA],.int 0 0])),
(`AS,f0 `((show False by(have:[ox]=Ir.bad:=[aa,Ir.dg,q]);rw[af,this,h,h]).elim)),
(`AT,f1 λa=>`([zu,$a,[bk,[bs,[c_,[g5]]]],[ay,g.2],[bk,[cc,F]],Z])),
(`AU,f0 `([aF,[gN b [H],bJ [X]]])),
(`AV,f1 λa=>`(∀d r F H S v Q,[Lq,[hK,X.K,Ir.dn o d S,j,C,$a]])),
(`AW,f1 λa=>`(λσ H Q=>∃env O S r F,[bz]/\[iH]/\$a)),
(`AX,f4 λa b c d=>`(IR (G9 $a L [D3] [D3] [q,p,$b] g0 $c ($d) ([ah]) (x.Hb _ (by simp))))),
(`AY,f2 λa b=>`([kP,xI $a x.pe J.pe,z,[Cu,#[i,j,Y,Y,$b,[dO,c,h.ite.2,[bK]]]]])),
(`AZ,f0 `(cut l [mR,lo.map (clip [E])] [DS,clip [E]])),
(`A_,f0 `([.ej 2 [ax,[[qS,18,[ai]],[D9]]]])),
(`Aa,f0 `(G b o e L)),
(`Ab,f0 `(l.toList[i])),
(`Ac,f0 `(λa h=>?_))]
def T1:L0:=[(`Ad,f0 `([cu,O i,ob])),
(`Ae,f0 `([eF,o,name])),
(`Af,f2 λa b=>`([mb,[bW,$a],.ej 2 $b])),
(`Ag,f2 λa b=>`(Ao $a (λ_ _=>$b) [bJ])),
(`Ah,f1 λa=>`(.aX 4 (ec $a))),
(`Ai,f1 λa=>`([t0,E,$a])),
(`Aj,f0 `(b4 σ [k0])),
(`Ak,f0 `([kU,[hc,[]]])),
(`Al,f0 `(Q () [ct,h'])),
(`Am,f0 `([aJ,JB ?_])),
(`An,f0 `(Gl X "range")),
(`Ao,f0 `([dR,je [gO]])),
(`Ap,f0 `(#[[g],[g]])),
(`Aq,f1 λa=>`(al.pure c a v $a)),
(`Ar,f1 λa=>`([rV,t,iF b $a t])),
(`As,f0 `(.proj _ _)),
(`At,f0 `([aQ,r,n,a])),
(`Au,f2 λa b=>`(u5 b ($a) I h λd r F H S v Q c hd g=>by cases d with|lst l=>rw[b_,p,B,rfl,m,q];rw[M,ns,e,g,al.i5 [wP]];rw[af,$b:term,m,#[p,ns,Y,[cJ,m],[lA,g]]]|_=>rw[aN])),
(`Aw,f2 λa b=>`(λb J=>#[[cP,$(a).2],[ae,$b],[ph,$b],[aE,[eT,$a]]])),
(`Ax,f2 λa b=>`([hN,[i5,$a,.fields $b]])),
(`Ay,f7 λa b c d e f g=>`(∀$a:ident tk N c,([dh,$b,$c])->$d=aa (xN N c)->([CL,[fv],$e +1])->(∀j P,es[j]?=aa P->$f=aa (wJ P))->$g)),
(`Az,f4 λa b c d=>`([cX,$a,.error e,∃p,$b=[f8,e.1,e.2,[cK,p]],[fX],[dX]=[e4,[ae,x]]/\$b=[lK,[d7,[dl,a,[dv,$c,$d]],[ae,x]]]])),
(`B',f0 `([k1].taxes.any λt=>[mw])),
(`B0,f0 `(∃sl,[ma,{o with slots:=sl}])),
(`B1,f5 λa b c d e=>`(#[[a3,jJ,jJ,$a:term],λj s x$b:ident$c:ident=>?_,λj k C$d:ident$b:ident$c:ident$e:ident=>?_])),
(`B2,f1 λa=>`([A,[bV]+b.length<=lim,[ce,$a],bad])),
(`B3,f2 λa b=>`(bh (cf (k+6)) l_ [p9,[oR],$a,$b,Z] S)),
(`B4,f0 `(∀σ H Q,t' σ H Q->t σ H Q)),
(`B5,f1 λa=>`(jS 3 ((i4 3 i).take $a))),
(`B6,f2 λa b=>`(l.Pairwise $a->$(b).Pairwise $a)),
(`B7,f0 `([Aw,[M,f3 b J],[M,f3 b J]])),
(`B8,f1 λa=>`(#[[bK],Y,m,u,xc,ns,tl,Y,z _ $a])),
(`B9,f1 λa=>`(λxs H Q=>∃p ys,xs=[[dp]]/\$a)),
(`BA,f0 `([d7,C.set A.aI [dv,[rC],[mc]],[fB]])),
(`BB,f0 `(λc v O q=>k c v ?_ q)),
(`BC,f1 λa=>`(λb o _ _ O e _=>#[o.slots,k b o $a e])),
(`BD,f0 `(Dh "BaseException.__getattribute__")),
(`BE,f0 `(if _ then _ else _)),
(`BF,f0 `(λx L=>aO x (by rw[e];simp[L]))),
(`BH,f0 `([[b5],[hG],[W,[jr]],[W,[f4,nD]]]))]
def T2:L0:=[(`BI,f4 λa b c d=>`(ol $a $b $c $d _ _ 30 0 _ [g] [g] (by simp) (by simp) [g])),
(`BJ,f0 `(#[(hO ([ah])).2,[ah]])),
(`BK,f0 `(o6 b a&&a.all λi=>wh b [gd] i)),
(`BL,f1 λa=>`(∀d x v,f d=aa x->([cL])->aG T K $a Q x v)),
(`BM,f0 `([em,[s6],"items",yB,[],im])),
(`BN,f1 λa=>`(.Dict [aa (.Tuple [] $a A)] [[dx]] pos)),
(`BO,f0 `(tf b ts a [Y]=[jh])),
(`BP,f0 `(λc=>a8 (qv b c))),
(`BQ,f0 `(#[Y,[ah],Y,[bJ],[g],[g]])),
(`BR,f2 λa b=>`(λi=>[v3,$a,F $b $a])),
(`BS,f0 `(.ex (.ly [cZ] [[aK],[U],[a4]]))),
(`BT,f2 λa b=>`(($a=[]/\$b=[])\/∃s,$a=[[c']]/\$b=[[L,[g3]]])),
(`BU,f0 `(GX I hr hra (line:=line) hw k 1)),
(`BV,f4 λa b c d=>`(ol $a $b $c $d _ _ _ 0 _ [g] [g] (by simp) (by simp) [g])),
(`BW,f1 λa=>`([aS,Ir.Slot.val]++fH $a Ir.Slot.un)),
(`BX,f1 λa=>`([mk,[dN]]++([g_].take $a).flatMap f)),
(`BY,f0 `([d7,S1.set A.aB [ax,d],[i2]])),
(`BZ,f0 `([d5,[l,e.1],[ae,e],[aE,e]])),
(`B_,f0 `([ay "line",gN b [R],bJ [bD]])),
(`Ba,f2 λa b=>`(Q (.int ($a) s.toks) [tH,s,s.toks+1]->aE [c4] X.A ($b) Q E s)),
(`Bb,f2 λa b=>`((b.bundles++[$a]).zip (A.bs++[aa $b]))),
(`Bc,f6 λa b c d e f=>`(R.bd (bh [gc,5] $a [[c6,A.nb],[c6,r],[bk,sD [R]],[bk,[wD,$b]],[ay,$c],$d,$e,$f] [cK,G]) om)),
(`Bd,f0 `([Ax,"range",[fg,[JX]]])),
(`Be,f4 λa b c d=>`(λB H Q=>∃(a:ai)($a:ident :$b),B=[V.ref a]/\[lP,$c]/\$d)),
(`Bf,f4 λa b c d=>`(match$a:term with|$b=>$c|[iU,$d]=>[iU,$d]|[aW]=>[aW])),
(`Bg,f2 λa b=>`(yz [jl,6,$a,[dc,[m,n0],[bw]],1] n0 P [ab] r line ws ht $b)),
(`Bh,f0 `([ny,ay s,λc=>[z9,97,122]])),
(`Bi,f0 `([aF,[d6,[X].cls,[bR,n],!(n=="list"),ae]])),
(`Bj,f2 λa b=>`([i4,[.ex [fJ,50,[aR,$a]],.put [lH] [aR,$a] $b]])),
(`Bk,f0 `([L,[48,49,50,51,52,53,54,55,56,57]])),
(`Bl,f1 λa=>`(@uT Nat _ t $a/\@uT Nat _ $a (t+1+fS.length))),
(`Bm,f0 `(S.aO.fresh (by simp))),
(`Bn,f0 `([[g0],j,[c6,G],q,I,[c6,r],[bk,[pv]]])),
(`Bp,f0 `([cD,6,.ix (.g 22) (.bG 13 [a4] 29 [])])),
(`Bq,f5 λa b c d e=>`(Em $a $b $c W B J (λs h=>by unfold$d:ident;rw[Hu,Er h $e]) λd=>[bx,d])),
(`Br,f0 `(I.laid [E7] (by simp) ?_)),
(`Bs,f1 λa=>`(λσ H Q#[env,O,S,r,F,$a,G,c,P,h]p n=>?_)),
(`Bt,f0 `(aa (.fM [fg,[fv T.tl,fv T.tc,[l0]]]))),
(`Bu,f0 `([fA,.new 13 [(.av [U] 31),[av]]])),
(`Bv,f3 λa b c=>`(.Assign [.Attribute (.Name $a _) $b _] (.Name $c _) _))]
def T3:L0:=[(`Bw,f0 `(cM (cp G S k) l)),
(`Bx,f0 `((tx [cH]==[48])||!([[c2]]==[48]))),
(`By,f0 `(.lv [h9] [gY])),
(`Bz,f0 `(λs H C z l=>vC hN L [J,U] [aC,U])),
(`C',f0 `(t.map λc=>[[c2]])),
(`C0,f2 λa b=>`([ap,[em,e,$a,S,[],pos],.b1 $b a])),
(`C1,f0 `([cw,[k9,a],Z b o z e])),
(`C2,f1 λa=>`(IS $a e pos.line X.env=bx af)),
(`C3,f0 `(T4 "Exception" BM sa i)),
(`C4,f1 λa=>`(λb J=>[f',[aB,b∈$a,J]])),
(`C5,f1 λa=>`(jM $a (aa [si]) S.line X.env)),
(`C6,f1 λa=>`(run prog [gW] _ [xw,$a] _=_)),
(`C7,f0 `(S.jC (by simp) [Bm])),
(`C8,f0 `(Ir.St S r line ws n)),
(`C9,f1 λa=>`(I.turned $a f0 f1 f3 f4 f5)),
(`CA,f4 λa b c d=>`([[eg,$a,[al]],[eg,$b,[U]],[eg,$c,$d]])),
(`CB,f0 `(I.base.free b o e n L)),
(`CC,f3 λa b c=>`([Fs,$a,m,apos,$b,X.env,$c,apos.atName,pl])),
(`CD,f2 λa b=>`(wT G (wD (vl T X.K Z E $a) $b) σ H Q)),
(`CE,f0 `([li]<=bS/\[wE,kvs,P,w])),
(`CF,f7 λa b c d e f g=>`(∃$a:ident j d$b:ident,$c=[lK,[d7,$a,$d]]/\ak $a j $e d $b n0 P/\r<$f/\r∉j.all/\j.nb=$g)),
(`CG,f4 λa b c d=>`(dI [la,[d5,[bw],$a,$b]] _ line _ _ (bN $a $c $d _))),
(`CH,f0 `(∀f,hU [lo,f] (mA f))),
(`CI,f0 `([dh,[r2]=aa o,b≠[gB]])),
(`CJ,f2 λa b=>`(∀{l}{B}{ns},([co])->$a=aa ns->B=$b)),
(`CK,f0 `([.ej 1 [en,114,[U]]])),
(`CL,f2 λa b=>`(N.toList=[S,br $a,λj=>da ($b +j)])),
(`CM,f1 λa=>`(λT=>by rw[sD,$a:term,hd];rfl)),
(`CN,f0 `(f _ _ q (a _ _ q [rX]))),
(`CO,f0 `([es,[ax,B]]/\[hg]/\[co])),
(`CP,f0 `([pE,[ib]]=[Fw,a,[b]])),
(`CQ,f2 λa b=>`(cp G S [an] $a=[S,cM [aF,[AP]] l,$b])),
(`CR,f3 λa b c=>`(#[[q,$a,q.it],[q,$b,q.vo],[q,$c,q.st]])),
(`CS,f0 `((kI n).toList=y5 _ n)),
(`CT,f3 λa b c=>`(.Subscript a (.Slice $a $b ag $c) pos)),
(`CU,f1 λa=>`([hC,st,pY [t0,$a,e] (lx i)])),
(`CV,f0 `(.UnaryOp .Not a pos)),
(`CW,f0 `(b.items.flatMap (iw b))),
(`CX,f6 λa b c d e f=>`(wU (Fa Jz $a $b $c $d (iZ $e js (fy $f)) J (Ce $f) U (fy $f) Y) hs)),
(`CY,f1 λa=>`(sx P w K mg base $a outer s H))]
def T4:L0:=[(`CZ,f0 `(λi=>bs.getD i af)),
(`C_,f0 `(λc q=>[bO])),
(`Ca,f0 `(["self","line","place","why"])),
(`Cb,f4 λa b c d=>`(∀a o,$a=[a9]->$b=[a9]\/$c=ag\/∃B,o=[bs,B]/\$d)),
(`Cc,f0 `(gl (gI b [g5] g.2) (t+1))),
(`Cd,f0 `(s.2.2 _ q _ (by simp))),
(`Ce,f2 λa b=>`(Uc (T:="StopIteration") (b:=ae) $a $b ?_)),
(`Cf,f2 λa b=>`(λz=>by have:=$a;rw[gE,z,$b:term,this])),
(`Cg,f2 λa b=>`(λs H C z l=>EC (X:=$a) L [J,U] hd $b)),
(`Ch,f0 `(s.heap.IsSliceOf sl z N [aZ])),
(`Ci,f0 `(ps ["desk","numbers","rows"])),
(`Cj,f1 λa=>`(wv [c4] X.A X.xe o4 Qf [jO] $a)),
(`Ck,f5 λa b c d e=>`(f_ (m:=[l']) I c1 s $a λ$b:ident r2 F2 H2 S2$c:ident a2 ny c2 j6$d:ident$e:ident=>?_)),
(`Cl,f0 `(B.toArray.zip vs.toArray)),
(`Cm,f2 λa b=>`(λσ H Q#[env,$a,S,r,F,c,P,$b]=>?_)),
(`Cn,f0 `(Ts b [H]/\cY [cC] [H]=[H])),
(`Co,f1 λa=>`(∀y,$a=.ok y->cV b [b4] (O+1))),
(`Cp,f1 λa=>`([S,br [cC],iF b ([h1].take $a)])),
(`Cq,f0 `(λi=>[A0,e7 c i,gN b i])),
(`Cr,f0 `([es,.dK e]/\[hg]/\[lg,e])),
(`Cs,f0 `([pW,"dict_items",[[m,d]]])),
(`Ct,f0 `((S.length,[ab]+1,[ab]+2))),
(`Cu,f1 λa=>`(tI [bJ] (λi j r F H S Q c h=>$a) z)),
(`Cv,f0 `(.ex (.bG 13 [a4] 34 []))),
(`Cw,f0 `([.app [av] [fJ,46,[av]]])),
(`Cx,f0 `(Uk "dict_itemiterator"=ae)),
(`Cy,f0 `(λn c=>10*n+(c-48))),
(`Cz,f0 `([5,6,7,8,10,11,12])),
(`D',f1 λa=>`(z.append (.cons $a [aA]))),
(`D0,f0 `(X.base.get? b=[a9])),
(`D1,f0 `(λs H C z l=>AF)),
(`D2,f0 `(A.deeper [t3,O])),
(`D3,f0 `(a _ (by simp))),
(`D4,f0 `(G _ (by simp))),
(`D5,f3 λa b c=>`(ve $a $b J (q7 _) [f] λσ H Q z=>$c)),
(`D6,f1 λa=>`(upd H1 A [W,ws.take $a])),
(`D7,f0 `(.aX 14 [(27,v)])),
(`D8,f0 `(#[[eO],H1,S,Y,q])),
(`D9,f0 `(.b1 .str [av])),
(`DA,f0 `(dP G.size G.size hi))]
def T5:L0:=[(`DB,f0 `(s'.heap.get? b=[a9])),
(`DC,f0 `(cV X.prog X.w H' h')),
(`DD,f0 `(f [sl] (.int j u))),
(`DE,f0 `(w (by rw[e5,ev]))),
(`DF,f1 λa=>`(z0.all [aF,xE $a [H] [X]])),
(`DG,f0 `(λ_ e=>nomatch e)),
(`DH,f0 `(λx=>a8 (nP b x))),
(`DI,f0 `(tx [cH]=[c2]::tx r)),
(`DJ,f0 `(λp q=>I.eH p [f])),
(`DK,f0 `(BA.lN ([rG]))),
(`DL,f1 λa=>`([d7,[pT,[S,$a,pD]],[bU]])),
(`DM,f1 λa=>`([S,Ir.fns[$a]?,(·.np)])),
(`DN,f0 `(.cb lo [dM,V.int])),
(`DO,f1 λa=>`($a=[kc]\/$a=aa [ec])),
(`DP,f0 `([iw,[dM,[aF,[nY]]]])),
(`DQ,f0 `(λc a L=>by simp)),
(`DR,f0 `(.Tuple vW kk t)),
(`DS,f1 λa=>`((q.map $a).getD [E])),
(`DT,f1 λa=>`(λy=>[fd,y,nm,v,$a])),
(`DU,f0 `(sw ([a_,ou]))),
(`DV,f0 `(b0.mpr #[g,a,Y])),
(`DW,f4 λa b c d=>`(uU "<lambda>" T.tq params $a scope $b $c c $d)),
(`DX,f0 `(.bG 13 [aK] 29 [])),
(`DY,f0 `(ak S A b nm st G P)),
(`DZ,f0 `(this _ (by simp))),
(`D_,f1 λa=>`([jx,[hf,b-a],[l,a+$a]])),
(`Da,f0 `([eu,ch,[A8,b]/\[AC]])),
(`Db,f2 λa b=>`(.Subscript (.Name x $a) ($b) d)),
(`Dc,f0 `(.Attribute e f pos)),
(`Dd,f3 λa b c=>`([ff,bo $a S,$a,bH x S,x,gu x $b $c S])),
(`De,f0 `([[b5],[b6],[b6],[b6]])),
(`Df,f0 `([119,105,116,104])),
(`Dg,f0 `(x.2 b (lo b o e))),
(`Dh,f0 `([[aK],[al],[U],[ai]])),
(`Di,f1 λa=>`(aE _ A.in1 ($a>>=_) _ _ s)),
(`Dj,f0 `(bB r0 F0 H0 r1 F1 H1)),
(`Dk,f0 `([w5,I.ok.vv x c G O])),
(`Dl,f1 λa=>`([b2,4,[[bq,[im]],[qB,$a]]])),
(`Dm,f0 `(e=x\/H e=aa [bl,x])),
(`Do,f1 λa=>`(H b=[hJ,$a]->H' b=[hJ,$a]))]
def T6:L0:=[(`Dp,f0 `(h r F H a c _ O P A)),
(`Dq,f0 `(cY [cC] [k1].taxes)),
(`Dr,f1 λa=>`([xk,$a].all=A.all++[$a])),
(`Ds,f1 λa=>`(Rw.sM (hO Y) (jU ($a)) [fp])),
(`Dt,f0 `(c9 (F7 _ _ _) U)),
(`Du,f0 `(ho _ s _ H _ I h)),
(`Dv,f2 λa b=>`([di,$a]=[ff,[oL],o,fV o S,l,$b])),
(`Dw,f0 `(tK s.heap x dx C mA)),
(`Dx,f0 `([Bb,([wI]:io),[ab]])),
(`Dy,f0 `(c3 _ (by simp))),
(`Dz,f0 `(X.bZ G H3 scope N W)),
(`E,f0 `(l.length)),
(`E',f1 λa=>`(λ(j:Nat)=>V.int $a)),
(`E0,f1 λa=>`(sH T X.K Z E [ve] $a)),
(`E1,f0 `(.ix [av] [iT])),
(`E2,f0 `(.add [U] [a7])),
(`E3,f0 `(jV _ [g] [g])),
(`E4,f0 `(.ix [av] [a7])),
(`E5,f0 `(λb u q=>[kD])),
(`E6,f0 `(BJ n _ _ q [g])),
(`E7,f0 `(λb ob q=>[kD])),
(`E8,f0 `(λnu n sb=>?_)),
(`E9,f0 `(yh _ _ _ i m u)),
(`EA,f1 λa=>`(qe (gq K (jp K 269) $a))),
(`EB,f0 `(.add [ai] [a7])),
(`EC,f0 `(bN 0 dy [bU] [dX])),
(`ED,f0 `(λ_ _ _=>False)),
(`EE,f0 `([iq,[ha,[k9,J]]])),
(`EF,f0 `([(iP "start",v)])),
(`EG,f0 `(A.frames=aa [gq])),
(`EH,f0 `(#[_,_,_,_,Y])),
(`EI,f0 `(own.getLast U)),
(`EJ,f0 `(lC hi hv hd gX)),
(`EK,f0 `(([BE]:M _) S=_)),
(`EL,f2 λa b=>`([rM,[je],ag,.seq $a $b,[ca]])),
(`EM,f0 `(k=[qO]\/k=[s7])),
(`EN,f0 `(l.lookup x=aa b)),
(`EO,f0 `([ez,ts,[jL]=af])),
(`EP,f1 λa=>`([A,i=0,[V],[ay,$a]])),
(`EQ,f1 λa=>`($a∉eo b/\$a∉d3 b))]
def T7:L0:=[(`ER,f2 λa b=>`([AW,[jT,K,$a,λd j x q=>$b]])),
(`ES,f0 `([[U],[ai],[av]])),
(`ET,f0 `([l9,[[sU],[b6]]])),
(`EU,f0 `(GG n (k+9) [d0])),
(`EV,f0 `([sD].lookup n)),
(`EW,f0 `([bR,"enumerate"])),
(`EX,f0 `([ay "line",[sQ]])),
(`EY,f0 `(#[m,g,d,t,os])),
(`EZ,f0 `(.Name x pos')),
(`E_,f0 `(λG=>by simp)),
(`Ea,f0 `(I.base.lP b _ e)),
(`Eb,f1 λa=>`(aE [c4] X.A [eR,$a] Q E s)),
(`Ec,f1 λa=>`(.ex 9 [d5,[dm],p,w] $a)),
(`Ed,f0 `(∃u,[iZ,e]=aa u)),
(`Ee,f0 `(h _ s _ H _ I W)),
(`Ef,f0 `(wpAny_loadPart' U)),
(`Eg,f0 `([fc,a.zip b,[nY]])),
(`Eh,f0 `([S,[f4,[t5]],tx])),
(`Ei,f0 `(b.rounding.isSome)),
(`Ej,f0 `(bB r1 F1 H0 r F H)),
(`Ek,f0 `(O b _ q λz=>z)),
(`El,f0 `(St S r line ws)),
(`Em,f0 `(D3 B c w W [fz] _)),
(`En,f1 λa=>`(-(2^64)<$a/\$a<2^64)),
(`Eo,f1 λa=>`([pR,∃c,x=[bh,c]/\$a])),
(`Ep,f0 `(.la [U] 31 [a7])),
(`Eq,f0 `(.la [aK] 24 [a7])),
(`Er,f0 `(λ_ _ z=>z.elim)),
(`Es,f0 `(hf it (by simp))),
(`Et,f0 `({A with az:=[rC]})),
(`Eu,f1 λa=>`($(a).2 b ([aD,J]))),
(`Ev,f1 λa=>`([bo,x.na $a (by simp)])),
(`Ew,f3 λa b c=>`($a=0\/tl r $b ([bb,2*$c]-d)=ae)),
(`Ex,f0 `([ay "in",ay "on"])),
(`Ey,f0 `(D.tup [[H],[X]])),
(`Ez,f0 `(di [ee] (dL.mp z))),
(`F0,f4 λa b c d=>`([zW,∃($a:ident :[cQ])(x:V),[lP,$a]/\[cS,$a],v,$b,∃T x,v=[m,T]/\H T=ag/\$b=[cu,T,[bi,[l,$c],x]]/\∀$a:ident,([lP,$a])->[cS,$a],∃$a:ident :[cQ],[lP,$a]/\$d<=i])),
(`F1,f1 λa=>`(∀G B,G.get? x=aa {ob with dict:=aa [c7]}->G.Ns1 [c7] [DT,ag]->([h3,x,[ks],G.get? b=[a9]])->Q $a #[G,g,d,B,os])),
(`F2,f0 `(cW [fh,1,[Hy]] [4] [oB] [[cn],[fG,[vB]],[ki],[ay,lo],h] S)),
(`F4,f3 λa b c=>`(#[$(a).Ca _,[L9],I.nm.add _ B s _ ($b) ?_,?_,[L8],?_,I.ge,[a3,jx [g5],jx [cP,$c],I.pr],I.sl,I.sv]))]
def T8:L0:=[(`F5,f4 λa b c d=>`([kP,D2 ($a) bt.gl bt.mg bt.bt (iZ h.pr (iZ J.pe js u) m) bt.nm bt.db m q,z,Lq $b (λi j r F H S Q c g=>#[i,j,Y,by have e:[A,$c,j,i]=$d :=[f];rw[Y,e,[lA,g]]]) z])),
(`F6,f1 λa=>`([zW,∃xs x,$a/\[cS,xs],x,H',H'=H/\∀xs,$a->[cS,xs],∃xs,$a/\[cE]<=i])),
(`F7,f7 λa b c d e f g=>`(I.step [Aw,$a,$a] [Ld] [BC,O] ($b) [Lo] ($c) ($d) (λb ps e=>#[[ca],$e]) (λ$f:ident U=>?_) (λb$g:ident e=>?_) I.bare)),
(`F8,f1 λa=>`([Jc,$a])),
(`F9,f1 λa=>`(#[$a,$a,$a])),
(`FB,f2 λa b=>`([cX,aZ (ju b h ($a)) m3,[tc],∃p w o,[B3,s4,s5]=.ex 9 [d5,[l,$b],p,w] o/\o.take G=X,[fX],∃I F d o,[B3,s4,s5]=[dz,[p9,[oR],I,F,d],o]/\HS o G X [R] [eC]])),
(`FC,f0 `(∃w E I F d u m i,jY [v7,cf (k+13),.lt [ai] [tB]] [fh,13,wL] fuel [[ty],[c6,0],[ki],[ay,q],P,Q,Z,W,S,T] [d0]=[dz,[[ty],[c6,0],[iX,[S,IG (IH Tc s a),D.int]],w,I,F,d,u,m,i],bw E])),
(`FF,f2 λa b=>`([B3,$a,$b])),
(`FH,f5 λa b c d e=>`(∃i H',ak (X.bZ $a H3 $b $c $d) [] [Aj] H' s'/\tn i [jG]/\[eu,$d,[iL]]/\S i $e H')),
(`FI,f3 λa b c=>`([jg,Fm (n'.or G0 Ew) L.pr $a $b,h,by have e:$c :=rfl;rw[aj,[eI,s,W,U,B,I,z,q],[il,B,s,W,I,z,[sp,n,N,A,G,j,f,hu]]];rw[aL,i,rfl,g2,u.fX,#[i,hu.ci,?_]];rw[bu,d,hd,g,al.kv j (q.step f) g2,Gr j hd g]])),
(`FJ,f6 λa b c d e f=>`([zW,∃($a:ident$b:ident :[cQ])(x y:V),[lP,$a]/\$c/\[cS,$a]/\[aY,$b,y],v,$d,∃T x y,v=[m,T]/\H T=ag/\$d=[cu,T,[ku]]/\(∀$a:ident,([lP,$a])->[cS,$a])/\∀$b:ident,$c->[aY,$b,y],∃$a:ident$b:ident :[cQ],[lP,$a]/\$c/\($e<=i\/$f<=i)])),
(`FK,f0 `([nX,xs,∃a p,∃ys:[h],[rc]/\xs=[[dp]]/\[x4,X.K,ys.map V.str]/\(ys.map (·.length)).sum+[mY]*a.length<=16777216/\Q [L,Jm a ys] H])),
(`FM,f0 `(∃i j l,Dp X.K H x [yb]/\Dp X.K H y (.list l)/\Di l=ae/\wx l<=8/\[iP,[A,neg,!(l.any λy=>uN y [yb]),l.any λy=>uN y [yb]]])),
(`FO,f0 `(cW [fh,8,[[yH],[bA,.gt [e6,[av]] [bd],[Kb]]]] [2,3] [IJ] [[c6,nb],.val a,r,Z,i] S)),
(`FQ,f0 `(∀(pins:[eJ])(s:aD)(σ:St)(H:Hp)(x:V)(xs:[cQ])(v:aq)(us:[dV])(Q:VK),([ac])->bC x v->([iI])->r x xs H Q->[hD,[sW,id,v::us],[ji]])),
(`FR,f0 `([[cD,9,[ig,17,[hv]]],[bA,.av [f7,9] 2,.j2 7 [hv] [ef,59,[ai],.mul (.add [f7,6] (.i6 [fT] (.av [f7,9] 3) [bd])) (.av [f7,9] 1),[fe,10000]]]])),
(`FS,f1 λa=>`([ff,[oL],o,fV o S,l,[eY,a,k,bo k S,k,[ff,[gT,place [E] k],j,[gT,l[j]?],x,[ff,bo x S,x,[ck,b],y,[bT,bo y S,y,[wb,[bl,[wa,[l,$a]]]]]]]]])),
(`FT,f0 `([[cD,6,[en,74,[a4]]],[pd,.kq [U],.lt [bi,[f7,6],[e6,[av]]] [bi,[tz],[e6,.ix [U] [iT]]],[dY,[bs,[[f7,6],[ai],[av]]]]]])),
(`FU,f1 λa=>`([wF,by show sB _ _=_;rw[a8,g.sc],[If],λ_=>$a,λ_=>g.cm hh,λ_ z=>by cases z,[u3],λ_ z=>by cases z])),
(`FV,f1 λa=>`([IA,C,z,u,[h],[h],S,$a])),
(`FW,f1 λa=>`([bT,[ao,[r7],R.ok (.nx [xd]) S,R.ok (.rt [l,$a +1]) S],f,vp [fh,1,qJ] [2] [l5,CM (p+1) G,i,[cz,[am,i]]] f S])),
(`FX,f0 `([fg,[[aZ],[mP],[m,d],.int 0 0,.int [fv] 0,.int ep 0,[aZ],[aZ]]])),
(`FY,f0 `([.hd 5 ag [nB,1],.hd 6 ag [nB,2],.hd 7 ag [nB,3],.hd 8 ag [nB,4],.hd 9 ag [nB,5],.hd 10 ag [nB,6],.hd 11 ag [nB,7],.hd 12 ag [nB,8]])),
(`FZ,f1 λa=>`([wb,[bl,$a]])),
(`Fa,f1 λa=>`({b with byLine:=aa $a})),
(`Fb,f3 λa b c=>`(oi fuel $a ([ad,seval,$b:term,$c:term]))),
(`Fc,f0 `(0<[am,c.least])),
(`Fd,f0 `([am,own.length])),
(`Fe,f0 `(b.byLine.isSome)),
(`Ff,f1 λa=>`([nU,fl (vB h hh) $a T])),
(`Fg,f0 `([[L,[hL]],[L,[s5]],[L,[mL]],[L,[ut]],[L,[g8]],[L,[us]],[L,[ur]],[L,[uu]],[L,[mD]],[L,[l_]],[L,[hF]],[L,[j0]],[L,[pJ]],[L,[qs]],[L,[p2]],[L,[xX]],[L,[i8]],[L,[ij]],[re],[L,[nT]],[L,[pY]]])),
(`Fh,f2 λa b=>`([D5,cH.or $a ($b),L,Af [bJ] (λx y r F H S v C Q c q W h=>by rcases KS h with⟨i,j,rfl,rfl,g⟩|⟨i,j,rfl,rfl,g⟩|⟨i,j,rfl,rfl,f1,f2,g⟩;{rw[a3,q.ci,W.ci,[J,#[Y,[q,A9,[dO,c,g,[eO]]]]]]};{rw[a3,q.fZ,W.fZ,[J,#[Y,[q,ML,[dO,c,g,[eO]]]]]]};{obtain⟨p,B,rfl,m,_,u⟩:=q;obtain⟨n,I,rfl,f,_,U⟩:=W;rw[ag,A,N,s,G,AX f1 u];rw[dG,P,O,d,w2,AX f2 U,[aC,#[_,_,.lst [cJ,[fk,m]] N,.lst [cJ,[fk,f]] O,s,d,[q,MJ G w2,[lA,g]]]]]}) z])),
(`Fj,f1 λa=>`(a_ T $a r F H S)),
(`Fk,f0 `([[hO,[hL],38],[hO,[105,116,101,109],39],[hO,[us],42],[hO,[ur],43],[hO,[uu],44],[hO,[l_],45],[hO,[Lw],47],[hO,[xX],49],[hO,[114,111,117,110,100],52],[hO,[ij],53],[hO,[jj],54]])),
(`Fn,f1 λa=>`([hN,[i5,"list_iterator",.fields $a]])),
(`Fo,f0 `([[e2,0,122,0,1],[e2,1,123,0,1],[e2,2,124,0,0],[e2,3,125,0,0],[e2,4,126,2,0],[e2,5,127,2,0],[e2,6,128,0,2],[e2,7,129,0,2],[e2,8,130,0,2],[e2,9,131,0,1],[e2,10,132,0,1],[e2,11,133,1,1],[e2,12,134,4,0],[e2,13,135,2,0],[e2,14,136,2,0],[e2,15,137,0,1],[e2,16,138,0,0],[e2,17,139,2,0],[e2,18,140,0,2],[e2,19,141,0,1]])),
(`Fp,f0 `([pW,"list_iterator",[AR]])),
(`Fr,f1 λa=>`(∀(k j:Nat)(s:aD)(x:aq)(c:Nat),n-[cT]=k->[cT]<=n->St [cT] s.heap->P (fb bt j) x->([bH,S,[EL,[fg,[x,x]],c]])->(∀v G tk,P (fb bt (n-1)) v->([dh,b∉wr,b≠S->([gk])->G.get? b=[a9]])->R [iy,v] [cR,G])->[o0,.builtin $a #[[[m,I],[aZ],[lY]],[uI]],s])),
(`Fs,f8 λa b c d e f g h=>`(aM [em,$a,$b,$c,$d,pos] $e=(do let$f←aM $a $e;pd $g;let(f,z)←iC [$f] (zf $f $b $h);zh pos f z (dE pos (bb $d $e)) (jh pos (ji [] $e))))),
(`Fu,f1 λa=>`($a +1+1+1+1+1+1))]
def T9:L0:=[(`Fw,f2 λa b=>`((af,[eR,$a])::bb $b X.env)),
(`Fx,f1 λa=>`(wO h λG r F H S B c e g=>by match G,e,g with|[d],e,g=>(cases d with|lst l=>rw[ac,v,ws,rfl,m,u,e.dO];rw[u.fY];rw[an,q,B,rfl,L,U,O,m];exact#[q,B,Y,[cJ,[fk,L]],al.pure c g ([a']) _ ($a)]|_=>rw[aN])|[],e,g=>rw[aN]|[_,_],e,g=>rw[aN]|[om],e,g=>rw[aN])),
(`Fy,f3 λa b c=>`([du,Pc hN z L U.pe $a f,Q,F0,o,O,c,by have t:[hQ,$b]=(do let d←[vp];let x←[eh,d];let G←Ir.ah Z J _;let y←[eh,G];[bZ,$c]):=rfl;rw[aO,d,hd,m,h.Ri,k,rfl,u,m.fX];rw[ac,xv,ex,v,rfl,q,P.slot hd];refine#[v,ex,f_ (m:=λ_=>[bZ,()]) a c P u λd b n H1 C w l I B s W g=>?_];rw[bu,j,rfl,g2,g.fX,#[k,j,q.ci,W.ci,g2 _ _ _ I B _ O (s.set Y) A.set]]])),
(`Fz,f0 `([.set 4 (.ix [aK] [ai]),.set 5 (.add [EB] [fr,142,[av]]),.set 6 (.kx [aK] [EB] [a4]),.set 7 [fi,145,[a4],[fr,143,[av]]],.set 8 [bX,144,[[al],[av],[cZ],[fT]]],.ei 2 [e6,[hv]],.ej 2 [hv],.set 3 (.add [a4] (.b1 .sum [de,.add [a7] [e6,[f7,9]],9,[fT]]))])),
(`G',f0 `(∃a o,y=[aL]/\pC H a x o/\[iP,[A,neg,! o.isSome,o.isSome]])),
(`G0,f1 λa=>`(.Call (.Name "enumerate" p) [$a] [#[aa "start",.Constant [l,1] j f,kp]] pos)),
(`G1,f1 λa=>`(∀v x tk,0<G.size->([aQ,G,fb [n2,$a] (G.size-1),v])->([mx,x.get? b])->Q v [cR,x])),
(`G2,f3 λa b c=>`(λi h=>uQ h z TI TO [aZ]/\kZ h TI [m,$a] [m,$b]/\(∃x y,kZ h TO x y)/\[ws,$a,a]/\$c)),
(`G3,f2 λa b=>`(∀{mq}{H'}{s'},ak $a [] mq H' s'->([eu,$b,[iL]])->[eu,$b,hG $a [] H' b])),
(`G4,f0 `(∀v u q x y H2,([c5,H2,q])->bC x v->([hz])->R x y H2->[gb,f v u,Q,q])),
(`G5,f1 λa=>`([iu,bN [s_] em n $a,G,[i',bN 0 dy n C,p,own++[{from_:=G,price:=p}]]])),
(`G6,f0 `([A,0<=i,[A,i<n,aa i.toNat,ag],[A,-[kL]<=i,aa [hf,i+n],ag]])),
(`G7,f0 `([cr,[g7,32,[[a7],(.ite (.eq [ai] [aR,[j0]]) (.g 16) (.g 15))]]])),
(`G8,f0 `([zJ].update x λo=>[rM,o.cls,aa [c7],o.data,o.slots])),
(`G9,f0 `([ev,N _ _ s _ H _ I h,us,F,B,H1,S,L,q,O _ _ _ _ _ _ Q S L q])),
(`GA,f0 `([nX,xs,∃a b,[rc]/\xs=[[L,b]]/\[bE,b.length,0]/\[bV]+2<=bS/\GW (zr a b) H Q])),
(`GB,f2 λa b=>`(∀{l}{B}{x}{j},$a->$b=aa j->(∀d,Ir.bK l x=aa d->[zQ,fP B j])/\(Ir.bK l x=ag->fP B j=ag))),
(`GC,f0 `([.j2 2 [ai] [fi,67,.ix [U] (.lX [ai] [zU]),[ig,20,.ix [ai] [zU]]]])),
(`GD,f2 λa b=>`(([qQ])->Q [jO] H'->s'.heap.Ns $a $b->hG X pins H' $a->wv [c4] X.A X.xe o4 Qf [jO] $a (.ok .next) s')),
(`GE,f0 `(λb ob J q=>[cw,sb.2 b [uW],hk b ob [uW] [uW] q])),
(`GF,f0 `(a9 (h _ _ s _ H _ I L) λus j#[xs,H1,S,r,z,q]=>#[[bB,r.length,z],?_])),
(`GG,f3 λa b c=>`(∀x dx,$a=ag->$b=ag->dx≠x->sp ([eA]::(B++dvs)) (upd $c x (.aX C dx [])) (λv H2=>v=[aX]/\Q [eA] H2) E)),
(`GH,f1 λa=>`([A,b.fresh=ae/\[m2],[bT,iI d S,c,[dz,e,(S++[c]).set $a (.aX k (dV l f [hd]))]],[aW]])),
(`GI,f2 λa b=>`([(0,[jb]),(4,[l,[ea]]),(5,[W,[v',nD]]),(6,[jd,mi [jF]]),(7,$a),(8,$b),(9,[vS])])),
(`GK,f1 λa=>`([d9,10,[[cD,1,.new 14 []],.own 2 [bF],[bq,[bd]],.lU (.lt [ai] [tB]) $a,[qh]]])),
(`GL,f1 λa=>`([cj,[AO],λσ H Q=>[ng,v,z,∃(a:ai)(ns:[a0]),v=[aL]/\bp X.K z a [jf]/\Q [l,$a] z]])),
(`GM,f0 `([v3,[bD],[[m3],[R],bJ [bD]]])),
(`GN,f0 `((G.toList.drop [u2]).take ([DA]-[u2]))),
(`GO,f0 `([DW,body,clos,(X.mg "__name__").getD [aZ],U])),
(`GP,f6 λa b c d e f=>`(ak ([dl,$a,[dv,$b ++[t],$c]].set A.aN [cc,cB nm [L,tx t.name] (k8 ($d,$e +1))]) A $f (cB nm [L,tx t.name] (k8 ($d,$e +1))) st n0 P)),
(`GQ,f0 `(jY [v7,[gc,4],[g7,28,[]]] [fh,4,[AN]] fuel [w9,[tY,[eE,nD]],j] [dk])),
(`GR,f3 λa b c=>`(InCallC s [ar] (si [t3,$a].kindOf $b [mW]) (fq [bL] [jk] []) (uJ [t3,$a].kindOf $b [mW]) $c)),
(`GS,f0 `([.ej 4 (.comp (.add [a4] [bs,[[cZ]]]) [6] 1 [(.add (.g 19) [a7])] [])])),
(`GT,f4 λa b c d=>`([A,qC (p+1) $a $b=0,∃s,$c=[dK,[[fG,[kn]],[fG,c.map sD],s]],$d=[iw,[l,qC (p+1) $a $b]]])),
(`GU,f0 `([jM,[AL]::x.volume.map λs=>[[qO],x.name,bJ [gr],bJ [ns]]])),
(`GV,f0 `([.iff [fJ,4,[a4]] [.ei 3 [bd]] [.ei 3 (.ix [U] [av]),.inc 4 [a7]]])),
(`GW,f0 `(∀{G:R D}{a c p},G=.ex 9 _ [cK,p]->∃x,G=[f8,a,c,x]/\x.take _=P)),
(`GX,f3 λa b c=>`([du,RL [EJ] hk.pe Lo he.pe $a El ha,Q,F0,H0,b,c,by have e1:[hQ,$b]=$c :=rfl;rw[fK]])),
(`GY,f0 `([li]<=bS/\[wd]/\∃xs,[vF]/\h.DictOfH (zb [m7]) a xs)),
(`GZ,f1 λa=>`($a&&l.closure.isEmpty&&AI l.defaults&&(l.builtins==pc)&&sj K l.code l.qualname))]
def T10:L0:=[(`G_,f2 λa b=>`(s'.os=s.os/\uz s'.gens/\Un (iQ outer) [] H H' s.heap [jG]/\cV P w H' [jG]/\$a/\$b)),
(`Ga,f0 `([.iff [fJ,78,[ai]] [[dY,.add [U] [kE,.add [av] [bs,[[ai]]],[4],[U],[[fi,77,[av],[ai]]]]]] []])),
(`Gb,f0 `(λI' hn b J=>#[hn b J,[M,I'.ok.sY b J],I'.ok.tL b J,[J,J],λx c e=>(I'.ok.sY b J).2 x c e,λp hp=>[f',[aB,p∈[]++[],hp]]])),
(`Gc,f1 λa=>`(([dh,[bH,b,o],$a->b∉iQ [sZ]->[ma,o]])->([dh,[bH,b,o],$a->[B0]])->[Al])),
(`Gd,f0 `([(0,[jb]),(11,[wD,x.share]),(12,[l,x.value]),(13,[l,x.item]),(14,[l,x.cap.getD 0]),(15,[l,x.least])])),
(`Ge,f0 `(∃a e k,y=[aL]/\x=kV k/\[LC,e]/\[iP,[A,neg,! [er,fP e k],[er,fP e k]]])),
(`Gf,f0 `(([h3,kS,b≠a,[l7,x.get? b]])->x.get? a=aa [jC,[hU,sr st],c]->P (.done [bj,[aZ]]) [ct,x])),
(`Gg,f0 `([.j2 7 [hv] [ef,59,[ai],.mul [al] (.av [ig,17,[hv]] 1),[a4]],.dec 6 (.ix [fT] [hv])])),
(`Gh,f3 λa b c=>`([ao,i8 x n $a,($b,$(c).2++[0]),($b +1,$(c).2++[[ao,[uZ],rK x [kC],qr x ($b +1)]])])),
(`Gi,f0 `([[fA,.add [yU] (.ix [aK] [al])],.ei 3 (.kx [aK] [yU] [a4]),[cD,1,[a4]]])),
(`Gj,f1 λa=>`(∀(E:XK)(xe:[el])(pn:[h]),gC [zR] E->([sr,xe])->([rD,X.ex,pn])->fQ [zR] body ($a))),
(`Gk,f2 λa b=>`(hk c o (λ$a:ident=>$b) (λ$a:ident=>[pP,$a]) (λ$a:ident=>[pP,$a]) (λ$a:ident=>[pP,$a]) q)),
(`Gl,f1 λa=>`([[bA,.ne (.kx [aK] [U] ($a)) (.kx [al] [U] ($a)),[b1,$a]]])),
(`Gm,f0 `([[fA,.ix [fi,69,[av],[ai]] [a7]],[ew,[6],[ai],[Lx]]])),
(`Gn,f0 `(jY [v7,[gc,5],[g7,28,[]]] [fh,5,[Cw]] fuel [wS] [d7,[qo],n])),
(`Go,f0 `(.ListComp (.Subscript (.Name x r) (.Constant [l,k] n P) p) [#[.Name x a,F,[],0]] e pos)),
(`Gp,f0 `(aZ (eX "cap" n ws) λx n ws=>aZ (eX "when" n ws) λy n ws=>[iK,[kO,nm,sh,v,i,mf x,y],ws])),
(`Gq,f3 λa b c=>`([k3,$a,$b,[ax,[rJ]]]=[A,jI b c=af,[kA,5],[cX,nO b w,ag,[kA,5],aa x,[A,gJ b (cy c) x=af,[kA,8],[Z,$c]]]])),
(`Gr,f3 λa b c=>`([ev,[td,I1,W],u,s2,y,H2,I2,$a,q2,a9 (ho _ _ _ _ x y v u _ I2 r1 $a q2) λd s3#[z,$b,S,$c,k,e,q]=>?_])),
(`Gs,f0 `([[fA,.mK (.add [av] [ai]) [iT]],.iff (.ge [fJ,75,[a4]] [U]) [[bq,[a4]]] [[cr,.add [a4] [a7]]]])),
(`Gt,f1 λa=>`([lQ,5,[[cr,[gj,.ix (.g 26) [al]]],.tr [[m1,[ax,[[bd]]],.ly [av] [[aK],[U],[ai]]]] $a]])),
(`Gu,f1 λa=>`(Dk [iM,Uf $a ["key","default"] 0 #[[],[uI]]=bx [ag,aa d]] [aJ,bg [aJ,sf U ?_]])),
(`Gv,f0 `([[pd,.not [fi,77,.lX [ai] [a4],[cZ]],.not [fi,78,[av],[cZ]],[sX,af]]])),
(`Gx,f0 `([[hO,[zf],105],[hO,[yd],106],[hO,[Df],107]])),
(`Gz,f1 λa=>`(λi h st c O=>by obtain⟨$a:ident,j,⟨x,y,n⟩,⟨o1,e1,_,d1⟩,⟨o2,e2,_,d2⟩⟩:=st;grind)),
(`H,f0 `(p.1)),
(`H',f0 `([fE]≠[ae,t]/\[fE]≠[aE,t]/\[ae,t]≠[aE,t])),
(`H0,f1 λa=>`(zv (uM (name:=iP "__next__") hT JD (sm JD hT ajY ($a) (ajZ _))))),
(`H1,f0 `([[aK],(.av [ai] 28),(.av [ai] 29),(.av [ai] 30)])),
(`H2,f2 λa b=>`(∀{l G:$a},l.Perm G->l.Pairwise $b->G.Pairwise $b->l=G)),
(`H3,f1 λa=>`(∀b C,H' b=aa C->H b=aa C\/($a/\c7 X.prog X.w H' h' b C))),
(`H4,f0 `(#[_,x,Y,[tA],Y,λys hy=>[q,I.vR hy hq,L]])),
(`H5,f3 λa b c=>`(∃l b xs zs,x=[hA]/\$a=$b/\[m9,l]/\H b=[ln,zs]/\[cE]+zs.length<=bS/\$c)),
(`H6,f4 λa b c d=>`(#[λ$a:ident$b:ident=>[q,$c,I.nm.get $a $b],[q,$d,I.nm.nd],λ$a:ident$b:ident=>I.nm.ok $a ($d▸$b),[q,$d,I.nm.len],I.nm.val])),
(`H7,f0 `(ao ([fK,i]<[fK,j])||([fK,i]==[fK,j]&&ao (j<i)))),
(`H8,f1 λa=>`(i=0\/i=1\/i=2\/i=3\/i=4\/i=5\/i=6\/i=7\/i=8\/$a)),
(`H9,f0 `(∃z,gc (E a) t (C x)=aa z/\b z S=[dK,E (f a x)])),
(`HA,f1 λa=>`(∃a C dx fs v,[gy,H1 a=[nV],kl K C/\oB K C f/\[lo,f]=[cV]/\$a])),
(`HB,f1 λa=>`([o0,.builtin "list.extend.loop" #[[[lY],$a,X],[]],[cR,h]])),
(`HC,f1 λa=>`([d3,∃d e,Dp K H x d/\Dp K H y e/\zo d=ae/\zo e=ae/\[iP,$a]]))]
def T11:L0:=[(`HD,f2 λa b=>`([bT,bD (eQ l) S,rs,[A,n=$a/\[fM]<64,[Z,[dv,iG rs,λ(j:Nat)=>$b]],[aW]]])),
(`HE,f1 λa=>`(∀y∈[("__getattribute__":au),"__getattr__",f],gq $a N y=aa ag)),
(`HF,f1 λa=>`([cv,3,[.cT [2] 1 [(.b2 .max [tB] [rk])] $a,[bj,[bd]]]])),
(`HG,f0 `(λj C m=>by rw[aJ,i=j];rw[ay];{rw[gk q]at m;grind})),
(`HH,f0 `([mb,[rk],[bq,.add [gj,.ix [al] [zU]] [a7]]])),
(`HI,f1 λa=>`([ff,bo x S,k,bD (place [E] k) S,j,[dz,e,[dl,$a,[wa,d]]]])),
(`HJ,f0 `([[mb,[a4],.ei 3 [bi,[av],[bX,3,[[ig,18,[av]],[a4]]]]]])),
(`HK,f1 λa=>`([ff,gv e i S,x,bo x S,x,[eY,a,y,bo y S,y,[wb,[ay,$a]]]])),
(`HL,f0 `([c5,H',{s with heap:=h',gens:=W,drawn:=d',toks:=t'}])),
(`HM,f0 `([mi,y]=aa [ec]/\[DO,gG.kindOf y])),
(`HN,f1 λa=>`(#["str",_,ajA,slot,ty,C8 _ _ _,[DG],zl Y ($a)])),
(`HO,f1 λa=>`(FW L J I h λv u$a:ident x y H2 S G N q=>z _ _ _ _ x y v u Q S G N q)),
(`HP,f5 λa b c d e=>`(aE [g6] A.in1 ($a) (λ$b:ident$c:ident=>[cX,$b,.done f,R (.ok f) $c,.again $d,$e=ae/\[o0,$d,$c]]) (λe$c:ident=>R [kT] $c) s)),
(`HQ,f2 λa b=>`([qr,let#[#[S,$a],hi,$b]:=st;#[#[S,k e (by simp) _ $a],hi.at [ub,it],$b]])),
(`HR,f1 λa=>`(show False by(have:[qi,$a]=[aW]:=by(rw[wU]));rw[af,this,h,h])),
(`HS,f3 λa b c=>`(∀(j:Nat)(k:[iE])(v:V)(q:ai),([cb,$a,(k,v)])->([cb,$b,q])->$c=[og]/\k.length<=bS)),
(`HT,f0 `([H]=[db]/\H [ae,q]=[hJ,[S,[H],kV]]/\bC [X] [aE,q])),
(`HU,f0 `([.ej 7 [ax,[[hv],(.ix (.ix [cZ] [a7]) [hv])]]])),
(`HV,f2 λa b=>`(∀k,k<[gI]->fb [n2,$a] k<=k/\[md,fb [n2,$a] k]=$b)),
(`HW,f2 λa b=>`([jJ,[X],[rg],[A,$a,[dz,e,[dl,[H],.aX k (dV l f $b)]],[aW]]])),
(`HX,f1 λa=>`([b2,4,[[xo,89],[bj,[rd,$a,[bX,93,[[im],[rf]]]]]]])),
(`HY,f2 λa b=>`([iu,eX "cap" $a $b,c,[i',eX "when" n C,y,[jW,[kO,[R],sh,v,i,mf c,y]]]])),
(`HZ,f1 λa=>`(λx L=>by have:=ck.mp $a x L;rw[aH,b3,this];exact [m'])),
(`H_,f2 λa b=>`(λj d e=>by rcases kj e with⟨rfl,_,_⟩|⟨_,e⟩;rw[av,$a:term,$b:term])),
(`Ha,f0 `([[fA,[en,3,[av]]],.iff (.lt [a4] [ai]) [[dY,[av]],[bq,[a4]]] []])),
(`Hb,f1 λa=>`(cW [fh,1,qJ] [2] [l5,CM p G,i,D.int $a] [[fG,[f4,sD]],[fG,c.map sD],z] S)),
(`Hc,f0 `([(0,[jb]),(1,[l,x.rate]),(2,[bh,! x.within]),(3,[l,x.over])])),
(`Hd,f1 λa=>`(#[w.nt,$a,w.nb,w.nc,w.rate,w.qN,w.over,?_,?_,?_,w.apart,w.ro,w.ca])),
(`He,f1 λa=>`(λy hy e=>[d_,ok.free y hy e,k,k,I.ok.has _ [J,k],I.ok.has _ $a])),
(`Hf,f2 λa b=>`(λx L=>by rw[M,y,q,rfl,b0.mp L];have:=lA.mp ($(a).2 y q);have e:$b :=rfl;omega)),
(`Hg,f0 `([yZ,B,∃q,k=[jP]/\H q=aa [ir,0-[fK,j],j]])),
(`Hh,f2 λa b=>`(bB r F H j Q z->bB r0 F0 H0 j Q z->a_ T X.K j Q z p->cJ T X.K j Q z σ env O->$a->$b)),
(`Hi,f0 `(h r F _ [bl,n] [xn] p n [rl] (c.hx n) #[[],bW,[f6],by rfl])),
(`Hj,f1 λa=>`(λi h st b J=>by obtain⟨⟨S,$a:ident⟩,⟨o,ho,O,hd⟩,_⟩:=st;grind)),
(`Hk,f0 `([pd,.eq [e6,[av]] [bd],.oj [gj,[av]] (.g 22),.brk])),
(`Hl,f0 `(λa b=>let z:=g.lam a b;#[z.code,z.blt,z.gP,z.qual,z.room])),
(`Hm,f1 λa=>`([[dv,iU [cG] $a,[mc]],[vo],[W,[j9,eh]],[W,[ol,pD]],[cc,st]])),
(`Hn,f0 `(T.keep _ _ _ v1 λb _ o e=>[bB,HB,Da _ _ _ _ [gQ]])),
(`Ho,f0 `(k b o (λz=>O (by simp[z])) e)),
(`Hp,f1 λa=>`(λD cls W H=>∃j y h,cls=[m,j]/\XC K j y h/\[A,j=C,$a,l D cls W H]))]
def T12:L0:=[(`Hq,f0 `(Fx X A (envX T.tq scope [ar] f [l0] [ra]) [p,x] s H)),
(`Hr,f0 `(tQ.all [aF,[gX,Ir.dH[[X]]?,aa [jE],B4 T0 K [H] l]])),
(`Hs,f4 λa b c d=>`(m5 $a w K (.Tuple vW kk $b) ($c) [e,it] e (λi h=>(∃S,Dd h e it $d S)/\[ws,it,a]/\e≠it))),
(`Ht,f2 λa b=>`(dG nD (λw=>[cz,[bb,$a]]) ws (λi O=>[au,seval,nD,jB whole i _ [g],$b:term]))),
(`Hu,f0 `(aa (iV i N (nm,qn,bs,sn,sub,ab,col,j) (k0,k1,k2,k3,Z)))),
(`Hv,f0 `([Et].all.Perm [K6])),
(`Hw,f0 `([hD,[eR,a],λv W=>[gb,[eR,b],λu S=>[gb,f v u,Q,S],W]])),
(`Hx,f2 λa b=>`(C5 I.ok.mod.tj $a [ev,G _ _ s _ H _ I h,us,$b,B,H1,S,r,q,#[S.dY,?_]] z U)),
(`Hy,f0 `([.ei 2 [ef,86,[av],[ai],[jV,20]],[bq,.add [av] [a7]]])),
(`Hz,f0 `(#[p,B,Y,bW,U,[m8,[f],λa o e=>[nh,e],h]])),
(`I',f1 λa=>`([bD]*aH [fc,[R].parts.filter [aF,[H]==$a],[X]])),
(`I0,f0 `(.ListComp l [#[tg,F,d_,0]] c8 pos)),
(`I1,f2 λa b=>`(RM $a λN σ H#[r0,F0,H0,env,O,S,r,F,a,c,P,A,h]=>$b)),
(`I2,f2 λa b=>`(PE X $a [fl,$b]/\[uB,$a,$b])),
(`I3,f0 `(FU.all [aF,Ak T0 K [H].1 [H].2 [X]])),
(`I4,f3 λa b c=>`([b2,3,[.ex [bX,104,[[U],[fi,37,[U],[aR,$a]],[bW,$b],(.g $c)]]]])),
(`I5,f1 λa=>`(∃q z,gc e t (C x)=aa q/\b q S=[dK,z]/\E $a z)),
(`I6,f6 λa b c d e f=>`(#[[q,$a,$b],[q,$a,$c],[q,$a,$d],[q,$a,$e],$f])),
(`I7,f0 `(λpins st σ H N I z=>h _ _ _ H N I [u1])),
(`I8,f0 `([ao,c.share,[uG,base*c.value],c.value])),
(`I9,f1 λa=>`(λT=>by rw[KN _ _ _ [g] ([bC]),<-yZ,g2,<-Cy,[ge,q+1+$a-(q+1)=$a]])),
(`IA,f7 λa b c d e f g=>`(∀(s:aD)(H:Hp)($a:ident :ai)($b:ident :[fw,ai])($c:ident :$d)(xe:[el])(pn:$e),([rD,$c,pn])->gC [xl,$f,$b,$a,$c] E->PE [xl,$f,$b,$a,$c] l $g)),
(`IB,f0 `((I.aO b u e).jT [BB] (by simp) (by simp))),
(`IC,f0 `([.aX 1 (ee x ([ab]+1) ([ab]+2)),[bF],[bF]])),
(`ID,f3 λa b c=>`([ao,cn $a ws,aZ (bN 1 dy [aw] [iY]) λx G r=>.ok ($b,G,r),[iK,$c,ws]])),
(`IE,f0 `([A,5<=k/\k<=12,ag,Ir.vN[k]?].bind BX)),
(`IF,f0 `([A,Z.ar f=n,[bT,k S,y,Z.call f y S],[aW]])),
(`IG,f4 λa b c d=>`(s5.extBut _ _ $a (s4.extBut _ _ $b (Z.extBut _ _ $a (N.extBut _ _ $c $d))))),
(`IH,f0 `(y.2=[ec]->∃c,env.cells.lookup [b4]=aa c)),
(`IJ,f0 `([fc,l.zipIdx n,D.tup [[l,[X]+1],sD [H]]])),
(`IK,f1 λa=>`([kW,xs,[cE]<=bS/\∀p,H1 p=ag->Q [dp] (upd H1 p $a)])),
(`IL,f0 `(.sub [cZ] [a7])),
(`IN,f1 λa=>`([vL,[mj,$a]]=[uC (.Subscript $a k t) X.env])),
(`IO,f4 λa b c d=>`(#[c.len,c.nd,[zF],$a,λ$b:ident k a m u=>(c.rep $b k a m u).step [f] $c [dw],$d])),
(`IP,f2 λa b=>`([cv,3,[[mm,40],.ex [ef,41,[al],.av [U] $a,.av [U] $b]]])),
(`IQ,f0 `(ns.take ([an]+1)=ns.take [an]++[[md,[an]]])),
(`IR,f0 `(cW [fh,6,l_] [3] [aS,sD] [p9,X,W,O,Z] S)),
(`IS,f1 λa=>`([A,[jq]/\[lr],[dz,e,[dl,$a,[cc,cB l x d]]],[aW]])),
(`IT,f2 λa b=>`(([hm])->([sv,x])->aG T X.K r F y C->([hK,X.K,f x y S,$a,e,q])->$b)),
(`IU,f2 λa b=>`([oi,.and (.le [tB] [fe,8]) (.and (.b1 $a [aK]) ($b))]))]
def T13:L0:=[(`IV,f0 `(aW (λz=>by rw[z,h]at q;rw[aT,q,U]))),
(`IW,f0 `(B.update S (lJ (·.push (da h.objs.size))))),
(`IX,f0 `(#[r0,F0,H0,env,O,B,j,q,I,e,s,A,g2])),
(`IY,f1 λa=>`(jl [nq] [eX,t] [L,[$a]] S=[Z,[dv,eW $a t,sD]])),
(`IZ,f0 `(ao ([b4]∈own.map (·.1))||ao ([b4]∉N))),
(`I_,f2 λa b=>`((∃o,$a=[a9]/\o.cls=[bR,"StopIteration"])->E [m,e] [ct,$b])),
(`Ia,f0 `(o.data=.seq az n/\az.size<=bS/\bq xs az.toList)),
(`Ib,f7 λa b c d e f g=>`(ak ((List.set $a $b (aP.lst $c)).set A.aN (aP.aU (cB nm [jb] (k8 ($d,$e +1))))) $f $g (cB nm [jb] (k8 ($d,$e +1))) st n0 P)),
(`Ic,f4 λa b c d=>`({X with eD:=s,sA:=H,env:=G,outer:=X.stack,ex:=$a,fn:=λx=>$b==[kc],pn:=$c,xe:=$d})),
(`Id,f2 λa b=>`(∀{P:[h]}{B}{i:Nat}{m},P.Nodup->([cS,P])->([aY,B,v])->$a->$b=[cV])),
(`If,f0 `(λ_ f np h=>let z:=g.fx hh f _ h;#[z.ex,z.kp])),
(`Ig,f1 λa=>`([d3,∃p xs i v,x=[dp]/\y=[aP]/\$a/\oY xs i=[cV]/\Q v H])),
(`Ih,f1 λa=>`(#[2,7,ae,[[dY,.new 15 [[aK]]],[ew,[3],[al],$a],[qh]]])),
(`Ii,f2 λa b=>`(C.get? [ar]=aa $a->C.objs.size=[bL]->([dh,b≠it,[l7,C.get? b]])->$b)),
(`Ij,f1 λa=>`(T.done $a Y Y Y O i [] s5 _ H5 [qb] I5 (nz I5 n5) qp stop)),
(`Ik,f0 `([.j2 3 [av] (.add (.i6 [ai] [av] [bd]) [a4])])),
(`Il,f1 λa=>`([cX,[dr],x::_,[ao,$a,[bc,sD x,[cK,[aw]]],[w1]],[],[w1]])),
(`Im,f0 `(.xd (xT "line" "place" "why" [aP] [c0] [l,k]))),
(`In,f1 λa=>`(λa e q z T=>[aU,dG $a _ _ (λx _=>by rfl),Qx])),
(`Io,f2 λa b=>`(λ(n,k)=>[A,k==$a&&sc.kind==[kj]&&[n6,n]==[kc],(n,$b),(n,k)])),
(`Ip,f2 λa b=>`(wy [aJ,fu $a Y (x:=[m,TO]) Y [aJ,n8 $a (by simp) λha T$b:ident=>[hV]]])),
(`Iq,f0 `([ao,pre S _,acc::gx S _ _ r,gx S 0 _ r]=_)),
(`Ir,f2 λa b=>`(fj ([dn]+1) [t',[R],[b4],$a,0] Y Y $b [f6] (λh=>[c8,Y,h]))),
(`Is,f1 λa=>`(#[[aX],_,I.D1 O e (by simp) (r.append $a) ?_,Y,q])),
(`It,f0 `([bA,.ge [rk] (.g 14),[rA,[aK],27,9]])),
(`Iv,f0 `(jZ #[run P n,P.init,P.fA,P.fuel,P.ar] F l)),
(`Iw,f0 `(G.size=0->∀x tk,([mx,x.get? b])->Q d [cR,x])),
(`Iy,f1 λa=>`(λxs H Q=>∃i j,xs=[[aP],[c0]]/\Q [l,[A,$a,j,i]] H)),
(`Iz,f0 `(.app [a6,17] (.lO 0 [[U],[ai],[av],[a4]]))),
(`J,f1 λa=>`(.inl $a)),
(`J',f1 λa=>`([qw,.set i _]=(do let d←Ir.jm $a _;[gf]))),
(`J0,f0 `([k4,X.K,r0,F0,H0,([bt,J]>>=f) S])),
(`J1,f0 `(eC [eX,[cH]] [iW] S=[Z,[L,[[c2]]]])),
(`J2,f0 `(λx=>[A,[bD]=0,[],rM b [R] [bD]])),
(`J3,f2 λa b=>`(ajG (ajH (qc g.inv $a $b ?_ hd)) (by intro z;cases z))),
(`J4,f0 `(#[c.nd,by simp,λb J l L e=>?_])),
(`J5,f0 `(#[[bK],H,[hl],#[s.toks+1,[f]],q])),
(`J6,f0 `(∃o,[gk]/\∀v,o.data≠.cell v)),
(`J7,f0 `([A,[H]=f,(f,v)::r,p::dV r f v])),
(`J8,f2 λa b=>`(match f with|.nx $a=>$b|.bk $a=>[dK,$a]|.rt x=>[iw,x]))]
def T14:L0:=[(`J9,f1 λa=>`(∀i,(S++$a)[[ab]+i]?=($a)[i]?)),
(`JA,f0 `(∀e,fQ [mZ] (s::A) (l7 T X.K Z EF b))),
(`JB,f0 `((l.any [qn,x])=B.any [aF,ao ([H]=j)])),
(`JC,f0 `(.app [al] [bi,[av],[p7,[bd],.g 15]])),
(`JD,f0 `(λa=>D.tup [tD a,[iV,mT b [gd] a]])),
(`JE,f1 λa=>`(let#[m,u]:=$a;#[#[m,u.pt,m7 m [f]],λ_=>u])),
(`JF,f0 `([[ga]+4,[ga]+2,[ga]+3,[ga],[ga]+1])),
(`JG,f1 λa=>`(g σ H λx e=>∃d o B,x=[m,d]/\e d=[ue]/\$a)),
(`JH,f0 `([[mb,[fT],.ej 3 [fi,63,[cZ],[fT]]]])),
(`JI,f0 `(∀l:[ke],[Q,l.flatMap [AU]]=[E]*2)),
(`JK,f0 `(∀c,t.cap=aa c->[eS,c,10000000])),
(`JL,f0 `([[b_,bk],[oH],[b_,q],[ki],h,j,[V]])),
(`JM,f1 λa=>`(#[Y,I.turned (t':=s.toks) $a f0 f1 f3 f4 f5])),
(`JN,f0 `(noStar a&&rh B&&c.bt S r "enumerate")),
(`JO,f1 λa=>`([nU,gu [rP] (aa [bb,q+1]) (aa [bb,q+1+$a]) T])),
(`JP,f1 λa=>`(λA i s Q E st h=>let#[#[_,$a],_]:=st;Ji $a h)),
(`JQ,f1 λa=>`([S,b.bundles.zip A.bs,$a]++[hK [wI] (aa [ab])])),
(`JR,f0 `(λa e=>[aT,e,#[o,f,[ae,L]]])),
(`JS,f0 `(λh' tk k=>#[_,H,I.kept k,?_,q])),
(`JT,f3 λa b c=>`(∀a e q z T,eJ (turn (cf k) $a [$b] [] [a,e,q,z]) _ T=[bc,$c,T])),
(`JU,f0 `(aa ((e.set i [b_,x]).set j [b_,y]))),
(`JV,f1 λa=>`([uV,h,ajp #[[dP],_,[uE,[uh],$a],Y,h _ [mr]]])),
(`JW,f0 `([bi,.sub [bd] (.ix [al] [aK]),[aK]])),
(`JX,f0 `([.int lo t,.int hi u,.int 1 v])),
(`JY,f3 λa b c=>`(Rd H a $a\/∃(o:bn)(az:[lw])(n:Nat),[e9,a]=[a9]/\o.cls=$b/\$c)),
(`JZ,f0 `(up b (cy c) [l4,x.uses,x.coupons])),
(`J_,f1 λa=>`(#[_,Y,ajw (s:=[ct,$a]) z' λnu HL sb=>?_])),
(`Ja,f3 λa b c=>`([bA,.pU [fe,$a] [aK] [fe,$b],[b1,.ix (.g $c) (.sub [aK] [fe,$a])]])),
(`Jb,f0 `(x.volume.length<=5/\x.steps.length<=5)),
(`Jc,f1 λa=>`(λl Q q p u=>U l Q q p λb o z a e=>u b o z a $a)),
(`Jd,f0 `([bA,[g7,33,[[aR,[mD]]]],[fA,[qx,[g8]]]])),
(`Je,f2 λa b=>`([aB,c7 X.prog X.w H s.heap $a (.ext _),I.aO $a _ $b].1)),
(`Jf,f0 `([A,[jq]/\[js,D.atom],[ce,j1 x l],bad])),
(`Jg,f0 `(((zu ..).extBut.push _).push _)),
(`Ji,f0 `([pE,[ib]]=[(af,[eR,a]),(af,[eR,b])])),
(`Jj,f0 `(∀a o,([jQ])->a≠T.tab->H' a=[a9])),
(`Jk,f0 `(a9 (J _ s _ H Q I h) λc j e=>?_)),
(`Jl,f0 `(upd [cu,c,.ext j] P (.fM (ps++B)))),
(`Jm,f0 `(Builtin.«zip.__next__» #[[[m,z]],[]])),
(`Jn,f0 `(λt' k=>#[[dD],H,I.tok k,#[t',Y],h]))]
def T15:L0:=[(`Jo,f0 `(∀i v,([aY,G,v])->∃t,v=pb (val i) t)),
(`Jp,f1 λa=>`(sK (d1:=$a) v f G A B #[_,bW,?_,q.put u y] g2)),
(`Jq,f0 `(nY (oX I b.gl b.mg b.bt ?_ b.nm b.db))),
(`Jr,f0 `(λ(m:Nat)=>xs[[hf,i+[am,m]*1]]?)),
(`Js,f0 `(.Tuple [.Name x _,.Name y _] _ _)),
(`Jt,f2 λa b=>`(($a).Pairwise (lp rs)/\($a).Perm $b)),
(`Jv,f1 λa=>`(let [ip,O,a]:=h;#[env,O,S,r,F,_,$a,c,P,a])),
(`Jw,f0 `(λb u e z=>[aq,[M,W b z],e,e])),
(`Jy,f0 `([A,v<0,[hf,v+[kL]],el v.toNat n])),
(`Jz,f0 `(tR (line:=line) (ws:=ws) (n:=n) hr)),
(`K,f2 λa b=>`(pg $a (.fn $b))),
(`K',f0 `(.Compare a [j,n] [b,c] pos)),
(`K0,f0 `([gn,S[n]?,c,[Z,(n,c)],[aW]])),
(`K1,f1 λa=>`(Kg he.pe (Oo $a hk.pe (RP hu) ha) hs W m)),
(`K2,f1 λa=>`(((eo b).zip $a).filterMap λx=>[GM])),
(`K3,f0 `(∀name,IV name j=aa (mA name))),
(`K4,f0 `(λz=>[aE,j c z].1 x c e Y)),
(`K5,f2 λa b=>`([[cn],[ja],[fG,[jr]],[fG,[f4,nD]],[lq,[gd],pD],$a,$b])),
(`K6,f0 `(A.all++[[ab],[ab]+1,[ab]+2])),
(`K7,f0 `(hJ r2 F2 H2 a2.pre a2.fr c2.sub)),
(`K8,f0 `(λO=>z x L x (by simp[O]) Y)),
(`K9,f1 λa=>`(zn Jn (C8 _ _ _) TX (TY _ _) $a ?_)),
(`KA,f1 λa=>`([A,x=c,[]::$a,[ya,$a,[x],x::w]])),
(`KB,f0 `(g _ _ _ I B _ O (s.set q) A.set)),
(`KC,f0 `(λv I=>(mv.mp nd).1 [M,j9 I])),
(`KD,f0 `(s.heap.IsCell c v->h'.IsCell c v)),
(`KE,f2 λa b=>`(∀(i j:Int)(t u:iz)(s:aD)(Q:[el])(E:[el]),$a->$b)),
(`KF,f1 λa=>`(∀b,b≠T->[ss,T,Jo $a].get? b=[wv,b])),
(`KG,f0 `([a8 [AL]]++x.volume.map [s9,[qO]])),
(`KI,f0 `([jS,λx L q N#[B,j,z,m]=>?_])),
(`KJ,f1 λa=>`([A,[lr],[dz,e,[dl,$a,[W,l++[d]]]],[aW]])),
(`KK,f1 λa=>`(Q8 (X:=$a) HD HF HG HE λs11 HH=>fj HH nx)),
(`KL,f1 λa=>`(I.bk.St (line:=line) (ws:=ws) (n:=$a) hra)),
(`KM,f1 λa=>`(Q [fq] [ct,[hN,[i5,"tuple",.seq [hc,$a]]]])),
(`KN,f2 λa b=>`([hH,$a,[nj,b],y,[ff,bH y S,y,gy x y S,r,[dT,$b]]])),
(`KO,f0 `(kn (AA X.K) (En i) (tC [l,k]))),
(`KP,f0 `(λs o=>by cases o<;>simp[jb])),
(`KR,f0 `(Qh U.isList λS N st j=>?_)),
(`KS,f0 `(bK _ [L,[i8]]=b.rounding.map _)),
(`KT,f1 λa=>`((x,c)∈$a->(y,c)∈$a->x=y))]
def T16:L0:=[(`KU,f0 `({D with nx:=N,ct:=N,bk:=D.nx})),
(`KV,f0 `(aa (T,d.elim [aZ] λf=>fv f))),
(`KW,f1 λa=>`(.Compare a [$a] [.Constant [aZ] j f] pos)),
(`KX,f0 `(λx=>Gm x ag _ (by simp))),
(`KY,f0 `([cX,G S,.ex _ _ _,[aW],r,r])),
(`KZ,f0 `([A,x=y,lexLt xs ys,ao (x<y)])),
(`Ka,f0 `(ajl yM (T.self X.A 0 _ _ _ yL yM))),
(`Kb,f0 `(.ex [en,55,.new 13 [[U],[av]]])),
(`Kc,f0 `([hb][i]?=ag\/ql.toArray[i]?=ag)),
(`Kd,f0 `({[os]with free:=aa (f.1,G.1)})),
(`Ke,f0 `(λh' n=>#[Y,[tQ,o,e,n b o J e]])),
(`Kf,f0 `(λh' G=>#[Y,[tQ,o,e,G b o J e]])),
(`Kg,f0 `(c9 (mn _ _ 100000000000 ?_) ?_)),
(`Kh,f1 λa=>`(b9 (xy (pos:=pos) (BR hu $a) x.pe J.pr q) st)),
(`Ki,f4 λa b c d=>`(#[Y,I.BP (t':=s.toks) (ch:=[z,TI,TO,$a,$b]) (λc o J q=>[Gk,$c,$d]) hf])),
(`Kj,f0 `(a9 [r6] λc j#[H1,S,q]=>?_)),
(`Kk,f0 `(a9 [uk] λd j#[H1,S,q]=>?_)),
(`Kl,f0 `([xG].push [kU,[hc,([]:[dV])]])),
(`Km,f5 λa b c d e=>`(∀($a:ident :$b)(pins:[eJ])(s:aD)(σ:St)(H:Hp)(Q:$c->[dL]),([ac])->t σ H Q->[hD,$d,$e])),
(`Kn,f0 `(.ListComp l [#[a,F,d,0]] f pos)),
(`Ko,f2 λa b=>`(λN cls W H#[c,B,Q,$a,$b,r,F,S,e,a,G,x,h]=>?_)),
(`Kp,f1 λa=>`(∀(s:aD)(H:Hp)(iJ:ai)(cl:[fw,ai])(fp:[ba]),$a)),
(`Kq,f0 `([[cr,[fi,67,[av],[ig,20,[a4]]]]])),
(`Kr,f3 λa b c=>`([gX,[e9,$a],aa #[_,_,.func l,_],[gX,l.body,.stmts $b,$c]])),
(`Ks,f0 `([ao,x.atom,[ce,[er,bK l x]],bad])),
(`Kt,f0 `(∀x,T_ it s.heap x->Q ag [ct,x])),
(`Ku,f0 `([eE,[aF,[A,[H]=j,([H],v),p]]])),
(`Kv,f0 `(Walks prog w A.in1 I fp wr n P St)),
(`Kw,f0 `([cW,5,28,[[bw]],[d7,[qo],n]]=_)),
(`Kx,f0 `(λn a e=>y.pre n a (x.pre n a e))),
(`Ky,f0 `(c_ b=d4 b++([dt]++(eo b++d3 b)))),
(`Kz,f3 λa b c=>`([gb,comprehension $a $b X.env $c (newList []) af [eR,F] o4,Qf,s])),
(`L,f1 λa=>`(.str $a)),
(`L',f0 `(y.extBut q.extBut D.l1z)),
(`L0,f1 λa=>`(g.bt z $a ([ah]) ([ah]))),
(`L1,f0 `([iq,O b o J [ha,u.2 b J]])),
(`L2,f0 `(Dh "object.__getattribute__")),
(`L3,f0 `([5,6,7,8,9,10,11,12])),
(`L4,f1 λa=>`(∀S s',([c5,H,s'])->bC $a S->Q S s')),
(`L5,f0 `(Gd.jn λw W=>[bo,g.it w W]))]
def T17:L0:=[(`L6,f0 `([A,v<0,[hf,v+n],el _ n])),
(`L7,f0 `([em,[dx],"extend",t,[e],k])),
(`L8,f0 `(#[I.w2.gf,I.w2.ap,I.w2.q0])),
(`L9,f0 `(#[I.se.ro,I.se.ca,I.se.lu])),
(`LB,f1 λa=>`(w=[fZ]/\t b=[hJ,us]/\[aQ,us,k,C]/\$a)),
(`LC,f1 λa=>`(∀h,X.K.In h->[wE,$a,X.prog,X.w])),
(`LD,f2 λa b=>`(∀env,[bt,a]=(do let x←$a;let y←$b;f x y))),
(`LE,f3 λa b c=>`(λσ H R=>[ng,B,$a,∃a$b:ident,B=[[aL]]/\bp K $a a $b/\R ($c) $a])),
(`LF,f0 `(KdxSt s.heap it d S i [fv] ep)),
(`LG,f0 `(a=[fE]\/a=[ae,t]\/a=[aE,t])),
(`LH,f0 `([Ax,"dict_itemiterator",[FX]])),
(`LI,f2 λa b=>`(AT T X pins σ r S F0 H0 rs a kS f c e1 [wz] $a $b)),
(`LJ,f2 λa b=>`(g2.bind.mono λy r3 F3 H3#[S3,$a,$b,A]w W=>?_)),
(`LK,f0 `(λA i s Q E st h=>Jk st.1 h)),
(`LL,f0 `(G=[bc,[W,[f4,D.int]],bw x])),
(`LM,f1 λa=>`(λb ps q=>#[[ca],by rw[$a:term,q];simp])),
(`LN,f0 `([ao,k.atom,bD (bK l k),bad])),
(`LO,f0 `(λσ H Q z=>st _ H _ (qR z))),
(`LP,f1 λa=>`([Be,bs,List Bool,bs.map V.bl,[iP,$a]])),
(`LQ,f0 `(q.extBut b o J (c b o J e))),
(`LR,f0 `(Ay Y u B.nd.1 B.nc.1)),
(`LS,f1 λa=>`([jA,6,[za],.cT [4] 1 [[U]] $a,[ai]])),
(`LT,f1 λa=>`(∀a∈[lt],rise a/\[b7,a,[eS,x,$a]])),
(`LU,f0 `(bK _ [L,[ij]]=b.cash.map _)),
(`LV,f0 `(#[λd q=>([bO]),[bJ]])),
(`LW,f1 λa=>`(∀{B}{m},(∀v,(x,v)∉B)->$a=m x)),
(`LX,f0 `([ok,dr b l i,a,gw b a [Y]])),
(`LY,f1 λa=>`(ajd [mQ] [g] [f] [g] ([a']) $a)),
(`LZ,f0 `(.ex (.ly [U] [[aK],[al]]))),
(`L_,f0 `([("line":au),"place","why"])),
(`La,f0 `([dY,.rj (.g 18) [g7,29,[]]])),
(`Lb,f2 λa b=>`([ei,.AugAssign (.Subscript [dx] k t) $a e pos,$b])),
(`Lc,f0 `(Ir.run Ir.prog 40 146 [[rP]] [])),
(`Ld,f0 `(λb o _ _ O e _=>k b o O e)),
(`Le,f1 λa=>`([Bf,[qG,$a],[bc,y,S'],[bc,aa y,S'],S'])),
(`Lf,f0 `(X.lm s3 H3 c8 ce fp xb [yB])),
(`Lg,f0 `([ct,[hN,C1].push (zc C [ar])])),
(`Lh,f0 `([mb,[e6,[U]],[rA,[aK],27,6]])),
(`Li,f0 `([.pO 3 [IL] (.mul [a4] [fT])])),
(`Lj,f0 `(kI "max"++kI ".loop"="max.loop"))]
def T18:L0:=[(`Lk,f0 `(kI "min"++kI ".loop"="min.loop")),
(`Ll,f2 λa b=>`([b1,.comp [bi,[gj,[fT]],$a] [7,8] 5 [$b,[av]] []])),
(`Lm,f0 `(t.over≠0->[tX,t.over]=af)),
(`Ln,f0 `([oc,a,D,env,[bl,a],O j≠p])),
(`Lo,f0 `(λb o O e=>#[o,k b o O e])),
(`Lp,f0 `(yg [nL]||(! c.bZ&&xg [nL]))),
(`Lq,f1 λa=>`(([hm])->jz T X.K r F H d v->$a->G [v] H Q)),
(`Lr,f1 λa=>`(iy b h $a=ic (aZ (ju b h $a) m3))),
(`Ls,f2 λa b=>`(S8 (a:=x.name) (l₁:=[ms,[qm]]++$a) (l₂:=$b))),
(`Lt,f0 `(PE X (.Compare a _ _ pos) _)),
(`Lu,f0 `(∀N σ H,t' N σ H->t N σ H)),
(`Lv,f0 `([es,.aX (T.eB c) p fs]/\[r'])),
(`Lw,f0 `([99,111,117,112,111,110])),
(`Lx,f0 `([.mQ 2 [IL] (.ix [a4] [cZ])])),
(`Ly,f0 `((S++[c]).set [ab] a=S++[a])),
(`Lz,f1 λa=>`(m.St (line:=line) (ws:=ws) (n:=$a) hra)),
(`M,f1 λa=>`($(a).1)),
(`Ma,f0 `(m.extBut q.extBut D.i1z)),
(`Mb,f1 λa=>`(kl K $a/\∀f∈jR,oB K $a f)),
(`Mc,f0 `(Ir.M.bind (Ir.iI d) _ _=_)),
(`Md,f0 `([([Y],kJ (cC b [Y]) [rW])])),
(`Me,f0 `(#[j,v,[],Y,L,q,by rfl])),
(`Mf,f0 `([er,Ir.bK l x]=[er,fP f k])),
(`Mg,f0 `([fD]=j.1\/[uM,[w6]]=ae)),
(`Mh,f0 `(λj=>[A,j=i,p,O j])),
(`Mi,f1 λa=>`(λ{s' H'}I' nx=>by rw[M,m',hm,w',HC H' nx];rw[a1,yO,[eu,$a,∀o,s7.heap.get? b=[a9]->[DB]/\[iL]],λb J o e=>let z:=I'.eH (b,o) [xW];#[[cA],[fB]],U,[Q,[Aj]]=nB.length,by rw[<-yN,qZ],#[m',hm,i+1,H',(I'.u8 (pins:=[])).weak U (λj v e=>?_),T.keep _ _ _ rH λb J o e=>[M,yO b J o e],[fI],w']];{rw[aQ,yN,e];exact [M,Bk e]};{obtain⟨o,e,_⟩:=T.obj _ _ rH b J;exact [bo,yO b J o e]})),
(`Mj,f2 λa b=>`((jA.find? [aF,ao (J=[nl])])=aa ($a,$b))),
(`Mk,f0 `(hd _ ([rG]))),
(`Ml,f0 `(x=[aL])),
(`P,f0 `(Prop)),
(`Q,f1 λa=>`($(a).length)),
(`R,f0 `(x.1)),
(`S,f2 λa b=>`($(a).map $b)),
(`U,f0 `([f7,2])),
(`V,f0 `(.un)),
(`W,f1 λa=>`([ax,$a])),
(`X,f0 `(p.2)),
(`Y,f0 `(i+1)),
(`Z,f1 λa=>`([bc,$a,S])),
(`a0,f0 `(List Int))]
def T19:L0:=[(`a4,f0 `([f7,5])),
(`a6,f1 λa=>`(.av [aK] $a)),
(`a7,f0 `([fe,1])),
(`a9,f0 `(aa o)),
(`aA,f0 `(.nil)),
(`aB,f2 λa b=>`(show$a from$b)),
(`aC,f1 λa=>`(.inr $a)),
(`aE,f1 λa=>`($(a).2.2)),
(`aF,f1 λa=>`(λp=>$a)),
(`aI,f0 `(Type)),
(`aJ,f1 λa=>`(am $a)),
(`aK,f0 `([f7,0])),
(`aL,f0 `([m,a])),
(`aN,f2 λa b=>`([Q,$a]<=$b)),
(`aO,f0 `(Wf b)),
(`aP,f0 `([l,i])),
(`aQ,f3 λa b c=>`($(a)[$b]?=aa $c)),
(`aR,f1 λa=>`(.c [L,$a])),
(`aS,f1 λa=>`(l.map $a)),
(`aV,f0 `([ax,l])),
(`aW,f0 `(.bad)),
(`aX,f0 `(.a0)),
(`aY,f2 λa b=>`([aQ,$a,i,$b])),
(`aZ,f0 `(.none)),
(`ab,f0 `(S.length)),
(`ac,f0 `([c5,H,s])),
(`ae,f1 λa=>`($(a).2.1)),
(`ai,f0 `([f7,3])),
(`aj,f0 `(List Nat)),
(`ak,f0 `(List D)),
(`al,f0 `([f7,1])),
(`am,f1 λa=>`(($a :Int))),
(`an,f0 `(k+1)),
(`ao,f3 λa b c=>`([A,$a=ae,$b,$c])),
(`ap,f2 λa b=>`(SE T Z E X $a $b)),
(`ar,f0 `(s.heap.objs.size)),
(`av,f0 `([f7,4])),
(`aw,f0 `(n+1)),
(`ax,f1 λa=>`(.lst $a)),
(`ay,f1 λa=>`([bk,[l,$a]]))]
def T20:L0:=[(`b',f0 `(.val _)),
(`b1,f1 λa=>`([bj,$a])),
(`b2,f2 λa b=>`(#[3,$a,af,$b])),
(`b3,f0 `([cc,l])),
(`b4,f0 `(y.1)),
(`b5,f0 `(ax nm st b)),
(`b6,f0 `(.lst _)),
(`b7,f2 λa b=>`(∀x∈$a,$b)),
(`b9,f1 λa=>`(Ir.ah Z $a _)),
(`bA,f2 λa b=>`(.iff ($a) [$b] [])),
(`bD,f0 `(x.2)),
(`bE,f2 λa b=>`(($a==$b)=af)),
(`bF,f0 `([ax,[]])),
(`bG,f2 λa b=>`($(a).trans $b)),
(`bH,f2 λa b=>`(s.heap.get? $a=aa $b)),
(`bI,f0 `(b.coupons.length)),
(`bJ,f0 `(λ_=>rfl)),
(`bK,f0 `(.int _)),
(`bL,f0 `([ar]+1)),
(`bM,f1 λa=>`([a8,$a:term])),
(`bN,f0 `(aV _ _ Y Y Y)),
(`bP,f0 `(b.items.length)),
(`bQ,f1 λa=>`([bc,[l,$a],S])),
(`bR,f1 λa=>`(.type $a)),
(`bS,f3 λa b c=>`([q,bR (h.ne $a $b Y Y Y),$c])),
(`bT,f3 λa b c=>`($(a).bd λ$b:ident S=>$c)),
(`bU,f0 `([ae,x])),
(`bV,f0 `(a.length)),
(`bW,f1 λa=>`(.av [al] $a)),
(`bX,f2 λa b=>`(.call $a $b)),
(`bZ,f1 λa=>`(Ir.M.pure $a)),
(`b_,f1 λa=>`(.val $a)),
(`ba,f0 `(List ai)),
(`bb,f1 λa=>`(($a :Nat))),
(`bc,f2 λa b=>`(.ok $a $b)),
(`bd,f0 `([fe,0])),
(`be,f1 λa=>`(Option $a)),
(`bh,f1 λa=>`(.bl $a)),
(`bi,f2 λa b=>`([bs,[$a,$b]])),
(`bj,f1 λa=>`(.ret $a))]
def T21:L0:=[(`bk,f1 λa=>`([b_,$a])),
(`bl,f1 λa=>`(.own $a)),
(`bm,f0 `(bV hr)),
(`bn,f0 `(x::r)),
(`bo,f1 λa=>`($(a).2)),
(`bq,f1 λa=>`([cD,3,$a])),
(`br,f0 `(B.length)),
(`bs,f1 λa=>`(.tup $a)),
(`bt,f1 λa=>`(Ir.ah Z $a env)),
(`bw,f0 `([m,r])),
(`bz,f0 `([Fj,K])),
(`c',f0 `([L,s])),
(`c0,f0 `([l,j])),
(`c1,f1 λa=>`(bX.mp $a)),
(`c2,f0 `(sg c)),
(`c4,f0 `(aK X.prog X.w)),
(`c5,f2 λa b=>`(ak X pins σ $a $b)),
(`c6,f1 λa=>`([bk,[m,$a]])),
(`c7,f0 `(h.objs.size)),
(`c8,f2 λa b=>`(absurd $a $b)),
(`c9,f2 λa b=>`(pg $a (.dh $b))),
(`cA,f0 `(z.1)),
(`cB,f2 λa b=>`(($a==$b)=ae)),
(`cC,f0 `(b.taxes.length)),
(`cD,f2 λa b=>`(.set $a $b)),
(`cE,f0 `(xs.length)),
(`cF,f0 `(X.cg=ae)),
(`cG,f0 `(b.items)),
(`cH,f0 `(c::r)),
(`cJ,f1 λa=>`(bp.of $a)),
(`cK,f1 λa=>`([d7,S,$a])),
(`cL,f0 `([h2,d,v])),
(`cM,f4 λa b c d=>`([cW,$a,$b,$c,S]=[Z,$d])),
(`cN,f8 λa b c d e f g h=>`(a9 $a λ$b:ident$c:ident#[$d,$e,$f,$g,$h]=>?_)),
(`cO,f1 λa=>`([am,($a :Nat)])),
(`cP,f1 λa=>`([aE,$a].1)),
(`cQ,f0 `(List V)),
(`cR,f1 λa=>`([l3,$a,tk])),
(`cS,f1 λa=>`([aY,$a,x])),
(`cT,f0 `(j+1))]
def T22:L0:=[(`cU,f0 `(h.2)),
(`cV,f0 `(aa v)),
(`cW,f4 λa b c d=>`(run prog (k+$a) $b $c $d)),
(`cX,f5 λa b c d e=>`(match$a:term with|$b=>$c|$d=>$e)),
(`cY,f0 `(λ_ _ e=>e)),
(`cZ,f0 `([f7,6])),
(`c_,f1 λa=>`([S,$a,nD])),
(`ca,f0 `([fg,[]])),
(`cb,f2 λa b=>`([aQ,$a,j,$b])),
(`cc,f1 λa=>`(.aU $a)),
(`ce,f1 λa=>`(M.pure $a)),
(`cf,f0 `(aa _)),
(`cg,f0 `(aV _ S Y Y Y)),
(`ch,f0 `([cS,X.N])),
(`cj,f2 λa b=>`(PE X $a ($b))),
(`ck,f1 λa=>`(ah Z $a e S)),
(`cl,f3 λa b c=>`([S,$a,λ$b:ident=>$c])),
(`cm,f0 `([bE,x,"__debug__"])),
(`cn,f0 `([b_,[b5]])),
(`co,f0 `([eP,l,B])),
(`cp,f0 `(bg ?_)),
(`cq,f0 `(cZ _ Y)),
(`cr,f1 λa=>`([cD,4,$a])),
(`cs,f0 `(b.bundles.length)),
(`ct,f1 λa=>`([mM,s,$a])),
(`cu,f2 λa b=>`(upd H $a $b)),
(`cv,f2 λa b=>`(#[2,$a,af,$b])),
(`cw,f2 λa b=>`([bG,$a,$b])),
(`cy,f0 `(i-1)),
(`cz,f1 λa=>`(D.int $a)),
(`d',f0 `([ap,e,a])),
(`d0,f0 `(bw v)),
(`d2,f1 λa=>`(tx (ay $a))),
(`d3,f1 λa=>`([nX,y,$a])),
(`d4,f0 `(_::_)),
(`d5,f3 λa b c=>`([$a,[l,$b],[l,$c]])),
(`d6,f4 λa b c d=>`(match$a:term with|$b=>$c|_=>$d)),
(`d7,f2 λa b=>`(St $a r line ws $b)),
(`d9,f2 λa b=>`(#[1,$a,af,$b])),
(`dA,f1 λa=>`([M,dC.mp $a]))]
def T23:L0:=[(`dB,f1 λa=>`(λb o e=>$a)),
(`dC,f2 λa b=>`(cH X (eU $a) $b)),
(`dD,f0 `(.str _)),
(`dE,f0 `(List au)),
(`dF,f0 `(Rel s v)),
(`dH,f1 λa=>`($(a).symm)),
(`dI,f0 `(Gl X x)),
(`dJ,f0 `(h.1)),
(`dK,f1 λa=>`([Z,.nx $a])),
(`dL,f0 `(Hp->[P])),
(`dM,f1 λa=>`([W,[aS,$a]])),
(`dN,f0 `(c.length)),
(`dO,f3 λa b c=>`(al.pure $a $b _ $c)),
(`dP,f0 `(.ref _)),
(`dQ,f1 λa=>`(bA _ $a)),
(`dR,f1 λa=>`([eG,[g6],$a])),
(`dS,f0 `([pz,e,e])),
(`dT,f1 λa=>`([Z,[bh,$a]])),
(`dV,f0 `(List aq)),
(`dW,f5 λa b c d e=>`([cM,$a,$b,$c,[dv,$d,$e]])),
(`dX,f0 `([aE,x])),
(`dY,f1 λa=>`([cD,2,$a])),
(`dZ,f1 λa=>`([[b5],$a])),
(`da,f0 `(aH ws)),
(`db,f0 `(q.1)),
(`dc,f2 λa b=>`([[b5],$a,$b])),
(`dd,f2 λa b=>`(h.get? $a=aa $b)),
(`de,f3 λa b c=>`([kE,$a,[$b],$c,[]])),
(`dg,f1 λa=>`($(a).objs.size)),
(`dh,f2 λa b=>`(∀b o,$a->$b)),
(`di,f1 λa=>`(bE Z $a e S)),
(`dj,f0 `([f9,D,D])),
(`dk,f0 `([cK,n])),
(`dl,f2 λa b=>`(S.set $a $b)),
(`dm,f0 `([l,n])),
(`dn,f0 `([ae,y])),
(`dp,f0 `([m,p])),
(`dq,f0 `(dz _)),
(`dr,f0 `([e4,n])),
(`ds,f0 `(k+2))]
def T24:L0:=[(`dt,f0 `(df b)),
(`du,f7 λa b c d e f g=>`(eL $a λN σ H#[$b,$c,$d,env,$e,S,r,F,a,$f,P,A,h]=>$g)),
(`dv,f2 λa b=>`([W,[S,$a,$b]])),
(`dw,f0 `(aW [f])),
(`dx,f0 `(.Name x p)),
(`dz,f2 λa b=>`([bc,.nx $a,$b])),
(`e',f1 λa=>`(I.tuple $a)),
(`e0,f1 λa=>`([cu,p,$a])),
(`e1,f0 `(p::r)),
(`e2,f4 λa b c d=>`(([l,$a],(.b6 [(.fn $b),[l,$c],[l,$d]])))),
(`e3,f4 λa b c d=>`(bj [cW,12,$a,[[m,0],.lst $b,.lst $c],[d0]] s v (dD s $d))),
(`e4,f1 λa=>`(ws.drop $a)),
(`e5,f0 `(I.ok.hd O)),
(`e6,f1 λa=>`(.b1 .len $a)),
(`e7,f1 λa=>`([aC,[J,$a]])),
(`e8,f2 λa b=>`([aQ,dH,$a,[l,$b]])),
(`e9,f1 λa=>`(K.lookup $a)),
(`eA,f0 `([m,x])),
(`eB,f0 `([bs,l])),
(`eC,f0 `(Q+1)),
(`eD,f1 λa=>`(I.list $a)),
(`eE,f1 λa=>`(B.map $a)),
(`eF,f2 λa b=>`(eF $a $b X.env [eR,$a]=[eR,$a])),
(`eG,f2 λa b=>`(aE $a A ($b) Q E s)),
(`eI,f7 λa b c d e f g=>`([jS,λx$a:ident$b:ident$c:ident#[$d,$e,$f,m]v$g:ident=>?_])),
(`eJ,f0 `([f9,ai,bn])),
(`eK,f0 `(S ([ah]))),
(`eL,f1 λa=>`([aC,$a])),
(`eN,f0 `(aV k S Y Y Y)),
(`eO,f0 `(.bl _)),
(`eP,f2 λa b=>`(aY T K r F $a $b)),
(`eQ,f3 λa b c=>`(aG.mono $a $b _ _ $c)),
(`eR,f1 λa=>`(aM $a X.env)),
(`eS,f2 λa b=>`(1<=$a/\$a<=$b)),
(`eT,f1 λa=>`([aE,$(a).2])),
(`eV,f0 `(x.length)),
(`eX,f1 λa=>`([L,tx $a])),
(`eY,f5 λa b c d e=>`([ff,[ck,$a],$b,$c,$d,$e])),
(`eZ,f0 `(J::E)),
(`e_,f1 λa=>`($(a).Nodup))]
def T25:L0:=[(`ea,f0 `(x.price)),
(`eb,f1 λa=>`([ap,a,$a])),
(`ec,f0 `(.free)),
(`ed,f1 λa=>`(l.drop $a)),
(`ee,f0 `(bF e)),
(`ef,f4 λa b c d=>`([bX,$a,[$b,$c,$d]])),
(`eg,f2 λa b=>`(.dv [aK] $a $b)),
(`eh,f1 λa=>`(Ir.bo $a)),
(`ei,f2 λa b=>`([hC,$a,dW T X.K Z E $b])),
(`ek,f0 `([nc,by simp])),
(`el,f0 `(aq->aD->[P])),
(`em,f5 λa b c d e=>`(.Call (.Attribute $a $b $c) $d [] $e)),
(`en,f2 λa b=>`([bX,$a,[[aK],$b]])),
(`eo,f0 `(Gx T Z W c X E)),
(`eq,f1 λa=>`(aa [m,$a])),
(`er,f1 λa=>`($(a).isSome)),
(`es,f1 λa=>`(H a=aa $a)),
(`et,f0 `(N.length)),
(`eu,f2 λa b=>`(∀b∈$a,$b)),
(`ev,f9 λa b c d e f g h i=>`(a9 $a λ$b:ident$c:ident#[$d,$e,$f,$g,$h]=>$i)),
(`ew,f3 λa b c=>`(.cT $a 0 [$b] $c)),
(`ez,f2 λa b=>`(∀t∈$a,$b)),
(`f,f0 `(by grind)),
(`f',f1 λa=>`([c8,$a,by simp])),
(`f1,f0 `([aE,y])),
(`f2,f0 `(k+3)),
(`f3,f1 λa=>`([cu,a,$a])),
(`f4,f1 λa=>`(a.map $a)),
(`f5,f1 λa=>`(G.map $a)),
(`f6,f0 `(fU _)),
(`f7,f1 λa=>`(.v $a)),
(`f8,f3 λa b c=>`(.ex 9 [d5,[l,line],$a,$b] $c)),
(`f9,f2 λa b=>`(List ($a×$b))),
(`fA,f1 λa=>`([cD,5,$a])),
(`fB,f0 `([ae,z])),
(`fC,f1 λa=>`([kN,x,$a])),
(`fD,f0 `(i.1)),
(`fE,f0 `(t.1)),
(`fF,f0 `(hH hr)),
(`fG,f1 λa=>`([b_,[W,$a]]))]
def T26:L0:=[(`fH,f0 `([W,t.map D.int])),
(`fI,f0 `(λb J=>?_)),
(`fJ,f2 λa b=>`([fi,$a,[al],$b])),
(`fK,f1 λa=>`(rs.getD $a 0)),
(`fL,f0 `([l4,C,a])),
(`fM,f0 `(rs.length)),
(`fO,f1 λa=>`($(a).map _)),
(`fP,f0 `(Option _)),
(`fQ,f0 `(gd [i7] x)),
(`fR,f1 λa=>`([aQ,S,a,$a])),
(`fS,f1 λa=>`(gS $a _ [g])),
(`fT,f0 `([f7,7])),
(`fU,f0 `(gA b st)),
(`fV,f0 `(List Sm)),
(`fW,f0 `(J::G)),
(`fX,f0 `(.ok x)),
(`fY,f1 λa=>`((k,$a)::l)),
(`fZ,f0 `([m,b])),
(`f_,f0 `([bE,x,"__classdict__"])),
(`fa,f0 `([J,Y])),
(`fb,f0 `(fh b l)),
(`fc,f2 λa b=>`([cl,$a,p,$b])),
(`fd,f4 λa b c d=>`([A,$a=$b,aa $c,$d])),
(`fe,f1 λa=>`(.c [l,$a])),
(`ff,f5 λa b c d e=>`([bT,$a,$b,[bT,$c,$d,$e]])),
(`fg,f1 λa=>`(List.toArray $a)),
(`fh,f2 λa b=>`([oF,[gc,$a],$b])),
(`fi,f3 λa b c=>`([ef,$a,[aK],$b,$c])),
(`fj,f0 `(aa .local)),
(`fk,f1 λa=>`(c.sub _ _ $a)),
(`fl,f1 λa=>`(cU T X.K Z E $a)),
(`fm,f1 λa=>`(X.mg x=aa [m,$a])),
(`fp,f0 `(fN _ [g])),
(`fq,f0 `([m,[ar]])),
(`fr,f2 λa b=>`([bX,$a,[$b]])),
(`ft,f3 λa b c=>`(fl $a $b S=[Z,$c])),
(`fu,f0 `(n.toNat)),
(`fv,f0 `(es.size)),
(`fw,f1 λa=>`([f9,au,$a])),
(`fx,f0 `(H b=ag))]
def T27:L0:=[(`fy,f1 λa=>`(P.step $a)),
(`fz,f0 `(k+4)),
(`g,f0 `(by omega)),
(`g',f1 λa=>`(bH ($a) S=[Z,$a])),
(`g0,f0 `([b_,d])),
(`g1,f2 λa b=>`(∀p∈$a,$b)),
(`g2,f2 λa b=>`(l.foldl $a $b)),
(`g3,f0 `(sv s)),
(`g4,f1 λa=>`(pg $a [vC])),
(`g5,f0 `(g.1)),
(`g6,f0 `(aK prog w)),
(`g7,f2 λa b=>`(.bG 13 [al] $a $b)),
(`g8,f0 `([105,116,101,109])),
(`g9,f0 `(iX T X.prog X.w X.K)),
(`gA,f1 λa=>`(PE X e $a)),
(`gB,f0 `(X.env.locals)),
(`gC,f1 λa=>`(aa (.builtin $a))),
(`gD,f0 `(ws.length)),
(`gF,f1 λa=>`(h $a (by simp))),
(`gG,f0 `(λx L=>?_)),
(`gH,f0 `(Le.refl _)),
(`gI,f0 `(ns.length)),
(`gK,f0 `(Nat->Bool)),
(`gL,f0 `([ab]+10)),
(`gM,f0 `([be,aq])),
(`gN,f3 λa b c=>`(cp G S $a $b=aa $c)),
(`gO,f0 `([m,it])),
(`gP,f0 `(T.cS f)),
(`gQ,f0 `([dQ,e])),
(`gR,f0 `(Ts b ts)),
(`gS,f0 `(#[_,Y])),
(`gT,f1 λa=>`(bD $a S)),
(`gU,f0 `(T.eB k)),
(`gV,f0 `(H p=ag)),
(`gW,f0 `(k+5)),
(`gX,f3 λa b c=>`([d6,$a,$b,$c,af])),
(`gY,f0 `([f7,i])),
(`gZ,f0 `([aS,f])),
(`g_,f0 `(b.bundles.zip C)),
(`ga,f0 `(L.heap.objs.size))]
def T28:L0:=[(`gb,f3 λa b c=>`(aE [c4] X.A ($a) $b X.xe $c)),
(`gc,f1 λa=>`(cf (k+$a))),
(`gd,f0 `(dJ b c C)),
(`ge,f1 λa=>`(show$a by omega)),
(`gf,f0 `(Ir.M.pure _)),
(`gg,f6 λa b c d e f=>`(match$a:term with|$b=>$c|$d=>$e|_=>$f)),
(`gh,f0 `(A.handled=ag)),
(`gi,f0 `(Nat×Nat)),
(`gj,f1 λa=>`(.ix $a [bd])),
(`gk,f0 `([bH,b,o])),
(`gl,f0 `(bw [b5])),
(`gm,f0 `(r.length)),
(`gn,f4 λa b c d=>`([cX,$a,aa $b,$c,ag,$d])),
(`go,f0 `(G.length)),
(`gq,f0 `(X.stack)),
(`gr,f0 `(s.from_)),
(`gs,f0 `([4,5])),
(`gu,f0 `(List U)),
(`gv,f0 `(f.2)),
(`gw,f1 λa=>`([b7,l,$a])),
(`gx,f3 λa b c=>`([cl,br $a,$b,$c])),
(`gy,f2 λa b=>`([Ml]/\$a/\$b)),
(`gz,f0 `(x::l)),
(`h,f0 `(List _)),
(`h',f0 `([bl,d])),
(`h0,f5 λa b c d e=>`(∀($a:ident :[h])($b:ident :$c),$d->$e)),
(`h1,f0 `(g9 b l)),
(`h2,f2 λa b=>`(aG T K r F $a $b)),
(`h3,f3 λa b c=>`([dh,b≠$a,$b->$c])),
(`h7,f0 `(List kR)),
(`h9,f0 `([bs,[]])),
(`hA,f0 `([m,l])),
(`hB,f1 λa=>`(not_of $a)),
(`hC,f2 λa b=>`(PS X $a ($b))),
(`hD,f2 λa b=>`([gb,$a,$b,s])),
(`hF,f0 `([Lw])),
(`hG,f0 `([W,c.map nD])),
(`hH,f4 λa b c d=>`([ck,$a]=[eY,a,x,$b,$c,$d])),
(`hI,f0 `(λc=>gM c||fm c)),
(`hJ,f1 λa=>`(aa [bs,$a]))]
def T29:L0:=[(`hK,f5 λa b c d e=>`([jT,$a,$b,λd$c:ident$d:ident$e:ident=>[tN,$a,$c,$d,$e]])),
(`hL,f0 `([116,97,120])),
(`hM,f1 λa=>`([cB,$a,pos.line])),
(`hN,f1 λa=>`(s.heap.push $a)),
(`hO,f2 λa b=>`(([L,$a],(.fn $b)))),
(`hP,f1 λa=>`([pN,($a>>=f) S])),
(`hQ,f1 λa=>`(Ir.bE Z ($a) _)),
(`hR,f3 λa b c=>`($(a).all λ$b:ident=>$c)),
(`hS,f2 λa b=>`(∀{l}{B},$a->$b)),
(`hU,f1 λa=>`([S,$a,(·.2)])),
(`hV,f0 `(am ?_)),
(`hW,f0 `([gA,te])),
(`hX,f0 `(ds.length)),
(`hY,f0 `(λ_=>0)),
(`hZ,f0 `([dN]=[bP])),
(`h_,f0 `([Z,()])),
(`ha,f1 λa=>`([bG,$a,e])),
(`hb,f0 `(az.toArray)),
(`hc,f1 λa=>`($(a).toArray)),
(`hd,f0 `([m,[ab]])),
(`he,f0 `(eG b [fW])),
(`hf,f1 λa=>`($(a).toNat)),
(`hg,f0 `([E]<=lim)),
(`hh,f2 λa b=>`([q,aW $a,$b])),
(`hi,f2 λa b=>`(ps ["book",$a,$b])),
(`hj,f2 λa b=>`(.error ($a,$b))),
(`hk,f0 `(σ.length)),
(`hl,f0 `(I.tok _)),
(`hm,f0 `([Fj,X.K])),
(`hn,f0 `(fE b ts)),
(`ho,f1 λa=>`([pN,f $a S])),
(`hp,f0 `(cC b i)),
(`hq,f1 λa=>`([dv,$a,nD])),
(`hs,f0 `(.bY l)),
(`ht,f0 `(b.taxes)),
(`hu,f0 `(b∉ch)),
(`hv,f0 `([f7,8])),
(`hw,f1 λa=>`(ws.map $a)),
(`hx,f0 `([m,f])),
(`hy,f0 `([eb,l]))]
def T30:L0:=[(`hz,f0 `(bC y u)),
(`i',f3 λa b c=>`([iu,$a,$b,[iK,$c,C]])),
(`i0,f0 `(R Flow)),
(`i1,f0 `(bC v u)),
(`i2,f0 `([ae,o])),
(`i3,f0 `([ck,a])),
(`i4,f1 λa=>`([cv,2,$a])),
(`i5,f2 λa b=>`({cls:=[bR,$a],data:=$b})),
(`i6,f4 λa b c d=>`([vb,[jl,$a,$b,[[jw],[bw]],$c],ws,$d])),
(`i7,f0 `(X.env.scope)),
(`i8,f0 `([114,111,117,110,100])),
(`i9,f0 `((fT b x.1,[bD]))),
(`iA,f0 `(pre++[n])),
(`iB,f1 λa=>`([aS,λx=>$a])),
(`iC,f0 `(PE X a ta)),
(`iD,f4 λa b c d=>`([cW,$a,$b,$c,S]=[bQ,$d])),
(`iE,f0 `(List dF)),
(`iF,f2 λa b=>`(fa $a=aa (0,$b))),
(`iG,f0 `(C.length)),
(`iH,f0 `([nE,env])),
(`iI,f0 `(bq xs us)),
(`iJ,f1 λa=>`(a.trans $a)),
(`iK,f2 λa b=>`(.ok ($a,n,$b))),
(`iL,f0 `(H' b=ag)),
(`iM,f1 λa=>`([aB,$a,rfl])),
(`iN,f1 λa=>`([Q,$a]<lim)),
(`iO,f0 `([m,C])),
(`iP,f1 λa=>`(Q [bh,$a] H)),
(`iR,f0 `(List Ex)),
(`iS,f0 `([dM,pD])),
(`iT,f0 `([fe,2])),
(`iU,f1 λa=>`(.ex c B $a)),
(`iV,f1 λa=>`([dv,$a,pD])),
(`iW,f0 `([l,0])),
(`iX,f1 λa=>`([tY,N++$a])),
(`iY,f0 `([e4,1])),
(`iZ,f1 λa=>`(h'.get? $a)),
(`i_,f3 λa b c=>`(λ$a:ident=>[gE,$a:term,$b:term,$c:term])),
(`ia,f0 `([Z,d])),
(`ib,f0 `([a,b]))]
def T31:L0:=[(`ic,f1 λa=>`(D.lst $a)),
(`id,f1 λa=>`([wG,$a,l])),
(`ie,f0 `(cy l)),
(`ig,f2 λa b=>`(.ix [a6,$a] (.sub $b [a7]))),
(`ih,f6 λa b c d e f=>`(dI [jl,$a,$b,$c,$d] [El] line ws $e ($f))),
(`ii,f1 λa=>`(bb (e::$a) X.env=(af,[eR,e])::bb $a X.env)),
(`ij,f0 `([99,97,115,104])),
(`ik,f1 λa=>`(Bt X x (.builtin $a))),
(`il,f6 λa b c d e f=>`(#[env,O,$a,$b,$c,$d,[fy,$e],$f])),
(`im,f0 `([nk,92])),
(`io,f1 λa=>`($(a).getD i 0)),
(`ip,f2 λa b=>`(#[env,$a,S,r,F,c,P,$b])),
(`iq,f1 λa=>`(λb o J e=>$a)),
(`ir,f2 λa b=>`([bi,[l,$a],[l,$b]])),
(`iu,f3 λa b c=>`(aZ ($a) λ$b:ident n C=>$c)),
(`iv,f0 `(b.bundles)),
(`iw,f1 λa=>`([Z,.rt $a])),
(`ix,f0 `([bR,T])),
(`iy,f1 λa=>`(.ok [bj,$a])),
(`iz,f0 `(cV P w H h)),
(`j',f1 λa=>`([c5,$a,[l3,h',t']])),
(`j0,f0 `([111,102,102])),
(`j1,f1 λa=>`(I.aO.fresh $a)),
(`j2,f9 λa b c d e f g h i=>`(kA (S:=S) (t:=$a) (b:=[fh,$b,$c]) $d $e $f $g $h $i)),
(`j3,f1 λa=>`([ap,[fC,[e]],.b1 $a a])),
(`j4,f2 λa b=>`(jM $a $b pos.line X.env=bx af)),
(`j5,f1 λa=>`(∀S,$a=.ok _ S)),
(`j6,f0 `([dd,C,iV C N p k])),
(`j7,f0 `(s3.heap.objs.size)),
(`j8,f6 λa b c d e f=>`([cW,$a,$b,$c,S]=[ao,$d,$e,[kA,$f]])),
(`j9,f1 λa=>`(b.coupons.map $a)),
(`jA,f4 λa b c d=>`([b2,$a,[$b,$c,[bj,$d]]])),
(`jB,f0 `(e::es)),
(`jC,f2 λa b=>`(d6 "list" $a $b)),
(`jD,f1 λa=>`([wy,pos,$a])),
(`jE,f0 `(.du l)),
(`jF,f0 `(x.taxes)),
(`jG,f0 `(s'.heap)),
(`jH,f1 λa=>`(L.drop $a)),
(`jJ,f3 λa b c=>`([d6,$a,$b,$c,[aW]]))]
def T32:L0:=[(`jL,f0 `(cR b t)),
(`jM,f1 λa=>`([S,$a,a8])),
(`jN,f1 λa=>`([f9,$a,Nat])),
(`jO,f0 `([m,D])),
(`jP,f0 `([m,q])),
(`jQ,f0 `([es,o])),
(`jR,f0 `([bh,b])),
(`jS,f1 λa=>`([ip,O,[to,$a]])),
(`jT,f3 λa b c=>`(al T $a r F H ($b) $c E)),
(`jU,f1 λa=>`(X.env.scope.names.lookup $a)),
(`jV,f1 λa=>`([e6,[a6,$a]])),
(`jW,f1 λa=>`({b with coupons:=[jv]++[$a]})),
(`jX,f4 λa b c d=>`(∀(s:aD)(H:Hp)(C:ai)($a:ident :[fw,ai])($b:ident :$c),$d)),
(`jY,f2 λa b=>`(∀$a:ident,H $a=ag->Q [m,$a] [cu,$a,$b])),
(`jZ,f0 `([bE,x,("__debug__":au)])),
(`j_,f2 λa b=>`(fF X (.builtin $a) $b)),
(`ja,f0 `([fG,c.map nD])),
(`jb,f0 `([eX,x.name])),
(`jc,f1 λa=>`(.Compare a [$a] [b] pos)),
(`jd,f1 λa=>`([bs,[c_,$a]])),
(`je,f0 `([bR,"list"])),
(`jf,f0 `(ns.map V.int)),
(`jg,f3 λa b c=>`(.of [pA,$a,$b,$c] [bJ] [f])),
(`jh,f0 `(tf b ts a i)),
(`ji,f0 `(EP X pins σ Q)),
(`jj,f0 `([98,121])),
(`jk,f0 `(scope.names)),
(`jl,f4 λa b c d=>`([cW,$a,$b,$c,[cK,$d]])),
(`jm,f0 `([rK].rate)),
(`jo,f4 λa b c d=>`([cX,$a,[kT],$b,.ok $c,$d])),
(`jp,f1 λa=>`([q,gk [g],$a])),
(`jq,f0 `(x.atom=ae)),
(`jr,f0 `(C.map nD)),
(`js,f1 λa=>`(l.all $a=ae)),
(`jt,f0 `(.yes B)),
(`ju,f1 λa=>`(([be,$a])->Bool)),
(`jv,f0 `(b.coupons)),
(`jw,f0 `([m,A.nb])),
(`jx,f2 λa b=>`([l5,br $a,i,$b])),
(`jy,f1 λa=>`(cw.of [fk,$a]))]
def T33:L0:=[(`jz,f0 `([ap,b,l])),
(`k',f0 `([b7,c,x<=40])),
(`k0,f0 `(own.map (·.2))),
(`k1,f0 `(cC b i.toNat)),
(`k2,f0 `(λb o e=>?_)),
(`k3,f3 λa b c=>`([cW,$a,$b,[dZ,$c],S])),
(`k4,f5 λa b c d e=>`(al T $a $b $c $d ($e) (gE T $a $d N) E)),
(`k5,f1 λa=>`(ak $a A b nm st n0 P)),
(`k6,f0 `(k _ _ [fa] e)),
(`k7,f4 λa b c d=>`(c7 X.prog X.w [cu,$a,$b] $c $a $d)),
(`k8,f0 `([bt,[gY]])),
(`k9,f1 λa=>`(h8 _ _ (dt $a))),
(`kA,f1 λa=>`(.ex $a [] S)),
(`kB,f3 λa b c=>`(c.rep n _ $a $b $c)),
(`kC,f0 `(jD x n)),
(`kD,f0 `([dQ,q])),
(`kE,f4 λa b c d=>`(.comp $a $b 0 [$c] $d)),
(`kF,f0 `([be,ai])),
(`kG,f0 `(T.eZ f)),
(`kH,f0 `([tS,1])),
(`kI,f0 `([gc,6])),
(`kJ,f0 `([ae,i])),
(`kK,f0 `([l,a])),
(`kL,f0 `([am,n])),
(`kM,f0 `([md,i])),
(`kN,f2 λa b=>`(.Call (.Name $a p) $b [] pos)),
(`kO,f6 λa b c d e f=>`({name:=$a,share:=$b,value:=$c,item:=$d,cap:=$e,least:=$f})),
(`kP,f3 λa b c=>`(.of (b9 $a λσ H Q$b:ident=>$c) [bJ] [f])),
(`kQ,f0 `([i5,"dict",.dict [ca]])),
(`kR,f2 λa b=>`(lw (r1:=r) (F1:=F) (H1:=H) $a $b)),
(`kT,f0 `(.error e)),
(`kU,f1 λa=>`([i5,"list",.seq $a])),
(`kV,f2 λa b=>`(.BoolOp .And ($a ::$b) pos)),
(`kW,f2 λa b=>`(λσ H Q=>t σ H λ$a:ident H1=>$b)),
(`kX,f0 `(∀x,nX F X.env x=bx x)),
(`kY,f2 λa b=>`(.BoolOp .Or ($a ::$b) pos)),
(`kZ,f0 `(#[h,g,d,t,os])),
(`k_,f1 λa=>`($(a).get? b=[a9])),
(`ka,f4 λa b c d=>`(PI X $a $b (j4 T X.K Z E $c $d))),
(`kb,f0 `([rD,X.ex,X.pn]))]
def T34:L0:=[(`kc,f0 `(aa [lW])),
(`kd,f2 λa b=>`([Q,$a]+[Q,$b]<=lim)),
(`ke,f0 `([jN,Nat])),
(`kf,f0 `(gb L s.heap)),
(`kg,f1 λa=>`(x.parts.map $a)),
(`kh,f1 λa=>`((cf n).ar $a=2)),
(`ki,f0 `([bl,[ax,N]])),
(`kj,f0 `(.function)),
(`kk,f0 `(cf [an])),
(`kl,f2 λa b=>`($(a).all $b=ae)),
(`km,f0 `(2^62)),
(`kn,f0 `([f4,sD])),
(`ko,f2 λa b=>`([bX,$a,[[ai],$b]])),
(`kp,f0 `(B.toArray)),
(`kq,f3 λa b c=>`([ck,$a]=[bT,$b,x,$c])),
(`kr,f0 `([rE,k,v])),
(`ks,f0 `([dd,b,o])),
(`kt,f0 `([dl,a,c])),
(`ku,f0 `([bi,x,y])),
(`kv,f0 `(env[i]?)),
(`kw,f0 `(jc [] t)),
(`kx,f0 `([be,Nat])),
(`ky,f0 `(p.isList)),
(`kz,f0 `(5*[bP])),
(`l,f1 λa=>`(.int $a)),
(`l',f0 `(λ_=>[bZ,()])),
(`l0,f0 `([m,c])),
(`l1,f0 `([AF,x])),
(`l2,f2 λa b=>`(PE X $a [Ai,$b])),
(`l3,f2 λa b=>`({s with heap:=$a,toks:=$b})),
(`l4,f2 λa b=>`({uses:=$a,coupons:=$b})),
(`l5,f3 λa b c=>`([S,$a,λ($b :Nat)=>$c])),
(`l6,f2 λa b=>`(X.env.cells.lookup $a=aa $b)),
(`l7,f1 λa=>`(([gk])->$a=[a9])),
(`l8,f0 `(gi whole [da] ws)),
(`l9,f1 λa=>`(run _ _ _ $a [gl]=_)),
(`lA,f1 λa=>`([dO,c,$a,Y])),
(`lB,f1 λa=>`(eM n $a=ae)),
(`lC,f1 λa=>`(l.getD $a 0)),
(`lD,f1 λa=>`([en,$a,[al]]))]
def T35:L0:=[(`lE,f0 `(ay "has")),
(`lF,f1 λa=>`([eL,[aC,$a]])),
(`lG,f2 λa b=>`(cH X (ph $a) $b)),
(`lH,f0 `([a6,22])),
(`lI,f1 λa=>`(Ir.eA k $a)),
(`lJ,f4 λa b c d=>`(ps ["book",$a,$b,$c,$d])),
(`lK,f1 λa=>`([bc,[aX],$a])),
(`lL,f4 λa b c d=>`([jl,$a,$b,[[bw],$c],$d])),
(`lM,f0 `(c.least)),
(`lN,f0 `(ob.dict)),
(`lO,f1 λa=>`([S,$a,(·.1)])),
(`lP,f1 λa=>`(bp K H a $a)),
(`lQ,f2 λa b=>`(#[4,$a,af,$b])),
(`lR,f0 `(n/[gv])),
(`lS,f1 λa=>`([wv,$a]=ag)),
(`lT,f0 `(n<[gD])),
(`lU,f5 λa b c d e=>`(∀($a:ident :Nat)($b:ident :$c),$d->$e)),
(`lV,f0 `([l,t])),
(`lW,f0 `(.cell)),
(`lX,f0 `(.list)),
(`lY,f0 `([m,S])),
(`lZ,f0 `(gC X E)),
(`l_,f0 `([98,117,110,100,108,101])),
(`la,f1 λa=>`(run _ _ _ $a _)),
(`lb,f1 λa=>`(#[[eO],H,$a,Y,q])),
(`lc,f0 `((lo+q)/2)),
(`ld,f1 λa=>`(lZ X.N [i7] $a own)),
(`le,f1 λa=>`(gh T K r F H $a d)),
(`lf,f0 `([b7,C,x<=3])),
(`lg,f1 λa=>`(cE T K r F l $a)),
(`lh,f0 `(aV k _ Y Y Y)),
(`li,f0 `(kvs.length)),
(`lj,f0 `(λz=>?_)),
(`lk,f1 λa=>`($(a).low n=ae)),
(`ll,f0 `(hK [H] [X])),
(`lm,f1 λa=>`(cx T K r F l $a)),
(`ln,f1 λa=>`(aa [ax,$a])),
(`lo,f1 λa=>`(fs.lookup $a)),
(`lp,f0 `(cD Z l e S)),
(`lq,f2 λa b=>`([b_,[dv,$a,$b]]))]
def T36:L0:=[(`lr,f0 `([E]<lim)),
(`ls,f0 `(b3 n lo q)),
(`lt,f0 `(dr b l k)),
(`lu,f3 λa b c=>`(1<=$a/\$a<=$b/\$c)),
(`lv,f0 `(J.val k)),
(`lw,f0 `(Array aq)),
(`lx,f0 `(List [aj])),
(`lz,f0 `(T.length)),
(`m,f1 λa=>`(.ref $a)),
(`m',f0 `(this.1)),
(`m0,f1 λa=>`(hP line ws $a)),
(`m1,f2 λa b=>`([b1,.add $a $b])),
(`m2,f0 `([E]<100)),
(`m3,f0 `(ay "uses")),
(`m4,f0 `([ap,b,e])),
(`m5,f0 `(ay "with")),
(`m6,f2 λa b=>`(bg #[n9 $a _,$b])),
(`m7,f0 `(gB P w)),
(`m8,f3 λa b c=>`(aY.mono $a $b _ _ $c)),
(`m9,f1 λa=>`(H $a=[ln,xs])),
(`mA,f0 `(cY [cC] ts=ts)),
(`mB,f3 λa b c=>`(aE [g6] A ($a) $b E $c)),
(`mC,f0 `(w.take [cs])),
(`mD,f0 `([111,102])),
(`mE,f0 `(ja b ts a t)),
(`mF,f0 `(ps.length)),
(`mG,f2 λa b=>`(s.heap.IsTuple $a $b)),
(`mH,f0 `(iq whole ws)),
(`mI,f1 λa=>`(dB $a A b nm st)),
(`mJ,f2 λa b=>`(Ir.M.bind $a _ $b)),
(`mK,f0 `([f9,Nat,D])),
(`mL,f0 `([111,110])),
(`mM,f2 λa b=>`({$a with heap:=$b})),
(`mN,f0 `(oS b nm st)),
(`mO,f0 `(b.rounding)),
(`mP,f0 `(.bool af)),
(`mQ,f0 `(pl.isList)),
(`mR,f1 λa=>`($(a).getD 0)),
(`mS,f0 `(.dK kvs)),
(`mT,f0 `([dd,x,ob]))]
def T37:L0:=[(`mU,f1 λa=>`([aE,[aE,$a]])),
(`mV,f2 λa b=>`(jW T K ($a) r F $b)),
(`mW,f0 `(λ_=>ag)),
(`mX,f0 `(PE X b tb)),
(`mY,f0 `(ys.length)),
(`mZ,f0 `(X.bU e)),
(`m_,f0 `(t.length)),
(`ma,f1 λa=>`([iZ,b]=aa $a)),
(`mb,f2 λa b=>`([bA,.gt $a [bd],$b])),
(`mc,f0 `(λt=>D.ref [fE])),
(`md,f1 λa=>`(ns.getD $a 0)),
(`me,f0 `(cY [cC] [jF])),
(`mf,f0 `(od.data=.dict es ep)),
(`mg,f1 λa=>`(b.bundles.map $a)),
(`mh,f0 `(10000+kU b ts)),
(`mi,f1 λa=>`(scope.names.lookup $a)),
(`mj,f1 λa=>`([.Subscript $a k t])),
(`mk,f1 λa=>`((br $a).flatMap g)),
(`ml,f0 `(J _ s _ H _ I h)),
(`mm,f1 λa=>`([dY,[lD,$a]])),
(`mn,f3 λa b c=>`(XI X pins σ H $a $b cls W $c)),
(`mo,f1 λa=>`(e9 b ts $a 30 0 e_)),
(`mp,f0 `([fG,[aS,pD]])),
(`mq,f0 `([m_]<=2000)),
(`mr,f0 `([j1,by simp])),
(`ms,f1 λa=>`(b.taxes.map $a)),
(`mt,f0 `(λ_ e=>[J,e])),
(`mu,f0 `(#[_,[cq],Y,Y])),
(`mv,f4 λa b c d=>`(PE X [em,o,$a,apos,$b,$c] ($d))),
(`mw,f0 `([rK].within)),
(`mx,f1 λa=>`(∀b o,[l7,$a])),
(`my,f2 λa b=>`($(a).contains $b=ae)),
(`mz,f0 `(ob.cls=[iO])),
(`n',f1 λa=>`(λ($a :Nat)=>[am,$a])),
(`n0,f0 `(λh=>#[_,h,[AJ]])),
(`n1,f0 `(#[?_,?_,?_])),
(`n2,f1 λa=>`(λi j=>ao ($a))),
(`n3,f0 `(bB r0 F0 H0 r F H)),
(`n4,f0 `(bB r F H r1 F1 H1)),
(`n5,f0 `(gI b ts a))]
def T38:L0:=[(`n6,f1 λa=>`(sc.names.lookup $a)),
(`n7,f0 `(g+(jF b).unit)),
(`n8,f0 `(G.heap.objs.size)),
(`n9,f0 `(z _ ([rG]))),
(`nA,f2 λa b=>`(kr _ _ $a $b)),
(`nB,f1 λa=>`([[qB,[(.neg [fe,$a])]]])),
(`nC,f0 `(Hp->VK->[P])),
(`nD,f1 λa=>`([eY,a,x,bo x S,x,[eY,b,y,bo y S,y,$a]])),
(`nE,f1 λa=>`(cJ T K r F H σ $a O)),
(`nF,f0 `(lT X.prog X.w X.K X.mg X.base CX k f fd ps sp)),
(`nG,f2 λa b=>`([[l,$a],[l,$b]])),
(`nH,f1 λa=>`({b with bundles:=[iv]++[$a]})),
(`nI,f2 λa b=>`(fq ($a) $b (fg X.env.cells $b []))),
(`nJ,f0 `(I.ge _ [DK])),
(`nK,f1 λa=>`(ps ["desk","numbers","rows",$a])),
(`nL,f0 `(c.sc.names.lookup x)),
(`nM,f1 λa=>`([nj,$a]=[ck,$a])),
(`nN,f1 λa=>`({b with items:=[cG]++[$a]})),
(`nO,f1 λa=>`({b with taxes:=[ht]++[$a]})),
(`nP,f0 `(∀c,ob.data≠.cls c)),
(`nR,f2 λa b=>`(cU T X.K Z E $a σ H $b)),
(`nS,f0 `(n<1000000000000000000)),
(`nT,f0 `([108,105,110,101])),
(`nU,f1 λa=>`(∀T,$a=.ok _ T)),
(`nV,f0 `(aa (.aX C dx fs))),
(`nW,f5 λa b c d e=>`([[cn],[ja],[b_,v],[bl,$a],$b,$c,$d,$e])),
(`nX,f2 λa b=>`(λx$a:ident H Q=>$b)),
(`nY,f0 `([bi,[H],[X]])),
(`nZ,f0 `(this _ ([rG]))),
(`n_,f4 λa b c d=>`(n8 $a (by simp) λ$b:ident$c:ident$d:ident=>?_)),
(`na,f0 `([be,Int])),
(`nb,f2 λa b=>`([pC,scope,$a,C,$b])),
(`nc,f1 λa=>`(d9 I q $a)),
(`nd,f0 `([bU]+1)),
(`ne,f0 `(dU x=ae)),
(`nf,f0 `(lF t=ae)),
(`ng,f3 λa b c=>`(ta σ H λ$a:ident$b:ident=>$c)),
(`nh,f1 λa=>`([q,[dw],$a])),
(`ni,f1 λa=>`([fr,$a,[al]])),
(`nj,f1 λa=>`(gU Z $a e S))]
def T39:L0:=[(`nk,f1 λa=>`([fr,$a,[aK]])),
(`nl,f0 `(ay [H])),
(`nm,f1 λa=>`(d8 $(a).bk)),
(`nn,f3 λa b c=>`(eA $a [$b] S=[Z,$c])),
(`no,f0 `([aS,nD])),
(`np,f0 `(V->[pZ])),
(`nq,f0 `(.split)),
(`nr,f0 `(b.apart)),
(`ns,f0 `(s.price)),
(`nt,f0 `([H]-1)),
(`nu,f2 λa b=>`([ao,$a,$b,[aW]])),
(`nv,f2 λa b=>`([hh,iH $a $b,$a])),
(`nw,f0 `(H a=ag)),
(`nx,f0 `(k+8)),
(`ny,f2 λa b=>`($(a).all $b)),
(`nz,f0 `(aw [f])),
(`o',f0 `(ke b c C)),
(`o0,f2 λa b=>`(jf [g6] A $a R $b)),
(`o1,f0 `(mN nm=ag)),
(`o2,f0 `(bQ->Bool)),
(`o3,f1 λa=>`(Int->Int->$a)),
(`o4,f0 `(lq [i7] x)),
(`o5,f0 `(ay "less")),
(`o6,f0 `([bj,[al]])),
(`o7,f0 `([wM,[bK]])),
(`o8,f0 `(au->[gM])),
(`o9,f1 λa=>`(env.set i $a)),
(`oA,f0 `(eO A [fD])),
(`oB,f0 `([aS,D.int])),
(`oC,f0 `(I.ok.above)),
(`oD,f0 `([rK].over)),
(`oE,f0 `(.obj c l)),
(`oF,f2 λa b=>`(λe=>bh $a $b e)),
(`oG,f0 `(aa (T,fl))),
(`oH,f0 `([bk,cI x])),
(`oI,f0 `([bH,d,od])),
(`oJ,f0 `(λT=>rfl)),
(`oK,f0 `(.dT kvs)),
(`oL,f0 `(ow e i S)),
(`oM,f0 `(ts.take i))]
def T40:L0:=[(`oN,f0 `(.aX c l)),
(`oO,f1 λa=>`(eY _ n ($a) _)),
(`oP,f0 `([dZ,[b6]])),
(`oQ,f0 `(PE X o to)),
(`oR,f0 `([bk,sD t])),
(`oS,f0 `(Nat×[gi])),
(`oT,f0 `(lz CX X E)),
(`oU,f0 `(bq dvs ds)),
(`oV,f0 `(h.Ns N mN)),
(`oW,f0 `(az.length)),
(`oX,f0 `(t.endLine)),
(`oY,f0 `(I.ok.kind)),
(`oZ,f0 `(lD _ L)),
(`o_,f1 λa=>`($(a).get? _)),
(`oa,f4 λa b c d=>`(dG _ (λ$a:ident=>$b) _ (λ$a:ident$c:ident=>$d))),
(`ob,f0 `(k7 X.K fd ps ds)),
(`oc,f5 λa b c d e=>`([lU,j,$a,$b,[cb,$c,$d],$e])),
(`od,f0 `([bR,"tuple"])),
(`oe,f1 λa=>`(run _ _ _ _ $a=_)),
(`og,f0 `([hJ,k.map kV])),
(`oh,f0 `(s.heap.push _)),
(`oi,f1 λa=>`([d9,1,[[b1,$a]]])),
(`oj,f1 λa=>`(σ.set i (aa $a))),
(`ok,f3 λa b c=>`($(a).filter λ$b:ident=>$c)),
(`ol,f1 λa=>`(b.apart.map $a)),
(`om,f0 `(_::_::[d4])),
(`oo,f2 λa b=>`(rn ($a) λσ H R h=>$b)),
(`op,f1 λa=>`(cu ($a) 1 [iY])),
(`oq,f0 `(.Name x pos)),
(`os,f0 `(cC b [fD])),
(`ot,f1 λa=>`([aY,env,[bl,$a]])),
(`ou,f0 `(λa e=>?_)),
(`ov,f0 `(w.drop [cs])),
(`ow,f1 λa=>`([rA,[aK],26,$a])),
(`ox,f0 `(Ir.dg env i)),
(`oy,f1 λa=>`(jB $a _ _ [g])),
(`oz,f0 `(.cons r t)),
(`p',f0 `(λb o e n J L=>?_)),
(`p1,f1 λa=>`([ay $a,[H].name,bJ [X]])),
(`p2,f0 `([119,104,101,110]))]
def T41:L0:=[(`p3,f0 `(a.getD i 0)),
(`p4,f0 `(I.base.there b o e L)),
(`p5,f1 λa=>`(run _ _ _ $a S)),
(`p6,f0 `(S++lL b nm st [ab])),
(`p7,f2 λa b=>`(.bG 13 [aK] 32 [$a,$b])),
(`p8,f0 `(λg x=>fJ [i9] g)),
(`p9,f4 λa b c d=>`([[cn],[b_,a],[c6,G],$a,$b,$c,$d])),
(`pA,f3 λa b c=>`(b9 $a λσ H Q#[env,O,S,r,F,c,P,$b]=>$c)),
(`pB,f0 `(h3.push (d6 "tuple" N.toList.toArray.toList.toArray 0))),
(`pC,f4 λa b c d=>`(X.bZ s H $a (dN $a $b $c X.env) $d)),
(`pD,f1 λa=>`(iO [bR,"Exception"] $a=bx ag)),
(`pE,f1 λa=>`(bb $a X.env)),
(`pF,f1 λa=>`([aP.aX 1 (ee $a ([ab]+1) ([ab]+2)),aP.lst [],aP.lst []])),
(`pG,f0 `([yc])),
(`pH,f5 λa b c d e=>`(∀(pins:[f9,ai,bn])(s:aD)(σ:St)(H:Hp)($a:ident :$b),([ac])->$c->[hD,$d,$e])),
(`pI,f7 λa b c d e f g=>`([ih,$a,32,[d5,[bw],$b,$c],$d,nD,bN $e $f $g [e4,$d]])),
(`pJ,f0 `([108,101,115,115])),
(`pK,f0 `(h'.push [jC,N.toList.toArray,0])),
(`pL,f0 `([hw,kP whole [da]])),
(`pM,f2 λa b=>`(.put [a6,16] [U] [bi,[aR,$a],[jV,$b]])),
(`pN,f1 λa=>`([jT,K,$a,ok])),
(`pO,f0 `(.ext λh=>h.CodeRec [l0] T.tq)),
(`pP,f1 λa=>`(J (by simp[$a:term]))),
(`pQ,f1 λa=>`([o9,[bl,$a]])),
(`pR,f1 λa=>`(λσ H Q=>[ng,x,H1,$a])),
(`pS,f2 λa b=>`(($a>>=$b) S=Ir.M.bind _ $b S)),
(`pT,f1 λa=>`(S++[aP.lst $a])),
(`pU,f0 `([sC,az.toArray,n])),
(`pV,f0 `(Ir.b4 env t)),
(`pW,f2 λa b=>`([i5,$a,.fields [fg,$b]])),
(`pX,f2 λa b=>`([[cn],$a,$b,[V],[V],[V],[V]])),
(`pY,f0 `([116,111,116,97,108])),
(`pZ,f0 `(List V->[nC])),
(`p_,f1 λa=>`([[aP],[l,$a]])),
(`pa,f0 `(j0 x n i)),
(`pb,f0 `(h.basket)),
(`pc,f0 `(.own _)),
(`pd,f3 λa b c=>`([bA,.or $a $b,$c])),
(`pe,f1 λa=>`([j5,[p5,$a]])),
(`pf,f1 λa=>`([bc,[hd],$a]))]
def T42:L0:=[(`pg,f1 λa=>`([q,[Mk],$a])),
(`ph,f1 λa=>`([cP,[aE,$a]])),
(`pi,f0 `([tS,64])),
(`pj,f3 λa b c=>`(ps ["book",$a,$b,$c])),
(`pk,f1 λa=>`([aS,[aF,$a]])),
(`pl,f2 λa b=>`(a_ T K r $a $b S)),
(`pm,f1 λa=>`(.eN [aK] $a [bF])),
(`pn,f3 λa b c=>`([cv,$a,[$b,$c,[qh]]])),
(`po,f0 `(.rt d)),
(`pp,f0 `(T.dq 9)),
(`pq,f2 λa b=>`(pg $a (.exc $b))),
(`pr,f5 λa b c d e=>`(gQ $a (λ$b:ident$c:ident$d:ident=>?_) $e)),
(`ps,f0 `([pD,nm])),
(`pt,f0 `(fuel-1)),
(`pu,f2 λa b=>`(pg $a (.cls $b))),
(`pv,f0 `(.fn f)),
(`pw,f0 `(ay "of")),
(`px,f0 `(cY n l)),
(`py,f3 λa b c=>`(fl ($a) $b S=[bQ,$c])),
(`pz,f2 λa b=>`([pE,[$a]]=[(af,[eR,$b])])),
(`q,f2 λa b=>`(by rw[$a:term];exact$b)),
(`q',f0 `([pz,b,b])),
(`q0,f0 `([ap,e,e'])),
(`q2,f0 `([cE]<=bS)),
(`q3,f0 `(c.low [ab])),
(`q4,f2 λa b=>`(∀T,$a=[bc,$b,T])),
(`q5,f0 `(T0.cS 17)),
(`q6,f0 `(g7 b ts a)),
(`q7,f0 `(f.1+1)),
(`q8,f1 λa=>`(g<=iv b ts $a)),
(`q9,f0 `(le _ _ q)),
(`qA,f1 λa=>`(Ir.M.bind _ _ $a)),
(`qB,f1 λa=>`([bj,[ax,$a]])),
(`qC,f3 λa b c=>`(∀A v,dV $a $b _=ec $c)),
(`qD,f1 λa=>`(Ex.fresh $a=ae)),
(`qE,f0 `(noStar e=ae)),
(`qF,f0 `(bN 1 _ _ _)),
(`qG,f1 λa=>`(Ir.ah Z I e2 $a)),
(`qH,f0 `(g.map (·.1))),
(`qI,f0 `(jt kvs k v))]
def T43:L0:=[(`qJ,f0 `(L2.b4 σ t)),
(`qK,f0 `(λA v=>rfl)),
(`qL,f0 `(C.take [Y])),
(`qM,f2 λa b=>`(eV (ec A) $a=[eq,$b])),
(`qN,f0 `(K.In s.heap)),
(`qO,f0 `(ay "from")),
(`qP,f0 `(.head _)),
(`qQ,f0 `([c5,H',s'])),
(`qR,f0 `(V->V->[nC])),
(`qS,f2 λa b=>`(.av [ig,$a,$b] 0)),
(`qT,f1 λa=>`(#[$a,by simp])),
(`qU,f1 λa=>`([aB,∃t,$a,r])),
(`qV,f1 λa=>`(λi j=>[l,$a])),
(`qW,f1 λa=>`([pC,$a,z,C,u])),
(`qX,f0 `(gl [n5] t)),
(`qY,f1 λa=>`([dQ,[dQ,$a]])),
(`qZ,f1 λa=>`(b3 n 0 (b_ $a))),
(`q_,f0 `(at_ l i)),
(`qa,f0 `(([dd,b,u])->[ma,u])),
(`qb,f0 `(λ_ _=>False)),
(`qc,f2 λa b=>`(pN _ _ _ _ λ$a:ident _=>$b)),
(`qd,f2 λa b=>`(fQ X $a (l7 T X.K Z E $b))),
(`qe,f0 `(e.set i [g0])),
(`qf,f1 λa=>`(∀b C,H b=aa C->$a)),
(`qg,f1 λa=>`(Ir.ah Z $a env S)),
(`qh,f0 `([bj,[U]])),
(`qi,f1 λa=>`(Ir.bE Z $a env S)),
(`qj,f0 `(w.length<=2000)),
(`qk,f0 `(mC b (cy c) x)),
(`ql,f0 `(mP _ _ _ [g])),
(`qm,f0 `(λx=>x.name)),
(`qn,f1 λa=>`([aF,[H].beq $a])),
(`qo,f0 `([pT,[eE,pD]])),
(`qp,f0 `(n_ line ws n)),
(`qq,f3 λa b c=>`([cN,$a,v,$b,x,H1,S,j,$c])),
(`qr,f1 λa=>`(λi h h' st k=>$a)),
(`qs,f0 `([99,97,112])),
(`qu,f2 λa b=>`([eu,$a,hG X pins $b b])),
(`qv,f0 `([io,[tt]])),
(`qw,f1 λa=>`(Ir.bE Z ($a) env))]
def T44:L0:=[(`qx,f1 λa=>`([fJ,37,[aR,$a]])),
(`qy,f0 `(rs.map D.int)),
(`qz,f1 λa=>`([bZ,.nx [pQ,$a]])),
(`r',f0 `(dA T K r F l fs)),
(`r0,f3 λa b c=>`([nu,$a,[Z,(bK $b y).getD $c]])),
(`r1,f0 `([tJ,[R],[b4],[cA]])),
(`r2,f0 `(X.eD.heap.get? b)),
(`r3,f1 λa=>`(($(a).drop p).take 1)),
(`r4,f0 `(f' Z I t d_ [pV] d S2)),
(`r5,f1 λa=>`(St->Hp->($a->[dL])->[P])),
(`r6,f0 `(L _ s _ H _ I h)),
(`r7,f0 `(same a[p]? c[p]?)),
(`r8,f0 `(jh pos (ji b env))),
(`r9,f1 λa=>`(.aX k (Ir.dV l f $a))),
(`rA,f3 λa b c=>`(.ex (.bG 13 $a $b [(.g $c)]))),
(`rB,f1 λa=>`(dW T X.K Z E $a)),
(`rC,f0 `(A.az++[[Ct]])),
(`rD,f2 λa b=>`([eu,$a,∃o,(b,o)∈$b])),
(`rE,f2 λa b=>`([i5,"tuple",.seq [fg,[$a,$b]]])),
(`rF,f0 `([dl,G,.aX 15 (gg G [eC])])),
(`rH,f3 λa b c=>`(∀{G:R D}{a c p},G=[f8,a,c,[cK,p]]->∃$a:ident,G=[f8,$b,c,$a]/\$c=P)),
(`rI,f0 `((97<=c/\c<=122)\/(48<=c/\c<=57)\/c=32\/c=10)),
(`rJ,f0 `([[y2],[W,[vB]]])),
(`rK,f0 `(cj b t)),
(`rL,f0 `([[fE],[ae,t],[aE,t]])),
(`rM,f4 λa b c d=>`({cls:=$a,dict:=$b,data:=$c,slots:=$d})),
(`rN,f2 λa b=>`(.ListComp elt [#[$a,F,$b,0]] scope pos)),
(`rO,f0 `(wu [g6] A env λe s'=>R [kT] s')),
(`rP,f0 `(.dX [oB])),
(`rQ,f1 λa=>`(l.zipIdx.map [aF,[bi,[l,$a],[H]]])),
(`rR,f1 λa=>`(.ListComp l [#[B,F,$a,0]] S pos)),
(`rS,f1 λa=>`(.ext λh=>h.IsItemsView m $a)),
(`rT,f0 `([rF]++[hP [eC] [eZ] 0])),
(`rU,f2 λa b=>`([aF,[ao,[H].beq $a,([H],$b),p]])),
(`rV,f2 λa b=>`([ao,cR b ($a +1),0,$b])),
(`rW,f0 `(e7 c [Y]-my b C [Y])),
(`rX,f0 `(λ_ z=>nomatch z)),
(`rY,f0 `(.tail _ [qP])),
(`rZ,f0 `(hZ b 1 [iY])),
(`r_,f0 `([b7,a,[eS,x,[bI]]]))]
def T45:L0:=[(`ra,f0 `([(x,cr)])),
(`rb,f0 `([dd,a,o])),
(`rc,f0 `(x=[L,a])),
(`rd,f2 λa b=>`([bX,$a,[$b,[ai]]])),
(`re,f0 `([L,[jj]])),
(`rf,f0 `([gj,[al]])),
(`rg,f0 `(.aX k l)),
(`rh,f0 `([dB,[gQ]])),
(`ri,f0 `([Z,[aV]])),
(`rj,f0 `(b_ [bI])),
(`rk,f0 `([e6,[al]])),
(`rl,f0 `(c.hW n)),
(`rm,f2 λa b=>`([d6,d,$a,$b,bad])),
(`rn,f0 `(ig T F H)),
(`ro,f0 `(Ir.iG rs)),
(`rp,f0 `(St->[dL])),
(`rq,f0 `(k+10)),
(`rr,f0 `(Nat×aP)),
(`rs,f2 λa b=>`(cn $a ($b ::q)=af)),
(`rt,f0 `([t1]=ae)),
(`ru,f0 `(D->Bool)),
(`rv,f1 λa=>`([bo,pa s $a])),
(`rx,f0 `(ay "off")),
(`ry,f2 λa b=>`(l.all λ$a:ident=>$b)),
(`rz,f1 λa=>`(mF K [iO] $a)),
(`s',f2 λa b=>`([jl,$a,$b,[[bw]],n])),
(`s0,f0 `(fc H0 env O)),
(`s2,f0 `(h.Ns1 dx mA)),
(`s3,f1 λa=>`(Ir.M.pure $a S)),
(`s4,f0 `(vE b [gd] a)),
(`s5,f0 `([105,110])),
(`s6,f0 `(.Name x C)),
(`s7,f0 `(ay "step")),
(`s8,f1 λa=>`(Ir.jX nc.1 $a)),
(`s9,f1 λa=>`(λs=>[wB,$a])),
(`sA,f0 `([Fn,[fg,[AR]]])),
(`sB,f2 λa b=>`([g7,32,[$a,(.g $b)]])),
(`sC,f2 λa b=>`([i5,"list",.seq $a $b])),
(`sD,f0 `(ps.zip us)),
(`sE,f0 `(λa o e=>?_))]
def T46:L0:=[(`sF,f1 λa=>`(∀a,$a->[nw])),
(`sG,f0 `(Ir.cB l x d)),
(`sH,f1 λa=>`(([bH,b,$a])->[ma,$a])),
(`sI,f3 λa b c=>`(fF X $a (λ$b:ident H Q=>$c))),
(`sJ,f0 `(oq W.heap H)),
(`sK,f0 `(aH (jv c l))),
(`sL,f0 `([aY,σ,[cV]])),
(`sM,f0 `(w.frame=aa L)),
(`sN,f0 `(dU x.name=ae)),
(`sO,f0 `(ds.drop [Y])),
(`sP,f0 `(.str nm tk)),
(`sQ,f0 `(ay "total")),
(`sR,f2 λa b=>`(λ($a :Nat)=>[cz,$b])),
(`sS,f0 `(I.cell x c e)),
(`sT,f0 `(apos.endLine)),
(`sU,f0 `(ax nm _ b)),
(`sV,f3 λa b c=>`(λz=>$(a).elim $b $c)),
(`sW,f2 λa b=>`(gR (.builtin $a) $b)),
(`sX,f1 λa=>`([b1,.c [bh,$a]])),
(`sY,f0 `(λ_=>[ca])),
(`sZ,f0 `(w::outer)),
(`s_,f0 `(r8 own+1)),
(`sa,f1 λa=>`(λj=>ao ($a))),
(`sb,f0 `(s.heap.IsList l G)),
(`sc,f1 λa=>`(.b1 [lX] [a6,$a])),
(`sd,f0 `(ps ["book","row"])),
(`se,f1 λa=>`([rA,[al],26,$a])),
(`sf,f0 `(j.heap.objs.size)),
(`sg,f0 `((p::q)::rows)),
(`sh,f0 `(λr=>a8 r.1)),
(`si,f0 `(.Name y G)),
(`sj,f5 λa b c d e=>`([hC,.Assign [$a] $b $c,pY $d $e])),
(`sk,f0 `(b.items.map cI)),
(`sl,f0 `(.int i t)),
(`sm,f0 `(PA X (e::es) t)),
(`sn,f0 `(X.A.handled=ag)),
(`so,f0 `(jI b c=ae)),
(`sp,f7 λa b c d e f g=>`(m.bind.mono λy$a:ident$b:ident$c:ident#[$d,$e,$f,u]C$g:ident=>?_)),
(`sq,f1 λa=>`(aE _ _ $a _ _ _)),
(`sr,f1 λa=>`(sd [c4] X.A X.env $a))]
def T47:L0:=[(`ss,f2 λa b=>`(s.heap.update $a $b)),
(`st,f0 `(λi d hd=>?_)),
(`su,f1 λa=>`(oF λi j=>[bh,$a])),
(`sv,f1 λa=>`(aG T X.K r F $a v)),
(`sx,f1 λa=>`(aE _ _ ($a) _ _ s)),
(`sy,f0 `(λx S=>rfl)),
(`sz,f0 `(t.name∉c_ b)),
(`t',f4 λa b c d=>`({name:=$a,rate:=$b,within:=$c,over:=$d})),
(`t0,f2 λa b=>`(fB T X.K Z $a $b)),
(`t1,f0 `(b3 i 1 (b_ [bP]))),
(`t2,f1 λa=>`([jM,(b.items.take $a).flatMap (iw b)])),
(`t3,f1 λa=>`(kY qual scope [ar] f $a)),
(`t4,f1 λa=>`(cn "off" $a=af/\cn "less" $a=af)),
(`t5,f0 `(λt=>t++[10])),
(`t6,f3 λa b c=>`(∀(s:aD)(H:Hp)(C:ai)($a:ident :[h])($b:ident :[h]),$c)),
(`t7,f1 λa=>`(dE pos (bb $a env))),
(`t8,f2 λa b=>`([ax,[$a,(.b1 .str $b)]])),
(`t9,f0 `(V->([na])->([na])->[nC])),
(`tA,f0 `([j1,[dq]])),
(`tB,f0 `([e6,[aK]])),
(`tC,f2 λa b=>`([AB,$a,d,w,$b,W])),
(`tD,f0 `(whole*w)),
(`tE,f0 `(i8 x n)),
(`tF,f0 `(aM e env)),
(`tG,f0 `(.c [aX])),
(`tH,f2 λa b=>`({$a with toks:=$b})),
(`tI,f1 λa=>`([aB,False,$a].elim)),
(`tJ,f3 λa b c=>`({name:=$a,price:=$b,taxes:=$c,volume:=[],steps:=[],free:=ag})),
(`tL,f1 λa=>`(g7 b ts $a +gl (tf b ts $a i) [oD])),
(`tM,f5 λa b c d e=>`(#[by show 2<=bS;rw[ah],[$a,$b],.cons $c (.cons $d [aA]),#[_,[bG,sb.2 _ (gj $e),hT],Y,_,Y]])),
(`tN,f4 λa b c d=>`(∀v,aG T $a $b $c d v->Q v $d)),
(`tO,f0 `(I.bk.St (line:=line) (ws:=ws) (n:=n) hra)),
(`tP,f2 λa b=>`([vj,$a,I.base,I.loc,I.cell,$b,I.aO,I.len])),
(`tQ,f3 λa b c=>`([C9,λb$a:ident J$b:ident=>$c])),
(`tR,f2 λa b=>`([gn,find b x,p,[fd,[H],$a,[X],ag],ag]=fK $b x)),
(`tS,f1 λa=>`(X.A.units+$a<dM)),
(`tT,f0 `(C9 (.builtin id)=bx [bR,"method_descriptor"])),
(`tU,f1 λa=>`([S,(ps.take $a).flatMap [aF,[gN b [H],bJ [X]]],sD])),
(`tV,f1 λa=>`(A.under (.builtin "type.__call__" #[[iO]::$a,J]))),
(`tW,f0 `([ay "apart",iM b [H],iM b [X]]))]
def T48:L0:=[(`tX,f1 λa=>`((cj b $a).within)),
(`tY,f1 λa=>`([bl,[W,$a]])),
(`tZ,f0 `([kg,[aF,[X]*[yD]]])),
(`t_,f0 `([tJ,x.name,x.price,x.taxes])),
(`ta,f0 `(x.cps.size)),
(`tb,f1 λa=>`(c7 P w H h a $a)),
(`tc,f0 `(.error _)),
(`td,f2 λa b=>`(J _ _ _ _ _ $a $b)),
(`te,f1 λa=>`(Ir.cD Z $a env)),
(`tf,f2 λa b=>`($(a).contains $b=af)),
(`th,f1 λa=>`([mB,$a,Q,[kZ]])),
(`ti,f0 `([dZ,[aP]])),
(`tj,f0 `(Ir.dg _ i)),
(`tk,f0 `(q.get L)),
(`tl,f1 λa=>`(HT.dP $a 0 lo)),
(`tm,f0 `(cu _ 1 _)),
(`tn,f1 λa=>`([aB,af=ae,$a])),
(`to,f1 λa=>`(h.bind.mono $a)),
(`tp,f0 `([bk,dk x])),
(`tq,f0 `([h]×Nat)),
(`tr,f0 `(fs.length)),
(`ts,f0 `(di [ee])),
(`tt,f0 `(km b c C)),
(`tu,f3 λa b c=>`(λi e=>∃$a:ident$b:ident,e=$c)),
(`tv,f0 `([ap,e,J])),
(`tw,f0 `(T0.dq k)),
(`tx,f1 λa=>`($(a).isEmpty)),
(`ty,f0 `([bk,[rP]])),
(`tz,f0 `([gj,[U]])),
(`u',f1 λa=>`(al.ite [aB,[pG],$a])),
(`u0,f0 `(a.flatMap [t5])),
(`u1,f0 `(q _ _ _ z)),
(`u2,f0 `(dP G.size 0 lo)),
(`u3,f0 `(λz=>by cases z)),
(`u4,f0 `(λb o e L=>?_)),
(`u6,f0 `([q,g.hN,g.nd])),
(`u7,f0 `(.dT [([],v)])),
(`u8,f0 `([js,Ir.D.atom])),
(`u9,f0 `(HS S n0 P h ht)),
(`uA,f1 λa=>`(hl $a=aa [bR,$a]))]
def T49:L0:=[(`uB,f2 λa b=>`(PW X $a (ky T X.K Z E $b))),
(`uC,f1 λa=>`((bf a c _ $a X E g).se)),
(`uD,f1 λa=>`(I.base.slot b o e $a J L)),
(`uE,f2 λa b=>`(I.laid $a (by simp) $b)),
(`uG,f1 λa=>`(i_ (nH b) ($a) 10000)),
(`uH,f0 `(λx=>a8 (pH b x))),
(`uI,f0 `([(iP "default",d)])),
(`uJ,f0 `(.comp I t k it e)),
(`uK,f0 `(h.uses.getD [cy] 0)),
(`uL,f1 λa=>`(al.pure c g [f] _ ($a))),
(`uM,f1 λa=>`(b.apart.contains $a)),
(`uN,f2 λa b=>`(∀s',([c5,$a,s'])->Q $b s')),
(`uO,f0 `(ak X pins B H' s')),
(`uP,f2 λa b=>`(cW b t [aS,C] $a S=[dK,$b])),
(`uQ,f1 λa=>`(λo q=>[bG,$a,q])),
(`uR,f1 λa=>`(λz=>[bo,$a].1 Y)),
(`uS,f0 `(gJ b (cy c) x=ae)),
(`uT,f2 λa b=>`([ap,.BinOp a $a b pos,$b])),
(`uU,f0 `(λz=>nomatch z)),
(`uV,f2 λa b=>`(λpins s σ H Q I$a:ident=>$b)),
(`uW,f0 `(λz=>[pP,z])),
(`uX,f1 λa=>`([iq,[ha,$(a).2 b J]])),
(`uY,f0 `(az.toArray.size)),
(`uZ,f0 `(x.steps.isEmpty)),
(`u_,f1 λa=>`([bZ,Ir.Flow.nx $a])),
(`ua,f2 λa b=>`(.ex [ef,35,[al],[a6,$a],.g $b])),
(`ub,f1 λa=>`(λo q=>k $a (by simp) o q)),
(`uc,f1 λa=>`([pB].push [jC,[hc,$a],0])),
(`ud,f2 λa b=>`(∀($a:ident M:[h]),($b ++$a)++M=$b ++($a ++M))),
(`ue,f0 `(aa (.cb o (.dT B)))),
(`uf,f4 λa b c d=>`(oi fuel $a ([az,seval,bV $b,g,$c:term,$d:term]))),
(`ug,f0 `((uk b).filter (gJ b c))),
(`uh,f0 `(λ_ _ q=>[kD])),
(`ui,f0 `(λr=>[W,r.map D.int])),
(`uj,f4 λa b c d=>`(∀l:$a,([gw,$b])->[aN,l.flatMap $c,$d])),
(`uk,f0 `(O _ s _ H _ I h)),
(`ul,f0 `([A,neg,.NotIn,.In])),
(`um,f0 `(λr=>! ao (r.2=0))),
(`un,f1 λa=>`(gq K (jp K $a) "__init__")),
(`uo,f1 λa=>`(Ir.eJ (f' Z I t d_ [pV]) $a))]
def T50:L0:=[(`up,f1 λa=>`(∀x c,([l6,x,c])->c≠$a)),
(`uq,f0 `(Ir.rd [gY] env [k8])),
(`ur,f0 `([115,116,101,112])),
(`us,f0 `([102,114,111,109])),
(`ut,f0 `([111,118,101,114])),
(`uu,f0 `([102,114,101,101])),
(`uv,f0 `(λx=>ao (x≠0))),
(`uw,f1 λa=>`(-(2^62)<=$a/\$a<2^62)),
(`ux,f0 `(h.basket.getD [cy] 0)),
(`uy,f1 λa=>`(I.base.keep b o e $a J L)),
(`uz,f0 `([S,br (2^k),gL k])),
(`v',f1 λa=>`(x.taxes.map $a)),
(`v0,f0 `(ee x f s)),
(`v1,f0 `(#[_,_,Y])),
(`v2,f0 `(n+10+[kz])),
(`v3,f2 λa b=>`([A,$a=0,ag,aa $b])),
(`v4,f0 `(a+10000)),
(`v5,f0 `(l.dropLast)),
(`v6,f0 `([dn]+1+1)),
(`v7,f2 λa b=>`(λe=>ah $a $b e)),
(`v8,f2 λa b=>`([A,$a,[FZ,$b],[aW]])),
(`v9,f2 λa b=>`($(a).bd λ_ S=>$b)),
(`vA,f0 `([cI x,[dm]])),
(`vB,f0 `(w.map D.int)),
(`vC,f0 `(.blt)),
(`vD,f0 `([f9,[iE],V])),
(`vE,f0 `([jU,x]=[kc])),
(`vF,f0 `(KT H kvs xs)),
(`vG,f0 `(cw K H a xs)),
(`vH,f0 `(gq K iB x)),
(`vI,f0 `(mH _ H Y)),
(`vJ,f4 λa b c d=>`(let#[o,$a,$b]:=$c;#[o,$d,$b])),
(`vK,f2 λa b=>`(J.rate _ (sO t $a $b))),
(`vL,f1 λa=>`([hU,uD $a X.env])),
(`vM,f1 λa=>`(fa $a=aa (2,0))),
(`vN,f0 `(F a=[ln,B])),
(`vO,f2 λa b=>`(W.extBut _ _ $a $b)),
(`vP,f2 λa b=>`(q.extBut _ _ $a $b)),
(`vQ,f0 `(Ir.b4 e t)),
(`vR,f0 `(B++[[R]]))]
def T51:L0:=[(`vS,f0 `(fD x.free)),
(`vT,f0 `([bL]+1+j)),
(`vU,f0 `(Ir.bK l y)),
(`vV,f0 `(eI [an] X.A)),
(`vW,f0 `([eE,(·.1)])),
(`vX,f0 `(ps ["self"])),
(`vY,f1 λa=>`(rA T Z X E f $a)),
(`vZ,f0 `(g.map gP)),
(`v_,f1 λa=>`(lo<=$a/\$a<=q)),
(`va,f0 `(A.units+1<dM)),
(`vb,f3 λa b c=>`(iR $a n0 P A.nb r line $b $c)),
(`vc,f0 `([dX]=[e4,[bU]])),
(`vd,f0 `(.Name r _)),
(`ve,f0 `(X.N.length)),
(`vf,f2 λa b=>`(∀σ H Q,([nR,$a,Q])->$b)),
(`vg,f0 `(λb C e=>?_)),
(`vh,f0 `(λp hp=>?_)),
(`vi,f0 `(dr b [gd] [bI])),
(`vj,f7 λa b c d e f g=>`(#[$a,I.os,I.bare,$b,$c,$d,I.free,I.ie,$e,$f,$g])),
(`vk,f2 λa b=>`(dn .len $a S=[bQ,$b])),
(`vl,f1 λa=>`(h.coupons.map $a)),
(`vm,f0 `(pB I.nm.nd x)),
(`vn,f0 `(Ir.M Ir.Flow)),
(`vo,f0 `([W,[mg,dk]])),
(`vp,f0 `(Ir.ah Z _ _)),
(`vq,f2 λa b=>`(ps ["desk","numbers","rows",$a,$b])),
(`vr,f0 `(λ_ _ z=>z)),
(`vs,f0 `([aY,A.az,t])),
(`vt,f1 λa=>`(Ir.place [E] $a)),
(`vu,f0 `(λt=>[rL])),
(`vv,f0 `([tL,a]*[jm])),
(`vw,f1 λa=>`(eY _ _ $a _)),
(`vx,f2 λa b=>`(s.heap.FunFrames $a $b)),
(`vy,f0 `(U->aj->R J)),
(`vz,f1 λa=>`(S++[.aX c $a])),
(`w',f3 λa b c=>`([[cn],[ja],[lq,i4 3 $a,tD],[tp],$b,$c,[V]])),
(`w0,f2 λa b=>`(PH X $a [E0,$b])),
(`w1,f0 `([f8,[bb,n+1],1,[cK,n+1]])),
(`w2,f0 `([L9])),
(`w3,f2 λa b=>`(.Raise (aa (.Call (.Name x np) $a [] $b)) ag pos))]
def T52:L0:=[(`w4,f2 λa b=>`(∀(c$a:ident :aP)($b:ident :[h]),(S++c::$b).set [ab] $a=S++$a ::$b)),
(`w5,f1 λa=>`(hs.2 b (di (hc [ee] $a)))),
(`w6,f0 `((el [fD] j.1,fk [fD] j.1))),
(`w7,f3 λa b c=>`(mZ X $a [nX,$b,∃a,[rc]/\$b=[]/\True/\[iP,$c]])),
(`w8,f5 λa b c d e=>`([ih,$a,37,[[jw],[bw],[L,$b]],$c,nD,cu $d $e [e4,$c]])),
(`w9,f2 λa b=>`([[c6,A.nb],[c6,r],[b_,f],[g0],$a,$b])),
(`wA,f1 λa=>`([gx,[cC],t,iF b ([h1].take i) t+[A,t+1∈[g5].take $a,[Cc],0]])),
(`wB,f1 λa=>`(a8 [$a,x.name,bJ [gr],bJ [ns]])),
(`wC,f0 `([BJ])),
(`wD,f1 λa=>`([L,[ao,$a,[111,102,102],[108,101,115,115]]])),
(`wE,f3 λa b c=>`([wd]/\∃B,KV $a B/\h.DictOf (gB $b $c) a B)),
(`wF,f7 λa b c d e f g=>`(#[g.ft,g.hu,g.hN,g.nd,$a,g.gv,g.mt,$b,g.nj,g.za,g.wf,g.wn,g.wl,$c,$d,$e,$f,$g,g.xe])),
(`wG,f2 λa b=>`(PA X $a (ib T X.K Z E $b))),
(`wH,f6 λa b c d e f=>`(ng $a P w K mg base N qual $b $c $d A outer $e $f E)),
(`wI,f0 `({name:=[R],price:=[b4],parts:=o.1})),
(`wJ,f0 `(∀whole,uB e X.env whole=(do let v←whole;pd e.pos;iC [v] (IQ v)))),
(`wK,f1 λa=>`([.ei 3 [ax,[[aR,$a],[bW,0],[D9],(.b1 .str [a4])]]])),
(`wL,f6 λa b c d e f=>`(∀(pins:[eJ])(s:aD)(σ:St)(H:Hp)($a:ident$b:ident :V)($c:ident$d:ident :aq)(Q:VK),([ac])->bC $a $c->bC $b $d->$e->[hD,$f,[ji]])),
(`wM,f1 λa=>`(#[$a,H,[hl],[gS],q])),
(`wN,f0 `([yb])),
(`wO,f2 λa b=>`(IU $a $b O new=(do iC [new,$b,O] (uE $b O new);zd [new,$b,O] [];bx .next))),
(`wP,f0 `([aB,al T _ r F H _ _ E,g])),
(`wQ,f0 `([wo].foldl [p8] ([]:[jN,[aj]]))),
(`wR,f1 λa=>`([ng,x,H1,$a])),
(`wS,f0 `([[c6,A.nb],[c6,r],[b_,T],[g0],[c6,[ab]]])),
(`wT,f0 `(ee [os] [ae,[oA]] [aE,[oA]])),
(`wV,f1 λa=>`(#[pe,pX ($a) [LO],m7 pe [f]])),
(`wW,f3 λa b c=>`(∀c o,c≠z->c≠TO->c≠$a->c≠$b->([bH,c,o])->$c=[a9])),
(`wX,f1 λa=>`([ab]+[Fu,[kz]+$a +1+1+1+1]=[gL]+[kz]+$a)),
(`wY,f0 `(ao ([E]<=20)&&[ry,x,b3 x 0 (b_ dy)])),
(`wZ,f4 λa b c d=>`(PH X (.ExceptHandler (aa (.Name x np)) $a ($b ::A) pos::$c) ($d))),
(`w_,f3 λa b c=>`(#[$a,$b,I.base.free,$c,I.base.lP,I.base.lB,I.base.lR])),
(`wa,f1 λa=>`([W,l.set j $a])),
(`wb,f1 λa=>`([dK,e.set i $a])),
(`wc,f1 λa=>`(X.env.kindOf $a)),
(`wd,f0 `([bE,a,iA])),
(`we,f0 `([f9,κ,V])),
(`wf,f0 `(X.mg x=ag)),
(`wg,f0 `(λs=>rfl)),
(`wh,f0 `(r_ j b=af))]
def T53:L0:=[(`wi,f0 `([l6,x,cr])),
(`wj,f0 `(#[_,e,Y])),
(`wk,f0 `([t7,e::l])),
(`wl,f0 `(S b o e)),
(`wm,f0 `(g.bZ hh)),
(`wn,f2 λa b=>`(te σ H λ$a:ident H1=>$b)),
(`wo,f0 `(l.take i)),
(`wp,f0 `(C [ae,j])),
(`wq,f0 `(C.drop 1)),
(`wr,f0 `([hj,1,2])),
(`ws,f2 λa b=>`(h.IsListIter $a $b i)),
(`wt,f1 λa=>`([kl,$a,D.atom])),
(`wu,f0 `((m,k)::r)),
(`wv,f1 λa=>`(s.heap.get? $a)),
(`ww,f6 λa b c d e f=>`([[cn],[ay,a],[bk,[bs,ts.map nD]],[bk,ia [mO]],[b_,[hq,[hn]]],[ay,($a :$b)],[ay,$c],[bl,[cc,$d]],$e,$f])),
(`wx,f1 λa=>`([Cm,$a,h])),
(`wy,f2 λa b=>`((dE $a (bb $b X.env)).any (·.1)=af)),
(`wz,f0 `([DW,px p x jj kk p0 p1 p2 p3 p4 p5 p6,[ra],pm,ctv])),
(`x',f3 λa b c=>`([ww,[bb,[mh]],Int,[q6],$a,$b,$c])),
(`x1,f1 λa=>`([g1,X.pn++pins,[H]≠$a])),
(`x2,f0 `(gG.cells.lookup y=aa c)),
(`x3,f0 `(h.ok _ ([b0,c_]))),
(`x4,f2 λa b=>`(bp $a H p $b\/cw $a H p $b)),
(`x5,f0 `(B.any [aF,[H]==[R]])),
(`x6,f1 λa=>`(eC $a [aP] S=bD [q_] S)),
(`x7,f0 `(upd F p (.cb od u))),
(`x8,f0 `([bR,"BaseException"])),
(`x9,f2 λa b=>`([bH,it,rf $a $b d i n ep ok ov])),
(`xA,f1 λa=>`([(0,[jb]),(4,[l,[ea]]),(10,$a)])),
(`xB,f1 λa=>`(λG=>[A,G.1=k,(G.1,$a),G])),
(`xC,f0 `([A,F a≠ag\/P a,H' a,ag])),
(`xD,f0 `(#[p,[],Y,bW,[f6],by rfl])),
(`xE,f2 λa b=>`([ck,$a]=[ff,[nj,a],x,[ck,b],y,$b])),
(`xF,f1 λa=>`([d3,∃i j,x=[aP]/\y=[c0]/\$a])),
(`xG,f0 `([Fn,List.toArray [AR]])),
(`xH,f0 `(X.bZ s3 H3 c8 ce fp)),
(`xI,f1 λa=>`(px p x k $a J p1 p2 p3 p4 a p6)),
(`xJ,f0 `(.Attribute o [kG] Cs)),
(`xK,f0 `([S,cM (cp G S k) l,.lst])),
(`xL,f0 `(a x _ _ _ _ U.rule U.unit))]
def T54:L0:=[(`xM,f0 `(a z _ _ _ _ C.rule C.unit)),
(`xN,f0 `([f5,λr=>1+[gm]].sum)),
(`xO,f4 λa b c d=>`([cW,1,$a,$b,S++[.aX $c []]]=[lK,S++$d])),
(`xP,f0 `([[sU],[b6],[b6],[b6]])),
(`xQ,f1 λa=>`({b with items:=b.items.set i $a})),
(`xR,f1 λa=>`(h.coupons.all (λj=>ao (j<$a)))),
(`xS,f0 `(x==("__classdict__":au))),
(`xT,f2 λa b=>`(m5 P w K tg ($a) [it] it (λi h=>$b))),
(`xU,f2 λa b=>`(λσ H Q=>to σ H λx H1=>$a/\$b)),
(`xV,f0 `([wH,kD P w,S,f,G,L,I])),
(`xW,f0 `(pf _ (pf _ (vn J e)))),
(`xX,f0 `([97,112,97,114,116])),
(`xY,f0 `(X.tr xe (X.pn++pins))),
(`xZ,f0 `(cJ T X.K r F H σ env O)),
(`x_,f0 `([aB,h.get? a=[cf],x])),
(`xb,f0 `(λb r o e=>[ha,h8 _ _ (λh=>g [f])])),
(`xc,f1 λa=>`((iG [l5,[pL],n,$a]).take [zi])),
(`xd,f0 `([[fG,[kn]],[fG,c.map sD],[ay,p]])),
(`xe,f0 `(h r _ _ (.lay c n) (c.lay n) _ ?_)),
(`xf,f5 λa b c d e=>`(py hr hw I.nm [zw] $a ([ah]) ($b) (λx=>$c) $d $e)),
(`xg,f0 `(Ir.cM [aF,[cl,f [X],x,([H],x)]] l)),
(`xh,f1 λa=>`(∀(c:aP)($a:ident :[h]),[aQ,S++c::$a,[ab],c])),
(`xi,f0 `(λG=>ao (G.1=k))),
(`xj,f9 λa b c d e f g h i=>`(∀(pins:[eJ])(s:aD)(σ:St)(H:Hp)($a:ident :$b)($c:ident :$d)(Q:$e),([ac])->$f->$g->[hD,$h,$i])),
(`xk,f1 λa=>`({A with bs:=A.bs++[aa $a]})),
(`xl,f4 λa b c d=>`(X.lm s H $a (dN $a $b $c X.env) $d xe pn)),
(`xn,f0 `(c.own (c.hx n) [rl])),
(`xo,f1 λa=>`([bq,[bX,$a,[[zr]]]])),
(`xp,f1 λa=>`(aH [S,[hn].take $a,ja b ts a])),
(`xq,f3 λa b c=>`(xY $a b.gl b.mg b.bt (iZ $b js $c) b.nm b.db $c)),
(`xr,f3 λa b c=>`(find $a y=[fd,y,t.name,($b,$c +1),find b y])),
(`xs,f3 λa b c=>`(upd [cu,$a,[bl,$b]] $b (.aX $c $a []))),
(`xt,f7 λa b c d e f g=>`([cK,$a].set $b [W,$c ++[$d]]=[d7,S.set $b [dv,$e ++[$f],$g],$a])),
(`xu,f0 `([o_,z5 s.heap l C]=[cf])),
(`xv,f0 `((g_ [cs] 3).filter (ke b c))),
(`xw,f1 λa=>`([ax _ _ b,[bw],[L,$a]])),
(`xx,f3 λa b c=>`(zj name qual $a body scope F kV $b pm $c O ct)),
(`xy,f0 `([W,[v',nD]])),
(`xz,f0 `(λw W=>xD G fx r fs w [f])),
(`y',f0 `((AW B).zip t))]
def T55:L0:=[(`y0,f0 `(.b1 .sum [ai])),
(`y1,f0 `(.b6 [nG,4,1])),
(`y2,f0 `([W,c.map D.int])),
(`y3,f0 `(C.map (eS b l))),
(`y4,f1 λa=>`(P.at_ i _ _ q (cQ $a))),
(`y5,f3 λa b c=>`(newD [kk] $a $b S=[pf,S++$c])),
(`y6,f0 `(λa o e=>[J,e])),
(`y7,f0 `(bad ([wU]))),
(`y8,f0 `(cU T _ Z E _)),
(`y9,f0 `(Gl X "enumerate")),
(`yA,f0 `(bj.ok ?_ ?_ [jt])),
(`yB,f0 `(oP fp s7.heap)),
(`yC,f0 `(.comp I t k it d)),
(`yD,f0 `((cC b [H]).price)),
(`yE,f0 `(x.taxes.length<64)),
(`yF,f0 `([q,e,True.intro])),
(`yG,f0 `([fr,88,[tz]])),
(`yH,f0 `([cr,[fr,20,[ai]]])),
(`yI,f2 λa b=>`(ka (ao $a) [iu,[rZ],nm,$b])),
(`yJ,f0 `(#[hp,g,d,tk,os])),
(`yK,f0 `(whole*ws[i]/[da])),
(`yL,f0 `(.Dict [] [] pos)),
(`yM,f0 `(qE [hN,[kQ]] [jk])),
(`yN,f1 λa=>`([bX,48,[[al],[aR,$a]]])),
(`yO,f1 λa=>`(s.heap.IsItemsView $a d)),
(`yP,f0 `([q,jx [g],H.pr])),
(`yQ,f0 `([am,x.length]<=8)),
(`yR,f0 `([bD].uses.length)),
(`yS,f0 `((tl x).drop i)),
(`yT,f0 `(U _ s _ H _ I h)),
(`yU,f0 `(.add [al] [a7])),
(`yV,f0 `(λc L=>by simp)),
(`yW,f0 `(s _ _ (f _ _ h))),
(`yX,f0 `(X.env.frame=aa L)),
(`yY,f0 `(λ_ _ e=>[J,e])),
(`yZ,f2 λa b=>`(∀(j:Nat)k,([cb,$a,k])->$b)),
(`y_,f0 `(zS t [nx] [d0])),
(`ya,f3 λa b c=>`([cX,$a,[],[$b],w::ws,($c)::ws])),
(`yb,f0 `(.tuple [[aP],[c0]])),
(`yc,f0 `(al T _ _ _ _ _ _ E))]
def T56:L0:=[(`yd,f0 `([117,115,101,115])),
(`ye,f1 λa=>`(cM (λ(p:$a×D)=>[AP]) l)),
(`yf,f0 `(o.data=.dict es ep)),
(`yg,f1 λa=>`(kp _ _ (G.keeps _ _ $a))),
(`yh,f2 λa b=>`([cj,.Constant $a j pos,tC $b])),
(`yi,f0 `(.cb od (.dT fS))),
(`yj,f2 λa b=>`([g7,30,[[bi,[aR,$a],[aR,$b]]]])),
(`yk,f1 λa=>`(Ap λ_ _ _ _ _ _ _ q=>$a)),
(`yl,f0 `(I.mod.fA.keeps I.bk)),
(`ym,f0 `(gw b (a.take i) [p3])),
(`yn,f0 `(#[[eO],H,I,Y,?_])),
(`yo,f1 λa=>`([wH,CX,scope,f,$a,s,H])),
(`yp,f1 λa=>`(∀env,[bt,.iS $a]=[gf])),
(`yq,f1 λa=>`([[bw],nD _,[dP],[l,$a]])),
(`yr,f0 `([il,B,L,q,j,z,u])),
(`ys,f0 `(Reads T K r F H d v)),
(`yt,f0 `([ao,uj c x,[bD],0])),
(`yu,f0 `(X.mg "enumerate"=ag)),
(`yv,f0 `(vA p x scope params)),
(`yw,f0 `(((ae,ae),(ae,ae)))),
(`yx,f0 `(λb z=>[c8,z,Z b])),
(`yy,f0 `([pT,[S,o.1,pD]])),
(`yz,f0 `(.comp _ _ _ _ _)),
(`z',f2 λa b=>`(run prog _ $a $b [gl]=_)),
(`z0,f2 λa b=>`([ef,86,$a,[bd],.g $b])),
(`z1,f0 `(j _ J.2)),
(`z2,f1 λa=>`(env.kindOf $a=[fj])),
(`z3,f0 `([W,[ms,eg]])),
(`z4,f0 `(#[_,Y,?_])),
(`z5,f0 `(I.ie x c e)),
(`z6,f0 `(g<=10000000)),
(`z7,f0 `(PI X tg F wi)),
(`z8,f0 `([W,[kg,pD]])),
(`z9,f2 λa b=>`(ao ($a<=c)&&ao (c<=$b))),
(`zA,f2 λa b=>`(eC $a $b S=[gT,bK l $b])),
(`zB,f3 λa b c=>`(dn $a [aV] S=[bT,[gT,$b],x,$c])),
(`zC,f0 `(cB st [c'] v)),
(`zD,f0 `(kvs.any [xi])),
(`zE,f1 λa=>`(λe=>hra (e▸$a))),
(`zF,f0 `(λa C e=>?_))]
def T57:L0:=[(`zG,f0 `(λy c e=>?_)),
(`zH,f0 `(λx c e=>?_)),
(`zI,f2 λa b=>`([bA,.mem $a $b,[se,6]])),
(`zJ,f0 `(h.push [kQ])),
(`zK,f0 `(I.ok.bs b o e)),
(`zL,f0 `([aN,ay s,20])),
(`zM,f2 λa b=>`([cl,fK $a x,i,($b,i)])),
(`zN,f0 `(λz q=>?_)),
(`zO,f0 `(iv b [me] [lc])),
(`zP,f0 `(wh b [gd] [p3])),
(`zQ,f1 λa=>`(∃v,$a=[cV]/\[cL])),
(`zR,f0 `(X.tr xe pn)),
(`zS,f0 `((li o).unit)),
(`zT,f0 `(Unit->Ir.M J)),
(`zU,f0 `(.neg [a7])),
(`zV,f0 `(mC b c [fL])),
(`zW,f5 λa b c d e=>`(#[λi H=>$a,λi H$b:ident$c:ident=>$d,λi H=>$e])),
(`zX,f1 λa=>`(mx ([cx,$a:term]))),
(`zY,f1 λa=>`(h _ s _ H Q I $a)),
(`zZ,f2 λa b=>`([dH,I.bk.ne $a $b Y Y Y])),
(`z_,f2 λa b=>`(∀G,[aQ,[cK,G],$a,$b])),
(`za,f0 `(.own 3 [bF])),
(`zb,f1 λa=>`(.b1 .str [bW,$a])),
(`zc,f0 `(X.mg "range"=ag)),
(`zd,f2 λa b=>`([em,$a,"append",t,[e],$b])),
(`ze,f1 λa=>`(.av [ig,17,$a] 2)),
(`zf,f0 `([104,97,115])),
(`zg,f3 λa b c=>`([jl,$a,35,[[bw],[m,$b],[l,$c]],1]=_)),
(`zh,f0 `(c7 P w H h a _)),
(`zi,f0 `(whole-aH [l8])),
(`zj,f1 λa=>`(tb σ H1 λy H2=>$a)),
(`zk,f1 λa=>`([J,#[Y,B,[cJ,$a]]])),
(`zl,f2 λa b=>`([ei,.Assign $a e pos,$b])),
(`zm,f0 `(Ir.clip [E])),
(`zn,f0 `(x.steps.map eR)),
(`zo,f0 `(λ_ _=>rfl)),
(`zp,f0 `(x≠"__name__")),
(`zq,f0 `(us.length=[mF])),
(`zr,f0 `(.ix [al] [a7])),
(`zs,f0 `(Ir.ah Z _ _ S))]
def T58:L0:=[(`zt,f0 `(fs.map (·.1))),
(`zu,f5 λa b c d e=>`([[cn],[mp],[bl,[hq,$a]],$b,$c,$d,$e,[V]])),
(`zv,f1 λa=>`([rV,t,gl $a (t+1)])),
(`zw,f0 `(I.bk.mW hra)),
(`zx,f0 `(nT (by simp))),
(`zy,f0 `(λL M=>en ..)),
(`zz,f2 λa b=>`([bA,.eq [aK] [fe,$a],$b]))]
def T59:L0:=[(`D,f2 λa b=>`(by by_cases$a:ident :$b)),
(`K,f6 λa b c d e f=>`(by have$a:ident :$b :=$c;have$d:ident :$e :=$f)),
(`M,f4 λa b c d=>`(by obtain⟨$a:ident,$b:ident,$c:ident⟩:=$d)),
(`R,f3 λa b c=>`(by obtain⟨$a:ident,$b:ident⟩:=$c)),
(`V,f4 λa b c d=>`(by have$a:ident :=$b;have$c:ident :=$d)),
(`Y,f2 λa b=>`(by rw[$a:term];exact$b)),
(`a0,f4 λa b c d=>`(by rw[aK,$a:term,$b:term,$c:term];{exact$d})),
(`a1,f7 λa b c d e f g=>`(by rw[K,$a:term,$b:term,$c:term,$d:term,$e:term,$f:term];refine$g)),
(`a2,f0 `(by subst z)),
(`a4,f8 λa b c d e f g h=>`(by have$a:ident :=$b;rw[K,$c:term,$d:term,$e:term,$f:term,$g:term,$h:term])),
(`a6,f0 `(by rw[aC,h])),
(`a7,f2 λa b=>`(by refine#[$a,$b])),
(`a9,f3 λa b c=>`(by obtain⟨$a:ident,$b:ident,_⟩:=$c)),
(`aA,f5 λa b c d e=>`(by have$a:ident :$b :=$c;have$d:ident :=$e)),
(`aB,f1 λa=>`(by rename_i$a:ident)),
(`aC,f1 λa=>`(by split at$a:term)),
(`aE,f2 λa b=>`(by rw[am,$a:term,$b:term];rw[aC,$b:term])),
(`aI,f5 λa b c d e=>`(by have$a:ident :$b :=$c;rw[$d:term]at$e:term)),
(`aJ,f1 λa=>`(by rw[D,q,$a:term])),
(`aK,f3 λa b c=>`(by rcases$a:term with$b:ident|$c:ident)),
(`aL,f5 λa b c d e=>`(by rw[M,$a:term,$b:term,$c:term,$d:term];refine$e)),
(`aN,f0 `(by rw[ax,g])),
(`aO,f8 λa b c d e f g h=>`(by rw[M,$a:term,$b:term,$c:term,$d:term];rw[M,$e:term,$f:term,$g:term,$h:term])),
(`aP,f3 λa b c=>`(by simp only[$a:term,$b:term]at$c:term)),
(`aQ,f2 λa b=>`(by rw[<-$a:term]at$b:term)),
(`aS,f2 λa b=>`(by exact#[$a,$b])),
(`aV,f3 λa b c=>`(by intro pins s σ H$a I$b;refine$c)),
(`aW,f2 λa b=>`(by rw[aj,am $a,am $b])),
(`aX,f1 λa=>`(by rw[aS,$a:term,Y])),
(`aY,f7 λa b c d e f g=>`(by simp only[$a:term,$b:term,$c:term,$d:term,$e:term,$f:term,$g:term])),
(`aZ,f3 λa b c=>`(by have$a:ident :=$b;refine$c)),
(`ab,f1 λa=>`(by simp only[$a:term])),
(`ac,f6 λa b c d e f=>`(by obtain⟨$a:ident,$b:ident,$c:ident,$d:ident,$e:ident⟩:=$f)),
(`ae,f4 λa b c d=>`(by have$a:ident :$b :=$c;refine$d)),
(`ag,f5 λa b c d e=>`(by obtain⟨$a:ident,$b:ident,$c:ident,$d:ident⟩:=$e)),
(`ai,f5 λa b c d e=>`(by have$a:ident :=$b;have$c:ident :$d :=$e)),
(`aj,f2 λa b=>`(by refine$a;refine$b)),
(`ak,f9 λa b c d e f g h i=>`(by rw[K,$a:term,$b:term,$c:term,$d:term,$e:term,$f:term];have$g:ident :$h :=$i)),
(`al,f4 λa b c d=>`(by have$a:ident :$b :=$c;rw[$d:term])),
(`am,f2 λa b=>`(by unfold$a:ident at$b:term))]
def T60:L0:=[(`an,f7 λa b c d e f g=>`(by obtain⟨$a:ident,$b:ident,$c:ident,$d:ident,$e:ident,$f:ident⟩:=$g)),
(`ao,f1 λa=>`(by refine am $a)),
(`ap,f2 λa b=>`(by simp only[$a:term]at$b:term)),
(`ar,f5 λa b c d e=>`(by rw[$a:term]at$b:term;rw[R,$c:term,$d:term,$e:term])),
(`av,f2 λa b=>`(by ({exact$a});{exact$b})),
(`ax,f1 λa=>`(by rw[bH,[aB,False,$a]])),
(`ay,f0 `(by ({grind}))),
(`b',f2 λa b=>`(by rw[$a:term];rw[aa,seval,$b:term])),
(`b1,f0 `(by rw[bs,q,h])),
(`b2,f0 `(by exact this)),
(`b3,f2 λa b=>`(by rw[dp,$a:term,$b:term];subst N W B)),
(`b4,f0 `(by rw[aT,e,h.elim (λh=>#[h,Y]) λ#[_,_,_,_,q]=>eu q])),
(`b5,f1 λa=>`(by exact bj.ok (by simp) Y $a)),
(`b6,f2 λa b=>`(by simp[jP $a];rw[bo,$b:term])),
(`b9,f3 λa b c=>`(by rw[av,$a:term,$b:term];{exact$c})),
(`bA,f0 `(by congr 1)),
(`bD,f0 `(by rw[bo,2])),
(`bE,f2 λa b=>`(by rw[$a:term]at$b:term;simp only at$b:term)),
(`bF,f4 λa b c d=>`(by rw[R,$a:term,$b:term,$c:term];refine$d)),
(`bG,f3 λa b c=>`(by have$a:ident :=[aD,$b:term];simp[$a:term];rw[bo,$c:term])),
(`bH,f1 λa=>`(by exact$(a).elim)),
(`bI,f2 λa b=>`(by have:$a :=$b;grind)),
(`bJ,f0 `(by intro pins s σ H Q I h)),
(`bK,f2 λa b=>`(by with_reducible refine$a;rw[$b:term])),
(`bL,f1 λa=>`(by show$a;unfold Ir.M.bind)),
(`bM,f4 λa b c d=>`(by have$a:ident :$b :=$c;simp[seval,$d:term,$a:term])),
(`bN,f8 λa b c d e f g h=>`(by obtain⟨$a:ident,$b:ident,$c:ident,_⟩:=$d;obtain⟨$e:ident,$f:ident,$g:ident,_⟩:=$h)),
(`bP,f2 λa b=>`(by obtain⟨$a:ident,_,rfl⟩:=b0.mp $b)),
(`bQ,f9 λa b c d e f g h i=>`(by rw[K,$a:term,[Mj,$b,$c],[bM,$d],$e:term,$f:term,$g:term];rw[Y,$a:term,go $c $h $i])),
(`bR,f5 λa b c d e=>`(by rw[aV,$a:term,h,$b:term];subst$c;obtain rfl:$d :=$e)),
(`bS,f1 λa=>`(by rw[R,t,rfl,$a:term];rfl)),
(`bU,f1 λa=>`(by ({exact$a});grind)),
(`bV,f8 λa b c d e f g h=>`(by obtain⟨$a:ident,$b:ident,$c:ident,$d:ident,$e:ident,$f:ident,$g:ident,$h:ident⟩:=h)),
(`bX,f1 λa=>`(by simp[$a:term];split)),
(`bZ,f4 λa b c d=>`(by rcases$a:term with$b:ident|⟨$c:ident,$d:ident⟩)),
(`b_,f5 λa b c d e=>`(by obtain⟨$a:ident,$b:ident,$c:ident,$d:ident,_,$e:ident⟩:=hd)),
(`ba,f3 λa b c=>`(by apply$a;intro$b$c)),
(`bb,f0 `(by constructor)),
(`bc,f4 λa b c d=>`(by rw[$a:term];have$b:ident :$c :=$d)),
(`bd,f2 λa b=>`(by (refine bM λ$a:ident S=>?_);(refine bM λ$b:ident S=>?_)))]
def T61:L0:=[(`be,f0 `(by exact er Y)),
(`bh,f3 λa b c=>`(by have$a:ident :=$b;exact$c)),
(`bi,f2 λa b=>`(by exact absurd $a $b)),
(`bj,f2 λa b=>`(by generalize$a=$b:ident at*)),
(`bk,f1 λa=>`(by (rw[fJ,$a:term]))),
(`bl,f6 λa b c d e f=>`(by rw[R,$a:term,$b:term,$c:term];have$d:ident :$e :=$f)),
(`bm,f5 λa b c d e=>`(by intro pins s σ H x$a v$b Q I$c$d$e)),
(`bn,f4 λa b c d=>`(by have$a:ident :=$b;rw[$c:term]at$d:term)),
(`bo,f1 λa=>`(by exact bj.er $a [g] [g] Y)),
(`bq,f2 λa b=>`(by refine#[$a,$b,?_])),
(`br,f2 λa b=>`(by rw[D,$a:term,$b:term];rw[ay])),
(`bs,f2 λa b=>`(by rw[$a:term]at$b:term;rw[ax,$b:term])),
(`bt,f0 `(by simp only)),
(`bv,f0 `(by rw[ap,aF,h])),
(`bw,f0 `(by split<;>rfl)),
(`bz,f1 λa=>`(by rw[d3];exact$a)),
(`c',f2 λa b=>`(by rw[aI,e,[pS,$a,f],rfl,e,a];unfold Ir.M.bind$b:ident at a)),
(`c0,f6 λa b c d e f=>`(by rw[bv];obtain⟨⟨⟨⟨⟨$a:ident,$b:ident⟩,$c:ident⟩,$d:ident⟩,$e:ident⟩,$f:ident⟩:=h)),
(`c1,f0 `(by intro pins s σ H B us Q I r h)),
(`c2,f0 `(by rw[a9,B,q,h];rw[jn,q])),
(`c3,f0 `(by rw[R,U,g,al.ite [wP]])),
(`c4,f0 `(by rw[V,g,I.tH,w,I.wf])),
(`c5,f0 `(by (rw[bK,uR L ?_,O]))),
(`c6,f2 λa b=>`(by rw[aI,e,$a:term,[aa,$b:term,q],e,a])),
(`c7,f1 λa=>`(by cases$a:term<;>first|rw[a5]|skip)),
(`c8,f2 λa b=>`(by rw[az,seval,hf,j8,dj,b8];have f:[ih,$a,36,[[jw],[bw]],1,sD,[rZ]]:=BW hr hw I.nm [zw] 1 $b)),
(`c9,f0 `(by rw[an,f0,f1,f2,f3,f4,f5,q it (by simp)])),
(`cA,f4 λa b c d=>`(by rw[[bN]];have$a:ident :=$b;rw[bg,$c:term,$a:term,dD];rw[aJ,$d:term])),
(`cB,f1 λa=>`(by exact#[_,_,_,Y,($a).pr])),
(`cD,f3 λa b c=>`(by rw[$a:term]at$b:term;rw[ap,$c:term,$b:term];subst$b)),
(`cE,f4 λa b c d=>`(by rw[ar,$a:term,$b:term,$c:term,$d:term,$b:term];simp[seval,$d:term])),
(`cF,f1 λa=>`(by cases$a:term<;>try rfl)),
(`cG,f1 λa=>`(by rw[aj,[hV],[aJ,$a]])),
(`cH,f8 λa b c d e f g h=>`(by ({rw[dv,$a:term,$b:term]});rw[D,$c:term,$d:term];{rw[dv,$c:term,$e:term]};rw[D,$f:term,$g:term];{rw[dv,$f:term,$h:term]})),
(`cJ,f0 `(by repeat(any_goals(first|rw[h4]|wp_step)))),
(`cK,f0 `(by obtain⟨_,_,_,_,o,_,_,e,_⟩:=x)),
(`cM,f0 `(by rw[R,n,c,p];rw[cF,c])),
(`cN,f3 λa b c=>`(by rw[ar,$a:term,$b:term,p,$c:term,$b:term];rw[ad,seval,$c:term,aZ];rw[be])),
(`cP,f1 λa=>`(by have e:=[aD,J];rw[bf,e,$a:term])),
(`cQ,f0 `(by rw[aT,e,aG.eK kC _ _ h Y]))]
def T62:L0:=[(`cR,f1 λa=>`(by by_cases h:$a<;>simp[seval,h])),
(`cS,f0 `(by rw[bm,y,u,z,N,h])),
(`cT,f3 λa b c=>`(by rw[aJ,$a=$b];rw[ay];{rw[af,aW q,e,$c:term]})),
(`cU,f1 λa=>`(by rw[aa,seval,$a:term];grind)),
(`cV,f0 `(by rw[R,t,rfl,z])),
(`cW,f3 λa b c=>`(by rw[cg,$a:term];rw[d_,$a:term,rfl,rfl,$b:term,$c:term])),
(`cX,f0 `(by first|exact [fa]|exact [aC,Y]|rw[h4])),
(`cY,f1 λa=>`(by show aE _ A.in1 ($a>>=_) _ _ _)),
(`cZ,f1 λa=>`(by rw[dG,B,q,n,z,h,#[B,e.trans q,n,$a]])),
(`c_,f7 λa b c d e f g=>`(by simp only[seval,$a:term,[nm,$b],$c:term,X,$d:term,ka,$e:term];rw[D,hf,$f<=$g];{rw[au,seval,hf,iK,bI];rw[be]})),
(`ca,f4 λa b c d=>`(by rw[$a:term];rw[au,seval,$b:term,$c:term,$d:term])),
(`cb,f1 λa=>`(by rw[bA];funext$a)),
(`cc,f9 λa b c d e f g h i=>`(by cases$a:term with|a0=>cases$b:term;exact$c|bl$d:ident=>cases$b:term;exact$e|int$d:ident=>rw[aG,$f:term,rfl,$b:term,$g:term]|str$d:ident=>rw[aG,$f:term,rfl,$b:term,$h:term]|_=>rw[bi,show af=ae from$i,iN])),
(`ce,f3 λa b c=>`(by obtain⟨fuel,rfl⟩:∃$a:ident,$b :=#[$c,[g]])),
(`cf,f4 λa b c d=>`(by rw[aI,$a:term,$b:term,$c:term,$a:term,$d:term];rw[am,Ir.M.bind,$d:term])),
(`cg,f1 λa=>`(by simp only[bX,dS,d5]at$a:term)),
(`ch,f3 λa b c=>`(by rw[an,p,B,rfl,$a:term,U,q,$b:term];exact$c)),
(`cl,f0 `(by intro pins s σ H D I h)),
(`cm,f0 `(by exact#[_,Y,[AJ]])),
(`cn,f0 `(by rw[bV,env,O,S,r,F,c,P,h])),
(`co,f6 λa b c d e f=>`(by obtain⟨⟨⟨⟨$a:ident,$b:ident⟩,$c:ident⟩,$d:ident⟩,$e:ident⟩:=$f)),
(`cp,f0 `(by ({grind});grind)),
(`cr,f1 λa=>`(by rw[am,$a:term,h];rw[bv])),
(`cs,f2 λa b=>`(by refine .of (b9 $a [Cm,$b,h]) [bJ] [f])),
(`ct,f2 λa b=>`(by have e:$a=Ir.bad:=[aa,$b:term,q];rw[af,e,a,a.bad.elim])),
(`cu,f0 `(by intro pins s σ H xs us Q I r h)),
(`cv,f0 `(by rw[ac,v,us,rfl,a,b,h.dO])),
(`cw,f3 λa b c=>`(by rw[R,t,rfl,$a:term];rw[aG,t',rfl,$b:term,$c:term])),
(`cz,f3 λa b c=>`(by rw[ar,$a:term,$b:term,p,$c:term,$b:term];rw[aa,seval,$c:term];rw[be])),
(`d',f2 λa b=>`(by rw[ar,l,f,L,q,f];rw[V,j,Mf l,O,[KL,[ae,x]]];rw[aA,U,$a:term,by have:=I.sl;have:=Ez b;rw[fs],z,[mU,[eT,qI hra]]];simp[seval,q,d8 O.bk,x_,O.se,U,jy z];refine#[L,_,A,nm,cB st [L,$b] (lQ [R]),Y,?_,[f],hra,Y])),
(`d0,f3 λa b c=>`(by rw[a4,S,Jd (prog:=prog) (w:=w) (A:=A.in1) (hh) [ar] l (di lt) G,c,[xG].IsListIter [ar] l 0,[mu],X,[Kl].IsListIter [ar] l 0/\[Kl].IsList l G,#[c.at λo e=>[gQ],(U.push _).push _]];(have C:=by have:=cZ [xG] (o:=[Ak]) Y;rwa [gm]at this);rw[ak,f,[dh,s.heap.get? b=[a9],[k_,[xG].push [Ak]]],[dB,[dQ,[gQ]]],g,[bL]∉[[ar],l],[f],y,[bL]∉[[ar]],by simp];rw[ci,gm,[m6,$a,pu $b ?_]];rw[sq $a _];rw[cY,wA [m,[bL]]];refine [aJ,k4 C Y ?_];rw[cY,uS (je [fq]) _];by_cases L:0<G.size;{refine [aJ,qG (S.item 0 _ _ _ L X λv x tk N O Z=>?_)];have H:=Z _ _ y C;rw[cY,zw [bL] (λ_=>(List.toArray [v,v]))];refine [aJ,qH H Y ?_];rw[ci,B,[m6,$a,$c]];refine m J T q L p [dB,u b o [lj] [lj] [cw,h8 _ _ [lj],Z b o [lj] (f b o e)]];rw[av,[Ez],di (wt [ee]) z];rw[av,gj (wt [ee]) z,[Ez]]};{have W:G.size=0:=[g];refine [aJ,qG (S.done _ _ _ [f] λx tk Z=>?_)];rw[d8,[aJ,wy [cp]],h0 W x tk [dB,Z b o (λz=>[Ez]) (f b o e)]]})),
(`d1,f9 λa b c d e f g h i=>`(by rw[ak,sz,[eu,$a,$b],λb J=>by rw[a9,o,e,T.obj _ _ t8 b J];exact [ee],f3,[eu,$a,hG X pins (upd H2 D ($c)) b/\$d],λb J=>by rw[aZ,dQ,sz b J,#[#[?_,[bo,f2 b J]],[a3,h3,gm,wt dQ]]];rw[Y,aW ([bB,hD,di dQ]),[M,f2 b J]],v1,tn 0 $e,T.keep _ _ _ t8 λb _ o e=>[q,h3,[gQ]]];rw[V,I4,Qb I3 ok hN f3,pg,hg $f (upd H2 D ($c)) $g [nI,$h,$i] $a];rw[V,pt,ht $f (upd H2 D ($c)) $g [nI,$h,$i] $a,pe,he $f (upd H2 D ($c)) $g [nI,$h,$i] $a])),
(`d2,f9 λa b c d e f g h i=>`(by rw[aZ,I1,I.yf (t':=s.toks) (ch:=[z,TI,TO,$a,$b]) (λc o J q=>[cw,sb.2 c (λ$c:ident=>[pP,$c]),[Gk,$c,[pP,$c]]]) hf [dq] new,#[[fq],_,I1,Y,#[_,x,y,Y,[tA],Y,λl U=>$d,λl U=>[q,$e,hy]],#[HL,?_,#[$f,u2,?_],?_,?_],λc t4=>?_]];rw[av,[cw,sb.2 _ D.TIz,hk _ _ D.TIz D.TITO D.TIi1 D.TIi2 j],[bG,sb.2 _ D.TOz,HK]];rw[av,G.at [uQ,sb.2 _ D.i1z],$g:term];{(have dQ:c<[ar]:=by have e':=[aD,t4];rcases e' with q|q|q|q|q;rw[ay];{rw[Y,q,bF j]};{rw[Y,q,bF n]};{rw[q];rw[p0,e1,$h:term]};{rw[q];rw[p0,e2,$i:term]});rw[Y,aW (di dQ),[M,hf c t4]]})),
(`d3,f0 `(by obtain⟨⟨rfl,rfl⟩,rfl⟩:=u)),
(`d4,f5 λa b c d e=>`(by intro j s x c t hj m f L U;rw[ae,$a:term,$b:term,[g],pu $c ?_];rw[sq $d _];show [Di,wA [lY]];rw[ao,k4 L Y [aB,[Di,uS (je [m,I]) _],[aJ,qG ($e)]]])),
(`d5,f8 λa b c d e f g h=>`(by show jf _ _ (.compStart (.ListComp $a [#[tg,F,d_,0]] $b pos) 0 [gO] [jO] (dN $b [nI,$c,$d] $e X.env)) [Cj,$e] [mM,$f,qE ($g) $d];have yK:=λb J=>[M,f3 b J].1;generalize Cj:dN $b [nI,$c,$d] $e X.env=$h:ident at I4 pg pt pe|-)),
(`d6,f8 λa b c d e f g h=>`(by refine mU (T.item (X.bZ $a H3 $b $c $d) Y Y Y O i [] s5 _ H5 [qb] I5 (nz I5 n5) qp go) λr Z#[$e,hr,h6]=>?_;subst hr;rw[aj,mU h6 λ_ s7#[x,H7,I7,r7,y7,rH,n7]=>?_,mU (pg _ s7 _ H7 x $e _ (I7.pinned (nz I7 n7) (T.obj _ _ rH)) r7 (step x H7 y7)) λ_ s8#[nB,H8,I8,yN,q8]=>?_];refine mU (pt _ s8 nB H8 _ I8 q8) λb s9#[H9,I9,q9]=>?_;have fj:∀{s'}{H'},ak (X.bZ $a H3 $b $c $d) ([]++oP $d s7.heap) nB H' s'->Nx H'->∃$f:ident,$g/\∃i H',ak (X.bZ $a H3 $b $c $d) [] [Aj] H' s'/\tn i [jG]/\[eu,$d,$h]/\S i $f H':=[Mi,$d])),
(`d7,f7 λa b c d e f g=>`(by rw[ar,J,m,H,d,m];rw[a9,T,$a:term,l6 J];have B:=[gp,df,$a:term];rw[aO,u,o,z,Gb I.bk T B,t,F,n,BA.qb u];rw[K,Q,[M,eO A _]≠r,[zE,t],v,[ae,eO A _]≠r,[zE,F]];rw[K,Z,[aE,eO A _]≠r,[zE,n],E,[aQ,[cK,[kJ]],[M,[oA]],.aX 1 [wT]],[q,h_ Q,z.it]];rw[V,j,[M,I.wf.item _ (jV _ T B)],W,Mt hr (line:=line) hw $b $c $d $e (λs g=>[M,$f]) [kJ] ($g)];rw[aQ,H,W];simp[seval,d,d8 E,Lw,Ni,aZ])),
(`d9,f6 λa b c d e f=>`(by obtain⟨it,$a:ident,tn,$b:ident,H2,e,I2,T,t8,f2,q⟩:=$c;subst e;refine pi (O1 ?_) (by show 0<=bS;rw[ah]);generalize hD:s2.heap.objs.size=D;obtain⟨S,⟨m0,w0⟩,turn⟩:=q D (I2.aO.fresh (uO hD));generalize yF:[mM,s2,s2.heap.push [i5,"list",$d]]=$e:ident;rw[K,I3,[c5,upd H2 D [bF],$e],by rw[<-yF];refine I2.laid (t':=s2.toks) [rh] (uO hD) #[[f6],[],0,[aA],?_];rw[bB,hD,[cq]],h3,$f:term,by rw[<-yF]])),
(`dA,f7 λa b c d e f g=>`(by rw[D,h0,0<=$a];{rw[bh,$b:term,[af,Ja h0 $c,$d:term,uA $d],$e:term]};{rw[bp,$b:term,($a +[uY]).toNat=j,by rw[Jb [g] $f]at$d:term;grind,$g:term]}))]
def T63:L0:=[(`dB,f0 `(by rw[V,L,ya j,W,[M,B.wf.item _ L]];have q:=jQ q;simp[b_,em]at q)),
(`dC,f2 λa b=>`(by rw[b_,p,B,rfl,m,q];exact [J,#[p,B,Y,$a,[q,q.length,[dO,c,g,$b]]]])),
(`dD,f1 λa=>`(by rw[ag,B,e,U,z,ow];rw[aq,m,e,e];rw[h5,aG,#[p,B,Y,bW,U,$a]])),
(`dE,f1 λa=>`(by rw[ag,B,m,u,U,z];rw[h5,aG,#[O i,B,Y,w.trans m,u,$a]])),
(`dF,f0 `(by wp_walk using[Ef],sf z;exact#[_,Y,h])),
(`dH,f0 `(by cases h:e[i]? with|none=>rfl|some s=>rw[bx,s])),
(`dI,f1 λa=>`(by rcases g with⟨kvs,k,e,$a:ident,l⟩|⟨kvs,k,b,e,$a:ident,G,l⟩)),
(`dJ,f1 λa=>`(by rw[ai,U,v6.mp $a,e,[BO],by simp[tf,gH U,gH (v7 U)]])),
(`dK,f1 λa=>`(by cases [aB,$a,N];rw[ac,z,hd,xs,J,j,sW I.aO e])),
(`dL,f6 λa b c d e f=>`(by obtain⟨p,$a:ident,i,z,rfl,rfl,$b:ident,$c:ident,q⟩:=h;cases$d:term;rw[R,t,rfl,N];rw[ag,az,r,pl,$e:term,$f:term])),
(`dM,f1 λa=>`(by rw[aJ,$a:term];{subst q;rw[bW]at e|-;exact e})),
(`dN,f2 λa b=>`(by subst$a;rw[aI,e,$b:term,[ah],e,h];rw[aP,cX,gO,h])),
(`dO,f0 `(by obtain⟨o,_,_,_,e,_⟩:=x)),
(`dP,f0 `(by rw[V,hB,λn=>[tO],hR,qI hra])),
(`dQ,f0 `(by rw[ac,e,n,ne,nf,d,I.eH p hp])),
(`dS,f0 `(by rw[ac,z,hd,B,J,j,sX I.aO e])),
(`dT,f0 `(by rw[an,f0,f1,f2,f3,f4,f5,f])),
(`dV,f0 `(by obtain⟨_,_,_,_,e⟩:=x)),
(`dW,f0 `(by obtain⟨_,_,_,e,_⟩:=x)),
(`dX,f0 `(by simp[bT,cW,m,fw,l8,fC,u])),
(`dY,f0 `(by simp[bE,fw,pV];rw[bd,o,l])),
(`dZ,f0 `(by rw[a9,B,q,I];rw[aq,q,m,m])),
(`da,f0 `(by rw[bi,[tn,O],iN])),
(`db,f1 λa=>`(by rw[R,t,e,[qU,u=$a]];rw[cI];rfl)),
(`dc,f0 `(by rw[O]at q;obtain⟨_,q,_⟩:=q)),
(`dd,f2 λa b=>`(by refine#[$a,$b,j,d,j5,?_,f2,f3,f4];rw[<-f1])),
(`dg,f3 λa b c=>`(by rw[ar,O,u,$a:term,u,u];have u:$b :=u;rw[bY,$c:term,W,hd,z,u])),
(`dh,f0 `(by rw[an,z,az,n,r,U,e,I.uX O])),
(`di,f3 λa b c=>`(by rw[a0,cs.mp $a,$a:term,$a:term,$b:term];{rw[aH,dL,$a:term];rw[bf,$a:term,$c:term]})),
(`dj,f4 λa b c d=>`(by have$a:ident :$b :=$c;simp[seval,$d:term,jr,dD,onWay,nU,$a:term];rw[D,J,[so]])),
(`dk,f0 `(by simp[bT,aH,jE]at*;omega)),
(`dl,f0 `(by rw[ac,w,ws,rfl,m,u,h.dO])),
(`dm,f0 `(by rw[M,h0,m,u,J.iW x L])),
(`dn,f0 `(by rw[M,J,L,rfl,lE.mp e])),
(`dp,f2 λa b=>`(by intro X N W B O i pins s σ H E I$a st$b)),
(`dq,f1 λa=>`(by rw[d3];rw[ap,aF,J];exact$a)),
(`dr,f5 λa b c d e=>`(by rw[ar,$a:term,f,L,hp,f];rw[bl,B,s,zG $a,N,[ih,$b,32,[d5,[bw],0,$c],[ae,x],nD,bN 0 $d [ae,x] [e4,[ae,x]]],kt hr hw 0 $c [ae,x] ($e)];rw[aQ,L,N];rw[au,seval,hp,aZ,[bm]])),
(`ds,f5 λa b c d e=>`(by rw[K,q,t.name∉d4 b/\t.name∉[dt]/\[EQ,t.name],by simp only[c_,cs,ue]at s;exact s,e,$a:term,by simp[$b:term]];rw[ak,z,$c:term,rfl,u,$d:term,rfl,h,$e:term,rfl])),
(`dt,f1 λa=>`(by rw[dn];unfold aG at h|-;rw[an,a,B,rfl,m,j,u,h];rw[aG,z1,z2,$a:term,#[a,B,Y,kC _ _ m,[q,z2,j],z1]])),
(`du,f3 λa b c=>`(by rw[[bN]];rw[ai,W,py hr (line:=line) hw B (GS _ st b _) _ ([ah]) _ (λx=>$a) 1 [an],$b:term,∀G,HS [cK,G] _ P h _,λG=>H.St hr0];rw[ab,$c:term]))]
def T64:L0:=[(`dv,f2 λa b=>`(by rw[dN,$a:term,$b:term];obtain⟨rfl,rfl⟩:=h;exact [BQ])),
(`dx,f3 λa b c=>`(by cases$a:term with|lst l=>rw[a9,B,q,$b:term];grind|aU l=>rw[a9,B,q,$b:term];grind|bY l=>rw[a9,B,q,$b:term];rw[aq,q,$c:term,$c:term]|_=>exact eu $b)),
(`dz,f1 λa=>`(by rw[b_,p,B,rfl,W,q];rw[fF];exact [J,$a])),
(`e',f2 λa b=>`(by rw[V,m,m2 st [L,$a] (lQ [R]),u,I.sl];have B:$b=ag:=[a'];simp[qa,B,IC,ID,b7]at u|-;omega)),
(`e3,f8 λa b c d e f g h=>`(by rw[K,$a:term,[kd,$b,$c],by rw[aR];rw[ej],$d:term,[Q,$e ++$c]<=$f,by rw[cO,aR];omega];generalize$c=$g:ident at$a:term$d:term|-;generalize$b=$h:ident at$a:term$d:term|-)),
(`e4,f1 λa=>`(by cases cu [dt] 1 r with|error e=>rfl|ok i=>rw[aa,aZ,p9];rw[D,I,$a=af];{rw[aa,I,bI]};grind)),
(`e6,f0 `(by obtain⟨F3,l1,l2,n,l4,l5,v3⟩:=yl x H3 L;rw[R,a3,c3,jW.LJ c2 l1 l2 n l4 l5])),
(`e7,f3 λa b c=>`(by rw[b3,hf,hg];obtain⟨⟨S,$a:ident⟩,nl,$b:ident⟩:=st;rw[ag,xs,x,hq,L,hg];rw[ag,az,rv,p,hz,[eD,hq]];rw[M,$c:term,hu,ru,rv.get L])),
(`e9,f2 λa b=>`(by cases q:Ir.jw $a $b with|nil=>(cases$b:term with|nil=>rw[bO]|cons y r=>rw[am,Ir.jw,q];grind)|cons w ws=>simp)),
(`eA,f2 λa b=>`(by refine#[by simp[a],_,A,nm,cB st [re] (sD $a),Y,?_,[f],hra,Y];apply I.setting [jj] (sD $a) [Fa,$b] [bJ] Y Y Y Y Y Y)),
(`eB,f2 λa b=>`(by show [sq,Dj [m,z] 2>>=_];rw[aW,fu $a Y (x:=$b) Y ?_,fu $a Y (x:=[m,TI]) Y [aJ,k4 j Y ?_]];rw[cG,fu $a Y (x:=[aZ]) Y [cp]])),
(`eC,f2 λa b=>`(by have C:$a :=[g];obtain⟨d,hd⟩:∃d,[aY,ds,d]:=#[_,cQ C];rw[R,go,yl,y2 i d hd];rw[aI,HQ,$b:term,by rw[mE C];rw[aq,cQ C,hd,hd];rfl,HQ,u])),
(`eD,f0 `(by refine [il,d,G,U,J,W,L.bind.mono λy k o H2#[n,f,t,u]=>?_];rw[aO,j,rfl,g2,u.kh,b,e2,q,al.pure f g2];grind)),
(`eE,f0 `(by refine [il,d,G,U,J,W,L.bind.mono λy k o H2#[n,f,t,u]C hu=>?_];rw[bu,j,rfl,g2,u.kh,[dO,f,g2,hu]])),
(`eF,f2 λa b=>`(by rw[ar,C,W,U,q,W];rw[an,f,q2,s,N,q4,L,RC C];simp[q];rw[aL,$a:term,$b:term,y,Ga I.bk.nd u,#[U,_,A,nm,st,Y,?_,[aD,hr],hra,Y]])),
(`eG,f0 `(by rw[a7,by simp,λw h=>?_];rw[cg,h];rcases h with rfl|rfl|rfl|rfl;rw[av,[eK],B];rw[av,[fp],[fp]])),
(`eI,f0 `(by refine [n1];{rw[Ed,lr,aw ([ah])];exact I.se.ro};{rw[FZ,lr,aw ([ah])];exact I.se.ca})),
(`eJ,f0 `(by refine#[j.typeIs,λb q=>?_,hd];rw[bO];obtain⟨ob,_,_,h1,h2,_⟩:=j;exact#[ob,h1,[ae,h2]])),
(`eK,f2 λa b=>`(by obtain⟨⟨S,$a:ident⟩,nl,$b:ident⟩:=st;rw[M,xs,hq,L,hg];rw[ag,az,rv,p,hz,[eD,hq]];rw[an,f0,f1,f2,f3,f4,f5,[Es]])),
(`eL,f4 λa b c d=>`(by rw[b3,hf,hg];obtain⟨$a:ident,j,⟨x0,y0,n⟩,$b:ident,$c:ident⟩:=st;rw[ac,xs,ys,qm,qo,R6,hg];rw[bN,az,rv,p,[eD,qm],ql,t6,p2,$d:term];rw[V,l1,rv.length,l2,t6.length])),
(`eN,f0 `(by have e:Ir.ah Z (.lv [h9] [gY]) env S=[aW]:=[gt,Ir.ah,Ir.cD,U];rw[af,e,h,h.elim])),
(`eP,f1 λa=>`(by rw[aV,Q,L,$a:term];rw[aZ,O,S.aO.fresh (dz _),#[[dP],upd _ _ _,S.laid (λb u e=>[gQ]) (by simp) ?_,Y,q _ O]])),
(`eQ,f2 λa b=>`(by rw[ao,aj7 $a Y ?_];(have e:$b :=by rfl);rw[aW,[cp],Ul l z ?_];rw[[nz]];rw[aW,[cp],Um l z ?_];rw[ci,aw (by simp),[cp]])),
(`eR,f2 λa b=>`(by rw[ai,m,a.pre i x $a,u,[aQ,h,[gm]+j,x],[f]];rw[aM,(v8 (by obtain⟨w,_⟩:=dC.mp m;exact w) $b).mp (m.trans u.symm)])),
(`eS,f0 `(by cases e:i.lookup c with|none=>rw[ap,e,h];rw[a5]|some o=>rw[ap,e,h];rw[ab,s _ _ e];exact h)),
(`eT,f0 `(by rw[aq,e,J,J];rw[d]at q;injection q with G _;have:=[aD,jK aiU G];rw[bf,this,r.inj z])),
(`eV,f1 λa=>`(by intro wh pins s σ H Q I [ip,O,h];rw[aj,$a:term,[jS,λx G U w#[d,J,W,m]=>?_]];rw[aL,i,rfl,L,m.kh,#[i,Y,?_]])),
(`eX,f2 λa b=>`(by rw[D,J,b=a];{subst J;rw[bW]at e;grind};{rw[af,aW J,e,($a).jT [f] (λc q=>[nh,q]) λc$b:ident q=>[nh,q]]})),
(`eY,f0 `(by rw[R,y,c,p];rw[pk]at h;rw[a6];{rw[aB,q];rw[a5];rw[Y,gp q,qx]};{exact lD _ (e h)})),
(`eZ,f1 λa=>`(by rw[aE,aL,h];{rw[bv];obtain⟨⟨m,u⟩,z⟩:=h;exact$a};{rw[bv];cases [cU]};{rw[bv];cases [cU]};{rw[a5]})),
(`e_,f2 λa b=>`(by rw[ae,e,$a:term,rfl,[jS,λi g s n#[d,I,L,m]u B z x y a G W=>?_]];rw[Y,iu,al.newD I $b z (by rw[u]) a G])),
(`ec,f0 `(by rw[aa,jn,cO];rw[ai,m,[M,h.it w (by simp)],u,[uj,bO,[eV]<=20,λx=>32::x,[E]*21],λl=>by induction l with|nil=>simp|cons a t e=>grind];have q:=u r λx L=>[M,h.it x [oZ]];rw[aH,b7,U];omega)),
(`ee,f9 λa b c d e f g h i=>`(by rw[K,dQ,[iN,$a],[qt],F,$b:term,[aU,jy [aE,$c].1,de]];rw[V,E,($d).St (line:=line) (ws:=ws) (n:=G) hra,yG,$e:term];rw[ae,gF,$f:term,by simp,#[_,A,_,st,?_,yG,[aD,hr],hra,Y]];simp only[seval,[nm,hB G],$g:term,oC $h,sD,hT,$h:term,dQ,F,d8 E.bk,h9 $i,Cg,E.na,zY I.wf I.nm,gF,m,jy [ae,hR]];rfl)),
(`ef,f4 λa b c d=>`(by rw[ae,yJ,∀y∈$a,$b->∃c,[l6,[b4],c],[He,$c],ajk (use:=o4) Y hs (Pf yJ) ok.kind (λy hy e=>by rw[ok.uniq y hy,e]) (a9 (hi pins s σ H _ I h) λxv s1 L=>a9 L λR9 s2$d:ident=>?_)])),
(`eg,f2 λa b=>`(by rw[d4,C,[cT]=n,$a:term,$b:term,W.done s _ _ (C▸m) λG tk Z=>?_];show aE _ A.in1 (zw S (λ_=>[fg,[]])>>=_) _ _ _;exact [aJ,qH (Z S _ y L) Y [aJ,mI (bg (U x _ tk [f] λb o z a e=>[C1]))]])),
(`eh,f2 λa b=>`(by rw[D,J,ao $a=ae];{rw[au,ka,J,bI,aZ]};{rw[au,ka,J,b8,dj];cases hZ b 1 r with|error e=>rfl|ok x=>rw[ab,aZ];cases [EC]with|error e=>rfl|ok y=>rw[bt];rw[bx,$b:term]})),
(`ei,f5 λa b c d e=>`(by rw[aw q]at h;rw[D,z,5<=c/\c<=12];{rw[aJ z]at h;rw[aL,p,qQ,I,xt.xc c [cA] z.2,#[T.dq c,p,qQ,e,I,?_]];rw[Y,aw (λw=>q [dH,xt.inj c $a [cA] z.2 $b $c w]),#[c,B,Q,$d,$e,r,F,S,e,a,G,x,h]]};{rw[bs,aw z,h]})),
(`ek,f1 λa=>`(by rw[aa,dj,b8];rw[ao,mI ?_];rw[Y,B,[m6,$a,X [cT] _ x c [g] T O (by rw[au,fb,J,dj,b8];grind) H [Jc,Z b o z e]]])),
(`el,f2 λa b=>`(by obtain⟨a,g,_,h,f⟩:=m;rw[ao,uM $a JA (sm JA $a ajU ?_ (ajV _))];show [sx,Dj _ 0>>=_];rw[aW,fu $b hd Y ?_,fu $b hd Y ?_];rw[ao,k4 g f ?_];simp[L])),
(`em,f3 λa b c=>`(by rw[D,e,[H]=k];{(have b:$a=aa q.2:=by simp[$b:term,(h1.symm.trans e)]);rw[a3,xZ e,b,h2]};{rw[K,J,¬[db]=k,λz=>e (h1.trans z),b,$a=$c,by simp[$b:term,J]];rw[a_,w9 e]}))]
def T65:L0:=[(`en,f9 λa b c d e f g h i=>`(by rintro n s5⟨i,H5,I5,qp,n5,w5⟩;rcases turn i n H5 w5 with⟨stop,qq⟩|⟨go,Nx,HC,step⟩;{refine mU $a λ$b:ident$c:ident#[hr,I6]=>?_;subst hr;have nC:=[hr,$d:term,I6.free,cL,$d:term];rw[a9,$e:term,hn,I6.loc];rw[hr,hn,hn,cL,HA $f $g $c $e H5 $h qq hn $i]})),
(`eo,f0 `(by cases e:[vU]with|none=>rw[[tk].2 e];rw[af,e,f,f _ W]|some x=>rw[M,w',N,B,[tk].1 x e];rw[N];rw[af,e,f,f _ B])),
(`eq,f1 λa=>`(by obtain⟨$a:ident,j,d,I,m,u,O,U⟩:=z;rw[bn,f,Bp u,U,f];refine#[d,I,?_,#[u.se,u.nm,u.wf,u.w2,u.sl,u.sv]];simp[fW,y,m,fC,f,u.pr,q.all,bI])),
(`er,f3 λa b c=>`(by cases q:[zs]with|ok d p=>rw[af,q,h,λj$a:ident$b:ident$c:ident I=>k d _ _ _ _ $c [iJ,$c] I [fy,$c] h]|ex c B p=>rw[af,q,h,λj$a:ident$b:ident W$c:ident I x=>h _ _ _ _ [iJ,$c] I x]|bad=>rw[b1])),
(`es,f3 λa b c=>`(by cases J:bN 1 $a [nd] q with|error e=>rw[ar,J,N,p,fG,N];rw[aY,seval,xq,O,sD,he,[bm],fG];rw[be]|ok y=>rw[ar,J,N,hy,fG,N];rw[V,hv,kf J,hm,R' $b [b4] [dn] $c];rw[aQ,hy,hm];simp only[seval,xq,O,sD,he,[bm],fG,nD];exact hm)),
(`et,f5 λa b c d e=>`(by rw[ar,q,W,L,W,W];rw[aA,W,$a:term,W,a,u4 q];simp[$b:term,aR]at a;have u:=Of hr (line:=line) hw [g] $c a.1 [g] $d [bU] [an];rw[aQ,L,u];rw[ai,hd,d8 (j [bU]).ob,z,[nU,fl (.obj 15 (gg n0 ht)) $e T],[oJ]];rw[ab,aZ])),
(`eu,f5 λa b c d e=>`(by rw[d4,T,$a:term,$b:term,$c:term,W.item ($d) s _ _ T m λv G tk N O Z=>?_];have H:=Z S _ y L;rw[cY,uS (iC [v,v] (Tw $e v x>>=_)) _];rw[ao,qG (kc [aJ,i ($d) (fb bt j) v x _ _ _ N f [aJ,kc (nW [aJ,mI [cp]])]])])),
(`ex,f2 λa b=>`(by rw[D,q,[jq]/\[u8]];{rw[af,aJ q,g,[J,#[p,B,Y,[eL,$a],Bo [db] I,Bl q.2 z,[q,BI [db] I q.2 z,[dO,a,g,$b]]]]]};{rw[bs,aw q,g]})),
(`ez,f5 λa b c d e=>`(by rw[b3,hf,hg];obtain⟨$a:ident,j,⟨x0,y0,n⟩,$b:ident,$c:ident⟩:=st;obtain⟨xs,ys,x,y,qm,qo,L,hy⟩:=hg;rw[bN,az,rv,p,[eD,qm],ql,t6,p2,$d:term];rw[aO,$e:term,hu,ru,rv.get L,u2,R7,HJ,t6.get hy];have Cq:=bF $a)),
(`fA,f1 λa=>`(by rw[aW,zv (uM $a Dl (sm Dl $a aj5 ?_ (aj6 _))),[cp]];rw[aj,[hV],[hV]])),
(`fB,f0 `(by have tZ:b<[ar]:=[f];rw[Y,aW (di tZ),[M,hf b J]])),
(`fC,f7 λa b c d e f g=>`(by have I:=MU u;rw[cD,u,q,qA];rw[aZ,N,Rf $a ([cA]-1) v.1 ([aM,$b:term]) [g] [g],#[$c,$d,$e,$f,H.cm,H.cr,[cd,H.ct]]];rw[d_,IA L,L,rfl,$g:term,I.2])),
(`fD,f0 `(by rw[cI];rw[ag,B,q,n,z,q];rw[aX,#[a,B,Y,q,n,z]])),
(`fE,f0 `(by intro x L;simp[cq,b0,jG]at L;rw[M,w,W,rfl,L])),
(`fF,f0 `(by rw[z.ci];rw[aO,x,j,I,al.bD N g,w,f,G,q.at j])),
(`fG,f2 λa b=>`(by obtain⟨z,y,$a:ident,r,ob,es,ep,e,c⟩:=x;exact#[z,y,$a,$b,ob,es,ep,[k6],c])),
(`fH,f0 `(by have e:[l9,[ti]]:=xJ i [rq] _;rw[eU,jr,CO,nU,e];rw[D,j,[rt]])),
(`fI,f1 λa=>`(by have g:[l9,[oP]]:=DW c [nx] _;simp[seval,$a:term,jr,dD,nU,g];rw[D,J,[so]])),
(`fJ,f1 λa=>`(by refine bM λ$a:ident S=>?_)),
(`fK,f0 `(by rw[aO,o,ho,m,h.uW,l,rfl,u,m.tW];obtain⟨es,_⟩:=[kR,P,ho];refine#[_,es,[tC,u,c1]];rw[aO,G,rfl,g1,g.fX,j,hj,g2,g1.i5];rw[aO,xd,n,g3,g2.i5,xi,rfl,g4,g3.fX];obtain⟨_,f,mr,yC,z⟩:=[kR,s,ho];obtain⟨v,oZ,hv,_⟩:=B0 z hj n;refine#[b i,f,G,v,Y,W.ci,[cJ,mr],oZ,[Ck,g4,d,C,hu,g]];rw[M,U,rfl,g5,g.fX];obtain⟨_,L,fG,qk,q⟩:=[kR,j6,ho];obtain⟨v2,_,_,J⟩:=B0 q hj n;exact#[xi,U,hv.ci,hu.ci,b i,L,G,j,Y,W.ci,fG,J,sK (d1:=D.lst _) ny c2 j6 A ho #[L.set j _,bW,[q,jJ,qk],q.set [bK]] g5])),
(`fL,f6 λa b c d e f=>`(by rw[bJ];rw[aj,[Jq],Uh [cN,(iZ g js N) pos pins s σ H (wI _) I h,us,l,B,z,F,c,G] ([a8,N]) ([a8,N])];obtain⟨v,rfl,a,ns,rfl,A,q⟩:=Fo G;rw[M,C,rfl,y,mo c];cases y;refine JF (IP (JG ?_));rw[ag,az,J,pl,o,F.list A];rw[bn,U,J.length,aR,U];rw[ae,S,[c5,z,[tH,l,$a]],F.tok _,$b:term];{have d:$c :=[f];rw[M,n,W,L,J.get (show$d by rw[aU,dR,cQ d])];rw[gE,show$e by simp,W,m];rw[iQ,t,e,[aB,∃t,$f,L]]};{have:=uf.mp (by rw[U];rw[aD,h0]);rw[bf,this,#[[iW],z,S.kept u,[gS],q]]})),
(`fM,f1 λa=>`(by rw[[ge,[gI]-1+1=[gI]],nK]at P;rw[show [uY]=[gI]by simp[U]]at m;have d:fb [n2,$a] ([gI]-1)<[gI]:=[g];rw[M,n,W,L,J.get (Lk d)];rw[gE,[aB,[hb][fb _ _]?=az[fb _ _]?,aj1 ..],W,m];rw[af,P,L,#[_,z,S.kept u,L,q]])),
(`fa,f2 λa b=>`(by cases y<;>simp only[seval,qw,g6,nQ,o_,iY,qM,j,e,s,m,u,q,jb,vH,$a:term,lim,a8,sD,$b:term,BC,zW,xU,tS])),
(`fb,f3 λa b c=>`(by rw[cV];cases y with|a0=>rw[aT,N,$a:term]|int j=>rw[aG,t',rfl,N,$b:term]|str j=>rw[aG,t',rfl,N,$c:term]|_=>rw[da])),
(`fc,f2 λa b=>`(by apply ez.set;{exact I.lo.set _ _ [vw,$a]};{have$b:ident :=cG I.bk.na;rw[Y,jJ,By Y (I.lo _ $b)]})),
(`fd,f3 λa b c=>`(by ({rw[aJ $a,aJ $a];rw[ad,$b:term,kb,g'];rw[D,I,$c:term];{rw[ad,I,bI,aZ]};{rw[ad,I,b8,dj];rw[bx,qz 1 r]}});rw[aw $a,aw $a])),
(`fe,f0 `(by obtain⟨hs,f,L,_,S,U,G,kH,y⟩:=xh I hd;rw[R,rfl,rfl,PP l G])),
(`ff,f0 `(by rw[gk (dt hj)]at e2;rw[aL,N,r',q,U j y v' e1 e2 e3,#[N,r',?_]])),
(`fg,f2 λa b=>`(by rw[aj,[aJ,$a],[hV]];rw[aj,am (m:=ajW _ _) ($b),pi ?_ (by size_fits)];rw[ao,wpAny_handled ?_])),
(`fh,f1 λa=>`(by rw[Ae _ _ i $a x u [g]]at this;rw[af,[ge,[gL]+(5*i+$a)=[gL]+5*i+$a],this,this])),
(`fi,f1 λa=>`(by rw[aj,b9 ($a) [wx,O],[eI,G,U,w,d,J,W,A]];rw[aL,i,rfl,L,m.kh,#[i,A.xP,?_]])),
(`fj,f0 `(by rw[ag,z,B,I,q4,u p q];have:=[M,J.item _ (jV [H] z B)].price)),
(`fk,f2 λa b=>`(by obtain⟨i,v,ws,rfl,O,I,L⟩:=h;rw[R,m,g2,$a:term];have b:=$b;unfold Ir.bK at m g2|-;rw[IE])),
(`fl,f0 `(by refine#[env,O,S,r,F,c,P,?_];rw[cf,e,[pS,[bt,J],f],rfl,h])),
(`fm,f1 λa=>`(by rw[R,i,g,g.ite];rw[R,k,L,$a:term];rw[M,x,j,I,al.bD N g];rw[b_,p,l,rfl,W,q])),
(`fp,f4 λa b c d=>`(by rw[K,e,c-$a=[hf,c-$a],[g],h,[c2]=$a +[hf,c-$a],by rw[ab,sg];rw[cx,aJ [g]]];rw[ad,seval,$b:term,$c:term];rw[e,$d:term,h];rw[ep])),
(`fq,f0 `(by rcases DM k i _ h with m|⟨pre,n,m,u,e,q⟩;rw[bU,e6 m])),
(`fr,f0 `(by rw[aK,[c1,(tE x r).mem_iff.mp q],rfl,q];{omega};grind)),
(`ft,f3 λa b c=>`(by generalize hH3:upd H2 D [bF]=H3 at I3 I4 pg pt pe w0 yK f3;generalize HB:[mM,$a,qE $b $c]=s4 at I4|-)),
(`fu,f1 λa=>`(by rw[aB,l];rw[R,U,g,g.ite];rw[R,k,L,$a:term];rw[b_,p',i,e,j,q];rw[cI]))]
def T66:L0:=[(`fv,f3 λa b c=>`(by cases z;cases y with|a0=>rw[aT,N,$a:term]|bl j=>rw[aT,N,$b:term]|str j=>rw[aG,t',rfl,N,$c:term]|_=>rw[da])),
(`fw,f1 λa=>`(by intro s' O;rw[N]at O;rw[a0,cs.mp O,O,O,$a:term];{rw[aH,dL,O];grind})),
(`fx,f1 λa=>`(by rw[a6];{rw[aB,q];rw[a5];rw[bf,q,#[Y,by simp[qg,$a:term]]]};{rw[a5]})),
(`fy,f0 `(by obtain⟨_,_,_,_,o,_,_,e,ex,_⟩:=I.aO p _ q)),
(`fz,f1 λa=>`(by rw[m]at q;rw[ap,aZ,q];rw[D,h0,$a:term];{rw[aP,h0,bI,q];simp at q}))]
def T67:L0:=[(`A6,f6 λa b c d e f=>`(by rw[ck];intro y$a;have m:sg y∈tx $b :=$c▸b0.mpr [f];rw[M,z,$d:term,$e:term,b0.mp m];have u:=ck.mp $f z $d;rw[<-Au]at u|-;grind)),
(`AM,f0 `(by rw[h6,(if a<G then _ else match S[a]? with|aa [oN]=>_|aa [aV]=>_|aa [b3]=>_|ag=>_)=_])),
(`Av,f3 λa b c=>`(by cases f with|next=>rw[dG,a,b,c,d,$a:term,$b:term]|brk=>rw[dG,a,b,c,d,$a:term,$b:term]|cont=>rw[dG,a,b,c,d,$a:term,$b:term]|ret C=>rw[an,v,a,b,c,r,d,$a:term];exact$c)),
(`BG,f2 λa b=>`(by cases ws with|nil=>rw[aH,$a:term,h]|cons$b:ident r=>rw[aH,$a:term,h];grind)),
(`Bo,f3 λa b c=>`(by intro wh pins s σ H Q I h;refine$a;cases c with|true=>exact$b|false=>exact$c)),
(`Dn,f2 λa b=>`(by cases neg with|false=>exact$a|true=>exact$b)),
(`F',f2 λa b=>`(by rw[cu];rw[ag,i,j,rfl,q,h];obtain⟨u,B,rfl,⟨t,rfl⟩,⟨t',rfl⟩⟩:=GK r;refine$a;rw[D,L,$b:term];{rw[a3,aJ L,aJ L,[gS]]};{rw[a3,aw L,aw L,[gS]]})),
(`F3,f0 `(by refine#[a.keep,λb o e=>?_,λb o e=>?_,a.pre,a.nr,a.fL];{rw[Y,aW [i_,z,g,e],a.fr b o e]};{rw[br,z,b=p];{rw[af,aW z,e,a.nf b o e]}})),
(`FA,f2 λa b=>`(by intro G O$a p f s;have e:=[yW];rw[a7,#[B,[cJ,e],by simp[q.length]],[st]];rw[dR,ajO]at hd;cases j:l[i]? with|none=>grind|some C=>rw[aq,j,hd,hd];rw[aL,v,z,m,q.get j,#[#[B,v,[cJ,e],z],λx$b:ident#[t,J,L,n,u,I]=>?_]];subst L u;have:=I _ [cJ,e];rw[aq,z,this,this];rw[ab,kL];exact wH s n Y [eQ,p,f,m])),
(`FD,f2 λa b=>`(by rw[dI,O];{subst O;rw[dS];refine$a;rw[<-[lv].tz,<-l];exact h _ [hl]};{subst O;rw[dK,u=da b];refine$b;rw[bn,q,[lv].tz,wc,q];rw[<-q,<-l];exact h _ [hl]})),
(`FE,f2 λa b=>`(by rw[bm,y,u,G,N,h];obtain⟨p,xs,rfl,z,fx,fs,q⟩:=h;cases N;rw[aK,z,z,z];{rw[ag,az,r,pl,L,[eD,z]];refine$a;rw[a3,show az.toArray.any _=az.any (pG x)by simp,wR r fs,q]};{rw[ag,az,r,pl,L,[e',z]];refine$b;rw[a3,show az.toArray.any (pG x)=az.any (pG x)by simp,wR r fs,q]})),
(`FG,f3 λa b c=>`(by rw[b3,q,j];rw[ag,xs,x,z,L,j];rw[ag,az,G,p,hz,$a:term];rw[M,u,hu,ru,G.get L];rw[c9];refine$b;rw[dG,o,e,c,d,id S,#[u,Y,Ah e c d Y #[x,H,[C9,[uX,F]],ru,#[Y,λys Z=>[a_,$c:term]],S,λb J=>[M,q b J]]]])),
(`FL,f1 λa=>`(by intro j C W p f s;rw[aZ,e,[yW],#[#[B,$a,[a_,q.length]],[st]]];rw[aL,v,z,u,q.get hd,#[#[B,v,$a,z],λx m#[L,I]=>?_]];subst L;have:=I _ ($a);rw[df,z,this,#[C,[gH],s,[gH],[y6],λ_ e=>e,[eQ,p,f,u]]])),
(`FN,f1 λa=>`(by cases d with|lst l=>rw[ch,m,hd,#[p,B,Y,[J,[cJ,m]],λo n=>$a]]|tup l=>rw[ch,m,hd,#[p,B,Y,[eL,[jy,m]],λo n=>$a]]|_=>rw[ax,g])),
(`FP,f5 λa b c d e=>`(by refine#[c.len,c.nd,[k2],λb J=>?_,λn$a:ident b$b:ident w=>[kB,b,$b,w].step [cY] $c Y,c.tab.fr [hh,c.tab.ne $d,c.tab.1]];{rw[D,z,b=p];{rw[a2];rw[df,bW,e,$e:term]};{rw[af,aW z,e,c.sub b o e]}};{rw[Y,aW (λz=>nr ([bB,z,J])),c.off b J]})),
(`F_,f2 λa b=>`(by have m:($a<128/\[Q,tx t]+2<=lim):=#[[g],by rw[m6];rw[fs]];rw[ab,jl];rw[aJ m];have:=EJ _ ($b) t;rw[aI,e,[am,$a].toNat=$a,rfl,e,this];rw[aU,this,cq])),
(`Fi,f1 λa=>`(by intro g P y p f s;rw[V,e,[yW],G,s _ _ (f _ _ m)];rw[a7,#[B,ws,[cJ,e],$a,?_],[st]];{rw[aR,mB,q.length,O.length];omega};{rw[dR]at hd;cases I:(N.zip l)[i]? with|none=>grind|some J=>rw[aq,I,hd,hd];rw[R,z1,z2,CB.mp I];rw[M,v,z,U,q.get z1];rw[aL,w,f1,f2,O.get z2,#[#[B,ws,v,w,[cJ,e],$a,z,f1],λx A#[t,Q,j,L,n,u,W,C]=>?_]];subst L u;rw[V,z3,W _ [cJ,e],z4,C _ ($a)];rw[z]at z3;rw[aq,f1,z4,z3];rw[aT,z4,wH s n [eQ,p,f,U] [eQ,p,f,f2]]})),
(`Fl,f7 λa b c d e f g=>`(by rw[K,st,[vf,$a,kn [d3,y=[aX]/\Q ($b) H] [y8] (tC _) _ H Q],λσ H Q#[env,O,S,r,F,c,P,h]=>by rw[ae,e,$c=(do match$d:term with|[aX]=>[gf]|_=>[gf]),rfl,[jS,λx d C I#[p,B,L,m]v q=>#[Y,?_]]];rcases Lu q with⟨rfl,rfl⟩|⟨U,u⟩;{exact [dO,B,m,$e]};{rw[nV u];rw[aC,m];rw[ay];{exact [dO,B,m,$f]}},pe,PE X (.Compare a _ [.Constant _ j f] pos) _,b9 (xy $g J.pe yy Y) st];exact [wV,xr $g J.pe yy (q7 _)])),
(`Fm,f4 λa b c d=>`(by refine [jS,λx j z H1#[B,I,e,m]v q=>?_];rw[ag,s,rfl,rfl,d,m.FK [fa] q];refine#[[gS],env,O,B,j,z,I,[fy,e],d.bind.mono λy r2$a:ident H2#[$b,N,$c,u]C hu=>?_];have g:=[aB,[yc],u];cases y with|str t=>(match t,hu,g with|[k],hu,g=>rw[R,U,g,al.ite [aB,[yc],g]];rw[ci,hu.fZ,#[_,_,Y,Y,Y,by rw[tF,<-me];grind,λp n=>?_]];rw[ci,QI k s U.1,$d:term];rw[aR];rw[aM,DB k s]|[],hu,g=>rw[aN]|_::[d4],hu,g=>rw[aN])|_=>rw[aN])),
(`Fq,f2 λa b=>`(by rw[c1];rw[ac,a,bs,rfl,G,q,h];obtain⟨az,F,U,_⟩:=[eD,G];rw[bq.B5 r];rw[aZ,J,F.sE,$a:term];subst N;rw[aj,#[_,_,_,_,_,_,_,Y,Jd (A:=X.A.in1) [e5] _ a j _,st,J7 J,λh' tk W=>?_],#[[eO],H,I.kept λb o n=>W b o [lj] [dQ,n],?_,q]];{rw[aK,[c1,z],L,z];{rw[bi,L▸bF n,by simp]};grind};{show r9 _=r9 _;rw[<-$b:term,J,pj,aR]})),
(`Ft,f0 `(by rw[V,h,yn U,q,w_ U];(have m:Ik b l<=40*1000000000000:=by refine c9 (mn _ _ _ ?_) (mz _ q.len);intro g a;rw[R,m,u,q.ts g a];have N:=c9 (wC [DV]) q.le;simp[rV];rw[<-tw b _ _ (vI m u _)];refine [Kg];{intro t _;rw[jK,e,c9 (zF J m u _ (t+1)) (rJ 4 (Im N _))]};{rw[gY];rw[aM,J.nt]});simp[rT];omega)),
(`Fv,f2 λa b=>`(by rw[bV,env,I,S,r,F,c,P,h];rw[ae,e,[bt,.b1 _ a]=(do Ir.dn $a ($b)),rfl,[ip,I,[to,λx s C G#[i,z,U,m]v W=>?_]]];rw[M,d,hd,g,al.kv z W m];cases d with|lst l=>rw[b_,p,B,rfl,L,q];rw[M,ns,e,g,al.i5 [aB,[yc],g]];rw[af,q.«ints» e,L,#[p,ns,Y,[cJ,L],[dO,z,g,Y]]]|_=>rw[aN])),
(`GJ,f0 `(by cases e:Ir.bK l x with|none=>rw[a8,(z.get L).2 e]|some d=>rw[a9,w,s,(z.get L).1 d e];rw[a8,s])),
(`Gw,f1 λa=>`(by rw[bm,y,u,G,N,h];obtain⟨d,e,hd,O,W,se,q⟩:=h;rw[R,L,j,Dp.reads I d x v hd G];rw[aG,bs,z,Dp.reads I e y u O N,$a:term])),
(`Gy,f0 `(by show(match prog.fns[f]? with|aa F=>_|ag=>_:M D) S=_;rw[al,i,[aQ,prog.fns,f,F],h,i];simp[U,x];rfl)),
(`II,f0 `(by unfold Ir.cB jt;rw[h.any L];split;rw[av,h.map L q,h.snoc L q])),
(`IM,f1 λa=>`(by rw[cS];rw[R,rfl,q,h];cases N;refine$a;cases x<;>first|rfl|(rw[bS,z]))),
(`Ie,f4 λa b c d=>`(by rw[cv];rw[aE,$a:term,q];rw[ay];{rename_i i _ z;cases z;cases e:$b:term with|none=>grind|some I=>rw[aq,e,q,q];rw[aU,$c:term,$d:term]};grind)),
(`Iu,f4 λa b c d=>`(by rw[fL,l.toks+1,$a:term,i<[gI],[jf][i]?=[cf],[hb][i]?=az[i]?,v=pb ns[i] t];{have w:0<[gI]:=$b;rw[R,G,P,$c:term];rw[fM,$d:term]})),
(`Ix,f0 `(by rw[aY,BA.all,BA.hd,rN,ir,yV,iu,en];rw[d8,y8 _ (y8 _ ?_),S6])),
(`JJ,f1 λa=>`(by rw[bm,y,u,L,J,h];rw[ac,i,j,z,O,q,h];rw[a2];subst O;rw[cw,L,J,$a:term])),
(`Jh,f2 λa b=>`(by rw[aV,$a:term,h,$b:term];cases d with|true=>exact L _ _ _ _ $a S q|false=>exact J _ _ _ _ $a S q)),
(`Ju,f1 λa=>`(by rw[ab,eG];rw[aw T,aw F,aw w,aw h,aw Z,aw q,aw g,aw z,aw k9,aw B,$a:term])),
(`Jx,f0 `(by cases q:F p with|none=>rfl|some C=>rw[aq,[fk,q],n,n])),
(`KH,f5 λa b c d e=>`(by obtain⟨$a:ident,j,⟨x,y,n⟩,$b:ident,$c:ident⟩:=st;exact#[k z (by simp) _ $a,k TI (by simp) _ j,#[x,y,k TO (by simp) _ n],$d,$e])),
(`KQ,f1 λa=>`(by rw[cS];rw[ac,i,j,rfl,rfl,q,h];rw[cw,z,N,rule i j t _ s _ _ $a])),
(`K_,f2 λa b=>`(by rw[b3,q,j];rw[M,xs,z,L,j];rw[ag,az,G,p,hz,$a:term];rw[c9];rw[bh,U,G.length,$b:term])),
(`LA,f0 `(by cases ns with|nil=>rw[a5]|cons x r=>rw[aX,[dq]])),
(`a',f0 `(by simp_all)),
(`a3,f3 λa b c=>`(by rw[$a:term,$b:term];exact$c))]
def T68:L0:=[(`a5,f0 `(by cases h)),
(`a8,f1 λa=>`(by rw[$a:term];rfl)),
(`aD,f1 λa=>`(by simpa using$a)),
(`aG,f4 λa b c d=>`(by rw[R,$a:term,$b:term,$c:term];exact$d)),
(`aH,f2 λa b=>`(by simp[$a:term]at$b:term)),
(`aM,f1 λa=>`(by have:=$a;omega)),
(`aT,f2 λa b=>`(by cases$a:term;exact$b)),
(`aU,f2 λa b=>`(by rw[$a:term,$b:term];rfl)),
(`a_,f1 λa=>`(by rw[$a:term];grind)),
(`aa,f2 λa b=>`(by simp only[$a:term,$b:term])),
(`ad,f3 λa b c=>`(by simp only[$a:term,$b:term,$c:term])),
(`af,f3 λa b c=>`(by rw[$a:term]at$b:term;exact$c)),
(`ah,f0 `(by decide)),
(`aq,f3 λa b c=>`(by rw[$a:term]at$b:term;cases$c:term)),
(`au,f4 λa b c d=>`(by simp only[$a:term,$b:term,$c:term,$d:term])),
(`az,f5 λa b c d e=>`(by simp only[$a:term,$b:term,$c:term,$d:term,$e:term])),
(`b0,f1 λa=>`(by simp[$a:term];grind)),
(`b8,f1 λa=>`(by unfold$a:ident;grind)),
(`bB,f2 λa b=>`(by rw[<-$a:term];exact$b)),
(`bC,f0 `(by simp;omega)),
(`bO,f0 `(by cases q)),
(`bY,f5 λa b c d e=>`(by simp only[seval,$a:term,$b:term,$c:term,$d:term,$e:term])),
(`bf,f2 λa b=>`(by subst$a;exact$b)),
(`bg,f3 λa b c=>`(by simp[seval,$a:term,$b:term,$c:term])),
(`bp,f4 λa b c d=>`(by have$a:ident :$b :=$c;exact$d)),
(`bu,f5 λa b c d e=>`(by rw[M,$a:term,$b:term,$c:term,$d:term];exact$e)),
(`bx,f1 λa=>`(by cases$a:term<;>rfl)),
(`cI,f0 `(by cases e)),
(`cd,f1 λa=>`(by have:=$a;grind)),
(`ci,f2 λa b=>`(by rw[$a:term];refine$b)),
(`cx,f1 λa=>`(by rw[$a:term];omega)),
(`d8,f2 λa b=>`(by refine$a;exact$b)),
(`dG,f6 λa b c d e f=>`(by rw[ag,$a:term,$b:term,$c:term,$d:term,$e:term];exact$f)),
(`dU,f2 λa b=>`(by unfold$a:ident;rw[$b:term])),
(`d_,f5 λa b c d e=>`(by rw[aK,$a:term,$b:term,$c:term];rw[av,$d:term,$e:term])),
(`df,f3 λa b c=>`(by rw[aq,$a:term,$b:term,$b:term];exact$c)),
(`dy,f0 `(by decide+kernel)),
(`eH,f1 λa=>`(by simp[$a:term];omega)),
(`eM,f2 λa b=>`(by rw[$a:term]at$b:term;simp at$b:term)),
(`eU,f4 λa b c d=>`(by simp[seval,$a:term,$b:term,$c:term,$d:term]))]
def T69:L0:=[(`eW,f3 λa b c=>`(by have$a:ident :$b :=$c;grind)),
(`ej,f0 `(by rw[ab,lim];omega)),
(`ep,f0 `(by rw[ab,seval])),
(`ey,f1 λa=>`(by rw[$a:term];simp)),
(`fN,f2 λa b=>`(by simp[$a:term,$b:term];grind)),
(`fn,f1 λa=>`(by rw[am,$a:term,h];grind)),
(`fo,f3 λa b c=>`(by rw[$a:term]at$b:term;rw[aH,$c:term,$b:term])),
(`fs,f0 `(by rw[eH,lim])),
(`gE,f3 λa b c=>`(by rw[$a:term,$b:term]at$c:term;cases$c:term)),
(`gJ,f1 λa=>`(by refine$a;grind)),
(`gp,f2 λa b=>`(by simpa[$a:term]using$b)),
(`gt,f3 λa b c=>`(by rw[ad,$a:term,$b:term,$c:term];rfl)),
(`h4,f0 `(by assumption)),
(`h5,f2 λa b=>`(by unfold$a:ident;exact$b)),
(`h6,f1 λa=>`(by show$a;grind)),
(`h8,f0 `(by simp[jL])),
(`hE,f0 `(by simp at h)),
(`hT,f1 λa=>`(by rw[ab,$a:term];grind)),
(`hr,f4 λa b c d=>`(by have$a:ident :=$b;rw[af,$c:term,$a:term,$d:term])),
(`iQ,f3 λa b c=>`(by rw[R,$a:term,$b:term,$c:term];grind)),
(`jI,f1 λa=>`(by rw[<-$a:term];rfl)),
(`jK,f2 λa b=>`(by have$a:ident :=$b;grind)),
(`jn,f1 λa=>`(by rw[$a:term];trivial)),
(`ly,f1 λa=>`(by simp[$a:term];rw[bw])),
(`nQ,f1 λa=>`(by cases$a:term<;>first|rfl|rw[a5])),
(`p0,f2 λa b=>`(by obtain⟨_,$a:ident,_⟩:=$b;exact bF $a)),
(`qt,f0 `(by rw[aR];rw[ej])),
(`rG,f0 `(by simp[BA.hd])),
(`sw,f2 λa b=>`(by rw[a0,cs.mp $a,$a:term,$a:term,$b:term];grind)),
(`tK,f7 λa b c d e f g=>`(by rw[aG,C,j,h.sQ $a (by simp[BA.hd]) _,#[h.nd,[bS,0,$b,h.bk],$c,$d,[bS,3,$b,h.it],[bS,4,$b,h.bu],$e,$f,$g,h.il,λi t x a b=>C t x i a b,h.bl,j]])),
(`u5,f2 λa b=>`(by rcases$a:term with rfl|rfl<;>exact$b)),
(`uF,f2 λa b=>`(by have:=jK $a $b;simp at this;omega)),
(`wU,f0 `(by rw[gt,Ir.bE,Ir.dg,q])),
(`xa,f1 λa=>`(by induction l with|nil=>rfl|cons x r q=>simp[$a:term,q])),
(`xm,f1 λa=>`(by rw[bB,hm,vG (i:=$a) x.nd Y Y [D3]]))]
def TA(s:String):L0:=if s<"hK"then if s<"J9"then if s<"ER"then if s<"Bw"then if s<"Ad"then T0 else if s<"BI"then T1 else T2 else if s<"DB"then if s<"CZ"then T3 else T4 else if s<"Dp"then T5 else T6 else if s<"G_"then if s<"F5"then T7 else if s<"Fw"then T8 else T9 else if s<"Hq"then if s<"HD"then T10 else T11 else if s<"IV"then T12 else T13 else if s<"bk"then if s<"L6"then if s<"Jo"then T14 else if s<"KU"then T15 else T16 else if s<"a4"then if s<"Lk"then T17 else T18 else if s<"b'"then T19 else T20 else if s<"ea"then if s<"dB"then if s<"cU"then T21 else T22 else if s<"dt"then T23 else T24 else if s<"fy"then if s<"fH"then T25 else T26 else if s<"gb"then T27 else T28 else if s<"qx"then if s<"lr"then if s<"jL"then if s<"hz"then T29 else if s<"ic"then T30 else T31 else if s<"kc"then if s<"jz"then T32 else T33 else if s<"lE"then T34 else T35 else if s<"oN"then if s<"n6"then if s<"mU"then T36 else T37 else if s<"nk"then T38 else T39 else if s<"pg"then if s<"p3"then T40 else T41 else if s<"qJ"then T42 else T43 else if s<"vS"then if s<"ss"then if s<"ra"then T44 else if s<"sF"then T45 else T46 else if s<"uB"then if s<"tX"then T47 else T48 else if s<"up"then T49 else T50 else if s<"y0"then if s<"wi"then if s<"w4"then T51 else T52 else if s<"xM"then T53 else T54 else if s<"zG"then if s<"yd"then T55 else T56 else if s<"zt"then T57 else T58
def TB(s:String):L0:=if s<"dB"then if s<"be"then if s<"an"then T59 else T60 else if s<"cR"then T61 else T62 else if s<"en"then if s<"dv"then T63 else T64 else if s<"fv"then T65 else T66
def TC(s:String):L0:=if s<"a5"then T67 else if s<"eW"then T68 else T69
def sL:List Lean.Name:=[`fC,`wP,`apt,`fw,`AS,`l8,`aoZ,`aaV,`alL,`amC,`aob,`apB,`anF,`amb,`amL,`ano,`alU,`alk,`apy,`apz,`anb,`pV,`alz,`al9,`ao',`aoK,`anE,`apw,`al',`amV,`akG,`aoM,`ans,`e_c,`O6,`e_g,`aku,`alZ,`amq,`ang,`anR,`apD,`apr,`aoe,`alc,`apj,`alK,`aoh,`anX,`alq,`amR,`aoO,`ao0,`aop,`ala,`aoY,`amM,`aoE,`ao6,`apA,`anP,`amG,`aoV,`akw,`ak5,`apc,`ant,`alb,`aps,`aml,`amU,`amB,`akE,`anh,`aoy,`an3,`apH,`apk,`ak0,`ao9,`aoP,`anL,`am9,`anM,`alB,`anH,`ali,`al4,`an7,`ak4,`ana,`amc,`ak3,`amJ,`anw,`aou,`anN,`ao4,`akF,`alu,`alG,`alT,`amP,`alQ,`aoo,`alP,`amW,`ak9,`amY,`amF,`alm,`akR,`am3,`ane,`amI,`alo,`amv,`apG,`anU,`apK,`alW,`anp,`aos,`aoR,`amX,`aoI,`aoG,`akK,`apu,`anB,`ak1,`MI,`Qr,`ao5,`alF,`alx,`alI,`apF,`anz,`anO,`anu,`akN,`amz,`akS,`ame,`akC,`amr,`xa,`apg,`amw,`amN,`anA,`anj,`an9,`ak',`an8,`akH,`an1,`apb,`alr,`al3,`amK,`am1,`ao3,`aor,`am',`alR,`apo,`amj,`amo,`akL,`apM,`amf,`ama,`akP,`amE,`ams,`akr,`ale,`anZ,`akZ,`anI,`akQ,`apE,`amg,`aon,`an4,`apf,`ank,`aln,`alj,`alg,`aog,`alD,`aoq,`aoi,`alX,`anm,`amt,`aks,`al0,`al6,`am0,`aoQ,`am5,`alf,`amQ,`am_,`akT,`aky,`ao8,`aoz,`ao_,`alM,`ED,`anx,`alV,`amO,`anV,`amT,`aox,`akv,`aoN,`amp,`akt,`aoH,`ak8,`an6,`amy,`aoL,`anY,`api,`anG,`akD,`amn,`amk,`anc,`akX,`al_,`akW,`anf,`aow,`alJ,`amS,`an_,`alS,`getD_some,`getD_none,`Ld,`anJ,`aov,`akO,`AL,`RO,`aoB,`Kn,`aoS,`anT,`amH,`ao1,`ao2,`akM,`al7,`akA,`ann,`aoD,`aly,`akz,`akY,`aot,`aod,`am2,`apv,`anl,`anq,`anS,`aom,`anW,`apx,`anQ,`aoA,`akB,`aoC,`aoU,`an',`an5,`aoJ,`alv,`ape,`ald,`am6,`amd,`alO,`ak2,`apl,`aoT,`alA,`anv,`al5,`alH,`apa,`apJ,`aoc,`aoF,`al1,`ao7,`amD,`amm,`aga,`aoj,`akI,`am7,`akV,`aof,`amx,`alE,`alh,`apC,`am4,`anK,`Ol,`an2,`V4,`als,`apd,`apq,`QR,`apL,`ami,`amu,`ani,`aph,`amA,`al8,`apn,`al2,`akx,`alt,`alC,`aok,`alY,`alw,`ad6,`RH,`ak6,`an0,`akJ,`apm]
def sE(x:Array Lean.Syntax):Lean.MacroM (Array Lean.Syntax):=do
  if x.size>0&&x[0]![2].getId==`seval then
    let mut r:Array Lean.Syntax:=#[]
    for n in sL do
      if !(←Lean.Macro.resolveGlobalName n).isEmpty then r:=(r.push (.node .none ``Lean.Parser.Tactic.simpLemma #[Lean.mkNullNode,Lean.mkNullNode,Lean.mkIdent n])).push (.atom .none ",")
    return r++x
  Lean.Macro.throwUnsupported
section
local macro_rules
|`([$xs,*])=>do
  let e:=xs.getElems.map (·.raw)
  if e.size>0&&e[0]!.isIdent then let n:=e[0]!.getId; if let some f:=((TA n.toString).lookup n).orElse λ_=>(TC n.toString).lookup n then return ←f (e.extract 1 e.size)
  Lean.Macro.throwUnsupported
|`(tactic|rw[$xs,*])=>do
  let e:=xs.getElems.map (·.raw[1])
  if e.size>0&&e[0]!.isIdent then let n:=e[0]!.getId; if let some f:=((TB n.toString).lookup n).orElse λ_=>(TC n.toString).lookup n then
    let b:=(←f (e.extract 1 e.size))[1]
    return ←`(tactic|($(⟨b⟩):tacticSeq))
  Lean.Macro.throwUnsupported
|`(#[$a,*])=>`(⟨$a,*⟩)
local macro_rules|`(tactic|simp $[only%$o]?[$x,*]$[$l]?)=>do let y:=⟨←sE x.elemsAndSeps⟩;`(tactic|simp $[only%$o]?[$y,*]$[$l]?)
namespace Ir
inductive D where|a0|bl(b:Bool)|int(i:Int)|str(s:[aj])|tup(l:[ak])|lst(l:[ak])|aU(l:[dj])|obj(c:Nat)(l:[mK])|ref(n:Nat)|fn(k:Nat)|dX(l:[ak])|b6(l:[ak])|bY(l:[dj])|i7(l:[dj])|du(l:[dj])deriving Inhabited
inductive aP where|aX(c:Nat)(l:[mK])|lst(l:[ak])|aU(l:[dj])deriving Inhabited
abbrev aj:=List aP
inductive R(α:[aI])where|ok(a:α)(S:aj)|ex(c:Nat)(vs:[ak])(S:aj)|bad
@[reducible]def M(U:[aI]):=aj->R U
def M.pure{U:[aI]}(a:U):M U:=λS=>[Z,a]
def M.bind{U J:[aI]}(G:M U)(f:U->M J):M J:=λS=>[Bf,G S,[bc,a,e],f a e,e]
instance : Monad M where
 pure := M.pure
 bind := M.bind
def bad{U:[aI]}:M U:=λ_=>[aW]
def bD{U:[aI]}:([be,U])->M U|aa a=>λS=>[Z,a]|ag=>λ_=>[aW]
def cg{U:[aI]}(G:M U):M U:=λS=>[KY]
def ti(b:Bool):M Unit:=λS=>[nu,b,[h_]]
def D.atom:[ru]|[bK]=>ae|[dD]=>ae|_=>af
def D.pair:[ru]|[bi,[bK],[bK]]=>ae|_=>af
mutual
def D.beq:D→D→Bool|.int a,.int b=>a==b|.str a,.str b=>a==b|.tup l,.tup G=>ll l G|.lst l,.lst G=>ll l G|_,_=>af
def ll:List D→List D→Bool|[],[]=>ae|x::r,y::s=>x.beq y&&ll r s|_,_=>af
end
mutual
def D.flat:D→Bool|.a0=>ae|.bl _=>ae|.int _=>ae|.str _=>ae|.tup l=>Gu l|_=>af
def Gu:List D→Bool|[]=>ae|x::r=>x.flat&&Gu r
end
def j1(x:D)(l:[ak]):Bool:=l.any λy=>y.beq x
def plain(s:[aj]):Bool:=s.all λc=>ao (c<128)
def kz(l:[ak]):Bool:=[gg,l,[],ae,[[c']],plain s,af]
def mY:D->D->M Bool|[kK],[l,b]=>[ce,a==b]|[L,a],[L,b]=>[ce,a==b]|[ax,a],[ax,b]=>[A,kz a=ae/\kz b=ae,[ce,ll a b],bad]|_,_=>bad
def D.jo:[ru]|[eB]=>l.all D.atom|_=>af
def bK(l:[dj])(k:D):[be,D]:=[hU,l.find? [qn,k]]
def cB(l:[dj])(k v:D):[dj]:=[ao,l.any [qn,k],[aS,[rU,k,v]],l++[(k,v)]]
def eV(l:[mK])(f:Nat):[be,D]:=[cX,l,[],ag,[e1],[fd,[H],f,[X],eV r f]]
def dV(l:[mK])(f:Nat)(v:D):[mK]:=[cX,l,[],[(f,v)],[e1],[J7]]
def eQ:([ak])->[be,[a0]]|[]=>aa []|[aP]::r=>[S,eQ r,(i::·)]|[d4]=>ag
def pE:([ak])->[be,[lx]]|[]=>aa []|[L,i]::r=>[S,pE r,(i::·)]|[d4]=>ag
def oW:([ak])->[be,List Bool]|[]=>aa []|[bh,i]::r=>[S,oW r,(i::·)]|[d4]=>ag
def place(n:Nat)(i:Int):[kx]:=[G6]
def at_{U:[aI]}(l:[gu])(i:Int):[be,U]:=(place [E] i).bind λj=>l[j]?
def clip(n:Nat)(v:Int):Nat:=[Jy]
def cut{U:[aI]}(l:[gu])(lo q:Nat):[gu]:=[ed,lo].take (q-lo)
def lexLt:([a0])->([a0])->Bool|[],[]=>af|[],[d4]=>ae|[d4],[]=>af|x::G,y::B=>[A,x=y,lexLt G B,ao (x<y)]
def jw(c:Nat):([aj])->[lx]|[]=>[[]]|[bn]=>[KA,jw c r]
def l9(a:[aj]):([lx])->[aj]|[]=>[]|[w]=>w|w::ws=>w++a++l9 a ws
def lj(c:Nat):Bool:=[z9,48,57]
def pJ(c:Nat):Bool:=[z9,97,122]
def pP(c:Nat):Bool:=[z9,65,90]
def digits(n:Nat):[aj]:=(kI n).toList.map Sw
def am8(i:Int):[aj]:=[A,i<0,45::digits i.natAbs,digits i.natAbs]
def xo(s:[aj]):Nat:=s.foldl [Cy] 0
def l3(x:Int):([a0])->[a0]|[]=>[x]|y::r=>[A,x<=y,x::y::r,y::l3 x r]
def pT:([a0])->[a0]|[]=>[]|[bn]=>l3 x (pT r)
def k6(rs:[a0])(i:Nat):([aj])->[aj]|[]=>[i]|j::r=>[A,[fK,j]<[fK,i]\/([fK,j]=[fK,i]/\i<=j),i::j::r,j::k6 rs i r]
def iG(rs:[a0]):[aj]:=(br [fM]).foldr (k6 rs) []
inductive B1 where|len|sum|any|all|int|str|ord|list|tuple|dict|sorted|vg|vK|isalnum|isalpha|isdigit
inductive B2 where|min|max|split|join
inductive Ex where|c(d:D)|v(i:Nat)|g(k:Nat)|add(a b:Ex)|sub(a b:Ex)|mul(a b:Ex)|mK(a b:Ex)|mod(a b:Ex)|neg(a:Ex)|lt(a b:Ex)|le(a b:Ex)|gt(a b:Ex)|ge(a b:Ex)|eq(a b:Ex)|ne(a b:Ex)|kq(a:Ex)|pQ(a:Ex)|mem(a b:Ex)|oj(a b:Ex)|pU(a b c:Ex)|and(a b:Ex)|or(a b:Ex)|not(a:Ex)|ite(t a b:Ex)|tup(l:[iR])|lst(l:[iR])|iS(t:Bool)|lv(a b:Ex)|ix(a i:Ex)|kx(a lo hi:Ex)|ry(a lo:Ex)|lX(a hi:Ex)|av(a:Ex)(f:Nat)|mX(i k:Nat)|call(f:Nat)(l:[iR])|lO(c:Nat)(l:[iR])|ly(e:Ex)(l:[iR])|new(c:Nat)(l:[iR])|bG(c:Nat)(a:Ex)(f:Nat)(l:[iR])|b1(o:B1)(a:Ex)|b2(o:B2)(a b:Ex)|i6(a b c:Ex)|rj(a b:Ex)|comp(e:Ex)(t:[aj])(k:Nat)(it:[iR])(ifs:[iR])|rz(a:Ex)(i:Nat)|proj(a:Ex)(k:Nat)
inductive Sm where|set(i:Nat)(e:Ex)|own(i:Nat)(e:Ex)|mO(i:Nat)(e:Ex)|fz(i:Nat)(s:Sm)|dv(a:Ex)(f:Nat)(e:Ex)|eN(a:Ex)(f:Nat)(e:Ex)|la(a:Ex)(f:Nat)(e:Ex)|inc(i:Nat)(e:Ex)|dec(i:Nat)(e:Ex)|mQ(i:Nat)(k e:Ex)|pO(i:Nat)(k e:Ex)|j2(i:Nat)(k e:Ex)|put(a k e:Ex)|ei(i:Nat)(e:Ex)|app(a e:Ex)|ej(i:Nat)(e:Ex)|rq(i:Nat)|ex(e:Ex)|ret(e:Ex)|qf(i:Nat)|ot(i:Nat)|iff(t:Ex)(a b:[fV])|cT(t:[aj])(k:Nat)(it:[iR])(b:[fV])|lU(t:Ex)(b:[fV])|brk|hC(c:Nat)(l:[iR])|tr(b h:[fV])|hd(c:Nat)(i:[kx])(b:[fV])
inductive Slot where|un|val(d:D)|own(d:D)|exc(vs:[ak])deriving Inhabited
abbrev Env:=List Slot
inductive Flow where|nx(e:Env)|rt(d:D)|bk(e:Env)
def Slot.cb:Slot->Slot|[h']=>[g0]|s=>s
def bH(d:D):M D:=λS=>[cX,d,[m,n],match S[n]? with|aa [aV]=>[ri]|aa [b3]=>[Z,[b3]]|aa [oN]=>[Z,[oE]]|ag=>[aW],d,[ia]]
def lb(d:D):M Unit:=λS=>[gg,bH d S,.ok (.aU _) _,[h_],.ok (.bY _) _,[h_],[aW]]
def qV(d:D):M Unit:=λS=>[jJ,bH d S,.ok [b6] _,[h_]]
def lc(c:Nat)(d:D):M Unit:=λS=>[jJ,bH d S,.ok (.obj k _) _,[A,k=c,[h_],[aW]]]
def bo:D->M Int|[aP]=>[ce,i]|_=>bad
def eP:D->M Bool|[jR]=>[ce,b]|_=>bad
def fV:D->M [ak]|[aV]=>[ce,l]|_=>bad
def apI:D->M [aj]|[L,l]=>[ce,l]|_=>bad
def lim:Nat:=16777216
def oH:D->D->M D|[aP],[c0]=>[ce,[l,i+j]]|[L,a],[L,b]=>[B2,[L,a++b]]|[ax,a],[ax,b]=>[B2,[W,a++b]]|[bs,a],[bs,b]=>[B2,[bs,a++b]]|_,_=>bad
def xA : D → D → M D
 | .int i, .int j => M.pure (.bl (ao (i < j)))
 | .tup a, .tup b => do
  let x ← bD (eQ a)
  let y ← bD (eQ b)
  M.pure (.bl (lexLt x y))
 | _, _ => bad
def gy(x:D):D->M Bool|[b3]=>[Ks]|[jE]=>[Ks]|[aV]=>[A,([jq]/\[js,D.atom])\/(x.pair=ae/\[js,D.pair]),[ce,j1 x l],bad]|[eB]=>[Jf]|.b6 l=>[Jf]|_=>bad
def eC:D->D->M D|[aV],[aP]=>bD [q_]|[eB],[aP]=>bD [q_]|.b6 l,[aP]=>bD [q_]|.dX l,[aP]=>bD [q_]|[L,l],[aP]=>[A,[hg],bD [cl,[q_],c,[L,[c]]],bad]|[b3],k=>[LN]|[hs],k=>[ao,k.jo,bD (bK l k),bad]|[jE],k=>[LN]|_,_=>bad
def gu:D->([na])->([na])->M D|.dX l,lo,q=>[ce,[W,[AZ]]]|[aV],lo,q=>[ce,[W,[AZ]]]|[eB],lo,q=>[A,[mR,lo.map (clip [E])]=0/\[DS,clip [E]]=[E],bad,[ce,[bs,[AZ]]]]|_,_,_=>bad
def j3:([a0])->Int|[]=>0|[x]=>x|[bn]=>fk x (j3 r)
def og:([a0])->Int|[]=>0|[x]=>x|[bn]=>el x (og r)
def dn : B1 → D → M D
 | .len, .lst l => M.pure (.int l.length)
 | .len, .dX l => M.pure (.int l.length)
 | .len, .tup l => M.pure (.int l.length)
 | .len, .str l => if l.length ≤ lim then M.pure (.int l.length) else bad
 | .sum, .lst l => do M.pure (.int (← bD (eQ l)).sum)
 | .any, .lst l => do M.pure (.bl ((← bD (oW l)).any id))
 | .all, .lst l => do M.pure (.bl ((← bD (oW l)).all id))
 | .int, .str s => if s.all lj = ae ∧ s.length ≤ 8 ∧ 0 < s.length then M.pure (.int (xo s)) else bad
 | .str, .int i => if 0 ≤ i ∧ i < 10 ^ 18 then M.pure (.str (digits i.toNat)) else bad
 | .ord, .str [c] => M.pure (.int c)
 | .list, .lst l => M.pure (.lst l)
 | .list, .tup l => M.pure (.lst l)
 | .tuple, .lst l => M.pure (.tup l)
 | .dict, .aU l => M.pure (.aU l)
 | .sorted, .lst l => do
  let x ← bD (eQ l)
  if x.length < 64 then M.pure (.lst ((pT x).map .int)) else bad
 | .vg, .lst l => do M.pure (.int (og (← bD (eQ l))))
 | .vK, .lst l => do M.pure (.int (j3 (← bD (eQ l))))
 | .isalnum, .str s => if plain s = ae then M.pure (.bl (!s.isEmpty && s.all fun c => lj c || (pJ c || pP c))) else bad
 | .isalpha, .str s => if plain s = ae then M.pure (.bl (!s.isEmpty && s.all fun c => pJ c || pP c)) else bad
 | .isdigit, .str s => if plain s = ae then M.pure (.bl (!s.isEmpty && s.all lj)) else bad
 | _, _ => bad
def jl : B2 → D → D → M D
 | .min, .int i, .int j => M.pure (.int (el i j))
 | .max, .int i, .int j => M.pure (.int (fk i j))
 | .split, .str s, .str [c] => if c < 128 ∧ s.length + 2 ≤ lim then M.pure (.lst ((jw c s).map .str)) else bad
 | .join, .str s, .lst l => do
  let ws ← bD (pE l)
  if (ws.map mu).sum + ws.length * s.length ≤ lim then M.pure (.str (l9 s ws)) else bad
 | _, _, _ => bad
def sJ:B2->D->M Unit|.min,_=>[ce,()]|.max,_=>[ce,()]|_,[dD]=>[ce,()]|_,_=>bad
def cM{U J:[aI]}(f:U->[be,J]):([gu])->[be,List J]|[]=>aa []|[bn]=>(f x).bind λy=>[S,cM f r,(y::·)]
def tX(k:Nat):D->[be,D]|[eB]=>l[k]?|_=>ag
def adV(k:Nat)(d:D):M [ak]:=match k with|0=>[gg,d,[aV],[ce,l],[eB],[ce,l],bad]|1=>[rm,[dm],[A,-[km]<=n/\n<=lim,[ce,[jx,[fu],[l,[am,i]]]],bad]]|3=>[rm,[aV],[ce,[rQ,[am,[X]]]]]|4=>[rm,[aV],[ce,[rQ,[am,[X]]+1]]]|6=>[rm,.i7 l,[ce,[pk,[nY]]]]|7=>[rm,[c'],[A,s.length<=lim,[ce,s.map λc=>[L,[c]]],bad]]|_=>bad
def aaL(k:Nat)(d e:D):M [ak]:=[gg,k,2,[rm,[kK],[d6,e,[l,b],[A,[uw,a]/\[uw,b]/\b-a<=lim,[ce,[D_,[am,i]]],bad],bad]],5,[rm,[ax,a],[gg,e,[ax,b],[ce,[Eg]],[bs,b],[ce,[Eg]],bad]],bad]
def eA(k:Nat)(l:[ak]):M [ak]:=[gg,l,[d],adV k d,[d,e],aaL k d e,bad]
def gc(e:Env)(t:[aj])(d:D):[be,Env]:=[gg,t,[i],aa [qe],[i,j],[d6,d,[ku],[JU],ag],ag]
def b4(e:Env):([aj])->Env|[]=>e|i::r=>(b4 e r).set i [V]
def ad1 {U J : Type} (f : U → M J) : List U → M (List J)
 | [] => M.pure []
 | x :: r => do
  let y ← f x
  let B ← ad1 f r
  M.pure (y :: B)
def eJ {U J : Type} (f : U → M (Option J)) : List U → M (List J)
 | [] => M.pure []
 | x :: r => do
  let y ← f x
  let B ← eJ f r
  M.pure (match y with | aa z => z :: B | ag => B)
structure bL where
 call : Nat → List D → M D
 init : Nat → Nat
 fA : Nat → Option D
 fuel : Nat
 ar : Nat → Nat
def cp(G:Nat)(S:aj):Nat->D->[be,D]|0,_=>ag|[an],d=>match d with|[m,n]=>[A,n<G,[eq,n],match S[n]? with|aa [oN]=>[S,[ye,Nat],.obj c]|aa [aV]=>[xK]|aa [b3]=>[S,[ye,D],.aU]|ag=>ag]|[eB]=>[S,[Bw],.tup]|[aV]=>[xK]|[b3]=>[S,[ye,D],.aU]|[oE]=>[S,[ye,Nat],.obj c]|.bY _=>ag|.i7 _=>ag|.dX _=>ag|.b6 _=>ag|d=>aa d
mutual
def D.low(G:Nat):D→Bool|.ref n=>ao (n<G)|.tup l=>eM G l|.lst l=>eM G l|.dX l=>eM G l|.b6 l=>eM G l|.aU l=>lowP G l|.bY l=>lowP G l|.i7 l=>lowP G l|.obj _ l=>iT G l|_=>ae
def eM(G:Nat):List D→Bool|[]=>ae|x::r=>x.low G&&eM G r
def lowP(G:Nat):List (D×D)→Bool|[]=>ae|(_,x)::r=>x.low G&&lowP G r
def iT(G:Nat):List (Nat×D)→Bool|[]=>ae|(_,x)::r=>x.low G&&iT G r
end
def aP.low(G:Nat):aP->Bool|.aX _ l=>iT G l|[aV]=>eM G l|[b3]=>lowP G l
def fW(G:M D):M D:=λS=>match G S with|[bc,d,e]=>[gn,cp [ab] e 8 d,x,[nu,[hR,e.take [ab],c,[q3]],[bc,x,e.take [ab]]],[aW]]|[iU,e]=>[A,[hR,e.take [ab],c,[q3]]=ae/\Gu B=ae,[iU,e.take [ab]],[aW]]|[aW]=>[aW]
def newD(Z:bL)(c:Nat)(l:[ak]):M D:=λS=>match Z.call (Z.init c) ([hd]::l) [vz,[]]with|[lK,e]=>[pf,e]|.ok _ _=>[aW]|.ex _ _ _=>[aW]|[aW]=>[aW]
def rd(a:Ex)(e:Env)(G:M D):M D:=[d6,a,[gY],[gg,e[i]?,aa [g0],[ce,d],aa [h'],[ce,d],bad],G]
mutual
def ah(Z:bL):Ex→Env→M D|.c d,_=>M.pure d|.v i,e=>(match e[i]? with|aa (.val d)=>M.pure d|_=>bad)|.g k,_=>bD (Z.fA k)|.add a b,e=>do oH (←ah Z a e) (←ah Z b e)|.sub a b,e=>do let x←bo (←ah Z a e);let y←bo (←ah Z b e);M.pure (.int (x-y))|.mul a b,e=>do let x←bo (←ah Z a e);let y←bo (←ah Z b e);if-(2^64)<x∧x<2^64 then M.pure (.int (x*y))else bad|.mK a b,e=>do let x←bo (←ah Z a e);let y←bo (←ah Z b e);if 0<y∧y<2^64 then M.pure (.int (x/y))else bad|.mod a b,e=>do let x←bo (←ah Z a e);let y←bo (←ah Z b e);if 0<y then M.pure (.int (x%y))else bad|.neg a,e=>do let x←bo (←ah Z a e);M.pure (.int (-x))|.lt a b,e=>do xA (←ah Z a e) (←ah Z b e)|.le a b,e=>do let x←bo (←ah Z a e);let y←bo (←ah Z b e);M.pure (.bl (ao (x≤y)))|.gt a b,e=>do let x←bo (←ah Z a e);let y←bo (←ah Z b e);M.pure (.bl (ao (y<x)))|.ge a b,e=>do let x←bo (←ah Z a e);let y←bo (←ah Z b e);M.pure (.bl (ao (y≤x)))|.eq a b,e=>do let x←ah Z a e;let y←ah Z b e;M.pure (.bl (←mY x y))|.ne a b,e=>do let x←ah Z a e;let y←ah Z b e;M.pure (.bl (!(←mY x y)))|.kq a,e=>(do match←ah Z a e with|.a0=>M.pure (.bl ae)|_=>M.pure (.bl af))|.pQ a,e=>(do match←ah Z a e with|.a0=>M.pure (.bl af)|_=>M.pure (.bl ae))|.mem a b,e=>do let x←ah Z a e;let y←bH (←rd b e (ah Z b e));M.pure (.bl (←gy x y))|.oj a b,e=>do let x←ah Z a e;let y←bH (←rd b e (ah Z b e));M.pure (.bl (!(←gy x y)))|.pU a b c,e=>do let x←bo (←ah Z a e);let y←bo (←ah Z b e);if x≤y then do let z←bo (←ah Z c e);M.pure (.bl (ao (y≤z)))else M.pure (.bl af)|.and a b,e=>do let x←eP (←ah Z a e);if x=ae then do M.pure (.bl (←eP (←ah Z b e)))else M.pure (.bl af)|.or a b,e=>do let x←eP (←ah Z a e);if x=ae then M.pure (.bl ae)else do M.pure (.bl (←eP (←ah Z b e)))|.not a,e=>do let x←eP (←ah Z a e);M.pure (.bl (! x))|.ite t a b,e=>do let x←eP (←ah Z t e);if x=ae then ah Z a e else ah Z b e|.tup l,e=>do M.pure (.tup (←cD Z l e))|.lst l,e=>do M.pure (.lst (←cD Z l e))|.iS t,_=>M.pure (if t=ae then .bY []else .aU [])|.lv a b,e=>do let x←ah Z a e;let y←ah Z b e;if x.jo=ae then M.pure (.bY [(x,y)])else bad|.ix a i,e=>do let x←rd a e (ah Z a e);let y←ah Z i e;eC (←bH x) y|.kx a lo q,e=>do let x←rd a e (ah Z a e);let y←bo (←ah Z lo e);let z←bo (←ah Z q e);gu (←bH x) (aa y) (aa z)|.ry a lo,e=>do let x←rd a e (ah Z a e);let y←bo (←ah Z lo e);gu (←bH x) (aa y) ag|.lX a q,e=>do let x←rd a e (ah Z a e);let z←bo (←ah Z q e);gu (←bH x) ag (aa z)|.av a f,e=>(do match←bH (←ah Z a e)with|.obj _ l=>bD (eV l f)|_=>bad)|.mX i k,e=>(match e[i]? with|aa (.exc B)=>bD B[k]?|_=>bad)|.call f l,e=>do Z.call f (←cD Z l e)|.ly a l,e=>(do match←ah Z a e with|.fn f=>if Z.ar f=l.length then do Z.call f (←cD Z l e)else bad|_=>bad)|.new c l,e=>do newD Z c (←cD Z l e)|.lO c l,e=>do let G←cD Z l e;fW (newD Z c G)|.bG c a f l,e=>do let x←ah Z a e;lc c x;let y←cD Z l e;Z.call f (x::y)|.b1 o a,e=>do dn o (←bH (←rd a e (ah Z a e)))|.b2 o a b,e=>do let x←rd a e (ah Z a e);sJ o x;let y←ah Z b e;jl o (←bH x) y|.i6 a b c,e=>(do let x←rd a e (ah Z a e);lb x;let y←ah Z b e;let z←ah Z c e;match←bH x with|.aU l=>if y.atom=ae then M.pure ((bK l y).getD z)else bad|.bY l=>if y.jo=ae then M.pure ((bK l y).getD z)else bad|_=>bad)|.rj a b,e=>(do match←ah Z a e with|.du l=>do let y←ah Z b e;if y.atom=ae then M.pure ((bK l y).getD .a0)else bad|_=>bad)|.comp I t k it S,e=>do let G←eA k (←cD Z it e);let w:=b4 e t;let l←eJ (fun d=>do let u←bD (gc w t d);match S with|[]=>do M.pure (aa (←ah Z I u))|c::_=>do let b←eP (←cg (ah Z c u));if b=ae then do M.pure (aa (←ah Z I u))else M.pure ag) G;M.pure (.lst l)|.proj a k,e=>do let x←ah Z a e;let l←fV (←bH x);M.pure (.lst (←bD (cM (tX k) l)))|.rz a i,e=>do let n←bo (←ah Z a e);match e[i]? with|aa (.val (.lst l))=>do let rs←bD (eQ l);if n=(rs.length:Int)∧rs.length<64 then M.pure (.lst ((iG rs).map fun(j:Nat)=>.int (j:Int)))else bad|_=>bad
def cD(Z:bL):List Ex→Env→M (List D)|[],_=>M.pure []|a::r,e=>do let x←ah Z a e;let s←cD Z r e;M.pure (x::s)
end
def Ex.fresh:Ex->Bool|[b6]=>ae|.iS _=>ae|.lv _ _=>ae|[yz]=>ae|[As]=>ae|.b1 [lX] _=>ae|.b1 .dict _=>ae|.b2 [nq] _ _=>ae|_=>af
def cW (b : Env → M Flow) (t : List Nat) : List D → Env → M Flow
 | [], e => M.pure (.nx e)
 | d :: r, e => do
  let q ← bD (gc e t d)
  match ← b q with
  | .nx z => cW b t r z
  | .bk z => M.pure (.nx z)
  | .rt x => M.pure (.rt x)
def jY (t : Env → M D) (b : Env → M Flow) : Nat → Env → M Flow
 | 0, _ => bad
 | n + 1, e => do
  let c ← eP (← t e)
  if c = ae then do
   match ← b e with
   | .nx z => jY t b n z
   | .bk z => M.pure (.nx z)
   | .rt x => M.pure (.rt x)
  else M.pure (.nx e)
def dg(e:Env)(i:Nat):M D:=[d6,e[i]?,aa [h'],[ce,d],bad]
def fR:D->M [rr]|[m,n]=>λS=>[K0]|_=>bad
def jX(n:Nat)(c:aP):M Unit:=λS=>[bc,(),[dl,n,c]]
def rl(c:aP):M D:=λS=>[pf,S++[c]]
def iI:D->M aP|[aV]=>[ce,[aV]]|[b3]=>[ce,[b3]]|_=>bad
def vk:[ru]|[b6]=>ae|.aU _=>ae|.bY _=>ae|_=>af
def ki(c:Nat)(B:[ak]):Bool:=[gg,B,[],ao (5<=c/\c<=12/\c≠9),[[bK],[bK],[bK]],ao (c=9),af]
def jm(e:Ex)(G:M D):M D:=[gg,e,[yz],cg G,[As],cg G,G]
mutual
def bE(Z:bL):Sm→Env→M Flow|.set i e,env=>do let d←jm e (ah Z e env);M.pure (.nx (env.set i (.val d)))|.own i e,env=>do let d←jm e (ah Z e env);if e.fresh=ae∧vk d=ae then M.pure (.nx (env.set i (.own d)))else bad|.mO i e,env=>do let d←ah Z e env;if e.fresh=ae then do let r←rl (←iI d);M.pure (.nx (env.set i (.val r)))else bad|.fz i s,env=>do let d←dg env i;bE Z s (env.set i (.val d))|.dv a f e,env=>(do let d←ah Z e env;let(n,c)←fR (←ah Z a env);match c with|.aX k l=>do ti (ao (l.length<100));jX n (.aX k (dV l f d));M.pure (.nx env)|_=>bad)|.eN a f e,env=>(do let d←ah Z e env;let(n,c)←fR (←ah Z a env);match c with|.aX k l=>do if e.fresh=ae∧l.length<100 then do let r←rl (←iI d);jX n (.aX k (dV l f r));M.pure (.nx env)else bad|_=>bad)|.la a f e,env=>(do let x←ah Z a env;let(n,c)←fR x;match c with|.aX T l=>(do let y←bo (←bD (eV l f));let z←bo (←ah Z e env);let(n,c)←fR x;match c with|.aX k l=>do ti (ao (l.length<100∧k=T));jX n (.aX k (dV l f (.int (y+z))));M.pure (.nx env)|_=>bad)|_=>bad)|.inc i e,env=>do let x←bo (←ah Z (.v i) env);let y←bo (←ah Z e env);M.pure (.nx (env.set i (.val (.int (x+y)))))|.dec i e,env=>do let x←bo (←ah Z (.v i) env);let y←bo (←ah Z e env);M.pure (.nx (env.set i (.val (.int (x-y)))))|.mQ i k e,env=>do let l←fV (←dg env i);let j←bD (place l.length (←bo (←ah Z k env)));let x←bo (←bD l[j]?);let y←bo (←ah Z e env);M.pure (.nx (env.set i (.own (.lst (l.set j (.int (x+y)))))))|.pO i k e,env=>do let l←fV (←dg env i);let j←bD (place l.length (←bo (←ah Z k env)));let x←bo (←bD l[j]?);let y←bo (←ah Z e env);M.pure (.nx (env.set i (.own (.lst (l.set j (.int (x-y)))))))|.j2 i k e,env=>(do let d←ah Z e env;let o←dg env i;let x←ah Z k env;match o with|.aU l=>if x.atom=ae∧l.length<lim then M.pure (.nx (env.set i (.own (.aU (cB l x d)))))else bad|.bY l=>if x.jo=ae∧l.length<lim then M.pure (.nx (env.set i (.own (.bY (cB l x d)))))else bad|_=>bad)|.put a k e,env=>(do let d←ah Z e env;let r←ah Z a env;let x←ah Z k env;let(n,c)←fR r;match c with|.aU l=>(if x.atom=ae∧l.length<lim then(do jX n (.aU (cB l x d));M.pure (.nx env))else bad)|.lst l=>do let j←bD (place l.length (←bo x));jX n (.lst (l.set j d));M.pure (.nx env)|_=>bad)|.ei i e,env=>do let l←fV (←dg env i);let d←ah Z e env;if l.length<lim then M.pure (.nx (env.set i (.own (.lst (l++[d])))))else bad|.app a e,env=>(do let r←ah Z a env;qV r;let d←ah Z e env;let(n,c)←fR r;match c with|.lst l=>(if l.length<lim then(do jX n (.lst (l++[d]));M.pure (.nx env))else bad)|_=>bad)|.ej i e,env=>do let l←fV (←dg env i);let x←fV (←ah Z e env);if l.length+x.length≤lim then M.pure (.nx (env.set i (.own (.lst (l++x)))))else bad|.rq i,env=>do let l←fV (←dg env i);if l.isEmpty=ae then bad else M.pure (.nx (env.set i (.own (.lst l.dropLast))))|.ex e,env=>do let _←ah Z e env;M.pure (.nx env)|.ret e,env=>do let d←ah Z e (env.map Slot.cb);M.pure (.rt d)|.qf i,env=>(do match←dg env i with|.bY l=>M.pure (.rt (.i7 l))|_=>bad)|.ot i,env=>(do match←dg env i with|.bY l=>M.pure (.rt (.lst (l.map fun p=>.tup [p.1,p.2])))|_=>bad)|.iff t a b,env=>do let c←eP (←ah Z t env);if c=ae then bh Z a env else bh Z b env|.cT t k it b,env=>do let G←eA k (←cD Z it env);cW (fun e=>bh Z b e) t G env|.lU t b,env=>jY (fun e=>ah Z t e) (fun e=>bh Z b e) Z.fuel env|.brk,env=>M.pure (.bk env)|.hC c l,env=>do let B←cD Z l env;fun S=>if ki c B=ae then .ex c B S else .bad|.tr b h,env=>(fun S=>match bh Z b env S with|.ex c B q=>pI Z h c B (env.map fun _=>Slot.un) q|r=>r)|.hd _ _ _,_=>bad
def bh(Z:bL):List Sm→Env→M Flow|[],e=>M.pure (.nx e)|s::r,e=>do match←bE Z s e with|.nx u=>bh Z r u|f=>M.pure f
def pI(Z:bL):List Sm→Nat→List D→Env→M Flow|[],c,B,_=>fun S=>.ex c B S|.hd k i b::r,c,B,e=>if k=c then(do ti (i.isNone||(k==9&&B.length==3));match←cg (bh Z b (match i with|aa i=>e.set i (.exc B)|ag=>e))with|.rt d=>M.pure (.rt d)|_=>bad)else(if 5≤c∧c≤12 then pI Z r c B e else bad)|_::_,_,_,_=>bad
end
structure Fn where
 np : Nat
 ns : Nat
 sc : Bool
 body : List Sm
structure q_ where
 fns : List Fn
 init : Nat → Nat
 fA : Nat → Option D
 fuel : Nat
def q_.ar(P:q_)(k:Nat):Nat:=[gn,P.fns[k]?,F,F.np,0]
def jZ (Z : bL) (F : Fn) (l : List D) : M D := do
 match ← bh Z F.body (l.map Slot.val ++ fH (F.ns - F.np) Slot.un) with
 | .rt d => M.pure d
 | .nx _ => M.pure .a0
 | .bk _ => bad
def run(P:q_):Nat->Nat->([ak])->M D|0,_,_=>bad|[aw],f,l=>[gn,P.fns[f]?,F,[A,[E]=F.np,[ao,F.sc,fW [Iv],[Iv]],bad],bad]
def f0:Fn:=[i4,[[bA,.kq [a6,9],[o6]],[b1,.sub [al] (.mul (.mK [al] (.ix [a6,9] [a7])) [gj,[a6,9]])]]]
def f1:Fn:=[jA,6,[bq,[a6,4]],[ew,[gs],[al],[[bA,.le [av] [U],[bq,[a4]]]]],[ai]]
def f2:Fn:=[cv,4,[[mb,[jV,8],[b1,.comp [fi,1,[a6,8],[ai]] [3] 2 [[a7],[yU]] []]],[dY,[fi,1,[a6,7],[al]]],[b1,.comp [U] [3] 1 [[al]] []]]]
def f3:Fn:=[i4,[[b1,.b1 .sum [en,2,[lD,0]]]]]
def f4:Fn:=[b2,4,[[bA,.kq [a6,9],[sX,af]],[bq,.ix [a6,9] [a7]],[b1,.and (.lt [U] (.mul (.mK [al] [ai]) [ai])) (.ge (.mod [U] [ai]) (.sub [ai] [gj,[a6,9]]))]]]
def f5:Fn:=[cv,6,[[dY,[en,2,[lD,0]]],[za],[cr,[bd]],.cT [5] 1 [[al]] [GV],[bj,[ai]]]]
def f6:Fn:=[cv,6,[[dY,[al]],[bq,[lD,3]],.cT [4] 2 [[yU],(.add (.g 0) [a7])] [Ha],[qB,[[U],[ai]]]]]
def f7:Fn:=#[5,5,af,[[eg,0,[al]],[eg,1,[U]],[eg,2,[ai]],[eg,3,[av]]]]
def f8:Fn:=[lQ,4,[[eg,0,[al]],[eg,4,[U]],[eg,5,[ai]],[eg,6,.b1 .tuple (.b1 .sorted [ai])],[pm,7],[pm,8],[eg,9,[tG]]]]
def f9:Fn:=[lQ,4,[CA,0,4,10,[ai]]]
def RG:Fn:=#[7,7,af,[[eg,0,[al]],[eg,11,[U]],[eg,12,[ai]],[eg,13,[av]],[eg,14,[a4]],[eg,15,[cZ]]]]
def OF:Fn:=[d9,1,[.eN [aK] 16 (.iS af),[pm,17],[pm,18],[pm,19],[pm,20],[pm,21],.eN [aK] 22 (.iS af)]]
def PF:Fn:=[d9,2,[[cD,1,.new 1 [[a6,0],[a6,4],[a6,5]]],.eN [al] 7 [sc,7],.eN [al] 8 [sc,8],.dv [al] 9 [a6,9],[o6]]]
def QG:Fn:=[d9,3,[[cD,1,.new 4 []],.eN [al] 16 (.b1 .dict [a6,16]),.eN [al] 17 [sc,17],.eN [al] 18 [de,[fr,12,[U]],2,[a6,18]],.eN [al] 19 [sc,19],.eN [al] 20 [sc,20],.eN [al] 21 [sc,21],.eN [al] 22 (.b1 .dict [lH]),[o6]]]
def Nv:Fn:=[oi,.i6 [lH] [aR,[i8]] (.g 1)]
def KW:Fn:=[oi,.i6 [lH] [aR,[ij]] (.g 1)]
def Mv:Fn:=[oi,.eq (.i6 [lH] [aR,[jj]] [aR,[pY]]) [aR,[nT]]]
def f17:Fn:=[lQ,4,[CA,23,24,25,[ai]]]
def D9:Fn:=[d9,1,[[Ja,97,122,2],[Ja,48,57,3],[zz,32,[bj,[aR,[32]]]],[zz,10,[bj,[aR,[10]]]],[bj,[aR,[63]]]]]
def QE:Fn:=[d9,3,[.own 1 (.b2 [nq] (.b2 .join [aR,[]] [de,[fr,18,[U]],2,[aK]]) [aR,[10]]),[bA,.eq (.ix [al] [zU]) [aR,[]],.rq 1],[o6]]]
def Lc:Fn:=[d9,2,[[b1,[kE,[al],[1],.b2 [nq] [aK] [aR,[32]],[(.ne [al] [aR,[]])]]]]]
def K0:Fn:=[oi,.b2 .join [aR,[32]] [aK]]
def RK:Fn:=[d9,3,[[b1,.comp (.b1 .ord [U]) [2] 7 [(.b2 .join [aR,[]] [de,.add [al] [aR,[10]],1,[aK]])] []]]]
def Qv:Fn:=[IU,.isalnum,.and (.b1 .isalpha [gj,[aK]]) (.oj [aK] (.g 4))]
def Eb:Fn:=[IU,.isdigit,.or (.eq [aK] [aR,[48]]) (.ne [gj,[aK]] [aR,[48]])]
def Nr:Fn:=[b2,3,[CA,23,26,24,[bd]]]
def Pu:Fn:=[i4,[.hC 9 [[a6,23],[a6,24],[al]]]]
def Q2:Fn:=[i4,[.hC 9 [[a6,23],[a7],[al]]]]
def xm:Fn:=[oi,.lt [a6,24] [jV,26]]
def yo:Fn:=[d9,1,[[Eq],[bA,.gt [a6,24] [jV,26],[ow,5]],[bj,[ig,26,[a6,24]]]]]
def xS:Fn:=[pn,3,[dY,[DX]],[bA,.oj [U] [al],[ow,5]]]
def LP:Fn:=[d9,2,[[cD,1,[DX]],[bA,.not [ni,23],[ow,5]],[o6]]]
def Ps:Fn:=[b2,5,[[bq,[DX]],[bA,.not [fr,24,[ai]],[ow,5]],[cr,.b1 .int [ai]],[pd,.lt [av] [al],.gt [av] [U],[ow,8]],[bj,[av]]]]
def L5:Fn:=[i4,[.iff (.and (.bG 13 [aK] 28 []) (.eq (.ix [a6,26] [a6,24]) [al])) [[Eq],[sX,ae]] [],[sX,af]]]
def Nf:Fn:=[d9,1,[.iff (.bG 13 [aK] 28 []) [[Eq],[ow,5]] []]]
def JQ:Fn:=[b2,3,[[bA,.ge [rk] [U],[ow,9]]]]
def Me:Fn:=[pn,3,[dY,[g7,31,[]]],[zI,[U],[a6,16]]]
def Rk:Fn:=[b2,4,[[bq,.i6 [a6,16] [g7,31,[]] [bi,[aR,[]],[bd]]],[bA,.ne [gj,[ai]] [U],[se,7]],[b1,.ix [ai] [a7]]]]
def Gg:Fn:=[cv,6,[[ua,17,10],[mm,36],[bq,[sB,[bd],16]],[cr,.eq [yj,[s5],[mL]] [aR,[mL]]],[fA,[bd]],.iff (.and [av] [g7,33,[[aR,[ut]]]]) [[fA,[qx,[hL]]],[bA,.not [ze,[a4]],[se,7]]] [],[Iz],[pM,[hL],17]]]
def FO:Fn:=[cv,6,[[ua,18,11],[mm,36],[bq,[sB,[bd],15]],.own 4 [bF],.lU [g7,28,[]] [AN],.fz 4 (.app [a6,18] (.new 1 [ES])),[pM,[g8],18]]]
def Oh:Fn:=[i4,[[b1,.ix [a6,18] (.sub [qx,[g8]] [a7])]]]
def Ds:Fn:=[b2,5,[[Lh],[It],[bq,[iT]],[HH],[cr,[p7,[ai],.g 0]],[JC]]]
def Od:Fn:=[IP,7,8]
def Mn:Fn:=[IP,8,7]
def Fz:Fn:=[cv,4,[[mm,40],[bA,.pQ (.av [U] 9),[rA,[al],27,6]],[bq,[sB,[a7],0]],.ex [g7,30,[[bs,[[aR,[mD]]]]]],.dv [U] 9 [bi,[ai],[sB,[EB],0]]]]
def GD:Fn:=[cv,5,[[ua,19,12],[mm,36],[bq,[sB,[bd],15]],.mO 4 [ax,[[fJ,46,[bF]]]],.lU [g7,28,[]] [Cw],.app [a6,19] (.lO 2 [ES]),[pM,[l_],19]]]
def NO:Fn:=[jA,5,[bq,[qx,[g8]]],[zI,[ai],.proj [U] 0],[bi,[ai],[sB,[a7],0]]]
def E9:Fn:=[cv,8,[[ua,20,13],[mm,36],[bq,[yj,[j0],[pJ]]],[G7],[fA,[bd]],[Jd],[cD,6,[yN,[qs]]],[cD,7,[yN,[p2]]],[A9],[pM,[hF],20]]]
def Lh:Fn:=[i4,[[bA,.bG 13 [aK] 33 [[al]],[b1,[p7,[a7],.g 15]]],[bj,[bd]]]]
def Ha:Fn:=[cv,5,[[dY,[qx,[hF]]],[bq,[qx,[hF]]],[cr,[bi,.b2 .min [U] [ai],.b2 .max [U] [ai]]],[pd,.eq [U] [ai],.mem [av] [a6,21],[se,6]],.app [a6,21] [av]]]
def RU:Fn:=[b2,3,[[zI,[U],[lH]]]]
def Md:Fn:=[d9,2,[[cD,1,[p7,[bd],[fe,9]]],[bj,[bi,[al],[p7,[a7],.g 17]]]]]
def Nj:Fn:=[Bj,[i8],[ni,51]]
def Kz:Fn:=[Bj,[ij],[ni,51]]
def Fc:Fn:=[Bj,[jj],[yj,[nT],[pY]]]
def Eu:Fn:=[cv,3,[[La],[bA,.kq [U],[se,5]],[LZ],.ex [g7,34,[]]]]
def Kt:Fn:=[cv,5,[.cT [2,3] 4 [[ni,19]] [[yH],[mb,[e6,[av]],[Kb]]]]]
def DP:Fn:=#[1,2,ae,[[cD,1,.new 4 []],.ex [bX,56,[[al],[aK]]],[o6]]]
def Hf:Fn:=#[2,3,ae,[[dY,[nk,13]],.ex [bX,56,[[U],[al]]],[qh]]]
def OI:Fn:=[b2,8,[[bq,[gj,[aK]]],[cr,.ix [aK] [a7]],[fA,.mul [U] [av]],[cD,6,.mK [al] [a4]],[cD,7,.mod [al] [a4]],[pd,.eq [fT] [bd],[ef,60,[ai],[cZ],.sub (.mul [iT] [fT]) [a4]],[b1,.mul [cZ] [av]]],[b1,.mul (.add [cZ] [a7]) [av]]]]
def K7:Fn:=[b2,3,[[bA,.lt [aK] [fe,4],[b1,.mem [aK] [bi,[bd],[iT]]]],[bA,.ne [U] [bd],[b1,.lt [U] [bd]]],[zz,8,[b1,.eq (.mod [al] [iT]) [bd]]],[zz,9,[b1,.eq (.mod [al] [iT]) [a7]]],[b1,.mem [aK] [bi,[fe,5],[fe,6]]]]]
def A_:Fn:=[cv,8,[[dY,.b1 .sum [al]],[bA,.eq [U] [bd],[bj,[de,[bd],7,[al]]]],.own 3 [de,.mK (.mul [aK] [fT]) [U],7,[al]],[cr,[de,.mod (.mul [aK] [fT]) [U],7,[al]]],[fA,.rz [rk] 4],[ew,[6],.lX [a4] (.sub [aK] [y0]),[.mQ 3 [cZ] [a7]]],[bj,[ai]]]]
def LH:Fn:=[jA,8,.own 3 (.b1 [lX] [al]),.cT [gs] 5 [[a6,19],[U]] [[ew,[6,7],.av [av] 10,[Li]]],[ai]]
def Fv:Fn:=[b2,9,[[bq,[kE,.mul (.av [ig,18,[a4]] 4) [cZ],[5,6],[bW,10],[]]],[bA,.eq [y0] [bd],[bq,.proj [bW,10] 1]],[cr,[rd,61,.mul [bW,4] [U]]],[Ll,[hv],[bW,10]]]]
def EL:Fn:=[b2,8,[[za],.cT [gs] 4 [[fJ,62,[U]]] [HJ],.cT [6,7] 5 [[a6,19],[U]] [JH],[bj,[ai]]]]
def My:Fn:=[d9,2,[[b1,.b1 .sum (.proj [aK] 1)]]]
def Ov:Fn:=[b2,4,[[bq,[bW,12]],[bA,.eq [bW,11] [aR,[j0]],[bq,[ef,59,[nk,14],.mul [U] [bW,12],[fe,10000]]]],[mb,[bW,14],[bq,.b2 .min [ai] [bW,14]]],[b1,.b2 .min [ai] [U]]]]
def NG:Fn:=[b2,9,[[bq,[kE,.ite (.mem (.av [U] 13) [bi,[bd],[a4]]) [cZ] [bd],[5,6],[al],[]]],[cr,[rd,61,[fi,66,[U],[y0]]]],[Ll,.sub (.ix [fT] [a7]) [hv],[al]]]]
def KL:Fn:=[lQ,6,[[cr,[fJ,64,[U]]],[ew,[5],[ai],[Kq]],[bj,[av]]]]
def Gp:Fn:=[b2,10,[[bq,[nk,14]],[cr,[kE,[hv],[8],[U],[(.not [ze,[hv]])]]],[fA,.add [fe,10000] (.b1 .sum [de,.av [ig,17,[hv]] 1,8,[av]])],[cD,6,[al]],.own 7 (.iS af),[ew,[8],[av],[Gg]],[cD,6,.b2 .max [cZ] [bd]],[ew,[8],[U],[FR]],[bj,[bi,[cZ],[fT]]]]]
def Hk:Fn:=[cv,7,[[dY,[kE,[bi,.av [ig,18,[cZ]] 6,[a4]],[6,5],[al],[]]],.iff [nk,16] [[qh]] [],.own 3 (.iS ae),[ew,[gs],[U],[Ik]],.ot 3]]
def G4:Fn:=[pn,8,.own 2 [de,[bd],7,[a6,17]],[ew,[3,4],[lD,70],[Gm]]]
def N3:Fn:=[b2,6,[[bq,.comp [a4] [gs] 5 [[a6,17],[U]] [(.av [av] 2)]],[m1,[ni,65],[y0]]]]
def P2:Fn:=[i4,[[bj,[ef,59,[nk,15],[al],[a7]]]]]
def Mi:Fn:=[i4,[[bj,[en,73,[fJ,72,[lD,71]]]]]]
def G_:Fn:=[jA,6,[bq,.ix [fi,69,[U],[bW,6]] [a7]],[cr,[kE,.ix [ai] [a4],[5],[bW,6],[[ze,[a4]]]]],[en,73,.add [U] (.b1 .sum [av])]]
def O_:Fn:=[b2,3,[[b1,.ge (.b1 .vg [fJ,62,[U]]) [bd]]]]
def MB:Fn:=[b2,4,[[b1,.not (.b1 .any [de,.mem [bi,[ai],[U]] [a6,21],3,[al]])]]]
def Pl:Fn:=[b2,3,[[b1,.ge [ni,65] (.av [ig,20,[U]] 15)]]]
def Gh:Fn:=[lQ,7,[[bA,.not [fJ,76,[U]],[sX,af]],[cr,[fJ,64,[U]]],.cT [5,6] 3 [[ai]] [Gv],[sX,ae]]]
def Ef:Fn:=[cv,7,[[dY,[ax,[[h9]]]],[ew,[3],[a6,19],[.own 4 [bF],[ew,[5],[U],[GS]],.fz 4 [dY,[av]]]],[b1,[kE,[a4],[5],[U],[[fJ,76,[a4]]]]]]]
def Rt:Fn:=[pn,5,[dY,[ax,[[h9]]]],.cT [3] 2 [[a7],(.add [jV,20] [a7])] [Ga]]
def FP:Fn:=[cv,4,[.own 2 (.lv [h9] [al]),[ew,[3],.ry [lD,81] [a7],[GC]],.qf 2]]
def Rc:Fn:=[cv,5,[[dY,[de,[fJ,64,[ai]],3,[lD,80]]],[b1,.b1 .sum [de,[e6,[en,81,[av]]],4,[U]]]]]
def E0:Fn:=[pn,7,[dY,[tG]],[ew,[3],[lD,80],[.cT [gs] 6 [[en,82,[fJ,64,[ai]]]] [FT]]]]
def f85:Fn:=[d9,1,[[eg,27,[tG]]]]
def LV:Fn:=[b2,3,[[pd,.lt [aK] [al],.gt [aK] [U],.hC 5 []],[bj,[aK]]]]
def N5:Fn:=[b2,4,[[bj,[de,[ef,86,[ai],[al],[U]],3,[aK]]]]]
def Nt:Fn:=[d9,1,[.ex [z0,[tB],20],[bj,[fi,87,[bd],[fe,255]]]]]
def Qg:Fn:=[d9,1,[[bj,[fi,86,[bd],.g 0]]]]
def JP:Fn:=[d9,1,[[bj,[fi,86,[bd],.g 15]]]]
def KZ:Fn:=[d9,2,[.ex [z0,[tB],21],[cD,1,[fi,87,[bd],.g 15]],[bA,.eq (.b1 .sum [al]) [bd],.hC 12 []],[o6]]]
def f92:Fn:=[d9,1,[[bA,.kq [a6,27],.hC 6 []],[b1,[a6,27]]]]
def Ph:Fn:=[i4,[[pd,.lt [al] [a7],.gt [al] [jV,18],.hC 7 []],[bj,[ig,18,[al]]]]]
def QS:Fn:=[pn,4,[mm,93],[bA,.not (.b1 .all [de,[ze,[ai]],3,.av [U] 6]),.hC 10 []]]
def Oz:Fn:=[i4,[[bA,.ne [rk] [jV,18],.hC 5 []],[bj,[ef,87,[al],[bd],.g 0]]]]
def OW:Fn:=[i4,[[bA,.lt [rk] [jV,19],.hC 5 []],[bj,[ef,87,.lX [al] [jV,19],[bd],.g 19]]]]
def Rq:Fn:=[cv,5,[.own 2 [bF],[bq,[a7]],[ew,[4],.ry [al] [jV,19],[Hy]],[qh]]]
def Ks:Fn:=[cv,5,[[dY,[en,95,[rf]]],[bq,[en,96,[zr]]],[cr,[en,97,[zr]]],[bA,.not [bX,79,[[aK],[U],[ai],[av]]],.hC 8 []],[b1,[bs,[ES]]]]]
def Qt:Fn:=[b2,5,[[b1,.comp [ax,[[aK],(.av [ai] 0),[D9]]] [3,4] 5 [[al],[U]] []]]]
def Gy:Fn:=[lQ,8,[[cr,.add [ef,99,[aR,[zf]],[a6,18],[al]] [ef,99,[aR,[yd]],[a6,19],[U]]],[fA,[kE,[cZ],[6],[av],[(.ne (.ix [cZ] [iT]) [aR,[48]])]]],[m1,[a4],[de,[ax,[[aR,[Df]],[qS,20,[fT]]]],7,[ai]]]]]
def PK:Fn:=[cv,7,[.own 2 [kE,[ax,[[aR,[nT]],[qS,18,[a4]],(.b1 .str [cZ])]],[5,6],[al],[]],[bq,[lD,71]],[cr,[fJ,72,[ai]]],.ej 2 [ef,99,[aR,[hL]],[a6,17],[ai]],[m1,[U],[ax,[[t8,[aR,[115,117,109]],[ni,65]],[t8,[aR,[100,117,101]],[av]],[t8,[aR,[112,97,121]],[en,73,[av]]]]]]]]
def QH:Fn:=[lQ,6,[[cr,[bX,68,[Dh]]],[bj,[de,[fr,21,[a4]],5,.add [bX,100,[Dh]] [en,101,[av]]]]]]
def Nm:Fn:=[cv,4,[.eN [aK] 28 [de,[bd],2,[bW,18]],.eN [aK] 29 [de,[bd],3,[bW,19]],[pm,30],[eg,31,[bd]]]]
def NZ:Fn:=[lQ,4,[[mb,.ix [U] (.sub [al] [a7]),[ow,6]],.put [U] (.sub [al] [a7]) [p7,[a7],[ai]]]]
def BO:Fn:=[I4,[g8],28,0]
def Bm:Fn:=[I4,[l_],29,19]
def As:Fn:=[b2,4,[[bq,[fi,37,[U],[aR,[hF]]]],[bA,.le [ai] (.b1 .vK [bW,30]),[rA,[U],26,6]],.app [bW,30] [ai]]]
def Cf:Fn:=[Ih,[[yH],[Hk],[Ep],[Bu],[Bp],[BS],[Cv]]]
def Nh:Fn:=[HF,[Gl,[E2]]]
def zE:Fn:=[cv,5,[[dY,[ni,19]],.tr [[bq,[en,108,[U]]]] [.hd 9 (aa 4) [[b1,.mX 4 0]]],[bA,.not [bX,79,[H1]],[m1,.av [ai] 31,[a7]]],[bj,[bX,109,[[U],[bX,102,[H1]]]]]]]
def Du:Fn:=[lQ,6,[[cr,[bd]],.lU (.lt [av] [ai]) [Gs],[bj,[av]]]]
def Lx:Fn:=[b2,6,[[bq,.add [U] (.ix [nk,15] [a7])],[cr,[bX,111,[Dh]]],[fA,[bX,111,[[aK],[al],[E2],[ai]]]],[qB,[[av],(.sub [a4] [av])]]]]
def RJ:Fn:=[pn,3,.own 2 [ax,[[aR,[hL]],[bW,0],[zb,1],(.ite [bW,2] [aR,[mL]] [aR,[s5]])]],[Af,3,[ax,[[aR,[ut]],[qS,17,[bW,3]]]]]]
def MX:Fn:=[cv,7,[[dY,[de,[qS,17,[cZ]],6,[bW,5]]],.own 3 [ax,[(.add [ax,[[aR,[g8]],[bW,0],[zb,4]]] [U])]],[ew,[gs],[bW,7],[wK,[us]]],[ew,[gs],[bW,8],[wK,[ur]]],[bA,.pQ [bW,9],.ei 3 [ax,[[aR,[uu]],[bW,0],(.b1 .str [gj,[bW,9]]),[aR,[mD]],(.b1 .str (.ix [bW,9] [a7]))]]],[bj,[ai]]]]
def Rv:Fn:=[pn,5,.own 2 [ax,[[aR,[l_]],[bW,0],[zb,4]]],[ew,[3,4],[bW,10],[A_]]]
def DT:Fn:=[cv,3,[.own 2 [ax,[[aR,[hF]],[bW,0],[bW,11],[zb,12]]],[Af,13,[ax,[[aR,[mD]],[qS,18,[bW,13]]]]],[Af,14,[t8,[aR,[qs]],[bW,14]]],[Af,15,[t8,[aR,[p2]],[bW,15]]],[qh]]]
def NT:Fn:=[cv,3,[[m1,[ax,[[aR,[xX]]]],[de,[qS,20,[U]],2,[al]]]]]
def EI:Fn:=[d9,4,[.own 1 [bF],[ew,[2],[bi,[aR,[i8]],[aR,[ij]]],[[bA,.mem [U] [lH],.ei 1 (.add [ax,[[U]]] [de,.b1 .str [ai],3,.ix [lH] [U]])]]],[bA,.mem [aR,[jj]] [lH],.ei 1 [ax,[[aR,[jj]],(.ix [lH] [aR,[jj]])]]],[o6]]]
def DO:Fn:=[d9,7,[.own 1 [de,[en,113,[ai]],3,[a6,17]],[ew,[2],[a6,18],[CK]],.ej 1 [de,[en,115,[av]],4,[a6,19]],.ej 1 [de,[en,116,[a4]],5,[a6,20]],.ej 1 [de,[en,117,[cZ]],6,[a6,21]],[m1,[al],[nk,118]]]]
def J':Fn:=[d9,2,[[bj,[fr,22,[de,[ni,21],1,[nk,119]]]]]]
def NR:Fn:=[cv,3,[[mm,98],[bj,[bX,68,[[aK],[tz],(.ix [U] [a7]),(.ix [U] [iT])]]]]]
def Og:Fn:=[b2,3,[[eg,27,[fr,57,[yG]]],[qB,[[e6,.av [a6,27] 18]]]]]
def Qq:Fn:=[jA,5,[bq,[yG]],.tr [.ex [fr,57,[ai]]] [.hd 9 (aa 4) [[qB,[(.mX 4 0),(.mX 4 1),(.mX 4 2)]]]],[ax,[[bd],[bd],[bd]]]]
def Pb:Fn:=[b2,3,[[bj,[fr,120,[im]]]]]
def JY:Fn:=[Dl,[[e6,.av [ai] 17],[e6,.av [ai] 18],[e6,.av [ai] 19],[e6,.av [ai] 20]]]
def Nc:Fn:=[jA,5,[xo,89],[cr,[bX,93,[[im],[rf]]]],[ax,[[rd,3,[av]],[rd,0,[av]]]]]
def QU:Fn:=[HX,6]
def Kb:Fn:=[jA,6,[za],[ew,[gs],[bX,121,[[im],[U]]],[.ej 3 [ax,[[av],[a4]]]]],[ai]]
def Re:Fn:=[b2,7,[[bq,[im]],[cr,[ko,121,[U]]],[fA,[ko,71,[av]]],[cD,6,[ef,72,[ai],[av],[a4]]],[m1,[a4],[ax,[[fr,65,[av]],[cZ],[ko,73,[cZ]]]]]]]
def JX:Fn:=[Dl,[[ko,74,[ko,121,[U]]]]]
def Na:Fn:=[b2,5,[[bq,[im]],[cr,[ko,84,[ko,95,[tz]]]],[m1,.add (.add [ax,[[gj,[av]],[e6,[E4]]]] (.b1 [lX] [E4])) [ax,[[e6,[E1]]]],.b1 [lX] [E1]]]]
def Nk:Fn:=[Dl,[[ko,83,[ko,95,[tz]]]]]
def Ll:Fn:=[b2,4,[[bq,[fr,90,[rf]]],[bj,[ko,61,[fr,91,[tz]]]]]]
def Rj:Fn:=[jA,5,[bq,[bi,[z0,[rf],23],[ef,86,[zr],[a7],.g 17]]],[cr,[z0,.ix [al] [iT],24]],[ax,[[ef,59,[ai],[av],[ef,86,.ix [al] [fe,3],[a7],.g 25]]]]]
def N6:Fn:=[b2,6,[[xo,90],[cr,[im]],[fA,[ef,112,[av],[bX,94,[[av],[rf]]],[ai]]],[bA,.eq (.ix [a4] [a7]) [bd],.hC 11 []],[bj,[a4]]]]
def Mh:Fn:=[b2,9,[[xo,90],[cr,[im]],[fA,[bX,93,[[av],[rf]]]],[cD,6,[ef,69,[av],[ai],.av [a4] 6]],.own 7 [ax,[[gj,[cZ]],[ef,75,[av],[a4],[ai]]]],[ew,[8],.av [a4] 6,[HU]],[bj,[fT]]]]
def Oy:Fn:=[jA,4,[bq,[yG]],[eg,27,[rd,58,[im]]],[ax,[[e6,.av [a6,27] 18]]]]
def acz:Fn:=[jA,3,.ex [im],[eg,27,[tG]],[bF]]
def MR:Fn:=[HX,5]
def Rm:Fn:=[jA,5,[bq,[im]],[cr,[ko,98,[U]]],[fr,22,[bX,102,[[ai],[gj,[av]],[E4],[E1]]]]]
def QC:Fn:=[b2,4,[[bq,[yG]],[qB,[[rd,110,[im]]]]]]
def K4:Fn:=[oi,.ix (.ix (.g 26) [aK]) [a7]]
def P8:Fn:=[oi,.ix (.ix (.g 26) [aK]) [iT]]
def Pg:Fn:=[Gt,[FY]]
def RI:Fn:=[LS,[Gi]]
def zL:Fn:=[GK,[Fz]]
def fns:List Fn:=[f0,f1,f2,f3,f4,f5,f6,f7,f8,f9,RG,OF,PF,QG,Nv,KW,Mv,f17,D9,QE,Lc,K0,RK,Qv,Eb,Nr,Pu,Q2,xm,yo,xS,LP,Ps,L5,Nf,JQ,Me,Rk,Gg,FO,Oh,Ds,Od,Mn,Fz,GD,NO,E9,Lh,Ha,RU,Md,Nj,Kz,Fc,Eu,Kt,DP,Hf,OI,K7,A_,LH,Fv,EL,My,Ov,NG,KL,Gp,Hk,G4,N3,P2,Mi,G_,O_,MB,Pl,Gh,Ef,Rt,FP,Rc,E0,f85,LV,N5,Nt,Qg,JP,KZ,f92,Ph,QS,Oz,OW,Rq,Ks,Qt,Gy,PK,QH,Nm,NZ,BO,Bm,As,Cf,Nh,zE,Du,Lx,RJ,MX,Rv,DT,NT,EI,DO,J',NR,Og,Qq,Pb,JY,Nc,QU,Kb,Re,JX,Na,Nk,Ll,Rj,N6,Mh,Oy,acz,MR,Rm,QC,K4,P8,Pg,RI,zL]
def dH:[ak]:=[[l,40],[y1],[AE],[Bk],(.b6 [Fg]),[l,1],[l,2],[l,3],[l,4],[l,5],[l,4],[l,8],[l,3],[l,5],[l,5],[l,10000000],[l,10000],[l,10000],(.du [Fk]),[l,3],[l,2000],[l,20],(.du [Gx]),[l,9],[l,1000000000000],[l,1000000],(.du [Fo])]
def vN:[aj]:=[7,8,9,10,11,999,999,999,999,17,999,999,999,25,85,103]
def prog:q_:=#[fns,λc=>vN.getD c 999,λk=>dH[k]?,20000]
end Ir
namespace L2
open PySem PySem.Spec PyProof.Rows
abbrev dF:=Sum Int au
def Bj(w:cz):dF->Int|[J,k]=>hashInt k|[aC,x]=>hashStr w x
def hU:([be,V])->([gM])->[P]|[cV],aa u=>[i1]|ag,ag=>True|_,_=>False
end L2
namespace HT
open PySem PyProof.Rows
end HT
namespace L2
open PySem PySem.Spec PyProof.Rows
def sB(scope sc:fo):fo:={scope with names:=scope.names.map [Io,[ec],[lW]]}
def ET(N:[dE])(sc scope:fo)(own:[fw,Nat]):Bool:=[gX,scope.kind,[kj],ae]&&(scope.names.all λy=>ao ([mi,[b4]]=aa y.2))&&(own.all [aF,ao [aQ,N,[X],[H]]])&&(scope.names.all λy=>match y.2 with|[ec]=>[gg,[n6,[b4]],[kc],ae,aa [ec],ae,af]|.local=>[IZ]|[lW]=>[IZ]|_=>ae)
end L2
namespace L2
open PySem PySem.Spec PyProof.Rows
end L2
namespace Att
open PySem PySem.W PySem.Calls PyProof.Rows
end Att
namespace L2
open PySem PySem.Spec PyProof.Rows
end L2
namespace Snd
open PySem PySem.Spec PyProof.Rows L2
open Ir(D aP aj lim)
structure Tb where
 cS : Nat → ai
 eB : Nat → ai
 dq : Nat → ai
 nf : Nat
 eZ : Nat → au
 du : ai → List (D × D) → Prop
 tab : ai
 tl : Nat
 tc : Nat
 tq : au
abbrev sv(s:[aj]):au:=#[s.toArray]
def gW:D->[be,dF]|[aP]=>aa [J,i]|[c']=>aa [eL,[g3]]|_=>ag
open Ir(Ex)
def noStar:[o2]|.Starred _ _=>af|_=>ae
open Ir(Sm)
def oO(a:so):[be,[dE]]:=[d6,a,#[[],j,ag,[],[],ag,[]],aa (j.map (·.arg)),ag]
def F4(p x:au)(sc:fo):Bool:=ao (sc.names=[(p,.local),(x,[ec])])&&[gX,sc.kind,[kj],ae]&&! sc.isGenerator&&! sc.isCoroutine&&!(p==x)
inductive GV where|fn(k:Nat)|cls(k:Nat)|exc(k:Nat)|dh(k:Nat)|blt
structure gz where
 gn : au → Option GV
 mt : Nat → au → Option Nat
 ar : Nat → Option Nat
 eE : Nat → Option Nat
 fn : Nat → au
 nf : Nat
 tl : Nat
 tc : Nat
 lf : Nat
structure Ck where
 N : List au
 sc : fo
 bZ : Bool
 bU : Bool
 lam : Bool
def D5:[ju,zp]|[fj]=>ae|[kc]=>ae|aa [ec]=>ae|_=>af
def xg:[ju,zp]|[fj]=>ae|[kc]=>ae|_=>af
def zB:[ju,zp]|aa .globalImplicit=>ae|_=>af
def tM(x:au):Bool:=!(x==("__debug__":au))
def Ck.var(c:Ck)(i:Nat)(x:au):Bool:=ao [cS,c.N]&&D5 [nL]&&tM x&&! [xS]
def yg:[ju,zp]|[fj]=>ae|_=>af
def Ck.loc(c:Ck)(i:Nat)(x:au):Bool:=ao [cS,c.N]&&[Lp]
def Ck.dh(c:Ck)(x:au):Bool:=zB [nL]&&tM x
def MT:[ju,GV]|aa [vC]=>ae|_=>af
def Ck.bt(S:gz)(c:Ck)(x y:au):Bool:=ao (x=y)&&zB [nL]&&MT (S.gn x)
def isFn(k:Nat):[ju,GV]|aa (.fn j)=>ao (j=k)|_=>af
def zM(k:Nat):[ju,GV]|aa (.cls j)=>ao (j=k)|_=>af
def EH(k:Nat):[ju,GV]|aa (.dh j)=>ao (j=k)|_=>af
def zQ(k:Nat):[ju,GV]|aa (.exc j)=>ao (j=k)|_=>af
def rC:[o2]|.Set _ _ _=>af|_=>ae
def qK:[o2]|.Slice _ _ _ _=>af|_=>ae
def p8:[o2]|.Call (.Name _ _) [] [] _=>af|_=>ae
def xj:[o2]|.ListComp _ _ _ _=>af|.SetComp _ _ _ _=>af|.DictComp _ _ _ _ _=>af|_=>ae
def AW:bQ->[dE]|.Name x _=>[x]|[Js]=>[x,y]|_=>[]
def Aw(c:Ck):([aj])->[o2]|[i],.Name x _=>c.loc i x|[i,j],[Js]=>c.loc i x&&c.loc j y|_,_=>af
def Ck.yk(c:Ck)(S:fo):Ck:={c with sc:=sB S c.sc,bZ:=ae}
def Av(c:Ck)(S:fo)(B:bQ)(t:[aj]):Bool:=ET c.N c.sc S [y']&&ao ([hU,[y']]=t)
def rh:[o2]|.Tuple _ _ _=>ae|_=>af
def zD(S:gz)(c:Ck)(k:Nat)(B F:bQ)(L:List bQ->Bool):Bool:=match k,F with|0,_=>L [F]|7,_=>L [F]|1,.Call [vd] [a] [] _=>noStar a&&c.bt S r "range"&&L [a]|2,.Call [vd] [ib] [] _=>noStar a&&noStar b&&c.bt S r "range"&&L [ib]|3,.Call [vd] [a] [] _=>[JN]&&L [a]|4,.Call [vd] [a] [#[aa J,.Constant [c0] _ _,_]] _=>[JN]&&ao (J="start")&&ao (j=1)&&L [a]|5,.Call [vd] [ib] [] _=>noStar a&&noStar b&&rh B&&c.bt S r "zip"&&L [ib]|6,[em,a,G,ap,[],q]=>rh B&&p8 a&&(ap.endLine==q.line)&&ao (G="items")&&L [a]|_,_=>af
def BB:Ex->Bool|[h9]=>ae|_=>af
def AH:Ex->[kx]|[gY]=>aa i|_=>ag
def N_(S:gz)(c:Ck)(i:Nat)(p x:au)(ps:so)(sc:fo)(lp:et):Bool:=ao (oO ps=aa [p])&&F4 p x sc&&ao [cS,c.N]&&ao ([nL]=[kc])&&tM p&&tM x&&!(p==("__classdict__":au))&&! [xS]&&ao (lp.line=S.tl)&&ao (lp.col=S.tc)
mutual
def aL(S:gz):Ex→Ck→bQ→Bool|.c d,_,e=>(match e with|.Constant (.int i) _ _=>(match d with|.int j=>ao (i=j)|_=>af)|.Constant (.str s) _ _=>(match d with|.str l=>ao (s.cps.toList=l)|_=>af)|.Constant (.bool b) _ _=>(match d with|.bl j=>b==j|_=>af)|.Constant .none _ _=>(match d with|.a0=>ae|_=>af)|_=>af)|.v i,c,e=>(match e with|.Name x _=>c.var i x|_=>af)|.g k,c,e=>(match e with|.Name x _=>c.dh x&&EH k (S.gn x)|_=>af)|.add a b,c,e=>(match e with|.BinOp l .Add r _=>aL S a c l&&aL S b c r|_=>af)|.sub a b,c,e=>(match e with|.BinOp l .Sub r _=>aL S a c l&&aL S b c r|_=>af)|.mul a b,c,e=>(match e with|.BinOp l .Mult r _=>aL S a c l&&aL S b c r|_=>af)|.mK a b,c,e=>(match e with|.BinOp l .FloorDiv r _=>aL S a c l&&aL S b c r|_=>af)|.mod a b,c,e=>(match e with|.BinOp l .Mod r _=>aL S a c l&&aL S b c r|_=>af)|.neg a,c,e=>(match e with|.UnaryOp .USub l _=>aL S a c l|_=>af)|.lt a b,c,e=>(match e with|.Compare l [.Lt] [r] _=>aL S a c l&&aL S b c r|_=>af)|.le a b,c,e=>(match e with|.Compare l [.LtE] [r] _=>aL S a c l&&aL S b c r|_=>af)|.gt a b,c,e=>(match e with|.Compare l [.Gt] [r] _=>aL S a c l&&aL S b c r|_=>af)|.ge a b,c,e=>(match e with|.Compare l [.GtE] [r] _=>aL S a c l&&aL S b c r|_=>af)|.eq a b,c,e=>(match e with|.Compare l [.Eq] [r] _=>aL S a c l&&aL S b c r|_=>af)|.ne a b,c,e=>(match e with|.Compare l [.NotEq] [r] _=>aL S a c l&&aL S b c r|_=>af)|.kq a,c,e=>(match e with|.Compare l [.Is] [.Constant .none _ _] _=>aL S a c l|_=>af)|.pQ a,c,e=>(match e with|.Compare l [.IsNot] [.Constant .none _ _] _=>aL S a c l|_=>af)|.mem a b,c,e=>(match e with|.Compare l [.In] [r] _=>rC r&&aL S a c l&&aL S b c r|_=>af)|.oj a b,c,e=>(match e with|.Compare l [.NotIn] [r] _=>rC r&&aL S a c l&&aL S b c r|_=>af)|.pU a b d,c,e=>(match e with|.Compare l [.LtE,.LtE] [r,s] _=>rC s&&aL S a c l&&aL S b c r&&aL S d c s|_=>af)|.and a b,c,e=>(match e with|.BoolOp .And [x,y] _=>aL S a c x&&aL S b c y|.BoolOp .And (x::y::z::r) p=>aL S a c x&&aL S b c (.BoolOp .And (y::z::r) p)|_=>af)|.or a b,c,e=>(match e with|.BoolOp .Or [x,y] _=>aL S a c x&&aL S b c y|.BoolOp .Or (x::y::z::r) p=>aL S a c x&&aL S b c (.BoolOp .Or (y::z::r) p)|_=>af)|.not a,c,e=>(match e with|.UnaryOp .Not l _=>aL S a c l|_=>af)|.ite t a b,c,e=>(match e with|.IfExp x y z _=>aL S t c x&&aL S a c y&&aL S b c z|_=>af)|.tup l,c,e=>(match e with|.Tuple B _ _=>fO S l c B&&ao (l.length≤100)|_=>af)|.lst l,c,e=>(match e with|.List B _=>fO S l c B&&ao (l.length≤100)|_=>af)|.iS _,_,e=>(match e with|.Dict [] [] _=>ae|_=>af)|.lv a b,c,e=>(match e with|.Dict [aa (.Tuple [] _ _)] [.Name x _] _=>BB a&&(match AH b with|aa i=>c.var i x|ag=>af)|_=>af)|.ix a i,c,e=>(match e with|.Subscript l r _=>qK r&&aL S a c l&&aL S i c r|_=>af)|.kx a lo m,c,e=>(match e with|.Subscript l (.Slice (aa x) (aa y) ag _) _=>aL S a c l&&aL S lo c x&&aL S m c y|_=>af)|.ry a lo,c,e=>(match e with|.Subscript l (.Slice (aa x) ag ag _) _=>aL S a c l&&aL S lo c x|_=>af)|.lX a m,c,e=>(match e with|.Subscript l (.Slice ag (aa y) ag _) _=>aL S a c l&&aL S m c y|_=>af)|.av a f,c,e=>(match e with|.Attribute l n _=>p8 l&&ao (f<S.nf)&&ao (n=S.fn f)&&aL S a c l|_=>af)|.mX i k,c,e=>(match e with|.Attribute (.Name x _) n _=>c.var i x&&((ao (k=0)&&ao (n="line"))||(ao (k=1)&&ao (n="place"))||(ao (k=2)&&ao (n="why")))|_=>af)|.call f l,c,e=>(match e with|.Call (.Name x _) B [] _=>! c.bU&&c.dh x&&isFn f (S.gn x)&&ao (S.ar f=aa l.length)&&B.all noStar&&fO S l c B|_=>af)|.lO k l,c,e=>(match e with|.Call (.Name x _) (y::B) [] _=>! c.bU&&c.dh x&&zM k (S.gn x)&&ao (S.eE k=aa (l.length+1))&&(y::B).all noStar&&fO S l c (y::B)|_=>af)|.ly a l,c,e=>(match e with|.Call (.Name x p) (y::B) [] _=>! c.bU&&(y::B).all noStar&&fO S l c (y::B)&&aL S a c (.Name x p)|_=>af)|.new k l,c,e=>(match e with|.Call (.Name x _) B [] _=>! c.bU&&c.dh x&&zM k (S.gn x)&&ao (S.eE k=aa (l.length+1))&&B.all noStar&&fO S l c B|_=>af)|.bG k a f l,c,e=>(match e with|.Call (.Attribute (.Name x p) G ap) B [] q=>! c.bU&&ao (S.mt k G=aa f)&&ao (S.ar f=aa (l.length+1))&&B.all noStar&&ao (B.length<30)&&(ap.endLine==q.line)&&aL S a c (.Name x p)&&fO S l c B|_=>af)|.b1 o a,c,e=>(match e with|.Call (.Name x _) [y] [] _=>noStar y&&aL S a c y&&(match o with|.len=>c.bt S x "len"|.sum=>! c.bU&&c.bt S x "sum"|.any=>! c.bU&&c.bt S x "any"|.all=>! c.bU&&c.bt S x "all"|.int=>c.bt S x "int"|.str=>c.bt S x "str"|.ord=>c.bt S x "ord"|.list=>c.bt S x "list"|.tuple=>c.bt S x "tuple"|.dict=>c.bt S x "dict"|.sorted=>c.bt S x "sorted"|_=>af)|.Call (.Attribute y G ap) [] [] q=>p8 y&&(ap.endLine==q.line)&&aL S a c y&&(match o with|.isalnum=>ao (G="isalnum")|.isalpha=>ao (G="isalpha")|.isdigit=>ao (G="isdigit")|_=>af)|.Call (.Name x _) [y] [⟨aa J,.Constant (.int j) _ _,_⟩] _=>! c.bU&&noStar y&&aL S a c y&&ao (J="default")&&ao (j=0)&&(match o with|.vg=>c.bt S x "min"|.vK=>c.bt S x "max"|_=>af)|_=>af)|.b2 o a b,c,e=>(match e with|.Call (.Name x _) [y,z] [] _=>! c.bU&&noStar y&&noStar z&&aL S a c y&&aL S b c z&&(match o with|.min=>c.bt S x "min"|.max=>c.bt S x "max"|_=>af)|.Call (.Attribute y G ap) [z] [] q=>p8 y&&noStar z&&(ap.endLine==q.line)&&aL S a c y&&aL S b c z&&(match o with|.split=>ao (G="split")|.join=>ao (G="join")|_=>af)|_=>af)|.i6 a b d,c,e=>(match e with|.Call (.Attribute y G ap) [z,w] [] q=>p8 y&&noStar z&&noStar w&&(ap.endLine==q.line)&&ao (G="get")&&aL S a c y&&aL S b c z&&aL S d c w|_=>af)|.rj a b,c,e=>(match e with|.Call (.Attribute y G ap) [z] [] q=>p8 y&&noStar z&&(ap.endLine==q.line)&&ao (G="get")&&aL S a c y&&aL S b c z|_=>af)|.comp I t k it O,c,e=>(match e with|.ListComp x [⟨h,F,C,0⟩] U _=>! c.bZ&&! c.bU&&rC F&&Av c U h t&&Aw (c.yk U) t h&&aL S I (c.yk U) x&&Bw S O (c.yk U) C&&zD S c k h F (fO S it c)|_=>af)|.rz a i,c,e=>(match e with|.Call (.Name y _) [.Call (.Name N _) [ex] [] _] [⟨aa J,.Lambda ps (.Tuple [.BinOp (.Constant (.int z) _ _) .Sub (.Subscript (.Name x _) (.Name p _) _) _,.Name L _] _ _) sc lp,_⟩] _=>! c.bU&&! c.bZ&&c.lam&&ao (J="key")&&ao (z=0)&&ao (L=p)&&c.bt S y "sorted"&&c.bt S N "range"&&noStar ex&&aL S a c ex&&N_ S c i p x ps sc lp|_=>af)|.proj a k,c,e=>(match e with|.ListComp (.Subscript (.Name x _) (.Constant (.int j) _ _) _) [⟨.Name y _,F,[],0⟩] U _=>! c.bU&&rC F&&ao (x=y)&&ao (j=(k:Int))&&aL S a c F&&(match c.N.findIdx? (fun z=>ao (z=x))with|aa i=>Av c U (.Name x default) [i]&&ao ((sB U c.sc).names.lookup x=aa .local)&&ao (c.N[i]?=aa x)&&tM x&&!(x==("__classdict__":au))|ag=>af)|_=>af)
def fO(S:gz):List Ex→Ck→List bQ→Bool|[],_,B=>(match B with|[]=>ae|_=>af)|a::l,c,B=>(match B with|e::r=>noStar e&&aL S a c e&&fO S l c r|_=>af)
def Bw(S:gz):List Ex→Ck→List bQ→Bool|[],_,B=>(match B with|[]=>ae|_=>af)|a::l,c,B=>(match B with|[e]=>aL S a c e&&l.isEmpty|_=>af)
end
open Ir(Sm)
def rD:Ex->Bool|[yz]=>ae|[As]=>ae|_=>af
mutual
def ek(S:gz):Sm→Ck→kW→Bool|.set i e,c,s=>(match s with|.Assign [.Name x _] v _=>c.loc i x&&aL S e c v&&(rD e||xj v)|_=>af)|.own i e,c,s=>(match s with|.Assign [.Name x _] v _=>c.loc i x&&aL S e c v&&(rD e||xj v)&&e.fresh|_=>af)|.mO i e,c,s=>(match s with|.Assign [.Name x _] v _=>c.loc i x&&aL S e c v&&xj v&&! rD e&&e.fresh|_=>af)|.fz _ d,c,s=>ek S d c s|.dv a f e,c,s=>(match s with|.Assign [.Attribute o n _] v _=>ao (f<S.nf)&&ao (n=S.fn f)&&aL S a c o&&aL S e c v|_=>af)|.eN a f e,c,s=>(match s with|.Assign [.Attribute o n _] v _=>ao (f<S.nf)&&ao (n=S.fn f)&&aL S a c o&&aL S e c v&&e.fresh|_=>af)|.la a f e,c,s=>(match s with|.AugAssign (.Attribute o n _) .Add v _=>ao (f<S.nf)&&ao (n=S.fn f)&&aL S a c o&&aL S e c v|_=>af)|.inc i e,c,s=>(match s with|.AugAssign (.Name x _) .Add v _=>c.loc i x&&aL S e c v|_=>af)|.dec i e,c,s=>(match s with|.AugAssign (.Name x _) .Sub v _=>c.loc i x&&aL S e c v|_=>af)|.mQ i k e,c,s=>(match s with|.AugAssign (.Subscript (.Name x _) y _) .Add v _=>c.var i x&&qK y&&aL S k c y&&aL S e c v|_=>af)|.pO i k e,c,s=>(match s with|.AugAssign (.Subscript (.Name x _) y _) .Sub v _=>c.var i x&&qK y&&aL S k c y&&aL S e c v|_=>af)|.j2 i k e,c,s=>(match s with|.Assign [.Subscript (.Name x _) y _] v _=>c.var i x&&aL S k c y&&aL S e c v&&qK y|_=>af)|.put a k e,c,s=>(match s with|.Assign [.Subscript o y _] v _=>aL S a c o&&aL S k c y&&aL S e c v&&qK y|_=>af)|.ei i e,c,s=>(match s with|.Expr (.Call (.Attribute (.Name x _) G ap) [y] [] q) _=>ao (G="append")&&c.var i x&&noStar y&&(ap.endLine==q.line)&&aL S e c y|_=>af)|.app a e,c,s=>(match s with|.Expr (.Call (.Attribute o G ap) [y] [] q) _=>ao (G="append")&&p8 o&&noStar y&&(ap.endLine==q.line)&&aL S a c o&&aL S e c y|_=>af)|.ej i e,c,s=>(match s with|.Expr (.Call (.Attribute (.Name x _) G ap) [y] [] q) _=>ao (G="extend")&&c.var i x&&noStar y&&(ap.endLine==q.line)&&aL S e c y|_=>af)|.rq i,c,s=>(match s with|.Expr (.Call (.Attribute (.Name x _) G ap) [] [] q) _=>ao (G="pop")&&c.var i x&&(ap.endLine==q.line)|_=>af)|.ex e,c,s=>(match s with|.Expr x _=>aL S e c x&&xj x|.Pass _=>(match e with|.c .a0=>ae|_=>af)|_=>af)|.ret e,c,s=>(match s with|.Return (aa x) _=>aL S e c x|_=>af)|.qf i,c,s=>(match s with|.Return (aa (.Name x _)) _=>c.var i x|_=>af)|.ot i,c,s=>(match s with|.Return (aa (.Call (.Name y _) [.Call (.Attribute (.Name x _) G ap) [] [] q] [] _)) _=>! c.bU&&ao (G="items")&&(ap.endLine==q.line)&&c.bt S y "list"&&c.var i x|_=>af)|.iff t a b,c,s=>(match s with|.If x y z _=>aL S t c x&&l0 S a c y&&l0 S b c z|_=>af)|.cT t k it b,c,s=>(match s with|.For B F body [] _=>! c.bU&&! c.bZ&&rC F&&Aw c t B&&zD S c k B F (fO S it c)&&l0 S b c body|_=>af)|.lU t b,c,s=>(match s with|.While x body [] _=>! c.bU&&! c.bZ&&aL S t c x&&l0 S b c body|_=>af)|.brk,_,s=>(match s with|.Break _=>ae|_=>af)|.hC k l,c,s=>(match s with|.Raise (aa (.Call (.Name x _) J [] _)) ag _=>! c.bU&&! c.bZ&&c.dh x&&zQ k (S.gn x)&&ao (5≤k∧k≤12)&&(match J with|[]=>ao (k≠9)&&l.isEmpty|y::r=>ao (k=9)&&ao (l.length=3)&&(y::r).all noStar&&fO S l c (y::r))|_=>af)|.tr b h,c,s=>(match s with|.Try body (h0::O) [] [] _=>! c.bU&&! c.bZ&&l0 S b c body&&d7 S h c (h0::O)|_=>af)|.hd _ _ _,_,_=>af
def l0(S:gz):List Sm→Ck→List kW→Bool|[],_,C=>(match C with|[]=>ae|_=>af)|a::l,c,C=>(match C with|s::r=>ek S a c s&&l0 S l c r|_=>af)
def d7(S:gz):List Sm→Ck→List T6→Bool|[],_,O=>(match O with|[]=>ae|_=>af)|.hd k i b::l,c,O=>(match O with|.ExceptHandler (aa (.Name x _)) nm (s::A) _::r=>ao (5≤k∧k≤12)&&c.dh x&&zQ k (S.gn x)&&l0 S b {c with bU:=ae} (s::A)&&d7 S l c r&&(match i,nm with|ag,ag=>ae|aa j,aa n=>ao (k=9)&&ao (c.N[j]?=aa n)&&ao (c.sc.names.lookup n=aa .local)|_,_=>af)|_=>af)|_::_,_,_=>af
end
def pg(s:au)(g:GV):au×GV:=(s,g)
def pm(k:Nat)(s:au)(f:Nat):(Nat×au)×Nat:=((k,s),f)
def z0:[fw,GV]:=[[K,"how_many_paid",0],[K,"price_at",1],[K,"paid_costs",2],[K,"cost_of",3],[K,"is_free",4],[K,"piece_costs",5],[K,"cheapest_from",6],[K,"copied_item",12],[K,"copied_book",13],[K,"percent_rounding",14],[K,"cash_rounding",15],[K,"taxed_by_line",16],[K,"sign_of",18],[K,"text_lines",19],[K,"words_of",20],[K,"line_of",21],[K,"bytes_of_lines",22],[K,"is_name",23],[K,"is_number",24],[K,"refuse_one_more",35],[K,"take_new_name",36],[K,"take_told",37],[K,"read_tax",38],[K,"read_item",39],[K,"take_item",40],[K,"read_price_line",41],[K,"read_from",42],[K,"read_step",43],[K,"read_free",44],[K,"read_bundle",45],[K,"take_part",46],[K,"read_coupon",47],[K,"take_money_behind",48],[K,"read_apart",49],[K,"refuse_second",50],[K,"take_rounding",51],[K,"read_round",52],[K,"read_cash",53],[K,"read_by",54],[K,"read_line",55],[K,"read_lines",56],[K,"read_book",57],[K,"book_with",58],[K,"rounded",59],[K,"takes_lesser",60],[K,"share_out",61],[K,"pieces_left",62],[K,"bundle_lines",63],[K,"lines_before_coupons",64],[K,"total_of",65],[K,"discount_of",66],[K,"lines_after_coupon",67],[K,"lines_at_end",68],[K,"taxes_of_amount",69],[K,"taxed_amounts",70],[K,"taxes_of_lines",71],[K,"due_of",72],[K,"paid_for",73],[K,"price_of_lines",74],[K,"paid_for_amount",75],[K,"bundles_fit",76],[K,"goes_with",77],[K,"when_holds",78],[K,"may_be_gone",79],[K,"bundle_counts",80],[K,"coupon_sets",81],[K,"lines_by_coupons",82],[K,"how_many_ways",83],[K,"best_way",84],[K,"in_range",86],[K,"all_in_range",87],[K,"text_asked",88],[K,"pieces_asked",89],[K,"money_asked",90],[K,"weights_asked",91],[K,"book_asked",92],[K,"item_asked",93],[K,"item_without_held_tax",94],[K,"basket_asked",95],[K,"counts_asked",96],[K,"coupons_asked",97],[K,"order_asked",98],[K,"named_rows",99],[K,"head_rows",100],[K,"end_rows",101],[K,"bill_lines",102],[K,"take_count",104],[K,"read_has",105],[K,"read_uses",106],[K,"read_with",107],[K,"read_head",108],[K,"first_unlike",109],[K,"first_wrong_line",110],[K,"least_amount",111],[K,"amounts_paid_with",112],[K,"tax_words",113],[K,"item_rows",114],[K,"bundle_words",115],[K,"coupon_words",116],[K,"apart_words",117],[K,"setting_rows",118],[K,"form_rows",119],[K,"one_form",120],[K,"lines_asked",121],[K,"call_read",122],[K,"call_check",123],[K,"call_print",124],[K,"call_names",125],[K,"call_cost",126],[K,"call_cheap",127],[K,"call_bill",128],[K,"call_taxes",129],[K,"call_price",130],[K,"call_best",131],[K,"call_all",132],[K,"call_shares",133],[K,"call_round",134],[K,"call_nets",135],[K,"call_parts",136],[K,"call_add",137],[K,"call_drop",138],[K,"call_pieces",139],[K,"call_show",140],[K,"call_look",141],[K,"how_many_numbers",142],[K,"how_many_rows",143],[K,"answer_call",144],[K,"rows_at",145],[K,"answers",146],[pu,"Tax",0],[pu,"Item",1],[pu,"Bundle",2],[pu,"Coupon",3],[pu,"Book",4],[pq,"OutOfRange",5],[pq,"NoBook",6],[pq,"NoItem",7],[pq,"NotToBeGone",8],[pq,"WrongPlace",9],[pq,"TaxHeld",10],[pq,"NoAmount",11],[pq,"NoWeight",12],[pu,"Row",13],[pu,"Desk",14],[pu,"Head",15],[c9,"MOST_PIECES",0],[c9,"USUAL_ROUNDING",1],[c9,"LETTERS",2],[c9,"DIGITS",3],[c9,"QUOTED",4],[c9,"CANNOT_STAND",5],[c9,"TOLD_ALREADY",6],[c9,"NOT_TOLD",7],[c9,"NOT_IN_RANGE",8],[c9,"TOO_MANY",9],[c9,"MOST_TAXES",10],[c9,"MOST_ITEMS",11],[c9,"MOST_BUNDLES",12],[c9,"MOST_COUPONS",13],[c9,"MOST_PRICE_LINES",14],[c9,"MOST_MONEY",15],[c9,"MOST_RATE",16],[c9,"MOST_UNIT",17],[c9,"READERS",18],[c9,"MOST_TIMES",19],[c9,"MOST_BYTES",20],[c9,"MOST_WEIGHTS",21],[c9,"HEAD_READERS",22],[c9,"MOST_RULE",23],[c9,"MOST_ROUNDED",24],[c9,"MOST_DIVISOR",25],[c9,"CALLS",26],[g4,"len"],[g4,"sum"],[g4,"any"],[g4,"all"],[g4,"int"],[g4,"str"],[g4,"ord"],[g4,"list"],[g4,"tuple"],[g4,"dict"],[g4,"sorted"],[g4,"min"],[g4,"max"],[g4,"range"],[g4,"enumerate"],[g4,"zip"]]
def FU:[jN,Nat×au]:=[pm 13 "fail" 26,pm 13 "fail_at_first" 27,pm 13 "has_more" 28,pm 13 "take_word" 29,pm 13 "take_choice" 30,pm 13 "take_name" 31,pm 13 "take_number" 32,pm 13 "skip_word" 33,pm 13 "finish" 34]
def jR:[dE]:=["name","rate","on","over","price","taxes","tax_set","from_lines","step_lines","free","parts","kind","amount","item","cap","when","names","tax_list","item_list","bundle_list","coupon_list","apart_pairs","settings","line","place","why","words","book","basket","counts","coupons","height"]
def oG(f:Nat):au:=[gn,jR[f]?,x,x,#[[fg,[2000000+f]]]]
def BX(k:Nat):[kx]:=[DM,k]
def BD(k:Nat):[kx]:=[IE]
def W0:gz:=#[λx=>z0.lookup x,λk n=>FU.lookup (k,n),BX,BD,oG,32,389,44,61]
def ps(l:[dE]):[dE]:=l
def Yi:List [dE]:=[ps ["item","pieces"],ps ["item","price_lines","pieces","price","least","line_price"],ps ["item","paid","price","place"],ps ["item","pieces"],ps ["item","pieces","place","size"],ps ["item","pieces","paid","costs","used","place"],ps ["item","pieces","best","least","more","cost"],ps ["self","name","rate","on","over"],ps ["self","name","price","taxes"],ps ["self","name","price","parts"],ps ["self","name","kind","amount","item","cap","when"],[vX],ps ["item","twin"],[hi,"twin","item"],ps ["book"],ps ["book"],ps ["book"],ps [Ca],ps ["byte"],ps ["text","rows","byte"],ps ["row","word"],ps ["words"],ps ["lines","line","sign"],ps ["word"],ps ["word"],ps ["self","line","words"],ps ["self","why"],ps ["self","why"],[vX],[vX],ps ["self","choices","word"],ps ["self","word"],ps ["self","least","most","word","number"],ps ["self","word"],[vX],ps ["row","told","most"],[hi,"row","name"],[pj,"row","kind","entry"],ps ["book","row","name","rate","on","over"],ps ["book","row","name","price","taxes","tax"],[sd],ps ["row","own","others","least","pieces"],[hi,"row","item"],[hi,"row","item"],[pj,"row","item","free"],[lJ,"row","name","price","parts"],[lJ,"row","parts","item","part"],ps ["book","row","name","kind","amount","item","cap","when"],ps ["row","word"],[lJ,"row","first","second","pair"],[hi,"row","setting"],ps ["row","rule"],[sd],[sd],[sd],[hi,"row","reader"],[lJ,"text","line","signs","words"],ps ["text","book"],[hi,"text","longer"],ps ["rounding","number","divisor","rule","unit","step","times","rest"],ps ["rule","times","beyond_half"],ps ["whole","weights","total","parts","remainders","order","place","weight"],ps ["book","basket","counts","left","bundle","times","number","pieces"],ps ["book","bundle","times","weights","amounts","number","pieces","part","amount"],ps ["book","basket","counts","lines","number","pieces","bundle","times"],ps ["lines","line"],[pj,"coupon","base","discount"],ps ["book","lines","coupon","weights","discounts","number","amount","line","discount"],ps ["book","basket","counts","coupons","lines","number"],ps ["book","amount","tax_set","rounding","held","whole","bare","found","number","tax"],ps ["book","lines","pairs","together","tax_set","amount","number"],ps ["book","lines","totals","tax_set","amount","found","number","tax"],ps ["book","lines","totals","on_top","tax","total"],ps ["book","due"],ps ["book","lines"],ps ["book","item","amount","found","on_top","number"],[hi,"basket","counts"],[pj,"coupons","number","earlier"],[hi,"before","number"],ps ["book","basket","counts","coupons","before","place","number"],ps ["book","basket","found","bundle","longer","counts","times"],[lJ,"before","found","number","coupons"],[pj,"before","found","coupons"],[lJ,"basket","befores","counts","before"],ps ["book","basket","best","counts","coupons","lines","paid"],[vX],ps ["number","least","most"],ps ["row","least","most","number"],ps ["row"],ps ["number"],ps ["number"],ps ["row","weights"],ps ["desk"],ps ["book","number"],[pj,"number","item","tax"],[sd],[sd],[lJ,"row","coupons","least","number"],[lJ,"rows","basket","counts","coupons"],ps ["word","told","numbers","one","number"],ps ["book","basket","counts","coupons","rows","taken","row","number"],ps ["book","lines","rows","totals","due","number","amount"],ps ["book","basket","counts","coupons","lines","words"],ps ["self","book","item","bundle"],ps ["row","number","numbers","most"],[hi,"head","row"],[hi,"head","row"],[pj,"head","row","number"],ps ["book","lines","head","line","words","row","reader"],ps ["lines","right","place"],[lJ,"text","lines","head","e"],ps ["book","item","paid","most","least","middle"],ps ["book","item","gross","most","first","behind"],[hi,"tax","words"],ps ["book","item","taxes","rows","pieces","price","number"],[lJ,"bundle","words","number","pieces"],[hi,"coupon","words"],[hi,"pair","number"],[pj,"rows","word","number"],ps ["book","rows","item","tax","bundle","coupon","pair"],ps ["book","words"],[hi,"rows","order"],[Ci],[vq,"text","e"],[Ci],[nK,"book"],[vq,"pieces","item"],[nK,"pieces"],ps ["desk","numbers","rows","answer","number","amount"],ps ["desk","numbers","rows","book","lines","totals","due"],[nK,"book"],[vq,"book","best"],[nK,"book"],[nK,"whole"],[vq,"rounding","number"],ps ["desk","numbers","rows","gross","book","found"],ps ["desk","numbers","rows","amount","book","item","parts","answer","number"],[nK,"text"],[Ci],[nK,"pieces"],[vq,"book","order"],[nK,"text"],ps ["call"],ps ["call"],ps ["desk","call","numbers","rows","answerer"],ps ["calls","place","how_many","rows","turn","end"],ps ["calls","desk","told","place","call","behind_numbers","numbers","rows","answer","row"]]
section
variable{T:Tb}{W:gz}{K:aQ}
def AI:aq->Bool|[aZ]=>ae|_=>af
def G1(N ps:[dE])(sc:fo):Bool:=[gX,sc.kind,[kj],ae]&&! sc.isCoroutine&&! sc.isGenerator&&ao N.Nodup&&ao (N.take [mF]=ps)&&(ps.all λx=>xg [n6,x])&&sc.names.all λy=>[d6,y.2,[ec],af,ae]
def vi(T:Tb)(W:gz)(K:aQ)(f:Nat)(F:Ir.Fn)(N:[dE]):Bool:=[Kr,[gP],body,[gn,oO l.params,ps,[GZ,l.globals==iB]&&G1 N ps l.scope&&ao ([et]=F.ns)&&ao ([mF]=F.np)&&ao ps.Nodup&&jg K [m,[gP]]&&(!(f==W.lf)||[gX,l.code,[l0],Dq K c T.tab&&ao ((l.qualname++(".<locals>.":au))++("<lambda>":au)=T.tq)])&&l0 W F.body #[N,l.scope,af,af,f==W.lf] body,af]]
mutual
def vw(T:Tb)(K:aQ):Nat→D→aq→Bool|0,_,_=>af|n+1,d,C=>match d with|.a0=>AI C|.bl b=>(match C with|.bool c=>b==c|_=>af)|.int i=>(match C with|.int j _=>ao (i=j)|_=>af)|.str s=>(match C with|.str x _=>ao (x=sv s)|_=>af)|.fn k=>(match C with|.ref a=>a==T.cS k|_=>af)|.b6 l=>(match C with|.ref a=>(match K.lookup a with|aa ⟨.type c,ag,.seq G _,_⟩=>(c=="tuple")&&ao (G.size≤1000)&&vO T K n l G.toList|_=>af)|_=>af)|_=>af
def vO(T:Tb)(K:aQ):Nat→List D→List aq→Bool|_,[],[]=>ae|n,d::B,C::us=>vw T K n d C&&vO T K n B us|_,_,_=>af
end
def oD(a:ai):[ju,[gM]]|aa [eq,b]=>b==a|_=>af
def qe:[ju,[gM]]|aa ag=>ae|_=>af
def GO(n:String):[ju,[gM]]|aa [gC,G]=>G==n|_=>af
def mj(K:aQ)(C:ai):Bool:=CZ K C Str.empty&&IW K C&&Tp K C&&GO "object.__setattr__" [rz,"__setattr__"]&&jR.all λf=>qe [rz,f]
def Ak(T:Tb)(K:aQ)(k:Nat)(G:au)(f:Nat):Bool:=oD [gP] (mF K [m,[gU]] G)&&uF K [m,[gP]]&&jg K [m,[gP]]&&jR.all (λx=>!(x==G))&&ao (G.cps.size≠1)
def FE(T:Tb)(K:aQ)(k f:Nat):Bool:=Tr K [gU]&&oD [gP] (mF K [m,[gU]] "__init__")&&uF K [m,[gP]]&&jg K [m,[gU]]
def Bx:D->aq->[be,dF]|[aP],.int j _=>[fd,i,j,[J,i],ag]|[c'],.str x _=>[fd,x,[g3],[aC,x],ag]|_,_=>ag
def q5(T:Tb)(K:aQ):([dj])->List pp->[be,[iE]]|[],[]=>aa []|[fY,d],e::q=>[ao,vw T K 5 d e.val,(Bx k e.key).bind λj=>[S,q5 T K l q,(j::·)],ag]|_,_=>ag
def xC(K:aQ)(a:ai):[a0]:=[d6,[e9,a],aa #[_,_,.dict l _,_],l.toList.map (·.hash),[]]
def Cd(l:[dj]):[iE]:=l.filterMap [aF,gW [H]]
def B4(T:Tb)(K:aQ)(a:ai)(l:[dj]):Bool:=[gX,[e9,a],aa #[[bR,t],ag,.dict q _,sl],(t=="dict")&&sl.isEmpty&&[gn,q5 T K l q.toList,B,ao B.Nodup&&ao (B=Cd l),af]&&!(a==iA)]
def jp(K:aQ)(C:ai):ai:=[d6,[e9,C],aa #[_,_,.cls G,_],G.ns,0]
def s6(K:aQ)(C:ai):Bool:=[gX,[e9,C],aa #[[bR,t],_,.cls G,sl],(t=="type")&&G.hasDict&&! G.hasDel&&[gX,G.mro,[[aL],[bR,x],[bR,y],[bR,z]],(a==C)&&(x=="Exception")&&(y=="BaseException")&&(z=="object")]&&[gX,sl.toList,[_,_,_,_,[gC,n],_],n=="Exception.__new__"]&&Js K G.ns]
end
def faL:[ba]:=[21,28,33,40,47,54,61,76,97,118,139,160,174,179,186,193,200,266,319,324,329,336,341,348,355,369,376,383,390,397,404,411,418,425,432,446,453,460,467,474,481,488,495,502,509,516,521,528,535,542,549,556,563,570,577,585,592,599,606,613,620,625,632,637,644,649,656,661,668,673,678,683,688,695,702,707,714,719,726,733,738,743,750,755,762,776,790,795,802,809,816,823,830,837,842,849,856,863,870,875,880,885,890,902,916,923,930,937,945,952,959,966,973,980,985,992,999,1004,1009,1014,1019,1026,1033,1040,1047,1054,1061,1068,1075,1082,1089,1096,1103,1110,1117,1124,1131,1138,1145,1152,1159,1166,1195,1202,1209,1216,1221]
def BE:[ba]:=[79,100,121,142,163,79,79,79,79,79,79,79,79,435,779,905]
def Yy:[ba]:=[79,100,121,142,163,210,223,236,249,269,282,295,308,435,779,905]
def tQ:[jN,ai]:=[(578,18),(938,22),(1167,26)]
def T0 : Tb where
 cS := fun k => faL.getD k 0
 eB := fun k => BE.getD k 79
 dq := fun k => Yy.getD k 0
 nf := 32
 eZ := oG
 du := fun a l => ∃ k, (a, k) ∈ tQ ∧ Ir.dH[k]? = aa (.du l)
 tab := 622
 tl := 389
 tc := 44
 tq := "share_out.<locals>.<lambda>"
section
variable{K:aQ}
def oI(a b:au):Bool:=ao (a=b)
def Gi(K:aQ):Bool:=[Kr,[q5],[[Bv,L,e,q],[Bv,C,j,z],[Bv,s,h,u]],[GZ,oI L "self"&&oI C "self"&&oI s "self"&&oI e "line"&&oI j "place"&&oI h "why"&&oI q "line"&&oI z "place"&&oI u "why"&&oI l.name "__init__"&&(l.globals==iB)]&&jg K [m,[q5]]&&uF K [m,[q5]]&&ao (oO l.params=aa ([Ca]:[dE]))&&[gX,l.scope.kind,[kj],ae]&&! l.scope.isCoroutine&&! l.scope.isGenerator&&[ny,([Ca]:[dE]),λx=>yg (l.scope.names.lookup x)]]
def xE(K:aQ)(x:au):GV->Bool|.fn k=>oD (T0.cS k) [vH]|.cls k=>oD (T0.eB k) [vH]|.exc k=>oD [tw] [vH]|.dh k=>(match [vH],Ir.dH[k]? with|aa (aa C),aa (.du _)=>[gX,C,[aL],tQ.contains (a,k)]|aa (aa C),aa d=>vw T0 K 5 d C|_,_=>af)|[vC]=>qe [vH]
def A3(K:aQ):Bool:=[gX,gq K iB "__builtins__",aa [eq,bm],!(bm==pc)&&!(bm==iB)&&!(bm==622)&&[gX,[e9,bm],aa #[[bR,t],aa d,.plain,_],(t=="module")&&(d==pc)]]
def tN(K:aQ)(k:Nat):Bool:=match Ir.fns[k]?,Yi[k]? with|aa F,aa N=>vi T0 W0 K k F N|_,_=>af
def DQ(K:aQ)(k:Nat):Bool:=! [er,BD k]||FE T0 K k (Ir.prog.init k)
def Fy(K:aQ):Bool:=s6 K 269&&oD [q5] [un,269]&&[hR,[("line":au),"place","why","__setattr__","__getattribute__","__getattr__"],x,[EA,x]]&&Gi K&&jg K [m,269]
def GR(K:aQ)(k:Nat):Bool:=s6 K [tw]&&qe [un,[tw]]
def zJ(K:aQ):Bool:=[ny,br 147,tN K]&&[DF,K]&&[I3]&&BE.all (mj K)&&[ny,br 16,DQ K]&&Fy K&&[ny,[Cz],GR K]&&[Hr]&&A3 K
def DY(w:cz)(K:aQ):[P]:=[g1,tQ,∀l,([aQ,Ir.dH,[X],[jE]])->xC K [H]=[S,Cd l,Bj w]]
end
open PySem.W(tabObj WellAll Well WData ReadsW ReadsAllW)
def BV{l:aQ}{x:ai}{b:bn}(h:[EN]):(x,b)∈l:=by induction l with|nil=>rw[a5]|cons p l e=>rw[eY]
def w4(K:aQ):Bool:=zJ K&&(K.all [Bi])&&[e9,622].isNone
def BL(w:cz)(h:bP):[P]:=(∃K:aQ,K.In h/\w4 K=ae/\DY w K)/\[dd,622,JL [ca]]
def isLs(o:bn):Bool:=[d6,o.cls,[bR,n],!(n=="list"),ae]
def gb(L:[ba])(h:bP):aQ:=L.filterMap λa=>[A,a=622,ag,(h.get? a).bind λo=>[ao,isLs o,aa (a,o),ag]]
def KOf_mem{L:[ba]}{h:bP}{a:ai}{o:bn}(e:(a,o)∈gb L h):a∈L/\a≠622/\[rb]/\isLs o=ae:=by rw[aP,gb,ui,e];rw[M,b,G,e,e];rw[aC,e];{rw[cI]};{rw[aB,n];cases q:h.get? b with|none=>rw[aq,q,e,e]|some c=>rw[q]at e;rw[ap,t_,e];rw[aC,e];{rw[aB,z];rw[aT,e,#[G,n,q,z]]};{rw[cI]}}
def WQ(L:[ba])(h:bP):(gb L h).In h:=λa o e=>[cP,KOf_mem (BV e)]
def LD(k:Nat)(w:cz):[a0]:=[d6,Ir.dH[k]?,aa [jE],[S,Cd l,Bj w],[]]
def Sub(i K:aQ):[P]:=∀a o,i.lookup a=[a9]->[e9,a]=[a9]
def XT{i K:aQ}(s:Sub i K){v q}(h:sj i v q=ae):sj K v q=ae:=by unfold sj at h|-;cases v with|ref c=>rw[eS]|_=>rw[a5]
def aev{i K:aQ}(s:Sub i K){c p}(h:Dq i c p=ae):Dq K c p=ae:=by unfold Dq at h|-;rw[eS]
def afW{i K:aQ}(s:Sub i K){T S f F N}(h:vi T S i f F N=ae):vi T S K f F N=ae:=by unfold vi at h|-;cases e:i.lookup [gP]with|none=>rw[ap,e,h];rw[a5]|some o=>rw[ap,e,h];rw[ab,s _ _ e];rw[ag,G,I,L,sl,o];cases L with|func x=>(cases J:x.body with|stmts body=>(simp only[J]at h|-;cases q:oO x.params with|some ps=>simp only[q,aF]at h|-;obtain⟨⟨⟨⟨⟨⟨⟨⟨⟨⟨⟨u,C⟩,U⟩,W⟩,H⟩,B⟩,P⟩,j⟩,l⟩,d⟩,a⟩,m⟩:=h;rw[a7,#[#[#[#[#[#[#[#[#[#[u,C],U],W],XT s H],B],P],j],l],?_],?_],m];{rw[aa,jg,s _ _ e]};{simp only[kN]at a|-;rw[a0,a,z,z,[J,z]];{refine .inr ?_;rw[aC,z];{rename_i c O;simp only[aF]at z|-;rw[aS,aev s [cA],z.2]};{cases z}}}|none=>rw[ap,q,h];rw[a5])|_=>rw[ap,J,h];rw[a5])|_=>rw[a5]
def Wj{L:[ba]}{h:bP}{a:ai}{o:bn}(G:a∈L)(n:a≠622)(e:[rb])(z:isLs o=ae):(gb L h).lookup a=[a9]:=by induction L with|nil=>cases G|cons b L m=>unfold gb at m|-;rw[D,J,a=b];{subst J;rw[rO,aw n,e];simp[z]};{rw[al,G,a∈L,[c1,G].resolve_left J,rO];split;{exact m G};{rename_i c q;rw[aC,q];{rw[bO]};{cases u:h.get? b with|none=>rw[aq,u,q,q]|some I=>rw[u]at q;rw[ap,t_,q];rw[aC,q];{rw[bO];rw[a3,pk,ww J,m G]};{rw[bO]}}}}
def ad_{l L:[ba]}{h:bP}(G:∀a∈l,a∈L):Sub (gb l h) (gb L h):=λa o e=>[dG,m,u,z,q,KOf_mem (BV e),Wj (G _ m) u z q]
def rc(i:Nat)(h:bP):Bool:=[hR,CM (21*i) 21,k,tN (gb [T0.cS k,T0.cS k-1] h) k]
def Pn(L:[ba]):Bool:=[hR,br 147,k,L.contains (T0.cS k)&&L.contains (T0.cS k-1)]
def aeL{i K:aQ}(s:Sub i K){k:Nat}(h:tN i k=ae):tN K k=ae:=by unfold tN at h|-;rw[a6];{exact afW s h};{rw[a5]}
def rB(K:aQ):[gK]|0=>[I3]|1=>mj K 79&&mj K 100|2=>mj K 121&&mj K 142|3=>mj K 163&&mj K 435|4=>mj K 779&&mj K 905|5=>[ny,br 16,DQ K]|6=>Fy K&&[ny,[Cz],GR K]|_=>[Hr]&&A3 K
def reC{as:[ba]}{h:bP}:((gb as h).all [Bi])=ae/\((gb as h).lookup 622).isNone=ae:=by refine#[ck.mpr λp q=>[eT,KOf_mem q],?_];cases e:(gb as h).lookup 622 with|none=>rfl|some o=>rw[bi,Y,[ae,KOf_mem (BV e)]]
def WU{L:[ba]}{q:bP}{K:aQ}(B:K=gb L q)(W:Pn L=ae)(h:∀i<7,rc i q=ae)(g:[DF,K]=ae)(a:∀i<8,rB K i=ae):w4 K=ae:=by(have z:[kl,br 147,tN K]:=by refine ck.mpr λk e=>?_;have r:=ck.mp W k e;rw[aP,aF,rQ,r];rw[V,e,i9.mp e,z,ck.mp (h (k/21) [g]) k (List.mem_range'_1.mpr [g])];refine aeL ?_ z;rw[ci,B,ad_ λa G=>?_];rw[cW,G,r.1,r.2]);rw[V,Z,a 0 [g],m,a 1 [g]];rw[V,f,a 2 [g],O,a 3 [g]];rw[V,J,a 4 [g],H,a 5 [g]];rw[V,u,a 6 [g],P,a 7 [g]];simp only[rB,aF]at Z m f O J H u P;rw[aA,j,BE.all (mj K)=ae,by simp[BE,m,f,O,J],b,reC (as:=L) (h:=q)];rw[aQ,B,b];unfold w4 zJ;rw[ab,aF];rw[aS,#[#[#[#[#[#[#[#[#[z,g],Z],j],H],u.1],u.2],P.1],P.2],b.1],b.2]
def aoX(L:[ba])(W:Pn L=ae)(w:cz)(s:aD)(x:((((rc 0 s.heap,rc 1 s.heap),(rc 2 s.heap,rc 3 s.heap)),((rc 4 s.heap,rc 5 s.heap),(rc 6 s.heap,[DF,[kf]]))),((((rB [kf] 0,rB [kf] 1),(rB [kf] 2,rB [kf] 3)),((rB [kf] 4,rB [kf] 5),(rB [kf] 6,rB [kf] 7))),(tQ.map [aF,xC [kf] [H]],[wv,622])))=(([yw],[yw]),(([yw],[yw]),(tQ.map [aF,LD [X] w],aa (JL [ca]))))):BL w s.heap:=by rw[ap,gO,x];obtain⟨⟨⟨⟨Z,z⟩,f,j⟩,⟨m,u⟩,O,P⟩,⟨⟨⟨a,b1⟩,b2,v⟩,⟨t,B⟩,d,H⟩,J,x3⟩:=x;rw[a7,#[[kf],WQ _ _,WU Y W (λi q=>?_) P λi q=>?_,λp U l e=>?_],x3];{match i,q with|0,_=>exact Z|1,_=>exact z|2,_=>exact f|3,_=>exact j|4,_=>exact m|5,_=>exact u|6,_=>exact O|n+7,h=>omega};{match i,q with|0,_=>exact a|1,_=>exact b1|2,_=>exact b2|3,_=>exact v|4,_=>exact t|5,_=>exact B|6,_=>exact d|7,_=>exact H|n+8,h=>omega};{rw[List.map_inj_left.mp J p U];rw[dU,LD,e]}
def aoa(w:cz)(h i:bP)(x:BL w h)(k:[dh,[ks],i.get? b=[a9]]):BL w i:=#[let#[#[K,a,b],_]:=x;#[K,λc o e=>k _ _ (a c o e),b],k _ _ [bD]]
open PySem.W(Codec OpenSpec)
abbrev z_:OpenSpec:=aq0
end Snd
end
set_option hygiene true
set_option maxHeartbeats 0
namespace Snd
open PySem PySem.W
abbrev Pw : Program := PySem.Challenge.pw_pricebook_s01_answers
theorem w1 : (sreFenced Pw.main) = true := by decide +kernel
theorem w2 : ((moduleNames Pw.main.body).isEmpty || lookedIntoSs (moduleNames Pw.main.body) Pw.main.body) = true := by decide +kernel
theorem w3 : namesResolve Pw = true := by decide +kernel
theorem w4 : (Pw.boundNames.all fun n => !worldNames.contains n) = true := by decide +kernel
theorem w5 : noRoadLSs { strict := !(importedModules Pw.main.body).all cThrough.contains, foot := none, bare := List.filter (readsOut Pw Pw.main.body) [Str.ofString "vars", Str.ofString "dir", Str.ofString "locals"] } Pw.main.body = true := by decide +kernel
theorem w6 : (namesMeet Pw Pw.main.body fun x n => attrL n) = true := by decide +kernel
theorem w7 : looksOpen Pw = true := by
  unfold looksOpen
  rw [w1, w2, w3, w4, w5, w6]
  rfl
theorem w8 : (Pw.boundNames.contains z_.name) = true := by decide +kernel
theorem w9 : (specDef Pw z_.name z_.args.length) = true := by decide +kernel
theorem wS : z_.wellSaid = true := by
  show (looksOpen Pw && Pw.boundNames.contains z_.name && !startupNames.contains z_.name && specDef Pw z_.name z_.args.length && z_.args.all Codec.fits && z_.ret.ok) = true
  rw [w7, w8, w9]
  decide +kernel
def myas : List Addr := [3,4,2,79,70,100,91,121,112,142,133,163,154,435,363,779,770,905,898,76,97,118,139,160,369,776,902,376,383,390,397,404,411,418,425,432,260,266,265,269,267,268,270,210,208,209,211,223,221,222,224,236,234,235,237,249,247,248,250,282,280,281,283,295,293,294,296,308,306,307,309,578,938,1167,1168,1169,1170,1171,1172,1173,1174,1175,1176,1177,1178,1179,1180,1181,1182,1183,1184,1186,1187,1188,1189,78,77,80,81,99,98,101,102,120,119,122,123,141,140,143,144,162,161,164,165,434,433,436,437,778,777,780,781,904,903,906,907,15,17,18,20,21,22,24,25,27,28,29,32,33,34,36,37,39,40,41,43,44,46,47,48,50,51,53,54,55,57,58,60,61,62,72,73,75,93,94,96,114,115,117,135,136,138,156,157,159,168,170,171,173,174,175,178,179,180,182,183,185,186,187,189,190,192,193,194,196,197,199,200,201,214,227,240,253,262,263,273,286,299,312,313,315,316,318,319,320,323,324,325,328,329,330,332,333,335,336,337,340,341,342,344,345,347,348,349,351,352,354,355,365,366,368,370,372,373,375,377,379,380,382,384,386,387,389,391,393,394,396,398,400,401,403,405,407,408,410,412,414,415,417,419,421,422,424,426,428,429,431,440,442,443,445,446,447,449,450,452,453,454,456,457,459,460,461,463,464,466,467,468,470,471,473,474,475,477,478,480,481,482,484,485,487,488,489,491,492,494,495,496,498,499,501,502,503,505,506,508,509,510,512,513,515,516,517,520,521,522,524,525,527,528,529,531,532,534,535,536,538,539,541,542,543,545,546,548,549,550,552,553,555,556,557,559,560,562,563,564,566,567,569,570,571,573,574,576,577,579,581,582,584,585,586,588,589,591,592,593,595,596,598,599,600,602,603,605,606,607,609,610,612,613,614,616,617,619,620,621,624,625,626,628,629,631,632,633,636,637,638,640,641,643,644,645,648,649,650,652,653,655,656,657,660,661,662,664,665,667,668,669,672,673,674,677,678,679,682,683,684,687,688,689,691,692,694,695,696,698,699,701,702,703,706,707,708,710,711,713,714,715,718,719,720,722,723,725,726,727,729,730,732,733,734,737,738,739,742,743,744,746,747,749,750,751,754,755,756,758,759,761,762,772,773,775,784,786,787,789,790,791,794,795,796,798,799,801,802,803,805,806,808,809,810,812,813,815,816,817,819,820,822,823,824,826,827,829,830,831,833,834,836,837,838,841,842,843,845,846,848,849,850,852,853,855,856,857,859,860,862,863,864,866,867,869,870,871,874,875,876,879,880,881,884,885,886,889,890,901,910,912,913,915,916,917,919,920,922,923,924,926,927,929,930,931,933,934,936,937,939,941,942,944,945,946,948,949,951,952,953,955,956,958,959,960,962,963,965,966,967,969,970,972,973,974,976,977,979,980,981,984,985,986,988,989,991,992,993,995,996,998,999,1000,1003,1004,1005,1008,1009,1010,1013,1014,1015,1018,1019,1020,1022,1023,1025,1026,1027,1029,1030,1032,1033,1034,1036,1037,1039,1040,1041,1043,1044,1046,1047,1048,1050,1051,1053,1054,1055,1057,1058,1060,1061,1062,1064,1065,1067,1068,1069,1071,1072,1074,1075,1076,1078,1079,1081,1082,1083,1085,1086,1088,1089,1090,1092,1093,1095,1096,1097,1099,1100,1102,1103,1104,1106,1107,1109,1110,1111,1113,1114,1116,1117,1118,1120,1121,1123,1124,1125,1127,1128,1130,1131,1132,1134,1135,1137,1138,1139,1141,1142,1144,1145,1146,1148,1149,1151,1152,1153,1155,1156,1158,1159,1160,1162,1163,1165,1166,1191,1192,1194,1195,1196,1198,1199,1201,1202,1203,1205,1206,1208,1209,1210,1212,1213,1215,1216,1217,1220,1221]
def myq : Program := { Pw with main := { Pw.main with body := Pw.main.body.drop 188 } }
def myl : List Str := Pw.boundNames.filter fun n => !(n == "answers") && !(n == "__name__")
theorem my_hdef {o : Option (DefRec × List (Str × Expr))} (h : o.isSome = true) : o = some ((o.get h).1, (o.get h).2) := by
  cases o with
  | none => cases h
  | some x => rfl
theorem inA : Pn myas = true := by decide +kernel
local macro_rules | `(tactic| refine $h:ident (q := $q) (loose := $l) (Xt := $x) (XP := $xp) (Yf := $yf) (Ya := $ya) (YP := $yp) (N := $n) $a $b $c $rest*) => `(tactic| refine' $h:ident (q := myq) (loose := myl) (Xt := fun s => xlAt myq [] s && recOk [] s) (XP := XL myq []) (YP := BL) (N := $n) $a (aoX myas inA) aoa $rest*)
local macro_rules | `(tactic| rfl) => `(tactic| first | exact my_hdef (by decide +kernel) | kernel_rfl)
theorem top (hc : ∀ {q : Program} {loose : List Str} {XP : (Str → Option Value) → Heap → Prop} {d : DefRec} {kwd : List (Str × Expr)}, d.name = "answers" → WalkOS q loose XP BL z_ d kwd (fun f vs => PySem.call f vs)) : z_.Holds := by
  have k1 := wS
  o_headS Hook.none
  case hw => exact ⟨[.list [.int 2]], by decide +kernel, by decide +kernel⟩
  case hc => exact hc (by decide +kernel)
end Snd
set_option hygiene false
set_option maxHeartbeats 1000000
section
local macro_rules
|`([$xs,*])=>do
  let e:=xs.getElems.map (·.raw)
  if e.size>0&&e[0]!.isIdent then let n:=e[0]!.getId; if let some f:=((TA n.toString).lookup n).orElse λ_=>(TC n.toString).lookup n then return ←f (e.extract 1 e.size)
  Lean.Macro.throwUnsupported
|`(tactic|rw[$xs,*])=>do
  let e:=xs.getElems.map (·.raw[1])
  if e.size>0&&e[0]!.isIdent then let n:=e[0]!.getId; if let some f:=((TB n.toString).lookup n).orElse λ_=>(TC n.toString).lookup n then
    let b:=(←f (e.extract 1 e.size))[1]
    return ←`(tactic|($(⟨b⟩):tacticSeq))
  Lean.Macro.throwUnsupported
|`(#[$a,*])=>`(⟨$a,*⟩)
local macro_rules|`(tactic|simp $[only%$o]?[$x,*]$[$l]?)=>do let y:=⟨←sE x.elemsAndSeps⟩;`(tactic|simp $[only%$o]?[$y,*]$[$l]?)
namespace Ir
def R.bd{U J:[aI]}(r:R U)(f:[vy]):R J:=[Bf,r,[Z,a],f a S,S]
def fC(a:U)(S:aj)(f:[vy]):(R.ok a S).bd f=f a S:=(rfl)
def wP(c:Nat)(B:[ak])(S:aj)(f:[vy]):(R.ex c B S).bd f=[iU,S]:=(rfl)
def apt(f:[vy]):R.bad.bd f=[aW]:=(rfl)
def bM{r:R _}{f g:[vy]}(h:∀a S,f a S=g a S):r.bd f=r.bd g:=by cases r<;>simp[R.bd,h]
def fw(G:M _)(f:U->M J)(S:aj):(G>>=f) S=[bT,G S,a,f a S]:=(rfl)
def AS(a:U)(S:aj):([ce,a]) S=[Z,a]:=(rfl)
def l8(a:U)(S:aj):[gT,aa a]=[Z,a]:=(rfl)
def aoZ(i:Int)(S:aj):bo [aP] S=[Z,i]:=(rfl)
def aaV(i:Bool)(S:aj):eP [bh,i] S=[Z,i]:=(rfl)
def alL(l:[ak])(S:aj):fV [aV] S=[Z,l]:=(rfl)
def amC(S:aj):bH [aX] S=[Z,[aX]]:=(rfl)
def aob(i:Int)(S:aj):bH [aP] S=[bQ,i]:=(rfl)
def apB(i:[h])(S:aj):bH [L,i] S=[Z,[L,i]]:=(rfl)
def anF(l:[ak])(S:aj):bH [aV] S=[ri]:=(rfl)
def amb(l:[ak])(S:aj):[g',[eB]]:=(rfl)
def amL(l:[ak])(S:aj):[g',.dX l]:=(rfl)
def ano(l:[ak])(S:aj):[g',.b6 l]:=(rfl)
def alU(l:[h])(S:aj):[g',[b3]]:=(rfl)
def alk(l:[h])(S:aj):[g',[hs]]:=(rfl)
def apy(l:[h])(S:aj):[g',[jE]]:=(rfl)
def ow(e:Env)(i:Nat)(S:aj):R D:=[jJ,e[i]?,aa [h'],[ia]]
def apz(d:D)(e:Env)(S:aj):ow ([h']::e) 0 S=[ia]:=(rfl)
def anb(d:Slot)(e:Env)(i:Nat)(S:aj):ow (d::e) [Y] S=[oL]:=(rfl)
def pV(e:Env)(i:Nat)(S:aj):dg e i S=[oL]:=by simp[dg,ow];rw[dH]
def gv(e:Env)(i:Nat)(S:aj):R D:=[jJ,e[i]?,aa [g0],[ia]]
def gr(e:Env)(i:Nat)(S:aj):R D:=[gg,e[i]?,aa [g0],[ia],aa [h'],[ia],[aW]]
def alz(d:D)(e:Env)(S:aj):gv ([g0]::e) 0 S=[ia]:=(rfl)
def al9(d:Slot)(e:Env)(i:Nat)(S:aj):gv (d::e) [Y] S=gv e i S:=(rfl)
def ao'(d:D)(e:Env)(S:aj):gr ([g0]::e) 0 S=[ia]:=(rfl)
def aoK(d:D)(e:Env)(S:aj):gr ([h']::e) 0 S=[ia]:=(rfl)
def anE(d:Slot)(e:Env)(i:Nat)(S:aj):gr (d::e) [Y] S=gr e i S:=(rfl)
def fl(d:D)(f:Nat)(S:aj):R D:=[jJ,d,.obj _ l,[gT,eV l f]]
def apw(c:Nat)(l:[h])(f:Nat)(S:aj):fl [oE] f S=[gT,eV l f]:=(rfl)
def al'(p:Nat×D)(r:[h])(f:Nat):eV [e1] f=[fd,[H],f,[X],eV r f]:=(rfl)
def amV(f:Nat)(v:D):dV [] f v=[(f,v)]:=(rfl)
def akG(p:Nat×D)(r:[h])(f:Nat)(v:D):dV [e1] f v=[J7]:=(rfl)
def D.vt:[ru]|[aX]=>ae|_=>af
def aoM:D.vt [aX]=ae:=(rfl)
def ans(i:[ak]):D.vt [bs,i]=af:=(rfl)
section
variable(Z:bL)(a b c:Ex)(e:Env)(S:aj)(l:List Ex)
theorem e_c(d:D):[ck,.c d]=[ia]:=(rfl)
theorem O6(i:Nat):[ck,[gY]]=gv e i S:=by simp[ah,gv];rw[dH]
theorem e_g(k:Nat):[ck,.g k]=[gT,Z.fA k]:=(rfl)
theorem aku:[hH,.add a b,[ck,b],y,oH x y S]:=(rfl)
theorem alZ:[ck,.sub a b]=[nD,[bQ,x-y]]:=(rfl)
def mulR(x y:Int)(S:aj):R D:=[A,[En,x],[bQ,x*y],[aW]]
def xz(x y:Int)(S:aj):R D:=[A,0<y/\y<2^64,[bQ,x/y],[aW]]
def xl(x y:Int)(S:aj):R D:=[A,0<y,[bQ,x%y],[aW]]
theorem amq:[ck,.mul a b]=[nD,mulR x y S]:=by simp[ah];rw[bd,x,x];rw[ly,mulR]
theorem ang:[ck,.mK a b]=[nD,xz x y S]:=by simp[ah];rw[bd,x,x];rw[bd,y,y];rw[ly,xz]
theorem anR:[ck,.mod a b]=[nD,xl x y S]:=by rw[bd,x,x];rw[bd,y,y];rw[ly,xl]
theorem apD:[hH,.neg a,bo x S,x,[bQ,-x]]:=(rfl)
theorem apr:[hH,.lt a b,[ck,b],y,xA x y S]:=(rfl)
theorem aoe:[ck,.le a b]=[nD,[dT,ao (x<=y)]]:=(rfl)
theorem alc:[ck,.gt a b]=[nD,[dT,ao (y<x)]]:=(rfl)
theorem apj:[ck,.ge a b]=[nD,[dT,ao (y<=x)]]:=(rfl)
theorem alK:[hH,.eq a b,[ck,b],y,[bT,mY x y S,r,[dT,r]]]:=(rfl)
theorem aoh:[hH,.ne a b,[ck,b],y,[bT,mY x y S,r,[dT,! r]]]:=(rfl)
theorem anX:[kq,.kq a,[i3],[dT,x.vt]]:=by rw[bk,x];rw[bx,x]
theorem alq:[kq,.pQ a,[i3],[dT,! x.vt]]:=by rw[bk,x];rw[bx,x]
def gU(Z:bL)(a:Ex)(e:Env)(S:aj):R D:=rd a e (ah Z a e) S
theorem amR(i:Nat):[nj,[gY]]=gr e i S:=by simp[gU,rd,gr];rw[dH]
theorem aoO(d:D):[nj,.c d]=[ia]:=(rfl)
theorem ao0(k:Nat):[nM,.g k]:=(rfl)
theorem aop(k:Nat):[nM,.av a k]:=(rfl)
theorem ala:[nM,.ix a b]:=(rfl)
theorem aoY(f:Nat):[nj,[bX,f,l]]=ah Z [bX,f,l] e S:=(rfl)
theorem amM:[nM,[eB]]:=(rfl)
theorem aoE(I:Ex)(t:[h])(k:Nat)(it d:[h]):[nM,[yC]]:=(rfl)
theorem ao6(k:Nat):[nM,.proj a k]:=(rfl)
theorem apA(o:B1):[nM,.b1 o a]:=(rfl)
theorem anP(o:B2):[nM,.b2 o a b]:=(rfl)
theorem amG:[KN,.mem a b,r]:=(rfl)
theorem aoV:[KN,.oj a b,! r]:=(rfl)
theorem akw:[ck,.pU a b c]=[nD,[A,x<=y,[eY,c,z,bo z S,z,[dT,ao (y<=z)]],[dT,af]]]:=by rw[bd,x,x];rw[bd,y,y];rw[bw]
theorem ak5:[hH,.and a b,eP x S,x,[ao,x,[eY,b,y,eP y S,y,[dT,y]],[dT,af]]]:=by rw[bd,x,x];rw[bw]
theorem apc:[hH,.or a b,eP x S,x,[ao,x,[dT,ae],[eY,b,y,eP y S,y,[dT,y]]]]:=by rw[bd,x,x];rw[bw]
theorem ant:[hH,.not a,eP x S,x,[dT,! x]]:=(rfl)
theorem alb:[hH,.ite a b c,eP x S,x,[ao,x,[ck,b],[ck,c]]]:=[fN,ah,fw]
theorem aps:[kq,[eB],[lp],[Z,[bs,x]]]:=(rfl)
theorem aml:[kq,[aV],[lp],[Z,[ax,x]]]:=(rfl)
theorem amU(t:Bool):[ck,.iS t]=[Z,[ao,t,.bY [],[cc,[]]]]:=(rfl)
theorem amB:[hH,.lv a b,[ck,b],y,[nu,x.jo,[Z,.bY [(x,y)]]]]:=by rw[bk,x];rw[bw]
theorem akE:[xE,.ix a b,[bT,bH x S,x,eC x y S]]:=(rfl)
theorem anh:[xE,.kx a b c,[ff,bo y S,y,[ck,c],z,[Dd,z,aa y,aa z]]]:=(rfl)
theorem aoy:[xE,.ry a b,[Dd,y,aa y,ag]]:=(rfl)
theorem an3:[xE,.lX a b,[Dd,y,ag,aa y]]:=(rfl)
theorem apH(f:Nat):[hH,.av a f,bH x S,x,fl x f S]:=by rw[bd,x,x];rw[bx,x]
theorem apk(f:Nat):ah Z [bX,f,l] e S=[bT,[lp],x,Z.call f x S]:=(rfl)
def cv(Z:bL)(n:Nat)(x:D)(k:aj->R [ak])(S:aj):R D:=[jJ,x,[pv],[IF]]
theorem ak0(n f:Nat)(k:aj->R _):cv Z n [pv] k S=[IF]:=(rfl)
theorem ao9:[kq,.ly a l,[i3],cv Z [E] x (λS=>[lp]) S]:=by rw[bk,x];rw[cF,x];rw[ly,cv]
theorem aoP(c:Nat):[kq,.new c l,[lp],newD Z c x S]:=(rfl)
theorem anL(c:Nat):[kq,.lO c l,[lp],fW (newD Z c x) S]:=(rfl)
theorem am9(c f:Nat):[kq,.bG c a f l,[i3],[v9,lc c x S,[bT,[lp],y,Z.call f (x::y) S]]]:=(rfl)
theorem anM(o:B1):[ck,.b1 o a]=[ff,[nj,a],x,bH x S,x,dn o x S]:=(rfl)
theorem alB(o:B2):[kq,.b2 o a b,[nj,a],[v9,sJ o x S,[eY,b,y,bH x S,x,jl o x y S]]]:=(rfl)
def g2(x y z:D)(S:aj):R D:=[gg,x,[b3],[r0,y.atom,l,z],[hs],[r0,y.jo,l,z],[aW]]
theorem anH(G:[h])(y z:D):g2 [cc,G] y z S=[r0,y.atom,G,z]:=(rfl)
theorem ali(G:[h])(y z:D):g2 (.bY G) y z S=[r0,y.jo,G,z]:=(rfl)
theorem al4:[kq,.i6 a b c,[nj,a],[v9,lb x S,[eY,b,y,[ck,c],z,[bT,bH x S,x,g2 x y z S]]]]:=by rw[bk,x];(refine bM λ_ S=>?_);rw[bd,y,z];rw[bk,x];rw[cF,x];all_goals(rw[ly,g2])
def kg(x:D)(k:aj->R D)(S:aj):R D:=[jJ,x,[jE],[bT,k S,y,[r0,y.atom,l,[aX]]]]
theorem an7(G:[h])(k:aj->R D):kg (.du G) k S=[bT,k S,y,[r0,y.atom,G,[aX]]]:=(rfl)
theorem ak4:[kq,.rj a b,[i3],kg x (λS=>[ck,b]) S]:=by rw[bk,x];rw[cF,x];rw[bk,y];rw[bw]
def turn (Z : bL) (I : Ex) (t : List Nat) (j : List Ex) (w : Env) (d : D) : M (Option D) := do
 let z ← bD (gc w t d)
 match j with
 | [] => do M.pure (aa (← ah Z I z))
 | c :: _ => do
  let b ← eP (← cg (ah Z c z))
  if b = ae then do M.pure (aa (← ah Z I z)) else M.pure ag
theorem ana(I:Ex)(t:[h])(k:Nat)(it d:[h]):[ck,[yC]]=[ff,cD Z it e S,x,eA k x S,B,[bT,eJ (turn Z I t d (b4 e t)) B S,l,[ri]]]:=by simp[ah];rfl
theorem amc(I:Ex)(t:[h])(w:Env)(d:D):turn Z I t [] w d S=[ff,[gT,gc w t d],z,ah Z I z S,x,[Z,aa x]]:=(rfl)
theorem ak3(I c:Ex)(t:[h])(w:Env)(d:D):turn Z I t [c] w d S=[ff,[gT,gc w t d],z,cg (ah Z c z) S,b,[bT,eP b S,b,[ao,b,[bT,ah Z I z S,x,[Z,aa x]],[Z,ag]]]]:=by rw[bd,z,b];rw[bk,b];rw[bw]
theorem amJ(k:Nat):[hH,.proj a k,bH x S,x,[ff,fV x S,l,[gT,cM (tX k) l],l,[ri]]]:=(rfl)
def sk(e:Env)(i:Nat)(n:Int)(S:aj):R D:=[jJ,e[i]?,aa [bk,[aV]],[HD,[am,rs.length],[l,[am,j]]]]
theorem anw(i:Nat):[hH,.rz a i,bo x S,n,sk e i n S]:=by rw[bd,x,n];simp[sk];cases h:e[i]? with|none=>rfl|some s=>rw[cF,s];rw[aB,d];rw[cF,d];rw[bk,rs];rw[bw]
theorem aou:cD Z [] e S=[Z,[]]:=(rfl)
theorem anN:cD Z (a::l) e S=[eY,a,x,[lp],G,[Z,x::G]]:=(rfl)
end
def ao4(G:M U)(S:aj):cg G S=[KY]:=(rfl)
def akF(l:[h])(S:aj):lb [b3] S=[h_]:=(rfl)
def alu(l:[h])(S:aj):lb [hs] S=[h_]:=(rfl)
def zZ(f:Flow)(k:Env->aj->[i0])(S:aj):[i0]:=[cX,f,.nx e,k e S,f,[Z,f]]
def alG(e:Env)(k:Env->aj->R _)(S:aj):zZ (.nx e) k S=k e S:=(rfl)
def alT(d:D)(k:Env->aj->R _)(S:aj):zZ [po] k S=[iw,d]:=(rfl)
def amP(e:Env)(k:Env->aj->R _)(S:aj):zZ (.bk e) k S=[Z,.bk e]:=(rfl)
section
variable(Z:bL)(a b c:Ex)(e:Env)(S:aj)(l:List Ex)
theorem alQ(G:M D):jm a G S=[gg,a,[yz],cg G S,[As],cg G S,G S]:=[bx,a]
theorem aoo(i:Nat):[di,[cD,i,a]]=[bT,jm a (ah Z a e) S,d,[dK,[qe]]]:=(rfl)
theorem alP(i:Nat):[di,.own i a]=[bT,jm a (ah Z a e) S,d,[v8,a.fresh=ae/\vk d=ae,d]]:=by rw[bk,d];rw[bw]
theorem amW(i:Nat)(s:Sm):[di,.fz i s]=[bT,[oL],d,bE Z s [qe] S]:=by simp[bE,fw,pV]
theorem ak9(i:Nat):[di,.inc i a]=[HK,x+y]:=[jI,O6 Z e S i]
theorem amY(i:Nat):[di,.dec i a]=[HK,x-y]:=[jI,O6 Z e S i]
theorem amF(i:Nat):[di,.mQ i a b]=[FS,x+y]:=[jI,pV]
theorem alm(i:Nat):[di,.pO i a b]=[FS,x-y]:=[jI,pV]
def po(e:Env)(i:Nat)(o x d:D)(S:aj):[i0]:=[gg,o,[b3],[v8,[jq]/\[lr],[cc,cB l x d]],[hs],[v8,x.jo=ae/\[lr],.bY (cB l x d)],[aW]]
theorem akR(i:Nat)(G:[h])(x d:D):po e i [cc,G] x d S=[v8,[jq]/\[go]<lim,[cc,cB G x d]]:=(rfl)
theorem am3(i:Nat)(G:[h])(x d:D):po e i (.bY G) x d S=[v8,x.jo=ae/\[go]<lim,.bY (cB G x d)]:=(rfl)
theorem ane(i:Nat):[di,.j2 i a b]=[eY,b,d,[oL],o,[bT,[i3],x,po e i o x d S]]:=by simp[bE,fw,pV];rw[bd,d,o];rw[bk,x];rw[cF,o];all_goals(rw[ly,po])
theorem amI(i:Nat):[Dv,.ei i a,[bT,[i3],d,[A,[lr],[wb,[tY,l++[d]]],[aW]]]]:=by rw[dY];(try rfl);rw[bw]
theorem alo(i:Nat):[Dv,.ej i a,[eY,a,d,fV d S,x,[A,[E]+[eV]<=lim,[wb,[tY,l++x]],[aW]]]]:=by rw[dY];rw[bd,d,x];rw[bw]
theorem amv(i:Nat):[Dv,.rq i,[ao,l.isEmpty,[aW],[FZ,[ax,[v5]]]]]:=by rw[dY];rw[bw]
theorem apG:[di,.ex a]=[v9,[i3],[dK,e]]:=(rfl)
theorem anU:[di,[bj,a]]=[bT,ah Z a (e.map Slot.cb) S,d,[iw,d]]:=(rfl)
def Mw:D->aj->[i0]|[hs],S=>[iw,.i7 l]|_,_=>[aW]
theorem apK(l:[dj])(S:aj):Mw [hs] S=[iw,.i7 l]:=(rfl)
theorem alW(i:Nat):[di,.qf i]=[bT,[oL],o,Mw o S]:=by rw[ad,bE,fw,pV];rw[bk,o];rw[bx,o]
def Pv:D->aj->[i0]|[hs],S=>[DP]|_,_=>[aW]
theorem anp(l:[dj])(S:aj):Pv [hs] S=[DP]:=(rfl)
theorem aos(i:Nat):[di,.ot i]=[bT,[oL],o,Pv o S]:=by rw[ad,bE,fw,pV];rw[bk,o];rw[bx,o]
theorem aoR(x y:[h]):[di,.iff a x y]=[eY,a,b,eP b S,b,[ao,b,bh Z x e S,bh Z y e S]]:=[fN,bE,fw]
theorem amX(t:[h])(k:Nat)(x:[h]):[di,.cT t k l x]=[ff,[lp],B,eA k B S,B,cW [oF,Z,x] t B e S]:=(rfl)
theorem aoI(x:[h]):[di,.lU a x]=jY [v7,Z,a] [oF,Z,x] Z.fuel e S:=(rfl)
theorem aoG:[di,.brk]=[Z,.bk e]:=(rfl)
theorem akK(c:Nat):[di,.hC c l]=[bT,[lp],B,[nu,ki c B,[iU,S]]]:=(rfl)
def FD(Z:bL)(h:[fV])(e:Env)(r:[i0]):[i0]:=[cX,r,[iU,p],pI Z h c B (e.map λ_=>Slot.un) p,r,r]
theorem apu(h:[h])(f:Flow):FD Z h e [Z,f]=[Z,f]:=(rfl)
theorem anB(h:[h])(k:Nat)(B:[ak]):FD Z h e (.ex k B S)=pI Z h k B (e.map λ_=>Slot.un) S:=(rfl)
theorem ak1(x h:[h]):[di,.tr x h]=FD Z h e (bh Z x e S):=(rfl)
theorem MI:bh Z [] e S=[dK,e]:=(rfl)
theorem Qr(s:Sm)(r:[h]):bh Z (s::r) e S=[bT,[di,s],f,zZ f (λe S=>bh Z r e S) S]:=by rw[bk,f];rw[bx,f]
theorem ao5(n:Nat):fR [m,n] S=[K0]:=(rfl)
theorem alF(l:[ak]):iI [aV] S=[ri]:=(rfl)
theorem alx(l:[h]):iI [b3] S=[Z,[b3]]:=(rfl)
theorem alI(i:Nat):[di,.mO i a]=[bT,[i3],d,[nu,a.fresh,[bT,iI d S,c,[dz,e.set i [c6,[ab]],S++[c]]]]]:=[ly,bE]
def fs(e:Env)(f:Nat)(d:D)(p:[rr])(S:aj):[i0]:=[HW,[m2],d]
theorem apF(f:Nat)(d:D)(n k:Nat)(l:[h]):fs e f d (n,[rg]) S=[A,[m2],[dz,e,[dl,n,.aX k (dV l f d)]],[aW]]:=(rfl)
theorem anz(f:Nat):[di,.dv a f b]=[eY,b,d,[i3],x,[bT,fR x S,p,fs e f d p S]]:=by rw[bd,d,x];rw[bk,p];rw[cM];rename_i k l;simp[fs];rw[D,h,[m2]];{simp[h];rfl};{simp[h];rfl}
def DN(e:Env)(f:Nat)(b:Ex)(d:D)(p:[rr])(S:aj):[i0]:=[jJ,[X],[rg],[GH,[H]]]
theorem anO(f:Nat)(d:D)(n k:Nat)(l:[h]):DN e f b d (n,[rg]) S=[GH,n]:=(rfl)
theorem anu(f:Nat):[di,.eN a f b]=[eY,b,d,[i3],x,[bT,fR x S,p,DN e f b d p S]]:=by rw[bd,d,x];rw[bk,p];rw[cM];rw[ly,DN]
def fi(Z:bL)(b:Ex)(e:Env)(f:Nat)(x:D)(p:[rr])(S:aj):[i0]:=[jJ,[X],.aX j l,[ff,[gT,eV l f],y,bo y S,y,[eY,b,z,bo z S,z,[bT,fR x S,p,[HW,[m2]/\k=j,[l,y+z]]]]]]
theorem akN(f:Nat):[di,.la a f b]=[eY,a,x,fR x S,p,fi Z b e f x p S]:=by rw[bd,x,p];rw[cM];rename_i k l;rw[bd,y,y];rw[bd,z,z];rw[bk,p];rw[cM];rename_i q l;rw[D,h,[m2]/\q=k];{simp[h];rfl};{simp[h];rfl}
def pt(e:Env)(d x:D)(p:[rr])(S:aj):[i0]:=[gg,[X],[b3],[IS,[H]],[aV],[HI,[H]],[aW]]
theorem amz(d x:D)(n:Nat)(l:[h]):pt e d x (n,[b3]) S=[IS,n]:=(rfl)
theorem akS(d x:D)(n:Nat)(l:[ak]):pt e d x (n,[aV]) S=[HI,n]:=(rfl)
theorem ame:[di,.put a b c]=[eY,c,d,[i3],r,[eY,b,x,fR r S,p,pt e d x p S]]:=by rw[bd,d,r];rw[bd,x,p];rw[cM];rw[ly,pt]
def ap(e:Env)(d:D)(p:[rr])(S:aj):[i0]:=[jJ,[X],[aV],[KJ,[H]]]
theorem akC(d:D)(n:Nat)(l:[ak]):ap e d (n,[aV]) S=[KJ,n]:=(rfl)
theorem amr:[di,.app a b]=[bT,[i3],r,[v9,qV r S,[eY,b,d,fR r S,p,ap e d p S]]]:=by rw[bk,r];(refine bM λ_ S=>?_);rw[bd,d,p];rw[cM];rw[ly,ap]
end
def cf(n:Nat):bL:=#[run prog n,prog.init,prog.fA,prog.fuel,prog.ar]
def xa(n f:Nat)(B:[ak]):(cf n).call f B=run prog n f B:=(rfl)
def apg(n k:Nat):(cf n).fA k=dH[k]?:=(rfl)
def amw(n:Nat):(cf n).fuel=20000:=(rfl)
def amN:[e8,0,40]:=(rfl)
def anA:[aQ,dH,1,[y1]]:=(rfl)
def anj:[aQ,dH,2,[AE]]:=(rfl)
def an9:[aQ,dH,3,[Bk]]:=(rfl)
def wE:[ak]:=[Fg]
def ak':[aQ,dH,4,.b6 wE]:=(rfl)
def an8:[e8,5,1]:=(rfl)
def akH:[e8,6,2]:=(rfl)
def an1:[e8,7,3]:=(rfl)
def apb:[e8,8,4]:=(rfl)
def alr:[e8,9,5]:=(rfl)
def al3:[e8,10,4]:=(rfl)
def amK:[e8,11,8]:=(rfl)
def am1:[e8,12,3]:=(rfl)
def ao3:[e8,13,5]:=(rfl)
def aor:[e8,14,5]:=(rfl)
def am':[e8,15,10000000]:=(rfl)
def alR:[e8,16,10000]:=(rfl)
def apo:[e8,17,10000]:=(rfl)
def LI:[dj]:=[Fk]
def amj:[aQ,dH,18,.du LI]:=(rfl)
def amo:[e8,19,3]:=(rfl)
def akL:[e8,20,2000]:=(rfl)
def apM:[e8,21,20]:=(rfl)
def A5:[dj]:=[Gx]
def amf:[aQ,dH,22,.du A5]:=(rfl)
def ama:[e8,23,9]:=(rfl)
def akP:[e8,24,1000000000000]:=(rfl)
def amE:[e8,25,1000000]:=(rfl)
def LZ:[dj]:=[Fo]
def ams:[aQ,dH,26,.du LZ]:=(rfl)
def aV(n:Nat)(S:aj)(h:[aQ,fns,f,F])(x:F.sc=af)(U:[br]=F.np):run prog [aw] f B S=jZ (cf n) F B S:=[Gy]
def Eh(n:Nat)(S:aj)(h:[aQ,fns,f,F])(x:F.sc=ae)(U:[br]=F.np):run prog [aw] f B S=fW (jZ (cf n) F B) S:=[Gy]
def om(f:Flow)(S:aj):R D:=match f with|[po]=>[ia]|.nx _=>[Z,[aX]]|.bk _=>[aW]
def akr(d:D)(S:aj):om [po] S=[ia]:=(rfl)
def ale(e:Env)(S:aj):om (.nx e) S=[Z,[aX]]:=(rfl)
def anZ(Z:bL)(F:Fn)(B:[ak])(S:aj):jZ Z F B S=(bh Z F.body ([eE,Slot.val]++fH (F.ns-F.np) Slot.un) S).bd om:=by rw[bk,f];rw[bx,f]
def akZ(d:D):Slot.cb [g0]=[g0]:=(rfl)
def anI(d:D):Slot.cb [h']=[g0]:=(rfl)
def akQ:Slot.cb [V]=[V]:=(rfl)
def apE(e:Env)(i:Nat)(d:D):gc e [i] d=aa [qe]:=(rfl)
def amg(e:Env)(i j:Nat)(x y:D):gc e [i,j] [ku]=[JU]:=(rfl)
def aon(e:Env):b4 e []=e:=(rfl)
def an4(e:Env)(i:Nat)(r:[h]):b4 e (i::r)=(b4 e r).set i [V]:=(rfl)
def apf(i j:Int)(S:aj):oH [aP] [c0] S=[bQ,i+j]:=(rfl)
def ank(i j:Int)(S:aj):xA [aP] [c0] S=[dT,ao (i<j)]:=(rfl)
def aln(i j:Int)(S:aj):mY [aP] [c0] S=[Z,i==j]:=(rfl)
def alj(i j:[h])(S:aj):mY [L,i] [L,j] S=[Z,i==j]:=(rfl)
def alg(l:[ak])(i:Int)(S:aj):[x6,[aV]]:=(rfl)
def aog(l:[ak])(i:Int)(S:aj):[x6,[eB]]:=(rfl)
def alD(l:[ak])(i:Int)(S:aj):[x6,.b6 l]:=(rfl)
def aoq(l:[ak])(i:Int)(S:aj):[x6,.dX l]:=(rfl)
def aoi(l:[ak])(S:aj):[vk,[aV],[E]]:=(rfl)
def alX(l:[ak])(S:aj):[vk,.dX l,[E]]:=(rfl)
def anm(l:[ak])(S:aj):dn [lX] [aV] S=[ri]:=(rfl)
def amt(l:[ak])(S:aj):dn .tuple [aV] S=[Z,[eB]]:=(rfl)
def aks(l:[h])(S:aj):dn .dict [b3] S=[Z,[b3]]:=(rfl)
def al0(l:[ak])(S:aj):[zB,.sum,eQ l,[bQ,x.sum]]:=(rfl)
def al6(l:[ak])(S:aj):[zB,.any,oW l,[dT,x.any id]]:=(rfl)
def am0(l:[ak])(S:aj):[zB,.all,oW l,[dT,x.all id]]:=(rfl)
def aoQ(i j:Int)(S:aj):jl .min [aP] [c0] S=[bQ,el i j]:=(rfl)
def am5(i j:Int)(S:aj):jl .max [aP] [c0] S=[bQ,fk i j]:=(rfl)
def alf(d:D)(S:aj):sJ .min d S=[h_]:=(rfl)
def amQ(d:D)(S:aj):sJ .max d S=[h_]:=(rfl)
def am_(s:[h])(S:aj):sJ [nq] [c'] S=[h_]:=(rfl)
def akT(s:[h])(S:aj):sJ .join [c'] S=[h_]:=(rfl)
def aky(l:[ak])(S:aj):[nn,0,[aV],l]:=(rfl)
def ao8(l:[ak])(S:aj):[nn,0,[eB],l]:=(rfl)
def x6(n:Int)(S:aj):R [ak]:=[A,-[km]<=n/\n<=lim,[Z,[jx,[fu],[l,[am,i]]]],[aW]]
def aoz(n:Int)(S:aj):eA 1 [[dm]] S=x6 n S:=by show [EK];unfold x6;rw[bw]
def vb(n:Nat)(S:aj)(h:n<=16777216):x6 n S=[Z,[jx,n,[aP]]]:=by unfold x6;rw[a8,aJ #[[g],[fs]]]
def ao_(l:[ak])(S:aj):[nn,3,[aV],[rQ,[X]]]:=(rfl)
def alM(l:[ak])(S:aj):[nn,4,[aV],[rQ,[X]+1]]:=(rfl)
def ED(l:[dj])(S:aj):[nn,6,.i7 l,[pk,[nY]]]:=(rfl)
def B_(a b:Int)(S:aj):R [ak]:=[A,[uw,a]/\[uw,b]/\b-a<=lim,[Z,[D_,[am,i]]],[aW]]
def anx(a b:Int)(S:aj):eA 2 [nG,a,b] S=B_ a b S:=by show [EK];unfold B_;rw[bw]
def D'(a b:Int)(S:aj)(h0:-1000<=a)(m:a<=16777216)(u:-1000<=b)(q:b<=16776000):B_ a b S=[Z,[D_,i]]:=[dU,B_,aJ #[[Ap],[Ap],[fs]]]
def alV(a b:[ak])(S:aj):eA 5 [[ax,a],[ax,b]] S=[Z,[Eg]]:=(rfl)
def aey{U:[aI]}(E:U->Env){J:[aI]}(C:J->D)(f:U->J->U)(l:[h])(a:U)(H:∀a x,x∈l->[H9]):[uP,E a,E [g2,f,a]]:=by induction l generalizing a with|nil=>rfl|cons x r q=>rw[M,z,m,u,H a x (by simp)];rw[dX];rw[a']
def Ys{U:[aI]}(P:U->[P])(E:U->Env){J:[aI]}(C:J->D)(f:U->J->U)(l:[h])(a:U)(h0:P a)(H:∀a x,P a->x∈l->P (f a x)/\[H9]):[uP,E a,E [g2,f,a]]:=by induction l generalizing a with|nil=>rfl|cons x r O=>rw[ag,q,z,m,u,H a x h0 (by simp)];rw[dX];exact O _ q λa y h L=>H a y h [oZ]
def w6{U:[aI]}(E:U->Env->[P]){J:[aI]}(C:J->D)(f:U->J->U)(l:[h])(a:U)(e:Env)(h0:E a e)(H:∀a x e,E a e->x∈l->[I5,f a x]):∃d,[uP,e,d]/\E [g2,f,a] d:=by induction l generalizing a e with|nil=>exact#[e,Y,h0]|cons x r O=>rw[ac,q,z,m,u,h,H a x e h0 (by simp)];rw[aY,bT,cW,m,fw,l8,fC,u];exact O _ _ h λa y e L W=>H a y e L [f]
def kA{J:[aI]}(C:J->D)(l:[h])(E:Nat->Env->[P])(e:Env)(h0:E 0 e)(H:∀i x e,([cS,l])->E i e->[I5,[Y]]):∃d,[uP,e,d]/\E [E] d:=by induction l generalizing E e with|nil=>exact#[e,Y,h0]|cons x r U=>rw[ac,q,z,m,u,h,H 0 x e Y h0];rw[dX];exact U _ _ h λi y e L O=>H [Y] y e L O
def dG{J:[aI]}(C:J->D)(g:J->D)(l:[h])(H:[gw,f (C x) S=[Z,aa (g x)]]):eJ f [aS,C] S=[Z,[aS,g]]:=by induction l with|nil=>rfl|cons x r q=>simp[bT,eJ,fw,H x (by simp),fC,q [f],AS]
def tV{J:[aI]}(C:J->D)(p:J->Bool)(g:J->D)(l:[h])(H:[gw,f (C x) S=[Z,[ao,p x,aa (g x),ag]]]):eJ f [aS,C] S=[Z,[S,l.filter p,g]]:=by induction l with|nil=>rfl|cons x r q=>simp[bT,eJ,fw,H x (by simp),fC,q [f],AS];grind
def pA(l:[gu])(i:Nat):[q_]=l[i]?:=[fN,at_,place]
def jB(a b:Nat)(S:aj)(h:a<1152921504606846976):mulR a b S=[bQ,[bb,a*b]]:=[b8,mulR]
def BJ(a b:Nat)(S:aj)(h0:0<b)(h:b<1152921504606846976):xz a b S=[bQ,[bb,a/b]]:=[b8,xz]
def zH(a b:Nat)(S:aj)(h0:0<b):xl a b S=[bQ,[bb,a%b]]:=[b8,xl]
def amO(p:[P]) [Decidable p]:(ao p=ae)=p:=by simp
def anV{U:[aI]}(a b:U)(l:[h]):(a::l).set 0 b=b::l:=(rfl)
def amT{U:[aI]}(a b:U)(l:[h])(n:Nat):(a::l).set [aw] b=a::l.set n b:=(rfl)
def aox{U J:[aI]}(f:U->J)(a:U)(l:[h]):[S,a::l,f]=f a::[gZ]:=(rfl)
def akv{U J:[aI]}(f:U->J):[S,[],f]=[]:=(rfl)
def aoN{U:[aI]}(a:U)(l G:[h]):(a::l)++G=a::(l++G):=(rfl)
def amp{U:[aI]}(l:[gu]):[]++l=l:=(rfl)
def akt{U:[aI]}(n:Nat)(a:U):fH [aw] a=a::fH n a:=(rfl)
def aoH{U:[aI]}(a:U):fH 0 a=[]:=(rfl)
def ak8{U:[aI]}(a:U)(l:[h]):[Q,a::l]=[E]+1:=(rfl)
def an6{U:[aI]}:[Q,([]:[gu])]=0:=(rfl)
def amy:(af=ae)=False:=by simp
def aoL:(! ae)=af:=(rfl)
def anY:(! af)=ae:=(rfl)
def api(l:[h]):[qD,[aV]]:=(rfl)
def anG(l:Bool):[qD,.iS l]:=(rfl)
def akD(a b:Ex):[qD,.lv a b]:=(rfl)
def amn(I:Ex)(t:[h])(k:Nat)(it d:[h]):[qD,[yC]]:=(rfl)
def amk(a:Ex):[qD,.b1 [lX] a]:=(rfl)
def anc(a:Ex):[qD,.b1 .dict a]:=(rfl)
def akX(a b:Ex):[qD,.b2 [nq] a b]:=(rfl)
def al_(l:[ak]):vk [aV]=ae:=(rfl)
def akW(l:[h]):vk [b3]=ae:=(rfl)
def anf(l:[h]):vk [hs]=ae:=(rfl)
def aow(p:[P]):(True/\p)=p:=by simp
def alJ(p:[P]):(p/\True)=p:=by simp
def amS(i:Int):D.atom [aP]=ae:=(rfl)
def an_(i:[h]):D.atom [L,i]=ae:=(rfl)
def alS(l:[ak]):D.jo [eB]=l.all D.atom:=(rfl)
def getD_some{U:[aI]}(a b:U):(aa a).getD b=a:=(rfl)
def getD_none{U:[aI]}(b:U):ag.getD b=b:=(rfl)
def Ld(x:U)(l:[h]):at_ [gz] 0=aa x:=pA _ 0
def anJ(x y:U)(l:[h]):at_ (x::y::l) 1=aa y:=pA _ 1
def aov(x y z:U)(l:[h]):at_ (x::y::z::l) 2=aa z:=pA _ 2
def akO(x y z w:U)(l:[h]):at_ (x::y::z::w::l) 3=aa w:=pA _ 3
def E1(l:[gu]):at_ l (-1)=l.getLast?:=by rw[aa,at_,place];cases l with|nil=>rfl|cons x r=>have h:-[am,[Q,[bn]]]<=-1:=[f];rw[aw [g],aJ h];rw[aa,t_,List.getLast?_eq_getElem?];rw[bA];omega
def AL(l:[h]):eQ [oB]=aa l:=[xa,eQ]
def RO{U:[aI]}(f:U->Int)(l:[h]):eQ [iB,[l,f x]]=aa [gZ]:=[xa,eQ]
def aoB{U:[aI]}(f:U->Bool)(l:[h]):oW [iB,[bh,f x]]=aa [gZ]:=[xa,oW]
def Kn{U:[aI]}(f:U->[h])(l:[h]):pE [iB,[L,f x]]=aa [gZ]:=[xa,pE]
open Vbmoad
def sg(c:Int):Nat:=[A,[rI],c.toNat,63]
def tx(t:cK):[aj]:=t.map sg
def nD(n:Nat):D:=[l,[kL]]
def pD(p:[gi]):D:=[ir,[H],[X]]
def eR(s:ua):D:=[ir,[gr],[ns]]
def fD:([be,[gi]])->D|ag=>[aX]|aa p=>pD p
def mi(l:[aj]):[aj]:=[S,pT [aS,Sx],Int.toNat]
def lQ(x:o5):D:=[ir,x.rule,x.unit]
def eg(x:Tax):D:=.obj 0 [Hc]
def cI(x:dZ):D:=.obj 1 [GI,[W,x.volume.map eR],[W,[zn]]]
def dk(x:io):D:=.obj 2 [xA,[z8]]
def eh(x:j7):D:=.obj 3 [Gd]
def ax(nm st:[dj])(b:a7):D:=.obj 4 [(16,[cc,nm]),(17,[z3]),(18,[W,[sk]]),(19,[vo]),(20,[W,[j9,eh]]),(21,[W,[ol,pD]]),(22,[cc,st])]
section
variable(S:aj)(x:Tax)(y:dZ)(z:io)(c:j7)(nm st:List (D×D))(b:a7)
theorem aoS:[g',eg x]:=(rfl)
theorem anT:[g',cI y]:=(rfl)
theorem amH:[g',dk z]:=(rfl)
theorem ao1:[g',eh c]:=(rfl)
theorem ao2:bH [b5] S=[Z,[b5]]:=(rfl)
theorem akM:[ft,eg x,0,[jb]]:=(rfl)
theorem al7:[py,eg x,1,x.rate]:=(rfl)
theorem akA:fl (eg x) 2 S=[dT,! x.within]:=(rfl)
theorem ann:[py,eg x,3,x.over]:=(rfl)
theorem aoD:[ft,cI y,0,[eX,y.name]]:=(rfl)
theorem aly:[py,cI y,4,y.price]:=(rfl)
theorem akz:[ft,cI y,5,[W,y.taxes.map nD]]:=(rfl)
theorem akY:[ft,cI y,6,[jd,mi y.taxes]]:=(rfl)
theorem aot:[ft,cI y,7,[W,y.volume.map eR]]:=(rfl)
theorem aod:[ft,cI y,8,[W,y.steps.map eR]]:=(rfl)
theorem am2:[ft,cI y,9,fD y.free]:=(rfl)
theorem apv:[ft,dk z,0,[eX,z.name]]:=(rfl)
theorem anl:[py,dk z,4,z.price]:=(rfl)
theorem anq:[ft,dk z,10,[W,z.parts.map pD]]:=(rfl)
theorem anS:[ft,eh c,0,[eX,c.name]]:=(rfl)
theorem aom:[ft,eh c,11,[wD,c.share]]:=(rfl)
theorem anW:[py,eh c,12,c.value]:=(rfl)
theorem apx:[py,eh c,13,c.item]:=(rfl)
theorem anQ:[py,eh c,14,c.cap.getD 0]:=(rfl)
theorem aoA:[py,eh c,15,[lM]]:=(rfl)
theorem akB:[ft,[b5],16,[cc,nm]]:=(rfl)
theorem aoC:[ft,[b5],17,[z3]]:=(rfl)
theorem aoU:[ft,[b5],18,[W,[sk]]]:=(rfl)
theorem an':[ft,[b5],19,[vo]]:=(rfl)
theorem an5:[ft,[b5],20,[W,[j9,eh]]]:=(rfl)
theorem aoJ:[ft,[b5],21,[W,[ol,pD]]]:=(rfl)
theorem alv:[ft,[b5],22,[cc,st]]:=(rfl)
end
structure mM (x : dZ) : Prop where
 price : x.price ≤ 10000000
 gf : ∀ s ∈ x.volume, s.from_ ≤ 40 ∧ s.price ≤ 10000000
 step : ∀ s ∈ x.steps, s.from_ ≤ 40 ∧ s.price ≤ 10000000
 one : x.volume = [] ∨ x.steps = []
 free : ∀ f, x.free = aa f → 1 ≤ f.1 ∧ f.1 < f.2 ∧ f.2 ≤ 40
def Hd(x:dZ)(n:Nat):[kC]<=n:=[b0,jD]
def WN(h:a<=b)(J:0<b):n/b*a<=n:=by rw[ai,m,Nat.div_mul_le_self n b,u,n/b*a<=n/b*b,rJ _ h];omega
def GC(L:mM x)(n k:Nat)(U:n<=40)(S:aj):[iD,1,0,[vA],[kC]]:=by rw[[eN]];simp[f0];cases h:x.free with|none=>rw[bg,fD,jD,h]|some f=>rw[M,m,u,e,L.free f h];have q:0<[gv]:=[g];rw[ai,O,WN (n:=n) (yQ u) q,W,[lR]<=n,Sy _ _];rw[aY,seval,fD,pD,jD,h,[E6],[oy,[lR]]];grind
def sZ(p n:Nat)(l:List ua):Nat:=[g2,λp s=>[A,[gr]<=n,s.price,p],p]
def Oi(p n:Nat)(l:[h]):sZ p n l=[gn,(l.filter λs=>ao ([gr]<=n)).getLast?,s,s.price,p]:=by induction l generalizing p with|nil=>rfl|cons s r q=>simp only[sZ,nE]at*;rw[q];rw[D,h,[gr]<=n];{rw[az,h,ub,List.getLast?_cons,iK,bI];rw[bx,(ah' _ r).getLast?]};{simp[h]}
def aar(x:dZ)(n:Nat):sZ [ea] n x.volume=rK x n:=Oi ..
def YA(x:dZ)(n:Nat):sZ [ea] n x.steps=qr x n:=Oi ..
def Mr(l:[h])(n k:Nat)(S:aj):[iD,1,1,[cI x,[dM,eR],[dm]],sZ [ea] n l]:=by rw[[eN]];simp[seval,f1];rw[aey [aF,[[b'],[b'],[b'],[ay,[H]],[ae,p],[aE,p]]] _ (λp s=>([A,[gr]<=n,s.price,[H]],[ay,[gr]],[ay,[ns]])) l (x.price,[V],[V]) (λa s e=>#[_,Y,by simp[seval,HZ];rw[cR,[gr]<=n]])];simp[seval];rw[bI,∀(l:[h])(a:Nat×Slot×Slot),[M,[g2,λp s=>([A,[gr]<=n,s.price,[H]],Slot.val [cz,[gr]],Slot.val [cz,[ns]]),a]]=sZ a.1 n l,by intro l;induction l with|nil=>intro a;rfl|cons s r q=>intro a;simp[nE,q,sZ]]
def rk(x:dZ)(p:Nat):[aj]:=[ao,[uZ],fH p (rK x p),[gx,p,i,qr x [Y]]]
def OB(n k:Nat)(U:n<=40)(S:aj):[dW,2,2,[vA],rk x n,nD]:=by rw[[cg]];simp[f2];rw[D,h,x.steps=[]];{rw[bY,h,rk,aia,Mr,vb n S [g]];rw[dG _ (λ_=>[cz,rK x n]) _ (λi j=>by simp[seval,aar])];rw[ep];congr 2;rw[List.map_replicate,List.eq_replicate_iff];simp[nD]};{rw[ak,m,¬[Q,[zn]]=0,[f],u,[am,0]<[Q,[zn]],[g],e,[uZ]=af,[f]];rw[az,seval,u,rk,e,D' 1 [aw] S _ _ [g] [g]];have q:[hf,[kL]+1-1]=n:=[g];rw[q,[oa,i,nD (qr x [Y]),j,by have:1+i=[cO,[Y]]:=[g];rw[ca,this,Mr,YA,nD]]];simp[cq];rfl}
def oM(l:[h]):eQ [no]=aa [aS,[n',n]]:=by exact RO ..
def m4(l:[h]):[aS,[n',n]].sum=aH l:=by induction l with|nil=>rfl|cons a r q=>simp[bT,aib,q,aH,jE,H_]
def X1(n a:Nat):aH (fH n a)=n*a:=by induction n with|zero=>simp[aH]|succ n q=>simp[aH]at*;grind
def abj(x:dZ)(p:Nat):aH (rk x p)=[ao,[uZ],p*rK x p,aH [gx,p,i,qr x [Y]]]:=by unfold rk;split;{exact X1 ..};rfl
def A8(L:mM x)(n k:Nat)(q:n<=40)(S:aj):[iD,3,3,[vA],kJ x n]:=by rw[[cg]];have h:=Hd x n;rw[aY,seval,f3,GC L n _ q,OB [kC] k [g],oM,m4,abj];rfl
def adb(L:mM x)(n j k:Nat)(z:n<=40)(J:j<=40)(S:aj):[cM,1,4,[d5,cI x,n,j],[bh,i8 x n j]]:=by rw[[eN]];simp[f4];cases h:x.free with|none=>rw[bg,fD,i8,h]|some f=>rw[M,m,u,e,L.free f h];rw[K,q,0<[gv],[g],O,[lR]<=n,Sy _ _];simp only[seval,fD,pD,i8,h,[E6],[oy,[lR]],zH j _ _ q,Sz];rw[D,P,j<[lR]*[gv]];{rw[au,seval,P,iK,kK];rw[<-aic [f]];rw[ab,HZ]};{rw[bg,P,j8,nF]}
def aec(x:dZ)(p i:Nat)(h:i<p):[aY,rk x p,[ao,[uZ],rK x p,qr x [Y]]]:=[b8,rk]
def cnt(p:[gK]):Nat->Nat|0=>0|[aw]=>cnt p n+[ao,p n,1,0]
def aeX(p:[gK])(h:i<=n):cnt p i<=cnt p n:=by induction n with|zero=>grind|succ n q=>rw[br,m,i=[aw]];{rw[eH,cnt]}
def N1(h:∀i<n,p i=q i):cnt p n=cnt q n:=by induction n with|zero=>rfl|succ n e=>simp[cnt,e [f],h n [g]]
def ahe(G f:Nat)(h:f<=G)(q b:Nat)(J:b<=G):cnt [sa,G-f<=j%G] (q*G+b)=q*f+(b-(G-f)):=by induction q generalizing b with|zero=>(induction b with|zero=>simp[cnt]|succ b m=>have:=m [g];(have e:(0*G+b)%G=b:=by rw[Nat.zero_mul,kL,aid [g]]);rw[<-SA];rw[b0,cnt])|succ q a=>induction b with|zero=>rw[cd,a G (by simp)]|succ b m=>have:=m [g];(have e:((q+1)*G+b)%G=b:=by rw[aie,Nat.add_mul_mod_self_right,aid [g]]);rw[hT,cnt]
def LF(p:[gK])(a b:Nat)(h:∀i,a<=i->p i=af):cnt p (a+b)=cnt p a:=by induction b with|zero=>rfl|succ b q=>rw[<-SA];rw[gt,cnt,q,h (a+b) [g]]
def acV(L:mM x)(n:Nat):n-cnt [tE] n=[kC]:=by cases h:x.free with|none=>(have:cnt [tE] n=cnt (λ_=>af) n:=N1 λi _=>by simp[i8,h]);rw[bn,u,LF (λ_=>af) 0 n (by simp),kL,u];rw[this,u];simp[jD,h,cnt]|some f=>rw[M,m,u,B,L.free f h];rw[ak,e,n=[lR]*[gv]+n% [gv],[q,nG,[dH,Cu n _]],d,cnt [tE] ([lR]*[gv]+n% [gv])=cnt _ _,LF _ _ _ λi q=>[b0,i8],a,cnt [tE] ([lR]*[gv])=cnt [sa,[gv]-f.1<=j% [gv]] _,N1 λi q=>by simp[i8,h,q,iK,kK]];rw[ai,z,ahe [gv] f.1 [g] [lR] 0 [g],I,cnt [tE] n=[lR]*f.1,[f]];rw[I];simp[jD,h]
def Y_(p:[gK])(n:Nat):cnt (λi=>! p i) n+cnt p n=n:=by induction n with|zero=>rfl|succ n q=>rw[b0,cnt]
def Ej(E:Nat->Env):∀(l:[ak])(k:Nat),(∀i d,([aY,l,d])->∃e,gc (E (k+i)) t d=aa e/\b e S=[dK,E (k+i+1)])->cW b t l (E k) S=[dK,E (k+[E])]|[],k,_=>rfl|d::r,k,H=>by rw[M,e,m,u,H 0 d Y];rw[SD]at m u;simp[cW,m,fw,l8,fC,u];rw[cd,Ej (b:=b) (t:=t) (S:=S) E r [an] λi d hd=>[cd,H [Y] d hd]]
def j0(x:dZ)(n i:Nat):Nat×[aj]:=(br i).foldl (λ(a:Nat×[aj])j=>[Gh,j,a.1,a]) (0,[])
def Fe(x:dZ)(n i:Nat):j0 x n [Y]=[Gh,i,[M,[pa]],[pa]]:=by unfold j0;rw[aU,uc,yR]
def UU(x:dZ)(n i:Nat):[M,[pa]]=cnt (λj=>! i8 x n j) i/\[Q,[bo,[pa]]]=i:=by induction i with|zero=>rw[aX,Y]|succ i q=>rw[Fe];cases h:i8 x n i<;>simp[cnt,q,h]
def Vu(L:mM x)(n k:Nat)(u:n<=40)(S:aj):[dW,3,5,[vA],SF x n,nD]:=by rw[[cg]];have h:=Hd x n;rw[eU,f5,GC L n _ u,OB [kC] k [g],vb n S [g]];have:=Ej (b:=[fh,2,[GV]]) (t:=[5]) (S:=S) (λi=>[[oH],[ay,n],[b_,[hq,rk x [kC]]],[bl,[hq,[bo,[pa]]]],[ay,[M,[pa]]],[EP,[bb,[cy]]]]) [jx,n,[cz,i]] 0 (λi d hd=>by simp[dR,lE]at hd;rw[M,j,W,rfl,hd];rw[R,z,rfl,dC.mp W];rw[aH,gY,z];simp[ud,kL];refine [z4];rw[bl,O,U,UU x n i,q,[iN,[c_,[bo,[pa]]]],by rw[aR];rw[fs]];rw[aa,seval,adb L n i _ u [g]];cases m:i8 x n i with|true=>rw[bY,q,Fe,m,de,nD]|false=>rw[V,B,Y_ [tE] n,a,acV L n];have J:=aeX (λj=>! i8 x n j) [ge,[Y]<=n];rw[aH,cnt,J];have hu:[M,[pa]]<[kC]:=[f];simp only[seval,q,Fe,m,de,pA,dR,aec x _ _ hu];rfl);simp[kL,aR,gY]at this;rw[[iM,[M,j0 x n 0]=0],[iM,[bo,j0 x n 0]=[]]]at this;rw[aH,seval,this];rw[a8,this]
def abm(L:mM x)(n k:Nat)(q:n<=40)(S:aj):[cM,4,6,[vA],[ax,[nG,Ia x n,kJ x (Ia x n)]]]:=by rw[[cg]];rw[bg,f6,A8 L n k q,D' [aw] _ S [g] [g] _ _];let B:=λj=>(br j).foldl (λp i=>[A,kJ x (n+i)<kJ x p,n+i,p]) n;rw[ak,f,∀j,B [cT]=[A,kJ x (n+j)<kJ x (B j),n+j,B j],λj=>by simp[B,uc,yR,nE,List.foldl_nil],m,B 1=n,[f],O,[hf,41-([kL]+1)]=40-n,[g]];rw[O];have:=Ej (b:=[fh,3,[Ha]]) (t:=[4]) (S:=S) (λi=>[[oH],[ay,n],[ay,B [Y]],[ay,kJ x (B [Y])],[EP,[bb,n+i]],[EP,kJ x (n+i)]]) [jx,40-n,[cz,[aw]+i]] 0 (λi d hd=>by simp[dR,lE]at hd;rw[M,j,z,rfl,hd];rw[R,u,rfl,dC.mp z];rw[aH,gY,u];rw[aa,ud,kL];refine [z4];rw[al,e,[aw]+i=[cO,n+[Y]],[g],e];rw[au,seval,A8 L (n+[Y]) k [g],Sz,f [Y]];rw[cR,kJ x (n+[Y])<kJ x (B [Y])]);simp[seval,kL,aR,gY,m]at this;rw[this];rw[ep];rw[al,e,B (40-n+1)=Ia x n,[fN,Ia,em],e]
def lp(rs:[a0])(i j:Nat):[P]:=[fK,j]<[fK,i]\/([fK,j]=[fK,i]/\i<j)
instance(rs:[a0])(i j:Nat):Decidable (lp rs i j):=by unfold lp;infer_instance
def FL{rs:[a0]}{i j k:Nat}(h:lp rs i j)(x:lp rs j k):lp rs i k:=by unfold lp at*;omega
def EM{rs:[a0]}{i:Nat}:¬lp rs i i:=by unfold lp;omega
def M7{rs:[a0]}{i x:Nat}:∀{L:[aj]},x∈k6 rs i L↔x=i\/x∈L|[]=>by simp[k6]|j::r=>by rw[ab,k6];split;{simp};{rw[aa,bX,M7 (L:=r)];rw[bb];{rintro(h|h|h)<;>simp[h]};{rintro(h|h|h)<;>simp[h]}}
def NV{rs:[a0]}{i:Nat}:∀(L:[aj]),(k6 rs i L).Perm (i::L)|[]=>by simp[k6]|j::r=>by rw[ab,k6];split;rw[av,SG _,[cw,(NV r).cons j,List.Perm.swap ..]]
def O2{rs:[a0]}{i:Nat}:∀{l:[aj]},i∉l->[B6,lp rs,k6 rs i l]|[],_,_=>by simp[k6]|j::r,q,h=>by rw[aP,bX,ue,q];rw[kM]at h;rw[ab,k6];split;{rw[aB,O];rw[al,H,lp rs i j,by unfold lp;omega,kM];rw[a7,[gG],kM.mpr h];rw[d_,[c1,L],rfl,L,H,FL H (h.1 x L)]};{rw[aB,O];rw[ci,kM,#[[gG],O2 q.2 [cU]]];rw[aK,M7.mp L,rfl,L];{unfold lp;omega};{exact h.1 x L}}
def J0(rs:[a0]):∀(l:[aj]),l.Nodup->[Jt,l.foldr (k6 rs) [],l]|[],_=>#[Ib,SG _]|i::r,h=>by rw[ar,mv,h,m,u,J0 rs r [cU]];rw[ab,jE];rw[aS,O2 (λq=>h.1 (u.mem_iff.mp q)) m,[cw,NV _,u.cons i]]
def yc(rs:[a0]):[Jt,iG rs,br [fM]]:=J0 rs _ SH
def Qp:∀{l:[h]},l.Pairwise (lp rs)->∀{k i},([aQ,l,k,i])->[Q,l.filter [sa,lp rs j i]]=k|[],_,_,_,h=>[f]|a::t,q,0,i,h=>by simp[rL,cX]at h;subst h;rw[kM]at q;rw[uf,Cv];intro x L;simp[d0];rw[d_,[c1,L],rfl,L,EM,λO=>EM (FL O (q.1 x L))]|a::t,q,[an],i,h=>by rw[kM]at q;have:=q.1 i (cG h);simp[ub,this,iK,bI,b7,Qp q.2 h]
def Rn:∀{L:[aj]},L.Nodup->∀{k i}(G:Nat),([aQ,L,k,i])->(L.take G).count i=[A,k<G,1,0]|[],_,_,_,_,h=>[f]|a::t,q,k,i,0,h=>rfl|a::t,q,0,i,G+1,h=>by rw[aH,rL,h];rw[mv]at q;rw[bI,(t.take G).count a=0,List.count_eq_zero.mpr [f]]|a::t,q,[an],i,G+1,h=>by rw[mv]at q;have u:¬a=i:=λe=>q.1 (e▸cG h);simp[aif,List.count_cons,Rn q.2 G h,ip,u,b8,SD,Nat.add_lt_add_iff_right]
def ZN(rs:[h])(i j:Nat):ao (lp (rs.map [n',n]) j i)=[H7]:=by rw[al,e,∀k,(rs.map [n',n]).getD k 0=[fK,k],λk=>[f],gZ];simp only[lp,e,d0,kN,aF,ip];omega
def aa1(rs:[h])(i G:Nat)(h:i<[fM]):((iG (rs.map λ(n:Nat)=>n)).take G).count i=[A,yS rs i<G,1,0]:=by rw[R,m,u,yc _];rw[aR]at u;have O:=u.mem_iff.mpr (i9.mpr h);rw[R,k,q,kO O];have bU:=u.nodup_iff.mpr SH;rw[Rn bU G q];rw[ai,H,Qp m q,e,yS rs i=k,by rw[<-H,(u.filter _).length_eq];rw[ab,yS];congr 2;funext j;rw[ZN]];rw[e]
def m_(p:[aj])(j:Nat):[aj]:=p.set j (p.getD j 0+1)
def G2(p:[h])(j:Nat):[Q,m_ p j]=p.length:=by simp[m_]
def KA:∀(l:[h])(p:[h])(i:Nat),i<p.length->[io,[g2,m_,p]]=p.getD i 0+l.count i|[],p,i,h=>rfl|j::r,p,i,h=>by rw[ab,nE];rw[KA r _ i [q,G2,h]];rw[b0,m_]
def Dr:∀(l:[h])(p:[h]),[Q,[g2,m_,p]]=p.length|[],p=>rfl|j::r,p=>by simp[nE];rw[Dr r,G2]
def Vh(whole x:Nat)(j:0<x)(ws:[h]):x*aH (gi whole x ws)<=whole*[da]:=by induction ws with|nil=>simp[aH,gi]|cons w r q=>simp[gi,bT,aH,jE,Ic]at*;rw[aM,aig [tD] x]
def acw(whole:Nat)(ws:[h])(q:0<[da]):aH [l8]<=whole:=by have:=Vh whole _ q ws;rw[af,nG,this,aih this q]
def adn(whole:Nat)(ws:[h])(q:0<[da]):[xc,n].foldl m_ [l8]=[mH]:=by(have U:[Q,[l8]]=[gD]:=by simp[gi]);simp[iq,aw (gj q)];apply mw;intro i;rw[D,h,i<[gD]];{rw[bn,m,KA [xc,n] [l8] i ([a']),aa1 _ _ _ [q,aR,h],m];have u:i<[Q,[xc,[kL]]|>.foldl m_ [l8]]:=[a3,Dr,U,h];rw[a']};{rw[[zX,Dr],mx [f]]}
def tl(rule x:Nat)(a:Int):Bool:=[A,rule<4,rule==0||rule==2,[A,a≠0,ao (a<0),[A,rule=8,x%2==0,[A,rule=9,x%2==1,rule==5||rule==6]]]]
def ape(r a b:Int)(S:aj):gy [l,r] [ir,a,b] S=[Z,a==r||b==r]:=by simp[gy,j1,D.atom,D.beq,M.pure]
def ald(b:Nat)(S:aj):mulR 2 b S=[bQ,[bb,2*b]]:=jB 2 b S ([ah])
def am6(b:Nat)(S:aj):xl b 2 S=[bQ,[bb,b%2]]:=zH b 2 S ([ah])
def XN(rule x:Nat)(a:Int)(O:rule<=9)(k:Nat)(S:aj):[cM,1,60,[d5,[l,rule],x,a],[bh,tl rule x a]]:=by rw[[eN]];simp[K7];rw[D,h,rule<4];{have m:[am,rule]<4:=[g];rw[au,seval,m,tl,h];congr 2;grind};{have m:¬[am,rule]<4:=[g];rw[au,seval,m,tl,h];rw[D,u,a=0];{have e:(!(a==0))=af:=[f];simp[u];rw[D,z,rule=8];{have B:[cB,rule,8]:=[f];rw[aa,seval,z];congr 2;grind};{have B:[bE,[am,rule],8]:=[f];rw[ad,seval,B,z];rw[D,L,rule=9];{have q:[cB,rule,9]:=[f];rw[aa,seval,L];congr 2;grind};{have q:[bE,[am,rule],9]:=[f];rw[ad,seval,q,L];congr 2;grind}}};{have e:(!(a==0))=ae:=[f];rw[eU,e,u,ne_eq,not_false_eq_true]}}
def xL(r n d:Nat)(h:r<=9):Cw r n d=[A,[Ew,n%d,n/d,n%d],n/d,n/d+1]:=by rw[ab,Cw];rw[br,h0,n%d=0];{rw[D,m,r<4];{rw[fN,tl,m]};{rw[ab,tl];rw[K,e,¬(r=0\/r=2),[g],z,¬(r=1\/r=3),[g]];generalize O:n%d=G at*;rw[br,u,2*G<d];{rw[aw u];rw[br,q,d<2*G];{rw[al,b1,[cO,2*G]-d=0,[g],aw q];rw[ab,b1];simp[nearUp];have:r=4\/r=5\/r=6\/r=7\/r=8\/r=9:=[g];rcases this with rfl|rfl|rfl|rfl|rfl|rfl<;>simp;rw[cp]}}}}
def ia:([be,o5])->D|aa x=>lQ x|ag=>[y1]
def li(o:[be,o5]):o5:=o.getD {rule:=4,unit:=1}
def amd(o:[fP])(S:aj):[g',ia o]:=[bx,o]
def alO(o:[fP])(S:aj):eC (ia o) [iW] S=[bQ,(li o).rule]:=[bx,o]
def ak2(o:[fP])(S:aj):eC (ia o) [l,1] S=[bQ,[zS]]:=[bx,o]
structure oA (x : o5) : Prop where
 rule : x.rule ≤ 9
 one : 1 ≤ x.unit
 unit : x.unit ≤ 10000
def wY(o:[fP])(h:oA (li o))(n d:Nat)(O:[nS])(hd:0<d)(L:d<10000000000)(k:Nat)(S:aj):[iD,2,59,[d5,ia o,n,d],i_ (li o) n d]:=by rw[[cg]];rw[ai,m,h.unit,u,d*[zS]<=d*10000,rJ _ m];rw[ai,q,aii hd h.one,U,n/(d*[zS])<=n,Sy _ _];rw[az,seval,OI,[oy,d],[E6],zH n _ _ q];generalize x:d*[zS]=s at*;rw[aA,e,([cO,n%s]==0)=ao (n%s=0),[f],er,xL _ n s h.rule];rw[ab,e];rw[D,h0,n%s=0];{rw[aJ (e6 h0)]at er;rw[aY,seval,h0,[oy,n/s],i_,x,er,nG]};{rw[aa,h0,XN _ _ _ h.rule];cases j:tl _ _ _ with|true=>rw[aJ (kQ j)]at er;rw[bY,[oy,n/s],i_,x,er,nG]|false=>rw[[nz]]at er;have z:[bb,n/s]+1=[cO,n/s+1]:=rfl;rw[aY,seval,z,[oy,n/s+1],i_,x,er,nG]}
def Gv(h:[da]=0):[mH]=[hw,[hY]]:=by simp[iq,h]
def ZT(l:[h])(G:Nat)(h:[gw,x<=G]):aH l<=[E]*G:=by induction l with|nil=>simp[aH]|cons a r q=>rw[V,m,q [f],u,[gF,a]];simp[aH,jE,b7,yT]at*;omega
def wC(h:x∈l):x<=aH l:=by induction l with|nil=>grind|cons a r q=>simp[aH]at*;grind
def A4(n i:Nat)(h:i<n):place n i=aa i:=[b0,place]
def Hr(n i:Nat):clip n i=el i n:=rfl
def apl(l:[ak])(e:Env)(n:Int)(S:aj):sk ([bk,[aV]]::e) 0 n S=[HD,[fM],[c0]]:=(rfl)
def aoT(d:Slot)(e:Env)(i:Nat)(n:Int)(S:aj):sk (d::e) [Y] n S=sk e i n S:=(rfl)
def yb(l:[ak])(i:Nat)(S:aj):gu [aV] ag (aa i) S=[Z,[W,[wo]]]:=by show R.ok [ic,cut l 0 (clip _ i)] S=_;rw[Hr];rw[hT,cut]
def zK(whole:Nat)(ws:[aj])(W:whole<1000000000000)(U:[gD]<64)(G:[da]<1000000000000)(k:Nat)(S:aj):[dW,1,61,[[l,whole],[W,[hw,nD]]],[mH],nD]:=by rw[ca,aV k S (F:=A_) Y Y Y,A_,oM,m4];rw[D,h0,[da]=0];{(have e:[cB,[am,[da]],0]:=by simp[h0]);rw[ab,e];rw[dG nD (λ_=>[cz,0]) ws (λi O=>by rfl)];rw[aa,Gv h0,cq];rfl};{rw[K,e,[bE,[am,[da]],0],by simp[h0],c,0<[da],[g]];rw[aa,seval,e];rw[[Ht,[tD]/[da],BJ _ _ _ c [g]]];rw[al,L,[hw,λw=>[cz,[bb,[tD]/[da]]]]=[c_,[l8]],by simp[gi,nD],L];rw[ep];rw[[Ht,[tD]% [da],zH _ _ _ c]];rw[aA,f,[hw,λw=>[cO,[tD]% [da]]]=[l5,[pL],n,[kL]],by simp[kP],N,acw whole ws c];rw[au,seval,aR,U,f];simp only[seval,oM,m4,<-aic N];rw[yb,Cy.symm];rw[ep];rw[al,z,∀j,j∈[xc,[kL]]->j<[gD],λj q=>[cd,[bo,yc _].mem_iff.mp (Ie q)],Ys [aF,[Q,[H]]=[gD]] [aF,[[ay,whole],[fG,[hw,nD]],[ay,[da]],[bl,[hq,[H]]],[b'],[b'],[X],[V]]] [sR,j,j] (λp j=>(m_ [H] j,[ay,j])) _ ([l8],[V]) (by simp[gi]) (λa j h q=>#[[q,G2,h],_,Y,by rw[a4,C,z j q,m,j<[Q,[c_,a.1]],[f],u,[cb,[c_,a.1],[cz,a.1.getD j 0]],by simp[h,C,nD]];rw[az,seval,A4 _ _ m,u,m_,SI];rfl])];rw[ep];(have:∀(l:[aj])(a:[aj]×Slot),[M,[g2,λp j=>(m_ [H] j,Slot.val [cz,j]),a]]=[g2,m_,a.1]:=by intro l;induction l with|nil=>grind|cons j r B=>grind);rw[this,adn whole ws c]}
structure Wf (b : a7) : Prop where
 nt : b.taxes.length ≤ 4
 ni : b.items.length ≤ 8
 nb : b.bundles.length ≤ 3
 nc : b.coupons.length ≤ 5
 rate : ∀ x ∈ b.taxes, x.rate ≤ 10000
 qN : ∀ x ∈ b.taxes, x.within = ae → x.over = 0
 over : ∀ (i : Nat) (x : Tax), b.taxes[i]? = aa x → x.over ≤ i ∧ (x.over ≠ 0 → (cj b x.over).within = af)
 item : ∀ x ∈ b.items, mM x ∧ x.taxes.Nodup ∧ ∀ t ∈ x.taxes, 1 ≤ t ∧ t ≤ b.taxes.length
 iW : ∀ x ∈ b.bundles, x.price ≤ 10000000 ∧ (x.parts.map (·.1)).Nodup ∧ ∀ p ∈ x.parts, 1 ≤ p.1 ∧ p.1 ≤ b.items.length ∧ 1 ≤ p.2 ∧ p.2 ≤ 40
 jO : ∀ x ∈ b.coupons, x.value ≤ 10000000 ∧ x.item ≤ b.items.length ∧ (∀ c, x.cap = aa c → 1 ≤ c ∧ c ≤ 10000000) ∧ x.least ≤ 10000000
 apart : ∀ p ∈ b.apart, 1 ≤ p.1 ∧ p.1 < p.2 ∧ p.2 ≤ b.coupons.length
 ro : oA (nH b)
 ca : oA (jF b)
def Ed:[aj]:=[i8]
def FZ:[aj]:=[ij]
def FS:[aj]:=[jj]
def tS(x:Bool):D:=[L,[ao,x,[nT],[pY]]]
structure gA (b : a7) (st : List (D × D)) : Prop where
 ro : bK st (.str Ed) = b.rounding.map lQ
 ca : bK st (.str FZ) = b.cash.map lQ
 lu : bK st (.str FS) = b.byLine.map tS
def Qy(o:[fP]):(o.map lQ).getD [y1]=ia o:=[bx,o]
section
variable{b:a7}{nm st:List (D×D)}(hs:gA b st)(k:Nat)(S:aj)
include hs
theorem QY:[cM,1,14,[[b5]],ia [mO]]:=by rw[bc,[eN],h,[KS],hs.ro];rw[bg,Nv,h,Qy]
theorem KM:[cM,1,15,[[b5]],ia b.cash]:=by rw[bc,[eN],h,[LU],hs.ca];rw[bg,KW,h,Qy]
theorem UN:[cM,1,16,[[b5]],[bh,ao (b.byLine=aa ae)]]:=by rw[[eN]];rw[bM,h,bK _ [re]=b.byLine.map _,hs.lu,Mv];cases b.byLine with|none=>rfl|some x=>rw[bx,x]
end
def pM(x:Nat)(l:[a0])(p:[gi]):[a0]:=l.set [nt] ([lC,[nt]]-[cO,x*[X]])
def vJ(l:[a0])(x:io×Nat):[a0]:=[R].parts.foldl (pM [bD]) l
def km(b:a7)(c:[aj])(C:[aj]):[a0]:=[g_].foldl vJ (c.map [n',n])
def D0(t:Nat)(l:[h])(p:[gi]):[Q,pM t l p]=[E]:=by simp[pM]
def DU(t:Nat):∀(ps:[h])(l:[h]),[Q,ps.foldl (pM t) l]=[E]|[],l=>rfl|[e1],l=>by simp[nE];rw[DU t r,D0]
def Pr:∀(G:[h])(l:[h]),[Q,G.foldl vJ l]=[E]|[],l=>rfl|[e1],l=>by simp[nE];rw[Pr r,vJ,DU]
def Os(b:a7)(c C:[h]):[Q,[tt]]=[dN]:=by rw[km,Pr,aR]
def N7(t:Nat):∀(ps:[h])(l:[h])(i:Nat),([g1,ps,1<=[H]])->i<[E]->[io,ps.foldl (pM t) l]=[lC,i]-[bb,t*aH [fc,ps.filter [aF,[H]==[Y]],[X]]]|[],l,i,_,h=>by simp[aH]|[e1],l,i,L,h=>by rw[ab,nE];rw[N7 t r _ i [f] [q,D0,h]];have m:=L p (by simp);rw[D,e,[H]=[Y]];{rw[K,q,[cB,[H],[Y]],[f],z,[nt]=i,[g]];simp only[ub,q,bI,bT,aH,jE,Ic,pM,z,hY,aij,h,nJ];omega};{rw[K,q,[bE,[H],[Y]],[f],z,¬[nt]=i,[g]];simp[ub,q,dj,b8,pM,hY,aij,z]}
def EW(J:[aO])(c C:[h])(i:Nat)(h:i<[dN]):[qv]=c.getD i 0-my b C [Y]:=by(have key:[h0,G,l,[h],[b7,G,[R]∈[iv]],i<[E]->[io,G.foldl vJ l]=[lC,i]-aH [f5,λx=>[I',[Y]]]]:=by intro G;induction G with|nil=>simp[aH]|cons x r m=>intro l L U;rw[ab,nE];rw[m _ (λy e=>L y (lD _ e)) ([a3,vJ,DU,U]),vJ,N7 _ _ _ _ (λp q=>[M,[bo,J.iW _ (L x (by simp))].2 p q]) U];rw[ad,bT,aH,jE];omega);rw[km,key _ _ (λx L=>[M,j9 L]) [q,aR,h]];simp[my,hY,dR];grind
def iD(i:Int):D:=[aP]
def Sq(v:D)(l:[ak]):[P]:=v=[aV]\/v=[eB]
def Sq.it(h:Sq v l)(S:aj):[nn,0,v,l]:=by rcases h with rfl|rfl<;>rfl
def Sq.zip(h:Sq v l)(a:[ak])(S:aj):eA 5 [[ax,a],v] S=[Z,[fc,a.zip l,[nY]]]:=by rcases h with rfl|rfl<;>rfl
def L0{U J z a:[aI]}(f:U->z)(g:J->a)(l:[h])(G:[h]):[gZ].zip [f5,g]=[fc,l.zip G,(f [H],g [X])]:=[bM,List.zip_map]
def On(J:[aO])(W:Sq v [jr])(O:[hZ])(hu:[lf])(k:Nat)(S:aj):[dW,1,62,[dc,[hG],v],[tt],iD]:=by rw[[eN]];rw[az,seval,LH,W.zip,L0,cq];rw[M,G,m,u,w6 (t:=[gs]) (b:=λe=>bh _ [.cT _ 0 [(.av [av] 10)] _] e) (λl e=>[E]=[bP]/\∃I F Z q,e=[nW,[dM,iD],I,F,Z,q]) ([aF,[Ey]]∘[aF,(dk _,nD _)]) _ [g_] (c.map _) [[b'],[b'],[b_,v],[bl,[hG]],[V],[V],[V],[V]] #[[f],_,_,_,_,by rw[ab,cq];rfl] (λl x e#[U,I,F,Z,q,z]L=>by rw[a2];rw[V,a,j9 L,j,[aE,J.iW _ a.1]];have d:=hu _ a.2;rw[M,G,m,u,w6 (S:=S) (t:=[6,7]) (b:=λe=>bh _ [Li] e) (λl e=>[E]=[bP]/\∃Z q,e=[nW,[dM,iD],[bk,dk [R]],[ay,[bD]],Z,q]) pD (pM [bD]) _ l _ #[U,_,_,Y] (λl p e#[U,Z,q,z]N=>by rw[a2];rw[ag,s,P,r,A,j p N];refine#[_,[[b'],[b'],[b_,v],[pc],[b'],[b'],[ay,[H]],[ay,[X]]],Y,?_,#[[a_,D0],_,_,Y]];rw[ak,i,[nt]=[cO,[nt]],[g],h,[nt]<[Q,[aS,iD]],[f],f,[aS,iD][[nt]]?=aa [l,[lC,[nt]]],by rw[aR]at h;simp[h,iD]];simp only[seval,i,A4 _ _ h,f,[oy,[bD]],pM,SI,iD])];rw[ag,B,Z,q,rfl,u];refine#[_,[[cn],[ja],[b_,v],[pc],[bk,dk [R]],[ay,[bD]],Z,q],Y,?_,#[B,_,_,_,_,Y]];simp only[seval,nD]at m|-;rw[a8,m])];rw[an,B,I,F,Z,q,rfl,u];rw[a8,m]
def yh{U:[aI]}(f:U->D)(l:[h])(d:U)(i:Nat)(m:1<=i)(u:i<=[E]):at_ [gZ] [cy]=aa (f (l.getD [cy] d)):=by rw[K,e,[am,i]-1=[bb,[cy]],[g],q,[cy]<[E],[g]];rw[e,pA];grind
def tT(i:Nat)(m:1<=i)(u:i<=[bP]):at_ [sk] [cy]=aa (cI [hp]):=[E9]
def oR(i:Nat)(m:1<=i)(u:i<=[cC]):at_ [ms,eg] [cy]=aa (eg (cj b i)):=[E9]
def wG(i:Nat)(m:1<=i)(u:i<=[bI]):at_ [j9,eh] [cy]=aa (eh (ug b i)):=[E9]
def mP{U:[aI]}(l:[h])(d:U)(i:Nat)(h:i<[E]):l.getD i d∈l:=[f]
def jV(i:Nat)(m:1<=i)(u:i<=[bP]):[hp]∈[cG]:=[ql]
def sO(i:Nat)(m:1<=i)(u:i<=[cC]):cj b i∈[ht]:=[ql]
def wK(i:Nat)(m:1<=i)(u:i<=[bI]):ug b i∈[jv]:=[ql]
def kr:[lU,n,l,[h],l.Nodup,([gw,[eS,x,n]])->[E]<=n]|0,l,_,h=>by(cases l with|nil=>simp|cons a r=>rw[aM,[gF,a]])|[aw],l,q,h=>[jK,m,kr n (l.erase [aw]) (q.erase _) [f]]
def alA(l:[h]):cM (tX 0) [aS,pD]=aa [pk,[l,[H]]]:=by induction l with|nil=>rfl|cons p r q=>simp[cM,tX,pD,q]
def anv(l:[h]):cM (tX 1) [aS,pD]=aa [pk,[l,[X]]]:=by induction l with|nil=>rfl|cons p r q=>simp[cM,tX,pD,q]
def al5(e:Env)(i j:Nat)(p:[gi]):gc e [i,j] (pD p)=aa ((e.set i [ay,[H]]).set j [ay,[X]]):=(rfl)
def alH(p:[gi])(S:aj):[g',pD p]:=(rfl)
def apa(p:[gi])(S:aj):eC (pD p) [iW] S=[bQ,[H]]:=(rfl)
def apJ(p:[gi])(S:aj):eC (pD p) [l,1] S=[bQ,[X]]:=(rfl)
def xM{U J:[aI]}(f:U->D)(g:J->D)(l:[h])(G:[h]):[fc,[gZ].zip [f5,g],[Ey]]=[fc,l.zip G,D.tup [f [H],g [X]]]:=[aU,L0,cq]
def AY(n:Nat)(ws:[h]):[Q,iq n ws]=[gD]:=[b0,iq]
def mn{U:[aI]}(f:U->Nat)(l:[h])(G:Nat)(h:[gw,f x<=G]):aH [gZ]<=[E]*G:=[cd,ZT [gZ] G [f]]
def Ac(J:[aO])(L:x∈[iv]):x.parts.length<=8:=by obtain⟨_,m,u⟩:=J.iW x L;have:=kr [bP] _ m [f];rw[aR]at this;rw[aM,J.ni]
def abo(J:[aO])(L:x∈[iv])(n:Nat)(O:n<=3)(k:Nat)(S:aj):[dW,2,63,[dc,dk x,[dm]],rM b x n,pD]:=by rw[aV [an] S (F:=Fv) Y Y Y];rw[dm];have U:=Ac J L;rw[aa,seval,Fv];rw[dG pD [aF,nD ([X]*[yD])] x.parts (λp q=>by rw[fj];rw[az,seval,tT [H] z B,jB [yD] [X] _ [g],nD,nG])];rw[al,A,[kg,[aF,nD ([X]*[yD])]]=[c_,[tZ]],[bM,cq],A];(have j:∀ws,[gD]=x.parts.length->∀S,(eJ (turn [kk] [bi,[gj,[fT]],[hv]] [7,8] [] [[cn],[tp],[ay,n],[fG,[hw,nD]],[b_,[hq,iq (n*[ea]) ws]],[V],[V],[V],[V]]) [fO,[kg,pD].zip [c_,iq (n*[ea]) ws]] S)=[Z,[S,[kg,(·.1)].zip _,pD]]:=λws W S=>by rw[xM,dG _ _ _ (λp q=>by rfl),SJ,cq];rfl);rw[V,W,λp q=>by rw[fj];rw[aM,uh q4 this],H,mn _ x.parts 400000000 W];rw[V,C,mn [aF,[X]] x.parts 40 (λp q=>[eT,u p q]),v,uh h0 O];rw[ad,seval,oM,m4];rw[ab,rM];rw[D,h,aH [tZ]=0];{rw[K,e,[cB,aH [tZ],0],by simp[h],P,[kg,[aF,[cz,[X]]]]=[c_,[kg,[aF,[X]]]],[bM,cq]];rw[az,seval,P,jB [ea] n _ [g],zK ([ea]*n) [kg,[aF,[X]]] [g] [f] [g] k,h];rw[aU,nG [ea] n,j _ (by rw[aR])]};{(have e:[bE,[am,aH [tZ]],0]:=by simp[h]);rw[az,seval,e,jB [ea] n _ [g],zK ([ea]*n) [tZ] [g] [f] [g] k,h];rw[nG [ea] n,j _ (by rw[aR])];rw[ep]}
def ad7(whole x:Nat)(ws:[h]):x*aH (gi whole x ws)+aH [hw,kP whole x]=whole*[da]:=by induction ws with|nil=>rfl|cons w r q=>simp[gi,bT,aH,jE,Ic,kP]at*;rw[aM,Cu [tD] x]
def pos(rs:[aj]):Nat:=[Q,rs.filter λr=>ao (0<r)]
def VA(x:Nat)(rs:[h])(h:∀r∈rs,r<x):aH rs<=pos rs*x:=by induction rs with|nil=>simp[aH]|cons a r e=>rw[V,m,e [f],u,[gF,a]];simp only[aH,jE,pos,ub]at*;rw[D,q,0<a];{simp[q,iK,bI,b7,yT];omega};grind
def af2{U:[aI]}(d:U)(p:U->Bool)(l:[h]):[Q,[ok,br [E],j,p (l.getD j d)]]=[Q,l.filter p]:=by induction l with|nil=>rfl|cons a r q=>rw[b7,yU];rw[eW,e,(λj=>p ((a::r).getD j d))∘Cz=λj=>p (r.getD j d),by rfl]
def afe(rs:[h])(i:Nat)(h:[fK,i]=0):pos rs<=yS rs i:=by simp[pos];rw[<-af2 0];(have:∀l:[h],[aN,l.filter [sa,0<[fK,j]],[Q,l.filter λj=>[H7]]]:=by intro l;induction l with|nil=>simp|cons a r q=>grind);exact this _
def NK(whole:Nat)(ws:[h])(h0:¬[da]=0)(i:Nat)(q:i<[gD]):[io,[mH]]=[yK]+[A,yS [pL] i<[zi],1,0]:=by(have e:[io,[l8]]=[yK]:=by simp[gi,hY,dR,cQ q,g6,nJ]);simp[iq];rw[a']
def X_(whole:Nat)(ws:[h])(h:whole<=[da])(i:Nat):[io,[mH]]<=ws.getD i 0:=by rw[D,h0,[da]=0];{rw[Gv h0];simp[hY,dR];cases ws[i]?<;>simp};{rw[D,a,i<[gD]];{rw[al,j,0<[da],[g],NK _ _ h0 i _];have O:ws.getD i 0=ws[i]:=[a'];(try rw[O]);rw[ai,U,ad7 whole [da] ws,L,∀r∈[pL],r<aH _,λr L=>by rw[bP,w,L];exact aik _ j];rw[ai,I,VA _ _ L,z,[zi]*[da]<=pos [pL]*[da],[a_,Nat.sub_mul]];have W:=aih z j;rw[D,J,yS [pL] i<[zi]];{rw[bc,aJ J,q,0<kP whole [da] ws[i],by apply Nat.pos_of_ne_zero;intro B;rw[aM,afe [pL] i [f]]];rw[aH,kP,q];(have g:[yK]<ws[i]:=by rw[Nat.div_lt_iff_lt_mul j];rw[al,m,whole*ws[i]<=aH _*ws[i],mz _ h,nG ws[i]];apply Nat.lt_of_le_of_ne m;intro e;rw[e,Nat.mul_mod_right]at q;omega);omega};{rw[aw J];apply Ig;exact mz _ h}};{have u:[io,[mH]]=0:=[aU,hY,[zX,AY]];omega}}
def aeB(whole:Nat)(ws:[h])(i:Nat):[io,[mH]]<=whole+1:=by rw[D,h0,[da]=0];{rw[a_,Gv h0]};{rw[D,q,i<[gD]];{rw[NK _ _ h0 i q];have W:=wC (SK q);rw[bI,[yK]<=whole,by apply Ig;rw[Y,nG (aH _),rJ _ W]]};{have u:[io,[mH]]=0:=[aU,hY,[zX,AY]];omega}}
def afI(whole:Nat)(ws:[h])(h:x∈[mH]):x<=whole+1:=by rw[R,i,q,kO h];rw[cd,aeB whole ws i]
structure fh (b : a7) (l : List kR) : Prop where
 len : l.length ≤ 40
 it : ∀ x ∈ l, 1 ≤ x.1 ∧ x.1 ≤ b.items.length ∧ x.2 ≤ 400000000
def Ku{U J:[aI]}(d:U)(f:U×Nat->J)(l:[h]):l.zipIdx.map f=[gx,[E],i,f (l.getD i d,i)]:=by apply mw;rw[b0,dR]
def Yu(L:mM x)(n:Nat):rK x n<=10000000:=by rw[bX,rK];{rename_i s h;exact [bo,L.gf s [f]]};{exact L.price}
def aaD(L:mM x)(n:Nat):qr x n<=10000000:=by rw[bX,qr];{rename_i s h;exact [bo,L.step s [f]]};{exact L.price}
def Vp(L:mM x)(n:Nat)(q:n<=40):kJ x n<=400000000:=by have h:=Hd x n;rw[bX,kJ];{rw[aM,uh [ge,[kC]<=40] (Yu L [kC])]};{rw[cd,mn (λi=>qr x [Y]) (br [kC]) _ (λi _=>aaD L _)]}
def abP(b:a7)(x:io)(n:Nat):[Q,rM b x n]=x.parts.length:=by simp[rM,mB,AY];grind
def YG(J:[aO])(L:x∈[iv])(n:Nat)(q:n<=3):∀l∈rM b x n,[lu,l.1,[bP],l.2<=400000000]:=by intro l U;rw[dm];have:=j9 U;rw[M,p,z,e,b0.mp [m']];have h:=afI _ _ this.2;rw[cd,uh q h0]
def vP(J:[aO]){c C:[h]}(O:[hZ])(B:[k'])(hu:[lf]):fh b [gd]:=by rw[V,z,J.ni,f,J.nb];rw[bb];{rw[ab,dJ];rw[K,m,[aN,(kT b).filterMap λi=>[v3,e7 c i-my b C i,(i,kJ [hp] (e7 c i-my b C i))],8],by refine c9 (SL ..) ?_;simp[kT,z],u,[uj,[jN,io],[R]∈[iv],[J2],[E]*8],by intro l;induction l with|nil=>simp|cons x r U=>intro h;rw[V,G,U λy e=>h y (lD _ e),I,Ac J [gF,x]];rw[ad,ir,cO,b7];split;rw[ay];{rw[cx,abP]}];rw[jK,a,u [g_] λx L=>[M,j9 L]]};{intro x L;rw[aP,dJ,cs,L];rw[aK,L,L,L];{simp only[ui,kT,b0,i9]at L;obtain⟨i,⟨j,W,rfl⟩,q⟩:=L;rw[aC,q];{simp at q};{rw[aH,cX,q];subst q;rw[bp,d,e7 c [cT]<=40,B _ [ql],#[[g],[f],Vp [M,J.item _ [E3]] _ [g]]]}};{rw[ap,j_,L];rw[M,y,e,q,L];rw[aC,q];rw[ay];{have:=j9 e;exact YG J [m'] _ (hu _ this.2) x q}}}
def Bu(J:[aO]){c C:[aj]}(Q:Sq v [jr])(O:[hZ])(X:[k'])(hu:[lf])(k:Nat)(S:aj):[dW,4,64,[dc,[hG],v],[gd],pD]:=by rw[aV [f2] S (F:=EL) Y Y Y];rw[V,n,Os b c C,E,(vP J O X hu).len];rw[bY,EL,On J Q O hu [ds],Ku [cz,0],aR,n];rw[al,e1,[jx,[dN],D.tup [[l,[Y]],[S,[tt],iD].getD i [iW]]]=[jx,[dN],D.tup [nG,(i)+1,[qv]]],by rw[ba,iL,i,U];rw[i9,<-n]at U;simp[hY,U,iD],e1];let g:=λi=>[A,[rW]=0,[],[Md]];rw[K,gl,∀i,[aN,[mk,i],i],λi=>by induction i with|zero=>simp|succ i w=>rw[uc,rN,cO];rw[ad,ir,yV,iu];(have:[aN,g i,1]:=by rw[ab,g];split<;>simp);omega,A,∀i,[mk,[Y]]=[mk,i]++g i,λi=>by rw[uc,rN];simp];have hn:=J.ni;rw[aO,e',m,u,[j2,[gs],3,[HJ],λ(i:Nat)=>D.tup [nG,[am,i]+1,[qv]],br [dN],[tu,B,F,[nW,[iV,[mk,i]],B,F,[V],[V]]],[nW,[bF],[V],[V],[V],[V]],[v1],λi j e hj#[B,F,G]=>by subst G;rw[R,U,rfl,dC.mp hj];rw[gY]at U;rw[ud];have P:=EW J c C i U;rw[a1,a,c.getD i 0=e7 c [Y],rfl,d,e7 c [Y]<=40,X _ [ql],#[_,[nW,[iV,[mk,[Y]]],[ay,[Y]],[ay,[qv]],[V],[V]],Y,?_,_,_,Y]];rw[D,z,[rW]=0];{rw[K,l,¬0<[qv],by rw[P,a];omega,N,g i=[],[ad,g,z,bI]];rw[az,seval,l,A,N,iu]};{rw[K,h,0<[qv],by rw[P,a];omega,N,g i=[Md],[ad,g,z,b8]];rw[K,e2,[qv]=[bb,[rW]],by rw[P,a];omega,o,[Y]=[cO,[Y]],[g]];rw[ai,W,[M,J.item _ (jV (b:=b) [Y] [g] [g])],y,[iN,[S,[mk,i],pD]],by rw[aR];have:=gl i;rw[ej]];rw[e2,o];have q:0<[cO,[rW]]:=[g];simp only[seval,q,tT (b:=b) [Y] [g] [g],A8 W [rW] k [g],y,A,N,de,pD]}],B,F,rfl,u];rw[m];rw[gY];rw[ad,seval,Q.zip,xM];let f:io×Nat->[h7]:=[J2];rw[aI,I,[gd]=[mk,[dN]]++[g_].flatMap f,by rw[ab,dJ];rw[bA];rw[kT,ail,<-O];generalize br [dN]=r;induction r with|nil=>rfl|cons i r w=>rw[rO,ir,<-w];rw[aa,jG,g];split<;>rename_i G<;>split at G<;>simp_all,I,E];rw[cO]at E;have R5:∀i,[aN,([g_].take i).flatMap f,[Q,[g_].flatMap f]]:=λi=>[cd,List.take_append_drop i [g_]];rw[aO,e',h3,h4,kA (S:=S) (t:=[6,7]) (b:=[fh,3,[JH]]) [aF,D.tup [dk [H],nD [X]]] [g_] [tu,Z,H,[nW,[iV,[BX,i]],B,F,Z,H]] [nW,[iV,[mk,[dN]]],B,F,[V],[V]] #[[V],[V],by simp] (λi x e L#[Z,H,G]=>by subst G;rw[ai,t,j9 (cG L),T,[g_].take [Y]=[g_].take i++[x],[aU,jH,L]];have f1:=R5 [Y];rw[T,rN,cO]at f1;simp only[ir,yV,iu]at f1;refine#[_,[nW,[iV,[BX,[Y]]],B,F,[bk,dk [R]],[ay,[bD]]],Y,?_,_,_,Y];rw[T,rN];rw[ad,ir,yV,iu];rw[D,z,[bD]=0];{have s:f x=[]:=[ad,f,z,bI];rw[az,seval,s,z,iu,nD]};{rw[K,s,f x=rM b [R] [bD],[ad,f,z,b8],h,0<[am,[bD]],[g]];rw[s]at f1;(have y:[kd,[S,[BX,i],pD],[S,rM b [R] [bD],pD]]:=by rw[aR,aR,cO];rw[ej]);rw[bY,s,nD,h,abo J [fE] [bD] (hu _ t.2) [an],y];rw[aa,de,en]}),Z,H,rfl,h4];rw[h3];rw[ad,seval,nK,I]
def BQ(l:[h7])(k:Nat)(S:aj):[iD,1,65,[[iS]],nM l]:=by rw[[eN]];simp[seval,My];rw[al,e,[pk,[am,[X]]].sum=nM l,by rw[nM,<-m4,cq];rfl,e]
def yn(h:[fb]):nM l<=16000000000:=by rw[V,m,mn (λx=>[bD]) l _ (λx L=>[aE,h.it x L]),u,mz 400000000 h.len];rw[eH,nM]
def jv(c:j7)(l:[h7]):[aj]:=[iB,[yt]]
def W3(c:j7)(l:[h]):[sK]=nM (l.filter (uj c)):=by induction l with|nil=>rfl|cons x r q=>simp[jv,nM,aH]at*;grind
def ag1(h:[fb])(c:j7):[sK]<=16000000000:=by rw[V,m,mn (λx=>[yt]) l 400000000 (λx L=>[cd,[aE,h.it x L]]),u,mz 400000000 h.len];rw[eH,jv]
def vz(b:a7)(c:j7)(base:Nat):Nat:=el [gn,c.cap,x,el [I8] x,[I8]] base
def UF(J:[aO])(L:[fU])(O:c∈[jv])(base:Nat)(W:base<=16000000000)(k:Nat)(S:aj):[iD,3,66,[dc,eh c,[l,base]],vz b c base]:=by rw[[cg]];rw[ag,m,u,z,j,J.jO c O];rw[a4,f,uh W m,Z,[pe,[ia _,[bK],[l,10000]]],wY _ J.ro (base*c.value) 10000 [g] [g] [g] k,U,li _=nH b,rfl];simp[seval,Ov,vz];cases a:c.share with|true=>(rw[az,seval,CA,QY L,[oy,base],Z];cases e:c.cap with|none=>rw[b0,seval]|some x=>rw[bl,C,d,z x e,q,[am,0]<x,[g]];rw[cU,q])|false=>(have h:[bE,[pJ],[j0]]:=by rfl);rw[aa,seval,h];cases e:c.cap with|none=>rw[ep];congr 2;omega|some x=>rw[bl,C,d,z x e,q,[am,0]<(x),[g]];rw[aa,seval,q];congr 2;omega
def agL(b:a7)(c:j7)(l:[h]):takes b c l=vz b c [sK]:=[bM,W3]
def abJ(b:a7)(c:j7)(n:Nat):vz b c n<=n:=Nat.min_le_right _ _
def agS(b:a7)(l:[h])(c:j7):[Q,rP b l c]=[E]:=by simp[rP,AY]
def Q4(h:[fb])(c:j7):fh b (rP b l c):=by rw[a7,[q,agS,h.len],[gG]];rw[aP,rP,b0,L];rw[M,p,q,rfl,L];rw[aM,h.it _ [M,j9 q]]
def Qc(J:[aO])(h:[fU])(O:c∈[jv])(U:[fb])(k:Nat)(S:aj):[dW,4,67,[dc,[iS],eh c],rP b l c,pD]:=by rw[[cg]];have W:=ag1 U c;simp[seval,NG];rw[bc,dG _ (λx=>nD [yt]) l (λx L=>by rw[ep];(have:(0==[am,c.item]||[R]==[am,c.item])=uj c x:=by rw[gZ];simp[uj,kN,ip];omega);rw[this];cases uj c x<;>simp[nD]<;>rfl),A,[iB,nD [yt]]=[c_,jv c l],[aU,jv,cq]];rw[V,j,abJ b c [sK],d,U.len];rw[al,C,[Q,jv c l]=[E],by simp[jv],A];simp[seval,oM,m4,UF J h O _ W k,zK (vz b c [sK]) (jv c l) [g] [g] [g] _,xM];rw[dG _ _ _ (λp z=>by rw[R,i,e,kO z];rw[CB]at e;have m:=X_ _ _ j i;rw[ak,u,[io,jv c l]<=[H].2,[b0,jv],B,[io,iq (vz b c [sK]) (jv c l)]=[X],[f],q,[am,[H].2]-[X]=[bb,[H].2-[X]],[g]];simp[seval,nD,q];rfl)];simp[rP,agL,cq];rfl
def mT(b:a7)(l:[h7])(a:[aj]):[h7]:=[f4,ug b].foldl (rP b) l
def vj:∀{l}(a:[h]),([fb])->fh b (mT b l a)|l,[],h=>h|l,[cH],h=>vj r (Q4 h _)
def P7(J:[aO])(i:[fU]){c C a:[h]}(h:Sq v [jr])(W:Sq w [f4,nD])(O:[hZ])(B:[k'])(hu:[lf])(N:[r_])(k:Nat)(S:aj):[dW,5,68,[[b5],[hG],v,w],[zV],pD]:=by rw[[cg]];rw[bg,KL,Bu J h O B hu k,W.it];rw[aO,d,m,u,w6 (t:=[5]) (b:=[fh,4,[Kq]]) (λl e=>[fb]/\∃j,e=[[cn],[ja],[b_,v],[b_,w],[mp],j]) nD (λl n=>rP b l (ug b n)) _ _ _ #[vP J O B hu,_,Y] (λl n e#[U,j,z]q=>by rw[a2];rw[bF,L,G,N n q,#[_,[[b'],[b'],[b_,v],[b_,w],[b'],[ay,n]],Y,?_,Q4 U _,_,Y]];rw[bg,nD,wG n L G,Qc J i (wK n L G) U k]),H,j,rfl,u];rw[m];simp[seval,mC,SM]
def Z4(l G:[h]):ll [no] [f5,nD]=(l==G):=by induction l generalizing G with|nil=>rw[bx,G]|cons a r q=>cases G with|nil=>rfl|cons c s=>simp[bT,ll,nD,D.beq];grind
def xH(F:[dj])(L:Nat->[kx]):[P]:=∀n:Nat,bK F [dm]=[c_,L n]
def oh(p:D×D)(r:[h])(k:D):bK [e1] k=[ao,[H].beq k,aa [X],bK r k]:=[b0,bK]
def Fj(l G:[h])(k:D):bK (l++G) k=(bK l k).or (bK G k):=by induction l with|nil=>rfl|cons p r q=>rw[Ih,oh,oh];grind
def JW(l:[h])(k v a:D)(h:∀x:D,x.beq k=ae->x.beq a=af):bK [aS,[rU,k,v]] a=bK l a:=by induction l with|nil=>rfl|cons p r q=>rw[bT,oh,oh];grind
def Mc(l:[h])(k v a:D)(h:∀x:D,x.beq a=x.beq k)(m:(l.any [qn,k])=ae):bK [aS,[rU,k,v]] a=[cV]:=by induction l with|nil=>grind|cons p r q=>rw[bT,oh];grind
def O7(l:[h])(k:D)(h:¬(l.any [qn,k])=ae):bK l k=ag:=[b0,bK]
def QO(h:xH F l)(k v:Nat):xH (cB F [l,k] [l,v]) λn=>[fd,n,k,v,l n]:=by intro n;simp[cB];(have J:∀(x:D)(a c:Nat),x.beq [kK]=ae->x.beq [l,c]=ao (a=c):=by intro x a c L;cases x<;>simp[D.beq,dj]at L;rw[b0,D.beq]);rw[aJ,n=k];{subst q;rw[bt];split;{rw[aB,O];rw[a8,Mc _ _ _ _ (by simp) O]};{rw[aB,O];rw[Fj,O7 _ _ O,oh];simp[D.beq,nD]}};{split;{rw[Y,JW _ _ _ _ [f],h n]};{rw[Fj,h n];have:[cz,k].beq [dm]=af:=[eH,D.beq];simp[this,bK]}}
def m2(F:[h])(k v:D):[aN,cB F k v,F.length+1]:=[b0,cB]
def tE(x:Int):∀l,(l3 x l).Perm [gz]|[]=>by rfl|y::r=>by rw[bX,l3];{rfl};{exact [bG,(tE x r).cons y,[f]]}
def sF:∀l,(pT l).Perm l|[]=>SG _|[bn]=>[cw,tE x _,(sF r).cons x]
def x8(x:Int):∀l,[B6,(·<=·),l3 x l]|[],_=>by simp[l3]|y::r,h=>by rw[kM]at h;rw[bX,l3];{rw[ci,kM,#[[zN],kM.mpr h]];grind};{rw[ci,kM,#[[zN],x8 x r [cU]]];rw[fr]}
def wS:∀l,(pT l).Pairwise (·<=·)|[]=>Ib|[bn]=>x8 x _ (wS r)
def Wy(n:Nat):[gx,n,i,[Y]].Pairwise (·<·):=[q,Ii,List.pairwise_lt_range.imp (by simp)]
def E4(n:Nat)(l:[h]):[px].Pairwise (·<·):=(Wy n).sublist List.filter_sublist
def vS:x∈[px]↔[eS,x,n]/\x∈l:=by rw[az,cY,nN,b0,i9,rQ];rw[bb];rw[ay];{rintro⟨⟨m,u⟩,h⟩;rw[aS,#[x-1,[g],[g]],h]}
def NH(n:Nat)(l:[h]):[e_,[px]]:=(E4 n l).imp [f]
def ag6{l G:[aj]}(m:l.Nodup)(u:G.Nodup)(h:∀x,x∈l↔x∈G):l.Perm G:=[f]
def BU(q:l.Nodup)(h:[ez,l,[eS,t,n]]):mi l=[px]:=by rw[ai,m,ag6 (NH n l) q λx=>[a_,vS],e,pT [aS,Sx]=[S,[px],Sx],by apply List.Perm.eq_of_pairwise [f] (wS _);{rw[Y,Ii,(E4 n l).imp [f]]};{exact [cw,sF _,[dH,m.map _]]}];rw[mi,e,cq];(conv=>rhs;rw[<-v5 [px]]);rfl
def uV:cY n [px]=[px]:=by rw[ab,cY];apply SN;grind
def Ff(x:o5)(L:oA x)(n d:Nat)(hd:0<d):i_ x n d<=n/d+10000:=by rw[K,m,Cw x.rule n (d*x.unit)<=n/(d*x.unit)+1,[a_,xL _ _ _ L.rule],u,x.unit*(n/(d*x.unit))<=n/d,[bB,Nat.div_div_eq_div_mul,aig _ _]];rw[V,q,rJ x.unit m,h,L.unit];rw[Ic]at q;rw[eH,i_]
structure Ts (b : a7) (ts : List Nat) : Prop where
 nd : ts.Nodup
 lt : ts.Pairwise (· < ·)
 mem : ∀ t ∈ ts, 1 ≤ t ∧ t ≤ b.taxes.length
def Ts.of(b:a7)(l:[h]):Ts b (cY [cC] l):=#[NH ..,E4 ..,λt q=>[M,vS.mp q]]
def Ts.len(J:[aO])(h:[gR]):ts.length<=4:=c9 [nA,h.nd,h.mem] J.nt
def cR(b:a7)(t:Nat):Bool:=[mw]
def fE(b:a7)(ts:[aj]):[aj]:=ts.filter (cR b)
def ZP(J:[aO])(h:[gR]):kU b ts<=40000:=by simp[kU];rw[V,m,mn _ (ts.filter λt=>[mw]) _ (λt q=>by have:=h.mem t [f];exact [vK,[m'],this.2]),u,h.len J];grind
def gl(B:[ke])(n:Nat):Nat:=aH [cl,B.filter λg=>[g5]==n,g,g.2]
def mV(b:a7)(ts:[aj])(a:Nat)(B:[ke])(t:Nat):[ke]:=B++[(t,[ao,[mw],[mE],[uG,([q6]+gl B [oD])*[jm]]])]
def MQ(b:a7)(ts:[h])(a:Nat):∀(l:[h])(B:[h]),taxesFrom b ts a l B=[g2,mV b ts a,B]|[],B=>rfl|t::r,B=>by exact MQ b _ a r _
def tf(b:a7)(ts:[aj])(a i:Nat):[ke]:=[oM].foldl (mV b ts a) []
def qP(h:[aY,ts,t]):tf b ts a [Y]=mV b ts a [jh] t:=by rw[au,tf,jH,h,yR];rfl
def ou(b:a7)(ts:[h])(a:Nat):∀i,[lO,[jh]]=[oM]|0=>by rfl|[Y]=>by cases h:ts[i]? with|none=>rw[dJ,h];rw[e,ou b _ a i,gH U,gH (v7 U)]|some t=>rw[qP h,mV,de,ou b _ a i,jH,h];rfl
def ra(h:[gR])(x:[mA])(a:Nat):[n5]=tf b ts a ts.length:=by simp[gI,MQ,x,tf,nK]
def sw(h:n∉[vW]):gl B n=0:=by have:(B.filter λg=>[g5]==n)=[]:=[a_,Cv];simp[gl,this,aH]
def su(l G:[h]):aH (l++G)=aH l+aH G:=by induction l with|nil=>simp[aH]|cons a r q=>simp[aH,Ih,jE]at*;omega
def qO(B:[h])(t v n:Nat):gl (B++[(t,v)]) n=gl B n+[A,t=n,v,0]:=by simp[gl,yW,de,su];rw[D,h,t=n];{simp[h,aH]};{simp[h,aH]}
def aay(J:[aO])(h:[gR])(a t:Nat)(j:t∈ts):[mE]<=[v4]:=by rw[V,m,Ff _ J.ro (a*[jm]) [mh] [g],q,h.mem t j];rw[ai,u,[vK,[db],q.2],e,a*[jm]/[mh]<=a,by apply Ig;rw[Y,nG,mz _ [g]]];rw[eH,ja]
def xK{ts:[aj]}(h:ts.Nodup)(q:[aY,ts,t]):t∉[oM]:=by intro O;rw[R,j,m,kO O];rw[Ij]at m;rw[aC,m];{obtain⟨a,_⟩:=dC.mp m;rw[aM,(v8 a h).mp (m.trans q.symm)]};grind
def DX(J:[aO])(h:[gR])(a:Nat):∀i n,gl [jh] n<=i*[v4]|0,n=>by simp[tf,gl,aH]|[Y],n=>by have z:=DX J h a i;cases q:ts[i]? with|none=>rw[dJ,q];rw[a3,e,yT,c9 (z n) (by simp)]|some t=>rw[V,j,cG q,O,h.mem t j];rw[qP q,mV,qO,yT];rw[bj,i*[v4],B];rw[D,e,t=n];{have Z:gl (tf b _ a i) n=0:=sw (by rw[ou,<-e];exact xK h.nd q);rw[Z,aJ e,kL];split;{exact c9 (aay J h a t j) (by simp)};{rw[V,m,Ff _ J.ro [vv] 10000 [g],u,[vK,O.1,O.2]];rw[K,W,[vv]/10000<=[tL,a],by apply Ig;rw[Y,nG,mz _ u],L,[q6]<=a,aim _ _];grind}};grind
def lk(b:a7)(ts:[aj])(a i n:Nat):[kx]:=[A,n∈ts/\cR b n=ae,aa (ja b ts a n),[A,n∈[oM],aa (gl [jh] n),ag]]
def aoc(l:[h])(i:Int)(S:aj):[zA,[b3],[aP]]:=rfl
def aoF(b:Bool):(! ! b)=b:=Bool.not_not b
def adl(h:[gR])(q:t∈[hn]):t∈ts/\[jL]=ae:=nN.mp q
def Zz{l:[aj]}(h:[aY,l,t]):aH [S,l.take [Y],f]=aH [S,[wo],f]+f t:=by rw[jH,h,de,su];rfl
def D7(J:[aO])(hs:[fU])(h:[gR])(a:Nat)(ha:a<=20000000000)(k:Nat)(S:aj):∃F,[cM,3,69,[dc,[kK],[bs,ts.map nD]],[bi,[l,[q6]],[cc,F]]]/\xH F (lk b ts a ts.length):=by rw[aV [ds] S (F:=Gp) Y Y Y];rw[ai,gF,h.len J,U,li [mO]=nH b,rfl];rw[ad,seval,Gp,QY hs];rw[tV nD (cR b) nD ts (λt Z=>by rw[R,X,t2,h.mem t Z];rw[au,seval,nD,oR t X t2,cR];by_cases W:[mw]=ae<;>simp only[seval,W])];rw[ak,hh,[ez,[hn],t∈ts/\[jL]=ae],λt Z=>adl h Z,N,[aN,[hn],4],c9 (SO _ _) gF,z,ts.filter (cR b)=[hn],rfl];rw[z];rw[ep];rw[dG nD (λt=>nD [jm]) [hn] (λt Z=>by rw[R,X,t2,h.mem t [M,hh t Z]];rw[ad,seval,nD,oR t X t2])];rw[K,A,[S,[hn],λt=>nD [jm]]=[c_,[cl,[hn],t,[jm]]],[bM,cq],er,aH [cl,[hn],t,[jm]]=kU b ts,rfl];rw[ai,C,ZP J h,w,[mh]=[cO,[mh]],[g]];rw[A];rw[az,seval,oM,m4,er,w];have P:[e_,[hn]]:=h.nd.filter _;rw[M,e',m,u,[j2,[8],2,[Gg],nD,[hn],λi e=>∃F s8,e=[ww,[mh],Nat,a-[xp,i],F,s8,[V]]/\F.length<=i/\xH F λn=>[A,n∈[hn].take i,aa (ja b ts a n),ag],[ww,[mh],Nat,a,[],[V],[V]],#[[],[V],by simp[aH],by simp,λn=>by simp[bK]],λi t e Z#[F,s8,he,hF,hD]=>by subst he;have f:=hh t (cG Z);rw[R,X,t2,h.mem t f.1];rw[V,hr,[vK,X,t2],hm,uh ha hr];rw[V,hi,[dA,Z],c,QO hD t [mE]];have hg:=c t;simp only[bI,g6,nD]at hg;refine#[_,[ww,[bb,[mh]],Int,a-[xp,[Y]],cB F [lV] [l,[mE]],[ay,t],[V]],Y,?_,_,_,Y,?_,?_];{rw[ak,g,∀S,[iD,2,59,[d5,ia [mO],[bb,a*[jm]],[bb,[mh]]],[mE]],wY [mO] J.ro _ _ [g] [g] [g] k,nq,F.length<lim,[ej],H,a-[xp,i]-[mE]=a-[cO,[xp,i]+[mE]],[g]];simp only[seval,nD,oR t X t2,jB a [jm] _ [g],g,nq,hg,Zz Z,H]};{rw[aM,m2 F [lV] [l,[mE]]]};{intro n;rw[c n,jH,Z];rw[D,hn,n=t];{subst hn;simp};{simp[hn]}}]];rw[ac,F,s8,rfl,hF,hD,u];rw[m];simp only[nK]at hD|-;(have l:fk (a-[am,aH [S,[hn],ja b ts a]]) 0=[q6]:=by show _=[cO,a-aH [S,[hn],ja b ts a]];omega);rw[aa,seval,l];rw[M,e',h3,h4,[j2,[8],2,[FR],nD,ts,λi e=>∃F s8 s9,e=[x',F,s8,s9]/\F.length<=4+i/\xH F (lk b ts a i),[x',F,s8,[V]],#[F,s8,[V],Y,[g],λn=>by rw[hD n];simp only[lk,ain,dS,b8,fE,nN]],λi t e Z#[F,s8,s9,he,hF,hD]=>by subst he;have f:=cG Z;rw[R,X,t2,h.mem t f];rw[V,hr,[vK,X,t2],hi,[dA,Z]];have I:=xK h.nd Z;rw[D,W,[mw]=ae];{refine#[_,[x',F,[ay,t],[bk,eg [rK]]],Y,?_,F,_,_,Y,[g],?_];{rw[au,seval,nD,oR t X t2,W]};{intro n;rw[hD n];rw[aY,lk,qP Z,mV,qO,jH,Z,cs];rw[D,hn,t=n];{subst hn;simp[f,cR,W]};{have L:¬n=t:=λh=>hn h.symm;simp[hn,L]}}};{rw[ai,y,[aD,W],ho,∃j,[cb,[ht],[rK]]/\[cT]=t,#[t-1,by rw[cj,hY,cQ [g]];rfl,[g]]];rw[M,j,hj,o,ho];rw[R,o1,o2,J.over j _ hj];rw[aA,s,(bK F [l,[oD]]).getD [iW]=[l,gl [jh] [oD]],by rw[hD];rw[ab,lk];have hk:=ou b ts a i;rw[D,hz,[oD]=0];{rw[K,B,¬0∈ts,λO=>[aM,h.mem 0 O],d,¬0∈[oM],λO=>B (Ie O)];rw[hz,sw [q,hk,d]];simp[B,d]};{(have q:¬cR b [oD]=ae:=by rw[aa,cR,o2 hz];simp);rw[ad,q,and_false,b8];rw[D,hm,[oD]∈[oM]];{simp[hm,nD]};{rw[sw [q,hk,hm]];simp[hm]}},p,DX J h a i [oD]];rw[K,r,[q6]<=a,aim _ _,x,[tL,a]<=120000000000,by have m:i*[v4]<=4*(20000000000+10000):=uh [g] [g];rw[V,u,c9 p m,h3,c9 r ha];omega];rw[ai,hm,uh x hr,hv,∃v,v=[uG,[vv]],[gS]];rw[R,v,hv,hv];rw[aA,g,∀S,[iD,2,59,[d5,ia [mO],[bb,[vv]],10000],v],[q,hv,wY [mO] J.ro _ 10000 [g] [g] [g] k],c,QO hD t v];refine#[_,[x',cB F [lV] [l,v],[ay,t],[bk,eg [rK]]],Y,?_,_,_,_,Y,?_,?_];{have nq:F.length<lim:=[ej];simp only[seval,nD,oR t X t2,y,s,<-H_,jB [tL,a] [jm] _ [g],g,nq]};{rw[aM,m2 F [lV] [l,v]]};{intro n;rw[c n];simp only[lk,qP Z,mV,qO,jH,Z,cs,y,<-hv];rw[D,hn,t=n];{subst hn;have E:gl [jh] t=0:=sw [q,ou,I];simp[cR,y,E]};{have L:¬n=t:=λh=>hn h.symm;simp[hn,L]}}}]];obtain⟨F',Q,T,rfl,_,G⟩:=h4;rw[Y,h3,#[F',[ep],G]]
def gD(g:[aj]×Nat):D:=[bi,[jd,[g5]],[l,g.2]]
def gP(g:[aj]×Nat):D×D:=([jd,[g5]],[l,g.2])
def UE(J:[aO])(m:1<=i)(u:i<=[bP]):mi [hp].taxes=fT b i:=by obtain⟨_,e,q⟩:=J.item _ (jV i m u);exact BU e q
def Fl(l:[h]):(D.tup [no]).jo=ae:=by rw[ad,D.jo,ck,b0];rintro _⟨n,_,rfl⟩;rfl
def tO(l G:[h]):(D.tup [no]).beq [bs,[f5,nD]]=(l==G):=by exact Z4 l G
def ad'(g:[h])(s:[h]):bK [vZ] [bs,s.map nD]=[fc,g.find? [aF,[H]==s],[l,[X]]]:=by induction g with|nil=>rfl|cons p r q=>rw[bT,oh];rw[fN,gP,tO]
def pS(g:[jN,[aj]])(s:[aj]):Nat:=[mR,[hU,g.find? [aF,[H]==s]]]
def aby(x:[tq])(g:[h])(m:[e_,[qH]]):cB [vZ] [jd,[R]] [l,[bb,pS g [R]+[bD]]]=[S,fJ x g,gP]:=by
 have c:([vZ].any [qn,[jd,[R]]])=g.any [aF,[H]==[R]]:=by rw[rR];rw[cb,p];simp[jG,gP,tO]
 rw[aa,cB,c];have a:∀(g:[h])(v:Nat),[S,[vZ],[rU,[jd,[R]],[l,v]]]=[S,g.map [aF,[A,[H]==[R],([H],v),p]],gP]:=λg v=>by rw[cq,cq];apply iL;intro p _;rw[ad,jG,gP,tO];rw[D,h,[cB,[H],[R]]];{simp[h]};grind
 induction g with|nil=>simp[fJ,pS,gP]|cons p r U=>rw[ai,f,[bo,mv.mp m],d,[H]∉r.map _,[M,mv.mp m]];rw[D,h,[H]=[R]];{rw[ak,e,[cB,[H],[R]],by simp[h],Z,∀q∈r,¬[db]=[R],λq z O=>d (h▸O▸b0.mpr #[q,z,Y]),u,(r.map λq=>[A,[db]==[R],([db],pS [e1] [R]+[bD]),q])=r,by(conv=>rhs;rw[<-v5 r]);rw[ba,iL,q,z];simp[Z q z]];rw[a];rw[ad,bT,u,fJ];simp[pS,h]};{rw[ak,e,[bE,[H],[R]],by simp[h],L,pS [e1] [R]=pS r [R],by simp[pS,e],i,((r.map gP).any λq=>[db].beq [jd,[R]])=r.any λq=>[db]==[R],by rw[rR];rw[cb,p];rw[ad,jG,gP,tO]];rw[ad,fJ,h,L];rw[eW,J,[M,gP p].beq [jd,[R]]=af,by simp[gP,tO,e]]}
def G7(x:[tq]):∀(g:[h]),[lO,fJ x g]=[A,[R]∈[qH],[qH],[qH]++[[R]]]|[]=>by rfl|y::r=>by simp[fJ];rw[br,h,[b4]=[R]];{have u:¬[R]=[b4]:=λe=>h e.symm;simp[h,b8,bT,G7 x r];grind}
def aei(x:[tq])(g:[h])(q:[e_,[qH]]):[e_,[lO,fJ x g]]:=by rw[G7];split;rw[ay];{rw[a_,g8]}
def KJ(x:[tq]):∀(g:[h]),[aN,fJ x g,g.length+1]|[]=>by simp[fJ]|y::r=>by simp[fJ];rw[cd,KJ x r]
def RB(x:[tq]):∀(g:[h]),aH [hU,fJ x g]=aH (g.map (·.2))+[bD]|[]=>by simp[fJ,aH]|y::r=>by simp[fJ];have:=RB x r;split;{simp[bT,aH,jE];omega};{rw[dk]}
structure Gs (b : a7) (g : List (List Nat × Nat)) : Prop where
 len : g.length ≤ 40
 ts : ∀ p ∈ g, Ts b p.1 ∧ cY b.taxes.length p.1 = p.1
 le : aH (g.map (·.2)) ≤ 16000000000
def DV(b:a7):[h0,l,g,[h],[e_,[qH]],([g1,g,[Cn]])->([e_,[lO,[g2,[p8],g]]]/\[aN,[g2,[p8],g],g.length+[E]]/\[g1,[g2,[p8],g],[Cn]]/\aH [hU,[g2,[p8],g]]=aH (g.map (·.2))+nM l)]|[],g,m,u=>#[m,by simp,u,by rfl]|[bn],g,m,u=>by rw[ab,nE];rw[ai,z,aei [i9] g m,h,[g1,fJ [i9] g,[Cn]],λp L=>by rw[aI,O,[H]∈[fO,fJ _ g],b0.mpr #[p,L,Y],G7,O];have H:[H]∈[qH]\/[H]=fT b [R]:=[f];rw[aK,H,H,H];{rw[M,q,W,e,b0.mp H];rw[bB,e,u q W]};{rw[Y,H,#[Ts.of b _,uV]]}];rw[ag,G,I,B,a,DV b r _ z h];have:=KJ [i9] g;refine#[G,[eH,b7],B,?_];rw[a,RB];simp[nM,bT,aH,jE];omega
def w_(U:[fb]):Gs b [h1]:=by rw[V,h,yn U,z,U.len];rw[bX,g9];{rw[bq,[f],λp e=>?_];{rw[bP,x,e];rw[aS,Ts.of b _,uV]};{rw[Y,cq,h]}};{obtain⟨_,u,q,m⟩:=DV b l [] (by simp) (by simp);rw[bq,[f],q];rw[m];rw[gp,aH,h]}
def U6(g:[h])(s:[h]):(bK [vZ] [bs,s.map nD]).getD [iW]=[l,pS g s]:=by rw[ad',pS];rw[bx,g.find? _]
def adO(J:[aO])(f:[fU])(U:[fb])(k:Nat)(S:aj):[dW,2,70,[dZ,[iS]],[h1],gD]:=by rw[b',aV [an] S (F:=Hk) Y Y Y,Hk];rw[b',dG pD (λx=>gD [i9]) l (λx L=>by rw[M,C,Z,x3,U.it x L];rw[gt,seval,tT [R] C Z,UE J C Z]),UN f];rw[D,h,b.byLine=aa ae];{rw[au,seval,h,g9,cq];rfl};{rw[al,A,[iB,gD [i9]]=[S,[iB,[i9]],gD],by simp,A];rw[ad,seval,h,g9];rw[ai,d,U.len,key,∀i,i<=[E]->[e_,[lO,[wQ]]]/\[aN,[wQ],40],λi a=>by rw[a9,m,u,DV b [wo] [] (by simp) (by simp)];grind];rw[aO,G,m,u,[j2,[gs],1,[Ik],gD,[iB,[i9]],[tu,I,j,[[cn],[mp],[b'],[bl,.bY [S,[wQ],gP]],I,j,[V]]],[[cn],[mp],[lq,[iB,[i9]],gD],[bl,.bY []],[V],[V],[V]],#[[V],[V],Y],λi p e q#[I,j,z]=>by rw[a2];rw[dR,lE]at q;rw[M,x,L,rfl,q];have a:=[dA,L];rw[R,B,N,key i [g]];rw[ae,O,(l.take [Y]).foldl [p8] []=fJ [i9] [wQ],by rw[jH,L,yR];rfl,#[_,[[cn],[mp],[lq,[iB,[i9]],gD],[pc],[bk,[jd,fT b [R]]],[ay,[bD]],[V]],Y,?_,_,_,by rw[O]]];have W:[iN,[S,[wo].foldl [p8] ([]),gP]]:=[qt];rw[<-aby [i9] _ B];have H:=Fl (fT b [R]);rw[az,seval,H,W,U6,H_]],I,j,rfl,u];rw[m];rw[ad,seval,aR,nK];rw[a8,cq]}
def GU(h:[gR])(a t:Nat)(W:[jL]=ae):∀i,t∈[oM]->gl [jh] t=[mE]|0,q=>[f]|[Y],q=>by cases j:ts[i]? with|none=>rw[dJ,j];rw[Y,e,GU h a t W i ([a_,gH U])]|some s=>rw[qP j,mV,qO];rw[jH,cs]at q;rw[D,e,s=t];{subst e;have m:=xK h.nd j;rw[[DU],aJ Y,kL,aJ ([gp,cR,W])]};{rw[aw e];rw[a0,q,q,q,GU h a t W i q];grind}
def DI(h:[gR])(x:[mA])(a t:Nat)(q:t∈ts):lk b ts a ts.length t=aa [qX]:=by rw[ra h x];rw[ad,lk,q,true_and];rw[D,W,[jL]=ae];{rw[aJ W,GU h a t W _ [f]]};grind
def abr(h:[gR])(x:[mA])(a n:Nat)(q:n∉ts):gl [n5] n=0:=[q,ra h x,[DU]]
def abf{U:[aI]}(n i:Nat)(f:Nat->U)(x:U):[S,br n,f].set i x=[gx,n,t,[A,t=i,x,f t]]:=by apply mw;grind
def zF(J:[aO])(h:[gR])(x:[mA])(a n:Nat):gl [n5] n<=4*[v4]:=[ci,ra h x,c9 (DX J h a _ n) (mz _ (h.len J))]
def iF(b:a7)(l:[jN,[aj]])(t:Nat):Nat:=aH [aS,λg=>[Cc]]
def Hm(b:a7)(l:[h]):qt b l=[S,br [cC],iF b [h1]]:=by apply iL;intro t _;generalize [h1]=B;induction B with|nil=>rfl|cons g r q=>rw[ir,su,q];rfl
def GQ(J:[aO])(r:[fU])(U:[fb])(k:Nat)(S:aj):[dW,4,71,[dZ,[iS]],qt b l,nD]:=by rw[aV [f2] S (F:=G4) Y Y Y];have p:=w_ U;rw[aa,seval,G4];rw[dG eg (λ_=>nD 0) [ht] (λx L=>by rfl)];rw[al,Q,[ms,λ_=>nD 0]=[c_,[S,br [cC],[hY]]],by apply mw;grind,Q];rw[aa,seval,adO J r U [an]];rw[M,P,m,u,[j2,[3,4],3,[Gm],gD,[h1],λi e=>∃G C B Z,e=[zu,[Cp,i],G,C,B,Z],[zu,[S,br [cC],[hY]],[V],[V],[V],[V]],#[[V],[V],[V],[V],by rfl],λi g e h#[G,C,B,Z,d]=>by subst d;have a:=cG h;rw[bl,q,z,p.ts g a,N,g.2<=20000000000,by have:=wC ([DV]:g.2∈[hU,[h1]]);rw[aM,p.le]];rw[aO,F,X,A,D7 J r (nm:=nm) q g.2 N k S,P,m,u,[j2,[6],3,[Lx],nD,[g5],λj e=>∃Z,e=[AT,[wA,j]],[AT,[Cp,i]],[qT,Z],λj t e O#[Z,d]=>by subst d;rw[R,y,T,q.mem t (cG O)];rw[a4,I,xK q.nd O,f,bK F [lV]=aa [l,gl (gI b [g5] g.2) t],[aU,A t,DI q z _ _ (cG O)],H,t-1=[cO,t-1],[g]];rw[a1,n,t-1<[Q,[c_,[wA,j]]],[bC],s,[aQ,[c_,[wA,j]],t-1,[l,iF b ([h1].take i) (t-1)]],by have c:t-1+1=t:=[g];rw[dR,dR,aio [g]];simp[c,I,nD],#[_,[zu,[wA,[cT]],[bk,[jd,[g5]]],[ay,g.2],[bk,[cc,F]],[ay,t]],Y,?_,_,Y]];rw[ad,seval,nD,H];rw[au,seval,A4 _ _ n,s,f];congr 5;rw[cq,abf,cq];congr 3;funext x;rw[au,jG,nD,jH,O];grind]];rw[bF,Z,rfl,u,#[_,[AT,[Cp,[Y]]],Y,?_,_,_,_,_,Y]];rw[ad,seval,X,m];congr 8;apply iL;intro t _;rw[az,iF,jH,h,de,su];rw[D,W,t+1∈[g5]];{simp[W,aH]};{simp[W,aH,abr q z g.2 (t+1) W]}]];rw[ac,G,C,B,Z,rfl,u];rw[m];rw[ad,seval,nK,Hm]
def acK(x:[gi])(r:[h])(n:Nat):gl [bn] n=[A,[R]=n,[bD],0]+gl r n:=by simp[gl];rw[D,h,[R]=n];{simp[h,aH]};grind
def LO{U:[aI]}(f g:U->Nat)(l:[h]):aH [iB,f x+g x]=aH [gZ]+aH [aS,g]:=by induction l with|nil=>rfl|cons a r q=>rw[dk]
def D_{U:[aI]}(l:[gu]):aH [aS,[hY]]=0:=by induction l with|nil=>rfl|cons a r q=>rw[dk]
def U8(n x v:Nat)(h:x<n):aH [gx,n,t,[A,t=x,v,0]]=v:=by induction n with|zero=>omega|succ n q=>rw[uc,de,su];rw[D,e,x=n];{subst e;(have:[gx,x,t,[A,t=x,v,0]]=[S,br x,[hY]]:=by apply iL;grind);rw[this,D_];simp[aH]};{rw[q [g]];have:¬n=x:=λh=>e h.symm;simp[aH,this]}
def tw(b:a7)(n:Nat):∀(B:[h]),([b7,B,[eS,[R],n]])->aH [gx,n,t,[zv,B]]=aH [eE,λx=>[ao,[tX,[R]],0,[bD]]]|[],_=>by(have:(λt=>[zv,[]])=[hY]:=by simp[gl,aH]);rw[aU,this,D_]|[bn],h=>by have q:=tw b n r [f];rw[bl,m,u,[gF,x],e,(λt=>[zv,[bn]])=λt=>[A,t=[R]-1,[ao,cR b [R],0,[bD]],0]+[zv,r],by funext t;rw[a_,acK]];rw[e,LO,q,U8 n _ _ [g]];rfl
def vI(h:[gR])(q:[mA])(a:Nat):[b7,[n5],[eS,[R],[cC]]]:=by intro x L;rw[ra h q]at L;have e:[R]∈[fO,tf b _ a _]:=b0.mpr #[x,L,Y];rw[ou,nK]at e;exact h.mem _ e
def W4(U:[fb]):aH [gx,[cC],t,[Ar,[h1]]]=Ik b l:=by have h:=(w_ U).ts;rw[ab,Ik];rw[bj,[h1],B];induction B with|nil=>(have:(λt=>[Ar,[]])=[hY]:=by simp[iF,aH]);rw[aU,this,D_]|cons g r q=>have q:=q [f];rw[bl,m,u,[gF,g],e,(λt=>[Ar,g::r])=λt=>[rV,t,[Cc]]+[Ar,r],by rw[aa,iF,aH];grind];rw[e,LO,q,tw b _ _ (vI m u _)];rfl
def J9(b:a7):[h0,G,o,Nat,∀i x,([cS,G])->[aQ,[ht],o+i,x],∀(f:Nat->Nat),aH [hU,(G.zip [gx,[go],t,f (o+t)]).filter [aF,! [H].within]]=aH [gx,[go],t,[rV,o+t,f (o+t)]]]|[],o,_,f=>rfl|[bn],o,h,f=>by rw[ai,h0,h 0 x Y,W,cR b (o+1)=x.within,[fN,cR,cj]];have q:=J9 b r (o+1) (λi y e=>[cd,h [Y] y e]) f;rw[b7,yU,bT,bT,cq,cq,rS,ub];rw[K,z,((λt=>f (o+t))∘Cz)=λt=>f (o+1+t),[f],u,((λt=>[rV,o+t,f (o+t)])∘Cz)=λt=>[rV,o+1+t,f (o+1+t)],[f]];rw[z,u];cases L:x.within with|true=>simp[L,Il,dj,b8,W,bI];simp[aH,jE]at q|-;omega|false=>simp[L,Bool.not_false,bI,W,dj,b8,bT];simp[aH,jE]at q|-;rw[q]
def DA(J:[aO])(U:[fb])(k:Nat)(S:aj):[iD,2,72,[dc,[iS],[hq,qt b l]],rT b l]:=by rw[[cg]];simp[seval,N3,xM];rw[tV _ [aF,! [H].within] [aF,nD [X]] _ (λp q=>[b0,seval])];rw[al,A,∀G:[jN,Tax],[f5,[aF,nD [X]]]=[c_,[f5,(·.2)]],[E_],A];rw[au,seval,BQ,oM,m4];have m:=J9 b [ht] 0 (by simp) (iF b [h1]);rw[aH,kL,m];rw[Hm,m,W4 U];rfl
def A2(J:[aO])(h:[fU])(n:Nat)(q:[nS])(k:Nat)(S:aj):[k3,3,73,[dm]]=[bQ,i_ (jF b) n 1]:=by rw[bc,[cg],m,∀S,[p5,[d5,ia _,n,1]]=[bQ,i_ (jF b) n 1],wY _ J.ca n 1 q [g] [g] k];rw[bg,P2,KM h,m]
def Po(J:[aO])(U:[fb]):rT b l<1000000000000000000:=[Ft]
def Rp(J:[aO])(h:[fU])(U:[fb])(k:Nat)(S:aj):[k3,5,74,[iS]]=[bQ,v9 b l]:=by rw[[cg]];simp[seval,Mi,GQ J h U k,DA J U _,A2 J h _ (Po J U) _,v9]
def O5(J:[aO])(u:[fU])(L:x∈[cG])(a:Nat)(l:a<=20000000000)(k:Nat)(S:aj):[iD,4,75,[dc,cI x,[kK]],iv b [me] a]:=by rw[aV [f2] S (F:=G_) Y Y Y];obtain⟨_,N,p⟩:=J.item x L;rw[V,g,BU N p,q,Ts.of b [jF]];have z:cY _ _=[me]:=uV;generalize Z:cY _ [jF]=ts at*;rw[M,F,r,Q,D7 J u (nm:=nm) q a l k S];rw[au,seval,G_,g,r];rw[tV nD (λt=>! [jL]) (λt=>nD [qX]) ts (λt j=>by rw[bl,C,P,q.mem t j,f,bK F [lV]=aa [l,[qX]],[aU,Q t,DI q z _ _ j]];rw[az,seval,nD,oR t C P,cR,f];grind)];rw[al,A,∀G:[aj],[f5,λt=>nD [qX]]=[c_,[f5,λt=>[qX]]],[E_],A];rw[K,c,aH [cl,ts.filter λt=>! [jL],t,[qX]]=rV b ts a,by rw[ab,rV];(have key:∀i,aH [cl,[ok,[oM],t,! [jL]],t,gl [jh] t]=aH [cl,[jh],x,[ao,[tX,[R]],0,[bD]]]:=λi=>by induction i with|zero=>rfl|succ i B=>cases h:ts[i]? with|none=>rw[ai,U,v6.mp h,e,[BO],[ad,tf,gH U,gH (v7 U)]];rw[e,gH (v7 U),<-B,gH U]|some t=>have I:=xK q.nd h;rw[qP h,mV,jH,h,yW,de,de,su,su,<-B];rw[bA];{rw[bA];rw[ba,iL,s,O];have H:¬t=s:=λe=>I (e▸[M,nN.mp O]);rw[qO,aw H,SD]};{have E:gl [jh] t=0:=[DU];rw[D,W,[mw]=ae];{simp[cR,W,aH]};{have y:=[aD,W];simp[cR,y,qO,E]}});rw[a_,ra q z],d,a+rV b ts a<1000000000000000000,by(have m:rV b ts a<=4*100000000000:=by rw[ab,rV];rw[<-tw b _ _ (vI q z a)];refine [Kg];{intro t _;rw[jK,n,c9 (zF J q z a (t+1)) (rJ 4 (Im l 10000))]};{rw[Y,gY,mz _ J.nt]});omega];simp only[seval,oM,m4,c,<-H_,A2 J u _ d k,iv]
def ke(b:a7)(c C:[aj]):Bool:=[hR,kT b,i,ao (my b C i<=e7 c i)]
def al1(l:[h])(S:aj):dn .vg [dM,iD] S=[bQ,og l]:=by have:eQ [aS,iD]=aa l:=AL l;simp[dn,fw,this,l8,fC,AS]
def NX:∀l,ao (0<=og l)=[ry,x,ao (0<=x)]|[]=>by rfl|[x]=>by simp[e8,Io,yX];rfl|x::y::r=>by have q:=NX (y::r);rw[e8,<-q];rw[al,e,og (x::y::r)=el x _,rfl,gZ];simp[d0,aF];omega
def Ql(J:[aO])(I:Sq v [jr])(O:[hZ])(hu:[lf])(k:Nat)(S:aj):[cM,2,76,[dc,[hG],v],[bh,[o']]]:=by rw[ca,[cg],O_,On J I O hu k,NX];congr 2;rw[ke,gZ,ck,ck];have z:=Os b c C;rw[bb];{intro h i q;simp[kT,b0,i9]at q;rw[M,j,e,rfl,q];rw[V,m,h ([tt].getD j 0) [ql],u,EW J c C j [g]];rw[eW,a,c.getD j 0=e7 c [cT],rfl]};{intro h x L;rw[R,j,e,kO L];rw[V,d,[dA,e],u,EW J c C j [g]];have B:[tt].getD j 0=x:=[f];rw[ai,m,h [cT] (by simp[kT,b0,i9];grind),a,c.getD j 0=e7 c [cT],rfl];simp only[d0]at*;omega}
def gw(b:a7)(a:[aj])(n:Nat):Bool:=!(a.any λe=>[uM,(e,n)])
def ao7(l:[h])(a c:Nat)(S:aj):gy [ir,a,c] [iS] S=[Z,l.contains (a,c)]:=by rw[K,m,[kl,[aS,pD],D.pair],by rw[ck];intro x L;rw[bP,p,L];rfl,u,j1 [ir,a,c] [aS,pD]=l.contains (a,c),by rw[j1,rR,Ip];rw[cb,p];simp[jG,pD,D.beq,ll];grind];rw[gt,gy,m,u]
def RZ(q:Sq v [f4,nD])(n k:Nat)(S:aj):[cM,1,77,[dc,v,[dm]],[bh,gw b a n]]:=by rw[[eN]];simp[seval,MB,q.it];rw[b',[oa,e,D.bl [uM,(e,n)],h,by simp[seval,nD]],rR];rfl
def wh(b:a7)(l:[h7])(n:Nat):Bool:=ao ((ug b n).least<=nM l)
def RT(l:[h7])(n:Nat)(m:1<=n)(u:n<=[bI])(k:Nat)(S:aj):[cM,2,78,[dc,[iS],[dm]],[bh,wh b l n]]:=by rw[[cg]];simp[seval,Pl,BQ,wG n m u,wh,HZ]
def RD{J:[aI]}(C:J->D)(d:D):∀(l:[h])(p:[gK])(E:Nat->Env->[P])(e:Env),E 0 e->(∀i x e,([cS,l])->E i e->(∀j<i,p j=ae)->∃z,gc e t (C x)=aa z/\[ao,p i,∃h,b z S=[dK,h]/\E [Y] h,b z S=[iw,d]])->[ao,(br [E]).all p,∃a,[uP,e,a]/\E [E] a,cW b t [aS,C] e S=[iw,d]]|[],p,E,e,h0,H=>by exact#[e,Y,h0]|[bn],p,E,e,h0,H=>by rw[M,z,m,u,H 0 x e Y h0 (by simp)];rw[b7,yU,e8,v_];rw[aJ,p 0=ae];{rw[aJ q]at u;rw[M,h,B,U,u];rw[ai,W,RD _ d r _ _ _ U (λi y e N O P=>H [Y] y e N O (λj L=>by cases j with|zero=>exact q|succ j=>rw[a'])),f,(p∘Cz)=λi=>p _,rfl];simp only[bT,cW,m,fw,l8,fC,B,q];exact W};{rw[aw q]at u;simp[bT,cW,m,fw,l8,fC,u,q];rfl}
def rise(l:[aj]):[P]:=l.Pairwise (·<·)
def XV(J:[aO])(O:rise a):[hR,br [bV],i,[ym]]=o6 b a:=by rw[gZ];simp only[o6,ck,gw,Iq,SQ,rQ,Bool.and_eq_false_imp,i9];rw[bb];{intro h p L m;obtain⟨_,B,_⟩:=J.apart p L;rw[yY];intro u;simp[rQ]at m u;rw[R,i,q,kO m];rw[R,j,z,kO u];rw[R,G,c,dC.mp q];rw[bl,d,e,dC.mp z,H,i<j,by rcases aip i j with x|x|x;{exact x};rw[ay];{rw[aM,aiq.mp O j i d G x]}];have:=h j d _ (by apply cG;rw[Ij,aJ H,q]);apply this;rw[a3,hY,z,L]};grind
def Kc(J:[aO]){c C a:[aj]}(O:[hZ])(G:[k'])(U:[iG]=[cs])(hu:[lf])(P:[r_])(N:rise a)(k:Nat)(S:aj):[cM,5,79,[BH],[bh,gJ b c [fL]]]:=by rw[aV [fz] S (F:=Gh) Y Y Y];rw[K,f,Sq [W,[jr]] [jr],e6 Y,A,[j5,[cW,4,76,[dc,[hG],[W,[jr]]],S]],Ql J f O hu [ds]];rw[ad,seval,Gh,A];rw[al,y,gJ b c [fL]=([o']&&[BK]),[gt,gJ,U,CA],y];cases l:[o']with|false=>rfl|true=>rw[au,seval,Bu J f O G hu k,Ku [cz,0],aR];rw[al,g,[jx,[bV],D.tup [[aP],[f4,nD].getD i [iW]]]=[jx,[bV],D.tup [p_,[p3]]],by rw[ba,iL,i,q];rw[i9]at q;simp[q,nD],g];rw[bn,z,RD (S:=S) (t:=[5,6]) (b:=[fh,4,[Gv]]) (λ(i:Nat)=>D.tup [nG,[am,i],[p3]]) [bh,af] _ (λi=>[ym]&&[zP]) [tu,F,Z,[[cn],[ja],[fG,[jr]],[b'],[b'],F,Z]] [K5,[V],[V]] [v1] (λi j e B#[F,Z,s]_=>by subst s;rw[R,q,rfl,dC.mp B];rw[gY]at q;rw[ab,ud];rw[bF,n,r,P _ (mP a 0 i q),[z4]];rw[ak,d,Sq _ [c_,a.take i],e6 (by rw[Cy]),I,[j5,[cW,4,77,[dc,[b6],[l,[p3]]],S]],RZ d _ [f2],W,[j5,[cW,4,78,[dc,[iV,[gd]],[l,[p3]]],S]],RT _ _ n r [ds]];cases m:[ym]with|false=>rw[az,seval,nF,yb,I,m]|true=>cases u:[zP]with|false=>rw[aY,seval,SR,yb,I,m,W,u]|true=>refine#[[K5,[ay,i],[ay,[p3]]],?_,_,_,Y];rw[bY,yb,I,m,W,u]),gY,z];rw[aI,H,[hR,br [bV],i,[ym]&&[zP]]=[BK],by rw[<-XV J N];rw[eW,Q,(a.all λi=>wh b [gd] i)=[hR,br [bV],i,[zP]],by rw[gZ,ck,ck];rw[bb];{intro h i q;exact h _ (mP _ _ _ (i9.mp q))};{intro h x L;rw[R,j,B,kO L];have:=h j (i9.mpr [dA,B]);rwa [hY,B]at this}],H,z];cases p:[BK]with|true=>rw[p]at z;rw[ac,T,m,F,Z,rfl,z];rw[a8,m]|false=>rw[p]at z;rw[a8,z]
def tD(l:[aj]):D:=[bs,[no]]
def jS(G:Nat)(rs:[lx]):[lx]:=rs.flatMap λr=>[gx,G+1,x,r++[x]]
def i4(G:Nat):Nat->[lx]|0=>[[]]|[an]=>jS G (i4 G k)
def agu(G x:Nat)(rs:[h]):jS G (rs.map λr=>[bn])=[cl,jS G rs,r,[bn]]:=by simp[jS,SS,SU,cq];rfl
def ME(G:Nat):∀k,jS G (g_ k G)=g_ [an] G|0=>by simp[g_,jS];simp[List.map_eq_flatMap]|[an]=>by have q:=ME G k;(conv=>lhs;rw[g_]);rw[g_,<-q];simp[jS];rw[List.flatMap_assoc];rw[cb,x];have:=agu G x (g_ k G);rw[aH,jS,this];grind
def xB(G:Nat):∀k,i4 G k=g_ k G|0=>rfl|[an]=>by rw[i4,xB G k,ME]
def tP(G:Nat):∀k,∀r∈g_ k G,[gm]=k/\[b7,r,x<=G]|0,r,h=>by rw[aH,g_,h];grind|[an],r,h=>by simp[g_,j_,b0]at h;rw[ac,x,L,s,q,rfl,h];rw[iQ,m,u,tP G k s q]
def J5(G:Nat):∀k,[Q,g_ k G]=(G+1)^k|0=>rfl|[an]=>by rw[ab,g_];rw[bI,∀l:[h],[Q,l.flatMap λx=>[cl,g_ k G,r,[bn]]]=[E]*(G+1)^k,λl=>by induction l with|nil=>simp|cons a r q=>rw[ir,cO,q,aR,J5 G k,b7,yT,aie]]
def amD(l:[h])(n:Nat)(S:aj):oH (tD l) [bs,[[dm]]] S=[A,[E]+1<=lim,[Z,tD (l++[n])],[aW]]:=by simp[oH,tD,aR,b7,gK,de];rw[D,h,[E]+1<=lim];{rw[aU,aJ h,aJ h]};{rw[aU,aw h,aw h]}
def QF(J:[aO])(O:[hZ])(k:Nat)(S:aj):[dW,3,80,[dZ,[hG]],[xv],tD]:=by rw[aV [ds] S (F:=Ef) Y Y Y];have H:=J.nb;rw[aa,seval,Ef];(have P:∀i,i<=3->[aN,i4 3 i,64]:=λi G=>by rw[xB,J5];rw[bI,i=0\/i=1\/i=2\/i=3,[g]]);rw[M,N,m,u,[j2,[3],2,[.own 4 [bF],.cT [5] 0 [[U]] _,.fz 4 [dY,[av]]],dk,[iv],λi e=>∃s I z,e=[[cn],[ja],[lq,i4 3 i,tD],s,I,z,[V]],[pX,[ja],[bk,[ax,[[h9]]]]],#[[V],[V],[V],Y],λi x e L#[s,I,z,U]=>by subst U;rw[V,G,[dA,L],d,P i [g]];rw[M,N,m,u,[j2,[5],2,[GS],tD,i4 3 i,λj e=>∃z,e=[w',i,[bl,[dv,[B5,j],tD]],z],[w',i,[bl,[bF]],z],#[z,by rfl],λj r e W#[z,U]=>by subst U;have q:=[M,tP 3 i r (by rw[<-xB];grind)];rw[ae,B,∀l,[Q,jS 3 l]=[E]*4,λl=>by induction l with|nil=>rfl|cons a t A=>simp only[jS,ir,cO,aR,gY,b7]at*;omega,#[_,[w',i,[pc],[bk,tD r]],Y,?_,_,Y]];rw[ai,p,vb 4 S [g],g,x6 4 S=[Z,[jx,4,[aP]]],vb 4 S [g]];rw[aa,seval,g];rw[dG [sR,n,n] (λn=>tD (r++[n])) (br 4) (λn _=>by have:[gm]+1<=lim:=[ej];rw[aa,seval,this])];rw[K,y,[kd,[S,[B5,j],tD],[gx,4,n,tD (r++[n])]],by rw[aR,B,aR,gY,o7];rw[ej],h,jS 3 ((i4 3 i).take [cT])=[B5,j]++[gx,4,n,r++[n]],by rw[jH,W,jS,rN];rfl];rw[au,seval,y,h,de];rfl]];rw[bF,F,rfl,u,#[_,[w',[Y],[lq,i4 3 [Y],tD],F],Y,?_,_,_,_,Y]];rw[ep];rw[m];rw[ad,seval,nK,i4]]];rw[ag,s,I,z,rfl,u];rw[m];rw[ep];rw[b',tV tD (ke b c) tD (i4 3 [cs]) (λC hu=>by rw[xB]at hu;rw[K,f,Sq (tD C) [jr],kQ Y,Z,∀S,[cM,2,76,[dc,[hG],tD C],[bh,[o']]],Ql J f O [bo,tP 3 _ C hu] k];rw[cU,Z]),xB]
def amm(a c:[ak])(S:aj):oH [ax,a] [ax,c] S=[A,[bV]+[dN]<=lim,[Z,[W,a++c]],[aW]]:=by simp[oH];rw[D,h,[bV]+[dN]<=lim];{rw[aU,aJ h,aJ h]};{rw[aU,aw h,aw h]}
def gE(b:a7)(l:[h7])(a:[aj]):Bool:=o6 b a&&a.all (wh b l)
def dr(b:a7)(l:[h7]):Nat->[lx]|0=>[[]]|[an]=>[ao,wh b l [an],[lt]++[cl,[ok,[lt],a,gw b a [an]],a,a++[[an]]],[lt]]
def adT(n s:Nat):[b7,gL n s,[eS,x,n]]:=by intro x L;simp[gL,b0,nN,i9]at L;omega
def Wh(h:s<2^k):gL [an] s=gL k s:=by simp[gL,uc];rw[cd,air h]
def Wv(h:s<2^k):gL [an] (2^k+s)=gL k s++[[an]]:=by rw[au,gL,uc,yW,de];have m:(2^k+s).testBit k=ae:=[aU,Nat.testBit_two_pow_add_eq,air h];rw[bA];{rw[bA];rw[ba,SN,i,q];exact Nat.testBit_two_pow_add_gt [f] s};grind
def agg(n:Nat):br (n+n)=br n++[gx,n,i,n+i]:=by rw[List.range_add]
def Vj(J:[aO])(h:[b7,a,x<n]):o6 b (a++[n])=(o6 b a&&gw b a n):=by rw[gZ];simp only[o6,gw,aF,ck,Iq,yY,ne_eq,rQ,cs,dL];rw[bb];{intro H;rw[a7,λp q m=>H p q [f],λO=>?_];rw[CC]at O;rw[bu,e,j,O,O,H _ (rQ.mp O) #[e6 j,kQ Y]]};{rintro⟨z,L⟩p q⟨m,u⟩;obtain⟨_,g,_⟩:=J.apart p q;grind}
def O3(J:[aO])(l:[h]):∀k,[uz].filter (gE b l)=[lt]|0=>by(have:gE b l []=ae:=by simp[gE,o6]);simp[gL,dr,this]|[an]=>by have q:=O3 J l k;rw[ais,Nat.mul_two,agg,de,yW,cq];rw[K,e,[S,br (2^k),gL [an]]=[uz],by rw[ba,iL,s,h];exact Wh [f],u,[S,br (2^k),gL [an]∘λi=>2^k+i]=[cl,[uz],a,a++[[an]]],by rw[cq];rw[ba,iL,s,h];exact Wv [f]];rw[e,u,q,Iu];(have z:[uz].filter (gE b l∘λa=>a++[[an]])=[ok,[uz],a,(wh b l [an]&&gw b a [an])&&gE b l a]:=by rw[ba,SN,a,O];rw[bP,s,O];simp[jG,gE,Vj J (λx L=>[aM,adT k s x L]:[b7,gL k s,x<[an]])];grind);rw[z,<-List.filter_filter,q];simp[dr];cases W:wh b l _ with|true=>rfl|false=>simp
def u6:∀k,[LT,k]|0,a,h=>by simp[dr,dL]at h;rw[bf,h,[qT,Ib]]|[an],a,h=>by have S:[LT,[an]]:=λa O=>[aG,m,u,u6 k _ O,#[m,λx L=>[aM,u x L]]];rw[aH,dr,h];rw[a6];{rw[a0,cs.mp h,h,h,S _ h];{rw[M,B,d,rfl,b0.mp h];rw[bF,m,u,u6 k _ [M,nN.mp d],#[?_,[gG]]];{rw[rise,ait];refine#[m,by simp,λx L y e=>?_];rw[aH,dL,e];rw[aM,u x L]};grind}};{exact S _ h}
def Dz:∀k,[aN,[lt],2^k]|0=>by simp[dr]|[an]=>by have q:=Dz (b:=b) (l:=l) k;rw[b0,dr]
def Nu:∀k,[e_,[lt]]|0=>by simp[dr]|[an]=>by have q:=Nu (b:=b) (l:=l) k;rw[bX,dr];{rw[ci,g8,#[q,?_,?_]];{rw[a3,aiu,Ii,(q.filter _).imp (by simp)]};{intro a h c O e;rw[aM,(u6 k a h).2 [an] [f]]}};grind
def DM:∀k i a,([aY,[lt],a])->(a=[]/\i=0)\/∃pre n,a=[iA]/\pre∈[lt].take i/\[eS,n,k]|0,i,a,h=>by(cases i with|zero=>rw[aH,dr,h];grind|succ i=>rw[aH,dr,h])|[an],i,a,h=>by simp only[dr]at h|-;rw[a6];{rw[aB,W];rw[aJ W];rw[Iv]at h;rw[a6];{rw[fq]};{rw[aL,B,d,rfl,b0.mp (cG h),kQ #[B,[an],Y,?_,[g],[g]]];rw[Y,List.take_append,cs.mpr (e6 [q,gH [g],[M,nN.mp d]])]}};{rw[aB,W];rw[aw W];rw[fq]}
def Ru:∀k,[aQ,[lt],0,[]]|0=>rfl|[an]=>by have q:=Ru (b:=b) (l:=l) k;rw[b0,dr]
def MA(J:[aO])(l:[h7])(k:Nat)(S:aj):[dW,3,81,[dZ,[iS]],dr b l [bI],tD]:=by rw[[cg]];have r:=J.nc;rw[au,seval,Rt,aR,D' 1 ([bI]+1) S _ _ [g] [g]];rw[al,U,[hf,([am,b.coupons.length]+1)-1]=[bI],[g],U];rw[M,C,m,u,[j2,[3],2,[Ga],[sR,i,1+i],br [bI],λi e=>∃s,e=[[b'],[b'],[lq,dr b l i,tD],s,[V]],[[cn],[mp],[bk,[ax,[[h9]]]],[V],[V]],#[[V],Y],λi j e B#[s,L]=>by subst L;rw[R,O,rfl,dC.mp B];rw[gY]at O;rw[ab,ud];rw[al,P,1+i=[cO,[Y]],[g],P];refine#[_,[[b'],[b'],[b'],[ay,[bb,[Y]]],[V]],Y,?_,_,Y];have W:[j5,run _ _ 78 [dc,[b6],[bK]] S]:=RT l [Y] [g] [g] k;rw[aa,seval,W];cases d:wh b l _ with|false=>rw[ad,seval,dr,d]|true=>rw[ai,H,Dz (b:=b) (l:=l) i,c,2^i<=2^5,aiv [g] [g]];rw[tV tD (λa=>gw b a _) (λa=>tD (a++[[Y]])) _ (λa h=>by rw[K,q,[j5,run _ [ds] 77 [dc,tD a,[bK]] S],RZ (kQ Y) [Y] _,dw,[bV]+1<=lim,by have:=kr i a ([M,u6 i a h].imp [f]) [bo,u6 i a h];rw[ej]];rw[aa,seval,q];cases f:gw b a _ with|false=>rfl|true=>rw[aa,seval,dw])];rw[K,z,[aN,[LX],[Q,dr b l i]],SO _ _,g,[kd,[S,dr b l i,tD],[cl,[LX],a,tD (a++[[Y]])]],by rw[aR,aR];rw[ej]];rw[bY,g,dr,d,de,cq];rfl]];rw[R,s,rfl,u];rw[b',m,gY]
def aga(l:[h])(t:[ak])(S:aj):eC [hs] [bs,t] S=[nu,t.all D.atom,[gT,bK l [bs,t]]]:=by have e:(D.tup t).jo=t.all _:=rfl;rw[ab,eC];rw[br,h,t.all D.atom=ae];{rw[aU,[nz],aw h]}
def eS(b:a7)(l:[h7])(a:[aj]):D×D:=(tD a,[iV,mT b l a])
def acs(b:a7)(l:[h])(C:[h])(a:[h])(h:a∈C):bK [y3] (tD a)=aa [iV,mT b l a]:=by induction C with|nil=>grind|cons x r q=>rw[bT,oh];rw[ad,eS,tD,tO];rw[br,e,x=a];{have:[bE,x,a]:=[f];simp[this];exact q [f]}
def YI(b:a7)(l:[h])(C:[h])(a:[h])(v:D)(h:a∉C):cB [y3] (tD a) v=[y3]++[(tD a,v)]:=by(have:¬([y3].any [qn,tD a])=ae:=by rw[rR,CC];rintro⟨x,L,q⟩;simp[jG,eS,tD,tO]at q;grind);rw[aa,cB,aw this]
def XA(l:[ak])(U:l≠[])(S:aj):gu [eB] ag (aa (-1)) S=[Z,[bs,[v5]]]:=by rw[ai,e,SV.mpr U,O,clip [E] (-1)=[E]-1,[b0,clip]];simp[gu,g6,nJ,O];rw[aw [g]];simp[List.dropLast_eq_take];rfl
def abU(l:[ak])(S:aj):gu [aV] (aa 1) ag S=[Z,[W,[ed,1]]]:=by have O:clip _ 1=el 1 [E]:=Hr _ 1;rw[az,gu,g6,nJ,O,cut];congr 2;rw[aiw];split;{rw[gH (by simp)]};grind
def Xw{b:a7}(J:[aO]){nm st:[dj]}(A:[fU]){l:[h7]}(U:[fb])(k:Nat)(S:aj):[cM,5,82,[dZ,[iS]],.i7 [S,dr b l [bI],eS b l]]:=by rw[bc,aV [fz] S (F:=FP) Y Y Y,d,[wt,([]:[ak])],rfl];rw[bY,FP,MA J l [an],abU,d,Io];rw[V,hh,Ru (b:=b) (l:=l) [bI],r,J.nc];rw[ai,X,Dz (b:=b) (l:=l) [bI],c,2^[bI]<=2^5,aiv [g] [g]];generalize z:dr b l [bI]=C at*;rw[<-yZ];rw[M,w,m,u,[j2,[3],4,[GC],tD,[wq],λi e=>∃x,e=[[cn],[mp],[bl,.bY [S,[qL],eS b l]],x],[[cn],[mp],[bl,.bY [([h9],[iS])]],[V]],#[[V],by(have:C.take 1=[[]]:=by rw[List.take_one];rw[aU,List.head?_eq_getElem?,hh]);rw[a8,this]],λi a e L#[x,F]=>by subst F;rw[List.getElem?_drop]at L;rw[ak,q,[aQ,dr b l [bI],1+i,a],[q,z,L],G,1+i<[iG],[dA,L],bU,C.Nodup,z▸Nu (b:=b) (l:=l) [bI]];rcases DM _ _ _ q with h0|⟨pre,n,rfl,h,p,I⟩;{omega};{rw[z]at h;rw[V,t,u6 (b:=b) (l:=l) [bI] [iA] (cG q),E,vj pre U];rw[a1,B,[iA]∉[qL],by intro O;rw[R,j,P,kO O];rw[Ij]at P;rw[aC,P];{rw[aM,(v8 [dA,P] bU).mp (P.trans L.symm)]};{simp at P},N,C.take ([Y]+1)=[qL]++[[iA]],by rw[jH,[ge,[Y]=1+i],L];rfl,#[_,[[cn],[mp],[bl,.bY [S,C.take ([Y]+1),eS b l]],[bk,tD [iA]]],Y,?_,_,Y]];rw[ak,f,[c_,[iA]].dropLast=pre.map nD,[ey,de],Z,[c_,[iA]]≠[],by simp,y,at_ [c_,[iA]] (-1)=aa [dm],by rw[E1,de];simp[nD]];rw[a4,s,acs b l [qL] pre [q,[ge,[Y]=1+i],h],g,[wt,pre.map nD],Fl pre,H,[wt,[c_,[iA]]],Fl [iA]];rw[K,T,[iN,[S,[qL],eS b l]],by rw[aR,o7];rw[ej],Q,mT b l [iA]=rP b (mT b l pre) (ug b n),[gt,mT,de,yR]];have W:=YI b l [qL] [iA] [iV,mT b l [iA]] B;rw[N,de];simp only[tD]at s W|-;simp only[seval,XA _ Z,f,aga,g,H,s,y,wG n p I,Qc J A (wK n p I) E k,T,<-Q,W];rfl}]];rw[R,x,rfl,u];rw[m];rw[ep];(have:C.take ([Q,[wq]]+1)=C:=by apply gH;rw[cx,rW]);rw[this]
def X7{c C a:[h]}(U:[iG]=[cs]):gJ b c [fL]=([o']&&gE b [gd] a):=by simp[gJ,U,CA];rfl
def Nd(J:[aO])(c:[h]):[ug]=[xv].flatMap λC=>[cl,[vi],a,[fL]]:=by have q:=tP 3 [cs];simp[uk,qu];rw[bj,g_ _ 3,rows];induction rows with|nil=>rfl|cons C r m=>have hu:=[M,q C (by simp)];rw[ir,yW,m λx L=>q x [f]];rw[eW,e,[gx,2^[bI],s,[l4,C,gL [bI] s]].filter (gJ b c)=[ao,[o'],[cl,[vi],a,[fL]],[]],by rw[<-O3 J,Iu,Iu,cq];rw[al,z,(gJ b c∘λs=>[l4,C,gL [bI] s])=λs=>[o']&&gE b [gd] (gL [bI] s),by funext s;exact X7 hu,z];cases [o'];{simp};rfl]
def aoj(l:[h])(S:aj):[g',tD l]:=(rfl)
def akI(l:[h])(S:aj):[vk,tD l,[E]]:=[h6,R.ok _ S=_]
def am7(l:[h])(S:aj):dn [lX] (tD l) S=[Z,[dM,nD]]:=(rfl)
def vE(b:a7)(l:[h7])(a:[aj]):Nat:=v9 b (mT b l a)
def D6(b:a7)(c C a:[h]):Iw b c [fL]=[s4]:=rfl
def afX(J:[aO]){c:[h]}(O:[hZ])(B:[k'])(k:Nat)(S:aj):[k3,5,83,[hG]]=[bQ,[Q,[ug]]]:=by rw[[cg]];rw[bM,f,[j5,run _ [fz] _ [oP] S],QF J O _,Rc];have h:=tP 3 [cs];rw[[oa,C,[ic,[S,[gd],pD]],hu,by have F:[pe,[dc,[b6],tD C]]:=Bu J (kQ Y) O B [f] k;simp[seval,F]]];simp[seval];rw[[oa,C,nD [Q,[vi]],hu,by have d:[j5,run _ [fz] _ [dZ,[iV,[gd]]] S]:=MA J _ _;rw[bg,d,aR,nD]]];rw[al,A,∀G:[h],[f5,λC=>nD [Q,[vi]]]=[c_,[f5,λC=>[Q,[vi]]]],[E_],A];rw[au,seval,oM,m4,Nd J c];congr 3;generalize(g_ _ 3).filter _=rows;induction rows with|nil=>rfl|cons C r q=>rw[ir,cO,aR,<-q];rfl
def s_:([be,Nat×Way])->D|ag=>[aX]|aa x=>[bs,[[l,[R]],tD [bD].uses,tD [bD].coupons]]
def akV(p G q n:Int)(S:aj):xA [ir,p,G] [ir,q,n] S=[dT,ao (p<q)||(p==q&&ao (G<n))]:=by show R.ok _ S=_;rw[b0,lexLt]
def afY(J:[aO])(U:[fU]){c:[aj]}(O:[hZ])(H:[k'])(k:Nat)(S:aj):[cM,6,84,[dZ,[hG]],s_ (CD b c)]:=by rw[aV [gW] S (F:=E0) Y Y Y];rw[aA,f,[j5,[k3,5,80,[hG]]],QF J O [ds],W,tP 3 [cs]];rw[ad,seval,E0,f];let g:=λC G a=>rX G (Iw b c [fL],[fL]);rw[M,T,m,u,w6 (S:=S) (t:=[3]) (b:=[fh,5,[.cT [gs] 6 [[en,82,[fJ,64,[ai]]]] _]]) (λG e=>∃s B z Z,e=[[cn],[b'],[bk,s_ G],s,B,z,Z]) tD _ [xv] ag [pX,[ja],[b_,[aX]]] #[[V],[V],[V],[V],Y] (λG C e#[s,B,z,Z,L]hu=>by subst L;rw[V,d,[bo,W C [M,nN.mp hu]],q,vP J O H d];rw[aA,P,[j5,[cW,5,64,[dc,[hG],tD C],S]],Bu J (kQ Y) O H d [an],l,Xw J U (nm:=nm) q k];rw[M,T,m,u,w6 (S:=S) (t:=[gs]) (b:=[fh,5,[FT]]) (λG e=>∃B z Z,e=[[cn],[ja],[bk,s_ G],[bk,tD C],B,z,Z]) [JD] (g C) _ G _ #[B,z,Z,Y] (λG a e#[B,z,Z,L]X=>by subst L;refine#[_,[[cn],[ja],[b'],[bk,tD C],[bk,tD a],[lq,mT b [gd] a,pD],[ay,[s4]]],Y,?_,_,_,_,Y];have i:∀S,[k3,5,74,[b6]]=[bQ,[s4]]:=Rp J U (vj a q) k;cases G with|none=>rw[bY,i,s_,g,rX,D6]|some y=>rw[ad,seval,i,s_];rw[al,j,(ao ([s4]<[am,[b4]])||(([am,[s4]]==[b4])&&ao ([bV]<[am,y.2.coupons.length])))=better ([s4],[fL]) y,by rw[gZ];rw[az,better,kN,aF,d0,ip];omega,j];cases h:better _ y with|true=>rw[bY,g,rX,D6,h,s_]|false=>rw[az,seval,g,rX,D6,h])];rw[ag,I,F,n,rfl,u];refine#[_,[[cn],[ja],[b'],[bk,tD C],I,F,n],Y,?_,_,_,_,_,Y];rw[au,seval,P,l,cq];have A:([aF,[Ey]]∘eS b [gd])=[JD]:=rfl;rw[aU,A,m])];rw[ac,s,B,z,Z,rfl,u];rw[m];rw[CD,Nd J c];generalize [xv]=rows;generalize ag=N;induction rows generalizing N with|nil=>rfl|cons C r Q=>rw[nE,Q,ir,yR,SM]
def UT(r n j d:Nat)(L:r<=9)(hd:0<d)(h:n<=j):Cw r n d<=Cw r j d:=by rw[xL r n d L,xL r _ d L];have z:n/d<=j/d:=Nat.div_le_div_right h;rw[D,e,n/d=j/d];{(have U:n%d<=j%d:=by rw[V,m,Cu n d,u,Cu j d];grind);rw[bj,n%d,G];rw[bj,j%d,i];rw[bj,n/d,q];rw[eW,key,([Ew,i,q,i])->[Ew,G,q,G],by rintro(h0|O);rw[ay];{rw[br,g,G=0];{simp[tl]at O|-;grind}}]};grind
def Ki(x:o5)(L:oA x)(n j d:Nat)(hd:0<d)(h:n<=j):i_ x n d<=i_ x j d:=by exact rJ _ (UT _ _ _ _ L.rule (aii hd L.one) h)
def ac9(x:o5)(L:oA x)(n:Nat):n<i_ x n 1+x.unit:=by simp[i_,Nat.one_mul];rw[xL _ _ _ L.rule];rw[V,m,Cu n x.unit,u,aik n L.one];split;{omega};grind
section
variable{b:a7}(hb:Wf b){ts:List Nat}(hts:Ts b ts)(hw:∀t∈ts,cR b t=af)(hss:cY b.taxes.length ts=ts)
include hw in theorem QN(a:Nat):[q6]=a:=by(have:(ts.filter λt=>[mw])=[]:=by rw[Cv];intro t q;have:=hw t q;rw[aH,cR,this];grind);simp[g7,this,aH]
include hb hw in theorem PL(h:a<=l):∀i n,gl [jh] n<=gl (tf b ts l i) n|0,n=>by simp[tf]|[Y],n=>by have m:=PL h i;cases q:ts[i]? with|none=>rw[ai,U,v6.mp q,e,∀a,[BO],λa=>by simp[tf,gH U,gH (v7 U)]];grind|some t=>rw[V,j,cG q,d,hw t j];rw[aH,cR,d];rw[qP q,qP q,mV,mV,qO,qO];rw[eW,u,[uG,[vv]]<=[uG,[tL,l]*[jm]],by apply Ki _ hb.ro _ _ _ [g];rw[a3,QN hw,QN hw,mz _ (aix h (m _))]]
theorem abp{U:[aI]}(f g:U->Nat)(l:[h])(h:[gw,f x<=g x]):aH [gZ]<=aH [aS,g]:=by induction l with|nil=>grind|cons a r q=>rw[V,m,q [f],u,[gF,a]];rw[dk]
include hb hts hw hss in theorem adh(h:a<=e):iv b ts a<=iv b ts e:=by apply Ki _ hb.ca _ _ _ [g];refine aix h ?_;simp[rV];rw[<-tw b _ _ (vI hts hss a),<-tw b _ _ (vI hts hss _)];apply abp;intro t _;rw[ra hts hss,ra hts hss];rw[cd,PL hb hw h ts.length (t+1)]
def sS(b:a7)(ts:[aj])(g N r:Nat):[P]:=r<=N/\(∀a<r,iv b ts a<g)/\(r<N->[q8,r])
include hb hts hw hss in theorem ol(g N:Nat):∀f lo q,lo<=q->q-lo<2^f->(∀a<lo,iv b ts a<g)->(q<N->[q8,q])->q<=N->sS b ts g N (e9 b ts g f lo q)|0,lo,q,m,u,e,z,O=>by have:lo=q:=[f];rw[bf,this,#[O,e,z]]|f+1,lo,q,m,u,e,z,O=>by simp[e9];rw[D,h,q<=lo];{rw[aJ h];have:lo=q:=[g];rw[bf,this,#[O,e,z]]};{rw[aw h];rw[D,J,[q8,[lc]]];{rw[Y,aJ J,ol g N f _ _ [g] [g] e [f] [g]]};{rw[ci,aw J,ol g N f _ _ [g] [g] (λa x=>?_) z O];rw[aM,adh hb hts hw hss [ge,a<=[lc]]]}}
theorem Lr(h:sS b ts g N r)(x:sS b ts g N' j)(hN:[q8,N])(a:[q8,N']):r=j:=by rw[K,e,[q8,r],by rw[a0,aiy r N,U,U,[cU].2 U];{rw[cd,aiz [dJ] U]},J,[q8,j],by rw[a0,aiy _ _,U,U,[bD].2 U];{rw[cd,aiz [R] U]}];rcases aip r _ with U|U|U;{rw[aM,[bD].1 r U]};rw[ay];{rw[aM,[cU].1 _ U]}
end
def oi(n:Nat)(c:Bool)(h:t e S=[dT,c]):jY t bd [aw] e S=[ao,c,(bd e S).bd (λf S=>[J8,z,jY t bd n z S]),[dK,e]]:=by simp[jY,fw,h,fC,aaV];cases c with|true=>rw[ba,bM,f,S];rw[bx,f]|false=>rfl
def QW(hb:[aO])(i:[fU])(L:x∈[cG])(g N:Nat)(hN:N<=20000000)(k:Nat)(S:aj):[iD,5,111,[[b5],cI x,[l,g],[l,N]],e9 b [me] g 30 0 N]:=by rw[b',aV [fz] S (F:=Du) Y Y Y,Du];(have key:∀f fuel lo q j,f<fuel->q-lo<2^f->q<=20000000->lo<=20000000->∃C F,jY [v7,[gc,4],.lt [av] [ai]] [fh,4,[Gs]] fuel [[cn],[oH],[ay,g],[ay,[bb,q]],[ay,[bb,lo]],j] S=[dK,[[cn],[oH],[ay,g],[ay,C],[ay,e9 b [me] g f lo q],F]]:=by intro f;induction f with|zero=>intro fuel lo q j m u B I;rw[ce,n,fuel=[aw],[pt]];rw[bq,q,j];rw[al,O,¬lo<[am,q],[f],[Fb,af,O,j8]];rfl|succ f U=>intro fuel lo q j m u B I;rw[ce,n,fuel=[aw],[pt]];rw[ais]at u;rw[ab,e9];rw[D,O,q<=lo];{rw[bq,q,j];have h:¬lo<[am,q]:=[g];rw[aU,[Fb,af,h,j8],aJ O]};{have h:[am,lo]<q:=[g];rw[[Fb,ae,h,iK],aw O,aJ Y];rw[K,d,∀S,xz (lo+q) 2 S=[bQ,[bb,[lc]]],λS=>by rfl,P,∀S,[iD,4,75,[dc,cI x,[l,[bb,[lc]]]],[zO]],O5 hb i L [lc] [g] k];rw[D,z,g<=[zO]];{have J:g<=[am,[zO]]:=[g];rw[aL,C,F,hh,U fuel lo [lc] [ay,[lc]] [g] [g] [g] [g],#[C,F,?_]];rw[ca,aJ z,d,P,J];exact hh};{have J:¬[am,g]<=[zO]:=[g];rw[aL,C,F,hh,U fuel ([lc]+1) q [ay,[lc]] [g] [g] [g] [g],#[C,F,?_]];rw[ca,aw z,d,P,J];grind}});rw[M,C,F,hh,key 30 20000 0 N [V] [g] [g] [g] [g]];rw[aI,a,[cz,[bb,0]]=[cz,0],rfl,a,hh];rw[a8,hh]
def YM(hb:[aO])(hts:[gR])(hw:[EO])(hss:[mA])(g:Nat)(e:[z6]):e9 b ts g 30 0 [n7]=[mo,g]/\e9 b ts (g+1) 30 0 [n7]=[mo,g+1]:=by rw[ai,hu,hb.ca.unit,c,∀a,a<iv b ts a+(jF b).unit,λa=>by have:=ac9 _ hb.ca (a+rV b ts a);rw[eH,iv]];rw[V,m,c [n7],u,c e_];have q:e_=20000000:=rfl;rw[bb];{apply Lr (N:=[n7]) (N':=e_);rw[av,ol hb hts hw hss g _ 30 0 _ [g] [g] (by simp) (by simp) [g],ol hb hts hw hss g _ _ 0 _ [g] [g] (by simp) (by simp) [g]];{omega};omega};{apply Lr (N:=[n7]) (N':=e_);rw[av,[BV,hb,hts,hw,hss],[BI,hb,hts,hw,hss]];{omega};grind}
def Ws(hb:[aO])(h:[fU])(L:x∈[cG])(hw:[ez,[me],[jL]=af])(g:Nat)(q:[z6])(k:Nat)(S:aj):[cM,6,112,[dc,cI x,[l,g]],[ax,[nG,e9 b [me] g 30 0 e_,e9 b [me] (g+1) 30 0 e_-e9 b [me] g 30 0 e_]]]:=by rw[[cg]];have hu:=hb.ca.unit;rw[R,W,G,YM hb (Ts.of b _) hw uV g q];rw[ak,U,li _=jF b,rfl,e,[am,g]+(jF b).unit=[bb,[n7]],rfl,z,g+1=[cO,g+1],rfl];simp only[seval,Lx,KM h,U,e,z,QW _ _ _ g [n7] [g] k,QW hb h L _ [n7] [g] k,W,G]
def aof:ki 5 []=ae:=(rfl)
def amx:ki 6 []=ae:=(rfl)
def alE:ki 7 []=ae:=(rfl)
def alh:ki 8 []=ae:=(rfl)
def apC:ki 10 []=ae:=(rfl)
def am4:ki 11 []=ae:=(rfl)
def anK:ki 12 []=ae:=(rfl)
def exR{U:[aI]}(c:Nat)(S:aj):R U:=[kA,c]
def re(n lo q:Int)(k:Nat)(S:aj):[j8,1,86,[d5,[dm],lo,q],[ls],[bQ,n],5]:=by rw[[eN]];simp[LV];rw[D,m,n<lo];{rw[bM,u,[ls]=af,[eH,b3],m]};{rw[D,e,q<n];{have u:[ls]=af:=[eH,b3];rw[au,seval,m,e,u]};{have u:[ls]=ae:=[eH,b3];rw[bg,m,e,u]}}
def abD{J:[aI]}(C:J->D)(p:J->Bool)(c:Nat)(l:[h])(H:[gw,f (C x) S=[ao,p x,[Z,aa (C x)],[kA,c]]]):eJ f [aS,C] S=[ao,l.all p,[Z,[aS,C]],[kA,c]]:=by induction l with|nil=>rfl|cons x r q=>rw[V,L,H x (by simp),q,q [f]];rw[az,bT,eJ,fw,L,e8];rw[D,e,p x=ae];{rw[az,e,bI,fC,q,kK];rw[D,h,r.all p=ae];{simp[h,bI,fC,AS]};{simp[h,b8,wP,dj]}};{simp[e,b8,wP,nF,dj]}
def tm(l:[h])(lo q:Int)(k:Nat)(S:aj):[j8,2,87,[d5,[dM,D.int],lo,q],[ry,n,[ls]],[Z,[dM,D.int]],5]:=by rw[b',[cg],N5];rw[abD _ (λn=>[ls]) 5 l (λn _=>by simp[seval,re];rw[cR,[ls]=ae])];rw[cR,[ry,n,[ls]]=ae]
def LC(n:Nat)(G:Int):b3 n 0 G=ao (n<=G):=rfl
def zS(t:[h])(k:Nat)(S:aj):[j8,3,88,[[fH]],lF t,[Z,[fH]],5]:=by rw[bc,[cg],m,lF t=(ao _&&t.all _),rfl];rw[bY,Nt,re,aR,m,LC];rw[D,h,[mq]];{have u:[am,t.length]<=2000:=[g];rw[au,h,u,iK,kK];by_cases q:(t.all λc=>b3 c 0 255)=ae<;>simp[seval,tm,q]};{have u:¬[am,t.length]<=2000:=[g];rw[eU,h,u,j8,nF]}
def GG(n:Int)(k:Nat)(S:aj):[j8,2,89,[[dm]],[qZ,em],[bQ,n],5]:=by rw[bc,[cg],e,b_ em=40,rfl];rw[bg,Qg,re,e];rw[cR,b3 n 0 40=ae]
def DD(n:Int)(k:Nat)(S:aj):[j8,2,90,[[dm]],[qZ,dy],[bQ,n],5]:=by rw[bc,[cg],e,b_ dy=10000000,rfl];rw[bg,JP,re,e];rw[cR,b3 n 0 10000000=ae]
def A7(h:[gw,0<=x]):[oB]=[c_,[ie]]:=by rw[cy,cq];apply iL;rw[fN,jG,nD]
def aaA(h:[gw,0<=x]):l.sum=aH [ie]:=by rw[<-m4,cy,cq];rw[bA];(conv=>lhs;rw[<-v5 l]);apply iL;grind
def lA:b3 x lo q=ae↔[v_,x]:=by simp[b3]
def acn:b3 x lo q=af↔¬[v_,x]:=by simp[b3]
def Ab(n:Nat):b_ n=n:=rfl
def agH(l:[h])(k:Nat)(S:aj):[j8,3,91,[[dM,D.int]],[wY],[A,aH [ie]=0,[kA,12],[Z,[hq,[ie]]]],5]:=by rw[bc,[cg],e,b_ dy=10000000,rfl];rw[bY,KZ,re,aR,LC,e];rw[D,h,[E]<=20];{have u:[am,l.length]<=20:=[g];rw[au,h,u,iK,kK];rw[D,m,[ry,c,b3 c 0 10000000]=ae];{rw[V,z,[HZ,m],a,aaA z];rw[aJ,aH [ie]=0];{have:[cB,l.sum,0]:=[f];rw[eU,tm,m,this,q]};{have:[bE,l.sum,0]:=[f];simp[seval,tm,m,this,q,<-A7 z]}};{simp[seval,tm,m]}};{have u:¬[am,l.length]<=20:=[g];rw[eU,h,u,j8,nF]}
def xJ(i:Int)(k:Nat)(S:aj):[j8,1,93,[ti],[t1],[Z,cI [k1]],7]:=by rw[[eN]];simp[seval,Ph,aR];rw[D,m,i<1];{rw[bM,u,[t1]=af,[eH,b3],m]};{rw[D,q,[bP]<i];{(have u:[t1]=af:=by first|rfl|(rw[acn,Ab];omega));rw[bg,m,q,u]};{rw[aA,u,[rt],by first|(rw[lA,Ab];omega)|rfl,e,by have:=tT (b:=b) i.toNat [g] [g];rw[af,[ge,i.toNat=i],this,this]];rw[eU,m,q,u,e]}}
def VO(J:[aO])(i:Int)(k:Nat)(S:aj):[j8,2,94,[ti],[t1],[ao,[B'],[kA,10],[Z,cI [k1]]],7]:=by rw[[cg]];rw[ad,seval,QS,xJ];rw[D,h,[rt]];{(have j:[eS,i.toNat,[bP]]:=by rw[lA,Ab]at h;omega);obtain⟨_,m,z⟩:=J.item _ (jV _ j.1 j.2);have g:=BU m z;rw[ad,seval,h,g];rw[[oa,t,D.bl (! [jL]),q,by rw[R,x,B,[M,vS.mp q]];rw[bg,nD,oR t x B,cR]]];rw[ep];rw[al,e,((Ix (λt=>! [jL]) [Dq]).all id)=! [B'],by rw[v_,gZ];simp[ck,Iq,SQ,cR];rw[bb];{intro h t q;rw[cd,h t (vS.mpr [f])]};{intro h t q;rw[cd,h t [bo,vS.mp q]]},e];rw[D,u,[B']=ae];{simp[seval,u]};{simp[seval,u]}};{simp[seval,h]}
def DW(c:[h])(k:Nat)(S:aj):[j8,3,95,[dZ,[y2]],jI b c,[Z,[hq,cy c]],5]:=by rw[bc,[cg],e,b_ em=40,rfl];rw[az,seval,Oz,aR,jI,e];rw[D,h,[hZ]];{rw[K,u,(!([am,c.length]==[bP]))=af,[f],m,[cB,[dN],[bP]],[f]];rw[ad,u,m,kK];rw[aJ,(c.all λn=>b3 n 0 40)=ae];{have z:=[HZ,q];simp[seval,tm,q];simp[A7 z]};{simp[seval,tm,q]}};{rw[K,u,(!([dN]==[am,b.items.length]))=ae,[f],m,[bE,[dN],[bP]],[f]];rw[bg,u,m,nF]}
def abe(w:[h])(k:Nat)(S:aj):[j8,3,96,[dZ,[W,[vB]]],[A3],[Z,[hq,cy [mC]]],5]:=by rw[bc,[cg],e,b_ qu=3,rfl];rw[au,seval,OW,aR,e];rw[D,h,w.length<[cs]];{rw[K,u,[am,w.length]<[cs],[g],m,[bE,[Q,[mC]],[cs]],[f]];rw[au,seval,u,m,nF]};{rw[K,u,¬w.length<[am,b.bundles.length],[g],m,[cB,[Q,[mC]],[cs]],[f]];simp only[seval,u,m,kK,yb,<-Cy,tm,aR];rw[aJ,[hR,[mC],n,b3 n 0 3]=ae];{have z:=λx L=>[M,lA.mp (ck.mp q x L)];simp[seval,q,A7 z]};{simp[seval,q]}}
def Va(l:[ak])(i:Nat)(S:aj):gu [aV] (aa i) ag S=[Z,[W,[ed,i]]]:=by simp[gu,g6,nJ,Hr,cut];congr 2;rw[aiw];split;{rw[gH (by simp)]};{rw[o8 (by simp),o8 [g]];simp}
def ma(lo q:Int):([a0])->Bool|[]=>ae|n::r=>[ls]&&ma [aw] q r
def Ma(q:Int):[h0,l,lo,Int,1<=lo,ma lo q l=([ry,n,b3 n 1 q]&&(y3 [ie]&&[cX,l,[],ae,n::_,ao (lo<=n)]))]|[],lo,_=>rfl|[n],lo,h=>by simp[ma,e8,Io,yX,cy,bT,uo,y3,kK];rw[gZ];simp[aF,lA,d0];omega|n::G::r,lo,h=>by rw[ma];rw[D,e,[ls]=ae];{rw[lA]at e;rw[Ma _ _ _ [g]];rw[au,e8,cy,bT,y3];rw[gZ];simp[aF,lA,d0];grind};{have m:=[aD,e];rw[m,nF];symm;rw[yY];intro O;simp[aF,e8,lA,d0]at O;apply e;rw[cx,lA]}
def P6(q:Int)(l:[h]):ma 1 q l=([ry,n,b3 n 1 q]&&y3 [ie]):=by rw[Ma _ l 1 [g]];cases l with|nil=>rfl|cons n r=>rw[gZ];simp[aF,e8,lA];grind
def FB:∀l,y3 l=ae->rise l|[],_=>Ib|[a],_=>by simp[rise]|a::[cH],h=>by simp[y3,aF,d0]at h;have q:=FB _ [cU];rw[rise,kM];rw[a7,[gG],q];rw[aK,[c1,L],rfl,L];rw[ay];{exact y4 [dJ] ((kM.mp q).1 x L)}
def aeW(w:[h])(W:[qj])(k:Nat)(S:aj):[j8,2,97,[dZ,[W,[vB]]],ma 1 [rj] [ov],[Z,[dv,[ov],D.int]],5]:=by rw[[cg]];simp only[seval,Rq,aR,Va,<-yZ];have f:[aN,[ov],2000]:=[f];rw[bj,w.drop _,l];(have key:∀(l:[h])(lo:Int)(N:[ak])(h:Slot),[et]+[E]<=2000->[ao,ma lo [rj] l,∃d I,[F2]=[dK,[[cn],[fG,[vB]],[iX,[oB]],[ay,d],I]],[F2]=[kA,5]]:=by intro l;induction l with|nil=>intro lo N h _;exact#[lo,h,by simp[cW,M.pure]]|cons n r q=>intro lo N h U;rw[aH,b7,U];have g:[et]<lim:=[fs];rw[D,u,b3 n lo [rj]=ae];{have q:=q [aw] (N++[[dm]]) [ay,n] ([bC]);rw[aa,bT,cW];have a:[rj]=(b.coupons.length):=rfl;rw[a]at u q|-;simp[seval,aR,re,u,g,ma];rw[aH,en,q];exact q};{have O:=[aD,u];simp[bT,cW,ma,O,nF];rw[aI,a,b_ _=[bI],rfl,a,O];rw[bg,aR,re,O]});have:=key l 1 [] [V] [f];rw[D,L,ma 1 [rj] l=ae];{rw[aJ L]at this|-;rw[M,d,I,m,this];rw[a8,m]};{rw[aw L]at this|-;rw[a8,this]}
def VX(b:a7)(w:[h]):nO b w=[ao,[A3]&&ma 1 [rj] [ov],aa [l4,cy [mC],cy [ov]],ag]:=[fN,nO,P6]
def O8(J:[aO])(c w:[a0])(W:[qj])(k:Nat)(S:aj):[Gq,6,98,[bs,[[hq,cy c],[W,x.uses.map nD],[W,x.coupons.map nD]]]]:=by rw[[cg]];rw[ak,g,∀S,run prog _ 95 [oP] S=[ao,jI b c,.ok _ S,[kA,5]],DW c [ds],d,∀S,run prog _ 96 [oP] S=_,abe w [ds],h,∀S,[k3,5,97,[b6]]=_,aeW w W _];rw[ad,seval,Ks,g];rw[D,m,[so]];{rw[au,seval,m,d,VX];rw[D,u,[A3]=ae];{rw[au,seval,u,h,kK];rw[D,B,ma 1 [rj] [ov]=ae];{have z:=B;rw[P6,aF]at z;rw[a4,a,λx L=>lA.mp (ck.mp [cA] x L),f,[b7,[ov],0<=x],λx L=>[f],N,[b7,cy _,[eS,x,[bI]]],λx L=>by rw[M,y,q,rfl,b0.mp L];have:=a y q;rw[Ab]at this;omega];simp only[jI,aF,ip,ck]at m;rw[K,j,[Q,cy c]=[bP],by simp[cy,m.1],C,[b7,cy c,x<=40],[Hf,m,b_ em=40]];have O:=u;rw[aP,aF,ck,O];rw[ak,l,[Q,cy [mC]]=[cs],[hT,cy],I,[b7,cy _,x<=3],[Hf,O,b_ qu=3],i,[j5,run prog _ 79 [De] S],Kc J j C l I N (FB _ z.2) k];rw[au,seval,B,A7 f,i];rw[D,U,gJ b (cy c) [l4,cy [mC],cy [ov]]=ae];{rw[aa,seval,U]};{have s:=[aD,U];rw[aa,seval,s]}};{rw[aa,seval,B]}};{rw[ad,seval,u,nF]}};{have G:=[aD,m];rw[aa,seval,G]}
def sD(t:cK):D:=[eX,t]
def a8(r:bO):D:=[W,r.map sD]
def jn:bO->cK|[]=>[]|w::r=>w++r.flatMap λx=>32::x
def Hs(r:bO):SW r=jn r++[10]:=by cases r with|nil=>rfl|cons w r=>simp[SW,jn]
def LY(a c:cK):tx (a++c)=tx a++tx c:=by simp[tx]
def Lv:∀r,tx (jn r)=l9 [32] (r.map tx)|[]=>rfl|[w]=>by simp[jn,l9]|w::v::r=>by have q:=Lv (v::r);simp[bT,l9]at q|-;rw[<-q];rw[ad,jn,ir,LY];rw[bI,tx (32::v)=[32]++tx v,rfl]
def Gd(t:cK):[P]:=∀c∈t,[rI]
def Gd.app(m:Gd a)(u:Gd c):Gd (a++c):=λx L=>[d_,cs.mp L,h,h,m x h,u x h]
def Bh(h:[rI]):[c2]=c:=by simp[sg,aJ h];omega
def Gd.jn(h:∀w∈r,Gd w):Gd (jn r):=by cases r with|nil=>intro c O;rw[aH,Ir.jn,O]|cons w r=>refine Gd.app [f] λc O=>?_;rw[M,x,L,O,j_.mp O];rw[aK,[c1,O],rfl,O];{omega};{exact h x [f] c O}
def acq(h:Gd t):[S,tx t,[sR,n,n]]=t.map D.int:=by rw[tx,cq];rw[ba,iL,c,O];simp[jG,Bh (h c O)]
def Es(h:dU t=ae):Gd t:=by simp[dU,aF,ck]at h;intro c O;have:=[aE,h].1 c O;simp[gM,fm,kN,aF,d0]at this;omega
def acg(h:dU t=ae):[m_]<=8:=by rw[aH,dU,h];grind
def QX(n:Nat):∀c∈(kI n).toList,48<=c.toNat/\c.toNat<=57:=λc O=>by rw[aI,e,[CS],SX,e,O];have:=Nat.isDigit_of_mem_toDigits [g] [g] O;simp[Char.isDigit,aF,d0]at this;rw[aS,[m'],this.2]
def agK(n:Nat):Gd (bJ n):=λc O=>by rw[aP,bJ,b0,O];rw[M,x,L,rfl,O];rw[aM,QX n x L]
def Q1(n:Nat):tx (bJ n)=digits n:=by rw[au,tx,bJ,digits,cq];rw[ba,iL,x,L];have:=QX n x L;rw[fN,jG,sg]
def acx(n:Nat)(h:[nS]):[aN,bJ n,18]:=by have e:[CS]:=SX;simp[bJ,aR,e];exact(Nat.length_toDigits_le_iff [g] [g]).mpr h
def gS(n:Nat)(S:aj)(h:[nS]):dn .str [dm] S=[Z,sD (bJ n)]:=by simp[dn];rw[aJ [f],sD,Q1];rfl
structure Rw (r : bO) : Prop where
 len : r.length ≤ 40
 it : ∀ w ∈ r, w.length ≤ 20 ∧ Gd w
def G'(l:[h])(G:Nat)(h:[gw,x<=G]):l.sum<=[E]*G:=by induction l with|nil=>simp|cons a r q=>rw[V,m,q [f],u,[gF,a]];simp[aib,b7,yT];omega
def m6(t:cK):[Q,tx t]=[m_]:=by simp[tx]
def Ol(l:[h]):pE [aS,sD]=aa [aS,tx]:=Kn _ l
def Mg(h:Rw r)(k:Nat)(S:aj):[cM,1,21,[a8 r],sD (jn r)]:=by rw[[eN]];rw[K,m,([S,r.map tx,mu].sum+[Q,r.map tx]*[Q,[32]])<=lim,by have u:=G' [S,r.map tx,mu] _ (by rw[fE];rw[Y,m6,[M,h.it w W]]);simp[aR,b7,gK]at*;have:=h.len;rw[fs],u,jl .join [L,[32]] [W,r.map sD] S=[Z,[L,l9 [32] (r.map tx)]],by rw[az,jl,fw,Ol,l8,fC];rw[a8,aJ m]];simp[seval,K0,a8,u,sD,Lv]
def GF:∀l,l9 [] l=l.flatten|[]=>rfl|[w]=>by simp[l9]|w::v::r=>by rw[l9,GF _];{simp};simp
def J_(a:[h])(h:[ez,a,Gd t/\[mq]])(U:[bV]<=1000)(k:Nat)(S:aj):[dW,1,22,[[W,[kn]]],[u0],D.int]:=by rw[[eN]];simp[seval,RK];rw[[oa,t,sD (t++[10]),q,by rw[ak,m,[kd,tx t,[10]],by rw[m6];have:=[bo,h t q];simp[lim,b7,gK];omega,u,oH [eX,t] [L,[10]] S=[Z,[L,tx t++[10]]],by rw[ab,oH];rw[a8,aJ m],e,tx [10]=[10],rfl];rw[eU,sD,u,LY,e]]];rw[aA,A,[f4,λt=>sD (t++[10])]=[S,[f4,[t5]],sD],by simp,J,by have u:=G' [S,[Eh],mu] 2001 (by rw[fE];rw[a_,m6]);rw[ap,aR,u];exact c9 u (mz _ U)];rw[K,B,jl .join [L,[]] [dv,[f4,[t5]],sD] S=[Z,[L,[Eh].flatten]],by simp only[jl,fw,Ol,l8,fC,GF];rw[a8,aJ (by rw[aa,gK,lim];omega)],z,[Eh].flatten=tx [u0],by simp[tx,List.flatMap,List.map_flatten];rfl];rw[K,d,[aN,tx [u0],lim],by rw[<-z,List.length_flatten];rw[ej],j,[nn,7,[eX,[u0]],[cl,tx [u0],c,[L,[c]]]],by show [EK];rw[a8,aJ d]];rw[ca,A,B,z,j];rw[dG _ _ _ (λc O=>by rfl)];simp[seval];rw[acq (λc O=>by rw[M,t,q,O,j_.mp O];rw[sw,O,(h t q).1 c O])]
def agP:[d2,"has"]=[zf]:=by rfl
def adf:[d2,"uses"]=[yd]:=by rfl
def WR:[d2,"with"]=[Df]:=by rfl
def xU:[d2,"line"]=[nT]:=by rfl
def K8:[d2,"tax"]=[hL]:=by rfl
def Ea{U:[aI]}(C:U->D)(a:U->cK)(hd:∀x S,[g',C x])(h:∀x S,[ft,C x,0,[eX,a x]])(w:cK)(G:[h])(ns:[h])(m:Sq v (ns.map nD))(e:∀n∈ns,[nS])(k:Nat)(S:aj):[dW,1,99,[[eX,w],[W,[f5,C]],v],G.zip ns,[aF,a8 [w,a [H],bJ [X]]]]:=by rw[[eN]];rw[bg,Qt,m.zip,xM];rw[a8,dG _ _ _ (λp q=>by have:=e _ [bo,j9 q];rw[eU,nD,hd,h,gS _ _ this];rfl)]
def Zr(n:Nat):(digits n==[48])=ao (n=0):=by rw[gZ];simp[ip,d0];rw[bb];{intro h;rw[ak,e,[CS],SX,m,[S,y5 10 n,Sw]=[S,['0'],Sw],[bB,e,h],u,y5 10 n=['0'],by cases hh:y5 _ n with|nil=>grind|cons a r=>rw[hh]at m;simp[bT,uo,SY,aiA]at m;rw[m.2];rw[bA];exact Char.toNat_inj.mp m.1];rw[bn,q,Nat.ofDigitChars_ten_toDigits (n:=n),u,q];rw[jI,q]};{intro h;subst h;rfl}
def RX{U J:[aI]}(d:U)(F:U->Nat->J):[h0,G,ns,[h],[go]=[gI],(br [go]).filterMap [BR,[kM],G.getD i d]=[fc,(G.zip ns).filter [aF,! ao ([X]=0)],F [H] [X]]]|[],[],_=>rfl|[],[d4],h=>by rfl|[d4],[],h=>by simp|x::G,n::ns,h=>by have q:=RX d F G ns [f];rw[b7,yU,rO,rS];rw[eW,e,([BR,[io,n::ns],(x::G).getD i d]∘Cz)=[BR,[kM],G.getD i d],rfl]
structure jq (b : a7) : Prop where
 ok : ∀ x ∈ c_ b, dU x = ae
def jq.zT(h:jq b)(L:x∈[ht]):[sN]:=[x3]
def jq.item(h:jq b)(L:x∈[cG]):[sN]:=[x3]
def jq.iW(h:jq b)(L:x∈[iv]):[sN]:=[x3]
def jq.jO(h:jq b)(L:x∈[jv]):[sN]:=[x3]
def xw(b:a7)(i:Nat)(m:1<=i)(u:i<=[bI]):iM b i=(ug b i).name:=by have q:[cy]<[bI]:=[g];simp[iM,d3,ug,hY,dR,cQ q,g6,nJ]
def afH(J:[aO]){c C a:[aj]}(O:[hZ])(N:[k'])(U:[iG]=[cs])(hu:[lf])(Z:[r_])(dw:[bV]<=5)(k:Nat)(S:aj):[dW,2,100,[BH],o9 b c [fL],a8]:=by rw[aV [an] S (F:=Gy) Y Y Y];rw[K,m,∀S,[dW,1,99,[[L,[zf]],[W,[sk]],[hG]],b.items.zip c,[aF,a8 [p1,"has"]]],λS=>[bB,agP,Ea cI (·.name) [sy] [sy] [lE] [cG] c (e6 Y) (λn L=>[aM,N n L]) k S],u,∀S,[dW,1,99,[[L,[yd]],[vo],[W,[jr]]],[g_],[aF,a8 [p1,"uses"]]],λS=>[bB,adf,Ea dk (·.name) [sy] [sy] [m3] [iv] C (e6 Y) (λn L=>[aM,hu n L]) k S]];rw[V,q,J.ni,H,J.nb];let T:=[fc,b.items.zip c,([p1,"has"],[X])];let R2:=[fc,[g_],([p1,"uses"],[X])];rw[K,g,[S,b.items.zip c,[aF,a8 [p1,"has"]]]=T.map [sh],by rw[aa,T,cq];rfl,F,[S,[g_],[aF,a8 [p1,"uses"]]]=R2.map [sh],by rw[aa,R2,cq];rfl];rw[ak,A,[lz]<=8,by rw[ad,T,aR,mB];omega,Q,R2.length<=3,by rw[ad,R2,aR,mB];omega,y,[kd,T.map [sh],R2.map [sh]],by rw[aa,aR,lim];omega];rw[aY,seval,Gy,m,u,g,F,y];rw[<-de];rw[al,f,∀r∈T++R2,∃w n,r.1=[w,n,bJ r.2],λr h=>by rw[aK,cs.mp h,h,h];{rw[bP,p,h];exact [v1]};{rw[bP,p,h];exact [v1]},tV [sh] [um] [sh] (T++R2) (λr h=>by rw[M,w,n,e,f r h];rw[al,j,a8 r.1=[ax,[sD w,sD n,[L,digits r.2]]],by rw[e];rw[az,a8,bT,uo,sD,Q1],j];rw[aa,seval,Zr];rw[D,B,r.2=0];{rw[ad,seval,B,iK]};{rw[ad,seval,B,j8]})];rw[ep];rw[dG nD (λi=>a8 [[m5],iM b i]) a (λi s=>by rw[R,G,I,Z i s];rw[aY,seval,nD,wG i G I,xw b i G I,a8,sD,WR])];rw[K,z,[aN,(T++R2).filter [um],[Q,T++R2]],SO _ _,d,[kd,[cl,(T++R2).filter [um],r,a8 r.1],[f4,λi=>a8 [[m5],iM b i]]],by rw[cO]at z;rw[aa,aR,lim];omega];rw[aa,seval,d];rw[az,o9,de,cq,yW,en];rw[K,W,((kT b).filterMap [Cq])=[lO,T.filter [um]],by have:=RX [tJ,[],0,[]] (λx n=>[[lE],x.name,bJ n]) [cG] c O.symm;rw[aa,kT,ail];rw[ad,T,Iu,cq];rw[aU,[iM,([Cq]∘λi=>[Y])=λi=>[A0,c.getD i 0,(b.items.getD i [tJ,[],0,[]]).name]],this],P,[K2,C]=[lO,R2.filter [um]],by rw[ad,R2,eo,SJ];generalize [g_]=l;induction l with|nil=>rfl|cons p r E=>grind];rw[W,P,cq,cq];rfl
def agF(h:[Bh]=ae):Gd (ay s):=λc O=>[f]
def hO(h:([Bh]&&ao [zL])=ae):[zL]/\Gd (ay s):=by rw[aP,aF,d0,h];rw[aS,[cU],agF [dJ]]
def jU(h:dU t=ae):[m_]<=20/\Gd t:=#[[aM,acg h],Es h]
def fN(n:Nat)(h:[nS]):[aN,bJ n,20]/\Gd (bJ n):=#[[aM,acx n h],agK n]
def Rw.sM(h:[bV]<=20/\Gd a)(O:[dN]<=20/\Gd c)(hd:d.length<=20/\Gd d):Rw [a,c,d]:=#[by simp,λw W=>[f]]
def Rw.vD(h:[bV]<=20/\Gd a)(O:[dN]<=20/\Gd c):Rw [a,c]:=#[by simp,λw W=>[f]]
def QP(J:[aO])(U:[fb]):∀n∈qt b l,[nS]:=λn h=>by rw[Hm]at h;rw[bP,t,h];rw[ai,q,w_ U,m,iF b [h1] t<=[Q,[h1]]*100000000000,by rw[ba,mn,g,a];rw[R,m,u,q.ts g a];rw[bh,N,c9 (wC [DV]) q.le,c9 (c9 (zF J m u _ _) (rJ 4 (Im N _))) ([ah])]];have u:=mz 100000000000 q.len;omega
def MC(J:[aO])(U:[fb])(h:rT b l<100000000000000000):v9 b l<1000000000000000000:=by have:=Ff _ J.ca (rT b l) 1 [g];rw[eH,v9]
def Py(J:[aO])(U:[fb]):rT b l<100000000000000000:=[Ft]
def qW(b:a7)(l:[h7]):List bO:=[iB,[B_]]++([S,(d4 b).zip (qt b l),λx=>[ay "tax",[R],bJ [bD]]]++[[ay "sum",bJ (nM l)],[ay "due",bJ (rT b l)],[ay "pay",bJ (v9 b l)]])
def W5(J:[aO])(h:[fU])(U:[fb])(k:Nat)(S:aj):[dW,5,101,[dZ,[iS]],qW b l,a8]:=by rw[[cg]];rw[V,a,Py J U,c,MC J U a];rw[a4,d,yn U,e,[pe,[[L,[hL]],[b6],[b6]]],λS=>by exact Ea eg _ [sy] [sy] (ay "tax") [ht] _ (e6 Y) (QP J U) [f2] S,j,[pe,[[sU],[b6]]],GQ J h U k];rw[K,m,[pe,[dc,[b6],[b6]]],DA J U [ds],u,∀S,[p5,[[sU],[bK]]]=[bQ,v9 b l],A2 J h _ [g] [an]];have y:=BQ l [f2];simp[seval,PK];rw[bc,dG _ (λx=>a8 [B_]) l (λx L=>by rw[M,C,Z,x3,U.it x L];simp[seval,tT _ C Z,[fS,[bD]],a8,sD,xU,gN]),q,[aN,b.taxes.zip (qt b l),4],by rw[mB];rw[aM,J.nt]];rw[ai,z,U.len,O,[kd,[iB,a8 [B_]],[fc,b.taxes.zip (qt b l),a8 [p1,"tax"]]],by rw[aa,aR,lim];omega];simp only[seval,j,m,e,O,y,u,[fS,nM l],[fS,rT b l],gS _ _ [g]];rw[aJ (by rw[ad,cO,aR,lim];omega)];simp[qW,de,cq,en,d4,SJ];rfl
def FR(b:a7)(c:[h])(w:Way):up b c w=[S,o9 b c w++qW b (mC b c w),jn]:=by apply iL;intro r _;rw[Hs,List.dropLast_concat]
def EZ(z:jq b){c C a:[h]}(O:[hZ])(B:[k'])(hu:[lf])(N:[r_]):∀r∈o9 b c [fL],Rw r:=by intro r U;simp only[o9,cs,ui,b0]at U;rcases U with⟨i,h,q⟩|⟨p,J,q⟩|⟨i,h,rfl⟩;{rw[aC,q];rw[ay];{rw[aH,cX,q];subst q;simp[kT,b0,i9]at h;rw[M,j,P,rfl,h];rw[bp,m,e7 c [cT]<=40,B _ [ql],[Ds,z.item [E3]]]}};{rw[aC,q];{simp at q};{rw[aH,cX,q];subst q;have W:=j9 J;simp[eo,b0]at W;obtain⟨⟨x,L,e⟩,u⟩:=W;have:=hu _ u;rw[bB,e,[Ds,z.iW L]]}};{rw[R,G,I,N i h];rw[Y,xw b i G I,Rw.vD (hO Y) (jU (z.jO (wK i G I)))]}
def Hj(J:[aO])(q:jq b)(U:[fb]):∀r∈qW b l,Rw r:=by rw[V,a,Py J U,c,MC J U a];have d:=yn U;intro r h;simp only[qW,cs,b0,bX,dS,d5]at h;rcases h with⟨x,L,rfl⟩|⟨p,z,rfl⟩|rfl|rfl|rfl;{rw[bu,C,Z,x3,U.it x L,[Ds,q.item (jV _ C Z)]]};{have m:=j9 z;simp[d4,b0]at m;obtain⟨⟨x,L,e⟩,u⟩:=m;have:=QP J U _ u;rw[bB,e,Rw.sM (hO Y) (jU (q.zT L)) (fN _ this)]};rw[b9,Rw.vD (hO (rfl)) [fp],Rw.vD (hO Y) [fp],Rw.vD (hO Y) [fp]]
def NA(J:[aO])(c:[h])(w:Way):[aN,o9 b c w,11+w.coupons.length]:=by rw[V,q,J.ni,H,J.nb];simp[o9,cO,aR];rw[K,m,[aN,(kT b).filterMap [Cq],8],c9 (SL ..) (by simp[kT,q]),u,[aN,[K2,w.uses],3],c9 (SL ..) (by simp[mB,eo,aR];omega)];omega
def Nb(J:[aO])(U:[fb]):[aN,qW b l,47]:=by have:=U.len;have:=J.nt;simp[qW,cO,aR,mB,d4,b7,gK];omega
def KQ(J:[aO])(m:jq b)(i:[fU]){c C a:[h]}(O:[hZ])(B:[k'])(U:[iG]=[cs])(hu:[lf])(L:[r_])(h:rise a)(k:Nat)(S:aj):[dW,6,102,[BH],up b c [fL],sD]:=by rw[[cg]];rw[a4,dw,c9 [nA,h.imp [f],L] J.nc,q,fh b [zV],vj _ (vP J O B hu),e,[pe,[xP]],P7 J i (e6 Y) (e6 Y) O B hu L k];rw[K,d,[pe,[De]],afH J O B U hu L dw [f2],f,[pe,[oP]],W5 J i q k];rw[V,l,NA J c [fL],s,Nb J q];simp only at l;(have W:[kd,[jM,o9 b c [fL]],[jM,qW b [zV]]]:=by simp[aR,lim];omega);rw[bY,QH,e,d,f,W];rw[<-de,[oa,r,sD (jn r),h,by have g:Rw r:=[d_,cs.mp h,h,h,EZ m O B hu L r h,Hj J m q r h];simp[seval,Mg g]]];simp[FR,cq];rfl
def acF:[d2,"from"]=[us]:=by rfl
def aaC:[d2,"step"]=[ur]:=by rfl
def Wd:[d2,"free"]=[uu]:=by rfl
def xR:[d2,"of"]=[mD]:=by rfl
def abG:[d2,"on"]=[mL]:=by rfl
def acH:[d2,"in"]=[s5]:=by rfl
def qY:[d2,"coupon"]=[hF]:=by rfl
def Aa:[d2,"cap"]=[qs]:=by rfl
def AK:[d2,"when"]=[p2]:=by rfl
def Bs:[d2,"round"]=[i8]:=by rfl
def Cb:[d2,"cash"]=[ij]:=by rfl
def BC:[d2,"by"]=[jj]:=by rfl
def zW:[d2,"total"]=[pY]:=by rfl
def W7(J:[aO])(L:x∈[ht])(k:Nat)(S:aj):[cM,1,113,[dZ,eg x],a8 (nP b x)]:=by rw[[eN]];rw[V,O,J.rate x L,j,J.qN x L];rw[R,i,d,kO L];rw[R,C,I,J.over i x d];have G:=[dA,d];simp[seval,RJ,[fS,x.rate]];rw[D,W,x.within=ae];{have e:=j W;simp[seval,W,e,nP,a8,sD,K8,acH]};{have h:=[aD,W];rw[D,e,x.over=0];{simp[seval,h,e,nP,a8,sD,K8,abG]};{have q:[am,0]<x.over:=[g];rw[bY,h,q,oR (b:=b) x.over [g] [g],nP,e];rfl}}
def R0(f:[h])(a:cK)(W:tx a=f)(C:[h])(z:∀s∈C,[gr]<=40/\[ns]<=10000000)(N:[ak])(U:[et]+[iG]<=1000)(q:D)(h j:Slot)(k:Nat)(S:aj):∃I F,cW [oF,cf k,[wK,f]] [gs] (C.map eR) [JL] S=[dK,[[b_,bk],[oH],[b_,q],[iX,C.map [s9,a]],I,F,[V]]]:=by rw[M,l,m,u,kA (S:=S) (t:=[gs]) (b:=[oF,cf k,[wK,f]]) eR _ [tu,h,j,[[b_,bk],[oH],[b_,q],[iX,[cl,C.take i,s,[wB,a]]],h,j,[V]]] [JL] (by simp) (λi s e O#[h,j,J]=>by subst J;have B:=z s (cG O);rw[ae,G,[S,[qL],[s9,a]]=[S,C.take i,[s9,a]]++[[wB,a]],by rw[jH,O,de];rfl,#[_,[[b'],[b'],[b'],[pc],[ay,[gr]],[ay,[ns]],[V]],Y,?_,_,_,Y]];(have d:[iN,N++[cl,C.take i,s,[wB,a]]]:=by rw[au,cO,aR,o7,lim];omega);rw[G,<-en];generalize N++[fO,C.take i]=L at d|-;simp[seval,[fS,[gr]],[fS,[ns]],d,a8,sD,W])];grind
def aap(J:[aO])(L:x∈[cG])(U:x.volume.length<=5)(N:x.steps.length<=5)(k:Nat)(S:aj):[dW,1,114,[dZ,cI x],iw b x,a8]:=by rw[[eN]];rw[M,W,bU,q,J.item x L];rw[V,i,W.price,g,c9 [nA,bU,q] J.nt];simp[seval,MX];rw[dG _ (λt=>sD (wa b t)) [jF] (λt j=>by rw[R,h,B,q t j];simp[seval,nD,oR t h B];rfl)];simp[seval,[fS,[ea]],aR];rw[bc,aJ ([fs]),z,[ic,D.str [g8]::D.str (tx x.name)::sD (bJ [ea])::Ix (λt=>sD (wa b t)) [jF]]=a8 [AL],[gt,a8,de,cq]];simp[seval];rw[z];rw[M,Z,G,m,R0 _ _ acF _ W.gf [a8 _] [f] _ _ _ k S];rw[m];rw[ak,a,[aN,[KG],6],[f],p,[KG]=[GU],by simp,C,[jM,iw b x]=([GU]++x.steps.map [s9,[s7]])++[gn,x.free,f,[a8 [ay "free",x.name,bJ f.1,[pw],bJ [gv]]],[]],by simp[iw,bT,de,cq,en];rw[bx,x.free]];rw[p]at a|-;rw[C];generalize [fO,([ay _,x.name,bJ _]++x.taxes.map _)::x.volume.map _]=d at a|-;rw[ep];rw[M,I,F,u,R0 _ _ aaC _ W.step d [g] _ _ _ k S];rw[bc,u,e,[iN,d++x.steps.map [s9,[s7]]],by simp[cO,aR,lim];omega];generalize d++x.steps.map _=L2 at e|-;simp[seval];cases O:x.free with|none=>simp[seval,fD,iu]|some f=>rw[M,f1,f2,f3,W.free f O];simp[seval,fD,pD,[fS,f.1],[fS,[gv]],e,a8,sD,Wd,xR]
def Vo(ps:[h])(X:[g1,ps,[lu,[H],[bP],[X]<=40]])(N:[ak])(U:[et]+[mF]*2<=1000)(k:Nat)(S:aj):∃s I,cW [oF,cf k,[A_]] [3,4] (ps.map pD) [[cn],[tp],[ki],[V],[V]] S=[dK,[[cn],[tp],[iX,[S,ps.flatMap [AU],sD]],s,I]]:=by(have j:[JI]:=λl=>by induction l with|nil=>rfl|cons a r W=>grind);rw[aO,d,u,m,kA (t:=[3,4]) (b:=λe=>bh _ [A_] e) pD _ [tu,s,I,[[cn],[tp],[iX,[tU,i]],s,I]] [[cn],[tp],[ki],[V],[V]] (by simp) (λi p e q#[s,I,J]=>by subst J;rw[M,C,z,A,X p (cG q)];rw[a1,O,[tU,[Y]]=[tU,i]++[sD (gN b [H]),sD (bJ [X])],by rw[jH,q];simp,h,[Q,N++[tU,i]]+2<=lim,by rw[cO,aR,j,o7];rw[ej],#[_,[[b'],[b'],[pc],[ay,[H]],[ay,[X]]],Y,?_,_,_,Y]];rw[O,<-en];generalize N++[tU,i]=L at h|-;simp[seval,tT _ C z,[fS,[X]],h,gN,sD]),s,I,rfl,m];rw[af,nK,u,#[s,I,u]]
def pH(b:a7)(x:io):bO:=[ay "bundle",x.name,bJ [ea]]++x.parts.flatMap [AU]
def aat(J:[aO])(L:x∈[iv])(k:Nat)(S:aj):[cM,1,115,[dZ,dk x],a8 (pH b x)]:=by rw[[eN]];rw[dm];have U:=Ac J L;simp[seval,Rv,[fS,[ea]]];rw[M,s,I,e,Vo _ (λp q=>#[[M,u p q],[ae,u p q],[eT,u p q]]) [[dD],[dD],sD _] [f] k S];rw[a8,e]
def VR(J:[aO])(O:c∈[jv])(k:Nat)(S:aj):[cM,1,116,[dZ,eh c],a8 (qv b c)]:=by rw[aV k S (F:=DT) Y Y Y];rw[ag,m,u,z,L,J.jO c O];(have q:[d2,[ao,c.share,"off","less"]]=[ao,c.share,[j0],[pJ]]:=by split;{rfl};rfl);rw[az,seval,DT,[fS,c.value],qv,a8];rw[D,h,c.item=0];{rw[aa,seval,h];cases e:c.cap with|none=>rw[bt];rw[D,U,[lM]=0];{rw[aY,seval,U,Iy,aiB,sD,qY,q]};{have f:[Fc]:=[g];simp only[seval,U,f,[fS,[lM]],lim,sD,qY,q,AK]}|some x=>rw[bl,C,Z,z x e,g,0<[am,x],[g]];rw[au,seval,g,[fS,x],lim];rw[D,U,[lM]=0];{rw[bY,U,sD,qY,q,Aa]};{have f:[Fc]:=[g];simp only[seval,U,f,[fS,[lM]],lim,sD,qY,q,AK,Aa]}};{have d:[am,0]<c.item:=[g];rw[az,seval,h,d,tT (b:=b) c.item [g] u,lim];cases e:c.cap with|none=>rw[D,U,[lM]=0];{simp only[seval,U,Iy,sD,qY,q,xR,gN]};{have f:[Fc]:=[g];simp only[seval,U,f,[fS,[lM]],lim,sD,qY,q,AK,xR,gN]}|some x=>rw[bl,C,Z,z x e,g,[am,0]<x,[g]];rw[au,seval,g,[fS,x],lim];rw[D,U,[lM]=0];{simp only[seval,U,Iy,aiB,bI,sD,qY,q,Aa,xR,gN]};{have f:[am,0]<[lM]:=[g];simp only[seval,U,f,[fS,[lM]],lim,sD,qY,q,AK,Aa,xR,gN]}}
def ZI(J:[aO])(m:p∈[nr])(k:Nat)(S:aj):[cM,1,117,[dZ,pD p],a8 [tW]]:=by rw[[eN]];rw[M,a,z,d,J.apart p m];rw[bM,L,[nn,0,pD p,[nD _,nD _]],rfl,NT];have e:=dG (f:=turn (cf k) ((((Ex.v 0).av 20).ix ((Ex.v 2).sub (Ex.c [cz,1]))).av 0) [2] [] [Slot.val [b5],Slot.val (pD p),Slot.un]) (S:=S) nD (λi=>sD (iM b i)) [[H],[X]] (λi h=>by have q:[eS,i,[bI]]:=[f];rw[eU,nD,wG i [db] q.2,xw b i [db] q.2,sD]);simp[bT,uo]at e;rw[a8,e]
def vp(b:Env->M Flow)(t:[aj])(r:[ak])(f:Flow)(S:aj):[i0]:=[J8,e,cW b t r e S]
def an2(b:Env->M _)(t:[h])(r:[ak])(e:Env)(S:aj):vp b t r (.nx e) S=cW b t r e S:=(rfl)
def V4(b:Env->M _)(t:[h])(r:[ak])(e:Env)(S:aj):vp b t r (.bk e) S=[dK,e]:=(rfl)
def als(b:Env->M _)(t:[h])(r:[ak])(d:D)(S:aj):vp b t r [po] S=[iw,d]:=(rfl)
def qM(b:Env->M _)(t:[h])(e:Env)(S:aj):cW b t [] e S=[dK,e]:=(rfl)
def iY(b:Env->M _)(t:[h])(d:D)(r:[ak])(e:Env)(S:aj):cW b t (d::r) e S=[ff,[gT,gc e t d],z,b z S,f,vp b t r f S]:=by rw[ba,bM,z,S];rw[ba,bM,f,S];rw[bx,f]
def apd(s:[h])(l:[h])(S:aj):gy [c'] [b3] S=[Z,[er,bK l [c']]]:=(rfl)
def apq(s:[h])(l:[h])(S:aj):[zA,[b3],[c']]:=(rfl)
def rr(b:a7):List bO:=jb "round" [mO]++(jb "cash" b.cash++[gn,b.byLine,x,[[ay "by",ay [ao,x,"line","total"]]],[]])
def vH(x:o5)(S:aj):[nn,0,lQ x,[nD x.rule,nD x.unit]]:=rfl
def Zb(J:[aO])(h:[fU])(k:Nat)(S:aj):[dW,1,118,[[b5]],rr b,a8]:=by rw[aV k S (F:=EI) Y Y Y];rw[K,j,bK st [L,[i8]]=b.rounding.map lQ,h.ro,e,bK st [L,[ij]]=b.cash.map lQ,h.ca];rw[K,s,bK st [re]=b.byLine.map tS,h.lu,a,∀(x:o5)(I O d B:Slot),x.rule<=9->x.unit<=10000->eJ (turn (cf k) (.b1 .str [ai]) [3] [] [I,O,d,B]) [nD x.rule,nD x.unit] S=[Z,[sD (bJ x.rule),sD (bJ x.unit)]],λx I O d B W hu=>dG nD (λn=>sD (bJ n)) [x.rule,x.unit] (λn f=>by have L:[nS]:=[f];rw[ad,seval,nD,gS n _ L])];rw[az,seval,EI,iY,j,rr];rw[V,U,J.ro,C,J.ca];simp only[nH,jF]at U C;cases m:b.rounding with|none=>(cases u:b.cash with|none=>(cases q:b.byLine with|none=>simp only[seval,qw,nQ,iY,qM,e,s,u,q,jb]|some y=>cases y<;>simp only[seval,qw,g6,nQ,o_,iY,qM,j,e,s,m,u,q,jb,lim,a8,sD,BC,zW,xU,tS])|some z=>rw[u]at C;rw[ap,nJ,C];cases q:b.byLine with|none=>simp only[seval,qw,g6,nQ,o_,iY,qM,j,e,s,m,u,q,jb,vH,[xM],lim,a8,sD,Cb]|some y=>rw[fa,[xM],Cb])|some x=>rw[m]at U;cases u:b.cash with|none=>(cases q:b.byLine with|none=>simp only[seval,qw,g6,nQ,o_,iY,qM,j,e,s,u,q,jb,vH,[xL],lim,a8,sD,Bs]|some y=>rw[fa,[xL],Bs])|some z=>rw[u]at C;cases q:b.byLine with|none=>simp only[seval,qw,g6,nQ,o_,iY,qM,j,e,s,m,u,q,jb,vH,[xL],[xM],lim,a8,sD,Bs,Cb]|some y=>cases y<;>simp only[seval,qw,g6,nQ,o_,iY,qM,j,e,s,m,u,q,jb,vH,[xL],[xM],lim,a8,sD,Bs,Cb,BC,zW,xU,tS]
def Mj(b:a7):rY b=[ms,nP b]++([CW]++([mg,pH b]++([j9,qv b]++([ol,[aF,[tW]]]++rr b)))):=rfl
structure vd (b : a7) : Prop where
 gf : ∀ x ∈ b.items, x.volume.length ≤ 5 ∧ x.steps.length ≤ 5
 ap : b.apart.length ≤ 100
 q0 : b.apart.Nodup
def Gj(b:a7)(x:dZ)(h:[Jb]):[aN,iw b x,12]:=[fN,iw,b7]
def Q5(J:[aO])(u:vd b):[uj,[h],x∈[cG],iw b,[E]*12]:=by intro l;induction l with|nil=>simp|cons x r q=>intro h;rw[jK,I,Gj b x (u.gf x [f])]
def Ww(J:[aO])(u:vd b)(t:[fU])(k:Nat)(S:aj):[dW,2,119,[[b5]],rY b,a8]:=by rw[aV [an] S (F:=DO) Y Y Y];rw[V,I,J.nt,q,J.ni];rw[V,H,J.nb,r,J.nc];have Q:=u.ap;rw[aa,seval,DO];rw[dG eg [DH] [ht] (λx L=>[aa,seval,W7 J L])];rw[ep];(have key:∀(N:[ak]),[et]<=4->∃z,cW [fh,1,[CK]] [2] [sk] [pX,[ki],[V]] S=[dK,[pX,[iX,[jM,[CW]]],z]]:=λN hL=>by rw[M,e',F,h4,[j2,[2],1,[CK],cI,[cG],λi e=>∃z,e=[pX,[iX,[t2,i]],z],[pX,[ki],[V]],[qT,[V]],λi x e L#[z,X]=>by subst X;rw[V,a,cG L,W,u.gf x a];(have n:[t2,[Y]]=[t2,i]++[jM,iw b x]:=by rw[jH,L,rN,de];simp);rw[V,Z,Q5 J u (b.items.take i) (λy G=>Ie G),qk,Gj b x W];rw[ae,nq,[kd,N++[t2,i],[jM,iw b x]],by rw[cO,aR,aR];rw[o7]at Z;rw[ej],#[_,[pX,[iX,[t2,[Y]]],[oH]],Y,?_,_,Y]];rw[n,<-en];rw[ad,seval,aap J a W.1 W.2,nq]]];grind);rw[R,z,F,key [ms,[DH]] [q,aR,I]];rw[F];rw[a4,Z,Q5 J u [cG] (λy G=>G),w,[aN,[A4],100],[f],d,[jM,rY b]=[A4]++[mg,[uH]]++[j9,[BP]]++[ol,[aF,a8 [tW]]]++[jM,rr b],by rw[au,Mj,de,cq,en];rfl];rw[d];generalize [A4]=A at w|-;rw[ep];rw[dG dk [uH] [iv] (λx L=>[aa,seval,aat J L])];rw[K,h,A.length+[Q,[mg,[uH]]]<=lim,[qt],v,[aN,A++[mg,[uH]],103],[f]];generalize [mg,[uH]]=B at h v|-;rw[aa,seval,h];rw[dG eh [BP] [jv] (λc O=>[aa,seval,VR J O])];rw[e3,f,A++B,[j9,[BP]],P,A++B,108,j,l];rw[aa,seval,f];rw[dG pD [aF,a8 [tW]] [nr] (λp hp=>[aa,seval,ZI J hp])];rw[e3,g,l++j,[ol,[aF,a8 [tW]]],T,l++j,208,E,C];rw[K,hS,[aN,rr b,3],by rw[aa,rr,cO];rw[eW,m,∀(s:String)(o:[be,o5]),[aN,jb s o,1],[KP]],U,[kd,C++E,[jM,rr b]],[qt]];rw[au,seval,g,Zb J t,U]
def PJ(J:[aO])(N:jq b):∀r∈rY b,Rw r:=by have S:∀{s},([Bh]&&ao [zL])=ae->[zL]/\Gd (ay s):=hO;intro r z;rw[Mj]at z;simp only[cs,b0,j_]at z;rcases z with⟨x,L,rfl⟩|⟨x,L,z⟩|⟨x,L,rfl⟩|⟨c,O,rfl⟩|⟨p,H,rfl⟩|z;{have v:=J.rate x L;rw[R,i,d,kO L];rw[R,Q,o2,J.over i x d];rw[V,G,[dA,d],B,jU (N.zT L)];rw[bb];{rw[ab,nP];split;{simp};{split<;>simp}};{intro w W;simp only[nP,cs,bX,dS,d5]at W;rcases W with(rfl|rfl|rfl)|W;rw[b9,[eK],B,[fp]];{rw[aC,W];{rw[ap,dL,W];rw[bf,W,[eK]]};{rw[a0,[c1,W],rfl,W,[eK]];{rw[aC,W];{simp at W};{rw[aB,k];rw[cW,W,[eK],jU (N.zT (sO x.over [g] [g]))]}}}}}};{rw[M,W,bU,q,J.item x L];rw[V,B,jU (N.item L),g,c9 [nA,bU,q] J.nt];have H:=W.price;simp only[iw,bX,cs,b0]at z;rcases z with rfl|⟨s,I,rfl⟩|⟨s,I,rfl⟩|z;{rw[bb];{rw[au,cO,b7,gK,aR];omega};{intro w h;simp only[cs,bX,dS,d5,b0]at h;rcases h with(rfl|rfl|rfl)|⟨t,Z,rfl⟩;rw[b9,[eK],B,[fp]];{rw[aG,F,n,q t Z,jU (N.zT (sO t F n))]}}};{have:=W.gf s I;rw[eG]};{have:=W.step s I;rw[eG]};{cases P:x.free with|none=>rw[eM,P,z]|some f=>rw[P]at z;rw[M,f1,f2,f3,W.free f P];rw[ap,dL,z];rw[a2];rw[a7,by simp,λw h=>?_];rw[cg,h];rcases h with rfl|rfl|rfl|rfl|rfl;rw[av,[eK],B];rw[b9,[fp],[eK],[fp]]}};{rw[dm];rw[V,E,Ac J L,B,jU (N.iW L)];(have j:[JI]:=λl=>by induction l with|nil=>rfl|cons a r A=>rw[ir,cO,A];rw[aa,b7,gK];omega);rw[bb];{rw[pH,cO,j];rw[aa,b7,gK];omega};{intro w h;simp only[pH,cs,bX,dS,d5,j_]at h;rcases h with(rfl|rfl|rfl)|⟨p,H,rfl|rfl⟩;rw[av,[eK],B];rw[av,[fp],jU (N.item (jV [H] [M,u p H] [ae,u p H]))];{have:=[eT,u p H];exact [fp]}}};{rw[ag,m,u,y,T,J.jO c O];have B:=jU (N.jO O);rw[bb];{rw[au,qv,cO,b7,gK];grind};{intro w h;simp only[qv,cs,bX,dS,d5]at h;rcases h with(rfl|rfl|rfl|rfl)|h|h|h;rw[av,[eK],B];{split<;>exact [eK]};{exact [fp]};{rw[a6];{rw[hE]};{rw[cW,h,[eK],jU (N.item (jV c.item [g] u))]}};{cases e:c.cap with|none=>rw[eM,e,h]|some x=>rw[e]at h;have:=y x e;rw[cW,h,[eK],[fp]]};{rw[a6];{rw[hE]};{rw[cW,h,[eK],[fp]]}}}};{rw[M,X,p2,o,J.apart p H];rw[a3,xw b [H] [g] [g],xw b [X] [g] [g],Rw.sM [eK] (jU (N.jO (wK [H] [g] [g]))) (jU (N.jO (wK [X] [g] [g])))]};{rw[V,U,J.ro,C,J.ca];simp only[nH,jF]at U C;rw[aP,rr,cs,z];rcases z with z|z|z;{cases m:b.rounding with|none=>rw[fo,m,z,jb]|some x=>rw[m]at z U;rw[ap,nJ,U];have:=U.rule;have:=U.unit;rw[aP,jb,dL,z];rw[bf,z,Rw.sM [eK] [fp] [fp]]};{cases m:b.cash with|none=>rw[fo,m,z,jb]|some x=>rw[m]at z C;rw[ap,nJ,C];have:=C.rule;have:=C.unit;rw[aP,jb,dL,z];rw[bf,z,Rw.sM [eK] [fp] [fp]]};{cases m:b.byLine with|none=>rw[eM,m,z]|some x=>rw[cD,m,z,dL];cases x;rw[av,Rw.vD [eK] [eK],Rw.vD [eK] [eK]]}}
def UY(h:Rw r):[aN,jn r,2000]:=by have U:=h.len;cases r with|nil=>simp[jn]|cons w r=>rw[ec]
def ahd(J:[aO])(u:vd b)(e:jq b)(h:[fU])(U:[aN,rY b,1000])(k:Nat)(S:aj):[dW,3,120,[[b5]],bookText b,D.int]:=by rw[[cg]];have g:=PJ J e;simp[seval,J',Ww J u h];rw[[oa,r,sD (jn r),q,by simp[seval,Mg (g r q)]]];rw[al,A,[S,rY b,λr=>sD (jn r)]=[S,[S,rY b,jn],sD],by simp,A];have j:=J_ _ (λt L=>[bu,r,q,rfl,b0.mp L,#[Gd.jn λw W=>[bo,(g r q).it w W],UY (g r q)]]) [f] [an];rw[aa,seval,j];congr 2;simp[SS];congr 2;funext r;exact [dH,Hs r]
def eW(c:Int):cK->List cK|[]=>[[]]|[bn]=>[KA,eW c r]
def Hv(c:Int)(t:cK):eW c t≠[]:=by cases t with|nil=>simp[eW]|cons x r=>rw[b0,eW]
def O0(O:c=10\/c=32):sg x=c.toNat↔x=c:=[b0,sg]
def EJ(c:Int)(O:c=10\/c=32):∀t,jw c.toNat (tx t)=[S,eW c t,tx]|[]=>rfl|[bn]=>by rw[ai,q,EJ c O r,e,tx [bn]=sg x::tx r,rfl];rw[e];simp[jw,eW,q];rw[D,h,x=c];{rw[aU,aJ ((O0 O).mpr h),aJ h]};{rw[aw (λa=>h ((O0 O).mp a)),aw h];cases J:eW c r with|nil=>rfl|cons w ws=>rfl}
def pL(l:List cK):List cK:=[d6,l.getLast?,aa [],l.dropLast,l]
def Yz(a w:cK)(ws:[h]):pL (a::w::ws)=a::pL (w::ws):=by simp[pL,List.getLast?_cons_cons];split<;>simp
def Dx:∀(t d:cK),nR d t=pL [ya,eW 10 t,d.reverse,d.reverse++w]|[],d=>by(simp[nR,eW];cases d with|nil=>rfl|cons a r=>rw[ab,pL];simp)|[bn],d=>by simp[nR,eW];rw[D,h,x=10];{rw[aJ h,aJ h,Dx r _];cases q:eW _ r with|nil=>rw[bi,q,Hv _ r]|cons w ws=>simp[iu,List.reverse_nil,wb,Yz]};{rw[aw h,aw h,Dx r _];cases q:eW 10 r with|nil=>rw[bi,q,Hv 10 r]|cons w ws=>simp}
def ES(t:cK):nR [] t=pL (eW 10 t):=by rw[Dx];cases h:eW _ t with|nil=>rfl|cons w ws=>simp
def GY:∀(t d:cK),jc d t=[ok,[ya,eW 32 t,d.reverse,d.reverse++w],w,! w.isEmpty]|[],d=>by(simp[jc,eW];cases d with|nil=>rfl|cons a r=>simp)|[bn],d=>by simp[jc,eW];rw[D,h,x=32];{rw[a_,GY r _]};{rw[aw h,aw h,GY r _];cases q:eW _ r with|nil=>grind|cons w ws=>simp}
def NM(t:cK):[kw]=[ok,eW 32 t,w,! w.isEmpty]:=[a_,GY]
def Vg(c:Int)(h0:0<=c)(m:c<=255)(k:Nat)(S:aj):[cM,1,18,[[l,c]],[L,[[c2]]]]:=by rw[b',aV k S (F:=D9) Y Y Y,D9];rw[K,a,∀i:Nat,i<26->eC [AE] [aP] S=[Z,[L,[97+i]]],by intro i O;have:[H8,i=9\/i=10\/i=11\/i=12\/i=13\/i=14\/i=15\/i=16\/i=17\/i=18\/i=19\/i=20\/i=21\/i=22\/i=23\/i=24\/i=25]:=[g];rcases this with rfl|rfl|rfl|rfl|rfl|rfl|rfl|rfl|rfl|rfl|rfl|rfl|rfl|rfl|rfl|rfl|rfl|rfl|rfl|rfl|rfl|rfl|rfl|rfl|rfl|rfl<;>rfl,d,∀i:Nat,i<10->eC [Bk] [aP] S=[Z,[L,[48+i]]],by intro i O;have:[H8,i=9]:=[g];rcases this with rfl|rfl|rfl|rfl|rfl|rfl|rfl|rfl|rfl|rfl<;>rfl];rw[D,z,97<=c];{rw[D,j,c<=122];{rw[fp,97,z,j,a _ [g]]};{rw[K,q,¬c<=57,[g],H,[bE,c,32],[bC]];rw[ak,u,[bE,c,10],[bC],h,[c2]=63,by rw[ab,sg];rw[aw [g]],U,48<=c,[g]];simp only[seval,z,j,q,H,u,U,h]}};{rw[aa,seval,z];rw[D,b1,48<=c];{rw[D,b2,c<=57];{rw[fp,48,b1,b2,d _ [g]]};{rw[ak,H,[bE,c,32],[bC],u,[bE,c,10],[bC],h,[c2]=63,by rw[ab,sg];rw[aw [g]]];rw[bY,b1,b2,H,u,h]}};{rw[aa,seval,b1];rw[D,B,c=32];{subst B;rw[aa,seval,CA];rfl};{have H:[bE,c,32]:=[bC];rw[D,I,c=10];{subst I;rw[gt,seval,H,CA]};{rw[K,u,[bE,c,10],[bC],h,[c2]=63,by rw[ab,sg];rw[aw [g]]];rw[au,seval,H,u,h]}}}}
def adM(l:[aj]):[aS,λc=>[c]].flatten=l:=by induction l with|nil=>rfl|cons a r q=>grind
def Lm(t:cK)(q:[nf])(k:Nat)(S:aj):[dW,2,19,[[fH]],nR [] t,sD]:=by rw[[cg]];simp[lF,aF,d0,ck]at q;rw[aa,seval,QE];rw[dG _ (λc=>D.str [[c2]]) t (λc O=>by have:=lA.mp (q.2 c O);simp[seval,Vg c [m'] this.2])];rw[ak,h,pE _=aa [C'],Kn ..,L,jl .join [L,[]] [W,t.map λc=>D.str [[c2]]] S=[Z,[eX,t]],by simp only[jl,fw,h,l8,fC,GF];have m:=G' [S,[C'],mu] 1 (by simp);rw[aJ (by simp[aR,gK,lim]at*;omega)];(have:[C'].flatten=tx t:=by rw[tx,<-adM (t.map _),cq];rfl);rw[a8,this],C,[IY,10],[F_,10,e6 Y]];rw[au,seval,L,C,E1];rw[ES];generalize X:eW _ t=ps;rw[V,u,X▸Hv _ t,U,aiC u];have i:(ps.map sD).getLast?=aa (sD (ps.getLast u)):=[f];rw[ad,i,pL,U];cases y:ps.getLast _ with|nil=>rw[K,e,[cB,tx [],[]],rfl,B,[tx,ps.map λt=>D.str (tx t)]=af,[a']];rw[[iM,(Ix sD _)=ps.map (λt=>D.str _)]]at*;simp[B,List.map_dropLast];rfl|cons a r=>rfl
def Go(t:cK)(q:[mq])(k:Nat)(S:aj):[cM,1,20,[sD t],a8 [kw]]:=by rw[bc,[eN],B,[IY,32],[F_,32,kQ Y]];rw[bg,Lc,sD,B];rw[tV _ (λw=>! w.isEmpty) sD _ (λw _=>by have e:(tx w==[])=w.isEmpty:=[bx,w];rw[fN,seval,sD])];simp[seval,NM,a8]
def OY(c:Int):[c2]<128:=[b0,sg]
def GP(t:cK):plain (tx t)=ae:=by simp[plain,tx,v_,ck,jG,d0];exactλc _=>OY c
def AZ(c:Int):([rI]/\[c2]=c)\/(¬[rI]/\[c2]=63):=by rw[D,h,[rI]];rw[av,e6 #[h,Bh h],kQ #[h,[b0,sg]]]
def Au(c:Int):(lj [c2]||(pJ [c2]||pP [c2]))=(gM c||fm c):=by rw[gZ];simp[lj,pJ,pP,gM,fm,kN,aF,d0];rw[aM,AZ c]
def U4(c:Int):(pJ [c2]||pP [c2])=gM c:=by rw[gZ];simp[pJ,pP,gM,kN,aF,d0];rw[aM,AZ c]
def QQ(c:Int):lj [c2]=fm c:=by rw[gZ];simp[lj,fm,aF,d0];rw[aM,AZ c]
def yd(L:Gd x)(z:Gd y)(h:tx x=tx y):x=y:=[eW,e,∀{t},Gd t->[fO,tx t]=t,λ{t}q=>by rw[tx,cq];(conv=>rhs;rw[<-v5 t]);rw[ba,iL,c,O];exact Bh (q c O)]
def uZ(h:t.all [hI]=ae):Gd t:=λc O=>by have:=ck.mp h c O;simp[gM,fm,kN,aF,d0]at this;omega
def q4:[lx]:=[[hL],[s5],[mL],[ut],[g8],[us],[ur],[uu],[mD],[l_],[hF],[j0],[pJ],[qs],[p2],[xX],[i8],[ij],[jj],[nT],[pY]]
def Yx:wE=q4.map D.str:=rfl
def Yv(s:[h]):j1 [c'] wE=q4.contains s:=by rw[Yx,j1,rR,Ip];rw[cb,y];rw[fN,jG,D.beq]
def Vb:∀k∈uq,Gd k:=by(have h:(uq.all λk=>k.all [hI])=ae:=by rfl);intro k e;exact uZ [f]
def ahj(s:[h]):q4.contains s=(uq.map tx).contains s:=by rw[K,m,(q4.all λa=>(uq.map tx).contains a)=ae,rfl,u,[hR,uq.map tx,a,q4.contains a]=ae,rfl];grind
def quoted(L:Gd x):q4.contains (tx x)=uq.contains x:=by rw[ahj,gZ,rQ,b0];rw[bb];{rintro⟨k,q,e⟩;rw[<-yd (Vb k q) L e];grind};grind
def QR(s:[h])(S:aj)(h:s.length<=2000):[vk,[c'],s.length]:=by simp[dn];rw[a8,aJ ([fs])]
def WD(x:cK)(L:[eV]<=2000)(k:Nat)(S:aj):[cM,1,23,[sD x],[bh,dU x]]:=by rw[[eN]];rw[K,U,[aN,tx x,2000],[a_,m6],m,dn .isalnum [eX,x] S=[dT,! x.isEmpty&&x.all [hI]],by simp[dn];rw[aJ (GP x)];rw[K,q,[tx,tx x]=x.isEmpty,[bx,x],a,[hR,tx x,c,lj c||(pJ c||pP c)]=x.all [hI],by rw[tx,v_];rw[cb,c];exact Au c];rw[aU,q,a]];rw[bY,Qv,sD,QR _ _ U,m,m6];rw[D,z,[eV]<=8];{have e:[yQ]:=[g];rw[ab,e];cases x with|nil=>rfl|cons c r=>rw[D,h,([cH].all [hI])=ae];{rw[a4,f,uZ h,u,[J1],by simp[eC];rw[aJ ([fs]),[iM,tx _=[c2]::tx r],Ld];rfl,B,dn .isalpha [L,[[c2]]] S=[dT,gM c],by simp[dn];(have:plain [[c2]]=ae:=by simp[plain,OY]);rw[aJ this];simp[e8,Io,yX,U4];rfl];rw[K,j,gy [eX,[cH]] (.b6 wE) S=[Z,uq.contains [cH]],by rw[ab,gy];(have J:wE.all D.atom=ae:=by rfl);rw[aU,Yv,quoted f],O,dU [cH]=(gM c&&! uq.contains [cH]),by rw[K,l,ao (1<=[Q,[cH]])=ae,rfl,s,ao [aN,[cH],8]=ae,[f]];rw[aY,dU,l,s,kK,h,ur,Option.any_some]];rw[O];simp[seval,h,SZ,kK,u,B];rw[D,H,gM c=ae];{rw[bg,H,j,kK]};{simp[seval,H,nF]}};{(have O:dU [cH]=af:=by simp[dU,h]);rw[bg,h,O,SR]}};{rw[K,e,¬[yQ],[g],O,dU x=af,by simp[dU,z]];simp[seval,e,O]}
def MV:∀(x:cK)(n:Nat),x.all fm=ae->(tx x).foldl [Cy] n=[hf,x.foldl [Cy] [kL]]/\0<=x.foldl (λ(n:Int)c=>10*n+(c-48)) n|[],n,_=>by simp[tx]|[cH],n,h=>by rw[aP,e8,fm,h];have q:[c2]=c.toNat:=[b0,sg];rw[ai,m,MV r (10*n+([c2]-48)) [f],e,[DI],rfl];grind
def Yf(x:cK)(L:[eV]<=2000)(k:Nat)(S:aj):[cM,1,24,[sD x],[bh,[er,mD x]]]:=by rw[aV k S (F:=Eb) Y Y Y];rw[K,U,[aN,tx x,2000],[a_,m6],m,dn .isdigit [eX,x] S=[dT,! x.isEmpty&&x.all fm],by rw[ab,dn];rw[aJ (GP x)];rw[K,J,[tx,tx x]=x.isEmpty,[bx,x],C,((tx x).all lj)=x.all fm,by rw[tx,v_];rw[cb,c];exact QQ c];rw[aU,J,C]];rw[bY,Eb,sD,QR _ _ U,m,m6];rw[D,I,[eV]<=8];{have f:[yQ]:=[g];rw[aa,seval,f];cases x with|nil=>rfl|cons c r=>rw[D,z,[kl,[cH],fm]];{(have u:[J1]:=by rw[ab,eC];rw[aJ ([ej]),[iM,[DI]],Ld];rfl);rw[ai,O,by simp only[e8,aF,fm,d0]at z;exact [cA],j,[c2]=c.toNat,[hT,sg]];rw[az,seval,z,SZ,kK,u];rw[al,a,[er,mD [cH]]=[Bx],by(have e:(1<[Q,[cH]]/\[cH].head?=aa 48)↔¬[Bx]=ae:=by simp only[kN,Iq,ip,ur,cX,b7];rw[al,J,[DI],rfl,J];cases r with|nil=>rw[aY,gK,SY,CF,ut,ne_eq,tx,uo];omega|cons d q=>(have:¬([c2]::tx (d::q)=[48]):=by simp[tx]);rw[aY,this,false_or,ut,ne_eq,SY,CF,b7];omega);rw[ab,mD];rw[D,B,[Bx]=ae];{rw[aU,aw (by rintro(h|h|h|h);rw[ay];{omega};rw[cp]),B]};grind,a];rw[D,W,[cB,tx [cH],[48]]];{rw[ad,seval,W,aiD]};{have s:[bE,tx [cH],[48]]:=[f];rw[ad,seval,s,CG]}};{have e:mD [cH]=ag:=[hT,mD];rw[az,seval,z,e,nQ,SR]}};{rw[K,f,¬[yQ],[g],e,mD x=ag,[hT,mD]];rw[au,seval,f,e,nQ]}
def UO(h:mD x=aa G)(S:aj):dn .int [eX,x] S=[bQ,G]:=by rw[ap,mD,h];rw[a6];rw[ay];{have u:x.all fm=ae:=[f];rw[aH,cX,h];(have e:((tx x).all lj)=ae:=by rw[tx,v_,<-u];rw[cb,c];exact QQ c);rw[ab,dn];rw[aJ #[e,[cx,m6],[cx,m6]],xo,[M,MV x 0 u]];rw[jI,h]}
def n_(line:Nat)(ws:bO)(n:Nat):[mK]:=[(23,[l,line]),(26,[W,[hw,sD]]),(24,[dm])]
def hP(line:Nat)(ws:bO)(n:Nat):aP:=.aX 13 [qp]
def St(S:aj)(r line:Nat)(ws:bO)(n:Nat):aj:=[dl,r,[m0,n]]
def d8(h:[fR,[oN]]):bH [aL] S=[Z,[oE]]:=by simp[bH,h]
def h9(h:[fR,[aV]]):bH [aL] S=[ri]:=by simp[bH,h]
def Ft(h:[fR,[b3]]):bH [aL] S=[Z,[b3]]:=by simp[bH,h]
def aci(h:[fR,c]):fR [aL] S=[Z,(a,c)]:=by simp[fR,h]
def YK(h:[fR,[oN]]):lc c [aL] S=[h_]:=by simp[lc,d8 h,bI]
def oC(h:[fR,[aV]]):qV [aL] S=[h_]:=by simp[qV,h9 h]
def Z8(h:[fR,[b3]]):lb [aL] S=[h_]:=by simp[lb,Ft h]
def apL(a c d:Int):ki 9 [d5,[kK],c,d]=ae:=(rfl)
section
variable{S:aj}{r:Nat}(hr:r<S.length){line:Nat}{ws:bO}{n:Nat}
include hr in theorem tR:[aQ,[dk],r,[m0,n]]:=by simp[St,hr]
theorem h_(h:a≠r):[dk][a]?=S[a]?:=[b0,St]
theorem Zq(G:Nat):[dk].set r [m0,G]=[cK,G]:=by simp[St]
theorem AE:[Q,[dk]]=[ab]:=by simp[St]
include hr in theorem vF:bH [bw] [dk]=[bc,.obj 13 [qp],[dk]]:=d8 (tR hr)
include hr in theorem bV:lc 13 [bw] [dk]=[bc,(),[dk]]:=YK (tR hr)
theorem LL:eV [qp] 23=aa [l,line]:=rfl
theorem B9:eV [qp] 26=aa [W,[hw,sD]]:=rfl
theorem yq:eV [qp] 24=aa [dm]:=rfl
include hr in theorem hH(a:Int)(k:Nat):[lL,1,26,[kK],n]=[f8,n,a,[dk]]:=by rw[[lh]];rw[eU,Pu,vF hr,LL,yq]
include hr in theorem D8(a:Int)(k:Nat):[lL,1,27,[kK],n]=[f8,1,a,[dk]]:=by rw[[lh]];rw[bg,Q2,vF hr,LL]
include hr in theorem va(k:Nat):[s',1,28]=[bc,[bh,ao [lT]],[dk]]:=by rw[[lh]];simp[seval,xm,vF hr,B9,yq,aR,Sz]
include hr in theorem GB(Z:bL)(e:Env):fi Z [a7] e 24 [bw] (r,[m0,n]) [dk]=[dz,e,[cK,[aw]]]:=by rw[ak,m,eV [qp] 24=[cf],rfl,u,dV (n_ line _ n) 24 [l,[aw]]=n_ _ ws _,rfl,z,[Q,[qp]]=3,rfl];have q:=Zq (S:=S) (r:=r) (line:=line) (ws:=ws) (n:=n) [aw];rw[aH,hP,q];have O:=aci [Jz];simp[fi,hP];have h:=[Jz];rw[aH,hP,h];simp[seval,m,h,z,u,q]
include hr in theorem yi(k:Nat):[s',2,29]=[cX,[dr],x::_,[bc,sD x,[cK,[aw]]],[],[w1]]:=by rw[[bN]];simp only[seval,yo,tR hr,GB hr,vF hr,yq,B9,aR];rw[D,h,[lT]];{have m:¬[gD]<[cO,[aw]]:=[g];rw[ai,u,mE h,q,at_ [hw,sD] ([bb,[aw]]-1)=aa (sD ws[n]),by have e:[bb,[aw]]-1=[kL]:=[g];rw[e,pA,dR,cQ h];rfl];rw[u];rw[bY,m,vF hr,yq,B9,q]};{rw[K,m,[am,ws.length]<[bb,[aw]],[g],u,[dr]=[],o8 [g]];rw[ca,u,m,[bm],[fF]]}
end
def dI{U:[aI]}(G:R D)(T:Nat->aj)(line:Nat)(ws:bO)(C:U->D)(g:eT U):[P]:=[jo,g,∃p,G=[f8,[cO,e.1],[cO,e.2],T p],x,[vc]/\G=[bc,C [R],T [bU]]]
def hV(ws:bO):[P]:=[b7,ws,[eV]<=2000]
def Al{ws:bO}{r:bO}(h:[dr]=[bn]):x∈ws:=S0 (h▸qx ..)
def qX{ws:bO}{r:bO}(h:[dr]=[bn]):[e4,[aw]]=r:=by rw[<-y6,h];rfl
section
variable{S:aj}{r:Nat}(hr:r<S.length){line:Nat}{ws:bO}(hw:hV ws)
include hr hw
theorem OU(n k:Nat):[s',3,31]=[Il,dU x]:=by rw[[bN]];rw[bg,LP,[bm],yi hr];cases h:[dr]with|nil=>rfl|cons x q=>have L:=hw x (Al h);simp[seval,WD x L];rw[D,e,[ne]];{simp[seval,e]};{rw[bg,e,[bm],[fF]]}
theorem kt(lo e n k:Nat):[pI,3,lo,e,n,lo,e,n]:=by rw[[bN]];rw[eU,Ps,[bm],yi hr,bN];cases h:[dr]with|nil=>rw[aS,[aw],by rfl]|cons x q=>have L:=hw x (Al h);simp[seval,Yf x L];cases O:mD x with|none=>rw[aS,[aw],[bg,nQ,[bm],[fF]]]|some G=>rw[au,seval,o_,sD,UO O];rw[D,m,G<lo];{rw[K,I,G<[am,lo],[g],z,¬(lo<=G/\G<=e),[g]];rw[Y,aw z,#[[aw],[au,seval,I,[bm],[fF]]]]};{have I:¬[am,G]<lo:=[g];rw[D,u,e<G];{rw[K,j,e<[am,G],[g],z,¬(lo<=G/\G<=e),[g]];rw[Y,aw z,#[[aw],[eU,I,j,[bm],[fF]]]]};{rw[K,j,¬e<[am,G],[g],z,lo<=G/\G<=e,[g]];rw[Y,aJ z,#[[dH,qX h],[bg,I,j,nD]]]}}
theorem BG(a:[h])(O:∀c∈a,Gd c/\c.all [hI]=ae)(n k:Nat):[lL,3,30,[bs,[kn]],n]=[Il,a.contains x]:=by rw[ca,[bN],xS,[bm],yi hr];cases h:[dr]with|nil=>rfl|cons x q=>(have f:[nU,gy (sD x) _ T]:=λT=>by(have l:[wt,[kn]]:=by rw[ck];intro d hd;rw[bP,c,hd];rfl);show gy [dD] [bs,[kn]] T=_;rw[ab,gy];rw[aJ #[Y,l]];(have:j1 [eX,x] [kn]=a.contains x:=by rw[j1,rR,Ip,gZ,CC,CC];rw[bb];{rintro⟨c,B,j⟩;simp[jG,sD,D.beq,ip]at j;rw[ai,J,O c B,L,x.all [hI]=ae,[A6,C,c,j,W,e,J.2]];rw[cd,yd J.1 (uZ L) j]};{rintro⟨c,B,j⟩;rw[ap,ip,j];exact#[c,B,by simp[sD,D.beq,j]]});rw[a8,this]);rw[aa,seval,f];rw[D,U,a.contains x=ae];{rw[aa,seval,U]};{rw[au,seval,U,[bm],[fF]]}
theorem DF(w:cK)(O:Gd w/\w.all [hI]=ae)(n k:Nat):[lL,2,33,sD w,n]=[A,[dr].head?=aa w,[bc,[bh,ae],[cK,[aw]]],[bc,[bh,af],[dk]]]:=by rw[ca,[bN],L5,[bm],va hr];rw[D,h,[lT]];{rw[a4,u,mE h,q,at_ [hw,sD] n=aa (sD ws[n]),by rw[pA,dR,cQ h];rfl,j,(tx ws[n]==tx w)=ao (ws[n]=w),by rw[gZ];simp[ip,d0];rw[bb];{intro e;rw[bp,L,[kl,ws[n],[hI]],[A6,J,w,e,U,a,O.2],yd (uZ L) O.1 e]};grind];simp only[seval,h,vF hr,B9,yq,q,sD,j,u,ur,cX];rw[D,L,ws[n]=w];{rw[bg,L,tR hr,GB hr]};{simp[seval,L]}};{have u:[dr]=[]:=o8 [g];rw[bg,h,u,Iz]}
theorem P5(n k:Nat):[s',2,34]=[A,[lT],[w1],[lK,[dk]]]:=by rw[[bN]];rw[bg,Nf,[bm],va hr];rw[D,h,[lT]];{simp[seval,h,tR hr,GB hr,[bm],[fF]]};{simp[seval,h]}
end
def NS(line:Nat)(ws:bO)(k:Nat)(S:aj):[y5,13,[[l,line],a8 ws],[[m0,0]]]:=by rw[K,h,[xO,25,[[hd],[l,line],a8 ws],13,[[m0,0]]],by rw[[lh]];rw[K,F,∀c a,[Ly],λc a=>by simp,C,∀c,[aQ,S++[c],[ab],c],λc=>by simp];rw[bg,Nr,C,F];rfl,q,[kk].init 13=25,rfl];simp[newD,q,xa,h]
structure BA where
 nb : Nat
 aN : Nat
 aT : Nat
 aI : Nat
 aB : Nat
 aC : Nat
 aA : Nat
 aS : Nat
 az : List (Nat × Nat × Nat)
 bs : List (Option Nat)
def BA.hd(A:BA):[aj]:=[A.nb,A.aN,A.aT,A.aI,A.aB,A.aC,A.aA,A.aS]
def BA.all(A:BA):[aj]:=A.hd++(A.az.flatMap [vu]++A.bs.filterMap id)
def ec(A:BA):[mK]:=[(16,[m,A.aN]),(17,[m,A.aT]),(18,[m,A.aI]),(19,[m,A.aB]),(20,[m,A.aC]),(21,[m,A.aA]),(22,[m,A.aS])]
def ee(x:dZ)(f s:Nat):[mK]:=[GI,[hx],[m,s]]
def hK(x:io):([kx])->D|ag=>dk x|aa c=>.obj 2 [xA,[l0]]
structure ri (S : aj) (t : Nat × Nat × Nat) (x : dZ) : Prop where
 it : S[t.1]? = aa (.aX 1 (ee x t.2.1 t.2.2))
 vo : S[t.2.1]? = aa (.lst (x.volume.map eR))
 st : S[t.2.2]? = aa (.lst (x.steps.map eR))
structure dB (S : aj) (A : BA) (b : a7) (nm st : List (D × D)) : Prop where
 nd : A.all.Nodup
 bk : S[A.nb]? = aa (.aX 4 (ec A))
 na : S[A.aN]? = aa (.aU nm)
 ta : S[A.aT]? = aa (.lst (b.taxes.map eg))
 it : S[A.aI]? = aa (.lst (A.az.map fun t => .ref t.1))
 bu : S[A.aB]? = aa (.lst ((b.bundles.zip A.bs).map fun p => hK p.1 p.2))
 co : S[A.aC]? = aa (.lst (b.coupons.map eh))
 ap : S[A.aA]? = aa (.lst (b.apart.map pD))
 se : S[A.aS]? = aa (.aU st)
 il : A.az.length = b.items.length
 is : ∀ (i : Nat) (t : Nat × Nat × Nat) (x : dZ), A.az[i]? = aa t → b.items[i]? = aa x → ri S t x
 bl : A.bs.length = b.bundles.length
 bc : ∀ (i c : Nat) (x : io), A.bs[i]? = aa (aa c) → b.bundles[i]? = aa x → S[c]? = aa (.lst (x.parts.map pD))
def BA.qb{A:BA}{i:Nat}(h:[vs]):[fE]∈A.all/\[ae,t]∈A.all/\[aE,t]∈A.all:=by have q:=cG h;rw[bI,∀a∈[rL],a∈A.all,λa J=>by rw[aa,BA.all,cs];exact kQ (e6 (j_.mpr [f]))]
def BA.Hc{A:BA}{i c:Nat}(h:[aY,A.bs,aa c]):c∈A.all:=by have q:=cG h;rw[aa,BA.all,cs];grind
def BA.lN{A:BA}(h:a∈A.hd):a∈A.all:=[hT,BA.all]
def dB.keep(h:[mI,S])(e:∀a∈A.all,l[a]?=S[a]?):[mI,l]:=by rw[aZ,z,λa J=>e a (BA.lN J),#[h.nd,?_,?_,?_,?_,?_,?_,?_,?_,h.il,λi t x m u=>?_,h.bl,λi c x m u=>?_]];{rw[Y,[n9],h.bk]};{rw[Y,[n9],h.na]};{rw[Y,[n9],h.ta]};{rw[Y,[n9],h.it]};{rw[Y,[n9],h.bu]};{rw[Y,[n9],h.co]};{rw[Y,[n9],h.ap]};{rw[Y,[n9],h.se]};{rw[M,B,F,n,BA.qb m];rw[bh,q,h.is i t x m u,[CR,e _ B,e _ F,e _ n]]};{rw[Y,e _ (BA.Hc m),h.bc i c x m u]}
def dB.St(h:[mI,S])(q:r∉A.all):[mI,[dk]]:=h.keep λa J=>h_ [f]
def l':[aj]:=[hL]
def m9:[aj]:=[g8]
def oJ:[aj]:=[l_]
def p_:[aj]:=[hF]
def find(b:a7)(x:cK):[be,[aj]×Nat]:=[zM,d4 b,l'].or ([zM,[dt],m9].or ([zM,eo b,oJ].or [zM,d3 b,p_]))
def k8(p:[aj]×Nat):D:=[bi,[L,[H]],[l,[X]]]
def D.pl:[ru]|[bK]=>ae|[dD]=>ae|[eO]=>ae|[aX]=>ae|_=>af
def D.sh:[ru]|[eB]=>l.all D.pl|d=>d.pl
def L9(h:p∈cB F k v):p∈F\/[X]=v:=by rw[aH,cB,h];grind
structure nk (b : a7) (nm : List (D × D)) : Prop where
 get : ∀ x, dU x = ae → bK nm (.str (tx x)) = (find b x).map k8
 nd : (c_ b).Nodup
 ok : ∀ x ∈ c_ b, dU x = ae
 len : nm.length ≤ (c_ b).length
 val : ∀ p ∈ nm, p.2.sh = ae
def kE:fK l x=ag↔x∉l:=[fN,fK,aiE]
def vu(h:fK l x=aa i):[lu,i,[E],x∈l]:=by(have L:=by apply CH;intro q;rw[kE.mpr q]at h;grind);simp[fK,lE]at h;rw[M,j,m,rfl,h];rw[cd,[M,List.findIdx?_eq_some_iff_findIdx_eq.mp m]]
def AJ(L:x∉l):fK (l++[x]) y=[fd,y,x,[E]+1,fK l y]:=[b0,fK]
def OO:find b x=ag↔x∉c_ b:=by rw[aY,find,Option.or_eq_none_iff,aiE,kE,c_,cs,ue];rfl
def aco(h:[e_,c_ b]):[b7,d4 b,x∉[dt]/\[EQ,x]]/\[b7,[dt],[EQ,x]]/\[b7,eo b,x∉d3 b]:=by have e:[Ky]:=rfl;rw[e,g8]at h;obtain⟨_,u,m⟩:=h;rw[g8]at u;obtain⟨_,q,z⟩:=u;rw[g8]at q;refine#[λx L=>[F9,λO=>m x L x (by simp[O]) Y],λx L=>#[[K8],[K8]],λx L O=>q.2.2 x L x O Y]
def pB(h:[e_,c_ b])(x:cK):[tR,l',d4 b]/\[tR,m9,[dt]]/\[tR,oJ,eo b]/\[tR,p_,d3 b]:=by rw[M,a,G,W,aco h];rw[K,C,¬l'=m9,[ah],z,¬l'=oJ,[ah]];rw[K,y,¬l'=p_,[ah],g,¬m9=l',[ah]];rw[K,d,¬m9=oJ,[ah],c,¬m9=p_,[ah]];rw[ak,e,¬oJ=l',[ah],f,¬oJ=m9,[ah],j,¬oJ=p_,[ah]];simp[find];cases m:fK _ x with|some i=>rw[M,B,F,n,a x [aE,vu m]];simp[kE.mpr B,kE.mpr F,kE.mpr n,C,z,y]|none=>cases u:fK _ x with|some i=>rw[R,F,n,G x [aE,vu u]];simp[kE.mpr F,kE.mpr n,g,d,c]|none=>cases q:fK _ x with|some i=>have n:=W x [aE,vu q];simp[kE.mpr n,e,f,j]|none=>cases L:fK _ x with|some i=>grind|none=>simp
def x4(bv:D)(nm:[dj])(T:Nat->aj):[P]:=∃o d,∀n,bH bv (T n)=[bc,o,T n]/\fl o 16 (T n)=[bc,d,T n]/\bH d (T n)=[bc,[cc,nm],T n]/\lb d (T n)=[bc,(),T n]
def dB.mW(h:[mI,S])(hr:r∉A.all):x4 [jw] nm (Ir.St S r line ws):=#[.obj 4 _,[dP],λn=>#[[nm,h.St hr],Y,Ft (h.St hr).na,Z8 (h.St hr).na]]
def GS(nm st:[h])(b:a7)(T:Nat->aj):x4 [b5] nm T:=#[_,_,λn=>#[Y,Y,Y,Y]]
section
variable{S:aj}{r:Nat}(hr:r<S.length){line:Nat}{ws:bO}(hw:hV ws){b:a7}{nm:List (D×D)}(hnm:nk b nm){bv:D}
include hr in theorem AO(J:a≠r)(U:[fR,[aV]])(j n k:Nat):[jl,2,35,[[bw],[aL],[c0]],n]=[A,j<=[E],[f8,n,5,[dk]],[lK,[dk]]]:=by rw[bc,[bN],q,[aQ,[dk],a,[aV]],[a_,h_ J]];rw[bg,JQ,h9 q,HZ];rw[D,h,j<=[E]];{rw[bg,h,[bm],[fF]]};{simp[seval,h]}
include hr hw hnm in theorem BW(J:x4 bv nm [El])(n k:Nat):[ih,4,36,[bv,[bw]],n,sD,hZ b n [dr]]:=by rw[[bN]];rw[M,o,d,J,J];rw[az,seval,Me,[bm],OU hr hw,hZ];cases h:[dr]with|nil=>rw[aS,[aw],by rfl]|cons x q=>rw[D,z,[ne]];{rw[ag,m,u,L,U,J [aw]];rw[ai,j,hnm.get x z,O,[er,bK nm [eX,x]]=(c_ b).contains x,by rw[j,wc,gZ,rQ];rw[Option.isSome_iff_ne_none];rw[bb];{intro hh;apply CH;intro e;exact hh (OO.mpr e)};{intro e hh;exact OO.mp hh e}];rw[D,e,(c_ b).contains x=ae];{simp only[seval,z,m,u,L,sD,O,e,[bm],[fF]];rw[aX,[aw]]};{simp only[seval,z,m,u,L,sD,O,aiF,e];rw[aX,[dH,qX h]]}};{have Z:=[aD,z];simp[Z];rw[aX,[aw]]}
include hr hw hnm in theorem py(J:x4 bv nm [El])(kind:[h])(f:kind≠[])(l:[h])(U:∀x,[tR,kind,l])(n k:Nat):[ih,4,37,[bv,[bw],[L,kind]],n,nD,cu l n [dr]]:=by rw[[bN]];rw[M,o,d,J,J];rw[ag,C,c,N,G,J n];simp only[seval,Rk,C,c,G,[bm],OU hr hw,cu];cases h:[dr]with|nil=>rw[aS,[aw],by rfl]|cons x q=>rw[D,z,[ne]];{rw[ag,m,u,j,B,J [aw]];rw[V,L,hnm.get x z,a,U x];rw[eU,z,j,sD,L];cases W:find b x with|none=>rw[W]at a;rw[<-a];have O:(!([]==kind))=ae:=[f];rw[az,seval,qw,O,[bm],[fF]];rw[aX,[aw]]|some p=>rw[bE,W,a];rw[<-a];rw[D,e,[H]=kind];{rw[al,O,(!([H]==kind))=af,by simp[e],aJ e];rw[bg,g6,k8,O];rw[aX,[dH,qX h]]};{rw[al,O,(!([H]==kind))=ae,[f],aw e];simp[seval,g6,k8,O,[bm],[fF]];rw[aX,[aw]]}};{have Z:=[aD,z];simp[Z];rw[aX,[aw]]}
end
def ez(S:aj):[P]:=∀c∈S,[q3]=ae
def ez.all(h:ez S):(S.all λc=>[q3])=ae:=ck.mpr h
mutual
theorem G5{G n:Nat}(h:G≤n):∀d:D,d.low G=ae→d.low n=ae|.ref a,hd=>by simp only[D.low,d0]at*;omega|.tup l,hd=>by simp only[D.low]at*;exact vr h l hd|.lst l,hd=>by simp only[D.low]at*;exact vr h l hd|.dX l,hd=>by simp only[D.low]at*;exact vr h l hd|.b6 l,hd=>by simp only[D.low]at*;exact vr h l hd|.aU l,hd=>by simp only[D.low]at*;exact sP h l hd|.bY l,hd=>by simp only[D.low]at*;exact sP h l hd|.i7 l,hd=>by simp only[D.low]at*;exact sP h l hd|.obj c l,hd=>by simp only[D.low]at*;exact DH h l hd|.a0,_=>rfl|.bl _,_=>rfl|.int _,_=>rfl|.str _,_=>rfl|.fn _,_=>rfl|.du _,_=>rfl
theorem vr{G n:Nat}(h:G≤n):∀l:List D,eM G l=ae→eM n l=ae|[],_=>rfl|x::r,U=>by simp only[eM,aF]at*;exact⟨G5 h x U.1,vr h r U.2⟩
theorem sP{G n:Nat}(h:G≤n):∀l:List (D×D),lowP G l=ae→lowP n l=ae|[],_=>rfl|(a,x)::r,U=>by simp only[lowP,aF]at*;exact⟨G5 h x U.1,sP h r U.2⟩
theorem DH{G n:Nat}(h:G≤n):∀l:List (Nat×D),iT G l=ae→iT n l=ae|[],_=>rfl|(a,x)::r,U=>by simp only[iT,aF]at*;exact⟨G5 h x U.1,DH h r U.2⟩
end
def XP(h:G<=n)(c:aP)(O:c.low G=ae):c.low n=ae:=by cases c with|aX k l=>exact DH h l O|lst l=>exact vr h l O|aU l=>exact sP h l O
def ez.app(h:ez S)(L:[h])(z:∀c∈L,c.low [Q,S++L]=ae):ez (S++L):=λc O=>[sw,O,XP (by simp) c (h c O)]
def ez.set(h:ez S)(a:Nat)(c:aP)(O:[q3]=ae):ez [kt]:=λx L=>by rw[jJ];rw[a0,IA L,L,L,h x L];grind
def eY{U:[aI]}(f:U->D)(n:Nat)(h:∀x,[lk,f x]):∀l:[h],[lB,[gZ]]|[]=>rfl|[bn]=>by simp[bT,eM,h x,eY f n h r,lG]
def Ve(n:Nat)(t:cK):[lk,sD t]:=rfl
def zR(n G:Nat):[lk,nD G]:=rfl
def uY(n:Nat)(p:[gi]):[lk,pD p]:=rfl
def vM(n:Nat)(p:ua):[lk,eR p]:=rfl
def Gf(n:Nat)(x:Tax):[lk,eg x]:=rfl
def Ec(n:Nat)(x:j7):[lk,eh x]:=rfl
def KY(n line:Nat)(ws:bO)(G:Nat):[lk,[m0,G]]:=by simp[hP,aP.low,n_,iT,D.low,yX];exact [oO,Ve n]
def ez.St(h:ez S)(r line:Nat)(ws:bO)(n:Nat):ez [C8]:=h.set r _ (KY _ _ _ _)
def G8(e:ez S)(c:Nat)(l:[ak])(fs:[h])(d:D)(k:Nat)(y:run prog k (prog.init c) ([hd]::l) [vz,[]]=[lK,[vz,fs]])(hd:cp [ab] [vz,fs] 8 [hd]=aa d):fW (newD (cf k) c l) S=[ia]:=by(have m:newD (cf k) c l S=[pf,[vz,fs]]:=by have q:(cf k).init c=prog.init c:=rfl;simp[newD,q,xa,y]);simp[fW,m,hd,e.all,bI]
def u_(S:aj)(c:aP):[aQ,S++[c],[ab],c]:=by simp
def Be(S:aj)(c a:aP):[Ly]:=by simp
def agt(e:ez S)(x:Tax)(k:Nat):fW (newD [kk] 0 [[jb],[l,x.rate],[bh,! x.within],[l,x.over]]) S=[Z,eg x]:=by apply G8 e 0 _ [Hc];{rw[al,q,prog.init 0=7,rfl,[lh]];rw[bg,f7,u_,Be]};{rw[gt,cp,qy,u_]}
def acA(e:ez S)(x:j7)(k:Nat):fW (newD [kk] 3 [[jb],[wD,x.share],[l,x.value],[l,x.item],[l,x.cap.getD 0],[l,x.least]]) S=[Z,eh x]:=by apply G8 e 3 _ [Gd];{rw[al,q,prog.init 3=10,rfl,[lh]];rw[bg,RG,u_,Be]};{rw[gt,cp,qy,u_]}
def abZ(e:ez S)(x:io)(c:Nat)(O:c<[ab])(k:Nat):fW (newD [kk] 2 [[jb],[l,[ea]],[l0]]) S=[Z,hK x (aa c)]:=by apply G8 e 2 _ [xA,[l0]];{rw[al,q,prog.init 2=9,rfl,[lh]];rw[bg,f9,u_,Be]};{simp[cp,qy,u_,cM,O];rfl}
def Mx(x:dZ)(I:x.volume=[])(J:x.steps=[])(O:x.free=ag)(W:[yE])(k:Nat):[y5,1,[[jb],[l,[ea]],[xy]],[IC]]:=by rw[K,h,[xO,8,[[hd],[jb],[l,[ea]],[xy]],1,[IC]],by rw[[lh]];rw[K,u,[xh,L],[yV],f,[w4,a,L],[DQ]];rw[K,z,[ud,L,S],[zy],d,dn .sorted [xy]=λT=>[bc,[hq,mi [jF]],T],by funext T;have m:[Q,[v',[n',n]]]<64:=[f];rw[az,dn,fw,oM,l8,fC];rw[aJ m];rw[al,e,[S,pT [v',λ(n:Nat)=>(n)],D.int]=[c_,mi [jF]],by rw[mi,cq];rw[ba,iL,i,q];have j:=(sF _).mem_iff.mp q;rw[bP,n,j];rfl,e];rfl];rw[aY,seval,f8,u,f,z,d,cO];simp[ee,O,fD],q,[kk].init 1=8,rfl];simp[newD,q,xa,h]
def Gq{A:BA}(h:A.all.Nodup):A.hd.Nodup/\(∀a∈A.hd,[ez,A.az,a≠[fE]/\a≠[ae,t]/\a≠[aE,t]])/\(∀a∈A.hd,∀c,aa c∈A.bs->a≠c):=by rw[aH,BA.all,h];rw[g8]at h;rw[aL,m,u,q,h,#[m,λa J t j=>?_,λa J c O=>?_]];{have:=λx L=>q a J x (by rw[ab,cs];exact e6 (j_.mpr #[t,j,L]));exact#[[DZ],[DZ],[DZ]]};{exact q a J c (by rw[ab,cs];exact kQ (ui.mpr #[aa c,O,Y]))}
def mh{S:aj}(h:[fR,c]):[aQ,[dl,a,j],a,j]:=[f]
def bR{S:aj}(h:b≠a):[kt][b]?=S[b]?:=gk [f]
def jy(h:a≠r):[dk].set a c=[d7,[kt],n]:=by simp[St];rw[S4 _ _ [f]]
section
variable{S:aj}{A:BA}{b:a7}{nm st:List (D×D)}(h:dB S A b nm st)
include h
theorem dB.ne(i j:Nat)(H:[bE,i,j])(L:[cS,A.hd])(q:[cb,A.hd,y]):x≠y:=by intro e;have m:=[M,Gq h.nd];subst e;rw[cd,(v8 [f] m).mp (L.trans q.symm)]
theorem dB.sQ(a:Nat)(J:a∈A.hd)(c:aP):(∀(t:[oS])(x:dZ)(i:Nat),([vs])->([cS,[cG]])->ri [kt] t x)/\(∀(i j:Nat)(x:io),([aY,A.bs,aa j])->([cS,[iv]])->[cb,[kt],aP.lst [kg,pD]]):=by obtain⟨_,u,z⟩:=Gq h.nd;rw[bb];{intro t x i m e;rw[M,G,O,W,u a J t (cG m)];rw[bh,q,h.is i t x m e,[CR,bR G.symm,bR O.symm,bR W.symm]]};{intro i j x m e;rw[Y,bR [dH,z a J _ (cG m)],h.bc i _ x m e]}
theorem dB.Ca(d:[h]):dB [dl,A.aN,[cc,d]] A b d st:=[tK,A.aN,1,mh h.na,[bS,2,1,h.ta],[bS,5,1,h.co],[bS,6,1,h.ap],[bS,7,1,h.se]]
theorem dB.abk(I:[h]):dB [dl,A.aS,[cc,I]] A b nm I:=[tK,A.aS,7,[bS,1,7,h.na],[bS,2,7,h.ta],[bS,5,7,h.co],[bS,6,7,h.ap],mh h.se]
theorem dB.Ke(l:[h]):dB [dl,A.aT,[dM,eg]] A {b with taxes:=l} nm st:=[tK,A.aT,2,[bS,1,2,h.na],mh h.ta,[bS,5,2,h.co],[bS,6,2,h.ap],[bS,7,2,h.se]]
theorem dB.Bb(l:[h]):dB [dl,A.aC,[dM,eh]] A {b with coupons:=l} nm st:=[tK,A.aC,5,[bS,1,5,h.na],[bS,2,5,h.ta],mh h.co,[bS,6,5,h.ap],[bS,7,5,h.se]]
theorem dB.W8(l:[h]):dB [dl,A.aA,[iS]] A {b with apart:=l} nm st:=[tK,A.aA,6,[bS,1,6,h.na],[bS,2,6,h.ta],[bS,5,6,h.co],mh h.ap,[bS,7,6,h.se]]
theorem dB.other(e q:[fP])(lu:[fP]):dB S A {b with rounding:=e,cash:=q,byLine:=lu} nm st:=#[h.nd,h.bk,h.na,h.ta,h.it,h.bu,h.co,h.ap,h.se,h.il,h.is,h.bl,h.bc]
theorem dB.Zd(x:dZ)(t:[oS])(m:ri S t x)(s:[e_,A.all++[rL]]):dB [dl,A.aI,[dv,A.az++[t],λt=>[m,[fE]]]] {A with az:=A.az++[t]} [nN,x] nm st:=by rw[R,C,l,h.sQ A.aI ([rG]) _];rw[a1,u,{A with az:=A.az++[t]}.all.Perm (A.all++[rL]),by rw[ad,BA.all,rN,en];rw[d8,y8 _ (y8 _ ?_),S6],G,A.aI≠[fE]/\A.aI≠[ae,t]/\A.aI≠[aE,t],by rw[g8]at s;rw[bp,q,A.aI∈A.all,[DK],#[[Cd],[Cd],[Cd]]],#[u.nodup_iff.mpr s,[bS,0,3,h.bk],[bS,1,3,h.na],[bS,2,3,h.ta],mh h.it,[bS,4,3,h.bu],[bS,5,3,h.co],[bS,6,3,h.ap],[bS,7,3,h.se],by simp[h.il],λi t' d e z=>?_,h.bl,l]];rw[Iv]at e z;rw[h.il]at e;rw[aC,e];rw[ay];{rw[aB,a];rw[aw a]at z;cases L:i-[bP]with|zero=>rw[L]at e z;simp[rL,cX]at e z;subst e;rw[bf,z,#[[q,bR [dH,G.1],m.it],[q,bR [dH,[ae,G]],m.vo],[q,bR [dH,[aE,G]],m.st]]]|succ j=>rw[eM,L,e]}
theorem dB.adP(x:io)(c:Nat)(m:[aQ,S,c,[z8]])(s:c∉A.all):dB [dl,A.aB,[dv,[Bb,x,c],[aF,[ll]]]] [xk,c] [nH,x] nm st:=by rw[R,C,l,h.sQ A.aB ([rG]) _];rw[a1,H,[Dr,c],by simp[BA.all,S7,en];rfl,f,A.aB≠c,λe=>s (e▸[DK]),#[?_,[bS,0,4,h.bk],[bS,1,4,h.na],[bS,2,4,h.ta],[bS,3,4,h.it],mh h.bu,[bS,5,4,h.co],[bS,6,4,h.ap],[bS,7,4,h.se],h.il,λi t x a b=>C t x i a b,by simp[h.bl],λi G J z u=>?_]];{rw[H,g8];rw[gJ,#[h.nd,by simp,λa O d hd e=>?_]]};{rw[Iv]at z u;rw[h.bl]at z;rw[aC,z];{rw[aB,q];rw[af,aJ q,u,l i _ _ z u]};{rw[aB,q];rw[aw q]at u;cases L:i-[cs]with|zero=>rw[L]at z u;simp[rL,cX]at z u;rw[a2];subst u;rw[cx,bR f.symm]|succ j=>rw[eM,L,z]}}
theorem dB.ab'(i:Nat)(t:[oS])(x J:dZ)(a:Nat)(c:aP)(G:[vs])(L:[cS,[cG]])(N:[LG])(s:ri [kt] t J):dB [kt] A [xQ,J] nm st:=by rw[M,X,g2,E,Gq h.nd];rw[ai,z,cG G,hh,∀y∈A.hd,y≠a,λy U=>[f]];have bU:=h.nd;rw[aH,BA.all,bU];rw[g8]at bU;rw[bn,f,[ae,bU],g8,f];rw[K,d,a∈[rL],by rcases N with rfl|rfl|rfl<;>simp,P,[oc,t',[oS],A.az,t',j≠i->t'.1≠a/\[ae,t']≠a/\[aE,t']≠a],by intro j t' T p;(have key:∀(l:[h]),([e_,l.flatMap [vu]])->∀(i j:Nat)(t t':[oS]),([aY,l,t])->([cb,l,t'])->i≠j->∀C∈[rL],∀v∈[t'.1,[ae,t'],[aE,t']],C≠v:=by intro l;induction l with|nil=>intro _ i j t t' m;simp at m|cons y l w=>intro hN i j t t' m u H C hu v W;rw[ir,g8]at hN;cases i with|zero=>(rw[aP,rL,cX,m];cases j with|zero=>rw[bi,Y,H]|succ j=>rw[ap,IB,u];exact hN.2.2 C (m▸hu) v (j_.mpr #[t',cG u,W]))|succ i=>cases j with|zero=>rw[aP,rL,cX,u];exactλe=>hN.2.2 v (u▸W) C (j_.mpr #[t,cG m,hu]) e.symm|succ j=>exact w [ae,hN] i j t _ m u [g] C hu v W);have:=λv W=>key _ f.1 i j t _ G T (λe=>p e.symm) a d v W;exact [F9,λe=>this _ (by simp) e.symm]];rw[a1,g,∀B,[cf]∈A.bs->B≠a,λB Q e=>[gv].2 a (j_.mpr #[t,z,d]) _ (ui.mpr #[[cf],Q,Y]) e.symm,hd,∀y∈A.hd,[kt][y]?=S[y]?,λy U=>bR (hh y U),#[h.nd,[pg,h.bk],[pg,h.na],[pg,h.ta],[pg,h.it],[pg,h.bu],[pg,h.co],[pg,h.ap],[pg,h.se],by simp[h.il],λj t' o I O=>?_,h.bl,λj B o I O=>?_]];{rw[D,e,j=i];{subst e;rw[fo,G,I,cX];subst I;rw[fo,rZ [dA,L],O,cX];subst O;omega};{rw[M,Z,F,n,P j _ I e];rw[gk (λr=>e r.symm)]at O;rw[bh,q,h.is j _ _ I O,[CR,bR Z,bR F,bR n]]}};{rw[Y,bR (g _ (cG I)),h.bc j _ _ I O]}
end
def qa(b:a7):Nat:=b.rounding.toList.length+(b.cash.toList.length+b.byLine.toList.length)
def Ez(b:a7):qa b<=3:=[b0,qa]
structure ak (S : aj) (A : BA) (b : a7) (nm st : List (D × D)) (n0 : Nat) (P : aj) : Prop where
 bk : dB S A b nm st
 se : gA b st
 nm : nk b nm
 wf : Wf b
 w2 : vd b
 lo : ez S
 ge : ∀ a ∈ A.all, n0 ≤ a
 pr : S.take n0 = P
 sl : st.length ≤ qa b
 sv : ∀ p ∈ st, p.2.sh = ae
def iR(G:R D)(n0:Nat)(P:aj)(nb r line:Nat)(ws:bO)(g:eT a7):[P]:=[jo,g,∃B,G=[f8,[cO,e.1],[cO,e.2],B]/\B.take n0=P,x,[vc]/\[CF,B,q,G,[bU],[R],[br],nb]]
def jx{S:aj}(h:n0<=a):[kt].take n0=S.take n0:=by apply mw;rw[hT,Ij]
def hE(h:n0<=r):[dk].take n0=S.take n0:=jx h
def amh(F:[h])(k v:D):[aN,cB F k v,F.length+1]:=m2 F k v
def lr(F:[h])(k G:[h])(v:D):bK (cB F [L,k] v) [L,G]=[fd,G,k,v,bK F [L,G]]:=by(have J:∀(x:D)(a c:[h]),x.beq [L,a]=ae->x.beq [L,c]=ao (a=c):=by intro x a c L;cases x<;>simp only[D.beq,dj]at L;rw[aH,ip,L];rw[b0,D.beq]);simp[cB];rw[aJ,G=k];{subst q;rw[bX,bI];{rw[aB,h];rw[Mc _ _ _ _ (by simp) h]};{rw[aB,h];rw[Fj,O7 _ _ h,oh];simp[D.beq]}};{split;{rw[JW _ _ _ _ [f]]};{have:(D.str k).beq [L,G]=af:=[b0,D.beq];simp[this,bK]}}
section
variable{S:aj}{A:BA}{b:a7}{nm st:List (D×D)}{n0:Nat}{P:aj}(I:ak S A b nm st n0 P){r:Nat}(hr:r<S.length)(hra:r∉A.all)(hrn:n0<=r){line:Nat}{ws:bO}(hw:hV ws)
include I in theorem ak.tH:n0<=A.aN/\n0<=A.aS/\n0<=A.aT/\n0<=A.aC/\n0<=A.aA/\n0<=A.aI/\n0<=A.aB:=by refine#[[nJ],[nJ],[nJ],[nJ],[nJ],[nJ],[nJ]]
include hra in theorem qI:A.nb≠r/\A.aN≠r/\A.aT≠r/\A.aI≠r/\A.aB≠r/\A.aC≠r/\A.aA≠r/\A.aS≠r:=by have:∀a∈A.hd,a≠r:=λa h e=>hra (e▸BA.lN h);refine#[[nZ],[nZ],[nZ],[nZ],[nZ],[nZ],[nZ],[nZ]]
theorem Cg:[qM,16,A.aN]:=rfl
theorem zN:[qM,17,A.aT]:=rfl
theorem FQ:[qM,18,A.aI]:=rfl
theorem Qn:[qM,19,A.aB]:=rfl
theorem Qk:[qM,20,A.aC]:=rfl
theorem Ng:[qM,21,A.aA]:=rfl
theorem x_:[qM,22,A.aS]:=rfl
include I hr hra in theorem Gw(s:[h])(n k:Nat):[jl,2,50,[[jw],[bw],[c']],n]=[ao,[er,bK st [c']],[f8,n,2,[dk]],[lK,[dk]]]:=by rw[[bN]];have f:=[tO];rw[eU,RU,d8 f.bk,x_,Ft f.se];rw[D,h,[er,bK st [c']]=ae];{rw[bg,h,[bm],[fF]]};{simp[seval,h]}
include hr hw in theorem Nq(n k:Nat):[ih,4,51,[[bw]],n,lQ,qz n [dr]]:=by rw[bc,[bN],m,[CG,0,9,RULES-1,n],kt hr hw 0 9 n k];rw[bg,Md,[bm],qz];cases h:bN 0 _ n _ with|error e=>rw[ar,h,m,p,q,m];simp[q];rw[aX,p]|ok x=>rw[ar,h,m,L,q,m];have u:dI [la,[d5,[bw],1,10000]] _ line _ _ _:=kt hr hw 1 _ [bU] k;rw[aQ,L,u];rw[bg,q,aZ,[bm]];cases J:[qF]with|error e=>rw[ar,J,u,p,W,u];simp[W];rw[aX,p]|ok y=>rw[cE,J,u,O,W];rw[aX,O]
end
def ak.setting{nm st}(I:[k5,S])(s:[h])(v:D)(e:a7)(l:∀n,v.low n=ae)(d:v.sh=ae)(m:e.taxes=[ht])(u:e.items=[cG])(W:e.bundles=[iv])(j:e.coupons=[jv])(f:e.apart=[nr])(H:gA e [zC])(U:oA (nH e))(C:oA (jF e))(B:[aN,[zC],qa e]):ak [dl,A.aS,.aU [zC]] A e nm [zC] n0 P:=by rw[K,Z,e={b with rounding:=e.rounding,cash:=e.cash,byLine:=e.byLine},by rw[cI];grind,O,c_ e=c_ b,by simp[c_,m,u,W,j]];rw[a1,a,∀x,find e x=find b x,λx=>by simp[find,d4,df,eo,d3,m,u,W,j],c,[h0,F,G,Nat,lowP G F=ae,lowP G (cB F [c'] v)=ae],λF G h=>by rw[bX,cB];{rw[aB,L];clear L;induction F with|nil=>rfl|cons p q J=>rw[R,N,y,p];rw[aP,lowP,aF,h];rw[bT];rw[D,z,N.beq [c']=ae];{simp[z,bI,lowP,l G,J [cU],lG]};{simp[z,b8,lowP,[dJ],J [cU],lG,dj]}};{rw[aB,L];clear L;induction F with|nil=>simp[wb,lowP,l G,lG]|cons p q J=>rw[R,N,y,p];simp[lowP,aF]at h;simp[Ih,lowP,[dJ],J [cU],lG]},#[?_,H,[H6,x,L,a,O],?_,#[λx L=>I.w2.gf x (u▸L),[q,f,I.w2.ap],[q,f,I.w2.q0]],?_,I.ge,[q,jx [ae,I.tH],I.pr],B,λp z=>by rw[a0,L9 z,z,z,I.sv p z];grind]];{rw[Y,Z,(I.bk.abk _).other _ _ _]};{rw[bh,w,I.wf,#[[q,m,w.nt],[q,u,w.ni],[q,W,w.nb],[q,j,w.nc],[q,m,w.rate],[q,m,w.qN],λi x L=>by have:=w.over i x (m▸L);simp[cj,m];rw[b2],λx L=>[q,m,w.item x (u▸L)],λx L=>[q,u,w.iW x (W▸L)],λx L=>[q,u,w.jO x (j▸L)],λp z=>[q,j,w.apart p (f▸z)],U,C]]};{apply I.lo.set;rw[bh,g,cG I.bk.se,c _ _ (I.lo _ g)]}
def kf(h:bN lo q n ws=[fX]):[v_,[R]]:=[BG,bN,w]
def Mf(h:qz n ws=[fX]):oA [R]:=by rw[aH,qz,h];cases m:bN 0 _ n _ with|error e=>rw[fo,m,h,aZ]|ok y=>rw[fo,m,h,aZ];cases u:bN 1 10000 [dn] [f1]with|error e=>grind|ok z=>rw[fo,u,h,qA];subst h;rw[V,q,kf m,j,kf u];rw[aH,RULES,q];exact#[[ge,[b4]<=9],[ge,1<=[cA]],[ge,[cA]<=10000]]
def yw(b:a7)(ws:bO):eT a7:=[ao,[Ei],[wr],[i',qz 1 [iY],x,{b with rounding:=aa x}]]
def wN(b:a7)(ws:bO):eT a7:=[ao,b.cash.isSome,[wr],[i',qz 1 [iY],x,{b with cash:=aa x}]]
def wM(b:a7)(ws:bO):eT a7:=[ao,[Fe],[wr],[ao,cn "line" [iY],.ok ([Fa,ae],2,[iY].drop 1),aZ (lH "total" 1 [iY]) λ_ n C=>[iK,[Fa,af],C]]]
section
variable{S:aj}{A:BA}{b:a7}{nm st:List (D×D)}{n0:Nat}{P:aj}(I:ak S A b nm st n0 P){r:Nat}(hr:r<S.length)(hra:r∉A.all)(hrn:n0<=r){line:Nat}{ws:bO}(hw:hV ws)(k:Nat)
include I hr hra hrn hw
theorem agc:[i6,5,52,1,yw b ws]:=by rw[[bN]];rw[K,J,[KS],I.se.ro,g,[oe,[cK,1]],Gw I hr hra [i8] 1 [ds]];rw[bY,Nj,g,J,wc,yw];rw[D,h,[Ei]=ae];{simp[h];rw[cm]};{have f:dI _ _ line _ _ _:=Nq hr hw 1 k;rw[aa,seval,h];cases l:qz 1 _ with|error e=>rw[ar,l,f,p,q,f];simp[q];rw[cm]|ok x=>rw[d',st.length<lim,[i8]];apply I.setting _ _ {b with rounding:=[cf]} [bJ] Y Y Y Y Y Y;{refine [n1];{rw[a8,lr]};{rw[Y,lr,I.se.ca]};{rw[Y,lr,I.se.lu]}};rw[av,j,I.wf.ca];{rw[e',[i8],[mO]]}}
theorem af4:[i6,5,53,1,wN b ws]:=by rw[[bN]];rw[K,J,[LU],I.se.ca,g,run _ [fz] _ _ [cK,1]=_,Gw I hr hra [ij] 1 _];rw[bY,Kz,g,J,wc,wN];rw[D,h,b.cash.isSome=ae];{simp[h];rw[cm]};{have f:dI _ _ line _ _ _:=Nq hr hw 1 k;rw[ab,h];cases l:qz 1 _ with|error e=>rw[cE,l,f,p,q];rw[cm]|ok x=>rw[d',st.length<lim,[ij]];apply I.setting _ _ {b with cash:=[cf]} [bJ] Y Y Y Y Y Y;{refine [n1];{rw[Y,lr,I.se.ro]};{rw[a8,lr]};{rw[Y,lr,I.se.lu]}};rw[av,I.wf.ro,j];{rw[e',[ij],b.cash]}}
theorem XW:[i6,5,54,1,wM b ws]:=by rw[aV [fz] _ (F:=Fc) Y Y Y];rw[K,j,bK st [re]=b.byLine.map tS,I.se.lu,g,[jl,4,50,[[jw],[bw],[re]],1]=_,Gw I hr hra [jj] 1 [ds]];rw[bY,Fc,g,j,wc,wM];rw[D,h,[Fe]=ae];{rw[aa,seval,h];rw[cm]};{have w:[lL,4,30,[bi,[L,[nT]],[L,[pY]]],1]=_:=[AD,"line","total",1,1];rw[au,seval,h,[bm],w];cases hd:[iY]with|nil=>rw[az,seval,cn,Iz,lH,aZ];rw[cm]|cons x q=>rw[ai,f,[KL,2],W,st.length<lim,by have:=I.sl;have:=Ez b;rw[ej]];rw[V,z,[mU,[eT,qI hra]],a,qX hd];have U:=m2 st [re];rw[D,m,x=ay "line"];{rw[K,O,[EX].contains x=ae,[f],e,cn "line" (x::q)=ae,[bM,m]];simp only[seval,O,e,d8 f.bk,x_,f.se,W,jy z];rw[eA,x,ae];{rw[eI];{rw[FS,lr,aJ Y,m];rfl}};rw[av,I.wf.ro,I.wf.ca];{rw[V,G,U (sD x),L,I.sl];(have C:b.byLine=ag:=by cases J:b.byLine<;>simp_all);simp only[qa,C,IC,ID,gK,b7]at L|-;omega}};{rw[D,u,x=[sQ]];{subst u;rw[K,O,[my,[EX],[sQ]],[ah],e,[rs,"line",[sQ]],by rfl];simp only[seval,O,e,lH,aZ,d8 f.bk,x_,f.se,W,jy z,bI];rw[eA,[sQ],af];{rw[eI];{rw[FS,lr,aJ Y];rfl}};rw[av,I.wf.ro,I.wf.ca];{rw[V,G,U (sD [sQ]),L,I.sl];have C:b.byLine=ag:=[a'];simp only[qa,C,IC,ID,gK,b7]at L|-;omega}};{rw[K,O,[tf,[EX],x],[a'],e,[rs,"line",x],by simp[cn,m]];rw[bY,O,e,lH,u,aZ];rw[cm]}}}
end
def nk.add(h:nk b nm)(x:cK)(L:[ne])(s:x∉c_ b)(p:[tq])(J:∀y,find l y=[fd,y,x,p,find b y])(m:(c_ l).Perm (x::c_ b)):nk l (cB nm [eX,x] (k8 p)):=by refine#[λy O=>?_,m.nodup_iff.mpr (mv.mpr #[s,h.nd]),λy O=>?_,?_,?_];{rw[lr,J];rw[br,e,y=x];{have:=λa=>e (yd (Es O) (Es L) a);rw[a3,aw this,aw e,h.get y O]}};{rw[aK,[c1,m.mem_iff.mp O],rfl,O];rw[ay];{exact h.ok y O}};{rw[m.length_eq];have:=m2 nm [eX,x] (k8 p);rw[cd,h.len]};{intro q z;rw[a0,L9 z,z,z,h.val q z];{rw[a8,z]}}
def zG(h:hZ b n ws=[fX]):dU [R]=ae/\[R]∉c_ b:=[BG,hZ,w]
def l6(h:cu l n ws=[fX]):[lu,[R],[E],[bU]=[aw]]:=by cases ws with|nil=>rw[aH,cu,h]|cons w r=>rw[aH,cu,h];rw[a6];rw[ay];{cases q:fK l w with|none=>grind|some i=>rw[q]at h;rw[a9,e,z,vu q];grind}
def By(h:v.low G=ae)(e:lowP G F=ae):lowP G (cB F s v)=ae:=by rw[bX,cB];{rw[aB,L];clear L;induction F with|nil=>rfl|cons p q m=>rw[R,i,a,p];simp[lowP,aF]at e;rw[bT];rw[D,z,i.beq s=ae];{simp[z,bI,lowP,h,m e.2,lG]};{simp[z,b8,lowP,e.1,m e.2,lG,dj]}};{rw[aB,L];clear L;induction F with|nil=>simp[wb,lowP,h,lG]|cons p q m=>simp[lowP,aF]at e;simp[Ih,lowP,e.1,m e.2,lG]}
def zY(hw:[aO])(h:nk b nm):nm.length<lim:=by have m:=h.len;simp[c_,cO,aR]at m;have:=hw.nt;have:=hw.ni;have:=hw.nb;have:=hw.nc;rw[fs]
def xn(b:a7)(ws:bO):eT a7:=[yI,TAXES<=[cC],[iu,bN 0 10000 n C,rate,[ao,cn "in" C,.ok ([nO,[t',nm,rate,ae,0]],[aw],[wq]),aZ (lH "on" n C) λ_ n C=>[ao,cn "over" C,aZ (cu (d4 b) [aw] [wq]) λo G v=>[ao,[tX,o],[hj,G,3],.ok ([nO,[t',nm,rate,af,o]],G,v)],[iK,[nO,[t',nm,rate,af,0]],C]]]]]
def ad4(s:[sz])(y:cK):[xr,[nO,t],l',[cC]]:=by rw[K,m,t.name∉d4 b,λh=>s (by rw[aa,c_,cs];exact e6 h),e,d4 [nO,t]=d4 b++[t.name],by simp[d4]];simp[find,e,AJ m];rw[D,L,y=t.name];{simp[L,d4]};{simp[L];rfl}
def ak.aaE{nm st}(I:[k5,S])(t:Tax)(B:dU t.name=ae)(s:[sz])(U:[cC]<4)(a:t.rate<=10000)(C:t.within=ae->t.over=0)(d:t.over<=[cC])(H:[Lm]):[GP,A.aT,[ht],eg,l',[cC],[nO,t]]:=by rw[c4];rw[ae,c,∀o,o≠0->o<=[cC]->cj [nO,t] o=cj b o,λo m u=>by rw[aa,cj,hY];rw[lI [g]],[F4,I.bk.Ke _,ad4 s,g]];{rw[ad,c_,de,en];exact S8};{refine#[[bC],w.ni,w.nb,w.nc,?_,?_,?_,?_,w.iW,w.jO,w.apart,w.ro,w.ca];{intro x L;rw[a0,cs.mp L,L,L,w.rate x L];{rw[aH,dL,L];grind}};{intro x L;rw[di,L,w.qN x L,C]};{intro i x L;rw[Iv]at L;rw[aC,L];{rw[iQ,G,W,w.over i x L]};{cases J:i-[cC]with|zero=>grind|succ j=>rw[eM,J,L]}};{intro x L;rw[bu,e,q,h,w.item x L,#[e,q,λt' z=>by have:=h _ z;rw[bC]]]}};{rw[fc,Gf _,O]}
section
variable{S:aj}{A:BA}{b:a7}{nm st:List (D×D)}{n0:Nat}{P:aj}(I:ak S A b nm st n0 P){r:Nat}(hr:r<S.length)(hra:r∉A.all)(hrn:n0<=r){line:Nat}{ws:bO}(hw:hV ws)(k:Nat)
include I hr hra hrn hw
theorem agW:[i6,5,38,1,xn b ws]:=by rw[aV [fz] _ (F:=Gg) Y Y Y];rw[dP];rw[K,er,[rH,C,a,C.take n0],[n0],X,[zg,4,A.aT,4],AO hr [cP,hR] I.bk.ta 4 1 [ds]];rw[aR]at X;rw[c_,Gg,hB 1,zN,xn,TAXES,4,[cC]];{rw[c8,4,k];cases hg:[rZ]with|error e=>rw[cN,hg,f,hp]|ok x=>rw[dr,hg,4,10000,10000,[an]];cases J:bN 0 10000 [bU] [dX]with|error e=>rw[cz,J,N,fG]|ok y=>rw[ar,J,N,hy,fG,N];rw[ai,v,kf J,w,[lL,4,30,[bi,[L,[s5]],[L,[mL]]],[dn]]=_,[AD,"in","on",[dn],1]];rw[az,seval,fG,nD,[bm],w];(have fj:[lU,G,t,Tax,t.name=[R],t.rate=[b4]->(t.within=ae->t.over=0)->t.over<=[cC]->([Lm])->[CF,C,j5,R.bd (bh [gc,4] [[Iz],[pM,[hL],17]] [[c6,A.nb],[c6,r],[bk,sD [R]],[ay,[b4]],[bk,[bh,! t.within]],[ay,t.over]] [cK,G]) om,G,[nO,t],[iG],A.nb]]:=by intro G t m u h3 h4 h5;have hT:=agt (I.lo.St r line ws G) t [f2];rw[m,u]at hT;rw[ee,[ms,eg],[xt,G,A.aT,[ms,eg],eg t,[ht],t,eg],hR,I.bk.Ke ([ht]++[t]),I.aaE t (m▸B) (m▸s) [g] [g] h3 h4 h5,[Q,[S,[ht]++[t],eg]]=[cC]+1,zN,(hB G).ta,E.ta]);cases hd:[e4,[dn]]with|nil=>rw[hy,hd];rw[au,seval,cn,Iz,lH];rw[be]|cons z q=>have hq:=qX hd;rw[hy,hd];rw[D,T,z=ay "in"];{subst T;rw[ak,O,[my,[Ex],ay "in"],[ah],hk,cn "in" (ay "in"::q)=ae,by simp[cn],he,[bE,[d2,"in"],[mL]],[ah]];obtain⟨C,j,d,j5,f1,f2,f3,f4⟩:=[Ir,ae,[bJ]];rw[aa,hk,bI];rw[dd,by simp[hq],C];rw[au,seval,O,sD,he]};{rw[D,t7,z=ay "on"];{subst t7;rw[K,O,[my,[Ex],ay "on"],[ah],hk,[rs,"in",ay "on"],by rw[aa,cn,ur];rw[ah]];rw[K,he,[cB,[d2,"on"],[mL]],[ah],g,[lL,4,33,[L,[ut]],[dn]+1]=_,DF hr hw (ay "over") [wC] ([dn]+1) [ds]];rw[hq]at g;rw[az,hk,dj,b8,lH,bI];rw[D,H,q.head?=aa (ay "over")];{rw[aI,i,cn "over" q=ae,by simp[cn,H],aJ H,g];rw[K,W,[w8,4,[hL],[v6],d4 b,[v6]],[xf,l',d4 b,[M,[vm]],[v6],k],U,[e4,[v6]]=q.drop 1,by rw[<-y6,hq]];rw[U]at W;rw[aa,i,bI];cases Q:cu (d4 b) [v6] (q.drop 1)with|error e=>rw[ar,Q,W,p,l,W];rw[aY,seval,O,sD,he,[bm],g,l];rw[be]|ok o=>rw[ar,Q,W,ho,l,W];rw[M,o1,o2,o3,l6 Q];rw[V,Cn,[gp,d4,o2],oZ,oR (b:=b) o.1 o1 Cn];rw[D,Z,[tX,o.1]=ae];{simp only[seval,O,sD,he,[bm],g,l,nD,[nm,hB [i2]],zN,h9 (hB [i2]).ta,oZ,Z,[fF]];rw[be]};{have yH:=[aD,Z];obtain⟨C,j,d,j5,f1,f2,f3,f4⟩:=fj [i2] [t',[R],[b4],af,o.1] Y Y (λh=>[hE]) Cn (λ_=>yH);rw[ad,yH,dj,b8];rw[dd,ho,C];simp only[seval,O,sD,he,[bm],g,l,nD,[nm,hB [i2]],zN,h9 (hB [i2]).ta,oZ,yH]}};{rw[aI,i,cn "over" q=af,by simp[cn,H],aw H,g];obtain⟨C,j,d,j5,f1,f2,f3,f4⟩:=[Ir,af,λh=>[hE]];rw[ad,i,dj,b8];rw[dd,hq.symm,C];rw[bY,O,sD,he,[bm],g]}};{rw[K,O,[tf,[Ex],z],by simp[T,t7],hk,[rs,"in",z],by simp[cn,T]];rw[aY,seval,O,hk,lH,t7,dj,b8];rw[be]}}}
end
def xF(b:a7)(ws:bO):eT a7:=[iu,[op,d3 b],i,[iu,cu (d3 b) n C,j,[A,i=j\/[uM,(el i j,fk i j)]=ae,[hj,n,2],[iK,{b with apart:=[nr]++[(el i j,fk i j)]},C]]]]
def ak.aa4{nm st}(I:[k5,S])(p:[gi])(m:1<=[H])(u:[H]<[X])(h:[X]<=[bI])(B:p∉[nr])(U:b.apart.length<100):ak [dl,A.aA,[iV,[nr]++[p]]] A {b with apart:=[nr]++[p]} nm st n0 P:=by rw[c4];refine#[I.bk.W8 _,[w2],#[I.nm.get,I.nm.nd,I.nm.ok,I.nm.len,I.nm.val],?_,#[I.w2.gf,[bC],by rw[ci,g8,#[I.w2.q0,by simp,λa J c O e=>?_]];grind],?_,I.ge,[q,jx [ph,g],I.pr],I.sl,I.sv];{refine#[w.nt,w.ni,w.nb,w.nc,w.rate,w.qN,w.over,w.item,w.iW,w.jO,?_,w.ro,w.ca];intro q z;rw[sw,z,w.apart q z]};{exact I.lo.set _ _ [vw,uY _]}
def UI(n:Nat):∀(l:[ke]),l.Nodup->([g1,l,1<=[H]/\[H]<[X]/\[X]<=5])->[E]<=36:=by intro l q h;rw[cd,kr 36 [pk,6*[H]+[X]] (by rw[aiu,Ii];apply aqf _ q;grind) [f]]
section
variable{S:aj}{A:BA}{b:a7}{nm st:List (D×D)}{n0:Nat}{P:aj}(I:ak S A b nm st n0 P){r:Nat}(hr:r<S.length)(hra:r∉A.all)(hrn:n0<=r){line:Nat}{ws:bO}(hw:hV ws)(k:Nat)
include I hr hra hrn hw
theorem Z0:[i6,5,49,1,xF b ws]:=by rw[aV [fz] _ (F:=Ha) Y Y Y];rw[V,C,λn=>[tO],X,qI hra];rw[ak,er,[rH,t,a,t.take n0],[n0],W,∀n,[w8,4,[hF],n,d3 b,n],λn=>[xf,p_,d3 b,[eT,[vm]],n,k],g,b.apart.length<100,[aM,UI 0 [nr] I.w2.q0 (λp L=>by have:=I.wf.apart p L;rw[aM,I.wf.nc])]];have m:=W 1;rw[ad,seval,Ha,xF];cases s:[op,d3 b]with|error e=>rw[cN,s,m,L]|ok i=>rw[ar,s,m,Z,L,m];have u:=W [kJ];rw[aQ,Z,u];rw[au,seval,L,aZ,nD];cases J:cu (d3 b) [kJ] [aE,i]with|error e=>rw[cz,J,u,U]|ok j=>rw[ar,J,u,Q,U,u];rw[a9,w,v,l6 s];rw[a9,o,d,l6 J];rw[V,B,[gp,d3,v],q,[gp,d3,d]];rw[K,f,el [am,[fD]] j.1=el [fD] j.1,[g],l,fk [am,[fD]] j.1=fk [fD] j.1,[g]];rw[az,seval,U,nD,f,l];rw[D,H,[fD]=j.1];{rw[al,N,[cB,[fD],[am,j.1]],by simp[H],aJ (e6 H)];rw[au,seval,N,[bm],[fF]];rw[be]};{have N:[bE,[fD],[am,j.1]]:=[f];rw[az,seval,N,[nm,[wp]],Ng,h9 [wp].ap];rw[D,O,[uM,[w6]]=ae];{rw[al,z,[Mg],kQ O,aJ z];rw[au,seval,O,[bm],[fF]];rw[be]};{rw[al,z,¬[Mg],[f],aw z];rw[a1,y,[iN,[ol,pD]],[qt],F,[xt,[ae,j],A.aA,[ol,pD],[ir,[bb,el [fD] j.1],[bb,fk [fD] j.1]],[nr],[w6],pD],[aU,jy [cP,[mU,X]],de],#[Q,_,A,nm,st,?_,I.aa4 [w6] [f] [g] [g] (λT=>O (rQ.mpr T)) g,[aD,hr],hra,Y]];simp only[seval,O,[nm,[wp]],Ng,oC [wp].ap,[wp].ap,y,F]}}
end
def eX(w:String)(n:Nat)(ws:bO):eT Nat:=[ao,cn w ws,bN 1 dy [aw] [iY],[iK,0,ws]]
def w7(b:a7)(ws:bO):eT a7:=[yI,COUPONS<=[bI],[A,[t4,C],[hj,[aw],1],aZ (bN 1 [ao,cn "off" C,10000,dy] [aw] [wq]) λv G t=>[i',CI b [kO,nm,cn "off" C,v,0,ag,0] G t,c,[jW,c]]]]
def A':cn w ws=ae↔ws.head?=aa (ay w):=by simp[cn]
def Qw(hr:r<[ab])(hw:hV ws)(w:String)(O:Gd (ay w)/\[kl,ay w,[hI]])(n k:Nat):[ih,4,48,[[bw],sD (ay w)],n,nD,eX w n [dr]]:=by rw[bc,[bN],g,[oe,St S r line _ n],DF hr hw _ O n [an]];rw[az,seval,Lh,[bm],g,eX];rw[D,h,[dr].head?=aa (ay w)];{rw[ai,q,A'.mpr h,N,[CG,1,10000000,dy,[aw]],kt hr hw 1 _ _ k];rw[aQ,y6,N];rw[au,seval,h,q,[bm]];cases z:[qF]with|error e=>rw[cE,z,N,p,m];rw[aX,p]|ok x=>rw[ar,z,N,L,m,N];simp[m];rw[aX,L]};{have q:cn w [dr]=af:=[q,yY,λa=>h (A'.mp a)];rw[aa,h,q];rw[aX,Y]}
def Ob(h:eX w n ws=[fX]):[R]<=10000000:=by rw[aH,eX,h];rw[a6];{have:=kf h;rw[aH,dy,this];omega};grind
def Yn(s:[sz])(y:cK):[xr,[jW,t],p_,[bI]]:=by rw[ds,d3 [jW,t]=d3 b++[t.name],d3,d4 [jW,t]=d4 b,df [jW,t]=[dt],eo [jW,t]=eo b];simp[find,e,z,u,h,AJ [eT,q]];rw[D,L,y=t.name];{subst L;simp[kE.mpr [db],kE.mpr [ae,q],kE.mpr [cP,q],d3]};grind
def ak.abL{nm st}(I:[k5,S])(t:j7)(B:dU t.name=ae)(s:[sz])(U:[bI]<5)(m:t.value<=10000000)(j:t.item<=[bP])(e:[JK])(a:t.least<=10000000):[GP,A.aC,[jv],eh,p_,[bI],[jW,t]]:=by rw[c4];refine [F4,I.bk.Bb _,Yn s,g.2];{simp only[c_,de,<-en];exact List.perm_append_singleton ..};{refine#[w.nt,w.ni,w.nb,[bC],w.rate,w.qN,w.over,w.item,w.iW,?_,?_,w.ro,w.ca];{intro x L;rw[sw,L,w.jO x L]};{intro p q;have:=w.apart p q;rw[bC]}};{rw[fc,Ec _,h]}
def Ev(b:a7)(n:Nat)(ws:bO):eT Nat:=[ao,cn "of" ws,cu [dt] [aw] [iY],[iK,0,ws]]
def mf(x:Nat):[kx]:=[v3,x,x]
def MP(nm:cK)(sh:Bool)(v i n:Nat)(ws:bO):(aZ [ID,"cap",([kO,nm,sh,v,i,aa x,0]:j7),[kO,nm,sh,v,i,ag,0]] λc n ws=>[ID,"when",{c with least:=x},c])=[Gp]:=by rw[D,m,cn "cap" ws=ae];{cases u:[qF]with|error e=>rw[az,eX,m,bI,u,aZ]|ok x=>rw[ai,L,kf u,h,mf [R]=aa [R],[b0,mf]];rw[aJ,cn "when" [dX]=ae];{cases z:bN 1 dy [nd] ([dX].drop 1)with|error e=>rw[aY,eX,m,bI,u,aZ,q,z]|ok y=>rw[aY,eX,m,bI,u,aZ,q,h]};{simp only[eX,m,bI,u,aZ,q,h,dj,b8]}};{have h:mf 0=ag:=rfl;rw[aJ,cn "when" ws=ae];{cases z:[qF]with|error e=>simp only[eX,m,bI,aZ,q,z,dj,b8]|ok y=>simp[eX,m,bI,aZ,q,z,h,dj,b8]};{simp[eX,m,aZ,q,h,dj,b8]}}
def afq(b:a7)(nm:cK)(sh:Bool)(v n:Nat)(ws:bO):CI b [kO,nm,sh,v,0,ag,0] n ws=aZ (Ev b n ws) λi n ws=>[Gp]:=by rw[aa,CI,Ev];rw[aJ,cn "of" ws=ae];{rw[aJ q,aJ q];cases m:cu _ _ _ with|error e=>rfl|ok x=>exact MP _ _ v _ _ _};{rw[a3,aw q,aw q,MP _ _ v 0 n _]}
def wF:[fV]:=[[cD,6,[yN,[qs]]],[cD,7,[yN,[p2]]],[A9],[pM,[hF],20]]
def xx:[fV]:=[fA,[bd]]::[Jd]::wF
def xq:[fV]:=[G7]::xx
def acO:E9=[cv,8,[ua,20,13]::[mm,36]::[bq,[yj,[j0],[pJ]]]::xq]:=rfl
section
variable{S:aj}{A:BA}{b:a7}{nm st:List (D×D)}{n0:Nat}{P:aj}(I:ak S A b nm st n0 P){r:Nat}(hr:r<S.length)(hra:r∉A.all)(hrn:n0<=r){line:Nat}{ws:bO}(hw:hV ws)(k:Nat)
include I hr hra hrn hw
theorem ag9:[i6,6,47,1,w7 b ws]:=by rw[aV [gW] _ (F:=E9) Y Y Y];rw[dP];rw[K,er,[rH,S',a,S'.take n0],[n0],X,[zg,5,A.aC,5],AO hr [cP,[eT,hR]] I.bk.co 5 1 [f2]];rw[aR]at X;rw[c_,acO,hB 1,Qk,w7,COUPONS,5,[bI]];{rw[c8,5,[an]];cases hg:[rZ]with|error e=>rw[cN,hg,f,hp]|ok x=>rw[ar,hg,f,L,hp,f];rw[bl,B,s,zG hg,w,[lL,5,30,[bi,[L,[j0]],[L,[pJ]]],[bU]]=_,[AD,"off","less",[bU],2]];rw[aQ,L,w];rw[ak,fj,[lU,G,t,j7,t.name=[R],t.value<=10000000->t.item<=[bP]->([JK])->t.least<=10000000->[CF,S',j5,[Bc,[[A9],[pM,[hF],20]],t.share,t.value,[ay,t.item],[ay,t.cap.getD 0],[ay,t.least]],G,[jW,t],S'.length,A.nb]],by intro G t m u h3 h4 h5;rw[bn,hT,acA (I.lo.St r line ws G) t [fz],m,hT];rw[ee,[j9,eh],[xt,G,A.aC,[j9,eh],eh t,[jv],t,eh],[eT,hR],I.bk.Bb ([jv]++[t]),I.abL t (m▸B) (m▸s) [g] u h3 h4 h5,[Q,[S,[jv]++[t],eh]]=[bI]+1,Qk,(hB G).co,E.co],R_,∀(sh:Bool)(v i G:Nat),v<=10000000->i<=[bP]->[vb,[Bc,wF,sh,v,[ay,i],[V],[V]],ws,[HY,G,[e4,G]]],by intro sh v i G hv hi;have Co:[ih,5,48,[[bw],[L,[qs]]],G,nD,eX "cap" G [e4,G]]:=Qw hr hw "cap" [wC] G [an];cases O:eX "cap" G [e4,G]with|error e=>rw[ar,O,Co,p,mr,Co];rw[au,seval,wF,mr,aZ];rw[be]|ok c=>rw[ar,O,Co,Hz,mr,Co];have yI:[ih,5,48,[[bw],[L,[p2]]],[ae,c],nD,eX "when" [ae,c] [e4,[ae,c]]]:=Qw hr hw "when" [wC] [ae,c] [an];rw[aQ,Hz,yI];rw[ab,aZ];cases hy:eX "when" [ae,c] [aE,c]with|error e=>rw[ar,hy,yI,p,fG,yI];rw[az,seval,wF,mr,fG,nD];rw[be]|ok y=>rw[ar,hy,yI,yE,fG,yI];rw[V,c1,Ob O,y1,Ob hy];(have ho:[mR,mf c.1]=c.1:=by rw[ab,mf];split<;>simp_all);obtain⟨S',j,d,j5,f1,f2,f3,f4⟩:=fj [dn] [kO,[R],sh,v,i,mf c.1,[b4]] Y hv hi (λq hq=>by rw[ap,mf,hq];rw[aC,hq];{simp at hq};{rw[ap,cX,hq];omega}) y1;rw[ho]at f1;rw[dd,yE,S'];rw[az,seval,wF,mr,fG,nD],R',∀(sh:Bool)(v G:Nat),v<=10000000->[vb,[Bc,xx,sh,v,[V],[V],[V]],ws,[i',CI b [kO,[R],sh,v,0,ag,0] G [e4,G],c,[jW,c]]],by intro sh v G hv;rw[K,Sa,∀(i n:Nat)(C:bO),[i',[iu,eX "cap" n C,c,[i',eX "when" n C,y,[kO,[R],sh,v,i,mf c,y]]],c,[jW,c]]=[HY,n,C],by intro i n C;cases eX "cap" n C with|error e=>rfl|ok c=>rw[ab,aZ];rw[bx,eX "when" [ae,c] [aE,c]],g,[lL,5,33,[L,[mD]],G]=_,DF hr hw [pw] [wC] G [f2]];rw[afq];rw[ab,Ev];rw[D,Cp,[e4,G].head?=aa [pw]];{rw[bn,hk,A'.mpr Cp,aJ Cp,g];rw[bc,aJ hk,W,[w8,5,[g8],G+1,[dt],G+1],[xf,m9,[dt],[ae,[vm]],G+1,[an]]];rw[aQ,y6,W];cases Q:cu [dt] (G+1) ([e4,G].drop 1)with|error e=>rw[ar,Q,W,p,l,W];rw[bY,xx,[bm],g,l,aZ];rw[be]|ok o=>rw[ar,Q,W,ho,l,W];rw[M,o1,o2,o3,l6 Q];rw[V,Cn,[gp,df,o2],U,R_ sh v o.1 [i2] hv Cn];rw[<-ho,<-Sa]at U;rw[bY,xx,[bm],g,l,nD];exact U};{rw[aI,hk,cn "of" [e4,G]=af,[q,yY,λh'=>Cp (A'.mp h')],aw Cp,g];rw[al,Z,¬cn "of" [e4,G]=ae,by simp[hk],aw Z];have U:=R_ sh v 0 G hv [f6];rw[aQ,Sa,U];rw[au,seval,xx,[bm],g];exact U}];rw[az,seval,hp,aZ,[bm],w];cases hd:[dX]with|nil=>rw[ad,seval,cn,Iz];rw[be]|cons z q=>have hq:=qX (L▸hd);rw[D,T,z=[rx]];{subst T;rw[K,O,[my,[[rx],[o5]],[rx]],[ah],hk,cn "off" ([rx]::q)=ae,by simp[cn]];rw[K,he,[cB,[d2,"off"],[j0]],[ah],N,[pI,5,1,10000,[nd],1,10000,[nd]],kt hr hw 1 10000 [nd] [ds]];rw[hq]at N;rw[al,gX,¬[t4,[rx]::q],[ey,hk],aw gX];rw[au,hk,bI,kb,g'];rw[es,10000,ae,[g]]};{rw[D,t7,z=[o5]];{subst t7;rw[K,O,[my,[[rx],[o5]],[o5]],[ah],hk,[rs,"off",[o5]],by rw[aa,cn,ur];rw[ah]];rw[K,H,cn "less" ([o5]::q)=ae,by simp[cn],he,[bE,[d2,"less"],[j0]],[ah]];rw[aI,N,[pI,5,1,10000000,[nd],1,dy,[nd]],kt hr hw 1 10000000 [nd] [ds],hq,N];rw[al,gX,¬[t4,[o5]::q],[ey,H],aw gX];rw[az,hk,dj,b8,kb,g'];rw[es,dy,af,by rw[ap,dy,hv];omega]};{rw[K,O,[tf,[[rx],[o5]],z],by simp[T,t7],hk,[rs,"off",z],by simp[cn,T]];rw[K,H,[rs,"less",z],by simp[cn,t7],gX,[t4,z::q],#[hk,H]];rw[b',aJ gX,O];rw[be]}}}
end
def dB.lt(h:[mI,S]):∀a∈A.all,a<[ab]:=by have q:∀{a}{c},([fR,c])->a<[ab]:=λO=>[dA,O];intro a J;rw[aP,BA.all,cs,J];rcases J with J|J|J;{simp only[BA.hd,bX,dS,d5]at J;rcases J with rfl|rfl|rfl|rfl|rfl|rfl|rfl|rfl;rw[av,q h.bk,q h.na];rw[av,q h.ta,q h.it];rw[av,q h.bu,q h.co];rw[av,q h.ap,q h.se]};{rw[M,t,L,J,j_.mp J];rw[R,i,j,kO L];rw[aA,G,i<[bP],by rw[<-h.il];grind,w,h.is i t _ j (cQ G)];simp[bX,dS,d5]at J;rcases J with rfl|rfl|rfl;rw[b9,q w.it,q w.vo,q w.st]};{rw[M,o,m,e,ui.mp J];subst e;rw[R,i,j,kO m];rw[bp,G,i<[cs],by rw[<-h.bl];grind,q (h.bc i a _ j (cQ G))]}
def dB.app(h:[mI,S])(L:[h]):[mI,S++L]:=h.keep λa J=>lI (h.lt a J)
def NC(hr:r<[ab])(L:[h]):[dk]++L=[d7,S++L,n]:=[b0,St]
def xu(b:a7)(ws:bO):eT a7:=[yI,ITEMS<=[bP],[iu,bN 0 dy n C,p,[i',uu b n [] C,ts,[nN,[tJ,nm,p,ts]]]]]
def abE(s:[sz])(y:cK):[xr,[nN,t],m9,[bP]]:=by rw[ds,df [nN,t]=[dt]++[t.name],df,d4 [nN,t]=d4 b,d3 [nN,t]=d3 b,eo [nN,t]=eo b];simp[find,e,z,AJ [ae,q]];rw[D,L,y=t.name];{subst L;simp[kE.mpr [db],df]};grind
def G6(x:dZ)(f s G:Nat)(O:f<G)(h:s<G):(aP.aX 1 [v0]).low G=ae:=by rw[ak,m,eM G (x.taxes.map _)=ae,eY _ G (zR G) _,u,eM G [fO,mi [jF]]=ae,eY _ G (zR G) _,q,[vS].low G=ae,[bx,x.free]];simp[aP.low,ee,iT,D.low,m,u,q,O,h,iK,lG]
def Rl{l:[f9,Nat,[gi]]}(h:[ez,l,[fE]<G]):eM G [aS,[mc]]=ae:=by induction l with|nil=>rfl|cons a r q=>simp[bT,eM,D.low];grind
def ak.aag{nm st}(I:[k5,S])(f:n0<=[ab])(x:dZ)(B:[sN])(s:x.name∉c_ b)(U:[bP]<8)(G:[ea]<=10000000)(m:x.volume=[])(l:x.steps=[])(Q:x.free=ag)(bU:x.taxes.Nodup)(q:[ez,x.taxes,[eS,t,[cC]]]):[Ib,S++[pF,x],A.aI,[cl,[rC],t,D.ref [fE]],m9,[bP],[Et],[nN,x]]:=by rw[c4];rw[a4,H,I.bk.lt,z,[e_,[K6]],by rw[ci,g8,#[I.bk.nd,by simp,λa h c O e=>?_]];grind,d,ri (S++[pF,x]) [Ct] x,by refine#[by simp,?_,?_];{rw[ey,m]};{rw[ey,l]}];rw[aZ,Z,(I.bk.app [pF,x]).Zd x [Ct] d z,#[Z.Ca _,[w2],I.nm.add x.name B s _ (abE s) ?_,?_,#[?_,I.w2.ap,I.w2.q0],?_,?_,?_,I.sl,I.sv]];{rw[az,c_,de,bT,uo,en];have:=[Ls,b.items.map [qm],[mg,[qm]]++[j9,[qm]]];rw[gp,en,this]};{refine [Hd,[bC]];{intro y L;rw[a0,cs.mp L,L,L,w.item y L];{rw[ap,dL,L];rw[bf,L,#[#[G,[ey,m],[ey,l],e6 m,[ey,Q]],bU,q]]}};{intro y L;rw[M,W,N,J,w.iW y L];grind};{intro y L;rw[dG,W,N,J,p,w.jO y L,#[W,[bC],J,p]]}};{intro y L;rw[a0,cs.mp L,L,L,I.w2.gf y L];rw[a']};{apply ez.set;{apply ez.set;{rw[ba,I.lo.app,c,O];rw[cg,O];rcases O with rfl|rfl|rfl;{exact G6 x _ _ _ (by simp) (by simp)};{rfl};rfl};{rw[ba,Rl,t,j];rw[aK,cs.mp j,j,j];{rw[R,i,C,kO j];have:=H [fE] [M,BA.qb C];rw[bC]};{rw[ap,dL,j];subst j;simp}}};{have F:=cG I.bk.na;rw[Y,jJ,By Y (sP (by simp) nm (I.lo _ F))]}};{intro a h;have u:[Hv]:=[Ix];rw[a0,cs.mp (u.mem_iff.mp h),h,h,I.ge a h];{rw[cg,h];omega}};{rw[jx [g5],jx [cP,[eT,g]],CJ f];exact I.pr}
def V5(l:[h])(n:Nat)(x:cK)(q:bO):cu l n (x::q)=[jo,cu l n [x],[kT],y,.ok ([b4],[aw],q)]:=by rw[bX,cu];{rfl};grind
def Hi(t:Nat)(B:[h])(S:aj):gy [lV] [W,[eE,nD]] S=[Z,B.contains t]:=by
 have h:[wt,[eE,nD]]:=by rw[ck];intro d hd;rw[bP,c,hd];rfl
 have:j1 [lV] [eE,nD]=B.contains t:=by rw[j1,rR,Ip];rw[cb,y];simp[jG,nD,D.beq];grind
 rw[ab,gy];rw[aU,aJ (e6 #[Y,h]),this]
def LQ:∀(C:bO)(n:Nat)(B:[h])(x:[h]×Nat×bO),uu b n B C=[fX]->B.Nodup->([ez,B,[eS,t,[cC]]])->[e_,[R]]/\[ez,[R],[eS,t,[cC]]]/\[dX]=[]|[],n,B,x,h,m,u=>by simp[uu,qA]at h;subst h;grind|y::q,n,B,x,h,m,u=>by rw[aH,uu,h];cases J:cu (d4 b) n [y]with|error e=>rw[a']|ok z=>rw[bE,J,h];rw[a6];{rw[hE]};{rw[a9,z1,z2,l6 J];rw[aZ,a,[gp,d4,z2],LQ q _ _ x h ?_ ?_];{rw[a_,g8]};{intro t j;rw[di,j,u t j,#[z1,a]]}}
section
variable{S:aj}{A:BA}{b:a7}{nm st:List (D×D)}{n0:Nat}{P:aj}(I:ak S A b nm st n0 P){r:Nat}(hr:r<S.length)(hra:r∉A.all)(hrn:n0<=r){line:Nat}{ws:bO}(hw:hV ws)(k:Nat)
include I hr hra hw
theorem M4(f d:D):∀(C:bO)(n:Nat)(B:[aj])(j:Slot)(fuel:Nat),C=[dr]->[iG]<fuel->[br]+[iG]<=3000->[jo,uu b n B C,∃p,[GQ]=[f8,e.1,e.2,[cK,p]],x,[vc]/\∃F,[GQ]=[dz,[w9,[bl,[hq,[R]]],F],[cK,[bU]]]]|[],n,B,j,fuel,hu,u,J=>by rw[ce,G,fuel=G+1,[pt]];rw[K,U,¬[lT],[f],g,[s',4,28]=_,va hr [f2]];rw[bq,hu,j];rw[a8,[uf,af,hr,U,j8]]|y::q,n,B,j,fuel,hu,u,J=>by rw[ce,G,fuel=G+1,[pt]];rw[ak,U,[lT],[f],g,[s',4,28]=_,va hr [f2],W,[w8,4,[hL],n,d4 b,n],[xf,l',d4 b,[M,[vm]],n,k]];rw[<-hu,V5]at W;have a:=qX hu.symm;rw[[uf,ae,hr,U,iK]];rw[ab,uu];cases L:cu (d4 b) n [y]with|error e=>rw[ar,L,W,p,m,W];rw[cU,m]|ok z=>rw[ar,L,W,i,m,W];rw[D,O,B.contains [cA]=ae];{rw[ad,seval,m,nD];rw[az,seval,Hi,O,[bm],[fF]];grind};{simp only[b7]at u J;rw[a4,l,M4 f d q [aw] (B++[[cA]]) [ay,[cA]] fuel a.symm [g] [f],H,[iN,[eE,nD]],[qt],h,(bh [gc,4] [AN] [w9,[tY,[eE,nD]],j] [dk])=[dz,[w9,[bl,[hq,B++[[cA]]]],[ay,[cA]]],[cK,[aw]]],by rw[aa,seval,m];rw[[iM,nD [cA]=[cz,[cA]]]];rw[az,seval,Hi,O,H,de];rfl];rw[h];rw[hT,fC]}
end
section
variable{S:aj}{A:BA}{b:a7}{nm st:List (D×D)}{n0:Nat}{P:aj}(I:ak S A b nm st n0 P){r:Nat}(hr:r<S.length)(hra:r∉A.all)(hrn:n0<=r){line:Nat}{ws:bO}(hw:hV ws)(hwl:ws.length<=2001)(k:Nat)
include I hr hra hrn hw hwl
theorem aai:[i6,5,39,1,xu b ws]:=by rw[aV [fz] _ (F:=FO) Y Y Y];rw[V,o,λn=>[tO],O,qI hra];rw[K,er,[rH,S',a,S'.take n0],[n0],X,[zg,4,A.aI,8],AO hr [cP,O.2] I.bk.it 8 1 [ds]];rw[aR,I.bk.il]at X;rw[c_,FO,o 1,FQ,xu,ITEMS,8,[bP]];{rw[c8,4,k];cases v:[rZ]with|error e=>rw[cN,v,f,hp]|ok x=>rw[dr,v,4,10000000,dy,[an]];cases J:[EC]with|error e=>rw[cz,J,N,w]|ok y=>rw[ar,J,N,hy,w,N];have i:=kf J;rw[ad,seval,w,nD];rw[aA,U,[aN,[f1],2001],[f],W,M4 I hr hra (line:=line) hw k (sD [R]) [l,[b4]] [f1] [dn] [] [V] 20000 hy [g] ([bC])];rw[ap,uo,W];cases Q:uu b [dn] [] [f1]with|error e=>rw[ar,Q,W,p,l,W];rw[l];rw[ep];rw[be]|ok z=>rw[Q]at W;rw[aO,hz,s5,l,W,t1,t2,t3,LQ _ _ _ _ Q (by simp) (by simp)];rw[al,g,[Q,[cA]]<64,by have:=[nA,t1,t2];rw[aM,I.wf.nt],l];have q:=Mx (S:=[cK,[fB]]) [r1] Y Y Y g [f2];rw[ap,AE,q];rw[NC hr]at q;rw[V,H,I.aag [g] [r1] B s [g] [aB,[b4]<=10000000,i.2] Y Y Y t1 t2,m,I.bk.app [pF,[r1]]];rw[a4,E,[Lz,[fB]],dQ,[iN,A.az.map [mc]],by rw[aR,I.bk.il];rw[ej],F,[d7,S++[pF,[r1]],[fB]].set A.aI [W,(A.az.map [mc])++[[hd]]]=[d7,(S++[pF,[r1]]).set A.aI [dv,[rC],[mc]],[fB]],[aU,jy [cP,O.2],de]];rw[ai,d,H.bk,j,r∉[Et].all,[eW,u,[Hv],[Ix]]];generalize Z:(S++[pF,[r1]])=C at*;rw[V,kG,[zZ,0,3],T,[zZ,1,3]];rw[K,k1,[BA][A.nb]?=aa [Ah,A],[a3,h_ O.1,bR kG.symm,m.bk],k2,[BA][A.aI]?=aa [dv,[rC],[mc]],[q,h_ [cP,O.2],mh m.it]];rw[a1,k3,[BA][A.aN]?=aa [cc,nm],[a3,h_ [ae,O],bR T.symm,m.na],gF,[Q,[cl,[rC],t,D.ref [fE]]]=[bP]+1,by simp[I.bk.il],#[hz,_,_,_,_,?_,H,?_,j,Y]];{simp only[seval,[nm,o [fB]],FQ,oC (o [fB]).it,sD,q,E.it,dQ,F,d8 k1,h9 k2,Cg,k3,zY I.wf I.nm,gF,jy [ae,O]];rfl};{rw[<-Z];rw[bC]}}
end
def YD{U J:[aI]}(f:U->J)(l:[h])(i:Nat)(x z:U)(L:[cS,l])(h:f z=f x):[S,l.set i z,f]=[gZ]:=by apply mw;grind
def ak.DZ{nm st}(I:[DY])(i:Nat)(t:[oS])(x q:dZ)(a:Nat)(c:aP)(W:[vs])(L:[cS,[cG]])(J:[LG])(s:ri [kt] t q)(O:[q3]=ae)(B:q.name=x.name)(d:q.taxes=[jF])(j:mM q)(U:q.volume.length<=5/\q.steps.length<=5):ak [kt] A [xQ,q] nm st G P:=by rw[V,w,I.wf,C,YD _ _ _ x _ L B];rw[a1,z,∀y∈b.items.set i _,y∈[cG]\/y=q,λy e=>IA e,h,G<=a,by rw[M,N,F,n,BA.qb W];rcases J with rfl|rfl|rfl;rw[b9,I.ge _ N,I.ge _ F,I.ge _ n],#[I.bk.ab' i t x _ a c W L J s,[w2],?_,?_,#[?_,I.w2.ap,I.w2.q0],I.lo.set a c O,I.ge,[q,jx h,I.pr],I.sl,I.sv]];{rw[K,m,c_ [xQ,q]=c_ b,by simp[c_,C],u,∀y,find [xQ,q] y=find b y,λy=>by simp[find,df,C];rfl];exact [H6,y,e,u,m]};{refine [Hd,by simp;exact w.ni];{intro y e;rw[a0,z y e,e,rfl,w.item y e];{obtain⟨_,l,f⟩:=w.item x (cG L);grind}};{intro y e;have:=w.iW y e;rw[aD,this]};{intro y e;have:=w.jO y e;rw[aD,this]}};{intro y e;rw[d_,z y e,e,rfl,I.w2.gf y e,U]}
def p9(own g:List ua)(n:Nat)(ws:bO):eT (List ua):=[A,g.isEmpty=af,[wr],[A,y9<=own.length,[hj,1,5],[G5,ws]]]
def vQ:[fV]:=[[cr,[p7,[ai],.g 0]],[JC]]
def agI:Ds=[b2,5,[Lh]::[It]::[bq,[iT]]::[HH]::vQ]:=rfl
def Mt(O:r<[ab])(W:hV ws)(m:a≠r)(u:q≠r)(t:[fR,[W,own.map eR]])(w:[aQ,S,q,[W,g.map eR]])(hf:∀s∈own,[gr]<=40)(n k:Nat):[Az,p9 own g n [dr],[jl,4,41,[[bw],[aL],[jP]],n],[R],eR]:=by rw[aV [f2] _ (F:=Ds) Y Y Y];rw[K,I,[z_,a,[W,own.map eR]],λG=>[q,h_ m,t],v,[z_,q,[W,g.map eR]],λG=>[q,h_ u,w]];rw[bY,agI,h9 (v n),h9 (I n),aR,p9];rw[D,E,g.isEmpty=af];{rw[al,H,0<[am,g.length],by cases g<;>simp_all,aJ E];rw[au,seval,H,bV O,D8 O];rw[aX,n]};{rw[al,H,¬0<[am,g.length],by cases g<;>simp_all,aw E];rw[D,B,y9<=own.length];{rw[al,z,5<=[Fd],by rw[ap,y9,B];omega,aJ B];rw[aY,seval,H,h9 (I n),aR,z,bV O,D8 O];rw[aX,n]};{rw[al,z,¬5<=[Fd],by rw[ap,y9,B];omega,aw B];rw[K,N,[pI,3,[bb,[s_]],40,n,[s_],em,n],kt O W [s_] 40 n k,A,∀Z,Z=[l,[bb,[s_]]]->[Az,[G5,[dr]],R.bd (bh [gc,3] vQ [[c6,r],[c6,a],[c6,q],[b_,Z],[V]] [dk]) om,[R],eR],by intro Z X;subst X;cases Q:bN [s_] em n [dr]with|error e=>rw[ar,Q,N,p,P,N];rw[az,seval,vQ,bV O,P,aZ];rw[aX,p]|ok G=>rw[ar,Q,N,b,P,N];have L:[pI,3,0,10000000,[ae,G],0,dy,[ae,G]]:=kt O W 0 10000000 [ae,G] k;rw[aQ,b,L];rw[ab,aZ];cases J:bN 0 dy [ae,G] [aE,G]with|error e=>rw[ar,J,L,p,F,L];rw[aY,seval,vQ,bV O,P,F,nD,oC (I [ae,G])];rw[aX,p]|ok p=>rw[ar,J,L,l,F,L];rw[ae,o,[iN,own.map eR],by rw[aR];rw[ap,y9,B];rw[ej],#[l,?_]];simp only[seval,vQ,bV O,P,F,nD,oC (I [ae,G]),I [ae,p],o,jy m,de];rfl];rw[D,U,own=[]];{have d:¬0<[Fd]:=[ey,U];have:=A [l,2] [bM,U];rw[bY,H,h9 (I n),aR,z,d];rw[b2]};{rw[aA,h,[am,0]<own.length,by cases own<;>simp_all,y,aiC U];rw[K,i,(own.map eR).getLast?=aa (eR [EI]),[f],c,r8 own=[EI].from_,[aa,r8,y]];have:=A [l,[EI].from_+1] [bM,c];rw[K,j,∀(s:ua)(T:aj),eC (eR s) [iW] T=[bc,[l,[gr]],T],λs T=>rfl,f,∀(s:ua)(T:aj),bH (eR s) T=[bc,eR s,T],λs T=>rfl];simp only[seval,H,h9 (I n),aR,z,h,E1,i,j,f];rw[b2]}}}
def eO(A:BA)(i:Nat):[oS]:=A.az.getD [cy] (0,0,0)
def oo(b:a7)(gf:Bool)(ws:bO):eT a7:=[iu,[op,[dt]],i,[i',p9 [ao,gf,[hp].volume,[hp].steps] [ao,gf,[hp].steps,[hp].volume] n C,l,setItem b i [ao,gf,{[hp]with volume:=l},{[hp]with steps:=l}]]]
def ye(b:a7)(ws:bO):eT a7:=[iu,[op,[dt]],i,[ao,[hp].free.isSome,[wr],[iu,bN 1 em n C,f,aZ (lH "of" n C) λ_ n C=>[i',bN (f+1) em n C,G,setItem b i {[hp]with free:=aa (f,G)}]]]]
def RC(h:p9 own g n ws=[fX]):g=[]/\own.length<5/\∃s:ua,[R]=own++[s]/\[gr]<=40/\[ns]<=10000000:=by rw[ap,p9,h];rw[a6];rw[ay];{rw[a6];rw[ay];{rw[aB,u];cases m:bN _ _ n _ with|error e=>rw[fo,m,h,aZ]|ok G=>rw[fo,m,h,aZ];cases q:bN 0 dy [ae,G] [aE,G]with|error e=>grind|ok p=>rw[fo,q,h,qA];subst h;rw[V,z,kf m,j,kf q];refine#[[f],by rw[aH,y9,u];omega,_,Y,z.2,j.2]}}
section
variable{S:aj}{A:BA}{b:a7}{nm st:List (D×D)}{n0:Nat}{P:aj}(I:ak S A b nm st n0 P){r:Nat}(hr:r<S.length)(hra:r∉A.all)(hrn:n0<=r){line:Nat}{ws:bO}(hw:hV ws)(k:Nat)
include I hr hra hw in theorem GX(n:Nat):[ih,5,40,[[jw],[bw]],n,λi=>[m,[M,eO A i]],cu [dt] n [dr]]:=by rw[[bN]];rw[ai,f,λn=>[tO],W,dI [la,[[dP],[bw],[L,[g8]]]] _ line _ _ _,py hr hw I.nm [zw] _ ([ah]) _ (λx=>[ae,[vm]]) n k];rw[bg,Oh,[nm,f n],FQ];cases m:cu _ n _ with|error e=>rw[ar,m,W,p,q,W];simp[q];rw[aX,p]|ok x=>rw[ar,m,W,L,q,W];rw[a9,G,u,l6 m];rw[aA,d,[R]<=A.az.length,by rw[I.bk.il];rw[gp,df,u],C,yh [mc] _ (0,0,0) _ G d];rw[eU,q,nD,h9 (f _).it,C];rw[aX,L]
theorem Gb(h:[mI,S])(m:1<=i)(u:i<=[bP]):[aQ,A.az,[cy],eO A i]/\[aQ,[cG],[cy],[hp]]/\ri S (eO A i) [hp]:=by rw[K,q,[cy]<A.az.length,[cx,h.il],j,[cy]<[bP],[g]];rw[K,e,[aQ,A.az,[cy],eO A i],by rw[eO,hY,cQ q];rfl,z,[aQ,[cG],[cy],[hp]],by rw[cC,hY,cQ j];rfl];exact#[e,z,h.is _ _ _ e z]
theorem Lw(x:dZ)(f s:Nat):eV [v0] 7=[eq,f]:=rfl
theorem Ni(x:dZ)(f s:Nat):eV [v0] 8=[eq,s]:=rfl
theorem adG(x:dZ)(f s:Nat):eV [v0] 9=aa [vS]:=rfl
theorem Ga(h:A.all.Nodup){i:Nat}(q:[vs]):[H']:=by rw[ai,u,[M,g8.mp [ae,g8.mp h]],key,∀l:[f9,Nat,[gi]],([e_,l.flatMap [vu]])->[ez,l,[H']],by intro l;induction l with|nil=>simp|cons y l e=>intro hN t q;rw[ir,g8]at hN;rw[aK,[c1,q],rfl,q];{have:=hN.1;simp only[mv,bX,dS,d5,ue]at this;exact#[[m'].1,[m'].2,[ae,this]]};{exact e [ae,hN] t q}];exact key _ u t (cG q)
include I hr hra hrn hw
theorem ZJ:[i6,6,42,1,oo b ae ws]:=by rw[[bN]];rw[aA,er,[GW],[n0],m,[BU]];rw[aa,Od,oo];cases J:[tm]with|error e=>rw[cE,J,m,p,d];rw[be]|ok i=>rw[d7,w,v,Z,z.vo,z.st,j.gf s g,[an]];cases C:p9 _ _ _ _ with|error e=>rw[ar,C,W,p,q,W];simp[q];rw[be]|ok l=>rw[eF,X,d2];apply I.DZ _ _ _ {cC b _ with volume:=l.1} _ [b6] u o (by simp) [n1] [vw,vM _] Y Y #[j.price,?_,j.step,kQ f,j.free] #[by rw[N];rw[bC],[ey,f]];{rw[Y,bR X,z.it]};{exact mh z.vo};{rw[Y,bR y.symm,z.st]};{rw[fw,j.gf _ O]}
theorem VM:[i6,6,43,1,oo b af ws]:=by rw[[bN]];rw[aA,er,[GW],[n0],m,[BU]];rw[aa,Mn,oo];cases J:[tm]with|error e=>rw[cE,J,m,p,d];rw[be]|ok i=>rw[d7,X,Z,v,z.st,z.vo,j.step s g,[an]];cases C:p9 _ _ _ _ with|error e=>rw[ar,C,W,p,q,W];simp[q];rw[be]|ok l=>rw[eF,d1,w];apply I.DZ _ _ _ {cC b _ with steps:=l.1} _ [b6] u o (by simp) [n1] [vw,vM _] Y Y #[j.price,j.gf,?_,e6 f,j.free] #[[ey,f],by rw[N];rw[bC]];{rw[Y,bR w,z.it]};{rw[Y,bR y,z.vo]};{exact mh z.st};{rw[fw,j.step _ O]}
theorem agE:[i6,6,44,1,ye b ws]:=by rw[aV [gW] _ (F:=Fz) Y Y Y];rw[aA,er,[rH,t,a,t.take n0],[n0],m,[BU]];rw[ad,seval,Fz,ye];cases s:[op,[dt]]with|error e=>rw[cN,s,m,Z]|ok i=>rw[ar,s,m,o,Z,m];rw[a9,T,i2,l6 s];have B:=[gp,df,i2];rw[aO,g,e2,C,Gb I.bk T B,m1,F,n,BA.qb g];rw[K,X,[M,[oA]]≠r,[zE,m1],v,[z_,[M,[oA]],.aX 1 [wT]],λG=>[q,h_ X,C.it]];have j:=[M,I.wf.item _ (jV [fD] T B)];rw[az,seval,Z,d8 (v [kJ]),adG,aZ];cases hf:[os].free with|some q=>rw[bY,fD,pD,o_,[bm],D8 hr];rw[be]|none=>have N:[pI,5,1,40,[kJ],1,em,[kJ]]:=kt hr hw 1 40 [kJ] [ds];rw[aQ,o,N];rw[au,seval,fD,nQ,[bm]];cases J:bN 1 em [kJ] [aE,i]with|error e=>rw[cz,J,N,U]|ok f=>rw[ar,J,N,u,U,N];rw[ai,d,kf J,w,[lL,5,30,[bs,[[L,[mD]]]],[ae,f]]=_,BG hr hw [[pw]] (by intro c O;rw[cg,O];rw[bf,O,#[[bo,hO (by rfl)],by rfl]]) [ae,f] [ds]];rw[aQ,u,w];rw[az,seval,U,nD,[bm],w];cases hd:[aE,f]with|nil=>rw[be]|cons z q=>have hq:=qX (u▸hd);rw[D,H,z=[pw]];{subst H;rw[K,O,[my,[[pw]],[pw]],by rfl,L,[pI,5,[bb,[q7]],40,[ae,f]+1,[q7],em,[ae,f]+1],kt hr hw [q7] 40 ([ae,f]+1) [ds]];rw[hq]at L;have ef:[q7]=[cO,[q7]]:=[g];rw[bY,O,lH,bI,[bm],ef];cases Q:bN [q7] em ([ae,f]+1) q with|error e=>rw[cz,Q,L,l]|ok G=>rw[ar,Q,L,hm,l,L];have x:=kf Q;simp only[em]at d x;rw[K,W,dV [wT] 9 [ir,f.1,G.1]=ee [Kd] [ae,[oA]] [aE,[oA]],rfl,gF,[Q,[wT]]=7,rfl];rw[M,d1,d2,y,Ga I.bk.nd g];have E:=I.bk.lt;rw[aY,seval,l,nD,v [ae,G],gF,W,jy X];refine#[hm,_,A,nm,st,Y,?_,[aD,hr],hra,Y];apply I.DZ ([fD]-1) [oA] [os] [Kd] _ _ g e2 (e6 Y) [n1] ?_ Y Y #[j.price,j.gf,j.step,j.one,?_] (I.w2.gf [os] (jV [fD] T B));{exact mh C.it};{rw[Y,bR d1.symm,C.vo]};{rw[Y,bR d2.symm,C.st]};rw[bU,G6 _ _ _ _ (E _ F) (E _ n)]};{(have O:[tf,[[pw]],z]:=by simp[H]);rw[au,seval,O,lH,H];rw[be]}
end
def lV(b:a7)(n:Nat)(B:[ke])(ws:bO):eT [gi]:=[jo,cu [dt] n ws,[kT],x,[ao,[x5],[hj,[bU],2],[jo,bN 1 em [bU] [dX],[kT],y,.ok (([R],[b4]),[dn],[f1])]]]
def Bg(b:a7)(f n:Nat)(B:[ke])(C:bO):eT [ke]:=[ao,C.isEmpty,[iK,B,[]],CK b f n B C]
def M6(b:a7)(f n:Nat)(B:[h])(ws:bO):CK b (f+1) n B ws=[jo,lV b n B ws,[kT],x,Bg b f [bU] [vR] [dX]]:=by rw[aa,CK,lV];cases cu _ n _ with|error e=>rfl|ok x=>rw[br,h,[x5]=ae];{rw[ab,h];cases [qF]with|error e=>rfl|ok y=>rfl}
def aa3(h:lV b n B ws=[fX]):[lu,[R].1,[bP],[lu,[R].2,40,[R].1∉[vW]]]:=by rw[ap,lV,h];cases m:cu [dt] n ws with|error e=>rw[a']|ok y=>rw[bE,m,h];rw[a6];rw[ay];{rw[aB,O];cases u:bN 1 em [dn] [f1]with|error e=>grind|ok z=>rw[fo,u,h,qA];subst h;rw[a9,L,j,l6 m];rw[aZ,q,kf u,#[L,[gp,df,j],[db],q.2,λU=>O ?_]];grind}
def pZ(b:a7)(B:[ke]):[P]:=[e_,[vW]]/\[g1,B,[lu,[H],[bP],[eS,[X],40]]]
def pZ.add(h:pZ b B)(L:lV b n B ws=[fX]):pZ b [vR]:=by rw[ac,u,j,z,m,H,aa3 L];refine#[?_,λp q=>?_];{rw[de,g8];rw[gJ,#[[dJ],by simp,λa J c O e=>?_]]};{rw[di,q,h.2 p q,#[u,j,z,m]]}
def pZ.len(J:[aO])(h:pZ b B):[br]<=8:=by have:=[nA,[dJ],λy L=>[bu,p,q,rfl,b0.mp L,#[[M,h.2 p q],[ae,h.2 p q]]]];rw[aR]at this;rw[aM,J.ni]
section
variable{S:aj}{A:BA}{b:a7}{nm:List (D×D)}(hnm:nk b nm){r:Nat}(hr:r<S.length){line:Nat}{ws:bO}(hw:hV ws)(hbv:x4 (.ref A.nb) nm (St S r line ws))(k:Nat)
include hnm hr hw hbv
theorem Pm(d:∀G,bH pv [cK,G]=[bc,[W,[eE,pD]],[cK,G]])(n:Nat):[ih,5,46,[[jw],[bw],pv],n,pD,lV b n B [dr]]:=by rw[bc,[bN],W,dI [la,[[dP],[bw],[L,[g8]]]] _ _ _ _ _,py hr hw hnm hbv _ ([ah]) _ (λx=>[ae,pB hnm.nd x]) n k];simp[NO,lV];cases h:cu _ n _ with|error e=>rw[cE,h,W,p,m];rw[aX,p]|ok x=>rw[ar,h,W,L,m,W];(have U:∀T,gy [l,[R]] [W,B.map _] T=.ok [x5] T:=λT=>by have e:[eE,[aF,[cz,[H]]]]=[c_,[vW]]:=[bM,cq];rw[e,Hi];grind);rw[az,seval,m,nD,d,U];rw[D,O,[x5]=ae];{rw[bg,O,[bm],[fF]];rw[aX,[bU]]};{have N:[CG,1,40,em,[bU]]:=kt hr hw 1 _ _ [an];rw[aQ,L,N];simp[seval,O,[bm]];cases J:[qF]with|error e=>rw[ar,J,N,p,q,N];rw[ab,q];rw[aX,p]|ok y=>rw[cE,J,N,z,q];rw[aX,z]}
end
section
variable{S:aj}{A:BA}{b:a7}{nm st:List (D×D)}{n0:Nat}{P:aj}(I:ak S A b nm st n0 P){r:Nat}(hr:r<S.length)(hra:r∉A.all){line:Nat}{ws:bO}(hw:hV ws)(k:Nat)
include I hr hra hw
theorem YZ(T d:D):∀(f:Nat)(C:bO)(n:Nat)(B:[ke])(fuel:Nat),[iG]<f+1->C=[dr]->[iG]<fuel->pZ b B->[jo,Bg b f n B C,∃p W,[Gn]=[f8,e.1,e.2,[d7,[pT,W],p]],x,([vc]/\pZ b [R])/\[Gn]=[dz,[wS],[DL,[R]]]]:=by intro f;induction f with|zero=>intro C n B fuel hf hu j N;have J:C=[]:=uf.mp [g];rw[ce,G,fuel=G+1,[pt]];subst J;rw[K,Q,r<[Q,[qo]],[bC],H,¬[lT],[f]];rw[ae,g,[Kw],va Q [fz],#[#[hu,N],?_]];rw[a8,[uf,af,Q,H,j8]]|succ f ih=>intro C n B fuel hf hu j N;rw[ce,G,fuel=G+1,[pt]];rw[K,Q,r<[Q,[qo]],[bC],g,[Kw],va Q [fz]];cases C with|nil=>rw[ae,H,¬[lT],[f],#[#[hu,N],?_]];rw[a8,[uf,af,Q,H,j8]]|cons y q=>rw[aA,H,[lT],[uF,mu,hu],c,I.bk.app [aP.lst [eE,pD]]];rw[K,v,[ab]≠r,[g],O,∀G,[d7,[qo],G][[ab]]?=aa [W,[eE,pD]],λG=>[ey,h_ v]];have u:=Pm I.nm Q hw (c.mW hra) k (λG=>h9 (O G)) n;rw[aQ,hu,u];rw[[uf,ae,Q,H,iK],aJ Y];rw[az,Bg,SZ,dj,b8,M6];cases U:lV b n B (y::q)with|error e=>rw[ar,U,u,p,Z,u];rw[ad,seval,oC (O n),Z];exact#[p,_,Y]|ok x=>rw[ar,U,u,L,Z,u];rw[V,l,N.add U,E,N.len I.wf];rw[K,nq,[iN,[eE,pD]],[qt],F,[d7,[qo],[bU]].set [ab] [W,[eE,pD]++[pD [R]]]=[DL,[vR]],by rw[jy v,Be,de];rfl];rw[K,h,bh [gc,5] [Cw] [wS] [d7,[qo],n]=[dz,[wS],[DL,[vR]]],[bY,oC (O n),Z,O [bU],nq,F],i,[Q,[dX]]<f+1/\[Q,[dX]]<fuel,by(have m:[bU]>=[aw]:=by rw[ap,lV,U];cases X:cu [dt] n (y::q)with|error e=>rw[eM,X,U]|ok z=>rw[bE,X,U];rw[aC,U];{simp at U};{cases s:bN 1 em [fB] [aE,z]with|error e=>rw[eM,s,U]|ok w=>rw[cD,s,U,qA];have z3:=[aE,l6 X];rw[bI,[ae,w]=[fB]+1,by cases o:[aE,z]with|nil=>rw[fo,o,s,bN]|cons a t=>rw[o]at s;rw[ap,bN,s];cases hm:mD a with|none=>rw[eM,hm,s]|some G=>rw[bE,hm,s];rw[aC,s];{cases s;rfl};{simp at s}]});rw[L,rW];have:=jK mu hu;simp only[b7,rW]at this hf j;omega];rw[h];rw[ab,fC];have:=ih [dX] [bU] [vR] fuel [fD] L i.2 l;rw[b2]
end
def xO(b:a7)(ws:bO):eT a7:=[yI,BUNDLES<=[cs],[iu,bN 0 dy n C,p,[i',CK b ([iG]+1) n [] C,ps,[nH,{name:=nm,price:=p,parts:=ps}]]]]
def YL(s:[sz])(y:cK):[xr,[nH,t],oJ,[cs]]:=by rw[ds,eo [nH,t]=eo b++[t.name],eo,d4 [nH,t]=d4 b,d3 [nH,t]=d3 b,df [nH,t]=[dt]];simp[find,e,z,h,AJ [cP,q]];rw[D,L,y=t.name];{subst L;simp[kE.mpr [db],kE.mpr [ae,q],eo]};grind
def Gm(x:io)(o:[fP])(G:Nat)(h:∀c,o=aa c->c<G):(hK x o).low G=ae:=by cases o with|none=>have m:eM G (x.parts.map _)=ae:=eY _ G (uY G) _;simp[hK,dk,D.low,iT,m,lG]|some c=>have:=h c Y;simp[hK,D.low,iT,this,iK,lG]
def Kx(h:∀d∈l,d.low G=ae):eM G l=ae:=by induction l with|nil=>rfl|cons a r q=>rw[b0,eM]
def ak.aav{nm st}(I:[k5,S])(f:n0<=[ab])(x:io)(B:[sN])(s:x.name∉c_ b)(U:[cs]<3)(u:[ea]<=10000000)(X:pZ b x.parts):[Ib,[pT,[kg,pD]],A.aB,[fc,[Bb,x,[ab]],[ll]],oJ,[cs],[xk,[ab]],[nH,x]]:=by rw[c4];rw[ai,m,I.bk.lt,z,[ab]∉A.all,λh=>[aM,m _ h]];have W:=(I.bk.app [aP.lst [kg,pD]]).adP x _ (by simp) z;rw[ae,H,[Dr,[ab]],[gt,BA.all,S7,en],#[W.Ca _,[w2],I.nm.add _ B s _ (YL s) ?_,?_,[L8],?_,?_,?_,I.sl,I.sv]];{simp[c_];have:=[Ls,b.items.map [qm]++[mg,[qm]],[j9,[qm]]];rw[aD,this]};{refine#[w.nt,w.ni,[bC],w.nc,w.rate,w.qN,w.over,w.item,?_,w.jO,w.apart,w.ro,w.ca];intro y L;rw[di,L,w.iW y L,#[u,X.1,X.2]]};{apply ez.set;{apply ez.set;{rw[ba,I.lo.app,c,O];rw[aH,dL,O];rw[bf,O,[vw,uY _]]};{rw[ba,Kx,d,hd];rw[M,q,C,rfl,b0.mp hd];rw[ba,Gm,c,O];have:=[bo,j9 C];rw[O]at this;rw[aK,cs.mp this,h,h];{rw[R,i,e,kO h];have:=m c (BA.Hc e);rw[bC]};grind}};{have j:=cG I.bk.na;rw[Y,jJ,By Y (sP (by simp) _ (I.lo _ j))]}};{intro a J;rw[H]at J;rw[sw,J,I.ge a J]};{rw[jx [g5],jx [mU,[aE,g]],CJ f];exact I.pr}
section
variable{S:aj}{A:BA}{b:a7}{nm st:List (D×D)}{n0:Nat}{P:aj}(I:ak S A b nm st n0 P){r:Nat}(hr:r<S.length)(hra:r∉A.all)(hrn:n0<=r){line:Nat}{ws:bO}(hw:hV ws)(hwl:ws.length<=2001)(k:Nat)
include I hr hra hrn hw hwl
theorem ag2:[i6,6,45,1,xO b ws]:=by rw[aV [gW] _ (F:=GD) Y Y Y];rw[dP];rw[ak,er,[rH,S',[am,a],S'.take n0],[n0],v,∀{G:R D}{a c p}{g},G=[f8,[am,a],[am,c],[d7,[pT,g],p]]->∃S',G=[f8,a,c,S']/\S'.take n0=P,λh=>#[_,h,[a3,hE hrn,CJ [g],I.pr]],X,[zg,5,A.aB,3],AO hr [ph,hR] I.bk.bu 3 1 [f2]];rw[aR,mB,I.bk.bl,aiG]at X;rw[c_,GD,hB 1,Qn,xO,BUNDLES,3,[cs]];{rw[c8,5,[an]];cases hg:[rZ]with|error e=>rw[cN,hg,f,hp]|ok x=>rw[dr,hg,5,10000000,dy,[ds]];cases J:[EC]with|error e=>rw[cz,J,N,fG]|ok y=>rw[ar,J,N,hy,fG,N];rw[ai,i,kf J,u,[ih,5,46,[[jw],[bw],[bF]],[dn],pD,lV b [dn] [] [e4,[dn]]],Pm I.nm hr hw [zw] k (pv:=[bF]) (λG=>rfl) [dn]];rw[aQ,hy,u];rw[au,seval,fG,nD,M6];cases hq:lV b [dn] [] [f1]with|error e=>rw[cz,hq,u,l]|ok z=>rw[ar,hq,u,hz,l,u];rw[aA,hP0,pZ b [],[qT,by simp],hP1,hP0.add hq];rw[K,Cq,[aN,[aE,z],[Q,[f1]]],by rw[hz,hy,rW,rW];(have:[fB]>=[dn]:=by rw[ap,lV,hq];cases ho:cu [dt] [dn] [f1]with|error e=>rw[eM,ho,hq]|ok o=>rw[bE,ho,hq];rw[aC,hq];{simp at hq};{cases hn:bN 1 em [i2] [aE,o]with|error e=>rw[eM,hn,hq]|ok w=>rw[cD,hn,hq,qA];have z3:=[aE,l6 ho];(have:[ae,w]=[i2]+1:=by cases U:[aE,o]with|nil=>rw[fo,U,hn,bN]|cons a t=>rw[U]at hn;rw[ap,bN,hn];grind);rw[bt];omega});omega,hyl,[aN,[f1],2001],by rw[hy,rW];omega];rw[ai,hL,YZ I hr hra (line:=line) hw k (sD [R]) [l,[b4]] [Q,[f1]] [aE,z] [fB] [[cA]] 20000 [g] hz [g] hP1,Q,[cK,[fB]]++[aP.lst [pD [cA]]]=[d7,[pT,[pD [cA]]],[fB]],by rw[NC hr]];rw[au,seval,l,AE,Q];cases q:Bg b [Q,[f1]] [fB] [[cA]] [aE,z]with|error e=>rw[q]at hL;rw[M,p,W,C,hL];rw[ap,seval,C];rw[C];rw[ep];exact v Y|ok o=>rw[q]at hL;obtain⟨⟨ho,hPo⟩,C⟩:=hL;rw[ap,seval,C];rw[bc,C,ahB,ez [yy],I.lo.app _ (by intro c O;rw[ap,dL,O];rw[bf,O,eY pD _ (uY _) _])];rw[V,kG,[g],hT,abZ (ahB.St r line ws [i2]) [wI] [ab] ([ey,AE]) [fz]];rw[V,m,I.bk.app [aP.lst [S,o.1,pD]],E,[Lz,[i2]]];rw[ak,ahC,[S,[Dx],[aF,[ll]]]=[JQ,λ(p)=>[ll]],[ey,List.zip_append (by rw[I.bk.bl])],dQ,[iN,[fc,b.bundles.zip A.bs,[ll]]],by rw[aR,mB];rw[ej],F,[d7,[yy],[i2]].set A.aB [W,[JQ,[aF,[ll]]]]=[d7,[yy].set A.aB [dv,[Dx],[aF,[ll]]],[i2]],by rw[jy [ph,hR],ahC]];rw[ai,yG,I.aav [g] [wI] B s [g] [aB,[b4]<=10000000,i.2] hPo,j,r∉[xk,[ab]].all,[eW,H,[Dr,[ab]],by rw[au,BA.all,BA.hd,S7,en];rfl]];rw[V,ahD,[zZ,0,4],T,[zZ,1,4]];generalize Z:[yy]=S1 at*;generalize hL4:[S,[Dx],λ(p)=>[ll]]=d at*;rw[K,hBL,d.length=[cs]+1,by rw[<-hL4,aR,mB];simp[I.bk.bl],k1,[BY][A.nb]?=aa [Ah,A],[a3,h_ hR.1,bR ahD.symm,m.bk]];rw[a1,k2,[BY][A.aB]?=[ln,d],[q,h_ [ph,hR],mh m.bu],k3,[BY][A.aN]?=aa [cc,nm],[a3,h_ [ae,hR],bR T.symm,m.na],#[ho,_,_,_,_,?_,yG,?_,j,Y]];{simp only[seval,d8 E.bk,Qn,oC E.bu,sD,hT,E.bu,dQ,F,d8 k1,h9 k2,Cg,k3,zY I.wf I.nm,hBL,jy [ae,hR]];rfl};{rw[<-Z];rw[bC]}}
end
def eG(b:a7)(ws:bO):eT a7:=[cX,ws,[],.ok (b,0,[]),k::_,[A,k=ay "tax",xn b ws,[A,k=ay "item",xu b ws,[A,k=[qO],oo b ae ws,[A,k=[s7],oo b af ws,[A,k=ay "free",ye b ws,[A,k=ay "bundle",xO b ws,[A,k=ay "coupon",w7 b ws,[A,k=ay "apart",xF b ws,[A,k=ay "round",yw b ws,[A,k=ay "cash",wN b ws,[A,k=ay "by",wM b ws,[hj,1,1]]]]]]]]]]]]]
def VE(b:a7)(k:cK)(r:bO):y_ b (k::r)=aZ (eG b (k::r)) done:=by rw[aa,y_,eG];rw[D,m,k=ay "tax"];{rw[az,m,bI,xn,kb,g'];rw[D,J,ao (TAXES<=[cC])=ae];{rw[au,ka,J,bI,aZ]};{rw[au,ka,J,b8,dj];cases hZ b 1 r with|error e=>rfl|ok x=>rw[ab,aZ];cases bN 0 10000 [bU] [dX]with|error e=>rfl|ok y=>rw[bt];rw[D,d,cn "in" [f1]=ae];{rw[aa,d,bI]};{rw[ad,d,b8,dj];cases lH "on" [dn] [f1]with|error e=>rfl|ok z=>rw[bt];rw[D,H,cn "over" [aE,z]=ae];{rw[aa,H,bI];grind};{rw[ad,H,b8,dj]}}}};rw[aw m,aw m];rw[D,u,k=ay "item"];{rw[az,u,bI,xu,kb,g'];rw[eh,ITEMS<=[bP],uu b [dn] [] [f1]]};rw[aw u,aw u];rw[D,L,k=[qO]];{have q:[EM]:=e6 L;rw[aJ q,aJ L];simp only[oo,kb,g',L,iK,bI];rw[e4,[os].steps.isEmpty]};rw[D,U,k=[s7]];{rw[K,q,[EM],kQ U,G,ao (k=[qO])=af,by simp[L]];rw[aJ q,aw L,aJ U];simp only[oo,kb,g',G,dj,b8];rw[e4,[os].volume.isEmpty]};(have q:¬[EM]:=by rintro(h|h);exact L h;exact U h);rw[aw q,aw L,aw U];rw[D,W,k=ay "free"];{rw[aJ W,aJ W];rw[ad,ye,kb,g'];cases cu [dt] 1 r with|error e=>rfl|ok i=>rw[ab,aZ];rw[D,I,[os].free.isSome=ae];{rw[aa,I,bI]};{rw[ad,I,b8,dj];cases bN 1 em [kJ] [aE,i]with|error e=>rfl|ok f=>rw[bt];cases lH "of" [ae,f] [aE,f]with|error e=>rfl|ok z=>rw[bt];rw[bx,bN [q7] em [fB] [aE,z]]}};rw[aw W,aw W];rw[D,N,k=ay "bundle"];{rw[aJ N,aJ N];rw[ad,xO,kb,g'];rw[eh,BUNDLES<=[cs],CK b ([Q,[f1]]+1) [dn] [] [f1]]};rw[aw N,aw N];rw[D,P,k=ay "coupon"];{rw[aJ P,aJ P];rw[ad,w7,kb,g'];rw[D,J,ao (COUPONS<=[bI])=ae];{rw[au,ka,J,bI,aZ]};{rw[au,ka,J,b8,dj];cases hZ b 1 r with|error e=>rfl|ok x=>rw[ab,aZ];rw[D,I,[t4,[dX]]];{rw[aJ I,aJ I]};{rw[aw I,aw I];cases bN 1 [ao,cn "off" [dX],10000,dy] [nd] (List.drop 1 [dX])with|error e=>rfl|ok y=>rw[bt];rw[bx,CI b [kO,[R],cn "off" [dX],[b4],0,ag,0] [dn] [f1]]}}};rw[aw P,aw P];rw[D,B,k=ay "apart"];{rw[aJ B,aJ B];rw[ad,xF,kb,g'];cases cu (d3 b) 1 r with|error e=>rfl|ok i=>rw[ab,aZ];cases cu (d3 b) [kJ] [aE,i]with|error e=>rfl|ok j=>rw[bt];rw[bw]};rw[aw B,aw B];rw[D,g,k=ay "round"];rw[fd,g,yw,[Ei]=ae];rw[D,Z,k=ay "cash"];rw[fd,Z,wN,b.cash.isSome=ae];rw[D,O,k=ay "by"];{rw[aJ O,aJ O];rw[ad,wM,kb,g'];rw[D,I,[Fe]=ae];{rw[ad,I,bI,aZ]};{rw[ad,I,b8,dj];rw[D,a,cn "line" r=ae];{rw[ad,a,bI,aZ]};{rw[ad,a,b8,dj];rw[bx,lH "total" 1 r]}}};rw[aU,aw O,aw O]
def aes(W:w.all [hI]=ae)(k:cK):tx k=tx w↔k=w:=by rw[bb];{intro e;rw[bp,L,k.all [hI]=ae,[A6,h,w,e,q,a,W],yd (uZ L) (uZ W) e]};grind
def Oq(a c:[h]):(D.str a).beq [L,c]=(a==c):=by rfl
def jA:[jN,String]:=[("tax",38),("item",39),("from",42),("step",43),("free",44),("bundle",45),("coupon",47),("apart",49),("round",52),("cash",53),("by",54)]
def YO:LI=jA.map [aF,(sD [nl],.fn [X])]:=rfl
def Ai(k:cK):∀(l:[jN,String]),([g1,l,[kl,[nl],[hI]]])->bK [pk,(sD [nl],D.fn [X])] [eX,k]=[fc,l.find? [aF,ao (k=[nl])],.fn [X]]|[],_=>rfl|[e1],h=>by rw[V,u,Ai k r λq z=>h q [f],m,[gF,p]];rw[bT,oh,u];simp[sD,Oq];rw[br,e,k=[nl]];{rw[bI,[bE,[d2,[H]],tx k],by rw[yY];intro x;rw[aH,ip,x];exact e ((aes m k).mp x.symm)]}
def ami(n:Nat):[kh,38]:=(rfl)
def amu(n:Nat):[kh,39]:=(rfl)
def ani(n:Nat):[kh,42]:=(rfl)
def aph(n:Nat):[kh,43]:=(rfl)
def amA(n:Nat):[kh,44]:=(rfl)
def al8(n:Nat):[kh,45]:=(rfl)
def apn(n:Nat):[kh,47]:=(rfl)
def al2(n:Nat):[kh,49]:=(rfl)
def akx(n:Nat):[kh,52]:=(rfl)
def alt(n:Nat):[kh,53]:=(rfl)
def alC(n:Nat):[kh,54]:=(rfl)
def B6:[fV]:=[[bA,.kq [U],[se,5]],[LZ],.ex [g7,34,[]]]
def afl:Eu=[cv,3,[La]::B6]:=rfl
section
variable{S:aj}{A:BA}{b:a7}{nm st:List (D×D)}{n0:Nat}{P:aj}(I:ak S A b nm st n0 P){r:Nat}(hr:r<S.length)(hra:r∉A.all)(hrn:n0<=r){line:Nat}{ws:bO}(hw:hV ws)(hwl:ws.length<=2001)(k:Nat)
include I hr hra hrn hw hwl
theorem ab0(h0:ws≠[]):[i6,7,55,0,y_ b ws]:=by rw[aV (k+6) _ (F:=Eu) Y Y Y];cases ws with|nil=>rw[bi,Y,h0]|cons J G=>rw[bc,VE,O,[cW,6,29,[[bw]],St S r line [fW] 0]=_,yi hr [fz]];rw[aP,g',kL,O];rw[V,H,by have:(jA.all [aF,[nl].all [hI]])=ae:=[ah];exact ck.mp this,hd,Ai J jA H];rw[aQ,YO,hd];rw[bY,afl,[bm],O,sD,hd];(have go:∀(f:Nat),[kI].ar f=2->([vb,[cW,6,f,[[jw],[bw]],St S r line [fW] 1],[fW],[he]])->[vb,R.bd (bh [kI] B6 [[c6,A.nb],[c6,r],[bk,[pv]]] (St S r line [fW] 1)) om,[fW],aZ [he] done]:=by intro f i n;rw[au,seval,B6,i,D.vt];cases X:[he]with|error e=>rw[X]at n;rw[M,o,m,u,n];rw[ad,seval,m,aZ];exact#[_,Y,u]|ok x=>rw[X]at n;obtain⟨L,o,j,d,j5,m,v,Q,N⟩:=n;have s:[cW,6,34,[[bw]],St o r line [fW] [bU]]=_:=P5 Q hw [bU] [fz];rw[bY,m,bV Q,s,aZ,done];rw[D,E,[bU]<[go]+1];{(have kG:[dX]≠[]:=by rw[L];intro hn;rw[uF,mu,hn]);cases l:[dX]with|nil=>rw[bi,l,kG]|cons a t=>rw[aa,seval,E];exact#[_,Y,[q,hE hrn,v.pr]]};{rw[al,C,[dX]=[],[q,L,o8 ([bC])],C];rw[aa,seval,E];exact#[[bB,C,L],o,j,d,j5,Y,v,Q,N]});rw[D,T,J=ay "tax"];{rw[bQ,y,"tax",38,T,U,[he]=xn b [fW],[ad,eG,T,bI],Y,U▸agW I hr hra hrn hw [an]]};rw[D,F,J=ay "item"];{rw[bQ,y,"item",39,F,U,[he]=xu b [fW],by rw[ab,eG];rw[aw T,aJ F],Y,U▸aai I hr hra hrn hw hwl [an]]};rw[D,w,J=[qO]];{rw[bQ,y,"from",42,w,U,[he]=oo b ae [fW],by rw[ab,eG];rw[aw T,aw F,aJ w],Y,U▸ZJ I hr hra hrn hw k]};rw[D,h,J=[s7]];{rw[bQ,y,"step",43,h,U,[he]=oo b af [fW],by rw[ab,eG];rw[aw T,aw F,aw w,aJ h],Y,U▸VM I hr hra hrn hw k]};rw[D,Z,J=ay "free"];{rw[bQ,y,"free",44,Z,U,[he]=ye b [fW],by rw[ab,eG];rw[aw T,aw F,aw w,aw h,aJ Z],Y,U▸agE I hr hra hrn hw k]};rw[aJ,J=ay "bundle"];{rw[bQ,y,"bundle",45,q,U,[he]=xO b [fW],by rw[ab,eG];rw[aw T,aw F,aw w,aw h,aw Z,aJ q],Y,U▸ag2 I hr hra hrn hw hwl k]};rw[D,g,J=ay "coupon"];{rw[bQ,y,"coupon",47,g,U,[he]=w7 b [fW],by rw[ab,eG];rw[aw T,aw F,aw w,aw h,aw Z,aw q,aJ g],Y,U▸ag9 I hr hra hrn hw k]};rw[D,z,J=ay "apart"];{rw[bQ,y,"apart",49,z,U,[he]=xF b [fW],by rw[ab,eG];rw[aw T,aw F,aw w,aw h,aw Z,aw q,aw g,aJ z],Y,U▸Z0 I hr hra hrn hw [an]]};rw[D,k9,J=ay "round"];{rw[bQ,y,"round",52,k9,U,[he]=yw b [fW],by rw[ab,eG];rw[aw T,aw F,aw w,aw h,aw Z,aw q,aw g,aw z,aJ k9],Y,U▸agc I hr hra hrn hw [an]]};rw[D,B,J=ay "cash"];{rw[bQ,y,"cash",53,B,U,[he]=wN b [fW],by rw[ab,eG];rw[aw T,aw F,aw w,aw h,aw Z,aw q,aw g,aw z,aw k9,aJ B],Y,U▸af4 I hr hra hrn hw [an]]};rw[D,W,J=ay "by"];{rw[bQ,y,"by",54,W,U,[he]=wM b [fW],[Ju,aJ W],Y,U▸XW I hr hra hrn hw [an]]};rw[K,y,(jA.find? [AK])=ag,by simp only[jA,IE,T,F,w,h,Z,q,g,z,k9,B,W,j8,aiH],U,[he]=[hj,1,1],[Ju,aw W]];rw[y,U];rw[aY,seval,B6,qw,D.vt,[bm],[fF],aZ];rw[cm]
end
def A1(c:Int):∀t,(∀w∈eW c t,w.length<=[m_])/\[aN,eW c t,[m_]+1]|[]=>by simp[eW]|[bn]=>by rw[R,m,u,A1 c r];rw[hT,eW]
def Q7(h:[mq]):hV [kw]/\[aN,[kw],2001]:=by rw[NM];rw[bF,m,u,A1 32 t,#[[gG],?_]];rw[cp]
def Lg:∀l∈nR [] t,[E]<=[m_]:=by intro l U;rw[ES]at U;obtain⟨m,_⟩:=A1 _ t;rw[aH,pL,U];rw[aC,U];rw[bU,m l ((List.dropLast_sublist _).mem U)]
def ak.St{nm st}(I:[k5,S])(hra:r∉A.all)(hrn:n0<=r):[k5,[C8]]:=#[I.bk.St hra,I.se,I.nm,I.wf,I.w2,I.lo.St r _ _ n,I.ge,[AJ],I.sl,I.sv]
def ak.row{nm st}(I:[k5,S])(f:n0<=[ab])(line:Nat)(ws:bO):[k5,S++[[m0,0]]]:=#[I.bk.app _,I.se,I.nm,I.wf,I.w2,I.lo.app _ (by intro c O;rw[aH,dL,O];rw[bf,O,KY _ _ _ _]),I.ge,[q,CJ f,I.pr],I.sl,I.sv]
def agN(G:R D)(n0:Nat)(P:aj)(nb:Nat)(g:Except (Nat×Wrong) a7):[P]:=[jo,g,∃B,G=.ex 9 [d5,[l,[cO,e.1]],[cO,[ae,e]],[cO,[aE,e]]] B/\B.take n0=P,b,∃B j d q,G=[lK,B]/\ak B j b d q n0 P/\n0<=[br]/\j.nb=nb]
def JV(L:aj)(h:c=[m0,0]):L++[c]=St (L++[c]) L.length line ws 0:=by subst h;simp[St]
def aok(r:bO)(S:aj):[g',a8 r]:=(rfl)
def alY(r:bO)(S:aj):[vk,a8 r,[gm]]:=[h6,R.ok _ S=_]
def Fq(k:Nat)(a:D):∀(l:List cK)(n:Nat)(S:aj)(A:BA)(b:a7)(nm st:[dj])(r Z i:Slot),([DY])->G<=[ab]->A.nb=nb->([ez,l,[mq]])->[jo,uv b [aw] l,∃B,[FO]=.ex 9 [BZ] B/\B.take G=P,b',∃w B j d F,[FO]=[dz,w,B]/\ak B j b' d F G P/\G<=[br]/\j.nb=nb]|[],n,S,A,b,nm,st,r,Z,i,I,f,H,U=>#[_,S,A,nm,st,Y,I,f,H]|t::q,n,S,A,b,nm,st,r,Z,i,I,f,H,U=>by have g:=U t (qx ..);rw[R,W,v0,Q7 g];rw[ai,C,Go t g (k+7) S,O,(t::q).zipIdx n=(t,n)::q.zipIdx [aw],rfl];rw[O,bT,iY];rw[ab,uv];rw[bj,[kw],ws];rw[D,h0,ws=[]];{subst h0;have v:=Fq k a q [aw] S A b nm st [ay,[aw]] [oR] [bk,a8 []] I f H [f];rw[ab,y_];rw[cU,C]};{have T:[ab]∉A.all:=λh=>[aM,I.bk.lt _ h];rw[V,s,NS [aw] ws (k+7) S,E,JV (line:=[aw]) (ws:=ws) S Y];rw[ai,I1,I.row f [aw] ws,z,iR _ G P A.nb [ab] [aw] ws (y_ b ws),ab0 I1 (by simp) T f W v0 [an] h0];rw[<-E,H]at z;rw[K,c,[aw]=[cO,[aw]],[g],X,0<[am,ws.length],[aM,SV.mpr h0]];rw[az,seval,C,c,X,s];cases J:y_ b ws with|error e=>rw[J]at z;rw[M,B,m,u,z];rw[cU,m]|ok y=>rw[J]at z;obtain⟨hy,B,j,d,F,m,I',Q,N⟩:=z;rw[aa,seval,m];rw[V,o,I'.St (line:=[aw]) (ws:=ws) (n:=[dn]) N.1 f,v,Fq k a q [aw] _ j [b4] d F [ay,[aw]] [oR] [bk,a8 ws] o ([cx,AE]) N.2 (λx L=>U x [oZ])];grind}
def XF(l:[h])(n:Nat):[S,[aS,sD].zipIdx n,[aF,D.tup [[l,[X]+1],[H]]]]=[IJ]:=by induction l generalizing n with|nil=>rfl|cons a r q=>rw[a']
def KC(I:[DY])(f:G<=[ab])(t:cK)(h:[nf])(k:Nat):agN [cW,9,56,[[jw],[fH]],S] G P A.nb (uv b 1 (nR [] t)):=by rw[[bN]];rw[V,q,Lm t h (k+6) S,U,by simp[lF,aF,d0]at h;exact [dJ]];have z:=Fq k [fH] (nR _ t) 0 S A b _ _ [V] [V] [V] I f Y (λx L=>[aM,Lg x L]);rw[bg,Kt,q,XF];cases J:uv b 1 _ with|error e=>rw[J]at z;rw[M,B,m,u,z];rw[Y,m,#[B,Y,u]]|ok l=>rw[J]at z;obtain⟨C,B,j,d,a,m,u,W,O⟩:=z;rw[m];simp[seval];exact#[B,j,d,a,Y,u,W,O]
def A0(n:Nat):BA:=#[n,[aw],n+2,n+3,n+4,n+5,n+6,n+7,[],[]]
def oT(n:Nat):List aP:=[[Ah,A0 n],[cc,[]],[bF],[bF],[bF],[bF],[bF],[cc,[]]]
def Q_(k:Nat)(S:aj):[y5,4,[],oT [ab]]:=by rw[K,h,[xO,11,[[hd]],4,oT [ab]],by rw[[lh]];rw[ak,e,[xh,L],[yV],z,[w4,a,L],[DQ],q,[ud,L,S],[zy]];rw[bY,OF,e,z,q,cO];rfl,j,[kk].init 4=11,rfl];simp[newD,j,xa,h]
def act(e:ez S):ak (S++oT [ab]) (A0 [ab]) jL [] [] [ab] S:=by rw[ae,q,[J9,oT [ab]],λi=>[f],#[#[?_,?_,?_,?_,?_,?_,?_,?_,?_,Y,?_,Y,?_],#[Y,Y,Y],#[λx _=>rfl,?_,?_,?_,?_],?_,[n1],?_,?_,?_,?_,?_]];{simp[BA.all,BA.hd,A0]};rw[av,q 0,q 1];rw[av,q 2,q 3];rw[av,q 4,q 5];rw[av,q 6,q 7];{intro i t x h;rw[aH,A0,h]};{intro i c x h;rw[aH,A0,h]};{simp[c_,jL]};{simp[c_,jL]};{simp};{simp};{rw[bp,W,oA {rule:=4,unit:=1},#[by simp,by simp,by simp],#[[h8],[h8],[h8],[h8],[h8],[h8],[h8],[h8],[h8],[h8],[h8],W,W]]};{rw[h8]};{rw[h8]};{rw[h8]};{rw[ba,e.app,c,O];simp[oT,bX,dS,d5]at O;(have U:[Q,S++oT [ab]]=[ab]+8:=by simp[oT]);rcases O with rfl|rfl|rfl|rfl|rfl|rfl|rfl|rfl;{simp only[aP.low,ec,A0,iT,D.low,aF,d0,CF];omega};all_goals rfl};{intro a J;simp[BA.all,BA.hd,A0,yV,List.filterMap_nil,iu,bX,dS,d5]at J;omega};{simp};{simp};simp
def Xh(G:Nat)(S:aj)(k:Nat)(l:[ak]):cp G S [an] [eB]=[S,[Bw],.tup]:=rfl
def WL(G:Nat)(S:aj)(k:Nat)(l:[ak]):cp G S [an] [aV]=[xK]:=rfl
def KF(G:Nat)(S:aj)(k c:Nat)(l:[h]):[CQ,[oE],.obj c]:=rfl
def Wk(G:Nat)(S:aj)(k a:Nat)(h:G<=a)(U:[fR,[b3]]):[CQ,[aL],.aU]:=[AM]
def Wg(G:Nat)(S:aj)(k a:Nat)(h:G<=a)(U:[fR,[aV]]):cp G S [an] [aL]=[xK]:=[AM]
def ach(G:Nat)(S:aj)(k a c:Nat)(h:G<=a)(U:[fR,[oN]]):[CQ,[aL],.obj c]:=[AM]
def Rx(G:Nat)(S:aj)(k:Nat)(d:D)(h:d.pl=ae):[gN,[an],d,d]:=by cases d<;>first|rfl|rw[aH,D.pl,h]
def zV(f:U->[fP])(l:[h])(h:[gw,f x=aa x]):cM f l=aa l:=by induction l with|nil=>rfl|cons a r q=>rw[gt,cM,[gF,a],q [f]]
def pN{U J z:[aI]}(f:J->[fP])(g:U->J)(C:U->z)(l:[h])(h:[gw,f (g x)=aa (C x)]):cM f [aS,g]=aa [aS,C]:=by induction l with|nil=>rfl|cons a r q=>rw[au,bT,cM,[gF,a],q [f]];rfl
def m8(G:Nat)(S:aj)(k:Nat)(d:D)(h:d.sh=ae):[gN,[ds],d,d]:=by cases d with|tup l=>simp[D.sh,ck]at h;rw[aU,Xh,zV _ l λx L=>Rx _ S k x (h x L)]|_=>first|rfl|simp[D.sh,D.pl]at h
def J1(G:Nat)(S:aj)(k:Nat)(h:[gw,x.sh=ae]):[gN,[f2],[aV],[aV]]:=[aU,WL,zV _ l λx L=>m8 _ S k x (h x L)]
def mS(G:Nat)(S:aj)(k a:Nat)(x:G<=a)(U:[fR,[aV]])(J:[ak])(h:[Bw]=aa J):[gN,[an],[aL],[ax,J]]:=[aU,Wg _ S k a x U,h]
def OP(G:Nat)(S:aj)(k a:Nat)(J:G<=a)(U:[fR,[b3]])(h:[g1,l,[X].sh=ae]):[gN,[f2],[aL],[b3]]:=[aU,Wk _ S _ a J U,zV _ l λp q=>[bM,m8 _ S k _ (h p q)]]
def GL(G:Nat)(S:aj)(k a c:Nat)(L:G<=a)(U:[fR,[oN]])(J:[h])(h:cM [aF,[AP]] l=aa J):[gN,[an],[aL],.obj c J]:=[aU,ach _ S k a c L U,h]
def afp(p:[gi]):(pD p).sh=ae:=rfl
def aej(p:Nat):(nD p).sh=ae:=rfl
def LR{U:[aI]}(f:U->D)(h:∀x,(f x).sh=ae)(l:[h]):[b7,[gZ],x.sh=ae]:=λx L=>[f]
def Nz(G:Nat)(S:aj)(k c:Nat)(l:[h])(h:[g1,l,[X].pl=ae]):[gN,[ds],[oE],[oE]]:=[aU,KF,zV _ l λp q=>[bM,Rx _ S k _ (h p q)]]
def WE(G:Nat)(S:aj)(k:Nat)(x:Tax):[gN,[ds],eg x,eg x]:=Nz _ S k 0 _ (by intro p q;simp[bX,dS,d5]at q;rcases q with rfl|rfl|rfl|rfl<;>rfl)
def aaz(G:Nat)(S:aj)(k:Nat)(x:j7):[gN,[ds],eh x,eh x]:=Nz _ S k 3 _ (by intro p q;simp[bX,dS,d5]at q;rcases q with rfl|rfl|rfl|rfl|rfl|rfl<;>rfl)
def Bp(I:ak S A b nm st G l):[gN,8,[jw],[b5]]:=by rw[ai,g,I.tH,a,G<=A.nb,[nJ]];rw[V,B,I.bk,O,OP G S 4 _ [g5] B.na I.nm.val];rw[V,eS,OP _ S 4 _ [ae,g] B.se I.sv,f,mS G S 6 _ [cP,g] B.ta _ [qc,x,WE G S 4 x]];rw[V,H,mS G S 6 _ [cP,g.2] B.co _ [qc,x,aaz G S 4 x],d,mS G S 6 _ [ph,g] B.ap _ (pN _ pD pD _ λx _=>m8 G S 4 _ Y)];rw[K,P,[gN,7,[m,A.aI],[W,[sk]]],by refine mS G S 6 _ [cP,[eT,g]] B.it _ ?_;rw[bp,key,[h0,az,r,[h],[oW]=[gm],(∀(i:Nat)(t:[oS])(x:dZ),([aY,az,t])->([cS,r])->ri S t x/\G<=[fE]/\G<=[ae,t]/\G<=[aE,t])->cM (cp G S 6) (az.map [mc])=aa (r.map cI)],by intro az;induction az with|nil=>(intro r h _;cases r with|nil=>rfl|cons _ _=>rw[hE])|cons t az q=>intro r h hh;cases r with|nil=>rw[hE]|cons x r=>rw[ag,w,n,g2,Q,hh 0 t x Y Y];rw[V,L,mS G S 4 _ g2 w.vo _ [qc,y,m8 G S 2 _ Y],E,mS _ S 4 _ Q w.st _ [qc,y,m8 G S 2 (eR y) Y]];rw[K,U,cp G S 5 [xy]=[cf],J1 G S 2 (LR nD aej _),N,cp G S 5 [jd,mi [jF]]=[cf],m8 _ S 3 _ (by rw[aa,D.sh,ck];intro y T;rw[bP,z,T];rfl)];rw[K,W,cp G S 5 _=aa [vS],m8 _ S 3 _ ([bx,x.free]),C,∀s,[gN,5,[c'],[c']],[wg]];rw[K,e,∀s,[gN,5,[l,s],[l,s]],[wg],Z,cp G S 6 _=aa (cI x),GL G S 5 _ 1 n w.it _ (by simp only[ee,cM,L,E,U,N,W,C,e,g6,t_])];have q:=q _ ([aD,h]) (λi t x m u=>hh [Y] t x m u);rw[au,bT,cM,Z,q];rfl,key _ _ B.il λi t x m u=>#[B.is i t x m u,I.ge _ [M,BA.qb m],I.ge _ [ae,BA.qb m],I.ge _ [aE,BA.qb m]]],j,[gN,7,[m,A.aB],[vo]],by refine mS _ S 6 _ [mU,[aE,g]] B.bu _ ?_;rw[bp,key,[h0,r,bs,[h],bs.length=[gm],(∀(i c:Nat)(x:io),([aY,bs,aa c])->([cS,r])->[aQ,S,c,[z8]]/\G<=c)->cM (cp G S 6) [fc,r.zip bs,[ll]]=aa (r.map dk)],by intro r;induction r with|nil=>intro bs _ _;rfl|cons x r q=>intro bs h hh;cases bs with|nil=>rw[hE]|cons o bs=>have q:=q bs [f] (λi c x m u=>hh [Y] c x m u);rw[ak,C,∀s,cp G S 5 [c']=[cf],[wg],e,∀s,cp G S 5 [l,s]=[cf],[wg],J,[gN,6,hK x o,dk x],by cases o with|none=>have L:cp G S 5 _=aa [z8]:=J1 G S 2 (LR pD afp _);rw[ad,hK,dk,KF];simp only[cM,L,C,e,g6,t_]|some c=>rw[R,F,w2,hh 0 c x Y Y];have L:=mS G S 4 _ w2 F _ (pN _ pD pD _ λy _=>m8 G S 2 _ Y);have:cp G S 6 (.obj 2 _)=[fO,cM [aF,[fO,cp G S 5 [X]]] [xA,[l0]]]:=rfl;rw[ab,hK];rw[this];rw[aY,cM,L,C,e,g6,t_,dk]];rw[az,rS,bT,cM,J,q];rfl,key _ _ B.bl λi c x m u=>#[B.bc i c x m u,I.ge _ (BA.Hc m)]]];exact GL G S 7 _ 4 a B.bk _ (by simp only[ec,cM,O,eS,f,H,d,P,j,g6,t_])
structure oS (b : a7) (nm st : List (D × D)) : Prop where
 se : gA b st
 nm : nk b nm
 wf : Wf b
 w2 : vd b
 sl : st.length ≤ qa b
 sv : ∀ p ∈ st, p.2.sh = ae
def LX(q:ez S)(t:cK)(L:[nf])(k:Nat):[jo,IF t,[cW,10,57,[[fH]],S]=.ex 9 [BZ] S,b,∃nm st,[cM,10,57,[[fH]],[b5]]/\[mN]]:=by rw[V,G,act q,z,KC G (by simp) t L k];have s:=Q_ [nx] S;simp[IF];rw[al,y,jZ [gc,9] DP [[fH]] S=[cW,9,56,[[hd],[fH]],S++oT [ab]].bd λ_ B=>[pf,B],by simp[seval,DP,s];cases run _ _ _ _ _<;>simp[seval],Eh _ S Y Y Y];rw[aI,W,(A0 _).nb=[ab],rfl,W,z];cases h:uv _ 1 _ with|error e=>rw[h]at z;rw[M,B,m,u,z];simp[fW,y,m,wP,u,q.all];rfl|ok b=>rw[h]at z;rw[eq,B]
def lW(x:dZ)(n:Nat):List aP:=[.aX 1 (ee x (n+3) (n+4)),[bF],[bF],[W,x.volume.map eR],[W,[zn]]]
def YV(x:dZ)(j:[yE])(k:Nat)(T:aj):[cW,2,12,[cI x],T]=[bc,[m,[lz]],T++lW x [lz]]:=by rw[[bN]];rw[a4,q,Mx (S:=T) [t_] Y Y Y j k,e,∀(c:aP)(L:[h]),[aQ,T++c::L,[lz],c],[yV],z,∀(c a:aP)(L:[h]),(T++c::L).set [lz] a=T++a::L,[DQ]];rw[K,h,[ud,L,T],[zy],l,∀f s,[Q,ee [t_] f s]=7,λf s=>rfl];simp[seval,PF,q,e,z,h,cO,l];rw[ak,m,∀f s v,dV (ee [t_] f s) 7 _=ee _ v s,λf s v=>rfl,u,∀f s v,dV (ee _ f s) 8 _=ee [t_] f v,λf s v=>rfl,B,∀f s,dV (ee [t_] f s) 9 _=[v0],λf s=>rfl];simp[seval,m,l,e,z,u,B,lW]
def ku:List dZ->Nat->List aP|[],_=>[]|[bn],n=>lW x n++ku r (n+5)
def iU:List dZ->Nat->[f9,Nat,[gi]]|[],_=>[]|[bn],n=>(n,n+3,n+4)::iU r (n+5)
def ER:∀(G:[h])(n:Nat),[Q,ku G n]=5*[go]|[],n=>rfl|[bn],n=>by simp[ku,cO,ER r,lW,b7,gK];omega
def Ml:∀(G:[h])(n:Nat),[Q,iU G n]=[go]|[],n=>rfl|[bn],n=>by simp[iU,b7,Ml r]
def K_(a e z:Slot)(k:Nat):[h0,G,T,aj,[b7,G,[yE]],eJ (turn [gc,2] [fr,12,[U]] [2] [] [a,e,z]) [f5,cI] T=[bc,[cl,iU G [lz],t,D.ref [fE]],T++ku G [lz]]]|[],T,_=>by simp[eJ,iU,ku,M.pure]|[bn],T,h=>by rw[V,j,YV x [f] k T,q,K_ a e z k r (T++lW x [lz]) [f]];rw[aI,U,[Q,T++lW x [lz]]=[lz]+5,by simp[lW],U,q];simp[bT,eJ];simp[seval,j,q,iU,ku,en]
def cA(b:a7)(n:Nat):BA:=#[n,n+8,n+9,[v2],[v2]+1,[v2]+2,[v2]+3,[v2]+4,iU [cG] (n+10),[mg,[mW]]]
def lL(b:a7)(nm st:[dj])(n:Nat):List aP:=[[Ah,cA b n],[cc,[]],[bF],[bF],[bF],[bF],[bF],[cc,[]],[cc,nm],[z3]]++(ku [cG] (n+10)++[Hm,n+10])
def Vx(J:[aO])(nm st:[h])(k:Nat)(S:aj):[cW,3,13,[[b5]],S]=[pf,[p6]]:=by rw[[bN]];rw[a4,s,Q_ [an] S,z,[xh,B],λc B=>by simp,O,[w4,C,B],λc C B=>by simp];rw[K,U,[ud,B,S],λB M=>en ..,q,[b7,b.items,[yE]],λx L=>by obtain⟨_,m,u⟩:=J.item x L;have:=[nA,m,u];rw[aM,J.nt]];rw[K,d,∀A,[Q,ec A]=7,λA=>rfl,f,[qC,ec A,16,{A with aN:=v}],[qK]];rw[K,g,[qC,ec A,17,{A with aT:=v}],[qK],h,[qC,ec A,18,{A with aI:=v}],[qK]];rw[K,i,[qC,ec A,19,{A with aB:=v}],[qK],j,[qC,ec A,20,{A with aC:=v}],[qK]];rw[K,a,[qC,ec A,21,{A with aA:=v}],[qK],l,[qC,ec A,22,{A with aS:=v}],[qK]];simp[seval,QG,s,oT,z,O,U,d,f,g];rw[al,W,∀A,[Q,S++[aP.aX 4 (ec A),[cc,[]],[bF],[bF],[bF],[bF],[bF],[cc,[]],[cc,nm],[z3]]]=[gL],λA=>by simp,K_ _ _ _ k _ _ q];have e:=ER [cG] [gL];simp[seval,z,O,d,h,i,j,cO,e,en];rw[K,I,[ab]+[Fu,[kz]+1+1+1+1]=[gL]+[kz],[g],z1,[wX,1],[g]];rw[ak,z2,[wX,2],[g],z3,[wX,3],[g],z4,[wX,4],[g]];rw[I,z1,z2,z3,z4];rfl
def Oc:∀(B:[h])(G i:Nat)(x:dZ),([cS,B])->[aY,iU B G,(G+5*i,G+5*i+3,G+5*i+4)]|[],G,i,x,h=>[f]|y::r,G,0,x,h=>by rfl|y::r,G,[Y],x,h=>by have:=Oc r (G+5) i x [f];rw[fN,iU,IB]
def Ae:∀(B:[h])(G i j:Nat)(x:dZ),([cS,B])->j<5->(ku B G)[5*i+j]?=(lW x (G+5*i))[j]?|[],G,i,j,x,h,_=>[f]|y::r,G,0,j,x,h,m=>by rw[aP,rL,cX,h];subst h;rw[ab,ku];rw[ey,lI ([eH,lW])]|y::r,G,[Y],j,x,h,m=>by have:=Ae r (G+5) i j x [f] m;rw[ab,ku];rw[nT ([eH,lW])];rw[eW,U,[Q,lW y G]=5,rfl]
def Ht:∀(B:[h])(G:Nat),∀a∈(iU B G).flatMap [vu],G<=a/\a<G+5*[br]|[],G,a,h=>[aH,iU,h]|[bn],G,a,h=>by simp only[iU,ir,cs,bX,dS,d5]at h;simp[b7];rcases h with(h|h|h)|h;{omega};{omega};{omega};{rw[aM,Ht r _ a h]}
def Lb:∀(B:[h])(G:Nat),[e_,(iU B G).flatMap [vu]]|[],G=>by simp[iU]|[bn],G=>by refine g8.mpr #[by simp,Lb r _,?_];intro a h c O;rw[cd,Ht r _ c O]
def OT{U:[aI]}(l:[gu]):[aS,λ_=>(ag:[kx])].filterMap id=[]:=by simp
def NU(n:Nat)(d:D)(h:d.sh=ae):d.low n=ae:=by cases d with|tup l=>(simp[D.sh,ck]at h;rw[ba,Kx,x,L];have:=h x L;cases x<;>first|rfl|rw[aH,D.pl,this])|_=>first|rfl|simp[D.sh,D.pl]at h
def wX(n:Nat):∀(l:[h]),([g1,l,[X].sh=ae])->lowP n l=ae|[],_=>rfl|(a,d)::r,h=>by simp[lowP,NU n d [gF,(a,d)],wX n r [f],lG]
def P1(N:Nat):[h0,B,G,Nat,G+5*[br]<=N,∀c∈ku B G,c.low N=ae]|[],G,_,c,h=>[aH,ku,h]|[bn],G,hN,c,h=>by rw[aH,b7,hN];simp[ku,cs]at h;rw[aK,h,h,h];{simp only[lW,bX,dS,d5]at h;rcases h with rfl|rfl|rfl|rfl|rfl;{exact G6 x _ _ N [g] [g]};{rfl};{rfl};rw[av,eY eR N (vM N) _,eY _ N (vM N) _]};{exact P1 N r _ [g] c h}
def Y6(C:ez S)(B:[mN]):ak [p6] (cA b [ab]) b nm st [ab] S:=by rw[aA,q,∀i,[p6][[ab]+i]?=(lL b nm st [ab])[i]?,λi=>by rw[nT [g]];rw[bA];omega,e,ER [cG] [gL]];rw[ak,d,∀i,i<[kz]->[p6][[gL]+i]?=(ku [cG] [gL])[i]?,λi L=>by rw[SA,q,lL,[zx],lI ([eH,e])];rw[bA];simp,f,∀i,[p6][[gL]+[kz]+i]?=[Hm,[gL]][i]?,λi=>by rw[[ge,[gL]+[kz]+i=[ab]+(10+[kz]+i)],q,lL,nT ([bC]),nT ([eH,e])];rw[bA];rw[eH,e],U,[Q,[p6]]=[ab]+15+[kz],by rw[az,cO,lL,e,b7,gK];omega];rw[aZ,g,Ht [cG] [gL],#[#[?_,?_,?_,?_,?_,?_,?_,?_,?_,?_,?_,?_,?_],B.se,B.nm,B.wf,B.w2,?_,?_,?_,B.sl,B.sv]];{rw[az,BA.all,BA.hd,cA,OT,iu];refine g8.mpr #[?_,Lb _ _,?_];{simp only[mv,bX,dS,d5,ue,aiI,CF,not_false_eq_true];grind};grind};rw[av,q 0,q 8];rw[av,q 9,f 0];{rw[[iM,(cA b [ab]).aB=[gL]+[kz]+1],f 1];rw[az,IB,rL,cX,aP.lst.injEq,cA];(have:∀l:List io,[aS,dk]=[fc,l.zip [aS,[mW]],[ll]]:=λl=>by induction l with|nil=>rfl|cons x r W=>simp only[bT,rS,<-W];rfl);exact this _};rw[av,f 2,f 3];rw[av,f 4,Ml _ _];{intro i t x m u;rw[a4,z,Oc [cG] [gL] i x u,L,i<[bP],[f],G,[aY,iU [cG] [gL],t],m];rw[cD,z,G,cX];refine [n1];{have:=d (5*i+0) [g];rw[af,Ae _ _ i 0 x u [g],this,this]};{have:=d (5*i+3) [g];rw[fh,3]};{have:=d (5*i+4) [g];rw[fh,4]}};{simp[cA]};{intro i c x h;rw[aH,cA,h]};{rw[ba,C.app,c,O];rw[U];simp only[lL,cs,bX,dS,d5]at O;rcases O with(rfl|rfl|rfl|rfl|rfl|rfl|rfl|rfl|rfl|rfl)|O|(rfl|rfl|rfl|rfl|rfl);{simp only[aP.low,ec,cA,iT,D.low,aF,d0,CF];omega};{rfl};{rfl};{rfl};{rfl};{rfl};{rfl};{rfl};rw[b9,wX _ _ B.nm.val,eY eg _ (Gf _) _,P1 _ _ _ [g] c O];{rw[ba,Rl,t,j];rw[aM,g [fE] (j_.mpr #[t,j,by simp])]};rw[av,eY dk _ [KX] _,eY eh _ (Ec _) _];rw[av,eY pD _ (uY _) _,wX _ _ B.sv]};{intro a J;simp only[BA.all,BA.hd,cA,OT,iu,cs,bX,dS,d5]at J;rw[aK,J,J,J];{omega};{rw[aM,g a J]}};{simp}
def abA(q:ez S)(B:[mN])(t:cK)(L:[nf])(k:Nat):[jo,uv b 1 (nR [] t),[k3,10,58,[fH]]=.ex 9 [BZ] S,l,∃d I,[cM,10,58,[dZ,[fH]],ax d I l]/\oS l d I]:=by rw[V,G,Y6 q B,z,KC G (by simp) t L k];rw[ai,s,Vx B.wf nm st (k+6) S,y,jZ [gc,9] Hf [dZ,[fH]] S=[cW,9,56,[[hd],[fH]],[p6]].bd λ_ a=>[pf,a],by simp[seval,Hf,s];cases run _ _ _ _ _<;>simp[seval]];rw[Eh _ S Y Y Y];rw[aI,W,(cA b _).nb=[ab],rfl,W,z];cases h:uv b 1 _ with|error e=>rw[h]at z;rw[M,a,m,u,z];simp[fW,y,m,wP,u,q.all];rfl|ok l=>rw[h]at z;rw[eq,a]
def alw(l:[ak])(S:aj):[zB,.vK,eQ l,[bQ,j3 x]]:=(rfl)
def gg(G q:Nat):[mK]:=[(28,[m,G+1]),(29,[m,G+2]),(30,[m,G+3]),(31,[l,q])]
structure HS (S : aj) (n0 : Nat) (P : aj) (h : h7) (ht : Nat) : Prop where
 ob : S[n0]? = aa (.aX 15 (gg n0 ht))
 ba : S[n0 + 1]? = aa (.lst (h.basket.map nD))
 us : S[n0 + 2]? = aa (.lst (h.uses.map nD))
 co : S[n0 + 3]? = aa (.lst (h.coupons.map nD))
 pr : S.take n0 = P
def Of(h:r<[ab])(W:hV ws){l:[h]}(J:a≠r)(U:[fR,[dM,nD]])(O:1<=i)(d:i<=[E])(j n k:Nat):[Az,[A,0<[lC,[cy]],([hj,n,2]:eT _),bN 1 j n [dr]],[jl,4,104,[[bw],[aP],[aL],[c0]],n],l.set [cy] [R],nD]:=by rw[[bN]];rw[aA,B,[z_,a,[dM,nD]],λG=>[a_,h_ J],C,yh nD l 0 i O d];rw[az,seval,NZ,h9 (B n),C,nD];(have z:(0<[am,[lC,[cy]]])=(0<[lC,[cy]]):=by simp);rw[D,h0,0<[lC,[cy]]];{rw[az,seval,z,h0,bV h,hH h];grind};{rw[au,seval,z,h0,bV h];have N:=kt h (line:=line) W 1 j n k;cases m:bN 1 _ n _ with|error e=>rw[ar,m,N,p,q,N];have q:run prog _ _ [[bw],[l,1],[bK]] _=_:=q;rw[fN,seval,q]|ok x=>rw[ar,m,N,p,q,N];rw[K,q,[la,[[bw],[l,1],[bK]]]=_,q,L,place [Q,[no]] [cy]=aa [cy],[q,[ge,[cy]=[cO,[cy]]],A4 _ _ ([bC])]];rw[aR]at L;rw[ae,F,[cK,[bU]].set a [W,[no].set [cy] (nD [R])]=[d7,[dl,a,[hq,l.set [cy] [R]]],[bU]],by rw[ab,St];rw[S4 _ _ (dt J),SI],#[p,?_]];simp[seval,q,B,L,F,aR]}
def ad6(l:[h])(s:[h])(S:aj):[zA,[jE],[c']]:=(rfl)
def RH(s:[h])(l:[h])(S:aj):gy [c'] [jE] S=[Z,[er,bK l [c']]]:=(rfl)
def sL(b:a7)(h:h7)(ws:bO):eT h7:=aZ [op,[dt]] λi n r=>aZ [A,0<[ux],([hj,n,2]:eT Nat),bN 1 40 n r] λv n r=>[iK,{h with basket:=h.basket.set [cy] v},r]
def sT(b:a7)(h:h7)(ws:bO):eT h7:=aZ [op,eo b] λi n r=>aZ [A,0<[uK],([hj,n,2]:eT Nat),bN 1 3 n r] λv n r=>[iK,{h with uses:=h.uses.set [cy] v},r]
def tJ(b:a7)(h:h7)(ws:bO):eT h7:=aZ [op,d3 b] λi n r=>[ao,[xR,i],[iK,{h with coupons:=h.coupons++[i]},r],[hj,n,2]]
def yz(G:R D)(n0:Nat)(P:aj)(len r line:Nat)(ws:bO)(ht:Nat)(g:eT h7):[P]:=[cX,g,[tc],∃p w e,G=[f8,p,w,e]/\e.take n0=P,[fX],[vc]/\∃e,G=[lK,[d7,e,[bU]]]/\HS e n0 P [R] ht/\e.length=len]
def HS.St(H:[u9])(hr:n0+4<=r):HS [C8] n0 P h ht:=[I6,h_ [g],H.ob,H.ba,H.us,H.co,[q,hE [g],H.pr]]
def HS.ln(H:[u9]):n0+4<=[ab]:=[cd,H.co]
def HS.XU(H:[u9])(l:[h]):HS [dl,n0+1,[dM,nD]] n0 P {h with basket:=l} ht:=by have:=H.ln;exact#[[jp,H.ob],[f],[jp,H.us],[jp,H.co],[yP]]
def HS.ac2(H:[u9])(l:[h]):HS [dl,n0+2,[dM,nD]] n0 P {h with uses:=l} ht:=by have:=H.ln;exact#[[jp,H.ob],[jp,H.ba],[f],[jp,H.co],[yP]]
def HS.Bb(H:[u9])(l:[h]):HS [dl,n0+3,[dM,nD]] n0 P {h with coupons:=l} ht:=by have:=H.ln;exact#[[jp,H.ob],[jp,H.ba],[jp,H.us],[f],[yP]]
def u4(h:cu l n ws=[fX]):[eS,[R],[E]]:=by cases ws with|nil=>rw[aH,cu,h]|cons a r=>rw[aH,cu,h];rw[a6];rw[ay];{rw[a6];{rename_i i q;rw[aH,qA,h];rw[cd,vu q]};grind}
structure cV (b : a7) (h : h7) (ht : Nat) : Prop where
 bl : h.basket.length = b.items.length
 bm : ∀ x ∈ h.basket, x ≤ 40
 ul : h.uses.length = b.bundles.length
 um : ∀ x ∈ h.uses, x ≤ 3
 cm : ∀ x ∈ h.coupons, 1 ≤ x ∧ x ≤ b.coupons.length
 cr : rise h.coupons
 ct : h.basket.countP (fun x => ao (x ≠ 0)) + h.uses.countP (fun x => ao (x ≠ 0)) + h.coupons.length = ht
section
variable{S:aj}{n0:Nat}{P:aj}{h:h7}{ht:Nat}(H:HS S n0 P h ht){b:a7}{nm st:List (D×D)}(B:nk b nm){r:Nat}(hr:r<S.length)(hr0:n0+4<=r){line:Nat}{ws:bO}(hw:hV ws)(k:Nat)
include H B hr hr0 hw
theorem adW(J:h.basket.length=[bP]):[Bg,105,sL b h ws]:=by rw[du,[ae,pB B.nd x],j,sL];cases q:[tm]with|error e=>rw[ar,q,W,p,W,W];rw[bM,W,[C6,[g8]],W,BO];rw[cB,j p]|ok x=>rw[et,[la,[xw,[g8]]]=_,df,H.ba,40,28];cases O:[A,0<h.basket.getD _ 0,[tc],[qF]]with|error e=>rw[dg,p,[la,[yq,40]]=_,BO];rw[cB,j p]|ok y=>rw[dg,m,run prog _ _ [yq,40] _=_,BO];exact#[m,_,Y,H.XU _,by simp]
theorem ae8(J:h.uses.length=[cs]):[Bg,106,sT b h ws]:=by rw[du,[cP,pB B.nd x],j,sT];cases q:[tm]with|error e=>rw[ar,q,W,p,W,W];rw[bM,W,[C6,[l_]],W,Bm];rw[cB,j p]|ok x=>rw[et,[la,[xw,[l_]]]=_,eo,H.us,3,29];cases O:[A,0<h.uses.getD _ 0,[tc],bN 1 3 _ _]with|error e=>rw[dg,p,[la,[yq,3]]=_,Bm];rw[cB,j p]|ok y=>rw[dg,m,run prog [gW] _ [yq,3] _=_,Bm];exact#[m,_,Y,H.ac2 _,by simp]
omit H B hr hr0 hw in theorem U0(l:[h])(i:Nat)(a:1<=i):(i<=j3 [aS,λ(x:Nat)=>(x)])=¬[js,[sa,j<i]]:=by(have key:∀l,l≠[]->(i<=j3 [aS,λ(x:Nat)=>x]↔¬[js,[sa,j<i]]):=by intro l;induction l with|nil=>grind|cons x r m=>cases r with|nil=>simp[j3]|cons y q=>rw[ai,m,m (by simp),e,j3 [l5,x::y::q,x,x]=fk [am,x] _,rfl];rw[e8];simp only[aF,d0,Classical.not_and_iff_not_or_not,<-m];omega);cases l with|nil=>rw[eH,j3]|cons x r=>grind
theorem afL(O:h.coupons.length<=5):[Bg,107,tJ b h ws]:=by rw[du,[eT,pB B.nd x],J,tJ];cases m:[tm]with|error e=>rw[ar,m,W,p,W,W];rw[bM,W,[la,[xw,[hF]]]=_,W,As];rw[cB,J p]|ok x=>rw[ar,m,W,L,W,W];have W:[C6,[hF]]:=W;rw[V,a,u4 m,hd,d8 (J [bU]).ob];have z:[nU,fl (.obj 15 (gg n0 ht)) 30 T]:=[oJ];rw[V,q,(J [bU]).co,c,U0 h.coupons _ a.1];rw[ak,C,eQ [vl,nD]=[cf],RO _ _,u,h.coupons.length<lim,[fs],F,[xt,[bU],n0+3,[vl,nD],[l,[R]],h.coupons,[R],nD],by rw[ab,St];rw[aU,S4 _ _ [g],de]];rw[ab,aZ];rw[D,g,[xR,[R]]=ae];{rw[al,d,¬([R]<=j3 [vl,[n',x]]),[f],aJ g];simp[seval,As,W,hd,z,nD,h9 q,C,d,oC q,q,aR,u];rw[Y,F,#[L,_,Y,H.Bb _,by simp]]};{rw[al,d,[R]<=j3 [vl,[n',x]],[f],aw g];simp[seval,As,W,hd,z,nD,h9 q,C,d,[bm],[fF]];rw[cB,J _]}
end
def ju(b:a7)(h:h7)(ws:bO):eT h7:=[cX,ws,[],.ok (h,0,[]),k::_,[A,k=[lE],sL b h ws,[A,k=[m3],sT b h ws,tJ b h ws]]]
def m3(h:h7)(n:Nat)(ws:bO):eT h7:=[cX,ws,[],[iK,h,[]],[d4],[hj,[aw],1]]
def ic(g:eT h7):[be,h7]:=[cX,g,[fX],aa [R],[tc],ag]
def F8(U:[gw,[ne]])(n:Nat)(x:cK)(r:bO):cu l n [bn]=[gn,fK l x,i,.ok (i,[aw],r),[hj,[aw],[A,dU x=af,1,3]]]:=by simp[cu];cases q:fK l x with|none=>grind|some i=>rw[cd,U x [aE,vu q]]
def adS(aO:[b7,c_ b,[ne]])(h:h7)(J:cK)(l:bO)(hh:qB (J::l)=ae):[Lr,J::l]:=by rw[K,e,[Ky],rfl,u,[b7,[dt],[ne]],[BF]];rw[K,W,[b7,eo b,[ne]],[BF],P,[b7,d3 b,[ne]],[BF]];simp only[qB,CL,ur,kN,ip,cX]at hh;rw[K,s,¬([m5]=[lE]),[ah],z,¬([m5]=[m3]),[ah]];rw[K,y,¬([m3]=[lE]),[ah],g,¬([lE]=[m5]),[ah]];rw[K,d,¬([m3]=[m5]),[ah],nd,∀(x:h7)(n:Nat)(a:cK)(r:bO),m3 x n (a::r)=[hj,[aw],1],λx n a r=>rfl];rcases hh with rfl|rfl|rfl;{rw[az,ju,bI,sL,kb,g'];cases l with|nil=>rw[au,iy,cu,aZ,ic]|cons a r=>rw[F8 u];cases m:fK [dt] a with|none=>(rw[aa,aZ,ic];cases r with|nil=>rw[ad,iy,g,b8]|cons G q=>cases q with|nil=>rw[ad,iy,bI,m]|cons _ _=>rfl)|some i=>rw[ab,aZ];have C:e7 [pb] i=[ux]:=rfl;rw[D,h0,0<[ux]];{have f:¬([ux]=0):=[g];rw[ad,h0,bI,ic];cases r with|nil=>rw[ad,iy,g,b8]|cons G q=>cases q with|nil=>rw[ad,iy,bI,m];grind|cons _ _=>rfl};{have f:[ux]=0:=[g];rw[aa,h0,b8];cases r with|nil=>rfl|cons G q=>rw[ab,bN];cases O:mD G with|none=>(cases q with|nil=>rw[az,iy,bI,m,O,ic]|cons _ _=>rfl)|some v=>rw[bt];rw[D,I,[eS,v,40]];{rw[aJ I];cases q with|nil=>simp only[iy,bI,m,O,C,f,em,I.1,I.2,and_self,m3,ic]|cons _ _=>rfl};{rw[aw I];cases q with|nil=>have N:¬[lu,v,em,e7 [pb] i=0]:=λL=>I #[L.1,[ae,L]];rw[az,iy,bI,m,O,ic];rw[aw N]|cons _ _=>rfl}}};{rw[aY,ju,bI,y,b8,sT,kb,g'];cases l with|nil=>rw[au,iy,cu,aZ,ic]|cons a r=>rw[F8 W];cases m:fK (eo b) a with|none=>(rw[aa,aZ,ic];cases r with|nil=>rfl|cons G q=>cases q with|nil=>rw[az,iy,y,b8,bI,m]|cons _ _=>rfl)|some i=>rw[ab,aZ];rw[D,h0,0<[uK]];{have f:¬([uK]=0):=[g];rw[ad,h0,bI,ic];cases r with|nil=>rw[ad,iy,d,b8]|cons G q=>cases q with|nil=>rw[az,iy,y,bI,b8,m];grind|cons _ _=>rfl};{have f:[uK]=0:=[g];rw[aa,h0,b8];cases r with|nil=>rfl|cons G q=>rw[ab,bN];cases O:mD G with|none=>(cases q with|nil=>rw[aY,iy,y,b8,bI,m,O,ic]|cons _ _=>rfl)|some v=>rw[bt];rw[D,I,[eS,v,3]];{rw[aJ I];cases q with|nil=>simp only[iy,y,b8,bI,m,O,f,qu,I.1,I.2,and_self,m3,ic]|cons _ _=>rfl};{rw[aw I];cases q with|nil=>have N:¬[lu,v,qu,[uK]=0]:=λL=>I #[L.1,[ae,L]];rw[aY,iy,y,b8,bI,m,O,ic];rw[aw N]|cons _ _=>rfl}}};{rw[aY,ju,s,z,b8,tJ,kb,g'];cases l with|nil=>rfl|cons a r=>rw[F8 P];cases m:fK (d3 b) a with|none=>(rw[aa,aZ,ic];cases r with|nil=>rw[ad,iy,bI,m]|cons G q=>cases q with|nil=>rfl|cons _ _=>rfl)|some i=>rw[ab,aZ];rw[D,h0,[xR,i]=ae];{rw[aJ h0];cases r with|nil=>rw[az,iy,bI,m,m3,ic];rw[aJ h0]|cons G q=>cases q with|nil=>rfl|cons _ _=>rfl};{rw[aw h0];cases r with|nil=>rw[au,iy,bI,m,ic];rw[aw h0]|cons G q=>cases q with|nil=>rfl|cons _ _=>rfl}}
def Rf:∀(l:[h])(i v:Nat),i<[E]->[lC,i]=0->v≠0->(l.set i v).countP [uv]=l.countP [uv]+1|[],i,v,h,_,_=>[hE]|[bn],0,v,h,h0,q=>[a']|[bn],[Y],v,h,h0,q=>[f]
def MU(h:bN lo q n ws=[fX]):[v_,[R]]:=[BG,bN,a]
def cV.step(H:cV b h O){ws:bO}(B:ws≠[])(L:ju b h ws=[fX]):cV b [R] (O+1):=by rw[ak,a,[Co,sL b h ws],by intro y q;rw[ap,sL,q];cases m:[tm]with|error e=>rw[fo,m,q,aZ]|ok z=>have U:=u4 m;simp[df,aR]at U;rw[fz,0<h.basket.getD ([cA]-1) 0];{rw[aP,h0,b8,q];cases u:bN 1 40 [fB] [aE,z]with|error e=>rw[a']|ok v=>rw[fC,[pb],H.bl,by simp[H.bl],[gG],H.ul,H.um,H.bm x L]},c,[Co,sT b h ws],by intro y q;rw[ap,sT,q];cases m:cu _ 1 [iY]with|error e=>rw[fo,m,q,aZ]|ok z=>have U:=u4 m;rw[aP,eo,aR,U];rw[fz,0<h.uses.getD ([cA]-1) 0];{rw[aP,h0,b8,q];cases u:bN 1 3 _ _ with|error e=>rw[eM,u,q]|ok v=>rw[fC,h.uses,H.ul,H.bl,H.bm,by simp[H.ul],[gG],H.um x L]},d,[Co,tJ b h ws],by intro y q;rw[ap,tJ,q];cases m:cu _ 1 [iY]with|error e=>rw[fo,m,q,aZ]|ok z=>have U:=u4 m;rw[aP,d3,aR,U];rw[m]at q;rw[ap,aZ,q];rw[D,h0,[xR,[cA]]=ae];{rw[cD,aJ h0,q,qA];refine#[H.bl,H.bm,H.ul,H.um,[gG],?_,by have:=H.ct;rw[aa,cO,aiJ];omega];{rw[a0,cs.mp L,L,L,H.cm x L];{rw[ap,dL,L];rw[bf,L,U]}};{rw[gJ,ait.mpr #[H.cr,by simp,λx L y q=>?_]]}};{rw[eM,aw h0,q]}];cases ws with|nil=>grind|cons J r=>rw[ap,ju,L];grind
def ak6(n:Nat):(cf n).ar 105=3:=(rfl)
def an0(n:Nat):(cf n).ar 106=3:=(rfl)
def akJ(n:Nat):(cf n).ar 107=3:=(rfl)
def vc:[jN,String]:=[("has",105),("uses",106),("with",107)]
def Ro:A5=vc.map [aF,(sD [nl],.fn [X])]:=rfl
def xX:[fV]:=[[BS],[Cv]]
def Ou:[fV]:=[[Ep],[Bu],[Bp],[BS],[Cv]]
def l_:[fV]:=[yH]::[Hk]::Ou
def L3:Cf=[Ih,l_]:=rfl
def aeR:Ou=[Ep]::[Bu]::[Bp]::xX:=rfl
def U7(H:r<[ab])(h:G+4<=r)(W:hV ws)(k:Nat)(d:D)(j q I:Slot)(f:Nat)(i:[kI].ar f=3)(g:eT _)(J:yz [jl,6,f,[d,[m,G],[bw]],1] G P [ab] r line ws N g):[cX,aZ g m3,[tc],∃p w B,bh [kI] xX [Bn] [cK,1]=[f8,p,w,B]/\B.take G=P,[fX],∃B,bh [kI] xX [Bn] [cK,1]=[dz,[Bn],B]/\HS B G P [R] N]:=by rw[ad,seval,xX,i];cases g with|error e=>rw[ac,p,w,B,m,u,J];rw[ad,seval,m,aZ];grind|ok x=>rw[ac,L,B,m,z,U,J];rw[K,Q,r<[br],[g],s,[oe,St _ r line _ _],P5 Q W [bU] [fz]];rw[az,seval,m,bV Q,s,aZ];rw[D,O,[bU]<[gD]];{have y:[dX]≠[]:=[a'];cases l:[dX]with|nil=>grind|cons a t=>rw[ab,O];rw[cB,z.St h]};{rw[al,C,[dX]=[],[a'],C];rw[ab,O];exact#[_,Y,z.St h]}
def aaO(k G:Nat)(a:D)(t:cK)(g:[mq])(S:aj)(e j Z:Slot)(hh:qB [kw]=af):∃I,[FF,e,j]=[Z,.bk [p9,[oR],I,j,Z]]:=by have C:=Go t g [gW] S;rw[bj,jc _ t,ws];cases ws with|nil=>rw[ad,seval,l_,C];grind|cons J r=>have hd:=Ai J vc ([ah]);rw[aQ,Ro,hd];rw[K,H,[q4,eC (a8 (J::r)) [iW] T,sD J],λT=>by simp[seval,a8],U,(([gm]+1==0))=af,rfl];rw[aI,h,(vc.find? [AK])=ag,by have hh:¬(qB (J::r)=ae):=[f];simp[qB,CL,ur,kN,ip,cX,ue]at hh;simp[vc,IE,hh.1,[ae,hh],[aE,hh],j8,aiH],h,hd];have q:[q4,gy (sD _) _ T,af]:=[CM,RH];rw[az,seval,l_,C,H,q];exact [gS]
def aaP(B:nk b nm)(r:[bI]<=5)(k:Nat)(a:D)(t:cK)(g:[mq])(s4 s5 Z:Slot)(H:HS S G X h Q)(K:cV b h Q)(hh:qB [kw]=ae):[FB,[kw],[bb,[eC]]]:=by rw[R,W,v0,Q7 g];have C:=Go t g [gW] S;rw[bj,[kw],ws];cases ws with|nil=>simp[qB,CL]at hh|cons J E=>have hd:=Ai J vc ([ah]);rw[aQ,Ro,hd];rw[ak,oZ,[q4,eC (a8 [eZ]) [iW] T,sD J],λT=>[ad,seval,a8,bT],gF,(([cO,E.length+1]==0))=af,by rfl,q,[ab]<[Q,[rT]],by simp];rw[a4,A,H.ln,v,HS [rF] G X h [eC],#[[f],[jp,H.ba],[jp,H.us],[jp,H.co],[yP]],H2,HS [rT] G X h [eC],[I6,lI ([bC]),v.ob,v.ba,v.us,v.co,[q,CJ ([bC]),v.pr]]];rw[K,l,∀e,fi [kI] [a7] e 31 [m,G] (G,.aX 15 (gg G Q)) S=[dz,e,[rF]],λe=>by rw[ak,m,eV (gg G Q) 31=aa [l,Q],rfl,u,dV (gg G Q) 31 [l,[eC]]=gg G [eC],by rfl,h3,[Q,gg G Q]=4,rfl];rw[ab,fi];rw[az,seval,m,H.ob,h3,u],z,[q4,fl (.obj 15 (gg G [eC])) 31 T,[l,[bb,[eC]]]],[oJ]];rw[K,s,newD [kI] 13 [[l,[bb,[eC]]],a8 [eZ]] [rF]=_,NS [eC] [eZ] [gW] _,U,[Q,[rF]]=[ab],by simp];have hS:=JV (c:=hP [eC] [eZ] 0) (line:=[eC]) (ws:=[eZ]) [rF] Y;rw[U]at s hS;rw[hS]at s;have O:[cW,6,29,[[hd]],St [rT] [ab] [eC] [eZ] 0]=_:=yi q [fz];rw[aP,g',kL,O];rw[V,j,bV (line:=[eC]) (ws:=[eZ]) (n:=0) q,dw,c9 (kr _ h.coupons (K.cr.imp λh=>di h) K.cm) r];rw[ai,c,d8 v.ob,fj,∀f,[kI].ar f=3->[S,vc.find? [AK],[aF,D.fn [X]]]=aa [pv]->yz [cW,6,f,[dc,[m,G],[hd]],St [rT] [ab] [eC] [eZ] 1] G X [Q,[rT]] [ab] [eC] [eZ] [eC] (ju b h [eZ])->[FB,[eZ],[eC]],by intro f i hf hs;rw[hf]at hd;rw[K,hm,[q4,gy (sD J) (.du A5) T,ae],[CM,RH],hi,[q4,eC (.du A5) (sD J) T,[pv]],[CM,ad6]];rw[ai,n,U7 q A W k [b5] [b_,a] [oR] [bk,a8 [eZ]] f i _ hs,L,[FF,s4,s5]=bh [kI] xX [p9,[oR],[bk,a8 [eZ]],[c6,[ab]],[bk,[pv]]] (St [rT] [ab] [eC] [eZ] 1),by rw[aa,l_,aeR];simp only[seval,C,b7,gF,oZ,hm,H.ob,l,c,z,s,j,O,hi]];rw[a_,L]];have P:=hh;simp only[qB,CL,ur,kN,ip,cX]at P;rw[ak,d1,¬([m5]=[lE]),[ah],d2,¬([m5]=[m3]),[ah],y,¬([m3]=[lE]),[ah]];rw[D,k1,J=[lE]];{rw[ae,N,ju b h [eZ]=sL b h [eZ],[ad,ju,k1,bI],fj 105 Y [bM,k1] ?_];rw[Y,N,adW H2 B q A W k K.bl]};rw[D,k2,J=[m3]];{rw[ae,N,ju b h [eZ]=sT b h [eZ],[az,ju,k2,y,bI,b8],fj 106 Y [bM,k2] ?_];rw[Y,N,ae8 H2 B q A W k K.ul]};rw[a1,k3,J=[m5],by rcases P with h|h|h;rw[b9,[c8,h,k1],[c8,h,k2],h],N,ju b h [eZ]=tJ b h [eZ],[az,ju,k3,d1,d2,b8],fj 107 Y [bM,k3] ?_];rw[Y,N,afL H2 B q A W k dw]
def afa(h:aZ g m3=[fX]):∃y,g=.ok y/\[b4]=[R]:=by cases g with|error e=>rw[aH,aZ,h]|ok y=>simp[aZ,m3]at h;grind
def Oa(B:nk b nm)(r:[bI]<=5)(k:Nat)(a:D):∀(l:[h])(S:aj)(h:h7)(Q:Nat)(X W O Z:Slot),HS S G i h Q->cV b h Q->([ez,l,[mq]])->[cX,y' b h [eC] l,.error n,∃p w T,[IR]=[Ec,T]/\T.take G=i,.ok E,∃o I F d T z,[IR]=[dz,[p9,o,I,F,d],T]/\HS T G i E z/\cV b E z]|[],S,h,Q,X,W,O,Z,H,K,U=>#[X,W,O,Z,S,Q,Y,H,K]|t::q,S,h,Q,X,W,O,Z,H,K,U=>by have g:=U t (by simp);rw[bT,iY];rw[ab,y'];have C:∀S,[gT,gc [p9,X,W,O,Z] [3] _]=[Z,[[b'],[b'],[b'],[oR],W,O,Z]]:=λS=>rfl;rw[C,fC];rw[D,hh,qB [kw]=ae];{have f:=aaP (st:=st) B r k a t g W O Z H K hh;rw[ad,hh,aiF,b8];rw[K,c,jc _ t≠[],λv=>by rw[v]at hh;simp[qB,CL]at hh,N,[Lr,[kw]],by cases j:jc _ t with|nil=>rw[bi,j,c]|cons J rE=>exact adS B.ok h _ _ (j▸hh)];rw[N];cases A:aZ _ _ with|error e=>rw[A]at f;rw[ac,p,w,T,m,u,f];rw[ad,ic,m,wP];grind|ok x=>rw[A]at f;rw[an,I,F,d,T,m,u,f];rw[aa,ic,m];rw[M,y,hy,yE,afa A];rw[hr,s,K.step c hy,yE,Oa B r k _ q _ _ _ _ _ _ _ u s (λx L=>U x [oZ])]};{have P:=[aD,hh];rw[R,I,m,aaO (b:=b) (nm:=nm) (st:=st) k G a t g S W O Z P];rw[az,P,bI,m,fC,V4];grind}
def J3:∀{a c},Gd c->(tx a=tx c↔a=c)|[],[],_=>by simp|[],y::s,_=>by simp[tx]|[bn],[],_=>by simp[tx]|[bn],y::s,h=>by rw[V,m,J3 (a:=r) (c:=s) λc O=>h c [f],e,[gF,y]];rw[K,z,tx [bn]=sg x::tx r,rfl,u,tx (y::s)=sg y::tx s,rfl];rw[V,q,Bh e,L,AZ x];grind
def acS(l:[gu])(p:Nat):cut l (clip [E] p) (clip [E] (p+1))=[ed,p].take 1:=by rw[K,e,clip _ p=el p [E],rfl,z,clip [E] (p+1)=el _ _,rfl];rw[cut];rw[D,h,p<[E]];{grind};rw[a']
def qJ:[fV]:=[Gl,[E2]]
def YE:Nh=[HF,qJ]:=rfl
def same(a c:[be,cK]):Bool:=match a,c with|ag,ag=>ae|aa x,aa y=>ao (x=y)|_,_=>af
def VV(a:[h])(p:Nat):kz [r3,[kn]]=ae:=by rw[<-yZ];cases a.drop p with|nil=>rfl|cons x r=>simp[aif,ain,bT,sD,kz,GP]
def VT(a c:[h])(O:[ez,c,Gd t])(p k:Nat)(S:aj):bh [kk] qJ [xd] S=[ao,[r7],[dK,[xd]],[iw,[l,p+1]]]:=by rw[K,j,∀(l:[ak])T,gu [aV] (aa p) [cf] T=[bc,[W,[ed,p].take 1],T],λl T=>[jI,acS l p],C,[q4,mY _ _ T,[r7]],λT=>by rw[al,e,mY [W,[r3,[kn]]] [W,[r3,c.map sD]] T=[bc,ll [r3,[kn]] [r3,c.map sD],T],by simp[mY,VV];rfl,e];rw[bA];(have q:∀l:[h],[r3,[aS,sD]]=[gn,l[p]?,x,[sD x],[]]:=λl=>by rw[<-yZ];cases h:l[p]? with|none=>rw[a']|some x=>have u:p<[E]:=[f];rw[a_,mE u]);rw[q a,q c];cases J:a[p]? with|none=>(cases m:c[p]? with|none=>rfl|some y=>rfl)|some x=>cases m:c[p]? with|none=>rfl|some y=>have z:=O y (cG m);simp[ll,sD,Oq,yX,same];rw[gZ,ip,J3 z,d0]];rw[D,h,[r7]=ae];{rw[eU,qJ,j,C,h]};{have i:=[aD,h];rw[eU,qJ,j,C,i]}
def Pk(a c:List cK)(O:[ez,c,Gd t])(k:Nat)(S:aj):∀(G p:Nat)(z:Slot),G+p=fk [bV] [dN]->[GT,a.drop p,c.drop p,[Hb,i],[Hb,i]]|0,p,z,h=>[a3,o8 [g],o8 [g],#[z,Y]]|G+1,p,z,h=>by rw[List.range'_succ,bT,iY];have C:∀S,[gT,gc [[b'],[b'],z] [2] _]=[Z,[xd]]:=λS=>rfl;rw[C,fC,VT a c O p k S];rw[ai,u,Pk a c O k S G (p+1) [ay,p] [g],stop,∀x y,a.drop p=x->c.drop p=y->[r7]=af->qC (p+1) x y=p+1->[GT,x,y,[FW,p],[FW,p]],by intro x y L N U W;rw[aU,W,U]];cases J:a[p]? with|none=>rw[ai,g,v6.mp J,dw,p<[dN],[g]];rw[o8 g,mE dw,<-J];exact stop _ _ (o8 g) (by simp) ([aU,J,cQ dw]) Y|some x=>rw[aA,g,p<[bV],by apply CH;intro B;rw[eM,mx [g],J],q,by rw[cQ g]at J;rw[aD,J]];rw[mE g,q,<-J];cases m:c[p]? with|none=>have dw:=v6.mp m;rw[o8 dw,<-m];exact stop _ _ (by rw[mE g,q]) (o8 dw) ([aU,J,m]) Y|some y=>rw[aA,dw,p<[dN],[f],d,by rw[cQ dw]at m;rw[aD,m]];rw[mE dw,d,<-m];rw[D,j,x=y];{rw[al,U,[r7]=ae,by rw[J,m];simp[same,j],U];rw[aa,qC,j];exact u};{exact stop _ _ (by rw[mE g,q]) (by rw[mE dw,d]) (by rw[J,m];simp[same,j]) ([aa,qC,aw j])}
def af8(a c:[h])(O:[ez,c,Gd t])(J:[bV]<=10000)(dw:[dN]<=10000)(k:Nat)(S:aj):[iD,2,109,[[W,[kn]],[W,c.map sD]],qC 1 a c]:=by rw[[cg]];rw[ai,z,Pk a c O k S (fk _ _) 0 [V] Y,q,fk [am,a.length] [dN]=fk [bV] [dN],[g]];rw[eU,YE,aR,q,vb _ _ [ge,fk [bV] [dN]<=16777216]];rw[List.range_eq_range'];rw[aH,g',z];rw[D,h,qC 1 a c=0];{rw[ar,aJ h,z,s,z,z];rw[aU,z,h]};{rw[aw h]at z;rw[a8,z]}
def vB(h:h7)(q:Nat):D:=.obj 15 [(28,[W,h.basket.map nD]),(29,[W,h.uses.map nD]),(30,[W,[vl,nD]]),(31,[l,q])]
def h0(b:a7):h7:={basket:=fH [bP] 0,uses:=fH [cs] 0,coupons:=[]}
def w8(b:a7)(n:Nat):List aP:=[.aX 15 (gg n 0),[W,(h0 b).basket.map nD],[W,(h0 b).uses.map nD],[bF]]
def Qx{U:[aI]}(l:[gu]):[aS,λ_=>[cz,0]]=[c_,fH [E] 0]:=by induction l with|nil=>rfl|cons x r q=>simp[bT,q];rfl
def YN(k:Nat)(S:aj):[y5,15,[[b5]],w8 b [ab]]:=by rw[K,h,[xO,103,[[hd],[b5]],15,w8 b [ab]],by rw[[lh]];rw[K,u,[xh,L],[yV],f,[w4,j,L],λc j L=>by simp];rw[ak,O,[ud,L,S],[zy],i,[JT,.c _,2,(h0 b).basket.map _],[In,cI],r,[JT,[bd],3,(h0 b).uses.map _],[In,dk]];simp[seval,Nm,u,f,O,cO,i,r];rfl,m,[kk].init 15=103,rfl];simp[newD,m,xa,h]
def HS.new(b:a7)(S:aj):HS (S++w8 b [ab]) [ab] S (h0 b) 0:=[bp,q,[J9,w8 b [ab]],λi=>[f],#[q 0,q 1,q 2,q 3,by simp]]
def cV.new(b:a7):cV b (h0 b) 0:=by rw[ae,q,∀n,(fH n 0).countP [uv]=0,λn=>by simp,#[by simp[h0],[gG],by simp[h0],[gG],by simp[h0],by simp[h0,rise],by rw[aa,h0,q];rfl]];{simp[h0,aiK]at L;omega};{simp[h0,aiK]at L;omega}
def HS.Bp(H:HS S G P h q):[gN,8,[m,G],vB h q]:=by rw[V,z,mS _ S 6 _ [g] H.ba _ [qc,y,m8 G S 4 (nD y) Y],u,mS G S 6 _ [g] H.us _ [qc,y,m8 _ S 4 _ Y]];rw[ai,L,mS G S 6 _ [g] H.co _ [qc,y,m8 _ S 4 _ Y],e,∀s,cp G S 7 [l,s]=[cf],[wg]];exact GL _ S 7 _ _ [g] H.ob _ (by simp[gg,cM,z,u,L,e,g6,t_])
def ack(L:ez S)(B:[mN])(l:[h])(U:[ez,l,[mq]])(k:Nat):[cX,y' b (h0 b) 1 l,.error n,∃p w,[k3,7,108,[dM,sD]]=[Ec,S],.ok h,∃q,[cM,7,108,[dZ,[dM,sD]],vB h q]/\cV b h q]:=by rw[ai,z,Oa (st:=st) B.nm B.wf.nc k [dM,sD] l _ _ 0 [V] [V] [V] [V] (HS.new b S) (cV.new b) U,s,newD _ _ [[b5]] S=_,YN [gW] S];rw[Eh _ S Y Y Y];cases J:y' b _ 1 l with|error n=>rw[J]at z;rw[ac,p,w,e,m,u,z];rw[ae,y,jZ [kI] Cf [dZ,[dM,sD]] S=[Ec,e],[bg,L3,s,m],#[p,w,?_]];simp[fW,y,u,L.all];rfl|ok h=>rw[J]at z;obtain⟨C,I,F,d,e,q,m,H,K⟩:=z;rw[ae,y,jZ [kI] Cf [dZ,[dM,sD]] S=[pf,e],[bg,L3,s,m],#[q,?_,K]];simp[fW,y,H.Bp,H.pr,L.all,bI]
def V7(K:cV b h q):[Q,o9 b [pb] [l4,h.uses,h.coupons]]=q:=by simp[o9,cO,List.length_filterMap_eq_countP];rw[aA,e,[S,kT b,e7 [pb]]=[pb],by apply mw;intro i;simp[kT,dR];rw[D,j,i<[bP]];{rw[aio j];have:i<h.basket.length:=[aM,K.bl];simp[e7,this]};{rw[aU,mx [f],mx ([aM,K.bl])]},z,by have:=List.map_snd_zip (l₁:=eo b) (l₂:=h.uses) (by simp[eo,K.ul]);rw[b2]];rw[K,B,(kT b).countP (λa=>[er,[A0,e7 [pb] a,gN b a]])=h.basket.countP [uv],by(conv=>rhs;rw[<-e,aiL]);apply aiM;simp,I,((eo b).zip h.uses).countP (λx=>[er,[GM]])=h.uses.countP [uv],by(conv=>rhs;rw[<-z,aiL]);apply aiM;simp];rw[cd,K.ct]
def O'(J:[aO])(e:jq b){c C a:[h]}(O:[hZ])(B:[k'])(hu:[lf])(L:[r_])(dw:[bV]<=5):[ez,up b c [fL],Gd t]/\[aN,up b c [fL],63]:=by have q:fh b [zV]:=vj _ (vP J O B hu);rw[V,l,NA J c [fL],s,Nb J q];rw[ci,FR,#[λt j=>?_,[f]]];rw[M,r,h,rfl,b0.mp j];rw[bp,g,Rw r,[d_,cs.mp h,h,h,EZ e O B hu L r h,Hj J e q r h],[L5]]
def Xf:[aN,nR [] t,[m_]+1]:=by rw[ES];obtain⟨_,u⟩:=A1 10 t;rw[hT,pL]
def abM(C:ez S)(B:[mN])(t:cK)(j:[nf])(k:Nat):[k3,8,110,[fH]]=[bQ,lookOver b t]:=by rw[[cg]];rw[V,q,Lm t j [gW] S,g,by simp[lF,aF,d0]at j;exact j.1];rw[V,z,ack C B (nR _ t) (λx L=>[aM,Lg x L]) k,a,Xf (t:=t)];rw[al,I,lookOver b t=[cX,y' b (h0 b) 1 _,.error n,n,.ok h,[A,gJ b _ _=af,[Q,o9 b _ _]+1,qC 1 _ _]],rfl,I];cases J:y' b _ 1 _ with|error n=>rw[J]at z;rw[M,p,w,m,z];rw[bg,zE,q,m];rfl|ok h=>rw[J]at z;rw[M,hh,m,K,z];rw[aA,u,jq b,#[B.nm.ok],dw,c9 [nA,K.cr.imp [f],K.cm] B.wf.nc];rw[K,xm,[Ff,28],[oJ],yo,[Ff,29],[oJ]];rw[K,xS,[Ff,30],[oJ],c,[nU,bH (vB h hh) T],[oJ]];rw[K,i,[p5,[De]]=_,Kc B.wf K.bl K.bm K.ul K.um K.cm K.cr [ds] S,d,run _ (k+7) _ [xP] S=_,KQ B.wf u B.se K.bl K.bm K.ul K.um K.cm K.cr _ S];rw[bl,W,g2,O' B.wf u K.bl K.bm K.um K.cm dw,e,[p5,[[W,[fO,nR [] t]],[b6]]]=_,af8 _ _ W [g] [g] [gW] S];rw[bt];rw[V7 K];rw[D,O,gJ b [pb] [l4,h.uses,h.coupons]=ae];{simp[seval,zE,q,m,c,xm,yo,xS,i,O,d,e]};{have f:=[aD,O];simp[seval,zE,q,m,c,xm,yo,xS,i,f];rfl}
def bw(v:D):aj:=[[D7]]
inductive Rel:CN->D->[P]|no:Rel {book:=ag} [aX]|yes{b:a7}{nm st:[dj]}:([mN])->Rel {book:=aa b} [b5]
def bj(G:R D)(s:CN)(v:D)(X:CN×[a0]):[P]:=(∃a x,X.2=0::a/\[bV]<=250000/\[LL]/\Rel X.1 x)\/(∃(e:Nat)(B:[ak]),X=(s,[-[am,e]])/\[lu,e,8,G=.ex (4+e) B [d0]])
def bj.ok(h:[bV]<=250000)(m:[LL])(q:Rel S x):bj G s v (S,0::a):=e6 [f]
def bj.er(e:Nat)(m:1<=e)(u:e<=8)(q:G=.ex (4+e) B [d0]):bj G s v (no s (-e)):=kQ #[e,B,Y,m,u,q]
def ac8(n:Nat)(l:[h]):[lB,[aS,cI]]:=by apply eY;intro x;rw[K,m,[lB,x.taxes.map _],[oO,zR n],u,[lB,[fO,mi [jF]]],[oO,zR n]];rw[ak,e,[lB,x.volume.map _],[oO,vM n],q,[lB,x.steps.map _],[oO,vM n],h,[lk,[vS]],NU n _ ([bx,x.free])];simp[cI,D.low,iT,m,u,e,q,h,kK]
def ag3(B:[mN])(n:Nat):[lk,[b5]]:=by rw[V,m,wX n _ B.nm.val,u,wX n _ B.sv];rw[aA,e,[lB,b.taxes.map _],[oO,Gf n],q,ac8 n [cG]];rw[ak,h,[lB,b.bundles.map _],eY dk n [KX] _,O,[lB,b.coupons.map _],[oO,Ec n],P,[lB,b.apart.map _],[oO,uY n]];simp[ax,D.low,iT,m,u,e,q,h,O,P,kK]
def Rel.low(h:[dF]):ez [d0]:=by(have q:∀n,v.low n=ae:=λn=>by cases h with|no=>rfl|yes B=>exact ag3 B n);intro c O;simp[bw,dL]at O;subst O;simp[aP.low,iT,q,yX]
def P_(v:D):bH [m,0] [d0]=[bc,.obj 14 [(27,v)],[d0]]:=rfl
def Qj(v:D):[aQ,[d0],0,[D7]]:=rfl
def anr(k:Nat):[cW,1,92,[[m,0]],bw [aX]]=.ex 6 [] (bw [aX]):=rfl
def QB(e:Env)(v d:D):fs e 27 d (0,[D7]) [d0]=[dz,e,bw d]:=rfl
def jr(k:Nat):[cW,1,92,[[m,0]],[gl]]=[bc,[b5],[gl]]:=rfl
def af0(h:[dF])(t:[h])(k:Nat):[e3,122,[],[[fH]],.read t]:=by rw[cA,g,[y_],Og,[nf]];{have f:=LX h.low t q [an];simp[q];cases m:IF t with|error e=>rw[m]at f;simp[seval,f];rw[bo,5]|ok b=>rw[m]at f;rw[ag,nm,st,f,B,f];simp[seval,f,Qj,QB,P_,aR];rw[b5,[jt]]};{rw[bG,z,q,1]}
def XG(h:[dF])(t:[h])(k:Nat):[e3,123,[],[[fH]],.check t]:=by rw[cA,g,[y_],Qq,[nf]];{have f:=LX h.low t q [an];simp[seval,q];cases m:IF t with|error e=>rw[m]at f;simp[f];exact bj.ok (by simp[wrongTold,uw]) Y h|ok b=>rw[m]at f;rw[ag,nm,st,f,B,f];simp[f];rw[b5,h]};{rw[bG,z,q,1]}
def Zp(h:[dF])(k:Nat):[e3,125,[],[],.names]:=by rw[[bN]];cases h with|no=>rw[bD]|yes B=>rw[bg,JY,jr,aR];exact bj.ok (by simp[uw]) Y [jt]
def jQ(h:b3 x lo q=ae):[v_,x]:=by simp[b3,aF,d0]at h;exact h
def jP(h:¬b3 x lo q=ae):b3 x lo q=af:=[f]
def oK(h:0<=n):n=[am,n.toNat]:=[dH,Int.toNat_of_nonneg h]
def ya(h:[rt]):[k1]∈[cG]:=by have h:=jQ h;rw[aH,b_,h];exact [E3]
def adR(h:[dF])(i n:Int)(k:Nat):[e3,126,[p_,n],[],.cost i n]:=by rw[cA,f,[EU],Nc,[qZ,em]=ae];{simp[q];cases h with|no=>rw[bD]|@yes b nm st B=>have e:run _ (k+11) _ [ti] [gl]=_:=xJ i _ _;rw[eU,jr,CO,nU,e];rw[D,j,[rt]];{simp[j];rw[dB];rw[V,u,A8 W [fu] [nx] [g] [gl],h0,GC W [fu] [rq] [g] [gl]];rw[<-oK [db]]at u h0;simp[seval,u,h0];rw[b5,[jt]]};{rw[b6,j,3]}};{rw[b6,q,1]}
def AR(l:[h]):[no]=[S,uw l,D.int]:=by rw[aa,uw,cq];rfl
def adQ(h:[dF])(i n:Int)(k:Nat):[e3,127,[p_,n],[],.cheap i n]:=by rw[cA,f,[EU],QU,[qZ,em]=ae];{simp[q];cases h with|no=>rw[bD]|@yes b nm st B=>rw[fH];{simp[j];rw[dB];have u:=abm W [fu] (k+7) [g] [gl];rw[aQ,oK [db],u];simp[seval,u];rw[b5,[jt]]};{rw[b6,j,3]}};{rw[b6,q,1]}
def Pz{U J:[aI]}(g:U×[aj]->J->U×[h])(q:∀a j,[Q,[bo,g a j]]=[Q,a.2]+1):∀(l:[h])(a:U×[h]),[Q,[bo,[g2,g,a]]]=[Q,a.2]+[E]|[],a=>rfl|[bn],a=>by rw[nE,Pz g q r,q,b7];omega
def W_(x:dZ)(n:Nat):[Q,SF x n]=n:=by rw[dU,SF,Pz];{simp};grind
def Zs(h:[dF])(i n:Int)(k:Nat):[e3,139,[p_,n],[],.pieces i n]:=by rw[cA,f,[EU],MR,[qZ,em]=ae];{simp[q];cases h with|no=>rw[bD]|@yes b nm st B=>rw[fH];{simp[seval,j];rw[dB];have u:=Vu W [fu] [nx] [g] [gl];rw[<-oK [db],AR]at u;simp[u];exact bj.ok (by rw[uw,aR,W_];omega) Y [jt]};{rw[b6,j,3]}};{rw[b6,q,1]}
def abW(h:[dF])(k:Nat):[e3,138,[],[],.drop]:=by cases h with|no=>rw[bD]|@yes b nm st B=>rw[b5,.no]
def Zn(h:[dF])(t:[h])(k:Nat):[e3,137,[],[[fH]],.add t]:=by rw[cA,g,[y_],Oy,[nf]];{simp[q];cases h with|no=>rw[bD]|@yes b nm st B=>have f:=abA (Rel.yes B).low B t q [an];simp[nU];cases m:uv b 1 _ with|error e=>rw[m]at f;simp[seval,jr,f];rw[bo,5]|ok l=>rw[m]at f;rw[ag,d,I,f,a,f];simp[seval,jr,f,Qj,QB,P_,aR];rw[b5,.yes a]};{rw[bG,z,q,1]}
def acm(h:[dF])(t:[h])(k:Nat):[e3,141,[],[[fH]],.look t]:=by rw[cA,g,[y_],QC,[nf]];{simp[q];cases h with|no=>rw[bD]|@yes b nm st B=>have c:=abM (Rel.yes B).low B t q [f2];simp[seval,jr,c];rw[b5,[jt]]};{rw[bG,z,q,1]}
def adU(J:[aO])(u:vd b):[aN,rY b,250]:=by rw[aA,G,[uj,[h],[Jb],iw b,12*[E]],λl=>by induction l with|nil=>simp|cons x r q=>intro hh;rw[V,m,q [f],e,Gj b x [f]];grind,h,G _ u.gf];have:=J.nt;have:=J.ni;have:=J.nb;have:=J.nc;have:=u.ap;rw[al,U,∀s o,[aN,jb s o,1],[KP],rY];rw[hT,cO]
def QZ(h:Rw r):[aN,jn r,840]:=by have U:=h.len;cases r with|nil=>simp[jn]|cons w r=>rw[ec]
def ym{U:[aI]}(f:U->[a0])(G:Nat):[uj,[h],[aN,f x,G],f,G*[E]]|[],_=>by simp|[bn],h=>by rw[V,m,ym f G r [f],u,[gF,x]];rw[ir,cO,b7,Nat.mul_succ];omega
def ZM(h:[dF])(k:Nat):[e3,124,[],[],.print]:=by rw[[bN]];cases h with|no=>rw[bD]|@yes b nm st B=>rw[ai,O,adU B.wf B.w2,c,[l9,[[sU]]],ahd B.wf B.w2 #[B.nm.ok] B.se [g] [nx] _];rw[bg,Pb,jr,c];refine bj.ok ?_ Y [jt];have:=ym SW 841 _ (λr q=>by have:=QZ (PJ B.wf #[B.nm.ok] r q);rw[a_,Hs]);rw[ab,bookText];omega
def xk(h:[so]):[Q,cy c]=[bP]/\[b7,cy c,x<=40]:=by simp[jI,aF,ip,ck]at h;rw[a7,by simp[cy,[dJ]],[gG]];rw[M,y,e,rfl,b0.mp L];have:=jQ (h.2 y e);simp[b_,em]at this;omega
def Ek(h:nO b w=aa x):x.uses.length=[cs]/\(∀C∈x.uses,C<=3)/\(∀c∈x.coupons,[eS,c,[bI]])/\rise x.coupons:=by rw[ap,nO,h];rw[a6];{rw[aB,O];simp only[aF,ip,ck]at O;rw[aH,cX,h];subst h;refine#[[ad,cy,aR,O.1],λC hu=>?_,λC hu=>?_,FB _ [eT,O]];{rw[M,y,L,rfl,b0.mp hu];have:=jQ (O.2.1 y L);simp[b_,qu]at this;omega};{rw[M,y,L,rfl,b0.mp hu];have:=jQ ([aE,O].1 y L);rw[aH,b_,this];omega}};grind
def D3(B:[mN])(c w:[h])(W:[qj])(k:Nat)(S:aj):[Gq,7,121,[iV,[qk]]]:=by rw[[cg]];rw[bM,i,[p5,[oP]]=_,O8 B.wf c w W k S,NR];rw[D,J,[so]];{simp[J];rw[R,h,g2,xk J];cases L:nO b w with|none=>rfl|some x=>rw[ag,m,u,z,j,Ek L];rw[aJ,[uS]];{rw[bM,e,[p5,[xP]]=_,P7 B.wf B.se (e6 Y) (e6 Y) h g2 u z [an] S,q]};{have f:=[aD,q];simp[seval,f]}};{have O:=[aD,J];simp[seval,O]}
def Pq(Z:bL)(S:aj)(a z u:Slot):∀(l:[h])(N:[ak])(q j:Slot),[et]+2*[E]<=100000->∃I F,cW [oF,Z,[.ej 3 [ax,[[av],[a4]]]]] [gs] [aS,pD] [a,z,u,[ki],q,j] S=[dK,[a,z,u,[iX,l.flatMap [aF,[[cz,[H]],[cz,[X]]]]],I,F]]|[],N,q,j,h=>#[q,j,by simp[cW,M.pure]]|[e1],N,q,j,h=>by rw[M,I,F,m,Pq Z S a z u r (N++[[cz,[H]],[cz,[X]]]) [ay,[H]] [ay,[X]] [f]];have U:[et]+2<=lim:=[fs];rw[bT,iY];rw[cU,U]
def B7(B:[mN])(J:[so])(L:nO b w=aa x):fh b [qk]:=by rw[R,h,g2,xk J];rw[dG,m,u,e,q,Ek L,vj _ (vP B.wf h g2 u)]
def aaj(h:[dF])(c w:[h])(W:[qj])(k:Nat):[e3,128,[],[rJ],.bill c w]:=by rw[[bN]];cases h with|no=>rw[bD]|@yes b nm st B=>rw[dj,e,[oe,[gl]],[Em],Kb];{simp[J];cases L:nO b w with|none=>rw[bo,1]|some x=>rw[V,q,B7 B J L,U,q.len];rw[D,m,[uS]];{rw[M,I,F,u,Pq [gc,11] [gl] [c6,0] [bk,[bF]] [bk,[ax,[rJ]]] [qk] [] [V] [V] [f]];simp[seval,m,u];refine [yA];{rw[aM,ym (λl=>[b_ l.1,b_ l.2]) 2 [qk] (by simp)]};{rw[a8,SU]}};{rw[bG,f,m,4]}};{rw[bG,z,J,1]}
def afM(h:[dF])(c w:[h])(W:[qj])(k:Nat):[e3,129,[],[rJ],.taxes c w]:=by rw[[bN]];cases h with|no=>rw[bD]|@yes b nm st B=>rw[dj,e,[oe,[gl]],[Em],Re];{simp[J];cases L:nO b w with|none=>rw[bo,1]|some x=>have q:=B7 B J L;rw[D,O,[uS]];{simp[O];rw[K,j,[ET],GQ B.wf B.se q (k+7) _,m,[l9,[dc,[b6],[b6]]],DA B.wf q (k+9) _];rw[ak,y,[oe,[gl]],BQ [qk] [rq] _,u,[l9,[[sU],[bK]]],A2 B.wf B.se _ (Po B.wf q) [nx] _,g,[Q,qt b [qk]]=[cC],by simp[qt]];rw[ai,I,B.wf.nt,i,[Q,qt b [qk]]+3<=lim,[fs]];simp[seval,j,m,y,u,aR,i];refine [yA];{simp[uw,cO,aR,b7,gK];omega};{rw[de,<-AR];rfl}};{rw[bG,f,O,4]}};{rw[bG,z,J,1]}
def aeu(h:[dF])(c w:[h])(W:[qj])(k:Nat):[e3,130,[],[rJ],.price c w]:=by rw[[bN]];cases h with|no=>rw[bD]|@yes b nm st B=>rw[dj,e,[oe,[gl]],[Em],JX];{simp[J];cases L:nO b w with|none=>rw[bo,1]|some x=>have q:=B7 B J L;rw[D,m,[uS]];{rw[bM,i,[ET],Rp B.wf B.se q (k+6) _,m];rw[b5,[jt]]};{rw[bG,f,m,4]}};{rw[bG,z,J,1]}
def WM(h:[dF])(c w:[h])(W:[qj])(k:Nat):[e3,140,[],[rJ],.show_ c w]:=by rw[[bN]];cases h with|no=>rw[bD]|@yes b nm st B=>rw[dj,i,[l9,[oP]],O8 B.wf c w W [gW] _,Rm];{simp[J];rw[R,C,g2,xk J];cases L:nO b w with|none=>rw[bo,1]|some x=>rw[ag,m,u,U,p,Ek L];rw[aA,z,jq b,#[B.nm.ok],dw,c9 [nA,p.imp [f],U] B.wf.nc];rw[D,l,[uS]];{rw[K,d,[l9,[xP]],KQ B.wf z B.se C g2 m u U p [gW] _,E,[ez,[JZ],Gd t/\[m_]<=840],by intro t G;rw[bn,q,B7 B J L,FR,G];rw[M,r,O,rfl,b0.mp G];rw[bp,g,Rw r,[d_,cs.mp O,O,O,EZ z C g2 u U r O,Hj B.wf z q r O],#[[L5],QZ g]]];rw[K,a,[aN,up b _ x,63],[bo,O' B.wf z C g2 u U dw],j,[oe,[gl]],J_ _ (λt G=>#[[M,E t G],[f]]) [g] [rq] _];rw[bg,l,d,j];refine bj.ok ?_ Y [jt];have:=ym [t5] 841 [JZ] [f];rw[al,e,billText b _ x=(up b (cy c) _).flatMap _,rfl,e];omega};{rw[bG,f,l,4]}};{rw[bG,H,J,1]}
def aeh(h:[dF])(c:[h])(k:Nat):[e3,132,[],[[y2]],.all c]:=by rw[[bN]];cases h with|no=>rw[bD]|@yes b nm st B=>rw[fI,Nk];{rw[R,m,g2,xk J];rw[bM,d,[l9,[oP]],afX B.wf m g2 (k+6) _,J];rw[b5,[jt]]};{rw[bG,z,J,1]}
def aaq(b:a7)(c:[h]):[l4,fH [cs] 0,[]]∈[ug]:=by rw[nN];rw[bb];{rw[au,uk,j_,b0,i9];(have L:∀n,fH n 0∈g_ n qu:=λn=>by induction n with|zero=>simp[g_]|succ n q=>rw[au,g_,j_,i9,b0];exact#[0,[g],_,q,Y]);rw[bI,gL [bI] 0=[],by simp[gL]]};{(have h:∀(l:List io)(n i:Nat),aH [cl,l.zip (fH n 0),x,[I',i]]=0:=λl=>by induction l with|nil=>intro n i;rfl|cons x r q=>intro n i;cases n with|zero=>rfl|succ n=>have:=q n i;simp[List.replicate_succ,rS];rw[eW,a,∀l,aH (0::l)=aH l,λl=>by simp[aH]]);rw[az,gJ,my,h,fU,o6];simp}
def Lz:[h0,l,G,[fP],l≠[]\/G≠ag,∃x,[g2,rX,G]=aa x/\(x∈l\/G=aa x)]|[],G,h=>by rw[aK,h,h,h];rw[ay];{cases G with|none=>grind|some x=>grind}|y::r,G,_=>by(have q:∃z,rX G y=aa z/\(z=y\/G=aa z):=by cases G with|none=>exact#[y,Y,e6 Y]|some x=>rw[hT,rX]);rw[aO,z,L,J,q,x,m,u,Lz r (rX G y) [f]];grind
def afi(b:a7)(c:[h]):∃x,CD b c=aa x/\[yR]=[cs]/\[bD].coupons.length<=[bI]:=by rw[al,e,CD b c=[cl,[ug],w,(Iw b c w,w)].foldl rX ag,by rw[CD,SM],e];rw[aL,x,m,u,Lz [cl,[ug],w,(Iw b c w,w)] _ (e6 (by intro h;have:=aiA.mp h;rw[jK,W,aaq b c])),#[x,m,?_]];rw[aK,u,u,u];{rw[M,w,W,rfl,b0.mp u];have W:=[M,nN.mp W];simp[uk,j_,b0]at W;rw[ac,C,hu,q,z,rfl,W];refine#[[M,tP 3 _ C hu],?_];rw[b0,gL]};grind
def YJ(h:[dF])(c:[h])(k:Nat):[e3,131,[],[[y2]],.best c]:=by rw[[bN]];cases h with|no=>rw[bD]|@yes b nm st B=>rw[fI,Na];{rw[bl,m,g2,xk J,d,[ET],afY B.wf B.se m g2 [gW] _];rw[ag,x,L,l,C,afi b (cy c)];have:=B.wf.nb;have:=B.wf.nc;rw[ak,q,2+[yR]<=lim,[fs],e,[yR]+1+1+1<=lim,[fs],Z,[yR]+1+1+1+[bD].coupons.length<=lim,[fs]];simp[seval,J,d,L,s_,aR,cO,q,e,Z];refine [yA];{simp[wayRow,row,uw,b7,cO,aR];omega};{simp only[wayRow,row,bT,de,<-AR,en];rfl}};{rw[bG,z,J,1]}
def WF(h:[wY]=ae):[aN,[ie],20]/\aH [ie]<1000000000000:=by simp[aF,d0,ck]at h;rw[ak,U,[aN,[ie],20],by simp[cy,[dJ]],J,[b7,[ie],x<=10000000],λx L=>by rw[M,y,q,rfl,b0.mp L];have:=jQ (h.2 y q);simp[b_,dy]at this;omega,key,∀G,([b7,G,x<=10000000])->aH G<=[go]*10000000,λG=>by induction G with|nil=>simp[aH]|cons a r m=>intro hh;rw[ai,u,hh a (by simp),e,aH (a::r)=a+aH r,by rfl];grind];grind
def ahh(h:[dF])(n:Int)(l:[h])(k:Nat):[e3,133,[[dm]],[[dM,D.int]],.shares n l]:=by rw[[bN]];rw[V,f,DD n (k+9) [d0],c,agH l [nx] [d0]];rw[au,seval,Ll,f,dD];rw[aJ,[qZ,dy]=ae];{rw[ad,seval,q,c];rw[D,U,[wY]=ae];{simp[U];rw[D,a,aH [ie]=0];{simp[a];rw[bo,8]};{rw[R,H,w2,WF U];have q:=jQ q;simp[b_,dy]at q;have d:=zK [fu] _ [g] [g] w2 [rq] [d0];rw[<-oK [db],AR (iq _ _)]at d;simp[seval,a,d];refine bj.ok ?_ Y h;(have B:[Q,iq [fu] [ie]]=[Q,[ie]]:=by simp[iq,aw a,aR,gY]);simp[uw,aR];omega}};{have W:[wY]=af:=[f];simp[W];rw[bo,1]}};{rw[b6,q,1]}
def Zw(h:[dF])(r C n d:Int)(k:Nat):[e3,134,[[l,r],[l,C],[dm],[l,d]],[],.round_ r C n d]:=by rw[[bN]];have e:=λn lo j=>re n lo j [rq] [d0];rw[bg,Rj,e,dD];rw[D,m,b3 r 0 9=ae];{simp[seval,e,m];rw[D,u,b3 C 1 10000=ae];{simp[u];rw[aJ,b3 n 0 1000000000000=ae];{simp[seval,e,q];rw[D,z,b3 d 1 1000000=ae];{simp[seval,z];rw[V,m,jQ m,u,jQ u];rw[V,q,jQ q,z,jQ z];have f:run _ _ _ [d5,.tup _,[fu],d.toNat] [d0]=_:=wY (aa {rule:=r.toNat,unit:=C.toNat}) #[by simp[li,nJ];omega,by rw[aa,li,nJ];omega,by simp[li,nJ];omega] _ _ [g] [g] [g] (k+9) _;rw[<-oK m.1,<-oK [f],<-oK [db],<-oK [f]]at f;simp[f];rw[b5,h]};{rw[b6,z,1]}};{simp[seval,e,jP q];rw[bo,1]}};{rw[b6,u,1]}};{rw[b6,m,1]}
def ZW(J:[aO])(q:[gR])(W:[EO])(z:[mA])(g:Nat)(O:[z6]):netsOf b ts g=[A,[mo,g]<[mo,g+1],aa ([mo,g],[mo,g+1]-[mo,g]),ag]:=by rw[ak,U,e_=20000000,rfl,m,sS b _ g e_ (e9 b _ g 30 0 e_),[BV,J,q,W,z],u,sS b _ _ e_ (e9 b _ (g+1) _ 0 e_),[BI,J,q,W,z]];simp[netsOf];rw[bj,e9 b _ g _ 0 _,lo];rw[bj,e9 b ts _ _ 0 _,e];rw[D,h,lo<e];{rw[V,L,m.2.2 ([aM,u.1]),a,u.2.1 _ h];grind};grind
def ag_(J:[aO])(q:[gR])(W:[EO])(z:[mA])(g:Nat)(L:[z6]):[mo,g]<=[mo,g+1]:=by rw[ak,U,e_=20000000,rfl,m,sS b _ g e_ (e9 b _ g _ 0 e_),[BI,J,q,W,z],u,sS b _ _ e_ (e9 b _ (g+1) 30 0 e_),[BV,J,q,W,z]];rw[bj,e9 b _ (g+1) _ 0 _,e];apply CH;intro O;rw[V,h,m.2.1 e [g],a,u.2.2 ([aM,m.1])];omega
def ae4(h:[dF])(i g:Int)(k:Nat):[e3,135,[p_,g],[],.nets i g]:=by rw[[bN]];have f:=DD g (k+9) [d0];rw[au,seval,N6,f,dD];rw[D,e,b3 g 0 (b_ dy)=ae];{rw[ab,e];cases h with|no=>rw[bD]|@yes b nm st B=>have c:[z',94,[ti]]:=VO B.wf i (k+9) _;rw[az,seval,jr,CO,nU,c];rw[D,j,[rt]];{rw[ab,j];rw[D,hh,[k1].taxes.any (λt=>[mw])=ae];{rw[ab,hh];rw[bo,6]};{rw[V,L,ya j,e,jQ e];rw[aP,b_,dy,e];have q:=Ts.of b [k1].taxes;rw[ak,z,cY _ _=[Dq],uV,W,[ez,cY [cC] _,[jL]=af],λt a=>by have u:=[bo,vS.mp a];apply CH;intro O;exact hh (CC.mpr #[t,u,[gp,cR,O]]),d,[z',112,[dc,cI _,[l,g.toNat]]],Ws B.wf B.se L W _ [g] [gW] _];have J:=ag_ B.wf q W z g.toNat [g];rw[ZW B.wf q W z _ [g]];rw[bj,e9 b _ _ 30 0 e_,lo];rw[bj,e9 b _ _ 30 0 e_,C];rw[aQ,oK e.1,d];rw[ad,seval,hh,d];rw[D,U,lo<C];{have m:[bE,C-[am,lo],0]:=[f];rw[ad,seval,m,U];refine bj.ok (by simp) ?_ [jt];rw[hT,b_]};{have m:[cB,[am,C]-lo,0]:=[f];rw[ad,seval,m,U];rw[bo,7]}}};{rw[ab,jP j];rw[bo,3]}};{rw[ab,jP e];rw[bo,1]}
def Mu:∀(L:[h]),([e_,L.map (·.1)])->L=[cl,L.map (·.1),t,(t,gl L t)]|[],_=>rfl|[e1],h=>by rw[aP,bT,mv,h];rw[a4,m,Mu r [cU],e,gl [e1] [H]=[X],by have O:r.filter (λg=>[g5]==[H])=[]:=[a_,Cv];simp[gl,ub,ux,O];rfl,z,[ez,r.map (·.1),gl [e1] t=gl r t],λt q=>by have:[bE,[H],t]:=[f];rw[gt,gl,ub,this]];rw[bT,bT,e];rw[bA];(conv=>lhs;rw[m]);rw[ba,iL,t,q];rw[z t q]
def ag8(h:[gR])(x:[mA])(m:ts.Nodup)(a:Nat):[n5].flatMap (λy=>[b_ [b4],b_ y.2])=ts.flatMap λt=>[b_ t,b_ [qX]]:=by rw[aA,q,[lO,[n5]]=ts,by rw[ra h x,ou,nK],e,Mu [n5] [f]];rw[q]at e;conv=>lhs;rw[e,SS]
def MF(Z:bL)(S:aj)(j q u z B I:Slot)(a:D)(F:[h])(g:Nat->Nat):∀(l:[aj])(N:[ak])(f:Slot),([ez,l,bK F [lV]=aa (nD (g t))])->[et]+2*[E]<=100000->∃m,cW [oF,Z,[HU]] [8] [no] [j,q,u,z,B,I,[bk,[bi,a,[cc,F]]],[ki],f] S=[dK,[j,q,u,z,B,I,[bk,[bi,a,[cc,F]]],[iX,l.flatMap λ(t:Nat)=>[[cz,t],[cz,g t]]],m]]|[],N,f,_,h=>#[f,by simp[cW,M.pure]]|t::r,N,f,G,h=>by rw[aH,b7,h];rw[bF,m,W,MF Z S j q u z B I a F g r (N++[[cz,t],[cz,g t]]) [ay,t] (λx L=>G x [oZ]) [f],#[m,?_]];have U:[et]+2<=lim:=[fs];rw[ai,O,G t (by simp),J,[nU,eC [cc,F] [lV] T],λT=>by show bD _ T=_;rw[a8,O]];rw[bT,iY];rw[au,seval,nD,J,U];grind
def W1(h:[dF])(i a:Int)(k:Nat):[e3,136,[p_,a],[],.parts i a]:=by rw[[bN]];have f:=DD a (k+9) [d0];rw[au,seval,Mh,f,dD];rw[D,u,b3 a 0 (b_ dy)=ae];{rw[ab,u];cases h with|no=>rw[bD]|@yes b nm st B=>have e:[z',93,[ti]]:=xJ i [rq] _;rw[az,seval,jr,CO,nU,e];rw[D,j,[rt]];{rw[V,L,ya j,u,jQ u];rw[aP,b_,dy,u];obtain⟨_,W,d⟩:=B.wf.item _ L;rw[V,g,BU W d,q,Ts.of b [k1].taxes];rw[K,z,cY _ _=[Dq],uV,P,[z',75,[dc,cI _,[bK]]],O5 B.wf B.se L a.toNat [g] (k+7) _];rw[M,F,U,C,D7 B.wf B.se (nm:=nm) q a.toNat [g] [nx] [gl]];rw[V,H,q.len B.wf,bU,q.nd];rw[<-oK u.1]at U P;rw[aI,f6,[nU,fl (cI [k1]) 6 T],[oJ],g,f6];rw[ab,ag8 q z bU];rw[bj,cY _ _,ts];rw[R,m,N,MF [gc,11] [gl] [c6,0] [bk,[ax,[p_,a]]] [bk,[bF]] [ay,a] [cn] [bk,cI [k1]] [l,g7 b ts a.toNat] F _ ts [nG,g7 b ts a.toNat,iv b ts a.toNat] [V] (λt O=>[aU,C t,DI q z _ _ O]) [f]];rw[bY,j,f6,U,P,N];refine [yA];{rw[cd,ym (λt=>[b_ t,b_ (gl (gI b ts a.toNat) t)]) 2 ts (by simp)]};{rw[aa,bT,SU];rfl}};{rw[ab,jP j];rw[bo,3]}};{rw[ab,jP u];rw[bo,1]}
def agG(h:[dF])(p:Int)(q:[a0])(rows:[h])(J:CP [sg]=ae)(k:Nat):bj [cW,12,122+p.toNat,[[m,0],[W,q.map D.int],[W,rows.map [ui]]],[d0]] s v (pa s [sg]):=by
 have j:∀l,aiN l=ae->[E]<=2000:=λl U=>by rw[ap,aiN,U];grind
 rw[am,CP,J];split at J<;>rename_i u<;>try rfl
 {rw[bz,af0 h _ k]};{rw[bz,XG h _ k]};{rw[bz,ZM h k]};{rw[bz,Zp h k]};{rw[bz,adR h _ _ k]};{rw[bz,adQ h _ _ k]};{rw[dq,aaj h _ _ [z1] k]};{rw[dq,afM h _ _ [z1] k]};{rw[dq,aeu h _ _ [z1] k]};{rw[bz,YJ h _ k]};{rw[bz,aeh h _ k]};{rw[bz,ahh h _ _ k]};{rw[bz,Zw h _ _ _ _ k]};{rw[bz,ae4 h _ _ k]};{rw[bz,W1 h _ _ k]};{rw[bz,Zn h _ k]};{rw[bz,abW h k]};{rw[bz,Zs h _ _ k]};{rw[dq,WM h _ _ [z1] k]};{rw[bz,acm h _ k]};grind
def Aq(h:fa p=aa (n,k)):p=p.toNat/\p.toNat<20/\bK LZ [l,p]=aa (.b6 [d5,.fn (122+p.toNat),n,k])/\(∀G,(cf G).ar (122+p.toNat)=3)/\n<=4/\k<=2:=by rw[D,h0,p=0];rw[cH,h0,[iF,0,1],m,p=1,[iF,1,1],u,p=2,[iF,2,0]];rw[D,d,p=3];rw[cH,d,[iF,3,0],a,p=4,[vM,4],U,p=5,[vM,5]];rw[D,f,p=6];rw[cH,f,[iF,6,2],P,p=7,[iF,7,2],B,p=8,[iF,8,2]];rw[D,g,p=9];rw[cH,g,[iF,9,1],Z,p=10,[iF,10,1],O,p=11,fa 11=aa (1,1)];rw[D,j,p=12];rw[cH,j,fa 12=aa (4,0),z,p=13,[vM,13],J,p=14,[vM,14]];rw[D,L,p=15];rw[cH,L,[iF,15,1],N,p=16,[iF,16,0],T,p=17,[vM,17]];rw[D,W,p=18];{rw[dN,W,[iF,18,2]];rw[aG,rfl,rfl,h,[BQ]]};rw[aJ,p=19];{rw[dN,q,[iF,19,1]];rw[aG,rfl,rfl,h,[BQ]]};exfalso;rw[fn,fa]
def apm(l:[h])(i:Int)(S:aj):[zA,[jE],[aP]]:=(rfl)
def VQ(h:fa p=aa (n,k))(G:Nat)(S:aj):run prog (G+1) 142 [[l,p]] S=[bQ,n]:=by rw[aV G _ Y Y Y];simp[seval,K4,[cP,Aq h]]
def ZL(h:fa p=aa (n,k))(G:Nat)(S:aj):run prog (G+1) 143 [[l,p]] S=[bQ,k]:=by rw[aV G _ Y Y Y];simp[seval,P8,[cP,Aq h]]
def L6:[fV]:=[FY]
def V8:Pg=[Gt,L6]:=rfl
def UK(Z:bL)(e:Env)(S:aj)(c:Nat)(m:1<=c)(u:c<=8)(B:[ak]):pI Z L6 (4+c) B e S=[iw,[ax,[[l,-c]]]]:=by have:c=1\/c=2\/c=3\/c=4\/c=5\/c=6\/c=7\/c=8:=[g];rcases this with rfl|rfl|rfl|rfl|rfl|rfl|rfl|rfl<;>rfl
def ZF(h:[dF])(i:fa p=aa (n,j))(l:CP [sg]=ae)(k:Nat):∃x,[cW,13,144,[[m,0],[l,p],[W,q.map D.int],[W,rows.map [ui]]],[d0]]=[bc,[dv,[rv,[sg]],D.int],bw x]/\Rel [M,pa s [sg]] x/\[aN,[rv,[sg]],250001]:=by rw[[bN]];have O:=agG h p _ _ l k;obtain⟨m,F,C,I,_,_⟩:=Aq i;rw[au,seval,V8,C,I];rcases O with⟨a,x,J,d,L,u⟩|⟨e,B,J,d,L,u⟩;{rw[ae,U,1+[bV]<=lim,[fs],#[x,?_,u,[f]]];rw[eU,L,aR,U,J]};{refine#[v,?_,[f],[f]];simp[seval,u,J];rw[a8,UK _ _ _ _ d L]}
def KN(l:[ak])(a c:Nat)(m:a<=c)(u:c<=[E])(S:aj):gu (.dX l) (aa a) (aa c) S=[Z,[W,[ed,a].take (c-a)]]:=by have e:∀n,n<=[E]->clip [E] n=n:=λn q=>[b0,clip];show R.ok [ic,cut l (clip _ a) (clip _ c)] S=_;rw[e a [g],e c u,cut]
def DG:[fV]:=[Gi]
def aaI:RI=[LS,DG]:=rfl
def GI{l:[a0]}(h:[ed,q]=n::r):[aQ,l,q,n]/\[ed,q+1]=r/\q+1+[gm]=[E]:=by have U:=jK mu h;simp[rW,b7]at U;rw[aI,z,q<[E],[g],mE z,h];grind
def OX{l:[h]}{q:Nat}(h:[aQ,l,q,n]):at_ [oB] q=aa [dm]:=by rw[pA,dR,h];rfl
def LW(k:Nat)(l:[a0])(G:D)(S:aj):∀(j:Nat)(q:Nat)(N:[ak])(is:[aj])(u x:Slot)(a:List [a0])(t:[a0]),CQ j [ed,q]=aa (a,t)->is.length=j->[et]+j<=100->q<=[E]->∃z I F,cW [fh,1,DG] [4] (is.map [sR,i,i]) [[ty],[ay,q],[b_,G],[ki],u,x] S=[dK,[[ty],[ay,[bb,z]],[b_,G],[iX,[f4,[ui]]],I,F]]/\[ed,z]=t/\z<=[E]/\z=q+[f4,λr=>1+[gm]].sum|0,q,N,is,u,x,a,t,h,m,d,W=>by rw[R,rfl,rfl,h];have:=uf.mp m;rw[bf,this,#[q,u,x,by simp[cW,M.pure],Y,W,by simp]]|[cT],q,N,is,u,x,a,t,h,m,d,W=>by cases is with|nil=>simp at m|cons i is=>rw[ap,CQ,h];cases hd:[ed,q]with|nil=>rw[fo,hd,h,S9]|cons n r=>rw[hd]at h;rw[M,p,g2,Q,GI hd];rw[D,O,0<=n/\[fu]<=[gm]];{rw[aP,S9,aJ O,h];cases J:CQ j (r.drop [fu])with|none=>grind|some y=>rw[R,s,C,y];rw[J]at h;rw[aP,cX,gO,h];rw[R,rfl,rfl,h];rw[aA,U,[ed,q+1+[fu]]=r.drop [fu],by rw[<-y6,g2],H,OX p];rw[K,hN,q+1+n=[bb,q+1+[fu]],[g],L,[am,q]+1=[bb,q+1],[g]];rw[K,B,[JO,[fu]],[I9,[fu]],g,[et]<lim,[ej]];obtain⟨z,I,F,f,P,Z,A⟩:=LW k l G S j (q+1+[fu]) (N++[[b6]]) is [ay,i] _ s C [q,U,J] ([aD,m]) ([bC]) [g];refine#[z,I,F,?_,P,Z,?_];{rw[bT,iY];rw[au,seval,DG,H,hN];rw[ad,L,B,g];rw[Y,show N++(D.lst _::s.map _)=(N++[[ic,[S,r.take [fu],D.int]]])++s.map λr=>[ic,r.map D.int]by simp,f]};grind};{rw[aP,S9,aw O,h];grind}
def Uz{l:[h]}(h:CQ j [ed,q]=aa (G,t))(J:j<=50)(z:q<=[E])(k:Nat)(S:aj):[cM,2,145,[d5,[rP],q,j],[W,[f5,[ui]]]]/\[ed,q+[xN]]=t/\q+[xN]<=[E]:=by obtain⟨O,I,F,m,u,e,L⟩:=LW k l [c0] S j q [] (br j) [V] [V] _ t h (by simp) [f] z;refine#[?_,[f],[f]];rw[[bN]];rw[bg,aaI,vb j _ [g],m]
def Y2(c:[h]):S_ c=c:=by unfold S_;rw[bw]
def wL:[fV]:=[Fz]
def aaS:zL=[GK,wL]:=rfl
def ae6(G:List [a0]):[f5,λr=>1+[am,r.length]].sum=[bb,[xN]]:=by induction G with|nil=>rfl|cons x r q=>grind
def acN{l:[a0]}(hd:[ed,q]=[e1])(O:Ta fa [e1]=aa (c,t))(Q:CP c=ae)(h:[dF])(N:[ak])(vV:[et]<=16000000)(k:Nat)(s4 s5 Z s7 s8 H:Slot):∃W J I F d u m i,bh [gc,13] wL [[ty],[c6,0],[ki],[ay,q],s4,s5,Z,s7,s8,H] [d0]=[dz,[[ty],[c6,0],[iX,[l,[Q,[rv,c]]]::[S,[rv,c],D.int]],[ay,[bb,W]],I,F,d,u,m,i],bw J]/\Rel [M,pa s c] J/\[aN,[rv,c],250001]/\[ed,W]=t/\W<=[E]:=by rw[ap,Ta,O];cases x:fa p with|none=>grind|some y=>rw[R,n,j,y];rw[x]at O;rw[br,dQ,[gm]<n];{rw[ap,aw dQ,O];cases P:CQ j (r.drop n)with|none=>grind|some z=>rw[R,G,C,z];rw[P]at O;rw[aP,cX,gO,O];rw[R,rfl,rfl,O];rw[M,g1,g2,g3,GI hd];rw[an,t1,t2,t3,I,tn,a,Aq x];rw[aA,U,[ed,q+1+n]=r.drop n,by rw[<-y6,g2],oZ,OX g1];rw[M,E,e2,S,Uz [q,U,P] [g] [g] (k+11) [d0]];rw[V,e,VQ x (k+12) [d0],f,ZL x (k+12) [d0]];rw[ag,J,g,A,gF,ZF h x Q k];rw[ak,hN,q+1+n=[cO,q+1+n],[g],L,[am,q]+1=[bb,q+1],[g],B,[JO,n],[I9,n]];rw[a4,w,E,o,[et]<lim,[ej],b,[et]+1+[Q,[rv,(p::r.take n)::G]]<=lim,[ej]];rw[bq,q+1+n+[xN],J];rw[bj,pa s _,X];refine#[[ay,p],[ay,q+1+n],[lq,r.take n,D.int],[fG,[f5,[ui]]],[lq,X.2,D.int],H,?_,A,gF,e2,S];{rw[ab,wL];rw[au,seval,oZ,e,hN];simp only[seval,L,B,f,w,g,aR,o,cO,b];rw[dG _ (λr=>[cz,1+[gm]]) G (λr _=>[aa,seval,aR])];rw[ep];rw[aU,ae6,en]}}
def XS(l:[h])(k:Nat):∀(f:Nat)(q:Nat)(a:[h])(fuel:Nat)(s:CN)(v:D)(N:[ak])(P Q Z W S T:Slot),wd fa f [ed,q]=aa a->(∀c∈a,CP c=ae)->([dF])->[et]+[bV]*250002<=16000000->[bV]<fuel->q<=[E]->[FC]:=by(have done:∀(q:Nat)(a:[h])(fuel:Nat)(s:CN)(v:D)(N:[ak])(P Q Z W S T:Slot),[ed,q]=[]->q<=[E]->a=[]->0<fuel->[FC]:=by intro q a fuel s v N P Q Z W S T hd b X hf;subst X;rw[ce,n,fuel=[aw],[pt]];have U:=jK mu hd;rw[aP,rW,gK,U];rw[ae,dQ,¬([am,q]<[E]),[g],#[[ay,q],v,P,Q,Z,W,S,T,?_]];rw[oi _ af ([au,seval,aR,dQ,j8])];simp[IG,IH]);intro f;induction f with|zero=>(intro q a fuel s v N P Q Z W S T O ha hr U hf b;cases hd:[ed,q]with|nil=>rw[hd]at O;rw[aP,wd,cX,O];exact done q a _ s v _ P Q Z W S _ hd b O.symm [g]|cons p r=>rw[fo,hd,O,wd])|succ f ih=>intro q a fuel s v N P Q Z W S T O ha hr U hf b;cases hd:[ed,q]with|nil=>rw[hd]at O;rw[aP,wd,cX,O];exact done q a fuel s v _ _ _ _ W S _ hd b O.symm [g]|cons p r=>rw[hd]at O;rw[ap,wd,O];cases h:Ta _ _ with|none=>rw[eM,h,O]|some y=>rw[R,c,t,y];rw[bE,h,O];cases X:wd _ f t with|none=>rw[eM,X,O]|some ds=>rw[cD,X,O,cX];rw[ce,n,fuel=[aw],[pt]];simp only[b7]at U hf;rw[M,g1,g2,g3,GI hd];have dQ:(q<[am,l.length]):=[g];obtain⟨q',E,I,F,d,u,m,i,hs,hR,A,J,z⟩:=acN hd h (ha c (by simp)) hr N [g] k P Q Z W S T;obtain⟨w,j,B,C,o,G,g,H,hL⟩:=ih q' ds fuel _ _ (N++[bK]::[fO,[rv,c]]) _ _ _ _ m i [q,J,X] (λx L=>ha x [oZ]) hR (by rw[ad,cO,b7,aR];omega) [g] z;refine#[w,j,B,C,o,G,g,H,?_];rw[oi _ ae ([au,seval,aR,dQ,iK]),aJ Y];rw[aa,hs,fC];rw[hL];rw[aY,IH,IG,ir,de,bT,Tc,en]
def aal(k:Nat):newD [kk] 14 [] []=[bc,[m,0],bw [aX]]:=rfl
def akU(l:[h])(h:II l=ae)(k:Nat):∃S,[cW,14,146,[[rP]],[]]=[Z,[dv,Td l,D.int]]:=by rw[[bN]];rw[am,II,h];unfold Td;unfold PyVbmoad.calls at h|-;cases O:wd _ _ l with|none=>grind|some a=>rw[O]at h;(have W:[f4,S_]=a:=by(conv=>rhs;rw[<-v5 a]);apply iL;intro c _;exact Y2 c);simp[W,aF]at h|-;rw[V,U,[gp,PyFlat.atMost,[dJ]],g,by have:=[cU];simp[aqg,aF,ck]at this;exact [m']];have s:=aal (k+12);obtain⟨e,x,I,F,d,u,m,i,z⟩:=XS l k [E] 0 _ 20000 _ _ [] _ _ _ _ _ _ [f] g .no [f] [g] [g];rw[ae,q,[gc,13].fuel=20000,rfl,#[bw x,?_]];simp[seval,aaS,s];rw[aH,Iy,z];rw[a8,z]
end Ir
namespace L2
open PySem PySem.Spec PyProof.Rows
def qg:dF->aq->Bool|[J,k],v=>Te k v|[aC,x],v=>Tf x v
def qi:∀{k}{v},qg k v=ae->(∃i t,k=CS i/\v=pb i t)\/(∃x t,k=CT x/\v=CU x t)|[J,i],v,h=>[iQ,t,e,Value.isInt_shape h]|[aC,x],v,h=>[iQ,t,e,Value.isStrOf_shape h]
def agj(i:Int)(t:iz):qg [J,i] [sl]=ae:=by simp[qg,Te]
def adB(x:au)(t:iz):qg [aC,x] (.str x t)=ae:=by simp[qg,Tf]
def afr(a b:Int):ao ((CS a:dF)=CS b)=(a==b):=[f]
def Vd(a b:au):ao ((CT a:dF)=CT b)=ao (a=b):=by simp
def ab_(a:Int)(b:au):ao (CS a=CT b)=af:=nV (by simp)
def WV(a:au)(b:Int):ao (CT a=CS b)=af:=nV (by simp)
def gB (prog : cP) (w : cz) : PySem.KeyKind prog w dF where
  is := qg
  hash := Bj w
  inj := fun v a b L J => by
    rcases qi L with ⟨i, t, rfl, rfl⟩ | ⟨x, t, rfl, rfl⟩
    · rcases qi J with ⟨j, u, rfl, e⟩ | ⟨y, u, rfl, e⟩
      · injection e with z _; rw [z]
      · exact nomatch e
    · rcases qi J with ⟨j, u, rfl, e⟩ | ⟨y, u, rfl, e⟩
      · exact nomatch e
      · injection e with z _; rw [z]
  byValue := fun k v h => by
    rcases qi h with ⟨i, t, rfl, rfl⟩ | ⟨x, t, rfl, rfl⟩ <;> rfl
  pyHash := fun q h => by
    rcases qi q with ⟨i, t, rfl, rfl⟩ | ⟨x, t, rfl, rfl⟩
    · exact wpAny_pyHash_int h
    · exact wpAny_pyHash_str h
  eqBool := fun hu q h => by
    rcases qi hu with ⟨i, t, rfl, rfl⟩ | ⟨x, t, rfl, rfl⟩
    · rcases qi q with ⟨j, u, rfl, rfl⟩ | ⟨y, u, rfl, rfl⟩
      · rw [afr] at h; exact wpAny_eqBool_int h
      · rw [ab_] at h; exact aiO i t y u _ _ _ _ h
    · rcases qi q with ⟨j, u, rfl, rfl⟩ | ⟨y, u, rfl, rfl⟩
      · rw [WV] at h; exact aiP x t j u _ _ _ _ h
      · rw [Vd] at h; exact wpAny_eqBool_str h
  «strs» := fun k x t v h => by
    rcases qi h with ⟨i, u, rfl, e⟩ | ⟨y, u, rfl, e⟩
    · exact nomatch e
    · injection e with z _
      subst z
      cases v <;> rfl
def aca(prog:cP)(w:cz)(i:Int)(t:iz):(gB prog w).is [J,i] [sl]=ae:=agj i t
def WZ(prog:cP)(w:cz)(x:au)(t:iz):(gB prog w).is [aC,x] (.str x t)=ae:=adB x t
inductive V where|a0|bl(b:Bool)|int(i:Int)|str(x:au)|ls(b:Array UInt8)|yr(b:UInt64)|ref(a:ai)|ty(n:String)deriving DecidableEq
def bC:V->aq->[P]|[aX],u=>u=qD|[jR],u=>u=r9 b|[aP],u=>∃t,u=pb i t|[L,x],u=>∃t,u=CU x t|.ls b,u=>∃t,u=Tg b t|.yr b,u=>∃t,u=Th b t|[aL],u=>u=da a|.ty n,u=>u=uy n
abbrev bq:([cQ])->([dV])->[P]:=we bC
def bq.length(r:[iI]):[cE]=us.length:=IJ r
def bq.get:∀{xs}{us}{i:Nat}{x},([iI])->([cS,xs])->∃u,[aY,us,u]/\bC x u|_,_,_,_,[aA],e=>by simp at e|_,_,0,_,.cons r _,e=>[f]|_,_,[Y],x,.cons _ t,e=>by rw[M,u,h1,h2,bq.get (i:=i) (x:=x) t [f]];rw[a']
def bq.set(r:bC x u):∀{xs}{us}(i:Nat),([iI])->bq (xs.set i x) (us.set i u)|_,_,_,[aA]=>[aA]|_,_,0,.cons _ t=>[oz]|_,_,[Y],.cons q t=>.cons q (bq.set r i t)
def bq.append:∀{xs ys}{us ws},([iI])->bq ys ws->bq (xs++ys) (us++ws)|_,_,_,_,[aA],s=>s|_,_,_,_,[oz],s=>.cons r (bq.append t s)
def bq.take:∀{xs}{us}(n:Nat),([iI])->bq (xs.take n) (us.take n)|_,_,0,_=>[aA]|_,_,_+1,[aA]=>[aA]|_,_,[aw],[oz]=>.cons r (bq.take n t)
def bq.drop:∀{xs}{us}(n:Nat),([iI])->bq (xs.drop n) (us.drop n)|_,_,0,r=>r|_,_,_+1,[aA]=>[aA]|_,_,[aw],.cons _ t=>bq.drop n t
def KV{κ:[aI]}:([we])->([f9,κ,aq])->[P]:=we λ(p:κ×V)(q:κ×aq)=>[H]=[db]/\bC [X] q.2
def kV:dF->V|[J,i]=>[aP]|[aC,x]=>[L,x]
inductive HO where|lst(xs:[cQ])|tup(xs:[cQ])|dK(kvs:[f9,dF,V])|dT(kvs:[vD])|set(S:Int->Bool)(n:Nat)|aX(C dx:ai)(fs:[fw,V])|own(x:ai)|xd(fs:[fw,V])|met(f x:ai)|nh(lo hi:Int)|cb(o:bn)(u:HO)|fM(ps:[lw])|ext(φ:bP->[P])
abbrev Hp:=ai->[be,HO]
def upd(H:Hp)(a:ai)(o:HO):Hp:=λb=>[fd,b,a,o,H b]
def bW:upd H a o a=[a9]:=[b8,upd]
def aW(h:b≠a):upd H a o b=H b:=[b8,upd]
def acT:upd [f3,o] a u=[f3,u]:=[b8,upd]
def ahg{H:Hp}(h:[jQ])(h':H b=aa u)(d:o≠u):a≠b:=[f]
def iH{H:Hp}(h:[jQ])(h':[fx]):a≠b:=[f]
section
variable(P:cP)(w:cz)
def c7(H:Hp)(h:bP)(a:ai):HO->[P]|[ax,xs]=>[q2]/\∃(az:[dV])(n:Nat),bq xs az/\[dd,a,[pU]]|[bs,xs]=>[q2]/\∃az:[dV],bq xs az/\wg h a [hb]|[mS]=>[CE]|[oK]=>[li]<=bS/\[wd]/\∃xs:[f9,[iE],ai×aq],we (λ(p:[iE]×V)(q:[iE]×ai×aq)=>[HT]) kvs xs/\∃o es ep,[rb]/\o.ExactDict/\[yf]/\es.toList=xs.map (entryOfKey (zb [m7]))/\[e_,xs.map (·.1)]|[cD,S,n]=>h.SetOf (intKind P w) a S n|.aX C dx fs=>H dx=aa [bl,a]/\[tr]<=1000/\dx≠a/\[dd,a,zc C dx]/\∃mA,[s2]/\[CH]/\IK mA [zt]|[pc]=>∃o,[rb]|.xd fs=>∃mA,h.Ns1 a mA/\[CH]|.nh lo hi=>∃t u v,[dd,a,[pW,"range",[JX]]]|.cb o u=>[rb]/\c7 H h a u|.fM ps=>[dd,a,{cls:=[aZ],data:=.fields ps}]|.met f x=>[dd,a,PySem.W.methodObj [hx] [eA]]|.ext j=>j h/\(∃o,[rb])/\∀h1 h2:bP,j h1->(∀o,h1.get? a=[a9]->h2.get? a=[a9])->j h2
def cV(H:Hp)(h:bP):[P]:=∀a o,([jQ])->[tb,o]
end
section
variable{P:cP}{w:cz}{H H':Hp}{h h':bP}{a:ai}{o:HO}
def c7.lt(x:[tb,o]):a<[c7]:=by cases o with|lst xs=>rw[dV];exact [ee]|tup xs=>obtain⟨_,_,_,p⟩:=x;exact p.lt|dK kvs=>rw[cK];exact [ee]|dT kvs=>rw[cK];exact [ee]|set S n=>rw[dO];exact [ee]|aX C dx fs=>rw[dW];exact [ee]|own y=>obtain⟨_,e⟩:=x;exact [ee]|xd fs=>obtain⟨_,⟨_,_,_,e,_⟩,_⟩:=x;exact [ee]|nh lo hi=>obtain⟨_,_,_,e⟩:=x;exact [ee]|cb ob u=>obtain⟨e,_⟩:=x;exact [ee]|fM ps=>exact bF [x_]|met f y=>exact bF [x_]|ext j=>obtain⟨_,⟨_,e⟩,_⟩:=x;exact [ee]
def Paired.Et:∀{q:[h]}{B:[h]},we F q B->(∀a b,F a b->S a b)->we S q B|_,_,[aA],_=>[aA]|_,_,[oz],f=>.cons (f _ _ r) (Paired.Et t f)
def c7.jT(x:[tb,o])(k:∀b u,(b=a\/H b=aa [bl,a])->[qa])(J:∀b,H b=aa [bl,a]->H' b=aa [bl,a])(O:∀b xs,[Do,xs]):c7 P w H' h' a o:=by induction o with|lst xs=>rw[ac,z,az,n,r,e,x];exact#[z,az,n,r,[k6]]|tup xs=>rw[an,z,az,r,ob,e,c,x];exact#[z,az,r,ob,[k6],c]|dK kvs=>rw[fG,B,r]|dT kvs=>rw[fG,xs,Paired.Et r [f]]|set S n=>rw[an,ob,es,ep,t,e,c,x];exact#[ob,es,ep,t,[k6],c]|aX C dx fs=>obtain⟨d,z,ne,e,mA,⟨I,es,ep,L,c⟩,r⟩:=x;exact#[J _ d,z,ne,[k6],mA,#[I,es,ep,k _ _ [aC,d] L,c],r]|own y=>rw[aG,ob,e,x,#[ob,[k6]]]|xd fs=>obtain⟨mA,⟨I,es,ep,e,c⟩,r⟩:=x;exact#[mA,#[I,es,ep,[k6],c],r]|nh lo hi=>rw[dG,t,u,v,e,x,#[t,u,v,[k6]]]|cb ob u U=>rw[aG,e,q,x,#[[k6],U q]]|fM ps=>exact k a _ [fa] (x)|met f y=>exact k a _ [fa] (x)|ext j=>obtain⟨p,⟨o,e⟩,st⟩:=x;exact#[st _ _ p [f],#[o,[k6]],st]
def cV.lt(x:[iz])(e:[jQ]):a<[c7]:=(x a o e).lt
def cV.fresh(x:[iz])(e:[c7]<=a):[nw]:=by cases q:H a with|none=>rfl|some u=>exact [f',hc (x.lt q) e]
def cV.kept(x:[iz])(k:∀b u,[qa]):cV P w H h':=λa o e=>(x a o e).jT [f] (by simp) (by simp)
def cV.laid(x:[iz])(k:∀b u,[qa])(L:[c7]<=a)(new:c7 P w [f3,o] h' a o):cV P w [f3,o] h':=λb u e=>by have z:=x.fresh L;rw[eX,x b u e,xs]
end
def Rd(H:Hp)(a:ai)(u:HO):[P]:=[es,u]\/∃o,[es,.cb o u]
def Rd.ok(r:Rd H a u)(x:[iz]):[tb,u]:=by rw[bZ,r,r,o,r];{exact x a u r};{obtain⟨_,q⟩:=x a _ r;exact q}
def u':([be,HO])->[P]|aa [b6]=>True|aa (.dK _)=>True|aa (.dT _)=>True|aa (.set _ _)=>True|aa (.aX _ _ _)=>True|aa (.ext _)=>True|_=>False
section
variable{P:cP}{w:cz}{H:Hp}{h h':bP}{x e:ai}{o':HO}
def cV.write(ok:[iz])(U:u' (H x))(L:[Dm])(k:∀b u,b≠e->[qa])(j:[Ed])(new:c7 P w [cu,x,o'] h' x o'):cV P w [cu,x,o'] h':=λb u q=>by rw[K,n,∀c y,H c=aa [bl,y]->c≠x,λc y r z=>by rw[a2];rw[af,r,U,U],F,∀c xs,H c=[hJ,xs]->c≠x,λc xs r z=>by rw[a2];rw[af,r,U,U]];rw[D,J,b=x];{subst J;rw[df,bW,q,new]};{rw[aW J]at q;rw[D,B,b=e];{have G:H b=aa [bl,x]:=[f];rw[aq,q,G,G];rw[aG,v,I,j,#[v,[q,B,I]]]};{rw[gJ,(ok b u q).jT (λc v O r=>k c v ?_ r) (λc r=>[hh,n c b r,r]) λc xs r=>[hh,F c _ r,r]]}}
end
structure Un (fs ex : List ai) (H H' : Hp) (h h' : bP) : Prop where
 keep : ∀ b o, h.get? b = aa o → H b = ag → b ∉ fs → b ∉ ex → h'.get? b = aa o
 slot : ∀ b o, h.get? b = aa o → H b = ag → b ∈ fs → b ∉ ex → ∃ sl, h'.get? b = aa { o with slots := sl }
 free : ∀ b o, h.get? b = aa o → H b = ag → b ∉ ex → H' b = ag
 there : ∀ b o, h.get? b = aa o → b ∉ ex → ∃ o', h'.get? b = aa o'
 lP : ∀ b xs, H b = aa (.tup xs) → H' b = aa (.tup xs)
 lB : ∀ b o u, H b = aa (.cb o u) → H' b = aa (.cb o u)
 lR : ∀ b ps, H b = aa (.fM ps) → ∃ more, H' b = aa (.fM (ps ++ more))
section
variable{fs fs' ex ex':List ai}{H H1 H2:Hp}{h h1 h2 h':bP}{a x e:ai}{o:HO}
def Un.any(u:Un fs ex H H1 h h1)(q:[dd,b,ob])(n:[fx])(L:b∉ex):∃sl,h1.get? b=aa {ob with slots:=sl}:=by rw[D,J,b∈fs];rw[av,u.slot b _ q n J L,#[ob.slots,u.keep b _ q n J L]]
def Un.kept(k:∀b u,[qa]):Un fs ex H H h h':=#[λb ob q _ _ _=>k b _ q,λb ob q _ _ _=>#[ob.slots,k b _ q],λ_ _ _ n _=>n,λb ob q _=>#[ob,k b _ q],λ_ _ q=>q,λ_ _ _ q=>q,λ_ ps q=>#[[ca],[f]]]
def Un.refl:Un fs ex H H h h:=Un.kept (by simp)
def Un.laid(k:∀b u,[qa])(L:[c7]<=a)(z:[nw]):Un fs ex H [f3,o] h h' where
 keep:=λb u q _ _ _=>k b u q
 slot:=λb u q _ _ _=>#[u.slots,k b u q]
 free:=λb u q n _=>[hh,di (hc (bF q) L),n]
 there:=λb u q _=>#[u,k b u q]
 lP:=λb xs q=>[nh,q]
 lB:=λb u xs q=>[nh,q]
 lR:=[LM,[dw]]
def Un.write(U:u' (H x))(B:[Dm])(k:∀b u,b≠e->[qa])(j:[Ed]):Un fs ex H [cu,x,o] h h':=by rw[K,L,∀b,([fx])->b≠x,λb n z=>by rw[a2];rw[af,n,U,U],J,∀b,([fx])->b≠e,λb n z=>[f]];rw[ae,O,∀b u,H b=aa u->¬u' (aa u)->b≠x,λb u q nm z=>by rw[a2];grind,#[λb u q n _ _=>k b u (J b n) q,λb u q n _ _=>#[u.slots,k b u (J b n) q],λb u q n _=>[hh,L b n,n],λb u q _=>?_,λb xs q=>[hh,[Ek],q],λb u xs q=>[hh,[Ek],q],[LM,aW [Ek]]]];grind
end
def Mo(h:bP)(H:Hp):[ba]:=[ok,br [c7],a,[er,H a]]
def oq(h:bP)(H:Hp):bP:=PySem.W.hideAll h (Mo h H)
def acZ(h:bP)(H:Hp):[dg,oq h H]=[c7]:=PySem.W.hideAll_size _ _
def UX(e:[ks])(n:[fx]):[k_,oq h H]:=PySem.W.hideAll_get _ e λO=>[jK,q,[bo,nN.mp O]]
def agB(e:[k_,oq h H]):[ks]/\[fx]:=by rw[aZ,J,PySem.W.of_hideAll _ e,#[J,?_]];cases q:H b with|none=>rfl|some x=>rw[K,O,b∈Mo h H,nN.mpr #[i9.mpr (bF J),[f]],z,(oq h H).get? b=ag,PySem.W.hideAll_none _ O];grind
structure Mod (K : aQ) (mg : au → Option aq) (base : bP) : Prop where
 tj : K.In base
 fA : base.Ns iB mg
 blt : ∃ mb, base.Ns pc mb ∧ ∀ x : au, x ≠ "__name__" → mb x = hl x
 nolimit : base.NoLimit
structure Cx where
 prog : cP
 w : cz
 K : aQ
 mg : au → Option aq
 base : bP
 A : dc
 N : List au
 eD : aD
 sA : Hp
 env : jd
 outer : List jd
 stack : List jd
 ex : List ai
 fn : au → Bool
 cg : Bool
 pn : List (ai × bn)
 xe : aq → aD → Prop
def iQ(l:List jd):[ba]:=l.filterMap (·.frame)
abbrev Cx.fs(X:Cx):[ba]:=iQ X.outer
def gd(sc:fo)(x:au):[P]:=[n6,x]=[fj]\/[DO,[n6,x]]
def lq(sc:fo)(x:au):[P]:=[n6,x]=[fj]\/[n6,x]=[kc]
def Vq(env:jd)(h:bP)(m:[o8])(x:au)(u:aq):[P]:=([z2,x]/\m x=aa u)\/([DO,env.kindOf x]/\∃c,env.cells.lookup x=aa c/\h.IsCell c (aa u))
structure Cx.Ok (X : Cx) : Prop where
 mod : Mod X.K X.mg X.base
 kind : X.env.scope.kind = .function
 fA : X.env.globals = iB
 blt : X.env.builtins = pc
 above : X.eD.heap.objs.size ≤ X.env.locals
 inj : ∀ x y c, X.env.cells.lookup x = aa c → X.env.cells.lookup y = aa c → x = y
 has : ∀ x, (X.env.kindOf x = aa .cell ∨ X.env.kindOf x = aa .free) → ∃ c, X.env.cells.lookup x = aa c
 vv : ∀ x c, X.fn x = ae → X.env.cells.lookup x = aa c → X.eD.heap.objs.size ≤ c
 hd : X.cg = ae → X.A.handled = ag
 frames : X.A.frames = aa X.stack
 yj : X.stack = X.outer ∨ (X.stack = X.env :: X.outer ∧ X.env.frame = aa X.env.locals)
 sY : ∀ b ∈ X.ex, b ≠ X.env.locals ∧ ∀ x c, X.env.cells.lookup x = aa c → c ≠ b
 bs : ∀ b o, X.base.get? b = aa o → X.eD.heap.get? b = aa o ∧ X.sA b = ag
 lM : X.base.objs.size ≤ X.eD.heap.objs.size
 u0 : ∀ b o, X.base.get? b = aa o → b ∉ X.ex
 tL : ∀ b ∈ X.ex, b ∉ X.fs
 ko : X.eD.heap.FunFrames X.base X.outer
 qh : ∀ b ∈ X.fs, X.sA b = ag
structure ak (X : Cx) (pins : List (ai × bn)) (σ : List (Option V)) (H : Hp) (s : aD) : Prop where
 ok : X.Ok
 os : s.os = X.eD.os
 bare : uz s.gens
 base : Un X.fs X.ex X.sA H X.eD.heap s.heap
 loc : ∃ m, s.heap.Ns X.env.locals m ∧ ∀ (i : Nat) (x : au) (v : V), X.N[i]? = aa x → σ[i]? = aa (aa v) → gd X.env.scope x → ∃ u, bC v u ∧ Vq X.env s.heap m x u
 cell : ∀ x c, X.env.cells.lookup x = aa c → ∃ v, s.heap.IsCell c v
 free : H X.env.locals = ag
 ie : ∀ x c, X.env.cells.lookup x = aa c → H c = ag
 eH : ∀ p ∈ X.pn ++ pins, s.heap.get? p.1 = aa p.2 ∧ H p.1 = ag ∧ p.1 ≠ X.env.locals ∧ p.1 ∉ X.fs ∧ ∀ v, p.2.data ≠ .cell v
 aO : cV X.prog X.w H s.heap
 len : σ.length = X.N.length
section
variable{X:Cx}{pins:List (ai×bn)}{σ:List (Option V)}{H H':Hp}{s:aD}{h':bP}
def Cx.Ok.acB(ok:X.Ok)(e:[D0]):b∉X.fs:=λJ=>[cd,[M,ok.ko.mem J]]
def ak.bs(I:[ac]):[dh,[D0],[gk]/\[fx]]:=[dB,#[I.base.keep b o [M,[zK]] [bo,[zK]] (I.ok.acB e) (I.ok.u0 b o e),I.base.free b o [M,[zK]] [bo,[zK]] (I.ok.u0 b o e)]]
def ak.bk(I:[ac]):[dh,[D0],[gk]]:=[dB,[M,I.bs b o e]]
def ak.mod(I:[ac]):Mod X.K X.mg X.base:=I.ok.mod
def ak.dY(I:[ac]):X.K.In s.heap:=I.ok.mod.tj.keeps I.bk
def ak.nolimit(I:[ac]):s.heap.NoLimit:=I.ok.mod.nolimit.keeps I.bk
def ak.fr(I:[ac]):∃m,Fr X.base [gB] s.heap m:=let#[m,q,_]:=I.loc;#[m,q,I.bk,c9 I.ok.lM [oC]]
def ak.lt(I:[ac]):[gB]<[ar]:=let#[_,q,_]:=I.loc;q.lt
def ak.sz(I:[ac]):X.eD.heap.objs.size<=[ar]:=c9 [oC] (yQ I.lt)
def ak.XH(I:[ac]){a:ai}(h:[ar]<=a):a∉X.fs:=λJ=>by obtain⟨_,o,q,_⟩:=I.ok.ko.mem J;exact [f',hc (bF q) (c9 I.sz h)]
def ak.pW(I:[ac]):[up,[gB]]:=λx c e z=>by rw[ag,v,o,q,hd,[sS]];obtain⟨m,⟨o',es,ep,N,J,_⟩,_⟩:=I.loc;grind
def ak.ko(I:[ac]):[vx,X.base,X.outer]:=[bp,all,∀(l:[h]),([eu,iQ l,b∈X.fs])->X.eD.heap.FunFrames X.base l->[vx,X.base,l],by intro l;induction l with|nil=>intro _ _;trivial|cons env r Z=>intro q U;obtain⟨B,⟨L,o,O,G,j,hd⟩,N⟩:=U;have W:=q L ([b8,iQ]);rw[aG,sl,e,I.base.slot L o j (I.ok.qh L W) W λz=>I.ok.tL L z W,#[B,#[L,_,O,G,e,hd],Z (λb J=>q b (by unfold iQ;rw[a3,rO,O,lD _ J])) N]],all _ (by simp) I.ok.ko]
def ak.stack(I:[ac]):[vx,X.base,[gq]]:=by rw[bZ,I.ok.yj,e,e,O];{rw[Y,e,I.ko]};{rw[e];rw[a9,m,q,I.loc];rw[d8,.cons (by rw[I.ok.kind];rw[ah]) O q ?_ I.ko,IL (c9 I.ok.lM [oC])]}
def ak.Bv(I:[ac]):[eu,iQ [gq],b∈[gB]::X.fs]:=λb J=>by rw[bZ,I.ok.yj,e,e,q];rw[ay];{rw[e]at J;rw[am,iQ,J];rw[rO,q]at J;exact J}
def ak.Gn(I:[ac]):[eu,iQ [gq],[fx]]:=λb J=>by rw[aK,[c1,I.Bv b J],e,J];{rw[Y,e,I.free]};{obtain⟨_,o,q,_⟩:=I.ok.ko.mem J;exact I.base.free b o q (I.ok.qh b J) λz=>I.ok.tL b z J}
def ak.step{ch:[h]}(I:[ac])(j:[Da])(keep:[h3,[gB],b∉X.fs,([hu])->([gk])->([fx])->[ma,o]])(slot:[h3,[gB],b∈X.fs,([hu])->([gk])->([fx])->[B0]])(free:[dh,[hu],([gk])->([fx])->[iL]])(there:[dh,[hu],([gk])->∃o',[ma,o']])(lP:∀b xs,[Do,xs])(lB:∀b o u,H b=aa (.cb o u)->H' b=aa (.cb o u))(lR:∀b ps,H b=aa (.fM ps)->∃Hy,H' b=aa (.fM (ps++Hy)))(ns:∀m,s.heap.Ns [gB] m->h'.Ns [gB] m)(aO:[DC])(hg:uz W):[HL]:=by rw[K,S,[CI],[dB,di (hc [ee] [oC])],G,[dh,[r2]=[a9],b∉X.ex->[hu]],λb o e L J=>[d_,[M,j b J],z,z,L z,[f',hc [ee] z]]];rw[ae,Z,∀x c,([l6,x,c])->∀v,[KD],λx c e v#[o,ho,hd]=>by have B:=[K4];rw[D,O,c∈X.fs];{rw[aG,sl,q,slot c o (I.pW x c e) O B ho [z5],#[_,q,hd]]};{exact#[o,keep c o (I.pW x c e) O B ho [z5],hd]},#[I.ok,I.os,hg,#[[p'],[p'],λb o e n L=>?_,[u4],λb xs e=>lP b _ [Ea],λb o xs e=>lB b o _ (I.base.lB b o _ e),λb ps e=>?_],?_,[zH],?_,[zH],[vh],aO,I.len]];{exact keep b o [wl] J [Aa] [uy,n] [CB]};{rw[R,sl,e1,[uD,n]];rw[aG,N,e2,slot b _ [wl] J [Aa] e1 [CB],#[N,e2]]};{rw[aG,o',e1,[p4],free b _ [Aa] e1 [CB]]};{rw[aG,o',e1,[p4],there b _ [Aa] e1]};{rw[R,m1,e1,I.base.lR b _ e];rw[aG,F,e2,lR b _ e1,#[m1++F,by rw[e2,Array.append_assoc]]]};{rw[aL,m,hn,U,I.loc,#[m,ns m hn,λi x v e1 e2 e3=>?_]];rw[aL,u,r,l,U i x v e1 e2 e3,#[u,r,?_]];rcases l with l|⟨k,c,e,z⟩;rw[av,[J,l],[aC,#[k,c,e,Z x c e _ z]]]};{rw[aG,v,z,[sS],#[v,Z x c e v z]]};{obtain⟨m,⟨o,_,_,ho,_⟩,_⟩:=I.loc;exact free _ o [uR,j _ z] ho I.free};{rw[dG,v,o,ho,hd,[sS],free c o [K4] ho [z5]]};{rw[dQ];rw[bh,B,λz=>[aE,j _ z].2 p hp Y,#[keep _ _ ne nf B e n,free _ _ B e n,ne,nf,d]]}
def ak.un(I:[ac])(u:Un X.fs [] H H' s.heap h')(aO:[DC]):[j',H']:=by obtain⟨m,⟨o,es,ep,q,r⟩,_⟩:=id I.loc;rw[aG,sl,z,u.any q I.free (by simp),I.step (ch:=[]) (by simp) (λb o _ J _ e n=>u.keep b o e n J (by simp)) (λb o _ J _ e n=>u.slot b o e n J (by simp)) (λb o _ e n=>u.free b o e n (by simp)) (λb o _ e=>u.there b o e (by simp)) u.lP u.lB u.lR (λG O=>by rw[ac,o',S,U,N,j,O];rw[df,q,N,#[_,S,U,z,j]]) aO I.bare]
def ak.call(I:[ac])(u:Un (iQ [gq]) ch H H' s.heap h')(aO:[DC])(Z:uz W)(j:[Da]):[HL]:=by obtain⟨m,⟨o,es,ep,L,r⟩,_⟩:=id I.loc;rw[aG,sl,q,u.any L I.free [uR,j _ z],I.step j (λb o q J O e n=>u.keep b o e n (λz=>[c1,I.Bv b z].elim q J) O) (λb o _ _ O e n=>u.any e n O) (λb o O e n=>u.free b o e n O) (λb o O e=>u.there b o e O) u.lP u.lB u.lR (λF B=>by rw[ac,o',S,U,N,G,B];rw[df,L,N,#[_,S,U,q,G]]) aO Z]
def ak.turned(I:[ac])(k:[dh,b≠it,[l7,[iZ,b]]])(B:H it=ag)(W:it≠[gB])(h1:[A8,it])(h2:[up,it])(j:[x1,it]):[j',H]:=by refine I.step (ch:=[it]) [fI] (λb o _ _ O e _=>[Ho]) [BC,λz=>O (by simp[z])] (by simp) (λb o O e=>#[o,[Ho]]) (by simp) (by simp) (λb ps e=>#[[ca],[ey,e]]) (λm U=>?_) (λb u e=>?_) I.bare;{rw[cP,#[h1,W,h2,j]]};{rw[ac,o,es,ep,L,r,U];exact#[o,es,ep,k _ o (dt W) L,r]};{rw[gJ,[IB]]}
def ak.tok(I:[ac])(t:Nat):[c5,H,[tH,s,t]]:=I.un Un.refl I.aO
def ak.kept(I:[ac])(k:∀b u,[sH,u]):[j',H]:=I.un (Un.kept k) (I.aO.kept k)
def ak.laid{a:ai}(I:[ac])(k:∀b u,[sH,u])(q:[ar]<=a)(new:[k7,a,o,h',o]):[j',[f3,o]]:=I.un (Un.laid k q [j1,q]) (I.aO.laid k q new)
def ak.write(I:[ac])(U:u' (H x))(q:[Dm])(k:∀b u,b≠e->[sH,u])(j:[Ed])(new:[k7,x,o,h',o]):[j',[cu,x,o]]:=I.un (Un.write U q k j) (I.aO.write U q k j new)
def ak.weak(I:[ac])(U:[br]=[hk])(w:∀(i:Nat)v,([aY,B,[cV]])->[sL]):ak X pins B H s:=[vj,I.ok,I.base,let#[m,q,W]:=I.loc;#[m,q,λi x v z j L=>W i x v z (w i v j) L],I.cell,I.eH,I.aO,U.trans I.len]
def ak.KH(I:[ac])(h:[g1,j,[bH,[H],[X]]/\H [H]=ag/\[H]≠[gB]/\[H]∉X.fs/\∀v,[X].data≠.cell v]):ak X j σ H s:=[tP,I.ok,λp q=>(cs.mp q).elim (λz=>I.eH p (IM _ z)) (h p)]
def BS{N:[dE]}(hN:N.Nodup){i j:Nat}(a:[cS,N])(b:[cb,N,x]):i=j:=by rw[R,h1,z,dC.mp a];rw[aG,h2,q,dC.mp b,(aiQ hN).mp (z.trans q.symm)]
def RV{M}(I:[ac])(hN:X.N.Nodup)(hi:[ch])(L:[o4])(r:[i1])(h:∀s',ak X pins [oj,v] H s'->(∃a,wj a s.heap [jG]/\(a=[gB]\/[l6,x,a]))->Q () s')(hf:[l1]:=by rw[cX]):[eG,M,Ti X.env x u]:=by rw[M,m,hn,U,id I.loc];rw[K,ahG,(X.env.scope.kind==.class||(X.env.scope.kind==.module&&[gB]!=X.env.globals))=af,[bM,I.ok.kind],F,i<[hk],[a_,I.len]];rw[ai,pW,I.pW,S,∀{a}{h'},(∃o,[bH,a,o]/\[nw])->wj a s.heap h'->cV X.prog X.w H h',λha hs b ob e=>[gJ,(I.aO b ob e).jT (λc w' O q=>[bG,hs.2 c ?_,q]) (λ_ q=>q) λ_ _ q=>q]];rw[aK,L,hk,hk];{refine wpAny_storeName_local hk hn (λh' Z hs=>?_) ahG;obtain⟨oL,_,_,B,_⟩:=id hn;refine h _ [vj,I.ok,[w_,[p'],[p'],[u4]],#[_,Z,λj y v' e1 e2 e3=>?_],[zG],[vh],S #[oL,B,I.free] hs,[aD,I.len]] #[_,hs,[fa]];{exact [cw,[w5,[oC]],[uy,n]]};{rw[aG,sl,e1,[uD,n],#[sl,[bG,[w5,[oC]],e1]]]};{rw[aG,o',e1,[p4],#[o',[bG,[w5,[oC]],e1]]]};{rw[D,hj,j=i];{subst hj;rw[aq,hi,e1,e1];rw[df,rZ F,e2,#[u,r,[J,[qT,hk]]]]};{rw[ff];rcases q with⟨k,e⟩|⟨k,c,e,z⟩;{refine [J,#[k,?_]];have:y≠x:=λe=>hj (BS hN e1 (e▸hi));simp[this,e]};{exact [aC,#[k,c,e,z.sameBut hs (pW y c e)]]}}};{rw[aG,w',z,I.cell y c e,#[w',z.sameBut hs (pW y c e)]]};{rw[dQ];exact#[[ha,hs.2 [H] ne],n,ne,nf,d]}};{(have G:X.fn x=ae:=by rw[a0,hf,z,z,z];{rw[aq,z,hk,hk]});rw[R,c,O,I.ok.has x [J,hk]];rw[bF,w',z,I.cell x c O,wpAny_storeName_cell [oY] hk O z (λh' vX hs=>?_)];rw[aL,oc,W,ahH,id z,h _ [vj,I.ok,[w_,[p'],[p'],[u4]],#[m,hn.sameBut hs (dt (pW x c O)),λj y v' e1 e2 e3=>?_],λy c' e=>?_,[vh],S #[oc,W,I.ie x c O] hs,[aD,I.len]] #[c,hs,[aC,O]]];{exact [cw,[Dk],[uy,n]]};{rw[aG,sl,e1,[uD,n],#[sl,[bG,[Dk],e1]]]};{rw[aG,o',e1,[p4],#[o',[bG,[Dk],e1]]]};{rw[D,hj,j=i];{subst hj;rw[aq,hi,e1,e1];rw[df,rZ F,e2,#[u,r,[aC,#[[J,hk],c,O,vX]]]]};{rw[ff];rcases q with q|⟨k,c',e,z'⟩;{exact [J,q]};{refine [aC,#[k,c',e,z'.sameBut hs ?_]];rintro rfl;exact hj (BS hN e1 (I.ok.inj _ _ _ e O▸hi))}}};{rw[D,Sb,c'=c];{rw[bf,Sb,#[_,vX]]};{rw[aG,w2,z2,I.cell y c' e,#[w2,z2.sameBut hs Sb]]}};{rw[dQ];refine#[[ha,hs.2 [H] ?_],n,ne,nf,d];intro q;rw[q,W]at e;exact d w' ([bB,uA e,ahH])}}
def BZ{M}{A}(I:[ac])(hN:X.N.Nodup)(hi:[ch])(L:[o4])(r:[i1])(h:∀s',ak X pins [oj,v] H s'->Q () s')(q:[l1]:=by rw[cX]):[eG,M,Ti X.env x u]:=RV I hN hi L r [f] q
def ak.BK(I:[ac])(q:s'.os=s.os)(u:Un (iQ [gq]) ch H H' s.heap [jG])(aO:cV X.prog X.w H' [jG])(z:uz s'.gens)(j:[Da]):[qQ]:=by rw[ac,h',W,G,t',o',s'];rw[bf,q,I.call u aO z j]
end
abbrev XK:=aq->([kF])->[dL]
abbrev St:=List [be,V]
abbrev VK:=V->[dL]
abbrev TE:=St->[nC]
abbrev TT:=[r5,Bool]
abbrev TA:=[r5,[cQ]]
structure lS where
 nx : St → Hp → Prop
 rt : VK
 bk : St → Hp → Prop := fun _ _ => False
 ct : St → Hp → Prop := fun _ _ => False
abbrev TS:=lS->[rp]
def EP(X:Cx)(pins:[eJ])(σ:St)(Q:VK)(u:aq)(s':aD):[P]:=∃v H',[qQ]/\[i1]/\Q v H'
def TP(X:Cx)(pins:[eJ])(σ:St)(Q:Bool->[dL])(b:Bool)(s':aD):[P]:=∃H',[qQ]/\Q b H'
def AP(X:Cx)(pins:[eJ])(σ:St)(Q:([cQ])->[dL])(us:[dV])(s':aD):[P]:=∃B H',[qQ]/\bq B us/\Q B H'
def SP(X:Cx)(pins:[eJ])(D:lS)(f:Flow)(s':aD):[P]:=match f with|.next=>∃B H',[uO]/\D.nx B H'|.brk=>∃B H',[uO]/\D.bk B H'|.cont=>∃B H',[uO]/\D.ct B H'|[bj,u]=>∃v B H',[uO]/\[i1]/\D.rt v H'
def PE(X:Cx)(e:bQ)(t:TE):[P]:=[pH,Q,VK,t σ H Q,[eR,e],[ji]]
def PT(X:Cx)(e:bQ)(t:TT):[P]:=[pH,Q,Bool->[dL],t σ H Q,uB e X.env [eR,e],TP X pins σ Q]
def PW(X:Cx)(e:bQ)(t:TT):[P]:=[Km,whole,Sem aq,Bool,uB e X.env whole,TP X pins σ Q]
def PW.pt(h:PW X e t):PT X e t:=h _
def PA(X:Cx)(es:List bQ)(t:TA):[P]:=[Km,pos,et,[cQ],spliced (dE pos [pE,es]),AP X pins σ Q]
def PS(X:Cx)(st:kW)(t:TS):[P]:=[pH,D,lS,t D σ H,exec st X.env,SP X pins D]
def fQ(X:Cx)(st:List kW)(t:TS):[P]:=[pH,D,lS,t D σ H,execs st X.env,SP X pins D]
def a9{t:Sem U}(h:aE M A t Q E s)(q:∀a s,Q a s->j a s):aE M A t j E s:=gQ h q (by simp)
section
variable{X:Cx}
def bin(L:[iC])(J:[mX]){σ:St}{R:V->V->[dL]}(I:[ac])(h:[wR,[zj,R x y H2]]){f:aq->aq->Sem U}(B:[G4]):[Hw]:=by rw[aj,[cN,[r6],v,Z,x,H1,j,G,z],[cN,[td,j,z],u,q,y,H2,n,O,N]];grind
def En(i:Nat):TE:=λσ H Q=>∃v,[sL]/\Q v H
def tC(v:V):TE:=λ_ H Q=>Q v H
def lC{pos}(hN:[ch])(W:[fQ])(hd:[jZ]:=by rw[ah])(z:[xS]=af:=by rw[ah]):[cj,[oq],En i]:=by rw[bJ];rw[aO,v,e,h,h,m,L,U,I.loc];rw[M,u,r,l,U i x v hN e W];have J:EP X _ _ Q u s:=#[v,H,I,r,h];rcases l with⟨q,j⟩|⟨q,c,O,B⟩;{exact CV (IN [oY] q L j J) hd};{rw[d_,q,q,q,CV (aiR [oY] q O B J) hd,CV (wpAny_loadName_free [oY] q O B J z) hd]}
def L7:[yh,[aP],[aP]]:=λ_ _ _ H _ I h=>IP #[[aP],H,[hl],[gS],h]
def Y':[yh,.bool b,[jR]]:=λ_ _ _ H _ I h=>Constant_bool #[[jR],H,I,Y,h]
def yy:[yh,[aZ],[aX]]:=λ_ _ _ H _ I h=>Constant_none #[[aX],H,I,Y,h]
def aab:[yh,[L,x],[L,x]]:=λ_ _ _ H _ I h=>Calls.Constant_str #[[L,x],H,[hl],[gS],h]
def Gl(X:Cx)(x:au):[P]:=[wc,x]=aa .globalImplicit
def qc{σ:St}(I:[ac])(z:[dI])(q:X.mg x=aa u)(h:Q u s)(hd:[jZ]:=by rw[ah]):[Eb,[oq]]:=aiS [oY] z (Calls.loadGlobal_global [q,I.ok.fA,[yl]] q h) hd
def oX{E}{σ:St}{pos}(I:[ac])(q:[dI])(O:[wf])(W:hl x=aa u)(h:Q u s)(z:[zp]:=by rw[ah])(hd:[jZ]:=by rw[ah]):[Eb,[oq]]:=[bu,B,h1,h2,I.mod.blt,aiS [oY] q (Calls.loadGlobal_builtin [q,I.ok.fA,[yl]] O [q,I.ok.blt,h1.keeps I.bk] [f] h) hd]
def ad2(z:[dI])(q:X.mg x=aa u)(r:[i1])(hd:[jZ]:=by rw[ah]):[cj,[oq],tC v]:=λ_ _ _ H _ I h=>qc I z q #[v,H,I,r,h] hd
variable{a b:bQ}{ta tb:TE}{pos:et}
def PC(X:Cx)(j:CmpOp)(a b:bQ)(t:TE):[P]:=[pH,Q,VK,t σ H Q,[eR,a],λv W=>[gb,[eR,b],λu S=>[gb,eU j v u,[ji],S],W]]
def tB(t:TE):TT:=[kW,x,∃c,x=[bh,c]/\Q c H1]
def anD(h:PC X j a b t)(h1:[wh]:=by first|exact n _ ([ah]) ([ah])|rfl):PT X [jc,j] (tB t):=by rw[aV,Q,W,aiT (a9 [Ee] λv O h1=>a9 h1 λu J h2=>[cN,h2,c,G,x,H1,S,L,z]) h1];rw[M,d,rfl,q,z];rw[aT,L,nW #[H1,S,q]]
def OH(h:[gA,t])(O:[wJ]:=by intro _;rfl):PT X e (tB t):=by rw[aV,Q,W,isTrue_plain [qq,[Ee],L,z] (O _)];rw[M,d,rfl,q,z];rw[aT,j,nW #[H1,S,q]]
variable{tA tB':TT}{rest:List bQ}
def agb(t u:TT):TT:=[kW,c,[ao,c,u σ H1 Q,Q af H1]]
def tOr(t u:TT):TT:=[kW,c,[ao,c,Q ae H1,u σ H1 Q]]
def Y8(t:TT):TT:=[kW,c,Q (! c) H1]
def UC(J:PT X a tA):PW X (.BoolOp .And [a] pos) tA:=[Bo,isTrue_and [Jk],isTrue_and_nil e,e]
def aer(J:PT X a tA):PW X (.BoolOp .Or [a] pos) tA:=by intro wh pins s σ H Q I h;refine isTrue_or [Jk];cases c with|false=>exact isTrue_or_nil e|true=>exact e
def ZA(L:PT X a tA)(J:PW X [kV,b,rest] tB'):PW X [kV,a,b::rest] (agb tA tB'):=[Bo,isTrue_and [Kj],J _ _ _ _ _ Q S q,#[H1,S,q]]
def ZQ(L:PT X a tA)(J:PW X [kY,b,rest] tB'):PW X [kY,a,b::rest] (tOr tA tB'):=[Bo,isTrue_or [Kj],#[H1,S,q],J _ _ _ _ _ Q S q]
def aeY(J:PT X a tA):PT X [CV] (Y8 tA):=by rw[bJ];exact isTrue_not [ml]
def Uy(ta tb:TE):TE:=[Eo,[ao,c,tb σ H1 Q,Q [bh,af] H1]]
def acv(ta tb:TE):TE:=[Eo,[ao,c,Q [bh,ae] H1,tb σ H1 Q]]
def agw(ta:TE):TE:=[Eo,Q [bh,! c] H1]
def KE(h:PE X a t):PE X (.BoolOp j [a] pos) t:=[uV,W,BoolOp_one [zY,W]]
def abb(L:[iC])(J:PE X [kV,b,rest] tb):[cj,[kV,a,b::rest],Uy ta tb]:=by rw[aV,Q,h,BoolOp_and [qq,[r6],z,q]];rw[M,c,rfl,q,q];cases j;refine nW ?_;cases c with|true=>exact J _ _ _ _ Q S q|false=>exact [D8]
def Wr(L:[iC])(J:PE X [kY,b,rest] tb):[cj,[kY,a,b::rest],acv ta tb]:=by rw[aV,Q,h,BoolOp_or [qq,[r6],z,q]];rw[M,c,rfl,q,q];cases j;refine nW ?_;cases c with|false=>exact J _ _ _ _ Q S q|true=>exact [D8]
def aaK(J:[iC]):[cj,[CV],agw ta]:=by rw[aV,Q,h,UnaryOp_ [qq,[ml],L,q]];rw[M,c,rfl,q,q];rw[aT,j,[hB,nW [D8]]]
def tIf(t:TT)(ta tb:TE):TE:=[kW,c,[ao,c,ta σ H1 Q,tb σ H1 Q]]
def V'(O:PT X c tA)(L:[iC])(J:[mX]):[cj,.IfExp c a b pos,tIf tA ta tb]:=[Jh,Q,wpAny_IfExp [Kk]]
end
def bp(K:aQ)(H:Hp)(a:ai)(xs:[cQ]):[P]:=[JY,[ax,xs],[je],o.dict=ag/\[Ia]]
def cw(K:aQ)(H:Hp)(a:ai)(xs:[cQ]):[P]:=[JY,[bs,xs],[od],[Ia]]
def acL:aq->[be,V]|[aZ]=>aa [aX]|.bool b=>aa [jR]|.int i _=>aa [aP]|.str x _=>aa [L,x]|.bytes b _=>aa (.ls b)|.float b _=>aa (.yr b)|[aL]=>aa [aL]|[bR,n]=>aa (.ty n)|_=>ag
def bC.abs(r:bC x u):acL u=aa x:=by cases x with|a0=>cases r;rfl|bl _=>cases r;rfl|int _=>rw[bS,r]|str _=>rw[bS,r]|ls _=>rw[bS,r]|yr _=>rw[bS,r]|ref _=>cases r;rfl|ty _=>cases r;rfl
def bC.inj(r:bC x u)(q:[hz]):x=y:=uA (r.abs.symm.trans q.abs)
def bq.inj:∀{xs ys}{us},([iI])->bq ys us->xs=ys|_,_,_,[aA],[aA]=>rfl|_,_,_,[oz],.cons j t'=>by rw[r.inj j,bq.inj t t']
section
variable{X:Cx}{pins:List (ai×bn)}{σ:St}{H:Hp}{s:aD}{a:ai}{xs ys:List V}
def bp.of{K}(h:[es,[ax,xs]]):[lP,xs]:=[J,[J,h]]
def cw.of{K}(h:H a=[hJ,xs]):[vG]:=[J,[J,h]]
def ak.list(I:[ac])(h:bp X.K H a xs):∃az:[h],bq xs az/\PlainL s.heap a [hb]/\[q2]:=by rcases h with h|⟨o,az,n,q,O,hd,J,L,r⟩;{rw[ac,z,az,n,r,e,h.ok I.aO];exact#[az,r,#[_,n,e,Y,Y,Y],z]};{refine#[az.toList,r,#[o,n,I.dY a o q,O,hd,[a']],?_];rw[jK,e,r.length]}
def ak.tuple(I:[ac])(h:cw X.K H a xs):∃az:[h],bq xs az/\wg s.heap a [hb]/\[q2]:=by rcases h with h|⟨o,az,n,q,O,J,L,r⟩;{rw[ag,z,az,r,p,h.ok I.aO];grind};{refine#[az.toList,r,#[o,I.dY a o q,O,n,[a']],?_];rw[jK,e,r.length]}
def ak.vR(I:[ac])(h:bp X.K H a xs)(h':bp X.K H a ys):xs=ys:=by obtain⟨az,r,⟨o,n,e,_,_,d⟩,_⟩:=[eD,h];obtain⟨B,z,⟨o',j,J,_,_,q⟩,_⟩:=[eD,h'];rw[eT]
def ak.J2(I:[ac])(h:cw X.K H a xs)(h':cw X.K H a ys):xs=ys:=by obtain⟨az,r,⟨o,e,_,n,d⟩,_⟩:=[e',h];obtain⟨B,z,⟨o',J,_,j,q⟩,_⟩:=[e',h'];rw[eT]
end
section
variable{X:Cx}{st:kW}{rest:List kW}{t u:TS}{e:bQ}{te:TE}{pos:et}
def Li:TS:=λD σ H=>D.nx σ H
def WK(t u:TS):TS:=λD σ H=>t {D with nx:=u D} σ H
def age:fQ X [] Li:=λ_ _ σ H _ I h=>CW #[σ,H,I,h]
def adm(h1:PS X st t)(h2:fQ X rest u):fQ X (st::rest) (WK t u):=by rw[aV,D,h,IR (a9 (h1 _ s _ H _ I h) λf j q=>?_)];cases f with|next=>rw[dG,S,H',B,q,q,h2 _ _ _ _ D B q]|ret v=>exact q|brk=>exact q|cont=>exact q
def agi:TS:=λD σ H=>D.bk σ H
def aft:PS X (.Pass pos) Li:=λ_ _ σ H _ I h=>wpAny_Pass #[σ,H,I,h]
def afG:PS X (.Break pos) agi:=λ_ _ σ H _ I h=>wpAny_Break #[σ,H,I,h]
def ak.quiet{σ:St}(I:[ac]):interactive X.env=af:=by simp[interactive,I.ok.kind]
def ZR(te:TE):TS:=λD σ H=>te σ H λ_ H1=>D.nx σ H1
def wU(j:[hW])(O:[j4,e,ag]:=by rfl):[hC,.Expr e pos,ZR te]:=by rw[cl];exact wpAny_Expr_any [ev,j _ s _ H _ I h,v,J,x,H1,S,L,q,#[σ,H1,S,q]] I.quiet O
def X6(te:TE):TS:=λD σ H=>te σ H D.rt
def EY(O:[hW]):[hC,.Return (aa e) pos,X6 te]:=by rw[cl];exact wpAny_Return_some (a9 [uk] λv L#[x,H1,S,j,q]=>#[x,σ,H1,S,j,q])
def VL(c:TT)(t u:TS):TS:=λD σ H=>c σ H λb H1=>[ao,b,t D σ H1,u D σ H1]
def aaf(O:PT X c tc)(L:fQ X a t)(J:fQ X b u):[hC,.If c a b pos,VL tc t u]:=[Jh,D,wpAny_If [Kk]]
end
abbrev TG:=V->[r5,St]
abbrev yp:=([cQ])->[r5,St]
def PG(X:Cx)(z:bQ)(t:TG):[P]:=[xj,v,V,u,aq,[rp],[i1],t v σ H Q,uC z X.env u,λ_ s'=>∃B H',[uO]/\Q B H']
def zA(X:Cx)(ts:List bQ)(t:yp):[P]:=[xj,B,[cQ],us,[dV],[rp],bq B us,t B σ H Q,assignInOrder [vL,ts] us,λ_ s'=>∃S H',ak X pins S H' s'/\Q S H']
abbrev Ag:=V->V->V->Hp->([dL])->[P]
def BN(X:Cx)(t:Ag):[P]:=∀(pins:[eJ])(s:aD)(σ:St)(H:Hp)(o i v:V)(j O u:aq)(Q:[dL]),([ac])->bC o j->bC i O->([i1])->t o i v H Q->[hD,uE j O u,λ_ s'=>∃H',[qQ]/\Q H']
abbrev zX:=[qR]
def zC(X:Cx)(j:Operator)(t:zX):[P]:=[wL,x,y,v,u,t x y H Q,Tj j v u]
section
variable{X:Cx}{pos:et}
def lx(i:Nat):TG:=λv σ H Q=>Q [oj,v] H
def vC(hN:X.N.Nodup)(hi:[ch])(L:[o4])(q:[l1]:=by rw[cX]):PG X [oq] (lx i):=by intro pins s σ H v u Q I r h;exact aiV (BZ I hN hi L r (λs' B=>#[_,H,B,h]) q)
def M':yp:=λB σ H Q=>B=[]/\Q σ H
def EK(t:TG)(u:yp):yp:=λB σ H Q=>∃v r,B=v::r/\t v σ H λS H'=>u r S H' Q
def aam:zA X [] M':=by rw[c1];rw[R,e,h,h];rw[bf,e,assignInOrder_nil [f]]
def Rz(h1:PG X e t)(h2:zA X es u)(O:[vL,[jB]]=uC e X.env::[vL,es]:=by rfl):zA X [jB] (EK t u):=by rw[c1];rw[ag,v,n,z,h,h];rw[a2];cases r with|cons r G=>rw[ci,O,assignInOrder_cons (a9 (h1 _ s _ H _ _ _ I r h) λ_ L#[j,H1,S,q]=>?_)];exact h2 _ _ _ _ _ _ Q S G q
def MW(K:aQ)(n:Nat)(t:yp):TG:=λv σ H Q=>∃a xs,v=[aL]/\[vG]/\[cE]=n/\t xs σ H Q
def adX{k}(O:[cF])(h:zA X es t)(j:[Q,uD es X.env]=n:=by rfl)(B:(uD es X.env).findIdx? (·.1)=ag:=by rfl):PG X (.Tuple es k pos) (MW X.K n t):=by intro pins s σ H v u Q I r W;rw[an,a,xs,z,J,U,W,W];rw[a2];cases r;rw[ag,az,G,q,N,[e',J]];rw[d8,assign_Tuple_tuple [e5] q (by simp[j,<-U,G.length]) B λh' L=>?_,h _ _ _ H _ _ Q (I.kept [dB,L b o [ts] e]) [f] W]
def aeN(to F:TE)(t:Ag):TG:=λv σ H Q=>to σ H λo H1=>F σ H1 λi H2=>t o i v H2 λz=>Q σ z
def Oo(z:[oQ])(hi:PE X i F)(J:BN X t)(U:∀v,uC (.Subscript o i pos) X.env v=(do let j←iC [v] [eR,o];let O←iC [v,j] [eR,i];pd pos;iC [v,j,O] (uE j O v);zd [v,j,O] []):=by intro _;rfl):PG X (.Subscript o i pos) (aeN to F t):=by intro pins s σ H v u Q I r h;rw[aW,kc [cN,z _ s _ H _ I h,j,N,x,H1,B,L,q],kc [cN,hi _ _ _ _ _ B q,O,s2,y,H2,S,G,W]];rw[ao,wk [aJ,kc (a9 (J _ _ _ _ x y v _ _ u _ S L G r W) λ_ s3#[Z,n,q3]=>?_)]];exact wpAny_release [f]
def pY(te:TE)(g:TG):TS:=λD σ H=>[wn,x,g x σ H1 D.nx]
def Kg(J:[hW])(L:PG X tg g)(O:[C2,[tg]]:=by rfl)(W:IT [tg] e X.env=bx ag:=by rfl)(h1:[vL,[tg]]=[uC tg X.env]:=by rfl):[sj,tg,e,pos,te,g]:=by rw[aV,D,h,wpAny_Assign_stores [qq,[ml],N,z] O W];rw[Y,h1,a9 (L _ _ _ _ x v _ S j z) λ_ G q=>q]
def yA(hN:X.N.Nodup)(hi:[ch])(L:[o4])(U:[hW])(O:[j4,e,aa [EZ]]:=by rfl)(J:[l1]:=by rw[cX]):[sj,[EZ],e,pos,te,lx i]:=by rw[aV,D,h,wpAny_Assign_Name [cN,[yT],v,G,y,H1,S,j,q] O];exact BZ S hN hi L j (λz B=>#[_,H1,B,q]) J
def U2(i:Nat)(te:TE)(F:zX):TS:=λD σ H=>∃x,[aY,σ,aa x]/\[wn,y,F x y H1 λz H2=>D.nx [oj,z] H2]
def Pc(hN:X.N.Nodup)(hi:[ch])(L:[o4])(n:[hW])(ho:zC X j F)(hf:[l1]:=by rw[cX]):[hC,.AugAssign [EZ] j e pos,U2 i te F]:=by
 rw[cl];rw[aO,v,Z,h,h,m,N,U,I.loc];have Ho:[fQ]:=by rw[aK,L,k,k];exact [J,k];exact [e7,k]
 rw[aL,u,r,l,U i x v hi Z Ho,wpAny_AugAssign_Name ?_];have go:[hD,[eR,e],λw S=>[gb,Tj j u w,λr q=>[gb,Ti X.env x r,λ_=>SP X pins D .next,q],S]]:=by rw[aj,[cN,n _ s _ H _ I h,w,s1,y,H1,I1,r1,J],[cN,ho _ _ _ _ v y u w _ I1 r r1 J,z,s2,G,H2,I2,r2,q2]];exact BZ I2 hN hi L r2 (λs3 I3=>#[_,H2,I3,q2]) hf
 rcases l with⟨W,hm⟩|⟨W,c,O,B⟩;{exact IN [oY] W N hm go};{rw[a0,W,W,W,aiR [oY] W O B go];{rw[aK,L,k,k];{rw[bI,[jU,x]=aa [ec],W]};{rw[bI,[jU,x]=[cf],W]}}}
def VP(to F te:TE)(n:[qR])(q:zX)(B:Ag):TS:=λD σ H=>to σ H λo H1=>F σ H1 λi H2=>n o i H2 λx J=>te σ J λy L=>q x y L λz j=>B o i z j λU=>D.nx σ U
def Nw(X:Cx)(t:[qR]):[P]:=[wL,o,i,j,O,t o i H Q,wm j O]
def RL(ho:[oQ])(hi:PE X i F)(hg:Nw X n)(he:[hW])(hp:zC X j q)(hs:BN X B)(ha:∀z O new,[wO,i,z]:=by intros;rfl):[hC,.AugAssign (.Subscript o i tpos) j e pos,VP to F te n q B]:=by rw[cl];rw[aj,wpAny_AugAssign_SubscriptAny [cN,[Du],z,s1,x1,H1,I1,G,U] ha,[cN,hi _ _ _ _ _ I1 U,O,s2,x2,H2,I2,W,q2]];rw[aj,[cN,hg _ _ _ _ _ _ _ _ _ I2 G W q2,S,s3,x3,H3,I3,r3,q3],[cN,he _ _ _ _ _ I3 q3,v,s4,J,H4,N,r4,q4]];rw[d8,[cN,hp _ _ _ _ _ _ _ v _ N r3 r4 q4,new,s5,x5,H5,I5,r5,L],a9 (hs _ _ _ _ _ _ _ _ _ _ _ I5 G W r5 L) λ_ Z#[H6,I6,q6]=>#[σ,H6,I6,q6]]
def PN(f:[o3,Int]):zX:=[xF,Q [l,f i j] H]
def QT:zC X .Add (PN λi j=>i+j):=[JJ,aiW [o7]]
def Ln:zC X .Sub (PN λi j=>i-j):=[JJ,isub_int [o7]]
def Z_(c:TT)(tb:TS):TS:=λD σ H=>∃S:Nat->[rp],(∃m,S m σ H)/\∀m σ H,S m σ H->c σ H λb H1=>[ao,b,∃N:[rp],(∀B H',N B H'->∃G,G<m/\S G B H')/\tb [KU] σ H1,D.nx σ H1]
def afD(Z:[sr,X.xe])(O:PT X c tc)(J:fQ X body tb):[hC,.While c body [] pos,Z_ tc tb]:=by rw[cl];obtain⟨S,⟨m0,w0⟩,turn⟩:=h;refine wpAny_While (codeAny_whileLoop (λn s'=>∃F H',ak X _ F H' s'/\S n F H') ?_ _ #[σ,H,I,w0]);rintro n s1⟨j,H1,I1,w1⟩;refine wo Z (a9 (O _ _ _ _ _ I1 (turn n _ _ w1)) λb s2#[H2,I2,B]=>?_);cases b with|true=>(rw[aL,N,hN,B,B,wo Z (a9 [td,I2,B] λf s3 q=>?_)];cases f with|next=>rw[ag,z,G,U,W,q];rw[bu,m',hm,L,hN _ _ W,#[m',hm,z,G,U,L]]|cont=>rw[ag,z,G,U,W,q];grind|brk=>exact q|ret v=>exact q)|false=>exact CW #[j,H2,I2,B]
end
structure It where
 go : Nat → Hp → Prop
 Bz : Nat → Hp → V → Hp → Prop
 stop : Nat → Hp → Prop
def hG(X:Cx)(pins:[eJ])(H:Hp)(b:ai):[P]:=[fx]/\b≠[gB]/\b∉X.fs/\[A8,b]/\[up,b]/\[x1,b]
def ak.jC{σ:St}{b:ai}(I:[ac])(J:[ar]<=b)(U:[iL]):hG X pins H' b:=by refine#[U,gj (hc I.lt J),I.XH J,[eL,c9 I.sz J],λx c e z=>?_,λp L z=>?_];{rw[aG,v,q,[sS],[c8,hc q.lt [f],qy _]]};{rw[bi,hc (bF [M,I.eH p L]) [f],qy _]}
structure m5 (P : cP) (w : cz) (K : aQ) (tg : bQ) (J : It) (fp : List ai) (it : ai) (tn : Nat → bP → Prop) : Prop where
 mem : it ∈ fp
 obj : ∀ i h, tn i h → ∀ b ∈ fp, ∃ o, h.get? b = aa o ∧ ∀ v, o.data ≠ .cell v
 keep : ∀ i h h', tn i h → (∀ b ∈ fp, ∀ o, h.get? b = aa o → h'.get? b = aa o) → tn i h'
 item : ∀ (X : Cx), X.prog = P → X.w = w → X.K = K → X.cg = ae → ∀ (i : Nat) (pins : List (ai × bn)) (s : aD) (σ : St) (H : Hp) (E : aq → aD → Prop), ak X pins σ H s → (∀ b ∈ fp, hG X pins H b) → tn i s.heap → J.go i H →
  aE (aK P w) X.A (je (.ref it)) (fun r s1 => ∃ u, r = aa u ∧
   aE (aK P w) X.A (Tk tg (.ref it) u) (fun _ s2 => ∃ x H', ak X pins σ H' s2 ∧ bC x u ∧ J.Bz i H x H' ∧ tn (i + 1) s2.heap ∧ ∀ b ∈ fp, H' b = ag) E s1) E s
 done : ∀ (X : Cx), X.prog = P → X.w = w → X.K = K → X.cg = ae → ∀ (i : Nat) (pins : List (ai × bn)) (s : aD) (σ : St) (H : Hp) (E : aq → aD → Prop), ak X pins σ H s → (∀ b ∈ fp, hG X pins H b) → tn i s.heap → J.stop i H →
  aE (aK P w) X.A (je (.ref it)) (fun r s1 => r = ag ∧ ak X pins σ H s1) E s
 self : ∀ (A : dc) (i : Nat) (s : aD) (Q : aq → aD → Prop) (E : aq → aD → Prop), tn i s.heap → Q (.ref it) s → aE (aK P w) A (ze (.ref it)) Q E s
abbrev TI:=[r5,It]
def AU(X:Cx)(pins:[eJ])(σ:St)(tg:bQ)(R:It->[dL])(B:aq)(q:aD):[P]:=∃(it:ai)(O:[ba])(F:Nat->bP->[P])(J:It)(H':Hp),B=[gO]/\[c5,H',q]/\m5 X.prog X.w X.K tg J O it F/\F 0 q.heap/\[qu,O,H']/\R J H'
def PI(X:Cx)(tg F:bQ)(B:TI):[P]:=[pH,R,It->[dL],B σ H R,[eR,F],λv j=>[gb,ze v,AU X pins σ tg R,j]]
def Ah(J:[bH,it,o])(O:o.cls=[bR,n])(hd:o.data=.fields B)(z:[tf,[AH],n])(q:Q () s):[eG,M,Tk tg [gO] u]:=by cases tg<;>first|exact bg q|(cases u<;>first|exact bg q|(rw[ao,Tl J ?_];rw[O,hd];show [eG,M,if([AH].contains n&&B[0]?==[cf])=ae then _ else _];rw[Y,[nz],bg q]))
def B'(K:aQ)(a:ai):It:=[F6,[lP,xs]]
def FC(K:aQ)(a:ai):It:=[F6,[vG]]
def xV(lo:Int)(n:Nat):It:=#[λi _=>i<n,λi H x H'=>H'=H/\x=[l,lo+i],λi _=>n<=i]
def JZ{K}(a it:ai):[xT,B' K a,[ws,it,a]]where
 mem:=by simp
 obj:=[A2]
 keep:=[qr,st.at λo e=>k _ (by simp) o e]
 item:=[FG,[eD,z],wpAny_pyNext_list_item st [ky] (x:=u) [f] λh' S F=>?_,I.vR Z z]
 done:=[K_,[eD,z],wpAny_pyNext_list_end [e5] st [ky] [f] [Ke]]
 self:=λ_ _ _ _ _ st h=>wpAny_pyIter_listiter st h
def Yw{K}(a it:ai):[xT,FC K a,h.IsTupleIter it a i]where
 mem:=by simp
 obj:=[A2]
 keep:=[qr,st.at [f]]
 item:=[FG,[e',z],wpAny_pyNext_tuple_item st [aB,s.heap.IsTuple a _,p] (x:=u) [f] λh' S F=>?_,I.J2 Z z]
 done:=[K_,[e',z],wpAny_pyNext_tuple_end [e5] st [aB,[mG,a,[hb]],p] [f] [Ke]]
 self:=λ_ _ _ _ _ st h=>wpAny_pyIter_tupleiter st h
def WJ{K}(it:ai)(lo:Int)(n:Nat):[xT,xV lo n,IsRangeIter h it (lo+i*1) (n-i) 1]where
 mem:=by simp
 obj:=λi h st b J=>[f]
 keep:=[qr,k _ (by simp) _ st]
 item:=by rw[b3,q,z];rw[c9];refine(Walks.range [e5] it _ 1 n).item i s _ _ z st λv h' tk U L j=>?_;rw[R,t,rfl,U];rw[ae,S,ak X _ _ H [cR,h'],[C9,[f]],#[_,Y,Ah L Y Y Y #[[bK],H,S,#[t,?_],#[Y,Y],L,λb J=>[M,q b J]]]];grind
 done:=by rw[dp,q,z];rw[c9];exact wpAny_pyNext_range_end [e5] st (by have:n<=i:=z;omega) [Kf]
 self:=λ_ _ _ _ _ st h=>wpAny_pyIter_rangeiter st h
section
variable{X:Cx}{tg:bQ}
def QA(K:aQ)(tl:TE):TI:=λσ H R=>tl σ H λx H1=>∃a,[gy,∃xs,bp K H1 a xs,R (B' K a) H1]
def FN(U:PE X l tl):PI X tg l (QA X.K tl):=by rw[aV,R,h,[cN,[yT],v,j,x,H1,S,L,z]];obtain⟨a,e,⟨xs,O⟩,q⟩:=z;subst e;cases L;rw[ag,az,W,p,B,S.list O];rw[aj,sf [ky] ?_,#[j.heap.objs.size,[[sf]],_,_,H1,Y,S.kept [rh],JZ a _,[mu],[fI],q]];rw[cP,[C7]]
def Qi{σ:St}{lo hi}(I:[ac])(h1:-[km]<=lo)(h2:lo<[km])(j:-[km]<=hi)(L:hi<[km])(q:R (xV lo [hf,hi-lo]) H):aE [c4] X.A (ze [fq]) (AU X pins σ tg R) E [cR,[Bd]]:=by refine wpAny_pyIter_range (IsRange.new ..) (small_one h1 h2 j L) ?_;rw[ae,S,ak X _ _ H [cR,[Bd]],I.kept [rh],#[[dg,[oh]],[[dg,[oh]]],_,_,H,Y,S.kept [rh],WJ _ _ _,?_,[fI],q]];{rw[K,z,lo+[bb,0]*1=lo,by simp,O,[hf,hi-lo]-[bb,0]=aqh lo hi 1,[cx,rangeSize_one]];rw[a3,z,O,[cq]]};{have e:b=[dg,[Bd]]:=[f];rw[bf,e,[C7]]}
def Wa(ta:TA):TI:=λσ H R=>[ng,B,H1,∃j:Int,B=[[c0]]/\-[km]<=j/\j<[km]/\R (xV 0 j.toNat) H1]
def W'(ta:TA):TI:=λσ H R=>[ng,B,H1,∃i j:Int,B=[[aP],[c0]]/\(-[km]<=i/\i<[km]/\[uw,j])/\R (xV i [hf,j-i]) H1]
def adF(N:[An])(U:[zc])(J:PA X [a] ta)(O:[pz,a,a]:=by rfl):PI X tg [kN,"range",[a]] (Wa ta):=by rw[aV,R,h,Call_ (oX I N U boot_range (CY [cN,J _ _ s _ H _ I h,us,Z,B,H1,S,L,z] O Y))];rw[ac,j,e,z,W,q,z];subst e;cases L with|cons r G=>cases G;rw[aG,t,rfl,r,call_range_1 (Qi S [g] [g] z W [f])]
def adI{p pos}(F:[An])(O:[zc])(Z:PA X [ib] ta)(n:[Ji]:=by rfl)(z:[q']:=by rfl):PI X tg [kN,"range",[ib]] (W' ta):=by rw[aV,R,h,Call_ (oX I F O boot_range (CY [cN,Z _ _ s _ H _ I h,us,s1,B,H1,S,L,W] [f] [bM,z]))];obtain⟨i,j,e,⟨W,N,U,q4⟩,q⟩:=W;subst e;cases L with|cons r G=>cases G with|cons J G=>cases G;rw[cw,r,J,call_range_2 (Qi S W N U q4 q)]
def ab7(F:TI)(g:TG)(tb:TS):TS:=λD σ H=>F σ H λJ H1=>∃S:Nat->Nat->[rp],(∃m,S 0 m σ H1)/\∀i m σ H,S i m σ H->(J.stop i H/\D.nx σ H)\/(J.go i H/\∃N:[rp],(∀B H',N B H'->∃G,G<m/\S [Y] G B H')/\∀x H',J.Bz i H x H'->g x σ H' λj H2=>tb [KU] j H2)
def oP(J:[ba])(h:bP):[eJ]:=J.filterMap λb=>[cl,h.get? b,o,(b,o)]
def vn(J:b∈O)(e:[ks]):(b,o)∈oP O h:=ui.mpr [f]
def XR(L:p∈oP O h):[H]∈O/\[dd,[H],[X]]:=by rw[M,b,J,e,ui.mp L];cases q:h.get? b with|none=>grind|some o=>grind
def ak.pinned{σ:St}(I:[ac])(W:[qu,O,H])(q:[eu,O,[J6]]):ak X (pins++oP O s.heap) σ H s:=I.KH λp L=>(cs.mp L).elim (λz=>I.eH p (pf _ z)) λz=>by rw[R,J,e,XR z];obtain⟨f0,f1,f2,_⟩:=W _ J;rw[M,o,G,d,q _ J];grind
def ak.u8{σ:St}(I:ak X (pins++pl) σ H s):[ac]:=I.KH [DJ]
def adD(hp:[sr,X.xe])(O:[cF])(hi:[z7])(hg:PG X tg g)(J:fQ X body tb)(hs:[kX]:=by intro _;rfl):[hC,.For tg F body [] pos,ab7 wi g tb]:=by rw[aV,D,h,wpAny_For (a9 (hi _ s _ H _ I h) λv s1 h1=>a9 h1 λR9 s2 h2=>?_) hs];obtain⟨it,fp,tn,qj,H2,e,I2,T,t8,f2,S,⟨m0,w0⟩,turn⟩:=h2;subst e;rw[ae,nz,∀{H'},([eu,fp,[iL]])->[eu,fp,hG X _ H' b],λhn b J=>#[hn b J,[bo,f2 b J]],codeAny_forLoop_any (λn s'=>∃i mq H',ak X _ mq H' s'/\tn i [jG]/\[eu,fp,[iL]]/\S i n mq H') ?_ m0 #[0,σ,H2,I2,t8,λb J=>[M,f2 b J],w0]];rintro n s3⟨i,z,H3,I3,v1,q,L⟩;rcases turn i n _ H3 L with⟨stop,qn⟩|⟨go,N,hN,step⟩;{refine wo hp (a9 (T.done X Y Y Y O i _ s3 z H3 X.xe I3 (nz q) v1 stop) λr s4#[hr,I4]=>?_);rw[bf,hr,CW #[z,H3,I4,qn]]};{refine wo hp (a9 (T.item X Y Y Y O i _ _ _ _ _ I3 (nz q) v1 go) λr s4#[u,hr,h4]=>?_);subst hr;rw[aj,wo hp (a9 h4 λ_ s5#[x,H5,I5,r5,B,qp,U]=>?_),wo hp (a9 (hg _ s5 _ H5 x u _ (I5.pinned (nz U) (T.obj _ _ qp)) r5 (step x H5 B)) λ_ Z#[σ6,H6,I6,q6]=>?_)];refine wo hp (a9 (J _ Z _ H6 _ I6 q6) λf s7 G=>?_);(have again:∀{j}{H7},ak X _ _ H7 s7->N _ H7->∃m,m<n/\∃i mq H',ak X pins mq H' s7/\tn i _/\[eu,fp,[iL]]/\S i m mq H':=λ{j H7}I7 n7=>by rw[aL,m',hm,W,hN _ H7 n7,#[m',hm,[Y],j,H7,I7.u8,T.keep _ _ _ qp λb J o e=>[M,I7.eH _ [xW]],[fI],W]];rw[bu,o,e,d,T.obj _ _ qp b J,[ae,I7.eH _ [xW]]]);cases f with|next=>rw[dG,j,H7,I7,n7,G,again I7 n7]|cont=>rw[dG,j,H7,I7,n7,G,again I7 n7]|brk=>rw[dG,j,H7,I7,G,G,#[j,H7,I7.u8,G]]|ret v=>rw[an,x7,j,H7,I7,r7,G,G];exact#[x7,j,H7,I7.u8,r7,G]}
end
abbrev R2:=[qR]
def cH(X:Cx)(f:aq->aq->Sem aq)(r:R2):[P]:=[wL,x,y,v,u,r x y H Q,f v u]
def EQ(X:Cx)(f:aq->Sem aq)(r:V->[nC]):[P]:=[xj,x,V,v,aq,VK,bC x v,r x H Q,f v,[ji]]
def fF(X:Cx)(f:aq)(r:[pZ]):[P]:=[xj,xs,[cQ],us,[dV],VK,[iI],r xs H Q,gR f us,[ji]]
def kn(r:R2)(ta tb:TE):TE:=[pR,[zj,r x y H2 Q]]
def UG(r:V->[nC])(ta:TE):TE:=[pR,r x H1 Q]
def rI(C:[o3,[P]])(g:[o3,V]):R2:=[xF,C i j/\Q (g i j) H]
def oF(g:[o3,V]):R2:=[xF,Q (g i j) H]
def rU(g:Int->V):V->[nC]:=λx H Q=>∃i,x=[aP]/\Q (g i) H
section
variable{X:Cx}{a b c:bQ}{ta tb tc:TE}{pos:et}
def FW(L:[iC])(J:[mX]){σ:St}{R:V->V->[dL]}(I:[ac])(h:[wR,[zj,R x y H2]]){f:aq->aq->Sem aq}(U:[G4]):[Hw]:=by rw[aj,[cN,[r6],v,N,x,H1,j,G,z],[cN,[td,j,z],u,q,y,H2,Z,O,B]];grind
def xI(z:[lG,j,r])(L:[iC])(J:[mX]):[cj,.BinOp a j b pos,kn r ta tb]:=by rw[bJ];exact wpAny_BinOp [HO,O]
def agq(q:EQ X (unaryOp j) r)(J:[iC]):[cj,.UnaryOp j a pos,UG r ta]:=by rw[bJ];exact UnaryOp_ [ev,[ml],v,G,x,H1,S,L,z,q _ _ _ _ x v Q S L z]
def E2{g:[o3,Int]}(rule:[KE,C i j,[Ba,g i j,[DD]]]):cH X f (rI C [qV,g i j]):=by rw[cS];rw[an,i,j,rfl,rfl,O,q,h];rw[cw,z,N,rule i j t _ s _ _ O [o7]]
def M8{g:[o3,Int]}(rule:∀(i j:Int)(t u:iz)(s:aD)(Q:[el])(E:[el]),[Ba,g i j,[DD]]):cH X f (oF [qV,g i j]):=[KQ,[o7]]
def Ap{g:[o3,Bool]}(rule:[KE,Q (.bool (g i j)) s,aE [c4] X.A [DD] Q E s]):cH X f [su,g i j]:=[KQ,[lb,I]]
def Hq(i j:Int):[P]:=[En,i]\/[En,j]
def Hq.ok(h:Hq i j):IntMulOk i j:=by rcases h with⟨h1,h2⟩|⟨h1,h2⟩;rw[av,.of_left (intBits_le_64 h1 h2),.of_right (intBits_le_64 h1 h2)]
def ada:[lG,.Add,oF [qV,i+j]]:=M8 λ_ _ _ _ _ _ _ q=>add_int q
def Xy:[lG,.Sub,oF [qV,i-j]]:=M8 λ_ _ _ _ _ _ _ q=>sub_int q
def abV:[lG,.Mult,rI Hq [qV,i*j]]:=E2 λ_ _ _ _ _ _ _ O q=>mul_int q O.ok
def Z3:[lG,.Mod,rI (λ_ j=>0<j) [qV,i%j]]:=E2 λi j _ _ _ _ _ O q=>by exact mod_int' [g] [f]
def unI{g:Int->Int}(rule:∀(i:Int)(t:iz)(s:aD)(Q:[el])(E:[el]),[Ba,g i,f [sl]]):EQ X f (rU λi=>[l,g i]):=by intro pins s σ H x v Q I N h;rw[M,i,rfl,q,h];rw[aG,t,rfl,N,rule i t s _ _ [o7]]
def UB:EQ X (unaryOp .USub) (rU λi=>[l,-i]):=unI λ_ _ _ _ _ q=>neg_int q
end
def Rh:V->V->Bool|[aX],[aX]=>ae|[aX],[bK]=>ae|[bK],[aX]=>ae|[aX],[eO]=>ae|[eO],[aX]=>ae|[aX],[dD]=>ae|[dD],[aX]=>ae|[bK],[bK]=>ae|[eO],[eO]=>ae|[dD],[dD]=>ae|.ls _,.ls _=>ae|[bK],[dD]=>ae|[dD],[bK]=>ae|[eO],[dD]=>ae|[dD],[eO]=>ae|_,_=>af
def Yl:R2:=[d3,Rh x y=ae/\[iP,ao (x=y)]]
def rNe:R2:=[d3,Rh x y=ae/\[iP,! ao (x=y)]]
def A9:ao (V.int i=V.int j)=(i==j):=[f]
def OK:ao (V.bl i=V.bl j)=(i==j):=[f]
def Ox:ao (V.str i=V.str j)=(i==j):=[f]
def OS:ao (V.ls i=V.ls j)=(i.toList==j.toList):=[ey,gZ]
section
variable{X:Cx}{a b c:bQ}{ta tb tc:TE}{pos:et}
def d9{σ:St}(I:[ac])(q:[iP,k])(e:k=G):EP X pins σ Q (.bool G) s:=[bf,e,#[[bh,k],H,I,Y,q]]
def UZ:[dC,.Eq,Yl]:=by rw[cS];rw[R,O,q,h];cases x with|a0=>cases z;rw[cc,y,N,aqi [ek],j,aqj [ek],t',aqk [ek],aql [ek],O]|bl i=>rw[fv,aqm [ek],eq_bool [nc,OK],aqn [ek]]|int i=>rw[fb,aqo [ek],eq_int [nc,A9],aqp [ek]]|str i=>rw[cV];rw[cc,y,N,aqq [ek],j,aqr [ek],t',aqs [ek],eq_str [nc,Ox],O]|ls i=>(rw[cV];cases y with|ls j=>rw[aG,t',rfl,N,PySem.W.eq_bytes [nc,OS]]|_=>rw[da])|_=>cases y<;>exact [c8,[tn,O],iN]
def ad3:[dC,.NotEq,rNe]:=by rw[cS];rw[R,O,q,h];cases x with|a0=>cases z;rw[cc,y,N,aqt [ek],j,aqu [ek],t',aqv [ek],aqw [ek],O]|bl i=>rw[fv,aqx [ek],ne_bool [nc,jK not OK],aqy [ek]]|int i=>rw[fb,aqz [ek],ne_int [nc,jK not A9],aqA [ek]]|str i=>rw[cV];rw[cc,y,N,aqB [ek],j,aqC [ek],t',aqD [ek],ne_str [nc,jK not Ox],O]|ls i=>(rw[cV];cases y with|ls j=>rw[aG,t',rfl,N,PySem.W.ne_bytes [nc,jK not OS]]|_=>rw[da])|_=>cases y<;>exact [c8,[tn,O],iN]
def aaQ:[dC,.Lt,[su,ao (i<j)]]:=[yk,aiX q]
def wQ:[dC,.LtE,[su,ao (i<=j)]]:=[yk,le_int q]
def ab4:[dC,.Gt,[su,ao (j<i)]]:=[yk,gt_int q]
def Wm:[dC,.GtE,[su,ao (j<=i)]]:=[yk,ge_int q]
def KB:[dC,.Is,[d3,y=[aX]/\[iP,ao (x=[aX])]]]:=[IM,is_none_gen (d9 I q ?_)]
def Mb:[dC,.IsNot,[d3,y=[aX]/\[iP,! ao (x=[aX])]]]:=[IM,isnot_none_gen (d9 I q ?_)]
def cH.or(h:cH X f r)(h':cH X f j):cH X f [d3,r x y H Q\/j x y H Q]:=by rw[bm,y,u,z,N,q];rw[d_,q,q,q,h _ s _ H x y v u Q I z N q,h' _ s _ H x y v u Q I z N q]
def q7(b:bQ)(h:j≠.In:=by rw[ah])(h2:j≠.NotIn:=by rw[ah]):[wh]:=by rw[K,z,[bE,j,CmpOp.In],[f],q,[bE,j,CmpOp.NotIn],[f]];cases b<;>simp[r_,z,q]
def xy(z:[dC,j,r])(L:[iC])(J:[mX])(O:[wh]):[cj,[jc,j],kn r ta tb]:=by rw[bJ];exact wpAny_Compare1 [HO,W] O
def LM(t:TE):TT:=λσ H Q=>t σ H λx H'=>∃k,x=[bh,k]/\Q k H'
def xr(N:[dC,j,r])(L:[iC])(J:[mX])(W:[wh]):PT X [jc,j] (LM (kn r ta tb)):=by rw[aV,Q,h,aiT [ev,[r6],v,s1,x,H1,n,G,q,[ev,[td,n,q],u,s2,y,H2,Z,F,q2,a9 (N _ _ _ _ x y v u _ Z G F q2) λc s3#[z,B,S,O,k,e,U]=>?_]] W];subst e;rw[aT,O,nW #[B,S,U]]
def FA(r j:R2)(ta tb tc:TE):TE:=[pR,[zj,r x y H2 λz J=>∃k,z=[bh,k]/\[ao,k,tc σ J λB q=>j y B q Q,Q [bh,af] J]]]
def Wz(ho:[dC,j,r])(N:[dC,n,r'])(G:[iC])(J:[mX])(O:PE X c tc)(hm:Tn [j,n] [b,c]=af:=by with_unfolding_all rfl):[cj,[K'],FA r r' ta tb tc]:=by rw[aV,Q,h,Compare_chain [ev,G _ s _ H _ I h,v,s1,x,H1,I1,r1,W,chain_link [Gr,L,B,F]] hm];subst e;cases F;refine nW ?_;cases k with|false=>exact ite_ff #[[eO],B,S,Y,q]|true=>exact ite_tt (chain_last [ev,O _ _ _ _ _ S q,w',s4,z',H4,U,Z,q4,N _ _ _ _ y _ u _ Q U L Z q4])
def ZK(ho:[dC,j,r])(N:[dC,n,r'])(F:[iC])(J:[mX])(O:PE X c tc)(hm:Tn [j,n] [b,c]=af:=by with_unfolding_all rfl):PT X [K'] (LM (FA r r' ta tb tc)):=by rw[aV,Q,h,isTrue_chain [ev,F _ s _ H _ I h,v,s1,x,H1,I1,r1,W,test_link [Gr,G,H3,r3]] hm];subst e;cases r3;refine nW ?_;cases k with|false=>rw[M,k',e',q',q];rw[aT,e',ite_ff #[H3,S,q']]|true=>refine ite_tt (test_last [ev,O _ _ _ _ _ S q,w',s4,z',H4,U,r4,q4,a9 (N _ _ _ _ y _ u _ _ U G r4 q4) λd' s5#[z2,B,I5,Z,k2,e2,L]=>?_]);subst e2;rw[aT,Z,nW #[B,I5,L]]
def ss:bS<2^63:=[ah]
def aen:[lG,.Add,[d3,∃i j,x=[L,i]/\y=[L,j]/\i.length+j.length<=bS/\Q [L,i++j] H]]:=by rw[bm,y,u,G,N,h];rw[an,i,j,rfl,rfl,z,q,h];rw[cw,G,N,add_str (λt' tk=>[wM,[dD]]) z]
def mo(r:bq [x] us):∃u,us=[u]/\bC x u:=by cases r with|cons j q=>rw[bO];grind
def GK(r:bq [x,y] us):∃u j,us=[u,j]/\bC x u/\bC y j:=by cases r with|cons L q=>cases q with|cons z B=>cases B;grind
def acP(O:[cF]):[j_,"max",[Iy,j>i]]:=[F',max_two_ints [e5] [JS],j>i]
def afn(O:[cF]):[j_,"min",[Iy,j<i]]:=[F',min_two_ints [e5] [JS],j<i]
def VF:[sI,[bR,"str"],xs,∃i,xs=[[aP]]/\i.natAbs.log2<1920/\Q [L,kI i] H]:=by rw[cu];rw[ag,i,rfl,z,q,h];rw[dG,u,rfl,t,rfl,mo r,PySem.P.str_of_int z [wM,[dD]]]
def ae1:[j_,"ord",λxs H Q=>∃x,xs=[[L,x]]/\[eV]=1/\Q [l,x.cps.getD 0 0] H]:=by rw[cu];rw[ag,x,rfl,z,q,h];rw[dG,u,rfl,t,rfl,mo r,ord_of_one z [o7]]
end
structure tK (h : bP) (x dx C : ai) (mA : au → Option aq) : Prop where
 obj : h.get? x = aa (zc C dx)
 ns : h.Ns1 dx mA
 ne : dx ≠ x
def W6{h:bP}(n:[s2]):∃j,[dd,dx,j]/\[K3]:=by obtain⟨o,es,ep,q,hd,O,_,U⟩:=n;refine#[o,q,λname=>?_];have e:=U name;unfold nsFind findBy at e;rw[aQ,Array.find?_toList,e];rw[dU,IV,hd];dsimp only;split;rw[ay];{rw[eW,a,es.toList.any (·.refKey)=af,by rw[SQ];intro y L;rw[M,z,t,B,O y [f]];simp[DictEntry.refKey,B]]}
def tK.look(I:tK h x dx C mA):∃j,PySem.W.InstAt h x (zc C dx) C (aa j)/\[K3]:=let#[j,q,U]:=W6 I.ns;#[j,#[I.obj,Y,Y,q],U]
section
variable{prog:cP}{w:cz}{A:dc}{E:aq->aD->Prop}{s:aD}{K:aQ}{x dx C f:ai}{mA:au->Option aq}{name:au}{v:aq}
def VS(X:[qN])(I:[Dw])(q:CZ K C name=ae)(hh:IW K C=ae)(L:[rz,name]=aa ag)(W:mA name=[cV])(N:aiY v=ae)(h:Q v [tH,s,s.toks+1]):[dR,C0 [eA] name j]:=[bu,z,J,U,I.look,PySem.W.get_value X J [M,To q] (PySem.W.findObj_own hh L Y [f]) N h]
def YT(X:[qN])(I:[Dw])(q:CZ K C name=ae)(O:[rz,name]=aa [eq,f])(j:uF K [hx]=ae)(W:mA name=ag)(h:Q ([hx],[[eA]]) s):[dR,zf [eA] name pl]:=[bu,z,J,U,I.look,PySem.W.method_fn X J [M,To q] [bo,To q] O (ip.mp j) ([h6,[fO,IV _ _]=[cf]]) h]
def afT(X:[qN])(I:[Dw])(hs:[rz,"__setattr__"]=aa [gC,"object.__setattr__"])(hp:Tp K C=ae)(Z:Tq K C name=aa ag)(hh:IW K C=ae)(W:IK mA ns)(kH:[gI]<=bS)(h:∀h',tK h' x dx C (λy=>[fd,y,name,v,mA y])->wj dx s.heap h'->Q () [l3,h',s.toks+2]):[dR,zg [eA] name v]:=by rw[aL,od,S,U,I.look,PySem.W.set_plain X S hs (PySem.W.osa_open X S hp Z λb=>?_)];rw[M,G,O,J,PySem.W.any_some hh];rw[ao,bg [aJ,[aJ,wpAny_loadPart (I.obj) [aJ,aqE (PySem.W.looks_clsIn X O) ?_]]]];rw[J];rw[aj,bg [aJ,bg [hV]],wpAny_nsSet1 I.ns λh' L z=>?_];rw[an,n,q,F,j,B,N,L.count (aiZ _ v W)];rw[ao,ai0 j [q,B,ai1 [f]] ?_];exact bg (h _ #[[bG,z.2 _ (dt I.ne),I.obj],L,I.ne] z)
def afZ(X:[qN])(q:Tr K C=ae)(hi:[rz,"__init__"]=aa [eq,f])(O:PySem.W.typeIn K [hx]=aa [bR,"function"])(h:jf [g6] [tV,B] (.call [hx] #[[m,[bL]]::B,J]) (PySem.W.InitBack [bL] R) [Lg]):[o0,.call [iO] #[B,J],s]:=by exact PySem.W.make_core (PySem.W.makes_of X q) (PySem.W.looks_findIn X hi) (λself=>PySem.W.bind_fn X _ O) [fa] h
end
def iE(f:au)(v:V):([fw,V])->[fw,V]|[]=>[(f,v)]|(g,x)::r=>[A,g=f,(g,v)::r,(g,x)::iE f v r]
def J6(f g:au)(v:V):∀fs,(iE f v fs).lookup g=[fd,g,f,v,[lo,g]]|[]=>[h6,uG g [(f,v)]=_]|(k,x)::r=>by rw[[A']];rw[aJ,k=f];rw[ay];{rw[aw q];rw[br,h,g=k];{simp[uG,(ut.mpr h)];exact(J6 f g v r)}}
def Ee(f:au)(v:V):∀fs,f∈[lO,iE f v fs]/\∀g,g∈[zt]->g∈[lO,iE f v fs]|[]=>#[by simp[iE],λg h=>[f]]|(k,x)::r=>by rw[R,i1,I,Ee f v r];rw[a_,[A']]
def OC(f:au)(v:V):∀fs,[aN,iE f v fs,[tr]+1]|[]=>by simp[iE]|(k,x)::r=>by have q:=OC f v r;rw[a_,[A']]
def hU.yu(r:hU [cV] o):∃u,o=aa u/\[i1]:=by cases o with|none=>rw[ax,r]|some u=>exact#[u,Y,r]
def hU.aaM(r:hU ag o):o=ag:=by cases o with|none=>rfl|some u=>rw[ax,r]
def ac7(r:[i1]):aiY u=ae:=by cases v with|a0=>cases [aB,u=qD,r];rfl|bl b=>cases [aB,u=r9 b,r];rfl|int i=>rw[db,pb i t]|str x=>rw[db,CU x t]|ls b=>rw[db,Tg b t]|yr b=>rw[db,Th b t]|ref a=>cases [aB,u=da a,r];rfl|ty n=>cases [aB,u=uy n,r];rfl
section
variable{P:cP}{w:cz}{H H':Hp}{h h':bP}{a C dx:ai}{fs fs':List (au×V)}
def EV(aO:[iz])(e:H a=[nV]):∃mA,tK h a dx C mA/\[CH]/\IK mA [zt]/\[tr]<=1000/\H dx=aa [bl,a]:=by obtain⟨d,z,ne,ob,mA,n,r,q⟩:=[aB,[zh],aO a _ e];exact#[mA,#[ob,n,ne],r,q,z,d]
end
structure kl (K : aQ) (C : ai) : Prop where
 pg : CZ K C Str.empty = ae
 hd : IW K C = ae
 po : Tp K C = ae
 sa : mF K (.ref C) "__setattr__" = aa (aa (.builtin "object.__setattr__"))
def kl.get{K}(c:kl K C)(f:au):CZ K C f=ae:=c.pg
def oB(K:aQ)(C:ai)(f:au):[P]:=[rz,f]=aa ag
def oB.ag'{K}(n:oB K C f):Tq K C f=aa ag:=by unfold Tq;rw[a8,[aB,mF K _ f=[cf],n]]
structure pK (K : aQ) (C : ai) (m : au) (f : ai) : Prop where
 at_ : mF K (.ref C) m = aa (aa (.ref f))
 fn : uF K (.ref f) = ae
 kp : jg K (.ref f) = ae
section
variable{X:Cx}{pins:List (ai×bn)}{σ:St}{H:Hp}{s:aD}{a C dx:ai}{fs:List (au×V)}{f:au}{v:V}{A:dc}{E:aq->aD->Prop}
def Ms(I:[ac])(e:H a=[nV])(c:kl X.K C)(n:oB X.K C f)(l:[lo,f]=[cV])(h:∀u s',([c5,H,s'])->([i1])->Q u s'):[eG,[c4],C0 [aL] f b]:=by obtain⟨mA,O,r,_,_,_⟩:=EV I.aO e;rw[bu,u,hu,L,hU.yu (v:=v) (o:=mA f) [f],VS I.dY O (c.get f) c.hd n hu (ac7 L) (h u _ [hl] L)]
def Dw(I:[ac])(e:H a=[nV])(c:kl X.K C)(k:pK X.K C m g)(l:[lo,m]=ag)(h:Q ([m,g],[[aL]]) s):[eG,[c4],zf [aL] m pl]:=by obtain⟨mA,O,r,_,_,_⟩:=EV I.aO e;exact YT I.dY O (c.get m) k.at_ k.fn (hU.aaM [f]) h
def Qd(I:[ac])(e:H a=[nV])(c:kl X.K C)(n:oB X.K C f)(U:[tr]<1000)(N:[hz])(h:[uN,[f3,.aX C dx (iE f y fs)],()]):[eG,[c4],zg [aL] f u]:=by obtain⟨mA,O,r,B,_,L⟩:=EV I.aO e;rw[ae,W,[aN,[zt],bS],by rw[aR,kX];omega,afT I.dY O c.sa c.po n.ag' c.hd B W λh' j G=>h _ ?_];have hd:∃o,h'.get? _=[a9]:=let#[o,_,_,S,_]:=j.ns;#[o,S];rw[aj,I.write [yF] [aC,L] (λb q J z=>[bG,G.2 b J,z]) hd ?_,#[[a_,aW O.ne],?_,O.ne,j.obj,_,j.ns,λg=>?_,λg Z=>?_]];{rw[aM,OC f y fs]};{rw[J6];rw[aJ,g=f];{rw[a3,aJ q,aJ q,N]};grind};{rw[aJ,g=f];{rw[Y,q,[M,Ee f y _]]};{rw[gJ,(Ee f y _).2 g (B g λz=>Z ?_)]}}
def ak.made(I:[ac]):[c5,[xs,[ar],[bL],C],[Lg]]:=by rw[aA,z,[o_,[hN,C1]]=[cf],[cq],j,by have:=cZ [hN,C1] (o:=zc C [ar]) Y;rwa [gm]at this];rw[ae,B,[oh].Ns _ _,#[C1,[ca],_,z,Y,(λe O=>[f',O]),[bJ]],(I.laid (o:=[pc]) (t':=s.toks) [E5] (by simp) #[_,z]).laid [E5] (by simp) ?_];rw[ae,ne,[ar]≠[bL],di (by simp),#[by rw[aW ne,bW],[f6],ne,j,[mW],(ai2 B).at λo q=>[kD],λ_=>True.intro,λy L=>[c8,Y,L]]]
def Kj(J:eF e f env [tF]=[tF])(h:[mB,[tF],λo W=>[mB,C0 o f ae,Q,W],s]):[dR,aM [Dc] env]:=Attribute_any_ h (by rw[arm_eval_Attribute,J])
end
def X2(K:aQ)(ta:TE)(f:au):TE:=[pR,[HA,Q v H1]]
def Z6(K:aQ)(ta tv:TE)(f:au):TS:=λD σ H=>tv σ H λy H1=>ta σ H1 λx H2=>∃a C dx fs,[gy,H2 a=[nV],kl K C/\oB K C f/\[tr]<1000/\D.nx σ (upd H2 a (.aX C dx (iE f y fs)))]
def Km(X:Cx)(j:Operator)(rd:[qR]):[P]:=[wL,x,y,u,v,rd x y H Q,Tj j u v]
def U9(K:aQ)(ta tv:TE)(rd:[qR])(f:au):TS:=λD σ H=>[wR,[HA,tv σ H1 λy H2=>rd v y H2 λz J=>∃F fs',J a=aa (.aX C F fs')/\fs'.length<1000/\D.nx σ (upd J a (.aX C F (iE f z fs')))]]
section
variable{X:Cx}{o e value:bQ}{f:au}{pos pos' tpos:et}{ta tv:TE}
def aaH(O:[gA,ta])(J:[eF,e,f]):[cj,[Dc],X2 X.K ta f]:=by rw[bR,Q,Kj J (a9 [uk] λu G#[x,H1,j,z,a,C,dx,fs,v,ex,S,c,n,l,q]=>?_),ex,u=da a,z];exact Ms j S c n l λN W B L=>#[v,H1,B,L,q]
def Pp(J:PE X o ta)(W:PE X value tv)(O:[j4,value,aa (.Attribute o f pos')]):[hC,.Assign [.Attribute o f pos'] value pos,Z6 X.K ta tv f]:=by rw[bR,D,ai3 [ev,W _ s _ H _ I h,u,s1,y,H1,j,N,q,a9 [td,j,q] λG Z#[x,H2,U,L,a,C,dx,fs,ex,S,c,n,l,z]=>?_] O,ex,G=da a,L];exact Qd U S c n l N λF B=>#[σ,_,B,z]
def Zv(Z:PE X o ta)(W:PE X value tv)(G:Km X j rd):[hC,.AugAssign (.Attribute o f tpos) j value pos,U9 X.K ta tv rd f]:=by rw[bR,D,wpAny_AugAssign_AttributeAny (a9 (Z _ s _ H _ I h) λov s1#[x,H1,I1,rx,a,C,dx,fs,v,ex,ea,c,n,l,q]=>?_),ex,ov=da a,rx];rw[d8,Ms I1 ea c n l λu s2 I2 ru=>[ev,W _ _ _ _ _ I2 q,L,s3,y,H2,I3,N,q3,a9 (G _ _ _ _ v y u _ _ I3 ru N q3) λS s4#[z,H3,U,B,F,fs',O,J,q4]=>?_],Qd U O c n J B λs5 I5=>#[σ,_,I5,q4]]
def abI:[qR]:=[xF,Q [l,i+j] H]
def aez:Km X .Add abI:=by rintro pins s σ H x y u v Q I z N⟨i,j,rfl,rfl,q⟩;rw[cw,[aB,∃t,u=pb i t,z],[aB,∃t',v=pb j _,N],aiW [o7]]
def aol{σ:St}(J:[hW])(I:[ac])(h:[wn,x,∃a C dx fs g,[gy,H1 a=[nV],kl X.K C/\pK X.K C m g/\[lo,m]=ag/\∀L,([c5,H1,L])->[gb,zh pos [m,g] [[aL]] (dE pos [pE,j]) (jh pos (ji [] X.env)),Q,L]]])(O:[CC,e,j,G]):[gb,[eR,[em,e,m,apos,j,pos]],Q,s]:=by refine Tt (a9 [ml] λu L#[x,H1,S,N,a,C,dx,fs,g,ex,B,c,k,l,q]=>?_) O;subst ex;obtain rfl:u=da a:=N;exact Dw S B c k l (q _ S)
end
structure eI (k : Nat) (A : dc) : Prop where
 hd : A.handled = ag
 dp : A.depth + 3 * k + 5 < uH
 un : A.units + 16 * k + 200 < dM
def eI.mono(r:eI k A)(h:j<=k):eI j A:=#[r.hd,[aM,r.dp],[aM,r.un]]
def eI.deeper(r:eI [an] A)(env:jd):eI k (A.deeper env):=#[r.hd,by have:=r.dp;show A.depth+1+3*k+5<_;omega,by have:=r.un;show A.units+3+16*k+200<_;omega]
def J4{A:dc}:[tV,us].depth=A.depth+1:=by rfl
def af1{A:dc}:[tV,us].units=A.units+1:=by rfl
def eI.make(r:eI [an] A)(C:ai)(us:[h])(J:[h]):eI k [tV,us]:=#[r.hd,by have:=r.dp;rw[cx,J4],by have:=r.un;rw[cx,af1]]
def eI.depth(r:eI k A):A.depth<uH:=[aM,r.dp]
def eI.units(r:eI k A):A.units+64<dM:=[aM,r.un]
def tp:TA:=λ_ H Q=>Q [] H
def wD(ta:TE)(tr:TA):TA:=[pR,tr σ H1 λxs H2=>Q (x::xs) H2]
section
variable{X:Cx}{e:bQ}{es:List bQ}{te:TE}{t:TA}{pos:et}
def js:PA X [] tp:=λ_ _ _ _ H Q I h=>IX #[[],H,I,[aA],h]
def iZ(J:[hW])(U:PA X es t)(O:[ii,es]:=by rfl):PA X [jB] (wD te t):=by intro pos pins s σ H Q I h;rw[ci,O,C2 [cN,[ml],u,G,x,H1,S,j,q]];exact [ev,U _ _ _ _ _ _ S q,us,W,xs,H2,B,L,z,#[x::xs,H2,B,.cons j L,z]]
def abS(t:TA):TE:=[IK,[bs,xs]]
def Zf(t:TA):TE:=[IK,[ax,xs]]
def Q9(h:PA X es t):[cj,.Tuple es G pos,abS t]:=by rw[eP,wpAny_Tuple_spliced [GF]];exact#[z,us,r,#[_,[cq],Y,_,Y]]
def NN(h:PA X es t):[cj,.List es pos,Zf t]:=by rw[eP,wpAny_List_spliced [GF]];exact#[z,us,0,r,[cq]]
end
abbrev Sp:=([cQ])->Hp->VK->XK->[P]
abbrev sC:=List jd->Hp->aD->XK->[el]
structure sx (P : cP) (w : cz) (K : aQ) (mg : au → Option aq) (base : bP) (A : dc) (outer : List jd) (s : aD) (H : Hp) : Prop where
 frames : A.frames = aa outer
 mod : Mod K mg base
 bs : ∀ b o, base.get? b = aa o → s.heap.get? b = aa o ∧ H b = ag
 lM : base.objs.size ≤ s.heap.objs.size
 ko : s.heap.FunFrames base outer
 qh : ∀ b ∈ iQ outer, H b = ag
 aO : cV P w H s.heap
 bare : uz s.gens
def CE(outer:List jd)(P:cP)(w:cz)(H:Hp)(s:aD)(Q:VK)(u:aq)(s':aD):[P]:=∃v H',[G_,[i1],Q v H']
def CR(CX:sC)(outer:List jd)(P:cP)(w:cz)(H:Hp)(s:aD)(Q:VK)(E:XK)(r:zi)(s':aD):[P]:=match r with|[iy,u]=>CE outer P w H s Q u s'|.ok _=>False|[kT]=>CX outer H s E e s'
structure lT (P : cP) (w : cz) (K : aQ) (mg : au → Option aq) (base : bP) (CX : sC) (k : Nat) (f : ai) (fd : uI) (ps : List au) (sp : Sp) : Prop where
 len : ∀ vs H Q E, sp vs H Q E → vs.length = ps.length
 run : ∀ (A : dc) (outer : List jd) (s : aD) (H : Hp) (args : Args) (us : List aq) (vs : List V) (Q : VK) (E : XK), eI k A → sx P w K mg base A outer s H → IY s fd args (ps.zip us) → bq vs us → sp vs H Q E →
  jf (aK P w) A (.call (.ref f) args) (CR CX outer P w H s Q E) s
def sx.make{K}(e:[CY,A])(C:ai)(us:[h])(J:[h]):[CY,[tV,us]]:=#[by first|exact e.frames|rfl,e.mod,e.bs,e.lM,e.ko,e.qh,e.aO,e.bare]
section
variable{X:Cx}{pins:List (ai×bn)}{σ:St}{H:Hp}{s s':aD}
def ak.Ey(I:[ac]):sx X.prog X.w X.K X.mg X.base X.A [gq] s H:=#[I.ok.frames,I.ok.mod,I.bs,c9 I.ok.lM I.sz,I.stack,I.Gn,I.aO,I.bare]
def ak.after(I:[ac])(h:CE [gq] X.prog X.w H s Q u s'):EP X pins σ Q u s':=by rw[bV,v,H',os,bare,un,aO,r,q];rw[ac,hh,g,d,t,j,s'];obtain rfl:j=s.os:=os;exact#[v,H',I.call un aO bare (by simp),r,q]
end
def JU(sp:Sp)(dvs:[cQ])(E:XK)(t:TA):TE:=[kW,B,sp (B++dvs) H1 Q E]
def Ra(C:ai)(m:au)(sp:Sp)(dvs:[cQ])(E:XK)(ta:TE)(t:TA):TE:=[pR,∃a dx fs,[gy,H1 a=[nV],[lo,m]=ag/\t σ H1 λB H2=>sp (x::(B++dvs)) H2 Q E]]
def OD(C:ai)(sp:Sp)(dvs:[cQ])(E:XK)(t:TA):TE:=[kW,B,[GG,H1 x,H1 dx,upd H1 dx [bl,x]]]
def k7(K:aQ)(fd:uI)(ps:[dE])(ds:[dV]):[P]:=∀(s:aD)(us:[dV]),([qN])->[Q,us++ds]=[mF]->IY s fd #[us,[]] (ps.zip (us++ds))
def k7.all{K}(h:∀us,([zq])->IZ fd #[us,[]]=bx [sD]):k7 K fd ps []:=λs us _ U=>by rw[iu]at U|-;exact .of_eq (h _ U)
def lz(CX:sC)(X:Cx)(E:XK):[P]:=∀(pins:[eJ])(σ:St)(H:Hp)(s:aD)(e:aq)(s':aD),([ac])->CX [gq] H s E e s'->X.xe e s'
section
variable{X:Cx}{CX:sC}{k:Nat}{f C:ai}{fd:uI}{ps:List au}{sp:Sp}{dvs:List V}{ds:List aq}{E:XK}{x m:au}{p pos apos:et}{e o:bQ}{es:List bQ}{ta:TE}{t:TA}
def yx{σ:St}(F:[nF])(O:eI k X.A)(J:[ob])(hd:[oU])(L:[oT])(I:[ac])(r:bq vs us)(h:sp (vs++dvs) H Q E):[hD,gR [hx] us,[ji]]:=by have q:=r.append hd;rw[ae,U,[Q,us++ds]=[mF],[bB,q.length,F.len _ _ _ _ h],C4 (wp (F.run _ _ s H _ _ _ Q E O I.Ey (J s _ I.dY U) q h) λr s' z=>?_)];cases r with|error e=>exact L _ _ H s e _ I z|ok fl=>cases fl with|ret u=>exact I.after z|next=>exact eu z|brk=>exact eu z|cont=>exact eu z
def acE(F:[nF])(N:eI k X.A)(Z:[dI])(W:[fm,f])(O:jg X.K [hx]=ae)(J:[ob])(hd:[oU])(L:[oT])(G:[sm])(j:[jZ]:=by rw[ah])(z:[ii,es]:=by rfl)(U:[jD,es]:=by rfl):[cj,[fC,[jB]],JU sp dvs E t]:=by rw[bJ];rw[aj,nY (qc I Z W ?_ j),[Hx,O,n]];exact yx F N J hd L S r q
def aeF(F:[nF])(z:eI k X.A)(B:[dI])(O:[fm,f])(q:jg X.K [hx]=ae)(J:[ob])(hd:[oU])(L:[oT])(j:[jZ]:=by rw[ah]):[cj,[fC,[]],JU sp dvs E tp]:=by rw[aV,Q,h,nY (qc I B O ?_ j)];exact Tu I.dY q (yx F z J hd L I [aA] h)
def acu{pl}(Z:PE X o ta)(c:kl X.K C)(O:pK X.K C m f)(F:[nF])(N:eI k X.A)(J:[ob])(hd:[oU])(L:[oT])(G:[sm])(n:[ii,es]:=by rfl)(rF:[jD,es]:=by rfl)(W:[CC,o,[jB],j]:=by rfl):[mv,m,[jB],pos,Ra C m sp dvs E ta t]:=by rw[bR,Q,Tt (a9 (Z _ s _ H _ I h) λu s1#[x,H1,U,rx,a,dx,fs,ex,ea,l,q]=>?_) W,ex,u=da a,rx];rw[aj,Dw U ea c O l ?_,C5 I.ok.mod.tj O.kp [ev,G _ _ _ _ _ _ U q,us,s2,B,H2,S,r,q2,#[S.dY,?_]] n rF];exact yx (vs:=[aL]::B) F N J hd L S (.cons Y r) q2
def aaw(U:PE X o ta)(c:kl X.K C)(O:pK X.K C m f)(F:[nF])(G:eI k X.A)(J:[ob])(hd:[oU])(L:[oT])(W:[CC,o,[],j]:=by rfl):[mv,m,[],pos,Ra C m sp dvs E ta tp]:=by rw[bR,Q,Tt (a9 [yT] λu Z#[x,H1,S,N,a,dx,fs,ex,B,l,q]=>?_) W,ex,u=da a,N];rw[d8,Dw S B c O l ?_,Tu S.dY O.kp (yx (vs:=[[aL]]) F G J hd L S (.cons Y [aA]) q)]
structure Mk (K : aQ) (C f : ai) : Prop where
 agk : Tr K C = ae
 init : mF K (.ref C) "__init__" = aa (aa (.ref f))
 fn : uF K (.ref f) = ae
 kp : jg K (.ref C) = ae
def QD{σ:St}(M:Mk X.K C f)(F:[nF])(W:[vV])(J:[ob])(hd:[oU])(L:[oT])(I:[ac])(r:bq B us)(h:[GG,H x,H dx,[cu,dx,[bl,x]]]):[hD,gR [iO] us,[ji]]:=by rw[V,O,h _ _ [j1,Nat.le_succ _] [tA] (by simp),S,ak.made (C:=C) I];rw[aA,q,bq (V.ref [bL]::(B++dvs)) _,.cons Y (r.append hd),U,[hr,e,q.length,F.len _ _ _ _ O,e.symm]];refine C4 (afZ I.dY M.agk M.init (ip.mp M.fn) (wp (F.run _ _ _ _ _ _ _ _ E (W.make C _ _) (S.Ey.make C _ _) (J _ _ S.dY U) q O) λr s' z=>?_));cases r with|error e=>exact L _ _ _ _ e _ S z|ok fl=>cases fl with|ret u=>rw[an,v,H',G,n,j,N,S.after z];rw[bf,j,#[n,#[V.ref _,H',G,Y,N]]]|next=>exact eu z|brk=>exact eu z|cont=>exact eu z
def adr(M:Mk X.K C f)(F:[nF])(W:[vV])(N:[dI])(O:[fm,C])(J:[ob])(hd:[oU])(L:[oT])(G:[sm])(j:[jZ]:=by rw[ah])(z:[ii,es]:=by rfl)(U:[jD,es]:=by rfl):[cj,[fC,[jB]],OD C sp dvs E t]:=by rw[bJ];rw[aj,nY (qc I N O ?_ j),[Hx,M.kp,Z]];exact QD M F W J hd L S r q
def WP(M:Mk X.K C f)(F:[nF])(O:[vV])(z:[dI])(q:[fm,C])(J:[ob])(hd:[oU])(L:[oT])(j:[jZ]:=by rw[ah]):[cj,[fC,[]],OD C sp dvs E tp]:=by rw[aV,Q,h,nY (qc I z q ?_ j)];exact Tu I.dY M.kp (QD M F O J hd L I [aA] h)
end
structure Aj (N P : List au) (sc : fo) : Prop where
 kind : sc.kind = .function
 co : sc.isCoroutine = af
 gen : sc.isGenerator = af
 nd : N.Nodup
 pre : N.take P.length = P
 LU : ∀ x ∈ P, sc.names.lookup x = aa .local ∨ sc.names.lookup x = aa .cell
 aa_ : ∀ y ∈ sc.names, y.2 ≠ .free
def QV{kindOf}:[LW,si kindOf B m x]|[],_,_=>rfl|(n,v)::r,m,h=>by rw[dU,si,QV [f]];split;{grind};rfl
def No{kindOf}:[LW,uJ kindOf B m x]|[],_,_=>rfl|(n,v)::r,m,h=>by rw[dU,uJ,No [f]];split;{rfl};grind
def vG{kindOf}:[Id,kindOf x=[fj],si kindOf (P.zip B) m x]|[],_,_,_,_,h,_,_=>[hE]|[d4],[],_,_,_,_,h,_=>[hE]|p::P,w::B,0,m,nd,h1,h2,q=>by simp at h1 h2;subst h1;subst h2;show si _ ((p,w)::P.zip _) m p=_;unfold si;rw[QV [KC],aJ q];simp|p::P,w::B,[Y],m,nd,h1,h2,q=>[h5,si,vG (i:=i) [bo,mv.mp nd] [f] [f] q]
def P'{kindOf}:[Id,kindOf x≠[fj],uJ kindOf (P.zip B) m x]|[],_,_,_,_,h,_,_=>[hE]|[d4],[],_,_,_,_,h,_=>[hE]|p::P,w::B,0,m,nd,h1,h2,q=>by simp at h1 h2;subst h1;subst h2;show uJ _ ((p,w)::P.zip _) m p=_;unfold uJ;rw[No [KC],aw q];simp|p::P,w::B,[Y],m,nd,h1,h2,q=>[h5,uJ,P' (i:=i) [f] [f] [f] q]
def start(N:[dE])(B:[cQ]):St:=[eE,aa]++fH ([et]-[br]) ag
def ng (CX : sC) (P : cP) (w : cz) (K : aQ) (mg : au → Option aq) (base : bP) (N : List au) (qual : au) (scope : fo) (f : ai) (G : aq) (A : dc) (outer : List jd) (s : aD) (H : Hp) (E : XK) : Cx where
 prog := P
 w := w
 K := K
 mg := mg
 base := base
 A := A.deeper (kY qual scope s.heap.objs.size f G)
 N := N
 eD := s
 sA := H
 env := kY qual scope s.heap.objs.size f G
 outer := outer
 stack := kY qual scope s.heap.objs.size f G :: outer
 ex := []
 cg := ae
 fn := fun _ => ae
 pn := []
 xe := fun e s' => aE (aK P w) (A.deeper (kY qual scope s.heap.objs.size f G)) (leaving (kY qual scope s.heap.objs.size f G) e) (fun _ W => CX outer H s E e W) (fun J W => CX outer H s E J W) s'
def LS{sc:fo}(h:[n6,x]=[kc]):∃c,(fq n sc.names []).lookup x=aa c:=by exact Option.isSome_iff_exists.mp (ai4 _ n _ [J,h])
def aan{K}(S:Aj N ps scope)(hd:[gh])(I:[CY,A])(U:[br]=[mF])(r:bq B us)(x:[GR,G,[sD],F]):ak [yo,G] [] (start N B) H F:=by have rF:=[aM,jK mu S.pre];rw[ag,h1,tk,rfl,O,x.done];rw[ae,Z,∀b,b∉[yo,G].ex,λb z=>[f',[aB,b∈[],z]],#[#[I.mod,S.kind,Y,Y,[dq],λy z c h1 h2=>?_,λy L=>?_,λy c _ h=>?_,λ_=>hd,ai5 I.frames,[aC,#[Y,Y]],[yx],I.bs,I.lM,λb _ _=>Z b,[yx],I.ko,I.qh],Y,I.bare,Un.kept O,#[_,x.toInCall.ns,λi y v h1 h2 h3=>?_],λy c h=>#[_,x.cell y c h],[tA],λy c h=>?_,λp J=>[f',[aB,p∈[],J]],I.aO.kept O,?_]];{exact name_of_addr x.apart (jN h1) (jN h2)};{rw[d_,L,L,L,LS L,[c8,Y,S.aa_ _ (jN L)]]};{exact yQ (x.above y c (jN h))};{rw[K,hi,i<[br],by rw[am,start,h2];rw[D,hi,i<[br]];{exact hi};{rw[nT ([aD,hi])]at h2;rw[C6]at h2;split at h2<;>cases h2},W,[aY,B,v],by rw[am,start,h2];rw[lI ([aD,hi]),dR]at h2;grind];rw[M,u,hu,n,r.get W];rw[K,J,[aY,ps,y],by rw[<-S.pre,ai6 [g]];exact h1,j,ps.Nodup,[bB,S.pre,S.nd.sublist (List.take_sublist _ _)]];rw[bq,u,n];rw[a0,S.LU y (cG J),k,k,[J,#[k,vG j J hu k]]];{rw[bF,c,e,LS k,[aC,#[[J,k],c,e,?_]]];rw[hr,q,x.cell y c e,P' j J hu (by show [mi,y]≠_;rw[k];rw[ah]),q]}};{exact [j1,yQ (x.above y c (jN h))]};{unfold start;rw[h6,_=[et]]}
def Z2{K}{F kV rG pm O ct oc}(lk:[e9,f]=aa #[oc,od,.func [xx,vY,rG,an],t5])(gX:sj K O qual=ae)(S:Aj N ps scope)(len:∀B H Q E,sp B H Q E->[br]=[mF])(L:∀(A:dc)(outer:[h])(s:aD)(H:Hp)(B:[cQ])(Q:VK)(E:XK),eI k [D2]->sp B H Q E->∃t,fQ [yo,O] body t/\t {nx:=λ_ H'=>Q [aX] H',rt:=Q} (start N B) H):lT P w K mg base CX [an] f [xx,vY,rG,an] ps sp:=by rw[a7,len,λA outer s H j us B Q E hr W J r Ci=>?_];rw[V,KX,W.mod.tj.keeps [dB,[M,W.bs b o e]],lim,W.mod.nolimit.keeps [dB,[M,W.bs b o e]]];have z:∀y∈[sD],[mi,[b4]]=[cf]\/([mi,[b4]]=[cf]/\[er,(fq [bL] _ []).lookup [b4]]=ae):=λ#[n,v]hy=>[d_,S.LU n [M,j9 hy],q,q,[J,q],[aC,#[q,ai4 _ _ _ [J,q]]]];rw[aj,ai7 hr.depth (KX _ _ lk) Y S.co S.gen Y (ai8 KX gX) (J _ _ _ _ ?_),ai9 S.kind z λenv he s1 x=>?_];subst he;rw[a7,lim.keeps x.toInCall.keep,codeAny_func ?_];rw[M,t,ht,hq,L A _ s H _ Q E (hr.deeper _) Ci];rw[ae,I,ak (ng CX P w K _ _ N _ _ f _ A _ s H E) _ _ H _,aan S hr.hd W (len _ _ _ _ Ci) r x,[pr,ht _ _ _ H _ I hq,fl,s',U,λe s' U=>U]];have fj:∀{Z}{H'}{v}{u},ak [yo,O] [] Z _ _->([i1])->Q v _->CE _ P w H s Q u s':=λ{Z H' v u}G rv q=>#[v,H',G.os,G.bare,G.base,G.aO,rv,q];cases fl with|ret u=>rw[an,v,Z,H',G,rv,q,U];exact fj G rv q|next=>rw[dG,Z,H',G,q,U,fj (v:=V.a0) G Y q]|brk=>obtain⟨_,_,_,q⟩:=U;exact eu q|cont=>obtain⟨_,_,_,q⟩:=U;exact eu q
section
variable{X:Cx}{x:au}{p pos:et}{e:bQ}{es:List bQ}{t:TA}{id T:String}{r:List V->Hp->VK->Prop}
def wT(r:[pZ])(t:TA):TE:=[kW,B,r B H1 Q]
def D2(O:[j_,id,r])(Z:[dI])(U:[wf])(G:hl x=[gC,id])(N:[sm])(z:[zp]:=by rw[ah])(j:[jZ]:=by rw[ah])(J:[ii,es]:=by rfl)(W:[jD,es]:=by rfl):[cj,[fC,[jB]],wT r t]:=by rw[aV,Q,h,nY (oX I Z U G ?_ z j)];exact aqF [G9] J W
def xY(O:fF X [ix] r)(Z:[dI])(U:[wf])(G:hl x=aa [ix])(N:[sm])(z:[zp]:=by rw[ah])(j:[jZ]:=by rw[ah])(J:[ii,es]:=by rfl)(W:[jD,es]:=by rfl):[cj,[fC,[jB]],wT r t]:=by rw[aV,Q,h,nY (oX I Z U G ?_ z j)];exact CY [G9] J W
end
end L2
namespace HT
open PySem PyProof.Rows
def lexLt:([a0])->([a0])->Bool|[],[]=>af|[],[d4]=>ae|[d4],[]=>af|x::xs,y::ys=>[KZ]
def PU(x y:Int)(xs ys:[h]):lexLt (x::xs) (y::ys)=[KZ]:=rfl
def abO:lexLt [] []=af:=rfl
def YQ(y:Int)(ys:[h]):lexLt [] (y::ys)=ae:=rfl
def Xv(x:Int)(xs:[h]):lexLt (x::xs) []=af:=rfl
def acY(A:dc)(s:aD)(a:Int)(t:iz)(c:Int)(u:iz):∃e,Tv A s (.int a t) (.int c u) e/\(e=ae↔a=c):=#[(a==c),ai_ a t c u,by simp]
def UL(A:dc)(s:aD)(a:Int)(t:iz)(c:Int)(u:iz)(prog:cP)(w:cz)(E:[el])(Q:[el])(h:Q (.bool (ao (a<c))) s):[dR,Tw .Lt (.int a t) (.int c u)]:=aiX h
section
open PySem.SeqAt
open PySem.AutoSeq1(wpAny_loadPart')
open PySem.MeetsSeq PySem.MeetsSeq2 PySem.MeetsSeq3
def aeH(l b:ai)(G z:[lw])(n n2:Nat)(j dd2:[kF])(sl sl2:Array [gM])(ns ms:[a0])(hi:mG G.toList ns)(hj:mG z.toList ms):zk (Builtin.«tuple.__lt__» #[[[hA],[fZ]],[]]) (λ_ R s=>[bH,l,[rM,[od],j,.seq G n,sl]]/\[bH,b,[rM,[od],dd2,.seq z n2,sl2]]/\R (.ok [b1,.bool (lexLt ns ms)]) s):=.of_wp λprog w A R s h=>by rw[ac,hp,g,d,tk,os,s];rw[M,U,J,h,h];rw[a4,f2,AutoSeq1.sub_tuple_tuple,z1,G.size=[gI],by rw[<-hi.length];simp,z2,z.size=ms.length,by rw[<-hj.length];simp];wp_walk using[Ef],wpAny_loadPart' J,wpAny_forIn_list _ (λrest b s'=>b.1=ag/\s'=[yJ]/\∃(B ws:[dV])(N I:[a0]),rest=B.zip ws/\mG B N/\mG ws I/\[et]+z.size=I.length+G.size/\R (.ok [b1,.bool (lexLt N I)]) [yJ]) _;(case turn=>rintro⟨y,x⟩rest b s'⟨tZ,rfl,B,ws,N,I,hz,O,Z,gF,hR⟩;cases O with|nil=>rw[aq,ai',hz,hz]|cons a t S=>cases Z with|nil=>rw[aq,List.zip_nil_right,hz,hz]|cons c u yH=>rw[rS]at hz;injection hz with yE ahI;injection yE with hy L;subst hy L;rw[PU]at hR;rw[ap,b7,gF];rw[M,e,he,F,acY A.in1 [yJ] a t c u];rw[ao,he prog w _ _ ?_];cases e with|true=>rw[aJ (F.mp Y)]at hR;wp_walk;exact#[Y,Y,_,_,_,_,ahI,S,yH,[g],hR]|false=>rw[aw (λq=>[c8,F.mpr q,iN])]at hR;wp_walk using(UL A.in1 [yJ] a t c u prog w);exact#[_,Y,[aD,hR]]);(case fin=>rintro⟨b1,b2⟩s'⟨tZ,rfl,B,ws,N,I,hz,O,Z,gF,hR⟩;simp only at tZ;subst tZ;rw[aI,hv,lexLt N I=ao (G.size<z.size),by cases O with|nil=>(cases Z with|nil=>rw[ap,gK,gF];rw[Y,abO,[dH,nV [g]]]|cons c u W=>rw[aP,gK,b7,gF];rw[Y,YQ,[dH,uK [g]]])|cons a t hv=>cases Z with|nil=>rw[aP,gK,b7,gF];rw[Y,Xv,[dH,nV [g]]]|cons c u W=>rw[aq,rS,hz,hz],hv,hR];wp_walk;exact#[_,Y,[gp,aqG,hR]]);case h=>exact#[Y,Y,G.toList,z.toList,ns,ms,Y,hi,hj,[g],h]
end
section
variable{prog:cP}{w:cz}{A:dc}{E:aq->aD->Prop}{s:aD}
def Xr(U:wg s.heap l G)(J:wg s.heap b z)(hi:mG G.toList ns)(W:mG z.toList S)(hu:A.units<dM)(h:Q (.bool (lexLt ns S)) s):[dR,eU .Lt [hA] [fZ]]:=by obtain⟨⟨cls,j,apR,sl⟩,q,O,n,hd⟩:=id U;obtain⟨⟨ahx,F,data2,I⟩,B,N,Z,L⟩:=id J;subst O hd N L;exact richCompare_meets_room (op:=.Lt) #[_,q,Y] #[_,B,Y] PySem.F.slot_tuple_lt PySem.F.entry_tuple_lt (PySem.F.args_tuple_lt_2 _ _) (aeH l b _ _ n Z j F sl I _ _ hi W) [f] hu
def afU(G:wg s.heap t [kp])(J:wg s.heap b ws.toArray)(I:B≠[])(h1:ws=[]->Q [m,t] s)(h2:ws≠[]->[KM,B++ws])(U:[br]+[gD]<=bS):[dR,ph .Add [m,t] [fZ]]:=by obtain⟨⟨cls,j,Z,sl⟩,q,O,n,hd⟩:=id G;obtain⟨⟨ahx,z,data2,S⟩,F,N,n2,L⟩:=id J;subst O hd N L;(have e:[kp]++ws.toArray=[hc,B++ws]:=by simp);rw[D,W,ws=[]];{exact Tx #[_,q,Y] #[_,F,Y] Tz TB TC TD (TF _ _) (tuple_addW1 t b _ _ n _ _ _ _ _ ([aD,I]) (by simp[W])) #[q,F,h1 W]};{rw[gJ,Tx #[_,q,Y] #[_,F,Y] Tz TB TC TD (TF _ _) (tuple_addW2 t b _ _ n _ _ _ _ _ [f] ([a']) [f]) #[q,F,?_]]}
def dP(n d:Nat):([na])->Nat|ag=>d|[cV]=>[Jy]
def aoW(n d:Nat)(hd:d<=n)(o:[fP]):dP n d o<=n:=by cases o with|none=>exact hd|some v=>rw[h6,[L6]<=n]
def Kh(v:Int)(n d:Nat):[A,v<0,fk (v+(n)) 0,el v n]=dP n d [cV]:=[h6,[A,v<0,fk _ 0,el v n]=[L6]]
def UM(lo hi:[fP])(n:Nat):TH lo hi 1 n=([am,dP n 0 lo],[am,dP n n hi]):=by have h1:¬(1<0):=[g];unfold TH;refine Prod.ext ?_ ?_;{cases lo with|none=>rfl|some v=>exact Kh v n 0};{cases hi with|none=>rfl|some v=>exact Kh v n n}
def ae2(i j:Nat):TJ i j 1=j-i:=by unfold TJ;omega
def ND(p:uL v o)(h:Q o s):[dR,aqH v]:=by cases p with|none=>exact aja h|int i t=>exact slicePart_int h
def Yb{lo hi}{n:Nat}(O:[Ch])(pl:uL z lo)(j:uL N hi)(h:Q (dP n 0 lo,1,dP n n hi-dP n 0 lo) s):[dR,aqI [m,sl] (bx n)]:=by rw[ag,os,q,L,B,id O];rw[aW,[aJ,fu q B Y [aJ,fu q B Y [aJ,fu q B Y [cp]]]],aja ?_];rw[ao,ND pl [aJ,ND j (am [cp])]];show [sx,match TH _ _ 1 n with|(lo,hi)=>bx (lo,[am,1],TJ lo hi 1)];rw[UM _ _ n];show [sx,bx _];rw[Y,ae2,bg h]
def acW(xs:[lw])(i k:Nat):[hc,(br k).filterMap [Jr]]=[hc,(xs.toList.drop i).take k]:=by have e:[Jr]=λm=>xs[i+m]?:=[f];have:=pick_run xs i k;rw[eW,z,((λx=>xs[x]?)∘λx=>i+x)=λm=>xs[i+m]?,rfl]
def aeg{lo hi}(L:wg s.heap t G)(O:[Ch])(pl:uL z lo)(j:uL N hi)(W:¬([u2]=0/\[DA]=G.size))(h:[KM,[GN]])(I:G.size<=bS):[dR,wm [m,t] [m,sl]]:=by have n:=[h6,[GN].toArray.size<=bS];rw[ag,os,q,J,B,id O];have F:s.TypeIs [dP] _:=#[os,q,J];unfold wm;(try with_reducible refine kc ?_);rw[aW,wpAny_sequenceKey L.typeIs Y ?_,uM L.typeIs I0 (sm I0 L.typeIs entry_tuple_getitem ?_ (args_tuple_getitem _ _))];show [sx,aqJ _>>=_];rw[aW,tupleItemsOf_ L ?_,wpAny_typeOf F ?_];rw[ao,Yb O pl j ?_];have Z:¬(([am,[u2]]==0&&[am,1]==1&&([DA]-[u2])==G.size)=ae):=[f];show [sx,if([am,dP _ 0 _]==0&&(1)==1&&(dP _ _ _-dP _ 0 _)==G.size)=ae then _ else _];rw[aw Z,acW];first|exact [aJ,pi (bg #[_,Y,bg h]) n]|grind|grind|grind
end
end HT
namespace L2
open PySem PySem.Spec PyProof.Rows
abbrev TO:=[r5,[na]]
def PO(X:Cx)(e:[be,bQ])(t:TO):[P]:=[pH,Q,([na])->[dL],t σ H Q,evalPart e X.env,λu s'=>∃o H',[qQ]/\uL u o/\Q o H']
def adg:TO:=λ_ H Q=>Q ag H
def ahf(t:TE):TO:=[kW,x,∃i,x=[aP]/\Q (aa i) H1]
def Ny:∀{us},bq [jf] us->mG us ns:=by induction ns with|nil=>intro us r;rw[aT,r,[aA]]|cons n ns q=>intro us r;cases r with|cons j L=>rw[R,t,e,j];rw[bf,e,.cons n t (q L)]
section
variable{X:Cx}{e:bQ}{te:TE}{lo hi:Option bQ}{tl th:TO}{pos p2:et}
def N9:PO X ag adg:=by rw[bJ];exact bg #[ag,H,I,[aZ],h]
def Bf(h:[hW]):PO X (aa e) (ahf te):=by rw[aV,Q,W,[cN,[Ee],u,L,x,H1,S,j,z]];rw[M,i,rfl,q,z];rw[aG,t,rfl,j,#[aa i,H1,S,[sl],q]]
def n'(X:Cx)(r:[t9]):[P]:=∀(pins:[eJ])(s:aD)(σ:St)(H:Hp)(x:V)(v z N:aq)(lo hi:[na])(sl:ai)(Q:VK),([ac])->bC x v->([Ch])->uL z lo->uL N hi->r x lo hi H Q->∃T id,iO [ix] "__getitem__"=bx [gC,id]/\s.TypeIs v T/\[hD,wm v [m,sl],[ji]]
def n'.or(h:n' X r)(h':n' X J):n' X (λx lo hi H Q=>r x lo hi H Q\/J x lo hi H Q):=by intro pins s σ H x v z N lo hi sl Q I G O pl j q;rw[d_,q,q,q,h _ s _ H x v _ _ _ _ _ Q I G O pl j q,h' _ s _ H x v _ _ _ _ _ Q I G O pl j q]
def tSl(r:[t9])(te:TE)(tl th:TO):TE:=λσ H Q=>[wn,x,tl σ H1 λl H2=>th σ H2 λu z=>r x l u z Q]
def Fm(B:n' X r)(F:[hW])(U:PO X lo tl)(hu:PO X hi th):[cj,.Subscript e (.Slice lo hi ag p2) pos,tSl r te tl th]:=by rw[bJ];rw[aj,Subscript_ [cN,F _ s _ H _ I h,v,s1,x,H1,I1,n,W],wpAny_Slice [ev,U _ _ _ _ _ I1 W,z,s2,l,H2,I2,pl,q2,[cN,hu _ _ _ _ _ I2 q2,N,G,u,H3,Z,j,q3]]];refine [cp];have O:ak X _ _ _ [mM,G,G.heap.push [pW,"slice",[z,N,[aZ]]]]:=Z.kept [E7];rw[ac,T,id,L,J,S,B _ _ _ _ x v _ _ l u _ Q O n (aqK ..) pl j q3];exact I_ J L S Y
def vL(xs:[cQ])(lo hi:[na]):[cQ]:=(xs.drop [tl,[cE]]).take (HT.dP [cE] [cE] hi-[tl,[cE]])
def NB(xs:[cQ])(lo hi:[fP]):[aN,vL xs lo hi,[cE]]:=[b8,vL]
def MG(K:aQ):[t9]:=λx lo hi H Q=>∃a xs,[gy,[vG],¬([tl,[cE]]=0/\HT.dP [cE] [cE] hi=[cE])/\[jY,p,[bs,vL xs lo hi]]]
def Ew:n' X (MG X.K):=by intro pins s σ H x v z N lo hi sl Q I G J pl j h;rw[an,a,xs,rfl,L,W,q,h];cases G;rw[ag,az,r,O,U,[e',L]];(have B:[uY]=[cE]:=by exact r.length.symm);rw[aj,#["tuple",_,I0.lookup,O.typeIs,?_],HT.aeg O J pl j [f] ?_ [f]];rw[ci,B,#[[dP],_,[Br],Y,q _ [mr]]];exact#[c9 (NB _ _ _) U,_,(r.drop _).take _,TK _ _]
def ahi(K:aQ):R2:=[d3,∃a b ns I,[gy,y=[fZ],cw K H a [jf]/\cw K H b (I.map V.int)/\[iP,HT.lexLt ns I]]]
def Xa(hu:X.A.units<dM):[dC,.Lt,ahi X.K]:=by rw[cS];obtain⟨a,b,ns,S,rfl,rfl,O,J,q⟩:=h;cases z;cases N;rw[bN,az,j,G,[e',O],B,L,p2,[e',J]];exact HT.Xr G p2 (Ny j) (Ny L) hu [lb,I]
def Zx(K:aQ):R2:=[d3,∃a b xs ys,[gy,y=[fZ],[vG]/\cw K H b ys/\xs≠[]/\[cE]+[mY]<=bS/\(ys=[]->Q [aL] H)/\(ys≠[]->[jY,p,[bs,xs++ys]])]]
def bq.Bn(r:[iI]):us=[]↔xs=[]:=by cases r with|nil=>simp|cons _ _=>simp
def aeI:[lG,.Add,Zx X.K]:=by rw[bm,y,u,O,N,h];obtain⟨a,b,xs,ys,rfl,rfl,S,J,L,Z,W,B⟩:=h;cases O;cases N;rw[bN,az,G,U,[e',S],F,j,p2,[e',J]];rw[aj,HT.afU U p2 (λz=>L (G.Bn.mp z)) (λz=>#[[aL],H,I,Y,W (j.Bn.mp z)]) [lj] (by rw[<-G.length,<-j.length];grind),#[[dP],_,[Br],Y,B (λw=>z (j.Bn.mpr w)) _ [mr]]];exact#[[f],_,G.append j,TK _ _]
end
def oa(n:Nat)(i:Int):[kx]:=[G6]
def oY{U:[aI]}(xs:[gu])(i:Int):[be,U]:=(oa [cE] i).bind λj=>xs[j]?
def M3(h:oa n i=aa j):seqIndex? i n=aa j/\j<n/\-n<=i/\i<n:=by rw[am,oa,h];rw[D,h0,0<=i];{rw[aJ h0]at h;rw[D,h1,i<n];{rw[aJ h1]at h;rw[bh,e,uA h,#[by rw[Ja h0 h1,e],[g],[g],h1]]};grind};{rw[aw h0]at h;rw[D,h1,-n<=i];{rw[aJ h1]at h;rw[bh,e,uA h,#[by rw[Jb [g] h1,e],[g],h1,[g]]]};grind}
def zO(h:oY xs i=[cV]):∃j,seqIndex? i [cE]=aa j/\[cb,xs,v]/\j<[cE]/\-[cE]<=i/\i<[cE]:=by rw[am,oY,h];cases e:oa [cE] i with|none=>rw[a']|some j=>rw[ag,h1,h2,z,q,M3 e];grind
def GA(b:bQ):[P]:=∀o i,subscripted b af o i=operate [o,i] (wm o i)
def k_(X:Cx)(r:R2):[P]:=∀(value O:bQ)(pins:[eJ])(s:aD)(σ:St)(H:Hp)(x y:V)(v u:aq)(Q:VK),([ac])->bC x v->([hz])->r x y H Q->subscripted O af v u=operate [v,u] (wm v u)->[hD,subscriptTail value O v u,[ji]]
def mZ(X:Cx)(id:String)(r:[np]):[P]:=[FQ]
section
variable{X:Cx}{a b:bQ}{ta tb:TE}{pos:et}
def k_.or(h:k_ X r)(h':k_ X j):k_ X [d3,r x y H Q\/j x y H Q]:=by intro value O pins s σ H x y v u Q I z N q J;rw[d_,q,q,q,h _ _ _ s _ H x y v u Q I z N q J,h' _ _ _ s _ H x y v u Q I z N q J]
def PZ(U:k_ X r)(L:[iC])(J:[mX])(O:GA b):[cj,.Subscript a b pos,kn r ta tb]:=by rw[bJ];exact Subscript_ (FW L J I h λv u j x y H2 S z N q=>U a b _ _ _ _ x y v u Q S z N q (O _ _))
def Fp(K:aQ):R2:=[Ig,bp K H p xs]
def AA(K:aQ):R2:=[Ig,cw K H p xs]
def Kk:R2:=[d3,∃z i c,x=[L,z]/\y=[aP]/\z.length<=bS/\oY z.cps.toList i=aa c/\Q [L,#[[fg,[c]]]] H]
def Vt:k_ X (Fp X.K):=by intro value O pins s σ H x y v u Q I F N h G;rw[dL,xs,n,S,F,hz,[eD,n]];rw[an,j,h1,h2,h3,B,W,zO S];rw[M,w,ew,L,r.get h2];rw[V,U,r.length,hn,ss];have J:EP X _ _ Q w s:=#[z,H,I,L,q];rw[dA,i,Z,W,h1,item_listR [mQ] h0 [g] ([a']) J G,B,ajb pl.isList.typeIs ajc.lookup [LY,#[Y,J]] G]
def Nl:k_ X (AA X.K):=by intro value O pins s σ H x y v u Q I G N h J;rw[dL,xs,W,U,G,S,[e',W]];rw[an,j,h1,h2,F,Z,h5,zO U];rw[M,w,ew,L,r.get h2];rw[ai,n,ss,B,EP X _ _ Q w s,#[z,H,I,L,q]];exact ajb pl.typeIs I0.lookup (getItem_tuple (j:=j) pl [g] [g] (by rw[pj,<-(r.length)];grind) [f] #[Y,B]) J
def aas:k_ X Kk:=by intro value O pins s σ H x y v u Q I G N h J;rw[bV,z,i,c,rfl,rfl,W,L,q];rw[R,t,rfl,G];rw[R,t',rfl,N];rw[an,j,h1,h2,Z,B,F,zO L];rw[aA,U,z.cps.toList.length=z.length,by rfl,S,ss];exact I_ Y slot_str_getitem.lookup (getItem_str [f] [f] [wM,[dD]]) J
def Zi(K:aQ):R2:=[d3,Fp K x y H Q\/AA K x y H Q\/Kk x y H Q]
def aeC:k_ X (Zi X.K):=Vt.or (Nl.or aas)
def aeA(az:[h])(n j:Nat)(u:aq):lJ (·.setIfInBounds j u) [pU]=[sC,[hc,az.set j u],n]:=by simp[lJ]
def ak.lst{σ:St}(I:[ac])(h:[m9,p]):∃(az:[h])(n:Nat),bq xs az/\[bH,p,[pU]]/\[q2]:=by rw[ac,z,az,n,r,e,I.aO p _ h];grind
def ak.abT{σ:St}{az B:[h]}(I:[ac])(h:[m9,p])(z:[bH,p,[pU]])(O:f [pU]=[sC,[kp],j])(r:bq ys B)(L:[mY]<=bS)(t:Nat):[c5,[e0,[ax,ys]],[l3,[ss,p,f],t]]:=by rw[ae,e,[ss,p,f].get? p=aa [sC,[kp],j],by rw[mH f z (by rw[O]<;>rfl),O],I.write ([jn,h]) [fa] (λb u J q=>[bG,[k9,J],q]) #[_,e] ?_];exact#[L,B,j,r,e]
def J8:V->V->V->Hp->([dL])->[P]:=λo i v H Q=>∃p xs k j,o=[dp]/\i=[l,k]/\[m9,p]/\oa [cE] k=aa j/\Q [e0,[W,xs.set j v]]
def El:BN X J8:=by intro pins s σ H o i v ov O u Q I ro z F h;obtain⟨p,xs,k,j,rfl,rfl,W,Z,q⟩:=h;cases ro;rw[cV];rw[ac,az,n,r,J,S,I.lst W];rw[ag,h1,h2,N,G,M3 Z];rw[V,U,r.length,hn,ss];have B:=I.abT W J (aeA _ n j u) (r.set F j) ([a']) s.toks;rw[dA,k,L,G,h1,PySem.W.ki_setAt J h0 [g] [f] [q,L,#[_,B,q]],N,PySem.W.ki_setBack J [g] [f] [g] [q,L,#[_,B,q]]]
def ae_(lo hi:[fP])(n:Nat):[M,C7 lo hi ag n]=[tl,n]/\[ae,C7 lo hi ag n]=HT.dP n n hi/\[aE,C7 lo hi ag n]=1:=by refine#[?_,?_,Y];{cases lo with|none=>rfl|some i=>rw[aa,C7,HT.dP];grind};{cases hi with|none=>rfl|some i=>rw[fN,C7,HT.dP]}
def X'(az:[h])(lo hi:[fP]):slicePick [hb] lo hi ag=[hc,(az.drop [tl,[oW]]).take (HT.dP [oW] [oW] hi-[tl,[oW]])]:=by rw[M,h1,h2,q,ae_ _ _ _];unfold slicePick;rw[h1,h2,q];simp only[sliceRange_one,pick_run]<;>rfl
def N0(K:aQ):[t9]:=λx lo hi H Q=>∃a xs,[gy,[lP,xs],[jY,p,[W,vL xs lo hi]]]
def G0:n' X (N0 X.K):=by intro pins s σ H x v z N lo hi sl Q I G J pl j h;rw[ac,a,xs,rfl,L,q,h];cases G;rw[ag,az,r,O,U,[eD,L]];have W:=r.length;rw[aj,#["list",_,ajc.lookup,O.isList.typeIs,?_],wpAny_getItem_list_slice O.isList J pl j [aZ] (by simp) ?_ [f]];rw[X',<-W];rw[d8,#[[dP],_,[Br],Y,q _ [mr]],#[c9 (NB _ _ _) U,_,0,(r.drop _).take _,[cq]]]
def oV:V->Bool|[aX]=>ae|[eO]=>ae|[bK]=>ae|[dD]=>ae|_=>af
def oE:V->V->Bool|[aX],[aX]=>ae|[bh,a],[jR]=>a==b|[bh,a],[l,b]=>[A,a,1,0]==b|[kK],[jR]=>a==[A,b,1,0]|[kK],[l,b]=>a==b|[L,a],[L,b]=>a==b|_,_=>af
def adx(N:[hz])(z:bC x v)(q:oV y=ae)(fx:oV x=ae):Tv A s u v (oE y x):=by cases y with|a0=>cases N;rw[cc,x,z,SeqAt.EqAt.same _,b,SeqAt.EqAt.none_bool b,t,SeqAt.EqAt.none_int b t,SeqAt.EqAt.none_str b t,fx]|bl a=>cases N;rw[cc,x,z,SeqAt.EqAt.bool_none a,b,SeqAt.EqAt.bool_bool a b,t,SeqAt.EqAt.bool_int a b t,SeqAt.EqAt.bool_str a b t,fx]|int a=>rw[R,t',rfl,N];rw[cc,x,z,SeqAt.EqAt.int_none a t',b,SeqAt.EqAt.int_bool a t' b,t,ai_ a t' b t,aiO a t' b t,fx]|str a=>rw[R,t',rfl,N];rw[cc,x,z,SeqAt.EqAt.str_none a t',b,SeqAt.EqAt.str_bool a t' b,t,aiP a t' b t,SeqAt.EqAt.str_str a t' b t,fx]|_=>rw[bi,[tn,q],iN]
def pG(x:V)(u:aq):Bool:=match u with|[aZ]=>oE [aX] x|.bool b=>oE [jR] x|.int i _=>oE [aP] x|.str z _=>oE [L,z] x|_=>af
def PV(r:[hz])(f:oV y=ae):pG x u=oE y x:=by cases y with|a0=>cases r;rfl|bl b=>cases r;rfl|int i=>rw[bS,r]|str z=>rw[bS,r]|_=>exact [f',[tn,f]]
def wR:∀{xs}{us},([iI])->xs.all oV=ae->us.any (pG x)=xs.any λy=>oE y x|_,_,[aA],_=>rfl|y::xs,u::us,[oz],f=>by rw[e8,aF]at f;rw[n3,n3,PV r f.1,wR t [gv]]
def xD(q:bC x v)(fx:oV x=ae):∀{xs}{us},([iI])->xs.all oV=ae->∀u∈us,Tv A s u v (pG x u)|_,_,[aA],_=>λu hu=>[f]|y::xs,u::us,[oz],f=>λN hu=>by rw[e8,aF]at f;rw[aK,[c1,hu],rfl,hu];{rw[Y,PV r f.1,adx r q f.1 fx]};{exact xD q fx t [gv] _ hu}
def AG(x:V)(xs:[cQ]):Bool:=xs.any λy=>oE y x
def AB(K:aQ)(neg:Bool):R2:=[d3,∃p xs,y=[dp]/\[x4,K,xs]/\oV x=ae/\xs.all oV=ae/\[iP,[A,neg,! AG x xs,AG x xs]]]
def ahb:[dC,.In,AB X.K af]:=[FE,SeqAt.in_listAt _ [mQ] [xz] [yn],SeqAt.in_tupleAt _ pl [xz] [yn]]
def afJ:[dC,.NotIn,AB X.K ae]:=[FE,SeqAt.notIn_listAt _ [mQ] [xz] [yn],SeqAt.notIn_tupleAt _ pl [xz] [yn]]
def ag0:[j_,"len",[B9,[x4,X.K,ys]/\Q [l,[mY]] H]]:=by rw[cu];rw[ac,p,ys,rfl,z,q,h];rw[M,u,rfl,N,mo r];cases N;have O:=ss;rw[aK,z,z,z];{rw[ag,az,j,pl,L,[eD,z]];rw[bh,U,j.length,Calls.call_len_list [mQ] [f] [J5]]};{rw[ag,az,j,pl,L,[e',z]];rw[bh,U,j.length,len_tuple pl [f] [J5]]}
def VY:[j_,"len",λxs H Q=>∃z,xs=[[L,z]]/\z.length<=bS/\Q [l,z.length] H]:=by rw[cu];rw[ag,z,rfl,L,q,h];rw[ag,u,rfl,t,rfl,mo r];rw[bh,U,ss,len_str [g] [o7]]
def RY:fF X [je] [B9,[x4,X.K,ys]/\[jY,l,[ax,ys]]]:=by rw[cu];rw[ac,p,ys,rfl,L,q,h];rw[M,u,rfl,W,mo r];cases W;have N:∀(az:[h]),bq _ _->[mY]<=bS->∀(h':bP)(G:Nat),(∀b o',[wv,b]=[cf]->[iZ,b]=[cf])->h'.get? _=[cf]->EP X _ _ Q _ _:=λaz j z h' G kp e=>#[[dP],_,I.laid (t':=s.toks) kp [dq] [aB,c7 _ _ _ _ _ [b6],#[z,az,G,j,e]],Y,q _ [mr]];rw[aK,L,L,L];{rw[ag,az,j,pl,z,[eD,L]];have U:=j.length;rw[ac,o,J,O,n,hd,pl.isList];exact call_list_seq p [fa] J O hd (λh' G kp e=>N _ j z _ _ kp e) [f]};{rw[ag,az,j,pl,z,[e',L]];have U:=j.length;rw[ac,o,J,O,n,hd,pl];exact call_list_seq p [aC,Y] J O hd (λh' G kp e=>N az j z _ _ kp e) [f]}
def aeP:fF X [od] [B9,(bp X.K H p ys/\[jY,l,[bs,ys]])\/(cw X.K H p ys/\Q [dp] H)]:=by rw[cu];rw[ag,p,ys,rfl,h,h];rw[M,u,rfl,N,mo r];cases N;rcases h with⟨z,q⟩|⟨z,q⟩;{rw[ag,az,j,pl,L,[eD,z]];rw[aZ,U,j.length,call_tuple_list [mQ] (λh' kp=>?_) [f]];rw[V,S,I.kept (t':=s.toks) kp,B,S.laid (t':=s.toks) [rh] (by simp) [aB,c7 _ _ _ _ _ (.tup _),#[L,az,j,TK _ _]]];exact#[[dP],_,B,Y,q _ [Bm]]};{rw[dG,az,j,pl,L,[e',z],call_tuple_same pl #[[dp],H,I,Y,q]]}
def FX(K:aQ)(T:String)(x:V)(H:Hp):[P]:=match x with|[dD]=>T="str"|[bK]=>T="int"|[dp]=>(T="list"/\∃xs,bp K H p xs)\/(T="tuple"/\∃o,[e9,p]=[a9]/\o.cls=[od]/\o.dict=ag)\/(T="dict"/\((∃kvs,H p=aa [mS])\/∃kvs,H p=aa [oK]))\/(T="set"/\∃S n,H p=aa [cD,S,n])|_=>False
def Pj{σ:St}(I:[ac])(r:bC x v)(ty:FX X.K T x H):s.TypeIs v T/\∀a,v=[aL]->∃ob,[bH,a,ob]/\[lN]=ag:=by cases x with|str z=>rw[R,t,rfl,r];cases [aB,T="str",ty];rw[aS,C8 s z t,[DG]]|int i=>rw[R,t,rfl,r];cases [aB,T="int",ty];rw[aS,typeIs_int s i t,[DG]]|ref p=>cases r;rcases ty with⟨rfl,xs,L⟩|⟨rfl,o,q,O,hd⟩|⟨rfl,q⟩|⟨rfl,S,n,q⟩;{obtain⟨az,_,pl,_⟩:=[eD,L];rw[a7,pl.isList.typeIs,[ou]];rw[cI];obtain⟨o,n,e,c,hd,_⟩:=pl;grind};{rw[a7,#[o,I.dY p o q,O],[ou]];rw[aT,e,#[o,I.dY _ o q,hd]]};{(have z:∃o,[bH,p,o]/\o.ExactDict:=by rcases q with⟨kvs,q⟩|⟨kvs,q⟩;{rw[fy];rw[a']};{rw[fy];grind});rw[aL,o,e,ex,z,#[#[o,e,ex.1],λa j=>?_]];rw[aT,j,#[o,e,[ae,ex]]]};{obtain⟨o,_,_,_,e,ex,_⟩:=I.aO p _ q;rw[a7,#[o,e,ex.1],λa j=>?_];rw[aT,j,#[o,e,[ae,ex]]]}|_=>exact eu ty
def abz(K:aQ)(T:String)(r:[np])(to:TE):TE:=[xU,FX K T x H1,r x [] H1 Q]
def tBM(K:aQ)(T:String)(r:[np])(to:TE)(t:TA):TE:=[xU,FX K T x H1,t σ H1 λxs H2=>r x xs H2 Q]
variable{o e:bQ}{es:List bQ}{to:TE}{t:TA}{name:au}{apos cpos:et}{T id:String}{r:V->List V->Hp->VK->Prop}
def adj(j:PlainAttrs T)(slot:Slot T name id)(q:[tT])(O:mZ X id r)(J:[oQ])(W:[Ae]:=by rfl)(B:[cB,[sT],cpos.line]:=by rfl):[mv,name,[],cpos,abz X.K T r to]:=by rw[aV,Q,h,wpAny_Call_method0_late W B (a9 [ml] λv G#[x,H1,S,L,ty,z]=>?_)];rw[aG,h1,h2,Pj S L ty,#[T,id,j,slot,q,h1,h2,zl Y (C_ (O _ _ _ _ x _ v _ Q S L [aA] z))]]
def Fa(j:PlainAttrs T)(slot:Slot T name id)(q:[tT])(Z:mZ X id r)(ho:[oQ])(O:[sm])(W:[Ae]:=by rfl)(n:[AG,cpos,[pE,[jB]],X.env,[jB]]:=by rfl)(N:[cB,[sT],cpos.line]:=by rfl)(U:[ii,es]:=by rfl)(z:[wy,cpos,es]:=by rfl):[mv,name,[jB],cpos,tBM X.K T r to t]:=by rw[aV,Q,h,wpAny_Call_method_late W n N Y (a9 [Du] λv s1#[x,H1,S,J,ty,G]=>?_)];rw[bF,h1,h2,Pj S J ty,#[T,id,j,slot,q,h1,h2,?_]];have L:=O cpos _ _ _ _ _ S G;rw[U]at L|-;rw[d8,zl [f] (Jc ?_),[ev,L,us,s2,B,H2,F,r2,q2,Z _ _ _ _ x _ v _ Q F J r2 q2]]
end
def DR(X:Cx)(id:String)(r:[np]):[P]:=[FQ]
def bq.one:∀{x}{us},bq [x] us->∃u,us=[u]/\bC x u|_,_,.cons r [aA]=>#[_,Y,r]
def bq.zero:∀{us},bq [] us->us=[]|_,[aA]=>rfl
def bq.dropLast(h:[iI]):bq xs.dropLast us.dropLast:=by induction h with|nil=>exact [aA]|cons r t U=>cases t with|nil=>grind|cons q t'=>exact .cons r U
def alp{U:[aI]}(l:[gu]):l.eraseIdx ([E]-1)=[v5]:=[f]
section
variable{X:Cx}{pins:List (ai×bn)}{σ:St}{H:Hp}{s:aD}{l b:ai}{xs ys zs:List V}
def ak.D1{az B:[h]}(I:[ac])(O:[m9,l])(e:[bH,l,[pU]])(W:f [hb]=[kp])(L:bq ys B)(z:[mY]<=bS):[c5,[cu,l,[ax,ys]],[l3,[ss,l,lJ f],t']]:=by rw[bn,q,PySem.IsL.update e f,W,q];rw[d8,I.write [q,O,zm] [fa] (λS u J hu=>[bG,[k9,J],hu]) #[_,q] ?_,#[z,B,_,L,q]]
def ak.af_(I:[ac])(W:bq ys az)(z:[mY]<=bS):[c5,[cu,[ar],[ax,ys]],[l3,[hN,[kU,[hb]]],t']]:=[uE,[uh],#[z,az,0,W,[cq]]]
def ak.fresh(I:[ac]):H [ar]=ag:=[mr]
def ak.uX(I:[ac])(O:[m9,l]):[q2]/\∃(az:[h])(n:Nat),bq xs az/\[cE]=[oW]/\[bH,l,[pU]]:=by rw[ac,z,az,n,r,e,I.aO l _ O];exact#[z,az,n,r,r.length,e]
def YF(h:n<=bS):TM n=af:=[b8,TM]
end
section
variable{X:Cx}
def Vw:[np]:=[nX,B,∃l xs y,x=[hA]/\B=[y]/\[m9,l]/\[cE]<bS/\Q [aX] [cu,l,[W,xs++[y]]]]
def NQ:DR X "list.append" Vw:=by rw[bm,B,us,N,J,h];rw[bV,l,xs,y,rfl,rfl,O,j,q];cases N;rw[M,u,rfl,L,J.one];rw[dh];rw[aj,zn TN [wj] F.entry_list_append (F.args_list_append_2 _ _) (PySem.list_append l _ n u [f]) #[e,?_],[Is,.cons L [aA]]];grind
def afA:[np]:=[nX,B,[H5,B,[[fZ]],Q [aX] [cu,l,[W,xs++zs]]]]
def aeq:DR X "list.extend" afA:=by rw[bm,B,us,N,S,h];obtain⟨l,b,xs,zs,rfl,rfl,O,W,hz,q⟩:=h;cases N;rw[M,u,rfl,Z,S.one];cases Z;rw[dh];rw[an,z2,G,n2,L,qk,e2,I.uX W];rw[K,J,[uY]+G.toArray.size<=bS,[f],j,¬(! az.toArray.isEmpty&&TM ([uY]+G.toArray.size))=ae,[a_,YF J]];rw[aj,zn aje [wj] F.entry_list_extend (F.args_list_extend_2 _ _) (AutoSeq1.list_extend_list_list_0 l _ n b _ _ j [g] [g]) #[e,e2,?_],[Is,L]];grind
def aeM:[np]:=[nX,B,∃l xs y,x=[hA]/\B=[]/\[m9,l]/\[aQ,xs,[cE]-1,y]/\Q y [cu,l,[ax,xs.dropLast]]]
def adq:DR X "list.pop" aeM:=by rw[bm,B,us,N,J,h];rw[bV,l,xs,y,rfl,rfl,O,L,q];cases N;have j:=J.zero;subst j;rw[dh];rw[M,u,hu,W,r.get L];(have G:=by show [aQ,[hb],[oW]-1,u];rw[a']);rw[aj,zn ajf [wj] F.entry_list_pop (F.args_list_pop_1 _) (MeetsSeq.list_pop_last l _ n u G ([a'])) #[e,?_],#[y,_,I.D1 O e ?_ r.dropLast ?_,W,q]];{simp};{rw[cx,ajg]}
def Yd:R2:=[d3,[H5,y,[fZ],[jY,p,[W,xs++zs]]]]
def UA:[lG,.Add,Yd]:=by rw[bm,y,u,W,N,h];obtain⟨l,b,xs,zs,rfl,rfl,O,B,Z,q⟩:=h;cases W;cases N;rw[dh];rw[an,z2,G,F,L,J,j,I.uX B];refine PySem.P.add_list e j ?_ [f];(have S:[hb]++G.toArray=[hc,az++G]:=by simp);rw[Y,S,#[[dP],_,I.af_ (r.append L) [f],Y,q _ I.fresh]]
end
def bq.«ints»:∀{ns}{us},bq [jf] us->mG us ns|[],us,h=>[aT,h,IntsAre.nil]|n::ns,us,h=>by cases h with|cons r t=>rw[aG,k,rfl,r,IntsAre.cons n k (bq.«ints» t)]
def NF:∀{us}{ns},mG us ns->bq [jf] us|_,_,[aA]=>by exact ajh|_,_,.cons n t h=>by exact Paired.cons [aB,bC _ _,#[t,Y]] (NF h)
def bq.sE:∀{bs:[h]}{us},bq (bs.map V.bl) us->us=bs.map r9|[],us,h=>by rw[a5];rfl|b::bs,us,h=>by cases h with|cons r t=>cases r;rw[bq.sE t,bT]
def bq.B5(r:bq [V.ref a] us):us=[da a]:=by cases r with|cons r t=>cases t;cases r;rfl
section
variable{prog:cP}{w:cz}{A:dc}{E:aq->aD->Prop}{s:aD}{l:ai}{az:List aq}{ns:List Int}{Q:aq->aD->Prop}
def af7(hh:[gh])(U:s.heap.IsList l [hb])(hi:mG az ns)(h:∀h' tk t',([mx,[iZ,b]])->Q (.int ns.sum t') [cR,h']):[dR,[sW,"sum",[[hA]]]]:=by rw[R,xs,e,hi.allInts.items];rw[aI,q,numsOf (intItems xs).toList=ns,[bB,e,hi.numsOf],nums_intItems,q];rw[e]at U;refine PySem.sum_intListG hh U λh' tk t' O=>?_;rw[preSum_eq,gH (by simp)];grind
end
section
variable{X:Cx}
def agl(K:aQ):[pZ]:=[Be,ns,[a0],[jf],Q [l,ns.sum] H]
def Y0(O:[cF]):[j_,"sum",agl X.K]:=by rw[c1];rw[ac,a,ns,rfl,J,q,h];obtain⟨az,W,U,_⟩:=[eD,J];rw[Y,bq.B5 r,af7 [e5] U.isList W.«ints» λh' tk t' z=>#[[bK],H,I.kept z,[gS],q]]
def aaU(K:aQ):[pZ]:=[Be,ns,[a0],[jf],[gI]<64/\∀(N:[a0])(p:ai),N.Perm ns->N.Pairwise (·<=·)->([gV])->Q [dp] [e0,[W,N.map V.int]]]
def ak7(h:n<64):n<=bS:=[cx,kX]
def ad9:[j_,"sorted",aaU X.K]:=by rw[c1];rw[an,a,ns,rfl,O,F,q,h];obtain⟨az,J,U,_⟩:=[eD,O];rw[bq.B5 r];rw[aZ,hi,J.«ints»,aqL U.isList hi ([a_,hi.length]) λj N h1 h2 z=>?_];rw[R,ep,n,aqM _ _ _];rw[bp,W,[aN,N.map V.int,bS],by rw[aR,h2.length_eq];grind,#[[dP],upd H _ [b6],[uE,λ_ _=>aqN,#[W,j.toList,ep,NF h1,n]],Y,q _ _ h2 z [mr]]]
end
def Qh(U:[sb])(h:∀S,S=[ct,[sA]]->(S.heap.IsListIter [ar] l 0/\S.heap.IsList l G)->l≠[ar]->Q [fq] S):[dR,ze [hA]]:=[bp,O,l<[ar],[p0,e,U],sf U (h _ Y #[[mu],U.push _] [f])]
def J7{bs:[h]}(e:az=bs.map r9):TruthOf prog w A (λi v=>[aY,[hb],v]) [CZ]:=λi v s Q E I q=>by have N:=[aD,I];rw[e,dR]at N;rw[M,b,J,rfl,lE.mp N];rw[K,O,bs.getD i af=b,[f],z,Q (bs.getD i _) s,q];rw[af,O,z,nW z]
def Qa:∀bs:[h],(br bs.length).any [CZ]=bs.any id|[]=>rfl|b::bs=>by rw[b7,yU,n3,rR,n3,<-Qa _];rfl
def PM:∀bs:[h],(br bs.length).all [CZ]=bs.all id|[]=>rfl|b::bs=>by rw[b7,yU,e8,v_,e8,<-PM _];rfl
section
variable{X:Cx}
def ac5(K:aQ):[pZ]:=[LP,bs.any id]
def W2(K:aQ):[pZ]:=[LP,bs.all id]
def XM(O:[cF]):[j_,"any",ac5 X.K]:=[Fq,call_any_walk [KR],Qa]
def acd(O:[cF]):[j_,"all",W2 X.K]:=[Fq,call_all_walk [KR],PM]
end
mutual
inductive Dp(K:aQ)(H:Hp):V→wq→Prop|a0:Dp K H .a0 .none|bl(b:Bool):Dp K H (.bl b) (.bool b)|int(i:Int):Dp K H (.int i) (.int i)|str(x:au):Dp K H (.str x) (.str x)|lst{a:ai}{xs:List V}{ds:List wq}:bp K H a xs→rb K H xs ds→Dp K H (.ref a) (.list ds)|tup{a:ai}{xs:List V}{ds:List wq}:cw K H a xs→rb K H xs ds→Dp K H (.ref a) (.tuple ds)
inductive rb(K:aQ)(H:Hp):List V→List wq→Prop|nil:rb K H [] []|cons{v:V}{B:List V}{d:wq}{ds:List wq}:Dp K H v d→rb K H B ds→rb K H (v::B) (d::ds)
end
section
variable{X:Cx}{pins:List (ai×bn)}{σ:St}{H:Hp}{s:aD}
mutual
theorem Dp.reads(I:ak X pins σ H s):∀(d:wq)(v:V)(u:aq),Dp X.K H v d→bC v u→∃L,Reads s.heap u d L|.none,_,_,h,r=>by cases h;cases r;exact⟨_,Reads.none⟩|.bool b,_,_,h,r=>by cases h;cases r;exact⟨_,Reads.bool b⟩|.int i,_,_,h,r=>by cases h;obtain⟨t,rfl⟩:=r;exact⟨_,Reads.int i t⟩|.str x,_,_,h,r=>by cases h;obtain⟨t,rfl⟩:=r;exact⟨_,Reads.str x t⟩|.list ds,_,_,h,r=>by(cases h with|lst J S=>cases r;obtain⟨az,W,⟨o,n,q,O,_,hd⟩,_⟩:=I.list J;obtain⟨L,z⟩:=Dp.DC I ds _ _ S W;exact⟨_,Reads.list q O hd z⟩)|.tuple ds,_,_,h,r=>by(cases h with|tup J S=>cases r;obtain⟨az,W,⟨o,q,O,n,hd⟩,_⟩:=I.tuple J;obtain⟨L,z⟩:=Dp.DC I _ _ _ S W;exact⟨_,Reads.tuple q O hd z⟩)|.dict _,_,_,h,_=>by cases h
theorem Dp.DC(I:ak X pins σ H s):∀(ds:List _)(B:List V)(us:List _),rb X.K H B ds→bq B us→∃L,ReadsAll s.heap us ds L|[],_,_,h,r=>by cases h;cases r;exact⟨_,ReadsAll.nil⟩|d::ds,_,_,h,r=>by cases h with|cons h1 h2=>cases r with|cons G N=>obtain⟨L,j⟩:=Dp.reads I d _ _ h1 G;obtain⟨bs,U⟩:=Dp.DC I _ _ _ h2 N;exact⟨_,ReadsAll.cons j U⟩
end
end
section
variable{X:Cx}
def aah(K:aQ):R2:=[HC,uN d e]
def agA(K:aQ):R2:=[HC,! uN d e]
def afR(hu:[pi]):[dC,.Eq,aah X.K]:=[Gw,SeqAt.compareEq_shaped j z W se hu [lb,I]]
def abC(hu:[pi]):[dC,.NotEq,agA X.K]:=[Gw,SeqAt.compareNe_shaped j z W se hu [lb,I]]
end
abbrev lh(h:bP)(c:ai)(v:[gM]):[P]:=h.IsCell c v
def fg(j:[fw,ai]):([fw,zp])->([fw,ai])->[fw,ai]|[],acc=>acc|(n,k)::r,acc=>[A,k==[ec],fg j r ((n,[mR,j.lookup n])::acc),fg j r acc]
def QM(env:jd)(f:au×zp->([h])->Sem _)(J:∀n k c,f (n,k) c=[A,k==[ec],do let a←Je env n;bx (.yield ((n,a)::c)),bx (.yield c)]):[h0,G,acc,[h],∀y∈G,[IH],forIn G acc f=bx (fg env.cells G acc)]|[],acc,_=>by rfl|(n,k)::r,acc,h=>by rw[List.forIn_cons,J];have U:=λacc=>QM _ f J r acc λy L=>h y [oZ];unfold fg;rw[aJ,[cB,k,aji]];{rw[R,c,O,h (n,k) (by simp) ([aD,q])];rw[eW,e,Je env n=bx c,[dU,Je,O]]};{rw[a3,aw q,aw q,U _]}
def Pf(h:∀y∈scope.names,[IH]):C' scope env=bx (fg env.cells [jk] []):=by rw[ab,C'];rw[a8,QM _ _ (by simp) _ _ h]
def F_{U:[aI]}:∀{l:[fw,U]}{n}{c},(n,c)∈l->∃j,l.lookup n=aa j|(k,v)::r,n,c,h=>by rw[pk];cases J:n==k with|true=>grind|false=>rw[aK,[c1,h],e,h];rw[ay];{exact F_ h}
def AC:∀{G}{acc}{n}{c},(n,c)∈fg j G acc->(n,c)∈acc\/((n,[ec])∈G/\c=[mR,j.lookup n])|[],_,_,_,h=>[J,h]|[wu],acc,n,c,h=>by rw[aE,fg,h];{rw[bZ,AC h,h,h1,h2];rw[cp]};{rw[bZ,AC h,h,h1,h2];rw[cp]}
def E_:∀{G}{acc}{p},p∈acc->p∈fg j G acc|[],_,_,h=>h|[wu],acc,p,h=>by unfold fg;split;rw[av,E_ [f],E_ h]
def D4:∀{G}{acc}{n},(n,[ec])∈G->(n,[mR,cells.lookup n])∈fg cells G acc|[wu],acc,n,h=>by unfold fg;rw[aK,[c1,h],e,h];{rw[aT,e,E_ (by simp)]};{split;rw[av,D4 h,D4 h]}
def wZ:∀{G}{h:bP}{acc}{x}{c},(x,c)∈fq [c7] G acc->(x,c)∈acc\/((x,[lW])∈G/\[c7]<=c/\lh (qE h G) c ag)|[],_,_,_,_,h=>[J,h]|(n,k)::r,h,acc,x,c,q=>by rw[am,fq,q];unfold qE;rw[aC,q];{rw[aB,O];rw[aJ O];have O:=[aD,O];rw[aQ,gm h [i5,"cell",.cell ag],q];rcases wZ q with q|⟨h1,h2,z⟩;{rw[aK,[c1,q],e,q];{rw[aT,e,[aC,#[O▸qx,[dq],_,Da r _ _ _ [cq],Y]]]};grind};{rw[gm]at h2;grind}};{rcases wZ q with q|⟨h1,h2,z⟩;rw[cp]}
def BF:∀{names}{n}{acc}{p},p∈acc->p∈fq n names acc|[],_,_,_,h=>h|[wu],n,acc,p,h=>by unfold fq;split;rw[av,BF [f],BF h]
def E7:∀{G}{n}{acc}{x},(x,[lW])∈G->∃c,(x,c)∈fq n G acc|[wu],n,acc,x,h=>by unfold fq;rw[aK,[c1,h],e,h];{rw[aT,e,#[n,BF (by simp)]]};{split;rw[av,E7 h,E7 h]}
def Fg:∀{G}{h:bP}{acc:[fw,ai]}{x y}{c},([g1,acc,[X]<[c7]])->(∀x y c,[KT,acc])->[KT,fq [c7] G acc]|[],_,_,_,_,_,_,hi,h1,h2=>hi _ _ _ h1 h2|(n,k)::r,h,acc,x,y,c,U,hi,h1,h2=>by unfold fq at h1 h2;rw[aC,h1];{rw[aB,q];rw[aJ q]at h2;rw[<-gm h [i5,"cell",.cell ag]]at h1 h2;refine Fg (λp L=>?_) (λx y c a b=>?_) h1 h2;{rw[a_,gm]};grind};{rw[aB,q];rw[af,aw q,h2,Fg U hi h1 h2]}
def O1{code}(h:Q (newEnv scope [ar] j (fq [bL] [jk] n) qual q code (aa z) B) [ct,[yM]]):[eG,M,ajj scope j n [] qual q code (aa z) B]:=by simp[ajj];rw[aW,wpAny_alloc ?_,wpAny_layCells _ (by simp) _ _ _ _ ?_];rw[Y,[aB,([ct,[oh]]:aD).heap.objs.size=[bL],gm ..],[aJ,bg (bg h)]]
def Dy{sc:fo}:∀{G:[h]}{x}{k},[f5,[Io,aji,NameKind.cell]].lookup x=aa k->∃z,G.lookup x=aa z/\(k=z\/(z=[ec]/\k=[lW]))|[],_,_,h=>[f]|(n,j)::r,x,k,h=>[jK,q,@Dy sc r x k]
structure lZ (N : List au) (sc scope : fo) (own : List (au × Nat)) : Prop where
 kind : scope.kind = .function
 uniq : ∀ y ∈ scope.names, scope.names.lookup y.1 = aa y.2
 ix : ∀ p ∈ own, N[p.2]? = aa p.1
 free : ∀ y ∈ scope.names, y.2 = .free → sc.names.lookup y.1 = aa .cell ∨ sc.names.lookup y.1 = aa .free
 own : ∀ y ∈ scope.names, y.2 = .local ∨ y.2 = .cell → y.1 ∈ own.map (·.1) ∨ y.1 ∉ N
def b4(σ:St):([aj])->St|[]=>σ|v::B=>(b4 σ B).set v ag
def qZ(σ:St):∀B,[Q,b4 σ B]=[hk]|[]=>rfl|v::B=>by unfold b4;rw[jJ,qZ _ _]
def Bk:∀{B},([aY,b4 σ B,aa x])->[aY,σ,aa x]/\i∉B|[],h=>[qT,h]|v::B,h=>by rw[am,b4,h];rw[br,hi,v=i];{rw[ar,gk hi,h,h1,h2,Bk h];rw[aS,h1,by simp;grind]}
abbrev Cx.bZ(X:Cx)(s:aD)(H:Hp)(scope:fo)(G:jd)(J:[ba]):Cx:=[Ic,J,[mi,x],[],[qb]]
section
variable{X:Cx}{pins:List (ai×bn)}{σ:St}{H:Hp}{s:aD}
def Qb(I:[ac])(ok:[ld,scope])(hN:X.N.Nodup)(n:[eu,fp,hG X pins H b/\b<[ar]]):ak [pC,scope,[nI,[bL],[jk]],[ar],fp] [] [Aj] H [ct,[yM]]:=by have yJ:∀y∈scope.names,y.2=[ec]->∃c,[l6,[b4],c]:=[He,[aC,k]];generalize B:dN scope [nI,[bL],[jk]] [ar] X.env=gG;rw[K,kp,[mx,[yM].get? b],[dB,Da _ _ _ _ [gQ]],hL,gG.locals=[ar],[jI,B]];rw[K,dw,gG.cells=[nI,[bL],[jk]],[jI,B],j,gG.scope=sB scope [i7],[jI,B]];rw[aQ,gm s.heap [kQ],dw];rw[K,cm,∀{y c},(y,c)∈fg X.env.cells [jk] []->[l6,y,c]/\c<[ar],λhm=>by rw[bZ,AC hm,hm,h1,rfl];{cases hm};{rw[R,c,O,yJ _ h1 Y];rw[O];rw[aG,w,z,I.cell _ _ O,#[Y,z.lt]]},mem,∀{y c},([x2])->([l6,y,c]/\c<[ar])\/([bL]<=c/\lh [yM] c ag),λe=>by rw[dw]at e;rcases wZ (jN e)with hm|⟨_,h2,h3⟩;{exact [J,cm hm]};{rw[af,gm,h2,[aC,#[h2,h3]]]}];rw[a1,look,∀{y},[mi,y]=aa [ec]->∃c,[x2]/\[l6,y,c],λ{y}U=>by rw[R,c',e',F_ (BF (names:=scope.names) (n:=[dg,[hN,[kQ]]]) (D4 (cells:=X.env.cells) (acc:=[]) (jN U)))];rw[aQ,dw,e'];rw[bq,c',e'];rw[dw]at e';rcases wZ (jN e')with hm|⟨h1,_,_⟩;{exact [M,cm hm]};{have:=ok.uniq _ h1;rw[aq,U,this,this]},L,(X.bZ s H scope gG fp).Ok,by refine#[I.ok.mod,by show gG.scope.kind=_;rw[Y,j,ok.kind],by show gG.globals=_;rw[bB,B,I.ok.fA],by show gG.builtins=_;rw[bB,B,I.ok.blt],by show [ar]<=gG.locals;rw[Y,hL,[dq]],λy z c e1 e2=>?_,λy hy=>?_,λy c z e=>?_,I.ok.hd,I.ok.frames,[fa],λb J=>#[?_,λy c e z=>?_],I.bs,c9 I.ok.lM I.sz,λb o e J=>?_,λb J z=>?_,I.stack,I.Gn];{rw[V,e1,e1,e2,e2];rw[dw]at e1 e2;refine Fg [vh] (λy z c a b=>I.ok.inj y z c [M,cm a] [M,cm b]) (jN e1) (jN e2);rw[Y,gm,wt [bo,cm (y:=[H]) (c:=[X]) hp]]};{show∃c,[x2];(have key:∀k,gG.kindOf y=aa k->(k=[lW]\/k=[ec])->∃c,[x2]:=λk hk Z=>by rw[am,Env.kindOf,hk];rw[j]at hk;rw[M,k',e,r,Dy hk];(have:k'=[lW]\/k'=[ec]:=by rcases r with rfl|⟨rfl,_⟩;rw[av,Z,[aC,Y]]);rw[aK,this,rfl,rfl];{rw[R,c,hm,E7 (n:=[dg,[hN,[kQ]]]) (acc:=fg X.env.cells [jk] []) (jN e)];rw[aG,c',e',F_ hm,#[c',[q,dw,e']]]};{rw[a9,c,h1,look e];rw[aS,c,h1]});rw[d_,hy,hy,hy,key _ hy [fa],key _ hy [aC,Y]]};{rw[V,z,z,z,[aD,z]];rw[bn,e,e,dw,e];rcases wZ (jN e)with hm|⟨_,h2,_⟩;{rcases AC hm with hm|⟨h1,_⟩;{cases hm};{have q:=ok.uniq _ h1;rw[aq,z,q,q]}};{rw[af,gm,h2,TQ h2]}};{show b≠gG.locals;rw[Y,hL,di [bo,n b J]]};{rcases mem (e)with⟨h1,_⟩|⟨h1,_⟩;rw[bU,[mU,[M,n b J]].1 y c h1 z]};{rw[d_,[cP,[M,n b J].2],z,z,I.ok.u0 b o e z,[c8,hc [ee] (c9 I.ok.lM z),qy _]]};{rw[d_,[c1,I.Bv b z],z,z,[M,n b J].2.1 z,[aE,[M,n b J]].1 z]},#[L,Y,I.bare,Un.kept kp,#[[mW],?_,λi y F e1 e2 e3=>?_],[zG],?_,[zG],[vh],I.aO.kept kp,[q,qZ,I.len]]];{show Heap.Ns _ gG.locals _;rw[Y,hL,Heap.Ns.keeps (Heap.Ns.new ..) [dB,Da _ _ _ _ e]]};{rw[bl,e2,kG,Bk e2,N,[HM],by rw[aA,key,∀k,gG.scope.names.lookup y=aa k->k=.local\/k=[lW]\/k=[ec]->[HM],λk hk Z=>by rw[bn,G,hk,j,hk];rw[M,k',e,r,Dy hk];(have no:¬(k'=.local\/k'=[lW]):=λhh=>by rw[aK,ok.own _ (jN e) hh,e',e'];{rw[M,p,hp,W,b0.mp e'];have e3:=ok.ix p hp;have:=W;rw[af,this,e3,kG (b0.mpr #[p,hp,BS hN e3 e1])]};{exact e' (cG e1)});rw[bZ,r,rfl,rfl,rfl];{rcases Z with rfl|rfl|rfl;rw[av,[c8,[fa],no],[c8,[aC,Y],no]];{rw[aS,e,[aC,G]]}};{rw[aS,e,[J,G]]},e3,e3];rcases e3 with e3|e3|e3;rw[b9,key _ e3 [fa],key _ e3 [e7,Y],key _ e3 [lF,Y]]];rw[M,m,hn,U,I.loc];have S:gd [i7] y:=(ok.free _ (jN N.1) Y).elim (λk=>[e7,k]) (λk=>[lF,k]);rw[aL,w,r,q,U i y F e1 e2 S,#[w,r,[aC,#[N.2,?_]]]];rw[M,c,h1,h2,look N.1];rcases q with⟨k,_⟩|⟨_,c',e',z⟩;{have k:[jU,y]=[fj]:=k;rcases ok.free _ (jN N.1) Y with k'|k'<;>rw[[aB,[jU,y]=_,k']]at k<;>cases k};{rw[df,h2,e',#[c,h1,z.keeps kp]]}};{rcases mem (e)with⟨h1,_⟩|⟨_,z⟩;{rw[aG,w,z,I.cell y c h1,#[w,z.keeps kp]]};{exact#[_,z]}};{show H gG.locals=ag;rw[Y,hL,[tA]]};{rcases mem (e)with⟨h1,_⟩|⟨h1,_⟩;rw[av,I.ie y c h1,[j1,TQ h1]]};{exact [f',[aB,p∈[]++[],hp]]}
def Q8(I:[ac])(L:[m9,D])(B:[cE]<bS)(r:bC y v)(h:[uN,[cu,D,[W,xs++[y]]],[aZ]]):aE [c4] X.A [sW,"list.append",[[jO],v]] Q E s:=by rw[ac,G,az,n,z,e,I.aO D _ L];have U:=z.length;rw[aj,append_at (hsz:=[cx,pj]) e λh' j N=>?_,h _ (I.write ([jn,L]) [fa] (λb u J q=>[bG,j.2 b J,q]) #[_,N] #[[f],az++[v],[aw],[D',r],?_])];rw[a']
def lY (X : Cx) (j : List bQ) (t : TT) : Prop :=
 ∀ (pins : List (ai × bn)) (s : aD) (σ : St) (H : Hp) (Q : Bool → Hp → Prop), ak X pins σ H s → t σ H Q →
  aE (aK X.prog X.w) X.A (forIn j ae fun c r => if r = ae then do let ok ← uB c X.env (aM c X.env); bx (Jf ok) else bx (Jf r)) (TP X pins σ Q) X.xe s
def u9:TT:=λ_ H Q=>Q ae H
def AF:lY X [] u9:=λ_ _ _ H _ I h=>wpAny_tests_nil #[H,I,h]
def ZY(h:PT X c t):lY X [c] t:=[uV,W,wpAny_tests_one [zY,W]]
end
def mU{t:Sem U}(h:aE M A t Q [qb] s)(q:∀a s,Q a s->j a s):aE M A t j E s:=gQ h q (by simp)
def Ky(I:Nat->aD->[P])(turn:∀n s,I n s->aE [g6] A (je it) (λr W=>[cX,r,ag,R (.ok .next) W,[cV],aE [g6] A (Tk z it v) (λ_ B=>aE [g6] A (uC z env v) (λ_ S=>aE [g6] A (forIn d_ ae λc r=>if r=ae then do let ok←uB c env (aM c env);bx (Jf ok)else bx (Jf r)) (λok q=>[ao,ok,aE [g6] A (aM elt env) (λx G=>aE [g6] A [sW,"list.append",[acc,x]] (λ_ J=>∃m,m<n/\I m J) [rO] G) [rO] q,∃m,m<n/\I m q]) [rO] S) [rO] B) [rO] W]) [rO] s)(n:Nat)(h:I n s):[o0,.compLoop [rN,z,d_] 0 it acc env,s]:=by refine codeAny_loop Y I (λn s hI=>?_) n h;show aE _ A _ _ _ s;rw[aj,wpAny_noted ?_,[aJ,wk [aJ,[pr,turn n s hI,r,W,Z,by simp]]]];cases r with|none=>exact bg Z|some v=>rw[aW,gQ Z (λ_ B U=>?_) (by simp),gQ U (λ_ S N=>[aJ,[pr,N,ok,q,j,by simp]]) (by simp)];cases ok with|false=>exact bg #[Y,j]|true=>exact [aJ,[aJ,gQ j (λx G L=>[aJ,gQ L (λ_ J O=>bg (bg #[Y,O])) (by simp)]) (by simp)]]
section
variable{X:Cx}
def sI(I:TI)(g:TG)(L:TT)(te:TE)(B:[aj]):TE:=λσ H Q=>I σ H λJ H1=>∀D,H1 D=ag->∃S:Nat->Nat->[dL],(∃m,S 0 m (upd H1 D [bF]))/\∀i m H,S i m H->(J.stop i H/\Q [jO] H)\/(J.go i H/\∃F:[dL],(∀H',F H'->∃N,N<m/\S [Y] N H')/\∀x H',J.Bz i H x H'->g x (b4 σ B) H' λG H2=>b4 G B=b4 σ B/\L G H2 λb z=>[ao,b,te G z λy q=>∃acc,q D=[ln,acc]/\acc.length<bS/\F (upd q D [W,acc++[y]]),F z])
def OZ{σ:St}(O:[cF])(hN:X.N.Nodup)(I:[ac])(hi:[z7])(ok:[ld,scope])(hg:[jX,cl,W,[ba],PG [nb,cl,W] tg g])(ht:[jX,cl,W,[ba],lY [nb,cl,W] d_ tt])(he:[jX,cl,W,[ba],PE [nb,cl,W] elt te])(hs:[kX])(h:sI wi g tt te [k0] σ H Q)(HA:∀D C s' m H',[GD,C,m]):[Kz,[rN,tg,d_],scope,pos']:=by rw[ef,scope.names,y.2=[ec],[aC,k],h2];rw[d9,W,B,h2,.seq [hc,[]],G,G.heap=s2.heap.push [Ak]];rw[d1,W,b<s2.heap.objs.size,[bF],b<[n8],G.heap,G,[n8],[n8]+1,[jk]];rw[d5,elt,scope,[n8]+1,[jk],[n8],G,G.heap.push [kQ],N];(have cL:N.locals=[n8]:=by subst Cj;rfl);rw[ft,G,G.heap.push [kQ],[jk]];rw[ak,yL,tn 0 s4.heap,[Hn],nz,[G3,[Dz],W],[Gb],yM,jf [c4] X.A (.compLoop [rN,tg,d_] 0 [gO] [jO] N) [Cj,[n8]] s4,by refine Ky (λn s'=>[FH,G,scope,N,W,n]) ?_ m0 #[0,H3,I4,yL,yK,w0];rw[en,[Ij,[Dz]],r,Z,z,m,D,[n8],I3.BK (ch:=W) I6.os I6.base I6.aO I6.bare [B7],I3.jC [dq] nC];{rw[d6,G,scope,N,W,u,m,m<n,[iL]];cases b with|false=>simp only[dj,b8]at q9|-;exact fj I9 q9|true=>simp only[bI]at q9|-;rw[d8,mU (pe _ s9 nB H9 _ I9 q9) λz Sc#[yv,Sd,HD,HE,acc,HF,HG,nx]=>?_,[KK,[Dz]]]}];exact [Ka]
def FV(O:[cF])(hN:X.N.Nodup)(hi:PI X tg F L)(ok:[ld,scope])(n:[jX,z,G,[ba],PG [nb,z,G] tg g])(W:[jX,z,G,[h],lY [nb,z,G] j tt])(S:[t6,z,G,PE [nb,z,G] elt te])(U:[kX]:=by intro _;rfl):[cj,[rN,tg,j],sI L g tt te [k0]]:=by rw[aV,Q,h,OZ O hN I hi ok n W S U h λD C s' m H' B q Z f=>#[m,Z,λnu N=>?_]];rw[dT];exact#[[jO],H',B.turned [uX,N] f0 f1 f3 f4 f5,Y,q]
def Lf{g}(O:[cF])(hN:X.N.Nodup)(hy:[aY,X.N,y])(Z:[jU,y]=[fj])(B:[C5,[rN,tg,n]]=bx ae)(hi:[z7])(ok:[ld,scope])(hg:[t6,U,W,PG [nb,U,W] tg g])(ht:[jX,U,W,[h],lY [nb,U,W] n tt])(he:[jX,U,W,[ba],PE [nb,U,W] elt te])(hs:[kX]:=by intro _;rfl):[sj,[si],[rN,tg,n],S,sI wi g tt te [k0],lx i]:=by rw[cl];rw[exec_Assign_Name_used _ _ _ _ B];rw[aW,wk [hV],a9 (OZ O hN I hi ok hg ht he hs (h) λN C s' m H' I' q hn f=>?_) λ_ s' hq=>bg (bg hq)];refine aiV (RV (v:=V.ref N) I' hN hy [J,Z] Y (λs2 I2#[a,sb,ha]=>?_) [aC,Z]);rw[dT];rw[ae,j,C≠a,by rw[aK,ha,z,z];{rw[Y,z,f1]};{exactλe=>f4 y a z e.symm},#[m,hn.sameBut sb j,λh3 L=>?_]];exact#[_,H',I2.turned [uX,L] f0 f1 f3 f4 f5,q]
end
def acX(h:ET N sc scope own=ae):lZ N sc scope own:=by rw[am,ET,h];simp only[aF,ck,d0]at h;obtain⟨⟨⟨h1,h2⟩,z⟩,j⟩:=h;refine#[?_,h2,z,λy L e=>?_,λy L e=>?_];{rw[aC,h1];{rw[h4]};{cases h1}};rw[ay];{have q:=j y L;rcases e with e|e<;>(simp only[e,kN,d0]at q;exact q)}
section
variable{κ:Type}[DecidableEq κ]
def fP(kvs:[we])(k:κ):[be,V]:=[hU,kvs.find? [xi]]
def jt(kvs:[we])(k:κ)(v:V):[we]:=[ao,[zD],kvs.map [xB,v],kvs++[(k,v)]]
def xZ{k:κ}(e:[H]=k):fP [e1] k=aa [X]:=by simp[fP,e]
def w9{k:κ}(e:¬[H]=k):fP [e1] k=fP r k:=by simp[fP,e]
def LN(k:κ):∀kvs,[zD]=[er,fP kvs k]|[]=>rfl|[e1]=>by rw[n3];rw[D,e,[H]=k];{simp[xZ e,uK e,aiD,o_]};{rw[a3,w9 e,nV e,LN k r]}
def N8(kvs:[h])(k:κ)(v:V):[aN,[qI],[li]+1]:=[b8,jt]
def hU.tz(r:hU o u):o.isSome=u.isSome:=by cases o with|none=>(cases u with|none=>rfl|some _=>rw[ax,r])|some _=>cases u with|none=>rw[ax,r]|some _=>rfl
def hU.getD(r:hU o u)(rd:bC d q):bC (o.getD d) (u.getD q):=by cases o with|none=>(cases u with|none=>grind|some _=>rw[ax,r])|some _=>cases u with|none=>rw[ax,r]|some _=>exact r
def KV.val(r:KV kvs B)(k:κ):hU (fP kvs k) (zq B k):=by induction r with|nil=>exact True.intro|@cons p q ps G h t U=>rw[R,h1,h2,h];rw[em,zq (q::G) k,zq,zq G k]
def KV.any(r:KV kvs B)(k:κ):[zD]=B.any [xi]:=by induction r with|nil=>rfl|cons h t q=>grind
def KV.GH(r:KV kvs B)(k:κ)(N:[hz]):KV (kvs.map [xB,y]) [eE,[xB,u]]:=by induction r with|nil=>exact [aA]|@cons p q ps j h t U=>rw[gJ,.cons ?_ U]
def KV.put(r:KV kvs B)(k:κ)(N:[hz]):KV (jt kvs k y) (stored B k u):=by unfold jt stored;rw[r.any k];rw[D,e,(B.any [xi])=ae];{rw[a3,aJ e,aJ e,r.GH k N]};{rw[a3,aw e,aw e,ajm r [f]]}
def KV.length{kvs:[we]}(r:KV kvs B):[li]=[br]:=IJ r
end
def oU(r:bC (kV k) u):[m7].is k u=ae:=by cases k with|inl i=>rw[R,t,e,[qU,u=pb i t]];rw[bf,e,aca P w i t]|inr x=>rw[R,t,e,[qU,u=CU x t]];rw[bf,e,WZ P w x t]
def PD:∀{ks}{us},bq (ks.map kV) us->ItemsAre [m7] ks us|[],_,r=>[aT,r,[aA]]|k::ks,_,r=>by cases r with|cons h t=>exact .cons (oU h) (PD t)
abbrev KT(H:Hp):([vD])->([f9,[iE],ai×aq])->[P]:=we λp q=>[HT]
def KT.val(r:[vF])(k:[h]):hU (fP kvs k) [hU,uP xs k]:=by induction r with|nil=>exact True.intro|@cons p q ps B h t U=>obtain⟨h1,_,h2⟩:=h;rw[em,uP (q::B) k,uP,uP B k]
def KT.GH(r:[vF])(k:[h])(N:[hz]):KT H (kvs.map [xB,y]) (xs.map (putAt k u)):=by induction r with|nil=>exact [aA]|@cons p q ps B h t U=>refine .cons ?_ U;rw[b8,putAt]
def KT.put(r:[vF])(k:[h])(J:H b=[og])(N:[hz]):KT H (jt kvs k y) (storedH xs k b u):=by(have e:[zD]=[er,uP xs k]:=by rw[LN,(r.val k).tz,wc]);unfold jt storedH;rw[e];rw[aJ,[er,uP xs k]=ae];{rw[a3,aJ q,aJ q,r.GH k N]};{rw[a3,aw q,aw q,ajm r [f]]}
def KT.keeps(r:[vF])(q:∀b ys,[Do,ys]):KT H' kvs xs:=Paired.Et r [f]
section
variable{P:cP}{w:cz}{H:Hp}{h:bP}{a:ai}
def MS(ok:[iz])(e:Rd H a u):[tb,u]:=e.ok ok
def sX(ok:[iz])(e:Rd H a [mS]):[CE]:=[aB,[zh],MS ok e]
def RQ(ok:[iz])(e:[es,[mS]]):[CE]:=sX ok [J,e]
def tG(ok:[iz])(e:H a=[hJ,ks.map kV]):(zb [m7]).is h ks a:=by obtain⟨_,az,r,o,h1,h2,n,q⟩:=[aB,[zh],ok a _ e];exact#[o,az.toArray,n,h1,h2,q,[aD,PD r]]
def sW(ok:[iz])(e:Rd H a [oK]):[GY]:=by obtain⟨z,y,xs,r,o,es,ep,h1,h2,B,j,O⟩:=[aB,[zh],MS ok e];refine#[z,y,xs,r,o,es,ep,h1,h2,B,j,[gG],O];rw[bp,all,∀{l}{m},KT H l m->[b7,m,(zb [m7]).is h [R] [bU]],by intro l m q;induction q with|nil=>grind|@cons p q ps G W t U=>intro x L;rw[aK,[c1,L],e,L];{rw[bf,e,tG ok [f]]};{exact U x L},all r x L]
def Ka(ok:[iz])(e:[es,[oK]]):[GY]:=sW ok [J,e]
end
def pC(H:Hp)(a:ai)(y:V)(r:[be,V]):[P]:=(∃kvs k,Rd H a [mS]/\y=kV k/\r=fP kvs k)\/∃kvs k b,Rd H a [oK]/\y=[fZ]/\H b=[og]/\r=fP kvs k
def p7(H:Hp)(a:ai)(y v:V)(H':Hp):[P]:=(∃kvs k,[es,[mS]]/\y=kV k/\[li]<bS/\H'=[f3,.dK [qI]])\/∃kvs k b,[es,[oK]]/\y=[fZ]/\H b=[og]/\[li]<bS/\H'=[f3,.dT [qI]]
def p7.k{k}(e:[es,[mS]])(U:[li]<bS):p7 H a (kV k) v [f3,.dK [qI]]:=[J,[f]]
def p7.t{k}(e:[es,[oK]])(J:H b=[og])(U:[li]<bS):p7 H a [fZ] v [f3,.dT [qI]]:=[aC,[f]]
section
variable{X:Cx}{pins:List (ai×bn)}{σ:St}{H:Hp}{s:aD}{a:ai}{y v:V}{u r:aq}{o:Option V}{A:dc}{E:aq->aD->Prop}
def ak.Br(I:[ac]):iA<[ar]:=by exact y4 ([ah]) ([yl].lt)
def Wo(hu:[va])(I:[ac])(g:pC H a y [cV])(N:[hz])(h:[L4,v]):[eG,[c4],wm [aL] u]:=by rw[dI,q];{subst q;rw[dS];rw[bu,S,W,L,hU.yu [q,l,[lv]],ajn (oU N) j.mapOf W (h _ _ [hl] L)]};{subst q;rw[dK,u=da b];rw[M,S,W,L,hU.yu (v:=v) [q,l,[lv]]];rw[aL,p,U,O,lE.mp W,wpAny_getItem_heap (Db hu) (tG I.aO G) j U ?_];rw[Y,O,h _ _ [hl] L]}
def ads(hu:[va])(I:[ac])(g:pC H a y o)(N:[hz])(h:[uN,H,.bool o.isSome]):[eG,[c4],eU .In u [aL]]:=[FD,wpAny_in_of (oU N) hd j.mapOf ?_,wpAny_in_heap (Db hu) (tG I.aO G) hd j ?_]
def afP(hu:[va])(I:[ac])(g:pC H a y o)(N:[hz])(h:[uN,H,.bool (! o.isSome)]):[eG,[c4],eU .NotIn u [aL]]:=[FD,ajo (oU N) hd j.mapOf ?_,wpAny_notIn_heap (Db hu) (tG I.aO G) hd j ?_]
def FI(I:[ac])(U:u' (H a))(O:wj a s.heap h')(j:∃q,[iZ,a]=aa q)(new:[k7,a,ob,h',ob]):[j',[f3,ob]]:=I.write U [fa] (λb q J z=>[bG,O.2 b J,z]) j new
def aaZ(z:[li]<=bS)(hd:[wd])(J:KV kvs B)(j:h'.DictOf [m7] a B):c7 P w H' h' a [mS]:=#[z,hd,B,J,j]
def Yo(hu:[va])(I:[ac])(g:p7 H a y v H')(N:[hz])(n:bC v r)(h:[uN,H',()]):[eG,[c4],uE [aL] u r]:=by rcases g with⟨kvs,k,e,Z,l,W⟩|⟨kvs,k,b,e,Z,eb,l,W⟩;{subst Z W;rw[ac,z,hd,B,J,j,RQ I.aO e];rw[a1,O,[br]<=bS,[bB,J.length,z],U,[aN,[qI],bS],[aM,N8 kvs k v],wpAny_setItem_pairs (hsz:=O) (oU N) j λh' G S=>h _ ?_];rw[bp,he,∃q,[iZ,a]=aa q,let#[q,_,_,L,_]:=G;#[q,L],FI I [yF] S he (aaZ U hd (J.put k n) G)]};{subst Z W;cases [aB,u=da b,N];rw[ac,z,hd,xs,J,j,Ka I.aO e];rw[a1,O,[q2],[bB,IJ J,z],U,[aN,[qI],bS],[aM,N8 kvs k v],wpAny_setItem_heap (hsz:=O) (Db hu) (tG I.aO eb) j λh' G S=>h _ ?_];obtain⟨q,es,ep,L,h2,h3,h4,_,h5⟩:=G;refine FI I [yF] S #[q,L] #[U,hd,_,(J.put k eb n).keeps λc ys F=>?_,q,es,ep,L,h2,h3,h4,h5];rw[a_,[dw]]}
end
def YS{σ:St}(I:[ac])(g:pC H a y o):s.TypeIs [aL] "dict":=by rcases g with⟨kvs,k,e,_,_⟩|⟨kvs,k,b,e,_,_,_⟩;{obtain⟨_,_,B,_,j⟩:=sX I.aO e;exact j.typeIs};{obtain⟨_,_,xs,_,j⟩:=sW I.aO e;exact j.typeIs}
def afc(h:bP)(J:iA<[c7]):c7 P w H [zJ] [c7] (.dK []):=#[[f6],ut.mpr [f],[],[aA],aqO h]
def O9(h:bP)(J:iA<[c7]):c7 P w H [zJ] [c7] (.dT []):=#[[f6],ut.mpr [f],[],[aA],_,[ca],0,[cq],#[Y,Y,Y],Y,Y,aiI]
def afk:TE:=λ_ H Q=>[jY,p,.dK []]
def U3:TE:=λ_ H Q=>[jY,p,.dT []]
section
variable{X:Cx}{pos:et}
def P0:PE X [yL] afk:=[JV,afc _ I.Br]
def OL:PE X [yL] U3:=[JV,O9 _ I.Br]
end
structure M1 (X : Cx) (o : bQ) (m : au) (apos : et) (e : bQ) (cpos : et) : Prop where
 base : eF o m X.env (aM o X.env) = aM o X.env
 kz : ((dE cpos (bb [e] X.env)).all (fun x => !x.1) && (jh cpos (ji [] X.env)).all (fun x => x.1.isSome)
  && ao (([e] : List bQ).length + ([] : List nZ).length + (if ([] : List nZ).isEmpty then 0 else 1) < 30)) = ae
 line : (apos.endLine == cpos.line) = ae
 trees : dE cpos (bb [e] X.env) = [(af, aM e X.env)]
structure M2 (X : Cx) (o : bQ) (m : au) (apos : et) (e f : bQ) (cpos : et) : Prop where
 base : eF o m X.env (aM o X.env) = aM o X.env
 kz : ((dE cpos (bb [e, f] X.env)).all (fun x => !x.1) && (jh cpos (ji [] X.env)).all (fun x => x.1.isSome)
  && ao (([e, f] : List bQ).length + ([] : List nZ).length + (if ([] : List nZ).isEmpty then 0 else 1) < 30)) = ae
 line : (apos.endLine == cpos.line) = ae
 trees : dE cpos (bb [e, f] X.env) = [(af, aM e X.env), (af, aM f X.env)]
def GZ(H:Hp)(a:ai):[P]:=(∃kvs,Rd H a [mS])\/∃kvs,Rd H a [oK]
def YR{σ:St}(I:[ac])(d:GZ H a):s.TypeIs [aL] "dict"/\(∀b,da a=[fZ]->∃ob,[bH,b,ob]/\[lN]=ag)/\[wd]:=by rcases d with⟨kvs,e⟩|⟨kvs,e⟩;{obtain⟨_,hd,B,_,j⟩:=sX I.aO e;rw[eJ]};{obtain⟨_,hd,xs,_,j⟩:=sW I.aO e;rw[eJ]}
section
variable{X:Cx}{pins:List (ai×bn)}{σ:St}{H:Hp}{s:aD}{a:ai}{y d:V}{u r:aq}{o:Option V}{A:dc}{E:aq->aD->Prop}
def V0(hu:[va])(I:[ac])(g:pC H a y o)(N:[hz])(rd:bC d r)(h:[L4,o.getD d]):[eG,[c4],[sW,"dict.get",[[aL],u,r]]]:=by rw[dI,q];{subst q;rw[dS];refine TR Dc j.typeIs TU (ajq _ _ _) (meets_dict_get_default _ a (oU N) hd r) #[_,j.mapOf,h _ _ [hl] ?_];rw[Y,l,[lv].getD rd]};{subst q;rw[dK,u=da b];refine TR Dc j.typeIs TU (ajq _ _ _) (meetsH_dict_get_default _ a b hd r) #[Db hu,k,xs,tG I.aO G,j,h _ _ [hl] ?_];rw[Y,l,[lv].getD rd]}
end
def aek(td ty tx:TE):TE:=λσ H Q=>td σ H λx H1=>∃a,[gy,GZ H1 a,ty σ H1 λy H2=>tx σ H2 λz J=>∃o,pC J a y o/\Q (o.getD z) J]
section
variable{X:Cx}{o e f:bQ}{apos cpos:et}{td ty tx:TE}
def Xl(hu:[kH])(ho:PE X o td)(W:[gA,ty])(hf:PE X f tx)(m:M2 X o "get" apos e f cpos):[mv,"get",[e,f],cpos,aek td ty tx]:=by rw[bR,Q,Jg m.base m.kz m.line Jh Dc ajr (a9 [Du] λu s1#[x,H1,S,rx,a,ex,d,q]=>?_),ex,u=da a,rx];rw[a9,t1,F,YR S d];rw[bq,t1,F];rw[ci,m.trees,zl Y (Jc (C2 [ev,W _ _ _ _ _ S q,O,s2,y,H2,n,N,q2,C2 (a9 (hf _ _ _ _ _ n q2) λj s3#[z,J,G,B,ov,g,Z]=>IX ?_)]))];exact V0 hu G g N B λw' s4 U L=>#[_,J,U,L,Z]
end
section
variable{X:Cx}{pins:List (ai×bn)}{σ:St}{H:Hp}{s:aD}{h':bP}
def ak.BP{ch:[h]}(I:[ac])(k:[dh,[hu],[l7,[iZ,b]]])(W:[qu,ch,H]):[j',H]:=by rw[ae,j,∀b u,H b=aa u->[hu],[Jw],[F7,W b J,by simp,by simp,by simp,[f],m,u]];{rw[ac,o,es,ep,L,r,U];exact#[o,es,ep,k _ o [uR,W _ z] L,r]};{rw[gJ,[IB]]}
def ak.yf{ch:[h]}{T:ai}(I:[ac])(k:[dh,[hu],[l7,[iZ,b]]])(W:[qu,ch,H])(L:[ar]<=T)(new:[k7,T,ob,h',ob]):[j',[cu,T,ob]]:=by have U:=[j1,L];rw[ae,j,∀b u,H b=aa u->[hu],[Jw],I.step [Aw,W b J,W b J] [Ld] [BC,O] (λb o _ e n=>?_) [Lo] (λb xs e=>?_) (λb o u e=>?_) (λb ps e=>#[[ca],?_]) (λm G=>?_) (λb u e=>?_) I.bare];{rw[Y,aW (di (hc [ee] L)),n]};{rw[Y,aW (iH e U),e]};{rw[Y,aW (iH e U),e]};{rw[aW (iH e U),e];simp};{rw[ac,o,es,ep,B,r,G];exact#[o,es,ep,k _ o [uR,W _ z] B,r]};{rw[D,J,b=T];{subst J;rw[bW]at e;grind};{rw[aW J]at e;rw[gJ,(I.aO b u e).jT [BB] (λc q=>[nv,q,U]) λc xs q=>[nv,q,U]]}}
def ak.lock(I:[ac])(h:H d=aa u)(U:u' (aa u)):∃B,[c5,[cu,d,.cb B u],s]:=by rw[ai,x,I.aO d u h,ex,∃B,[bH,d,B],by cases u with|lst xs=>rw[dV];rw[a']|dK kvs=>rw[cK];grind|dT kvs=>rw[cK];rw[aS,o,e]|set S n=>rw[dO];grind|aX C dx fs=>rw[dW];grind|ext j=>obtain⟨_,⟨_,e⟩,_⟩:=x;exact#[_,e]|_=>exact eu U];rw[R,B,e,ex];rw[bp,new,[k7,d,.cb B u,s.heap,.cb B u],by rw[a7,e,x.jT (by simp) (λb q=>?_) λb xs q=>?_];{rw[Y,[IV],q]};{rw[Y,[IV],q]},#[B,I.write [f] [fa] (λb v _ q=>q) #[B,e] new]]
end
section
variable{X:Cx}
def GJ{σ:St}(I:[ac])(o:bn)(T:m5 X.prog X.w X.K tg j [[ar]] [ar] F)(st:F 0 [hN,o])(q:R j H):AU X pins σ tg R [fq] [cR,[hN,o]]:=by refine#[s.heap.objs.size,[[ar]],F,j,H,Y,I.kept λb ob e=>[gQ],T,st,[fI],q];rw[cP,I.jC (by simp) [mr]]
end
def Fw(x:au):It:=#[λi _=>i<[ta],λi H v H'=>H'=H/\∃c,[aY,x.cps,c]/\v=[L,#[[fg,[c]]]],λi _=>[ta]<=i]
def Pa{K}(it:ai)(x:au)(t:iz)(ty:String)(q:ty="str_ascii_iterator"\/ty="str_iterator"):[xT,Fw x,h.IsStrIter it ty x t i]where
 mem:=by simp
 obj:=[A2]
 keep:=[qr,[vJ,ho,r,st,k _ (by simp) o ho]]
 item:=by rw[b3,z,U];rw[an,f0,f1,f2,f3,f4,f5,z it (by simp)];rw[a1,S,Walks X.prog X.w X.A it [it] [it] [ta] (SignAt x) (λi h=>h.IsStrIter it ty x t i),by rw[aK,q,e,e];{rw[Y,e,Walks.strAscii [e5] it x t]};{rw[Y,e,Walks.strWide [e5] it x t]},Z,[tf,[AH],ty],[f],S.item i s _ _ U st λv h' tk hv F kk=>?_];rw[ag,c,u,Hz,rfl,hv];have I1:ak X _ _ H [cR,h']:=[tQ,o,e,kk b o ([aD,J]) e];rw[dG,n,e,cc,j,id F,#[_,Y,Ah e cc j Z #[[dD],H,I1,#[u,Y],#[Y,c,Hz,Y],F,λb J=>[M,z b J]]]]
 done:=by rw[dp,z,U];rw[an,f0,f1,f2,f3,f4,f5,z it (by simp)];have L:=ajs U;rw[aK,q,e,e];{rw[af,e,st,wpAny_pyNext_ascii_end [e5] st L [Kf]]};{rw[af,e,st,wpAny_pyNext_wide_end [e5] st L λh' G=>[JM,[iq,G b o J e]]]}
 self:=λA i s Q E st h=>by rw[aK,q,e,e];{rw[af,e,st,wpAny_pyIter_striter_ascii st h]};{rw[af,e,st,wpAny_pyIter_striter_wide st h]}
def Zl(te:TE):TI:=λσ H R=>[wn,v,∃x,v=[L,x]/\R (Fw x) H1]
def agV(O:[hW]):PI X tg e (Zl te):=by rw[aV,R,h,a9 [uk] λv L#[y,H1,S,j,x,ex,q]=>?_];subst ex;rw[R,t,rfl,j];cases J:x.cps.all _;rw[av,wpAny_pyIter_wide J (GJ S _ (Pa _ x t _ [aC,Y]) [mu] q),wpAny_pyIter_ascii J (GJ S _ (Pa _ x t _ [fa]) [mu] q)]
def Z9{S}{q}{B:List J}(h:we S q B):∀{i:Nat}{a:U},([aY,q,a])->∃b,[aY,B,b]/\S a b:=by induction h with|nil=>simp|@cons a b q B r t z=>intro i G e;cases i with|zero=>grind|succ j=>exact z e
def PP{o:bn}{es S:Array pp}{ep U:Nat}(h:[yf])(h':o.data=.dict S U):S=es/\U=ep:=[df,h,h',#[Y,Y]]
def Hw(K:aQ)(a:ai):It:=[F0,xs,H',[bb,i],[cE]]
def VG{K}(a e it:ai):[Hs,P,tpos,Hw K a,i]where
 mem:=by simp
 obj:=[Hj,F]
 keep:=[HQ,F,Z]
 item:=by rw[e7,F,Z,u];rw[ai,j,bF F,G,it<[ar],[p0,q,nl]];rw[aj,wpAny_pyNext_enum_item F nl [ky] (x:=u) [f] Z λh' ho HI hT kH hk=>?_,#[_,Y,ajt ho [E8]]];rw[a1,new,c7 X.prog X.w [cu,[ar],[bi,[aP],x]] nu _ [bi,[l,[bb,i]],x],[tM,.int i s.toks,u,[gS],ru,j],I1,ak X pins σ _ [l3,nu,s.toks+1],I.yf [GE] hf [dq] new,#[[dP],_,I1,Y,[H4],#[#[u,?_],HI.at [uQ,sb.2 it (dt Z)],Z],[fI]]];rw[ay];{rw[fB]}
 done:=by rw[b3,hf,hg];rw[eK,F,Z];rw[bh,U,rv.length,wpAny_pyNext_enum_end [e5] F nl [ky] ([bC]) λh' eb=>#[Y,[tQ,o,q,eb b o J q]]]
 self:=[JP,F]
def ZC(K:aQ)(ta:TA):TI:=[LE,H1,xs,Hw K a]
def WA(W:[y9])(hm:[yu])(L:PA X [e] ta)(F:[dS]:=by rfl):PI X (.Tuple vW kk tpos) [kN,"enumerate",[e]] (ZC X.K ta):=by rw[aV,R,h,Call_ (oX I W hm aju (CY [cN,L _ _ s _ H _ I h,us,j,B,H1,S,Z,z] F Y))];rw[ac,a,xs,ex,hq,q,z];subst ex;cases Z with|cons r G=>cases G;cases r;rw[ag,az,rv,p',hz,S.list hq];rw[aj,call_enumerate_list p'.isList λh' O n kH U=>Ji O ?_,#[[sf]+1,[[sf]+1,[sf]],_,_,H1,Y,(S.kept U),VG a _ _,#[#[[aZ],O],n,ajv _],[fI],q]];rw[bp,N,[sf]<=b,[f],S.jC N (S.aO.fresh N)]
def acG:[uA,"zip"]:=[dy]
def Dv(K:aQ)(a b:ai):It:=[FJ,xs,ys,bp K H b ys,H',[cE],[mY]]
def aex{K}{a b z TI TO i1 F}(D:Jj z TI TO i1 F a b):m5 P w K (.Tuple vW kk tpos) (Dv K a b) [z,TI,TO,i1,F] z [G2,i1,F,[ws,F,b]]where
 mem:=by simp
 obj:=[Gz,Z]
 keep:=[qr,[KH,Z,h1,h2,h1.at [ub,i1],h2.at [ub,F]]]
 item:=by rw[ez,Z,h1,h2,[eD,qo],u];rw[aj,wpAny_pyNext_zip_item D Z j n h1 h2 [ky] p2.isList (x:=u) (y:=u2) [f] [f] λh' z' HK G Hx hT kH hk=>?_,[J_,h']];have new:[k7,[ar],[ku],nu,[ku]]:=[tM,u,u2,ru,HJ,Cq];rw[d2,i1,F,S,[a_,I.vR U qm],I.vR U qo,u,Hx.at [uQ,sb.2 _ D.i2z],h1,h2]
 done:=by rw[eL,Z,h1,h2,[eD,qo]];rw[bp,he,[Kc],[f],wpAny_pyNext_zip_end [e5] D Z j n h1 h2 [ky] p2.isList he λh' hk=>[Ki,i1,F,S,[pP,S]]]
 self:=[LK]
end L2
section
namespace TL
open PySem PySem.Builtin PySem.Builtin.Str PySem.StrLaws
abbrev tl(x:au):[aj]:=x.cps.toList
def u1(x:au):[eV]=[Q,tl x]:=by rfl
def Pw(h:tl x=tl y):x=y:=Str.ext' (Array.toList_inj.mp h)
def Qz(x y:au):tl (x++y)=tl x++tl y:=by show(x++y).cps.toList=_;rw[Str.cps_append,Array.toList_append]
def Kf:∀{l m:[h]},[aS,tl]=m.map tl->l=m|[],[],_=>rfl|[],[d4],h=>[f]|[d4],[],h=>[f]|[gz],y::m,h=>by injection h with h1 h2;rw[Pw h1,Kf h2]
def pre(S l:[aj]):Bool:=l.take [ab]==S
def gx(S:[aj]):Nat->([aj])->([aj])->[lx]|_,acc,[]=>[acc]|0,acc,[cH]=>[ao,pre S [cH],acc::gx S ([ab]-1) [] r,gx S 0 (acc++[c]) r]|[an],acc,_::r=>gx S k acc r
def Nn(S:[h])(k:Nat)(acc:[h]):gx S k acc []=[acc]:=by rfl
def PX(h:pre S [cH]=ae):gx S 0 acc [cH]=acc::gx S ([ab]-1) [] r:=[h6,[Iq]]
def RN(h:pre S [cH]=af):gx S 0 acc [cH]=gx S 0 (acc++[c]) r:=[h6,[Iq]]
def Fk(S:[h]):∀(k:Nat)(acc l:[h]),gx S k acc l=gx S 0 acc [ed,k]|0,_,_=>by rfl|[an],acc,[]=>by rfl|[an],acc,[cH]=>by exact Fk S k _ r
def VC(q:S≠[]):pre S []=af:=by cases S with|nil=>grind|cons s S=>rfl
def UV(S r:[h])(h:c≠s):pre (s::S) [cH]=af:=by cases q:pre _ _ with|false=>rfl|true=>rw[jK,e,gp q]
def agC(S r:[h]):pre S (S++r)=ae:=[h6,[cB,(S++r).take _,S]]
def VU{L:[aj]}(h:a<L.length):∃c,[jH,a]=c::[jH,a+1]:=#[L[a],mE h]
def Gc(S L:[h]):∀(m a:Nat)(acc:[h]),a+m<=L.length->(∀k,a<=k->k<a+m->pre S [jH,k]=af)->gx S 0 acc [jH,a]=gx S 0 (acc++[jH,a].take m) [jH,a+m]|0,a,acc,_,_=>[f]|m+1,a,acc,h,z=>by have O:a<L.length:=[g];rw[R,c,e,VU O];rw[V,h0,z a (by simp) [g],q,Gc S L m (a+1) (acc++[c]) [g] [f]];rw[aI,j,a+1+m=a+(m+1),[g],j,q];rw[e]at h0;rw[e,RN h0,q,en]<;>rfl
def aeo(L:[aj])(a b:Nat):[jH,a].drop b=[jH,a+b]:=by simp
def ac6{S L:[h]}(q:S≠[])(h:pre S [jH,c]=ae):gx S 0 acc [jH,c]=acc::gx S 0 [] [jH,c+[ab]]:=by rw[<-aeo];cases e:[jH,c]with|nil=>rw[e,VC q]at h;rw[a5]|cons d r=>rw[e]at h;rw[PX h,Fk];cases S with|nil=>grind|cons s S=>rfl
def Kq(q:tl y≠[])(i:Nat):At x y [eV] i↔pre (tl y) [yS]=ae:=by rw[V,L,u1 x,U,u1 y];rw[bb];{intro h;rw[hr,h2,[cU],subAt_eq,h2]};{intro h;have z:=jK mu (gp h);rw[o7,rW]at z;rw[aZ,j,SV.mpr q,#[[g],?_]];rw[Y,subAt_eq,h]}
def M_(L:tl y≠[])(h:¬At x y [eV] i):pre (tl y) [yS]=af:=by cases q:pre _ _ with|false=>rfl|true=>rw[bi,(Kq L i).mpr q,h]
def ady(L:tl y≠[]):1<=y.length:=[a_,u1 y]
def KP(x:au)(i j:Nat):tl (strSub x i j)=[yS].take (j-i):=strSub_toList x i j
def Wn(x:au)(i:Nat):tl (strSub x i [eV])=[yS]:=[a3,KP,u1 x,gH [f]]
def Op(q:tl y≠[]):∀(j:[h])(a f:Nat),a<=[Q,tl x]->ChainG x y [eV] a j f->(∀k,f<=k->¬At x y [eV] k)->[S,partsFrom x y.length a j,tl]=gx (tl y) 0 [] ((tl x).drop a)|[],a,f,S,h,z=>by subst(h);show [tl _]=_;rw[ai,run,Gc _ _ ([Q,tl x]-f) f [] [g] (λk h1 _=>M_ q (z k h1)),J,f+([Q,tl x]-f)=[Q,tl x],[g]];rw[J,Jl,Nn,wb,gH [f]]at run;rw[run,Wn]|[cH],a,f,S,h,z=>by rw[ag,h1,h2,B,U,h];rw[V,O,h2.1,L,u1 x];show tl _::[fO,partsFrom x _ _ r]=_;rw[ai,run,Gc (tl y) (tl x) (c-a) a [] [g] (λk Z N=>M_ q [f]),J,a+(c-a)=c,[g]];rw[J,wb,ac6 q ((Kq q c).mp h2)]at run;rw[run,(Op q r _ f [g] U z),KP,(u1 y)]
def We(x y:au)(L:tl y≠[])(W:¬pq x<pq y):[S,zr x y,tl]=gx (tl y) 0 [] (tl x):=by rw[M,f,g,z,occ_tight x y (ady L)];rw[bn,key,Op L _ 0 f (by simp) g z,g',key];(have j:De x y 0 _ _=[]->[fO,[x]]=gx _ 0 _ _:=λq=>by rw[q]at key;rw[<-key];show [tl x]=[tl _];rw[sub_whole]);unfold zr;rw[D,h1,(ao ([eV]<y.length)||ao (pq x<pq y))=ae];{rw[aJ h1];rw[ae,U,[eV]<y.length,[f],j ?_];cases q:De x y 0 _ _ with|nil=>rfl|cons c r=>rw[q]at g;have O:=[ae,g].1;omega};{rw[aw h1];rw[br,h2,[tx,De x y 0 [eV] ([eV]+1)]=ae];{rw[a3,aw h2,partsBetween_eq,key]}}
def wW(S:[aj]):([lx])->[aj]|[]=>[]|[p]=>p|p::q::r=>p++(S++wW S (q::r))
def L8(y:au):∀j,tl (TV y j)=wW (tl y) (j.map tl)|[]=>rfl|[_]=>rfl|x::z::r=>by show tl (x++y++TV y _)=tl x++(tl y++wW _ [fO,z::r]);rw[Qz,Qz,L8 y _,en]
def aaB(y:au)(j:[h]):Jm y j=TV y j:=glued_eq_join y _
end TL
end
namespace L2
open PySem PySem.Spec PyProof.Rows
def Pe:∀l,bq [S,[aS,(·.1)],V.str] (TW l)|[]=>[aA]|[e1]=>.cons #[[X],Y] (Pe r)
def FG:∀{ys}{us},bq (ys.map V.str) us->StrsAre us ys|[],_,[aA]=>[aA]|y::ys,_,[oz]=>[aG,k,rfl,r,.cons y k (FG t)]
def GW(ys:[dE]):[nC]:=λH Q=>[jY,p,[W,ys.map V.str]]
section
variable{X:Cx}{pins:List (ai×bn)}{σ:St}{H:Hp}{s:aD}{Q:VK}
def Fu(I:[ac])(e:[aS,(·.1)]=ys)(z:[mY]<=bS)(h:GW ys H Q):EP X pins σ Q [fq] {s with toks:=k,heap:=[hN,[kU,[hc,TW l]]]}:=by rw[aZ,L,[tA],#[[dP],upd H _ [b6],[uE,[E5],#[[f],TW l,_,?_,[cq]]],Y,h _ L]];rw[bB,e,Pe l]
end
section
variable{X:Cx}
def ZX:mZ X "str.split" [GA]:=by rw[bm,xs,us,N,rs,h];obtain⟨a,b,rfl,rfl,J,z,h⟩:=h;rw[R,t,rfl,N];cases rs with|cons j rs=>cases rs;rw[R,u,rfl,j];rw[ai,U,c9 (aqP a b) z,O,[aN,aqQ a (De a b 0 [bV] ([bV]+1)) b.length,bS],by have L:=StrLaws.occ_length_le a b 0 [bV] ([bV]+1);rw[cx,length_partsBetween]];cases h1:(ao ([bV]<b.length)||ao (pq a<pq b));{cases q:[tx,De a b 0 [bV] ([bV]+1)];{refine [K9,meets_str_split_sep a b t u h1 J q [g] O];rw[Y,strsFrom_eq,Fu I [bG,numbered_texts _ _,[dH,[bG,[nz],[f]]]] U h]};{rw[d8,[K9,meets_str_split_not_found a b t u h1 J q],Fu (l:=[(a,t)]) I [dH,[cw,[nz],aJ q]] U h]}};{rw[d8,zn Jn Y TX (TY _ _) (meets_str_split_cannot_occur a b t u h1) ?_,Fu (l:=[(a,t)]) (ys:=zr a b) I [dH,aJ h1] U h]}
def acj:mZ X "str.join" [FK]:=by rw[bm,xs,us,N,rs,h];rw[bV,a,p,ys,rfl,rfl,q,z,h];rw[R,t,rfl,N];cases rs with|cons j rs=>cases rs;cases j;rw[aK,q,q,q];{obtain⟨az,r,⟨o,n,J,O,_,hd⟩,_⟩:=[eD,q];exact aqR #[o,J,O,n,hd] (by exact FG r) z [Jn]};{obtain⟨az,r,L,_⟩:=[e',q];exact aqS L (by exact FG r) z [Jn]}
def FM{id}{C:au->[P]}{g:au->V}(rule:∀(a:au)(t:iz)(s:aD)(Q:[el]),C a->(∀(u:aq)(k:Nat),bC (g a) u->Q u [tH,s,k])->[gb,[sW,id,[.str a t]],Q,s]):mZ X id [nX,xs,∃a,[rc]/\xs=[]/\C a/\Q (g a) H]:=by rw[bm,xs,us,N,rs,h];rw[ac,a,rfl,rfl,O,h,h];rw[R,t,rfl,N];rw[aT,rs,rule a t s _ O λu k r=>#[g a,H,I.tok k,r,h]]
def Z5:[w7,"str.isdigit",xs,ajx a]:=FM λ_ _ s _ _ h=>PySem.SC.isdigit (h _ _ Y)
def US:[w7,"str.isalpha",xs,ajy a]:=FM λ_ _ s _ _ h=>PySem.SC.isalpha (h _ _ Y)
def Xz:[w7,"str.isalnum",xs,ajz a]:=FM λ_ _ s _ _ h=>PySem.SC.isalnum (h _ _ Y)
def aa5:[sI,[bR,"int"],xs,∃a n,xs=[[L,a]]/\PySem.intText? a=aa n/\[bV]<=640/\Q [dm] H]:=by intro pins s σ H xs us Q I rs h;rw[an,a,n,rfl,q,U,h,h];cases rs with|cons j rs=>cases rs;rw[aG,t,rfl,j,aqT q U #[[dm],H,[hl],[gS],h]]
end
section
variable{X:Cx}{o e:bQ}{to te:TE}
def tM0(r:[np])(to:TE):TE:=[xU,∃a,[rc],r x [] H1 Q]
def E6(r:[np])(to te:TE):TE:=[xU,∃a,[rc],te σ H1 λy H2=>r x [y] H2 Q]
def acD{id}{apos pos}(slot:Slot "str" name id)(ty:[tT])(rule:mZ X id r)(J:[oQ])(W:[Ae]:=by rfl)(B:[hM,[sT]]:=by rfl):[mv,name,[],pos,tM0 r to]:=by rw[aV,Q,h,PySem.Call_method0 W B [qq,[ml],L,q]];obtain⟨⟨a,rfl⟩,q⟩:=q;rw[aG,t,rfl,_root_.id j,[HN,C_ (rule _ _ _ _ _ _ _ _ Q S j [aA] q)]]
def Ly{id}{apos pos}(slot:Slot "str" name id)(ty:[tT])(rule:mZ X id r)(J:[oQ])(U:[hW])(O:[dS]:=by rfl)(W:[Ae]:=by rfl)(B:[hM,[sT]]:=by rfl):[mv,name,[e],pos,E6 r to te]:=by rw[aV,Q,h,PySem.Call_method1 W O B [qq,[ml],Z,q]];obtain⟨⟨a,rfl⟩,q⟩:=q;rw[R,t,rfl,_root_.id j];rw[d8,[HN,Jc (C2 ?_)],[ev,U _ _ _ _ _ S q,u,N,y,H2,G,L,z,IX (rule _ _ _ _ _ _ _ _ Q G j (.cons L [aA]) z)]]
def M0{apos pos}(q:[oQ])(j:[hW])(O:[dS]:=by rfl)(W:[eF,o,"split"]:=by rfl)(B:[hM,[sT]]:=by rfl):[mv,"split",[e],pos,E6 [GA] to te]:=Ly Jn F.type_str_split ZX q j O W B
def ae9{apos pos}(q:[oQ])(j:[hW])(O:[dS]:=by rfl)(W:[eF,o,"join"]:=by rfl)(B:[hM,[sT]]:=by rfl):[mv,"join",[e],pos,E6 [FK] to te]:=Ly F.slot_str_join F.type_str_join acj q j O W B
end
end L2
namespace Att
open PySem PySem.W PySem.Calls PyProof.Rows
section
variable{prog:cP}{w:cz}{A:dc}{E:aq->aD->Prop}{s:aD}{K:aQ}
def Vi(X:[qN])(nq:s.heap.NoLimit)(ho:[e9,f]=aa #[oc,od,.func [xx,J,I,U],t5])(N:sj K O qual=ae)(n:A.depth<uH)(HM:IY s [xx,J,I,U] j B)(z:(B.all λy=>[mi,[b4]]==[fj]||[mi,[b4]]==[kc])=ae)(h:∀W,([GR,O,B,W])->aE [g6] [D2] (execs body [t3,O]) (λfl s'=>R [iy,[d6,fl,[bj,v],v,[aZ]]] s') (λe s'=>aE [g6] [D2] (leaving [t3,O] e) (λ_ G=>R [kT] G) (λe' G=>R (.error e') G) s') W)(q:scope.isCoroutine=af)(S:scope.isGenerator=af)(L:scope.kind=[kj]):[o0,.call [hx] j,s]:=by rw[aj,ai7 n (X _ _ ho) Y q S Y (ai8 X N) (HM _ _ _ _ ?_),ai9 L (kindsX z _) λenv Z W x=>?_];rw[bf,Z,#[nq.keeps x.toInCall.keep,codeAny_func (h _ x)]]
end
end Att
namespace L2
open PySem PySem.Spec PyProof.Rows
def NW:∀{B}{ns},mG B ns->bq [jf] B|_,_,[aA]=>[aA]|_,_,.cons n t h=>.cons #[t,Y] (NW h)
def ac1(s:kW):so:=[d6,s,.FunctionDef _ a _ _ _ _ _ _ _ _,a,{posonlyargs:=[],args:=[],vararg:=ag,kwonlyargs:=[],kw_defaults:=[],kwarg:=ag,defaults:=[]}]
def Ot(s:kW):List kW:=[d6,s,.FunctionDef _ _ b _ _ _ _ _ _ _,b,[]]
def vq(s:kW):fo:=[d6,s,.FunctionDef _ _ _ _ _ _ sc _ _ _,sc,{kind:=[kj],names:=[],isGenerator:=af,isCoroutine:=af}]
structure Vr (K : aQ) (x qual : au) (st : kW) (f : ai) (fd : uI) : Prop where
 ex : ∃ (oc : aq) (od : Option ai) (kV doc pm : aq) (an : Option ai) (cdv ct : aq) (osl : Array (Option aq)),
  fd = zj x qual (ac1 st) (Ot st) (vq st) .none kV doc pm an cdv ct ∧ K.lookup f = aa ⟨oc, od, .func fd, osl⟩ ∧ sj K cdv qual = ae
 kp : jg K (.ref f) = ae
def tU(h:bP)(I:ai)(cls:aq)(W:[kF])(a:[be,ai×aq]):[P]:=∃C B,[dd,I,C]/\C.cls=cls/\C.dict=W/\C.data=.fields B/\1<B.size/\[cX,a,ag,[aQ,B,1,qD],[oG],[aQ,B,1,[m,T]]/\T≠I/\∃t ts,[dd,T,t]/\t.data=.fields ts/\[aQ,ts,3,fl]]
def sy(I:ai)(a:[be,ai×aq]):[ba]:=I::[f4,(·.1)].toList
def vf(h:b∉sy I a):b≠I/\∀T fl,a=[oG]->b≠T:=#[λq=>h [q,q,[qP]],λT fl e q=>h (by subst e;rw[Y,q,[rY]])]
def Xm(f:Array _->Array _)(o:bn):(Jo f o).dict=o.dict:=by obtain⟨_,_,d,_⟩:=o;rw[bx,d]
section
variable{M:Model}{A:dc}{E:aq->aD->Prop}{s:aD}
def MO(N:A.frames=aa [sZ])(U:[vx,base,[sZ]])(f:w.frame=aa l)(d:env.frame=aa l)(O:[bH,I,C])(hd:C.data=.fields B)(W:1<B.size)(h:∀h' j,([lS,j])->tU h' I C.cls C.dict (aa (j,fv l))->[Gc,b≠I]):aE M A (do let a←Jp env;let pl←entryPlaceOf l r;let b←ajB e a [aZ] (fv l) [aZ] pl;TZ [m,I] 1 b) Q E s:=by rw[K,nf,I∉[sZ].filterMap _,λS=>by obtain⟨_,o,u,L⟩:=U.mem S;rw[aq,O,u,u];rw[a'],P,Jp env=Jp w,by unfold Jp;rw[d,f]];rw[P];rw[ao,wpAny_frameOf_fun N U f λg x=>[aJ,wpAny_entryPlaceOf λpl i=>?_]];unfold ajB newFields;rw[ao,pi ?_ (i.sizeOk5 _ _ _ _ _)];generalize hN:({cls:=.type _,dict:=ag,data:=.fields _}:bn)=G;have z:=[bG,[bD].1 _ nf,O];rw[ae,p,[o_,g.push G]=[cf],[dQ,z],zt p hd W ?_];rw[V,ne,gj (bF z),y,Df hd (·.setIfInBounds 1 (da g.objs.size))];rw[ae,kp,[h3,I,g.get? b=[a9],[k_,(g.push G).update _ (Jo (·.setIfInBounds 1 (da g.objs.size)))]],λb o nb J=>[q,[k9,nb],[dQ,J]],h _ _ (IL (uO [dH,[R]])) ?_ (λb o J nb m=>kp b o nb [bG,[bD].1 b m,J]) λb o J nb=>?_];{refine#[_,_,(mH _ p (T1 y)),ajC _ _,Xm _ _,y,[aD,W],by simp[W],ne,G,[hc,[e,[hA],[aZ],fv l,[aZ]]++[A,pl.isEmpty,fH 6 _,pl]],[cw,[k9,ne],cZ g ([jI,hN])],by rw[<-hN],?_];rfl};{rw[aG,sl,q,[bD].2 b o J,#[sl,kp b _ nb q]]}
def Wc(N:A.frames=aa [sZ])(U:[vx,base,[sZ]])(y:[sM])(d:env.frame=aa L)(x:tU s.heap S cls W a)(h:∀h' j,([lS,j]\/∃fl,a=aa (j,fl))->tU h' S cls W (aa (j,fv L))->[Gc,b∉sy S a]):[eG,M,Jq [lY] env]:=by obtain⟨v,B,u,O,l,hd,P,r⟩:=x;unfold Jq;rw[ab,d];match a,r,h with|ag,r,h=>rw[aj,[aJ,fu u hd r ?_],MO N U y d u hd P λh' j n x F Z=>?_];rw[O,l]at x;exact h _ _ [J,n] x (λb o e nb=>F b o e [M,vf nb]) λb o e nb=>Z b o e [M,vf nb]|[oG],#[m,I,t,ts,G,C,p],h=>rw[aW,fu u hd m ?_,fu G C p ?_];rw[D,z,fl=fv L];{rw[a2];rw[Y,aJ (by simp),bg (h _ T (by simp) #[v,B,u,O,l,hd,P,m,I,t,ts,G,C,p] (λb o e _ _=>e) λb o e _=>#[o.slots,e])]};{rw[aw [aB,¬[cB,fl,fv L],λq=>z (gp q)]];rw[ao,zt G C [M,Jr.mp p] ?_];rw[a1,g,[KF,(·.setIfInBounds 3 qD)],λb J=>[k9,J],c,[dh,[gk],(∀ws,o.data≠.fields ws)->b≠T],λb o J i q=>by rw[q,G]at J;rw[aT,J,i _ C],MO N (U.of_keeps λb o J i=>#[o,[bG,g b (c b o J i),J],Y]) y d [bG,g _ (dt I),u] hd P λh' j n x F Z=>?_];rw[O,l]at x;rw[bp,f,[lS,j]\/∃k,[oG]=aa (j,k),by rw[aJ,j=T];rw[av,[aC,#[fl,by rw[q]]],[J,(g _ q).symm.trans n]],h _ _ f x (λb o e nb nf=>F b o [ha,g b ((vf nb).2 T _ Y)] [M,vf nb] nf) λb o e nb=>Z b o [ha,g b ((vf nb).2 T fl Y)] [M,vf nb]]}
def abX(x:tU s.heap a cls W [oG])(h:∀h',tU h' a cls W [KV]->([dh,[gk],b≠T->[ma,o]])->[Al]):[eG,M,T2 [aL] d]:=by obtain⟨i,B,e,O,l,hd,z,m,I,t,ts,q,C,u⟩:=x;have z3:=[M,Jr.mp u];rw[ao,fu e hd m ?_];rw[ae,g,[KF,(·.setIfInBounds 3 (d.elim qD λf=>fv f))],λb J=>[k9,J],zt q C z3 (h _ #[i,B,[ha,g _ (dt I)],O,l,hd,z,m,I,_,_,mH _ q (T1 (Df C _)),Df C _,by simp[z3]] [f])]
end
def c7.there(x:[tb,o]):∃ob,[dd,a,ob]:=by cases o with|lst G=>rw[dV];grind|tup G=>obtain⟨_,_,_,ob,e,_⟩:=x;grind|dK B=>rw[cK];grind|dT B=>rw[cK];exact#[_,e]|set S n=>rw[dO];exact#[_,e]|aX q p fs=>rw[dW];grind|own y=>exact x|xd fs=>obtain⟨_,⟨_,_,_,e,_⟩,_⟩:=x;exact#[_,e]|nh lo m=>obtain⟨_,_,_,e⟩:=x;rw[a']|cb ob C=>exact#[_,[R]]|fM ps=>exact#[_,[x_]]|met f y=>exact#[_,[x_]]|ext j=>exact [bU]
section
variable{X:Cx}{pins:List (ai×bn)}{σ:St}{H H':Hp}{s s':aD}{h':bP}
def ak.Ry{ch:[h]}(I:[ac])(Z:[dh,[gk],([hu])->b∉iQ [gq]->[ma,o]])(B:[dh,[gk],([hu])->[B0]])(j:[eu,ch,[r2]=ag/\[fx]/\[AC]]):[c5,H,[ct,h']]:=by rw[K,S,[dh,[r2]=[a9],[hu]],λb o e z=>[aq,[M,j b z],e,e],lo,[CI],λb o e q=>[c8,hc [ee] [q,q,I.ok.above],qy _]];rw[a1,g,∀b,b≠[gB]->b∉X.fs->b∉iQ _,λb m u z=>[c1,I.Bv b z].elim m u,mO,∀c v,(∀q∈ch,c≠q)->[KD],λc v O#[o,e,d]=>[aG,sl,e',B c o e λz=>O c z Y,#[_,e',d]],#[I.ok,I.os,I.bare,[w_,λb o e n J L=>Z b o [uy,n] [wl] (g b (lo b o e) J),[p'],[u4]],?_,[zH],I.free,I.ie,λp y=>?_,[zF],I.len]];{rw[R,sl,W,[uD,n]];rw[aG,N,h,B b _ W [wl],#[N,h]]};{rw[R,o',W,[p4]];rw[aG,sl,h,B b _ W [wl],#[_,h]]};{obtain⟨G,⟨o,k,Q,ho,r⟩,U⟩:=I.loc;rw[bF,sl,h,B _ o ho λz=>[aE,j _ z].1 Y,#[G,#[_,k,Q,h,r],λi x v a b c=>?_]];rw[aL,C,t,lk,U i x v a b c,#[C,t,?_]];rcases lk with q|⟨w,c',F,T⟩;rw[av,[J,q],[aC,#[w,c',F,mO _ _ (λq P=>[eT,j q P].1 x _ F) T]]]};{rw[aG,v,T,[sS],#[v,mO c v (λq P=>[eT,j q P].1 x c e) T]]};{rw[ac,e,n,l,f,d,I.eH p y];exact#[Z _ _ e (λz=>[eT,j _ z].2 p y Y) (g _ l f),n,l,f,d]};{rw[ae,nt,[qf,[hu]/\b∉iQ _],λb C q=>#[λz=>([aq,[ae,j b z],q,q]),λz=>([aq,I.Gn b z,q,q])],(I.aO a C e).jT (λb v J q=>?_) (by simp) (by simp)];rw[aK,J,z,z];{rw[bf,z,Z b v q [M,nt b C e] [bo,nt b C e]]};{exact Z b v q [M,nt b _ z] [bo,nt b _ z]}}
structure XI (X : Cx) (pins : List (ai × bn)) (σ : St) (H : Hp) (s : aD) (ea : ai) (cls : aq) (dxo : Option ai) (md : Option (ai × aq)) : Prop where
 inv : ak X pins σ H s
 hex : ∀ b ∈ X.ex, ∃ o, (b, o) ∈ X.pn
 oQ : tU s.heap ea cls dxo md
 ap : ∀ b ∈ sy ea md, X.eD.heap.get? b = ag ∧ H b = ag ∧ b ≠ X.env.locals ∧ (∀ x c, X.env.cells.lookup x = aa c → c ≠ b) ∧ ∀ p ∈ X.pn ++ pins, p.1 ≠ b
def gC(X:Cx)(E:XK):[P]:=∀(pins:[eJ])(σ:St)(H:Hp)(s:aD)(I:ai)(cls:aq)(W:[kF])(a:[be,ai×aq]),([mn,s,I,a])->E cls W H->X.xe [m,I] s
def kD(P:cP)(w:cz):sC:=λouter H s E e s'=>∃a cls W T H',e=[aL]/\[G_,tU [jG] a cls W (aa (T,[aZ])),[lS,a]/\[lS,T]/\H' a=ag/\H' T=ag/\E cls W H']
def ak.apart(I:[ac])(hex:[kb])(J:[lS,b])(h:[iL]):[r2]=ag/\[iL]/\[AC]:=by rw[ae,no,∀o,([gk])->False,λo e=>[f],#[?_,h,λq=>?_,λx c e q=>?_,λp m q=>?_]];{cases e:[r2]with|none=>rfl|some o=>rw[D,L,b∈X.ex];{rw[aG,a,N,hex b L,(no _ [M,I.eH _ (IM _ N)]).elim]};{rw[iQ,a,d,[p4]]}};{obtain⟨G,⟨o,_,_,z,_⟩,_⟩:=I.loc;grind};{obtain⟨v,o,d,_⟩:=[sS];grind};{rw[cd,[M,I.eH p m]]}
def Fd(hex:[kb])(t:[lZ]):lz (kD X.prog X.w) X E:=by intro pins σ H s e s' I h;obtain⟨S,cls,W,T,H',rfl,os,bare,un,aO,x,a,G,C,j,q⟩:=h;refine t _ _ _ _ _ _ _ _ #[I.BK os un aO bare (by simp),hex,x,[fI]] q;rw[a0,[c1,J],rfl,J,I.apart hex a C];{rw[cP,I.apart hex G j]}
def XI.He{r}(x:[mn,s,S,a])(C:[EG])(I:[gq]=w::r)(O:[sM])(d:env.frame=aa L)(h:∀h' j,([mn,[ct,h'],S,aa (j,fv L)])->[Al]):[eG,M,Jq [lY] env]:=by rw[bn,st,x.inv.stack,I,st];refine Wc (C.trans (by rw[I])) st O d x.oQ λh' j U z Z B=>?_;rw[aZ,u,x.inv.Ry (λb o e nb nf=>Z b o e nb ([af,I,nf,nf])) B x.ap,h _ _ #[u,x.hex,z,[fI]]];rw[a0,[c1,J],rfl,J,x.ap b [qP]];{have e:=[aD,J];subst e;rw[bZ,U,n,fl,rfl];{rw[bp,m,[fx],by cases q:H b with|none=>rfl|some o=>rw[iQ,ob,c,(x.inv.aO b o q).there],x.inv.apart x.hex n m]};{exact x.ap b [rY]}}
def XI.xp(x:[mn,s,a,[oG]])(h:∀h',([mn,[ct,h'],a,[KV]])->[Al]):[eG,M,T2 [aL] d]:=by refine abX x.oQ λh' z k=>h _ #[x.inv.Ry (ch:=[T]) [f] (λb o e nb=>#[o.slots,k b o e [f]]) [fI],x.hex,z,x.ap];rw[cP,x.ap b [rY]]
def OE{K}:gC [wH,kD P w,t,f,G,L,S] E:=by intro pins σ H s e cls W a x q;show aE _ _ _ _ _ s;rw[aj,[aJ,x.He x.inv.ok.frames Y Y Y λh' j z=>?_],z.xp λh I=>?_];exact#[e,cls,W,j,H,Y,I.inv.os,I.inv.bare,I.inv.base,I.inv.aO,I.oQ,[M,I.ap _ [qP]],[M,I.ap _ [rY]],[ae,I.ap _ [qP]],[ae,I.ap _ [rY]],q]
def aed{K}:sd (aK P w) [xV].A [xV].env [xV].xe:=PassesOwn.leaving
def X0{K}:lz (kD P w) [xV] E:=Fd [C4,[]] OE
end
abbrev BM:[dV]:=[[bR,"Exception"],[x8],[bR,"object"]]
abbrev iV(C N:ai)(p:au×au×[dV]×[dE]×[dV]×Bool×[be,Bool]×[kF])(k:[gM]×[gM]×[gM]×[gM]×[gM]):bn:=excClassObj [H] [ae,p] C N [cP,p] BM ae [cP,[X]] [ph,p] [ph,[X]] [cP,[mU,p]] [mU,[aE,[X]]] k.1 [ae,k] [cP,k] [cP,k.2] [mU,k] "Exception.__new__"
structure XC (K : aQ) (C N : ai) (eE : Option aq) : Prop where
 ex : ∃ p k, K.lookup C = aa (iV C N p k)
 ok : Js K N = ae
 eE : gq K N "__init__" = aa eE
def VJ{K}(X:K.In h)(S:h.Ns N a)(q:gq K N x=aa [cV]):a x=[cV]:=by obtain⟨o,l,B,e,hd,_,O⟩:=S;rw[aE,gq,q];{rename_i j p d W G lk;rw[bn,z,X _ _ lk,e,z];rw[aC,q];{rw[<-O];unfold nsFind findBy;grind};grind};{rw[bO]}
def An{K}(X:K.In h)(e:Js K N=ae)(q:gq K N x=[a9]):h.nsMap N x=o:=by cases o with|none=>exact PySem.W.nsMap_none_of_in X e q|some v=>exact VJ X (.of_isNs (T3 X e)) q
section
variable{X:Cx}{pins:List (ai×bn)}{σ:St}{H H':Hp}{s:aD}{C N:ai}{eE:Option aq}
def XC.at{K}(c:XC K C N eE)(x:K.In h):∃p k,[j6]/\h.Ns N (h.nsMap N)/\h.nsMap N "__init__"=eE:=[bu,p,k,e,c.ex,#[p,k,x _ _ e,.of_isNs (T3 x c.ok),An x c.ok c.eE]]
def ak.zz(I:[ac])(n:[lS,b]):[fx]:=by cases q:H b with|none=>rfl|some o=>rw[iQ,ob,e,(I.aO b o q).there]
def Xx(C:ai)(E:XK):TS:=λ_ _ H=>E [iO] ag H
def acC(hh:[sn])(hex:[kb])(t:[lZ])(c:XC X.K C N ag)(m:[dI])(U:[fm,C])(hd:[cm]:=by rfl):[hC,[w3,[],l],Xx C E]:=by rw[cl];obtain⟨⟨nm,L,bs,B,sub,q,col,j⟩,⟨f,W,S,u,Z⟩,P,hN,a⟩:=c.at I.dY;rw[aj,wpAny_Raise_call_sub (nm:=nm) (q:=L) (N:=N) (bs:=bs) (hdct:=ae) (sn:=B) (sub:=sub) (ab:=q) (col:=col) (dd:=j) (k0:=f) (k1:=W) (k2:=S) (k3:=u) (k5:=Z) ajD hh Y a (qc I m U #[Y,?_] hd),C_ #[Y,[f6],P,hN,λi e G=>?_]];obtain⟨p,O,_,_⟩:=G.there;exact t _ _ H _ e _ _ ag #[I.kept G.keeps,hex,#[_,_,O,Y,Y,Y,by simp,Y],λb J=>by have z:=[gp,sy,J];rw[bf,z,I.apart hex G.new (I.zz G.new)]] h
end
section
variable{prog:cP}{w:cz}{A:dc}{E:aq->aD->Prop}{h:bP}{g:Array GenState}{d:Drawn}{t:Nat}{os:OsState}
variable{C N x:ai}{p:au×au×List aq×List au×List aq×Bool×Option Bool×Option ai}{k:Option aq×Option aq×Option aq×Option aq×Option aq}{mN:au->Option aq}{nm:au}{v:aq}{ob:bn}
open Builtin Builtin.ObjectAttr in def acU(f:[C3])(P:[j6])(S:[oV])(m:[o1])(Z:[ps])(L:[mT])(O:[mz])(r:[nP])(j:[lN]=ag)(T:[F1,.done [bj,[aZ]]]):[th,Builtin.«object.__setattr__» #[[[eA],[sP],v],[]]]:=by unfold Builtin.«object.__setattr__»;(repeat(first|rw[refuse_eq]|(rw[refuseLoop_ref,(f.passes [eA])])|rw[c5]|with_reducible refine wpAny_mroOf_exc P ?_|(rw[bK,Dg P S f.mro Z ?_,m])|wp_step));rw[j,aw (by simp[typeHasDict])];split;{rw[aB,z];cases z};split;{rename_i c z;rw[bi,z,r c]};rw[aA,U,[zJ].get? x=aa ob,[dQ,L],ne,di (bF L)];rw[ao,wpAny_alloc' [aJ,wpAny_update' U [cp]]];rw[K,u,[G8].get? [c7]=aa [kQ],[cw,ajE _ _ _ _ ne.symm,Heap.get?_push_at Y Y],nd,[G8].Ns [c7] [mW],#[_,[ca],_,u,Y,λe H=>[f',H],[bJ]]];show [sq,storeInDict [c7] [sP] nm v];unfold storeInDict newKeyGuard;rw[ao,bg [aJ,wpAny_nsSet1 (ai2 nd) λG W J=>?_]];rw[an,n,q,F,l,s,I,W.count (aiZ nm v Within.nil)];rw[ao,ai0 l [q,s,ai1 (c9 I (by rw[b7,gK,kX];omega))] ?_];wp_walk;rw[aj,T G _ ?_ W λb o nb e=>[cw,J.2 b [ts],[cw,ajE _ _ _ _ nb,[gQ]]],[cw,J.2 x ne,mH _ U ?_]];obtain⟨_,_,a,_⟩:=ob;cases a<;>first|rfl|exact [bo,Heap.get?_some_iff.mp L]
def agv(f:[C3])(P:[j6])(q:[oV])(m:[o1])(W:[ps])(L:[mT])(O:[mz])(r:[nP])(j:[lN]=ag)(z:∀a B,a.get? x=aa {ob with dict:=aa [c7]}->a.Ns1 [c7] [DT,ag]->([h3,x,[ks],a.get? b=[a9]])->R [iy,[aZ]] #[a,g,d,B,os]):[o0,[bX,.builtin sa,#[[[eA],[sP],v],[]]],[kZ]]:=Jt f.slot.plain f.entry (wpAny_check_sa f P L O (acU f P q m W L O r j z))
def abq(f:[C3])(P:[j6])(q:[oV])(J:mN "__setattr__"=ag)(m:[o1])(W:[ps])(L:[mT])(O:[mz])(r:[nP])(j:[lN]=ag)(z:[F1,()]):[th,zg [eA] nm v]:=by have f3:=f.slot.bind [eA];unfold zg callSpecial? specialOf;(repeat(any_goals(first|rfl|(with_reducible rw[O])|(rw[bK,Dg P q f.mro f.slot.lookup ?_,J])|wp_step)));refine agv f P q m W L O r j (λG B a b c=>?_);rw[cJ];grind
def JT(P:[j6])(Z:[oV])(o0:mN "__setattr__"=ag)(m:[o1])(hB:[ps])(f:x≠C)(L:[mT])(O:[mz])(r:[nP])(l:[lN]=aa z)(X:z≠x)(hA:h.Ns1 z S)(W:IK S ns)(hz:[gI]<=1000)(hq:∀s B,s.get? x=aa ob->s.Ns1 z [DT,S y]->([h3,x,b≠z,([ks])->s.get? b=[a9]])->Q () #[s,g,d,B,os]):[th,zg [eA] nm v]:=by refine store_attr ajF P Z o0 m hB f #[ob,L,O,r,[aC,#[z,l,X,hA]]] (λs B I k1 k2=>?_) W (c9 hz ([cx,kX]));rw[an,J,u,H,d1,T,x1,k2 _ L];(have e:J=ob:=by rw[ag,a,b,c,j,J];rw[ag,a',b',c',G,ob];have:=x1 _ l;subst H d1 T this l;rfl);subst e;obtain⟨o2,U,_,_,q⟩:=I;rw[aq,u,U,U];rcases q with⟨q,_⟩|⟨F,q,_,nA⟩;{rw[aq,l,q,q]};{rw[df,l,q,hq _ _ u nA λb o nb nd e=>k1 b o nb (λi n z1 z2=>by rw[aq,L,z1,z1];rw[df,l,z2,nd]) e]}
end
def qQ(d a q:au)(st:kW):[P]:=∃i z S pos,st=.Assign [.Attribute (.Name d i) a z] (.Name q S) pos
section
variable{M:Model}{A:dc}{E:aq->aD->Prop}{s:aD}
def G9{env}{st}(i:qQ d a q st)(O:env.scope.kind=[kj])(u:[z2,d])(B:[z2,q])(m:s.heap.Ns env.locals G)(n:G d=aa e)(F:G q=aa C)(h:aE M A (zg e a C) (λ_=>Q .next) E s)(j:[bE,d,"__debug__"]:=by rw[ah])(z:[bE,q,"__debug__"]:=by rfl):[eG,M,exec st env]:=by rw[ac,x,r,S,pos,rfl,i];exact ai3 (CV (IN O B m F (CV (IN O u m n h) j)) z)
end
def Xi{K}(h:uF K [hx]=ae)(l:[e9,f]=[a9]):o.cls=[bR,"function"]:=[eW,e,[cB,[fO,[e9,f]],[cf]],h]
structure X3 (K : aQ) (C N fI : ai) (fd : uI) (qual : au) (st : kW) (a1 a2 a3 q1 q2 q3 : au) : Prop where
 c : XC K C N (aa (.ref fI))
 F : Vr K "__init__" qual st fI fd
 fn : uF K (.ref fI) = ae
 b : ∃ s1 s2 s3, Ot st = [s1, s2, s3] ∧ qQ "self" a1 q1 s1 ∧ qQ "self" a2 q2 s2 ∧ qQ "self" a3 q3 s3
 bi : k7 K fd ["self", q1, q2, q3] []
 sc : (vq st).kind = .function ∧ (vq st).isCoroutine = af ∧ (vq st).isGenerator = af
 lo : ∀ x ∈ (["self", q1, q2, q3] : List au), (vq st).names.lookup x = aa .local
 nd : (["self", q1, q2, q3] : List au).Nodup
 na : ∀ x ∈ [a1, a2, a3], gq K N x = aa ag ∧ iO (.type "Exception") x = bx ag
 ns : gq K N "__setattr__" = aa ag
 Hb : ∀ x ∈ [q1, q2, q3], (x == ("__debug__" : au)) = af
 ad : a1 ≠ a2 ∧ a1 ≠ a3 ∧ a2 ≠ a3
def xT(e z h:au)(G f d:V):[fw,V]:=[(e,G),(z,f),(h,d)]
def X3.call{K}{st}(x:X3 K iJ N fI fd qual st a1 a2 a3 q1 q2 q3)(B:K.In s.heap)(U:s.heap.NoLimit)(hr:eI (k+1) A)(h:∀h' tk e dx S,(∀b o,s.heap.get? b=aa o->h'.get? b=aa o)->s.heap.get? e=ag->s.heap.get? dx=ag->dx≠e->h'.Ns1 dx S->S a1=aa C->S a2=aa u2->S a3=aa u3->(∀y,y≠a1->y≠a2->y≠a3->S y=ag)->(∃t,h'.get? e=aa {cls:=.ref iJ,dict:=aa dx,data:=.fields (List.toArray [.ref t,.none,.none,.none,.bool af,.none])})->Q (.ref e) {s with heap:=h',toks:=tk}):aE (aK prog w) A (gR (.ref iJ) [C,u2,u3]) Q E s:=by obtain⟨⟨nm,qn,bs,sn,sub,ab,col,j⟩,⟨k0,k1,k2,k3,Z⟩,P,hN,hi⟩:=x.c.at B;obtain⟨oc,od,kV,rG,pm,an,O,ct,t5,rfl,lk,gX⟩:=x.F.ex;obtain⟨s1,s2,s3,eb,i1,i2,i3⟩:=x.b;obtain⟨hh,g,d,t,os⟩:=s;refine wpAny_call_exc_init ajD P hN hi (B _ _ lk) (Xi (o:=#[oc,od,_,t5]) x.fn lk) λm e G=>?_;obtain⟨tt,he,_,_⟩:=G.there;have i:=B.keeps G.keeps;(have ps:=λus e=>by have:=x.bi #[m,g,d,t,os] us i (by simpa using e);simpa using this);refine C4 (Att.Vi (s:=#[m,g,d,t,os]) i (U.keeps G.keeps) lk gX (by have:=hr.dp;rw[J4];omega) (ps [.ref e,C,u2,u3] Y) ?_ (λs2' T=>?_) x.sc.2.1 x.sc.2.2 x.sc.1);{rw[ck];rintro⟨n,v⟩hy;have:=x.lo n (j9 hy).1;simp[this]};{obtain⟨u,t2,rfl,kp⟩:=T.done;generalize hL:(#[m,g,d,t,os]:aD).heap.objs.size=ik at T|-;generalize HN:kY qual (vq st) ik fI O=env at T|-;(have L:env.scope.kind=.function:=by rw[<-HN];exact x.sc.1);(have p:env.locals=ik:=by rw[<-HN];rfl);(have a:∀y∈(["self",q1,q2,q3]:List au),env.kindOf y=aa .local:=λy hy=>by rw[<-HN];exact x.lo y hy);have ns:=T.toInCall.ns;generalize hm:(si env.kindOf ((["self",q1,q2,q3]:List au).zip [.ref e,C,u2,u3]) λ_=>ag)=ml at ns;(have g0:ml "self"=aa (.ref e):=by rw[<-hm];exact vG (i:=0) x.nd Y Y (a _ (by simp)));(have g1:ml q1=aa C:=by rw[<-hm];exact vG (i:=1) x.nd Y Y (a _ (by simp)));(have g2:ml q2=aa u2:=by rw[<-hm];exact vG (i:=2) x.nd Y Y (a _ (by simp)));(have g3:ml q3=aa u3:=by rw[<-hm];exact vG (i:=3) x.nd Y Y (a _ (by simp)));have R8:=kp _ _ he;(have Se:e≠ik:=λq=>by rw[q,(IL (uO hL))]at he;cases he);(have H:e≠iJ:=λq=>by have:=G.new;rw[q,P]at this;cases this);have Sf:∀{ha J:bP}{mm}{b},ha.Ns b mm->(∀o,ha.get? b=aa o->J.get? b=aa o)->J.Ns b mm:=λ#[o,es,ep,e1,r]kk=>#[o,es,ep,kk o e1,r];have cN:∀{J},K.In J->J.Ns N (J.nsMap N)/\J.nsMap N "__setattr__"=ag/\∀y∈[a1,a2,a3],J.nsMap N y=ag:=λkk=>#[.of_isNs (T3 kk x.c.ok),An kk x.c.ok x.ns,λy hy=>An kk x.c.ok (x.na y hy).1];rw[eb];have K2:=i.keeps kp;obtain⟨c1,c2,c3⟩:=cN K2;refine IR (G9 i1 L (a _ (by simp)) (a _ (by simp)) (by rw[p];exact ns) g0 g1 (abq ajF (kp _ _ (G.keeps _ _ P)) c1 c2 (c3 _ (by simp)) (x.na a1 (by simp)).2 R8 Y (λc q=>by cases q) Y λh3 t3 e3 W yP=>?_) (by decide) (x.Hb _ (by simp)));generalize l:u.objs.size=dx at e3 W yP;have f:=IL (uO l);(have Sg:m.get? dx=ag:=by cases q:m.get? dx with|none=>rfl|some o=>rw[kp _ _ q]at f;cases f);(have HP:dx≠e:=λq=>by rw[q,R8]at f;cases f);(have Ldx:ik≠dx:=λq=>by obtain⟨o,_,_,e1,_⟩:=ns;rw[q,f]at e1;cases e1);have K3:=λb o q=>yP b o (λz=>by have:=B _ _ q;rw[z,G.new]at this;cases this) (K2 b o q);have Sh:=Sf ns λo q=>yP ik o (dt Se) q;obtain⟨c1,c2,c3⟩:=cN K3;have C3:=yP _ _ (dt H) (kp _ _ (G.keeps _ _ P));refine IR (G9 i2 L (a _ (by simp)) (a _ (by simp)) (by rw[p];exact Sh) g0 g2 (JT (ns:=[a1]) C3 c1 c2 (c3 _ (by simp)) (x.na a2 (by simp)).2 H e3 Y (λc q=>by cases q) Y HP W ?w1 (by simp) λh4 I e4 n4 Cr=>?_) (by decide) (x.Hb _ (by simp)));(case w1=>intro y hy;by_cases q:y=a1;{simp[q]};{exact absurd (aw q) hy});obtain⟨c1,c2,c3⟩:=cN (λb o q=>Cr b o (λz=>by have:=B _ _ q;rw[z,G.new]at this;cases this) (λz=>by have:=K2 _ _ q;rw[z,f]at this;cases this) (K3 b o q));(have Cdx:iJ≠dx:=λq=>by rw[<-q,kp _ _ (G.keeps _ _ P)]at f;cases f);refine IR (G9 i3 L (a _ (by simp)) (a _ (by simp)) (by rw[p];exact(Sf Sh λo q=>Cr ik o (dt Se) Ldx q)) g0 g3 (JT (ns:=[a2,a1]) (Cr _ _ (dt H) Cdx C3) c1 c2 (c3 _ (by simp)) (x.na a3 (by simp)).2 H e4 Y (λc q=>by cases q) Y HP n4 ?w2 (by simp) λh5 F e5 n5 k5'=>?_) (by decide) (x.Hb _ (by simp)));(case w2=>intro y hy;by_cases q:y=a2;{simp[q]};{by_cases q':y=a1;{simp[q']};{exact absurd (show(if y=a2 then aa u2 else if y=a1 then aa C else ag)=ag by rw[aw q,aw q']) hy}});refine CW #[Y,?_];refine h h5 F e dx _ (λb o q=>?_) G.new ?_ HP n5 ?_ ?_ ?_ ?_ #[tt,e5];{(have be:b≠e:=λz=>by rw[z]at q;have:=G.new;rw[q]at this;cases this);have q2:=kp _ _ (G.keeps _ _ q);(have bd:b≠dx:=λz=>by rw[z,f]at q2;cases q2);exact k5' b o be bd (Cr b o be bd (yP b o be q2))};{show hh.get? dx=ag;cases q:hh.get? dx with|none=>rfl|some o=>rw[G.keeps _ _ q]at Sg;cases Sg};{rw[aw x.ad.2.1,aw x.ad.1,aJ Y]};{rw[aw x.ad.2.2,aJ Y]};{rw[aJ Y]};grind}
def af5(hh:[gh])(h:aE M A x (λv j=>∃e t W,v=[m,e]/\j.heap.get? q=aa (iV q N p k)/\j.heap.get? e=[A1,q,W,t]/\E [m,e] j) E s):[eG,M,raiseStmt env (aa x) ag]:=by have a:[my,da q::BM,[x8]]:=[bM,T5];unfold raiseStmt;rw[ao,[pr,h,v,j,m,[vr]]];obtain⟨e,t,W,rfl,P,O,C⟩:=m;rw[ac,L,g,d,tk,os,j];(repeat(first|rfl|rfl|(rw[bK,Ju P ?_,a])|wp_step));exact wpAny_raiseNew_none hh C
def adt(r:bq [x,y,z] us):∃C v d,us=[C,v,d]/\bC x C/\bC y v/\bC z d:=by cases r with|cons a r=>rw[ac,v,d,rfl,b,c,GK r];grind
section
variable{X:Cx}
def ak.UW{σ:St}(I:[ac])(k:∀b C,([bH,b,C])->x.get? b=aa C)(h:[lS,a])(new:[k7,a,o,x,o]):[c5,[f3,o],[l3,x,t']]:=by rw[aZ,m,I.zz h,I.un #[λb C q _ _ _=>k b C q,λb C q _ _ _=>#[C.slots,k b C q],λb C q n _=>?_,λb C q _=>#[C,k b C q],λb G q=>?_,λb C G q=>?_,λb ps q=>#[[ca],?_]] [vg]];{rw[Y,[dw],n]};{rw[Y,[dw],q]};{rw[Y,[dw],q]};{rw[aW (iH q m),q];simp};{rw[eX,I.aO b C e,G]}
def adu(C:ai)(z j h:au)(E:XK)(ta:TA):TS:=λ_ σ H=>[ng,B,e,∃G f d,B=[G,f,d]/\∀a,e a=ag->E [iO] (aa a) (upd e a (.xd (xT z j h G f d)))]
def aau{st}{np im pos}(hh:[sn])(hr:[vV])(hex:[kb])(t:[lZ])(c:X3 X.K i N fI fd qual st y a2 w O g q3)(hg:[dI])(hm:[fm,i])(hk:jg X.K [m,i]=ae)(ha:PA X (e::Q) ta)(hd:[cm]:=by rfl)(he:[ii,Q]:=by rfl)(rF:[wy,im,Q]:=by rfl):[hC,[w3,e::Q,im],adu i y a2 w E ta]:=by rw[cl];obtain⟨⟨nm,qn,bs,sn,sub,ab,col,j⟩,⟨k0,k1,k2,k3,Z⟩,P,hN,hi⟩:=c.c.at I.dY;(have L:[hD,[eR,.Call (.Name x np) (e::Q) [] im],λv T=>∃U tt W,v=[m,U]/\T.heap.get? i=[Hu]/\T.heap.get? U=[A1,i,W,tt]/\X.xe [m,U] T]:=by rw[aj,nY (qc I hg hm ?_ hd),C5 (h₀:=X.base) I.ok.mod.tj hk (a9 (ha im pins s σ H _ I h) λus T#[B,H1,u,r,G,v2,d,ev,q]=>#[u.dY,?_]) he rF];subst ev;obtain⟨C,u2,u3,rfl,r1,r2,r3⟩:=adt r;case _=>refine c.call u.dY u.nolimit hr λh' tk U dx S kp ne nd a nA m1 F n m0#[tt,m]=>?_;rw[ae,l,[iZ,i]=[Hu],by rw[M,p,k,e,c.c.ex];rw[bn,z1,I.dY _ _ e,P,z1];rw[Y,uA z1,kp _ _ (u.dY _ _ e)],#[U,tt,aa dx,Y,l,m,?_]];rw[ae,I2,[c5,upd H1 dx (.xd (xT y a2 w G v2 d)),{T with heap:=h',toks:=tk}],by refine u.UW kp nd #[S,nA,λf=>?_];show hU (uG f [(y,G),(a2,v2),(w,d)]) (S f);rw[D,O,f=y];{subst O;rw[aa,uG,ux];rw[Y,m1,r1]};{rw[D,g,f=a2];{subst g;rw[ad,uG,ux,ww O];rw[Y,F,r2]};{rw[D,q3,f=w];{subst q3;rw[au,uG,ux,ww O,ww g];rw[Y,n,r3]};{rw[au,uG,ww O,ww g,ww q3];rw[jn,m0 f O g q3]}}},t pins σ _ _ U [m,i] (aa dx) ag #[I2,hex,#[_,_,m,Y,Y,Y,by simp,Y],[fI]] (q dx (u.zz nd))];have e1:=[gp,sy,J];rw[bf,e1,u.apart hex ne [hh,dt a,u.zz ne]]);rw[ao,wk ?_];first|exact af5 hh [aJ,gQ L (λv s3 h3=>[aJ,wk (bg h3)]) [vr]]|simp
end
def M5{os}(P:[j6])(F:[dd,j,iV j y B x])(J:[dd,e,i])(O:i.cls=[m,j])(z:Q (ao (j=C)) [kZ]):aE M A (excMatches [m,e] [iO]) Q E [kZ]:=by rw[K,a,[my,da C::BM,[x8]],[bM,T5],c,(da j::BM).contains [iO]=ao (j=C),[f]];have f:=tc_notTuple;unfold excMatches;(repeat(first|(rw[bK,uR J ?_,O])|with_reducible refine uR P ?_|(rw[bK,Ju P ?_,a])|(rw[bK,Ju F ?_,c])|wp_step));rw[aJ,j=C];{rw[uK q]at z|-;wp_walk;exact z};{rw[nV q]at z|-;wp_walk;exact z}
section
variable{X:Cx}{pins:List (ai×bn)}{σ:St}{H:Hp}{s:aD}
abbrev Cx.bU(X:Cx)(e:aq):Cx:={X with A:=X.A.mark (aa e),cg:=af,xe:=[qb]}
def Cx.Ok.bU(ok:X.Ok)(e:aq):[mZ].Ok:=#[ok.mod,ok.kind,ok.fA,ok.blt,ok.above,ok.inj,ok.has,ok.vv,(λh=>nomatch h),ok.frames,ok.yj,ok.sY,ok.bs,ok.lM,ok.u0,ok.tL,ok.ko,ok.qh]
def ak.bU(I:[ac])(e:aq):ak [mZ] pins σ H s:=[tP,I.ok.bU e,I.eH]
def ak.oz(ok:X.Ok)(I:ak [mZ] pins σ H s):[ac]:=[tP,ok,I.eH]
def SP.oz(ok:X.Ok)(h:SP [mZ] pins D f s):SP X pins D f s:=[Av,h,#[a,b,c.oz ok,d],#[v,a,b,c.oz ok,r,d]]
def PH(X:Cx)(h:List T6)(l:lS->XK):[P]:=∀(D:lS)(pins:[eJ])(σ:St)(H:Hp)(s:aD)(a:ai)(cls:aq)(W:[kF])(T:ai)(fl:aq),([mn,s,a,[oG]])->l D cls W H->[hD,handleBy [aL] X.env h,SP X pins D]
def XI.passOn(x:[mn,s,I,[oG]])(h:∀i C,([mn,[ct,i],I,aa (T,C)])->E [m,I] [ct,i]):aE M A (PySem.passOn a [m,I] env:Sem U) Q E s:=by obtain⟨d,B,q,O,l,hd,e,m,r⟩:=id x.oQ;rw[ao,fu q hd m ?_];exact [aJ,x.xp λi z=>T7 (h _ _ z)]
def adL(t:[lZ]):PH X [] (λ_=>E):=by intro D pins σ H s a cls W T fl x q;exact wpAny_handleBy_nil (x.passOn λi C z=>t _ _ _ _ _ _ _ _ z q)
def WT(K:aQ)(n:Nat)(C:ai)(ts:TS)(l:lS->XK):lS->XK:=[Hp,∀σ:St,[hk]=n->ts D σ H]
def XI.bU(x:[mn,s,I,a])(e:aq):XI [mZ] pins σ H s I cls W a:=#[x.inv.bU e,x.hex,x.oQ,x.ap]
def XQ{r}(c:XC X.K C N eE)(m:[dI])(d:[fm,C])(U:∀e,fQ [mZ] (b::A) ts)(L:PH X r l)(hd:[cm]:=by rfl):[wZ,ag,b,r,WT X.K [ve] C ts l]:=by intro D pins σ H s S cls W T fl I q;rw[an,j,y,h,rfl,i,q,q];rw[aZ,g,I.bU [lY],[J3,m,d]];rw[bN,p,k,P,c.at I.inv.dY,n,Z,F,i.at I.inv.dY];obtain⟨G,B,J,O,_⟩:=id I.oQ;refine M5 P F J O ?_;rw[D,e,j=C];{rw[aJ e]at q;rw[uK e];rw[aj,codeAny_handlers_suite (g.xp λu a=>?_),gQ (U _ _ _ _ H D a.inv (q _ I.inv.len)) (λf Q z=>z.oz I.inv.ok) (by simp)]};{rw[aw e]at q;rw[Y,nV e,L D _ _ H _ _ _ _ T _ I q]}
abbrev Cx.tr(X:Cx)(xe:[el])(pn:[eJ]):Cx:={X with xe:=xe,pn:=pn}
def ak.tr(I:[ac])(xe:[el]):ak [xY] [] σ H s:=[tP,#[I.ok.mod,I.ok.kind,I.ok.fA,I.ok.blt,I.ok.above,I.ok.inj,I.ok.has,I.ok.vv,I.ok.hd,I.ok.frames,I.ok.yj,I.ok.sY,I.ok.bs,I.ok.lM,I.ok.u0,I.ok.tL,I.ok.ko,I.ok.qh],[DJ]]
def ak.sR(ok:X.Ok)(I:ak [xY] j σ H s):[ac]:=[tP,ok,[DJ]]
def SP.sR(ok:X.Ok)(h:SP [xY] [] D f s):SP X pins D f s:=[Av,h,#[a,b,c.sR ok,d],#[v,a,b,c.sR ok,r,d]]
def afQ{G:XK->TS}{r}(B:[gq]=w::r)(N:[sM])(d:[yX])(hex:[kb])(J:[Gj,G E])(hh:PH X (h0::O) l):[hC,.Try body (h0::O) [] [] pos,λD σ H=>G (l D) D σ H]:=by rw[aV,D,h,wpAny_Try_except ?_];let xe:=λe j=>[gb,Jq e X.env,λ_ S=>[gb,T2 e ag,λ_ i=>[gb,handleBy e X.env (h0::O),SP X pins D,i],S],j];rw[ae,tk,gC [xY] (l D),by intro c y Q P T cls W a x q;rw[bp,F,XI X _ _ _ _ _ _ _ _,#[x.inv.sR I.ok,hex,x.oQ,λb J=>let z:=x.ap b J;#[[cA],[fB],[cP,z],[cP,z.2],λp U=>[eT,z].2 p (IM _ U)]],F.He I.ok.frames B N d λm A Z=>Z.xp λu x3=>hh D _ _ _ _ _ _ _ _ _ x3 q],[pr,J _ _ _ tk PassesOwn.looking (λb J=>let#[o,z]:=hex b J;#[o,IM _ z]) _ s _ H D (I.tr _) h,f,j,q,[vr]]];have q:=q.sR I.ok;cases f with|next=>exact CW q|brk=>exact q|cont=>exact q|ret C=>exact q
end
section
variable{prog:cP}{w:cz}{A:dc}{E:aq->aD->Prop}{h:bP}{g:Array GenState}{d:Drawn}{t:Nat}{os:OsState}
variable{C N x dx:ai}{p:au×au×List aq×List au×List aq×Bool×Option Bool×Option ai}{k:Option aq×Option aq×Option aq×Option aq×Option aq}{mN mA:au->Option aq}{nm:au}{v:aq}{ob:bn}
def afB(P:[j6])(e:[oV])(m:[o1])(f:[ps])(L:[mT])(O:[mz])(r:[nP])(l:[lN]=aa dx)(W:[s2])(I:mA nm=[cV])(q:Q (.done [bj,v]) [kZ]):[th,Builtin.«object.__getattribute__» #[[[eA],[sP]],[]]]:=by
 repeat(any_goals(first|rw[h4]|rw[c5]|(rw[bK,Dg P e (T8.mro) f ?_,m])|wp_step))
 split;{rename_i c z;rw[bi,z,r c]};unfold instanceDict;repeat(first|rw[c5]|with_reducible refine uR P ?_|wp_step)
 rw[l];unfold aqU;repeat(first|(rw[bK,wpAny_nsGet W.ns ?_,I])|wp_step)
 exact q
def Xu{M:Model}{e:aq}{Q:Unit->aD->[P]}(P:[j6])(L:[mT])(O:[mz])(z:Q () [kZ]):aE M A (Jv "BaseException.__getattribute__" #[[[eA],e],[]]) Q E [kZ]:=by rw[ak,m,builtinKind "BaseException.__getattribute__"=aa .slot,[dy],q,splitId "BaseException.__getattribute__"=aa ("BaseException","__getattribute__"),[dy],a,[my,da C::BM,[x8]],[bM,T5]];have J:=PySem.F.args_bexc_ga [eA] e;rw[ad,Jv,m,q];refine [hV];unfold isInstance;(repeat(first|rw[c5]|(rw[bK,Ju P ?_,a])|wp_step));exact z
def aaN{tk:iz}{R:zi->aD->[P]}(P:[j6])(q:[oV])(m:[o1])(f:[ps])(L:[mT])(O:[mz])(r:[nP])(l:[lN]=aa dx)(W:[s2])(e:mA nm=[cV])(z:R [iy,v] [kZ]):[o0,[bX,.builtin "BaseException.__getattribute__",#[[[eA],[sP]],[]]],[kZ]]:=Jt T8.ga.plain PySem.F.entry_bexc_ga (Xu P L O (afB P q m f L O r l W e z))
def Zc{tk:iz}{fill j:Bool}{Q:[el]}(P:[j6])(q:[oV])(z:mN "__getattribute__"=ag)(J:mN "__getattr__"=ag)(m:[o1])(U:[ps])(L:[mT])(O:[mz])(r:[nP])(l:[lN]=aa dx)(W:[s2])(e:mA nm=[cV])(hh:T9 v=bx v)(u:Q v [kZ]):[th,getAttrBy [eA] [sP] fill j]:=by rw[V,f,T8,f3,f.ga.bind [eA]];rw[ak,F,(j&&onTheHeap [BD])=af,[bx,j],B,[bE,[BD],[L2]],[dy],G,(onTheHeap (da C)&&[BD]==[L2])=af,[bM,B]];(repeat(any_goals(first|rw[h4]|rw[c5]|(rw[bK,Dg P q f.mro f.ga.lookup ?_,z])|(rw[bK,Dg P q f.mro f.noGetattr ?_,J])|wp_step)));refine aaN P q m U L O r l W e ?_;rw[cJ]
def Yj{j:Bool}{Q:[el]}(P:[j6])(q:[oV])(B:mN "__getattribute__"=ag)(J:mN "__getattr__"=ag)(m:[o1])(f:[ps])(L:[mT])(O:[mz])(r:[nP])(l:[lN]=aa dx)(z:[s2])(e:mA nm=[cV])(hh:T9 v=bx v)(u:Q v #[h,g,d,t+1,os]):[th,C0 [eA] nm j]:=by unfold C0;repeat(any_goals(first|rw[h4]|with_reducible apply Zc P q B J m f L O r l z e hh|wp_step))
end
def BY(I C:ai)(W:[kF]):HO:=.ext λh=>∃a,[dd,I,a]/\a.cls=[iO]/\a.dict=W/\∃B,a.data=.fields B
section
variable{X:Cx}{pins:List (ai×bn)}{σ:St}{H:Hp}{s:aD}
def ak.agO(I:[ac])(n:[nw])(h0:X.eD.heap.get? a=ag)(W:a≠[gB])(O:[up,a])(m:[x1,a])(new:[k7,a,o,s.heap,o]):[c5,[f3,o],s]:=by refine#[I.ok,I.os,I.bare,#[I.base.keep,I.base.slot,λb ob e nb L=>?_,I.base.there,λb B e=>?_,λb ob C e=>?_,λb ps e=>?_],I.loc,I.cell,?_,[zH],λp h=>?_,[vg],I.len];{rw[Y,[dw],I.base.free b _ e nb L]};{rw[Y,aW (iH [Ea] n),[Ea]]};{rw[Y,aW (iH (I.base.lB b _ C e) n),I.base.lB b _ C e]};{rw[aG,G,q,I.base.lR b _ e,#[G,[nv,q,n]]]};{rw[Y,aW (dt W),I.free]};{rw[Y,aW (O x c e),[z5]]};{rw[bu,e,z,r,I.eH p h,#[e,[hh,m p h,z],r]]};{rw[aJ,b=a];{subst q;rw[bW]at e;grind};{rw[af,aW q,e,(I.aO b C e).jT (by simp) (λc z=>[nv,z,n]) λc B z=>[nh,z]]}}
def ZH(K:aQ)(ta:TE)(f:au):TE:=λσ H Q=>[ng,x,e,∃a C N eE p fs v,[gy,e a=aa (BY a C (aa p)),e p=aa (.xd fs)/\XC K C N eE/\[HE,K]/\[pD,f]/\[lo,f]=[cV]/\Q v e]]
def adz(r:bC v C):T9 C=bx C:=by cases v with|a0=>obtain rfl:C=qD:=r;rfl|bl b=>obtain rfl:C=r9 b:=r;rfl|int i=>rw[bS,[qU,C=pb i t]]|str x=>rw[bS,[qU,C=CU x t]]|ls b=>rw[bS,[qU,C=Tg b t]]|yr b=>rw[bS,[qU,C=Th b t]]|ref a=>obtain rfl:C=da a:=r;rfl|ty n=>obtain rfl:C=uy n:=r;rfl
def ab8(O:[gA,ta])(J:[eF,e,f]):[cj,[Dc],ZH X.K ta f]:=by rw[bR,Q,Kj J (a9 [uk] λC n#[x,U,d,g,a,j,N,eE,t,fs,v,ex,i,A,c,ns,tl,l,q]=>?_),ex,C=da a,g];rw[ac,p,k,P,hN,E,c.at d.dY];obtain⟨⟨w,u,F,m,B,W⟩,_⟩:=d.aO a _ i;rw[aO,S,T,r,d.aO _ _ A,C,hu,L,hU.yu (v:=v) (o:=S f) [f]];rw[bh,G,λy Z=>An d.dY c.ok (ns y Z),Yj P hN [D4] [D4] [D4] tl u F (λc z=>[aq,W,z,z]) m T hu (adz L) #[v,U,d.tok _,L,q]]
def ak.zP(I:[ac])(hN:X.N.Nodup)(a:[aY,X.N,n])(U:[wc,n]=[fj])(h:∀S,ak X pins (σ.set i ag) H S->Q () S):aE M A (do bindName X.env n [aZ];unbindBehindTheSuite X.env n pos) Q E s:=by rw[M,G,f,W,id I.loc];rw[ae,F,i<[hk],[q,I.len,[dA,a]],wpAny_nameGoes_keeps U f [bM,I.ok.kind] λg v Z x=>h _ ?_];rw[ae,lo,[CI],[dB,di (hc [ee] [oC])],[vj,I.ok,[w_,λb o e nb J L=>[cw,[Dg],[uy,nb]],λb o e nb J L=>?_,[u4]],#[_,Z,λj y T m B N=>?_],[zG],λp P=>?_,λb ob e=>?_,[aD,I.len]]];{rw[aG,sl,m,[uD,nb],#[sl,[bG,[Dg],m]]]};{rw[aG,l,m,[p4],#[l,[bG,[Dg],m]]]};{rw[D,u,j=i];{rw[a']};{rw[gk (dt u)]at B;rw[aL,C,r,q,W j y _ m B N,#[C,r,?_]];rcases q with⟨k,e⟩|⟨k,c,e,z⟩;{have:y≠n:=λz=>u (BS hN m (z▸a));exact [J,#[k,[ha,aw this]]]};{exact [aC,#[k,c,e,z.sameBut x (I.pW y c e)]]}}};{rw[aG,d,z,I.cell y c e,#[d,z.sameBut x (I.pW y c e)]]};{rw[dG,e,z,ne,r,I.eH p P,#[[ha,x.2 _ ne],z,ne,r]]};{refine(I.aO b _ e).jT (λc d O q=>[bG,x.2 c ?_,q]) (by simp) (by simp);rintro rfl;rw[aK,O,z,z];{have:=I.free;rw[gE,z,e,this]};{have:=I.free;rw[aq,z,this,this]}}
def Zj(K:aQ)(n i:Nat)(C:ai)(ts:TS)(l:lS->XK):lS->XK:=[Hp,∀(σ:St)(a:ai),[hk]=n->([nw])->ts {nx:=λB e=>D.nx (B.set i ag) e,rt:=D.rt,bk:=λB e=>D.bk (B.set i ag) e,ct:=λB e=>D.ct (B.set i ag) e} [oj,[aL]] [f3,BY a C W]]
def Xd{rE}(c:XC X.K S N eE)(hg:[dI])(hm:[fm,S])(hN:X.N.Nodup)(E:[aY,X.N,nm])(U:[wc,nm]=[fj])(hs:∀e,fQ [mZ] (b::A) ts)(hr:PH X rE l)(hd:[cm]:=by rfl):[wZ,aa nm,b,rE,Zj X.K [ve] i S ts l]:=by intro D pins σ H s ea cls W T fl t q;rw[an,j,y,h,rfl,c',q,q];rw[aZ,g,t.bU [m,ea],[J3,hg,hm]];rw[bN,p,k,P,c.at t.inv.dY,p',k',F,c'.at t.inv.dY];obtain⟨oe,B,he,O,_⟩:=id t.oQ;refine M5 P F he O ?_;rw[D,e,j=S];{rw[aJ e]at q;subst e;rw[ci,uK Y,codeAny_handlers_suite_as (g.xp λh' w=>?_)];rw[ac,Z,a1,a2,a3,a4,w.ap _ [qP]];obtain⟨G,I,n,vX,L,J,_⟩:=id w.oQ;have I1:ak _ _ _ (upd H _ (BY _ _ _)) _:=w.inv.agO a1 Z a2 a3 a4 #[#[G,n,vX,L,I,J],#[_,n],λm u#[o,e1,e2]z=>#[o,z o e1,e2]];rw[aj,BZ (X:=X.bU _) (v:=[dP]) I1 hN E [J,U] Y (λs2 I2=>?_) [aC,U],[pr,hs _ _ _ _ _ _ I2 (q _ _ t.inv.len a1),f,s',z,by simp]];have ok:=t.inv.ok;rw[Av,z,(c.oz ok).zP hN E U λs3 Q=>#[_,_,Q,d],(c.oz ok).zP hN E U λs3 Q=>#[v,_,_,Q,r,d]]};{rw[aw e]at q;rw[Y,nV e,hr D _ _ H _ _ _ _ T _ t q]}
end
section
variable{X:Cx}
abbrev Cx.lm(X:Cx)(s:aD)(H:Hp)(S:fo)(G:jd)(l:[ba])(xe:[el])(pn:[eJ]):Cx:=[Ic,l,S.names.lookup x,pn,xe]
def UD{σ:St}{rE}(tk:[lZ])(hex:[kb])(tY:[gq]=w::rE)(hfe:w.frame=aa ik)(d:X.env.frame=aa ik)(O:[cF])(hN:X.N.Nodup)(I:[ac])(hi:[z7])(ok:[ld,c8])(hg:[Kp,PG [pC,c8,cl,iJ,fp] tg g])(ht:[Kp,lY [pC,c8,cl,iJ,fp] d_ tt])(he:[IA,iJ,cl,fp,[ba],[eJ],c8,te])(hs:[kX])(h:sI wi g tt te [k0] σ H Q)(HA:∀D iJ s' G H',[GD,iJ,G]):[Kz,[I0],c8,Cs]:=by rw[ef,c8.names,y.2=[ec],[aC,k],u];rw[d9,fp,qj,u,.seq [hc,[]],s3,s3.heap=s2.heap.push [Ak]];rw[d1,fp,b<s2.heap.objs.size,[bF],b<[j7],s3.heap,s3,[j7],[j7]+1,c8.names];rw[d5,l,c8,[j7]+1,c8.names,[j7],s3,s3.heap.push [kQ],ce];rw[K,cL,ce.locals=[j7],by subst Cj;rfl,cF,ce.frame=X.env.frame,by subst Cj;rfl];rw[ft,s3,s3.heap.push [kQ],c8.names];rw[ak,yL,tn 0 s4.heap,[Hn],nz,[G3,[xH],fp],[Gb],yM,jf [c4] X.A (.compLoop [I0] 0 [gO] [jO] ce) [Cj,[j7]] s4,by refine Ky (λn s'=>[FH,s3,c8,ce,fp,n]) ?_ m0 #[0,H3,I4,yL,yK,w0];rw[en,[Ij,[xH]],r,Z,z,G,D,[j7],I3.BK (ch:=fp) I6.os I6.base I6.aO I6.bare [B7],I3.jC [dq] nC];{rw[d6,s3,c8,ce,fp,C,G,G<n,[iL]];cases b with|false=>simp only[dj,b8]at q9|-;exact fj I9 q9|true=>simp only[bI]at q9|-;let xb:=wu [c4] X.A ce (λe s'=>wv [c4] X.A X.xe o4 Qf [jO] [j7] [kT] s');rw[K,hpn,[rD,fp,[yB]],λb J=>by rw[a9,o,e,T.obj _ _ rH b J];rw[aS,o,vn J e],tb,gC [Lf] E,by intro apQ mq H' s' ea cls W a xi q;refine xi.He (M:=[c4]) (A:=X.A) (env:=ce) (xi.inv.ok.frames) tY hfe (cF.trans d) λm A x1=>?_;rw[a9,G,hn,x1.inv.loc];rw[bn,hn,hn,cL,hn];refine#[G,hn,λu sb gG dw=>?_];have nC:H' [j7]=ag:=[hr,z,x1.inv.free,cL,z];rw[an,g0,g1,g2,g3,g4,g5,I3.jC [dq] nC];rw[a4,I8,ak.turned (s:=[mM,s',m]) (h':=u) (t':=s'.toks) (it:=s3.heap.objs.size) (I3.BK (ch:=fp) x1.inv.os x1.inv.base x1.inv.aO x1.inv.bare [B7]) [uX,sb] g0 g1 g3 g4 g5,nL,[eu,sy ea (aa (A,fv ik)),b≠[j7]],λb J z=>[aE,x1.ap b J].1 (by rw[z,cL]),x2,XI X pins σ H' [mM,s',u] ea cls W (aa (A,fv ik)),by refine#[I8,hex,?_,λb J=>I3.apart hex [M,x1.ap b J] [ae,x1.ap b J]];obtain⟨oe,B,he,a1,a2,a3,a4,a5,a6,t,ts,hT,P⟩:=x1.oQ;exact#[oe,B,[bG,sb.2 ea (nL ea [qP]),he],a1,a2,a3,a4,a5,a6,t,ts,[bG,sb.2 A (nL A [rY]),hT],P]];exact x2.passOn λh3' R5 x3=>tk _ _ _ _ _ _ _ _ x3 q];rw[ae,I9',ak [Lf] [] nB H9 s9,#[#[I9.ok.mod,I9.ok.kind,I9.ok.fA,I9.ok.blt,I9.ok.above,I9.ok.inj,I9.ok.has,I9.ok.vv,I9.ok.hd,I9.ok.frames,I9.ok.yj,I9.ok.sY,I9.ok.bs,I9.ok.lM,I9.ok.u0,I9.ok.tL,I9.ok.ko,I9.ok.qh],I9.os,I9.bare,I9.base,I9.loc,I9.cell,I9.free,I9.ie,λp hp=>I9.eH p ([aD,hp]),I9.aO,I9.len],gQ (pe xb [yB] hpn tb [] s9 nB H9 _ I9' q9) (λz Sc#[yv,Sd,f,HE,N,HF,HG,nx]=>?_) [vr]];rw[bp,HD,ak [xH] ([]++[yB]) nB Sd Sc,#[I9.ok,f.os,f.bare,f.base,f.loc,f.cell,f.free,f.ie,λp hp=>f.eH p ([aD,hp]),f.aO,f.len],[KK,[xH]]]}];exact [Ka]
def abi{T}{A}{g}{j}{a}(tk:[lZ])(hex:[kb])(N:[gq]=w::T)(P:[sM])(d:[yX])(O:[cF])(hN:X.N.Nodup)(i:PI X B F A)(ok:[ld,S])(W:[jX,z,u,[ba],PG [qW,S] B g])(m:[t6,z,u,lY [qW,S] n j])(p:[FV,a])(Z:[kX]:=by rfl):[cj,[rR,n],sI A g j a [k0]]:=by rw[aV,Q,h,UD tk hex N P d O hN I i ok W m p Z h λD C t G r y q U f=>#[G,U,λk c=>?_]];rw[dT];exact#[[jO],r,y.turned [uX,c] f0 f1 f3 f4 f5,Y,q]
end
end L2
namespace Snd
open PySem PySem.Spec PyProof.Rows L2
open Ir(D aP aj lim)
abbrev Le(F H:Hp):[P]:=∀a o,F a=[a9]->[jQ]
abbrev lg(r r':[ba]):[P]:=[lU,n,a,ai,[At],[aQ,r',n,a]]
def ii:([ak])->[be,[iE]]|[]=>aa []|[bn]=>(gW x).bind λk=>[S,ii r,(k::·)]
def mL:D->[be,[iE]]|[eB]=>ii l|_=>ag
section
variable(T:Tb)(K:aQ)
mutual
def aG(r:List ai)(F:Hp):D→V→Prop|.a0,v=>v=.a0|.bl b,v=>v=.bl b|.int i,v=>v=.int i|.str s,v=>v=.str (sv s)|.tup l,v=>∃a B,v=.ref a∧F a=aa (.tup B)∧l.length≤lim∧aY r F l B|.lst l,v=>∃a B,v=.ref a∧F a=aa (.lst B)∧l.length≤lim∧aY r F l B|.dX l,v=>∃a B,v=.ref a∧Rd F a (.lst B)∧l.length≤lim∧aY r F l B|.b6 l,v=>∃a B,v=.ref a∧cw K F a B∧aY r F l B|.aU l,v=>∃a e,v=.ref a∧F a=aa (.dK e)∧l.length≤lim∧cE r F l e|.du l,v=>∃a,v=.ref a∧T.du a l|.bY l,v=>∃a e,v=.ref a∧F a=aa (.dT e)∧l.length≤lim∧cx r F l e|.i7 l,v=>∃a x e,v=.ref a∧F a=aa (.cb x (.dT e))∧l.length≤lim∧cx r F l e|.obj c l,v=>∃a p fs,v=.ref a∧F a=aa (.aX (T.eB c) p fs)∧dA r F l fs|.ref n,v=>∃a,v=.ref a∧r[n]?=aa a|.fn k,v=>v=.ref (T.cS k)
def aY(r:List ai)(F:Hp):List D→List V→Prop|[],B=>B=[]|d::G,B=>∃v ws,B=v::ws∧aG r F d v∧aY r F G ws
def cE(r:List ai)(F:Hp):List (D×D)→List (dF×V)→Prop|[],B=>B=[]|(k,d)::G,B=>∃j v ws,B=(j,v)::ws∧gW k=aa j∧aG r F d v∧cE r F G ws
def cx(r:List ai)(F:Hp):List (D×D)→List (List dF×V)→Prop|[],B=>B=[]|(k,d)::G,B=>∃j v ws,B=(j,v)::ws∧mL k=aa j∧aG r F d v∧cx r F G ws
def dA(r:List ai)(F:Hp):List (Nat×D)→List (au×V)→Prop|[],B=>B=[]|(k,d)::G,B=>∃v ws,B=(T.eZ k,v)::ws∧aG r F d v∧dA r F G ws
end
end
section
variable{T:Tb}{K:aQ}{r r':List ai}{F F':Hp}
def u7(h:Le F F')(x:Rd F a o):Rd F' a o:=x.elim (λe=>[J,h _ _ e]) λ#[b,e]=>[aC,[f]]
def Cc(h:Le F F')(x:cw K F a B):cw K F' a B:=x.elim (λe=>[J,u7 h e]) .inr
mutual
theorem aG.mono(L:lg r r')(h:Le F F'):∀(d:D)(v:V),aG T K r F d v→aG T K r' F' d v|.a0,v,x=>by exact x|.bl b,v,x=>by exact x|.int i,v,x=>by exact x|.str s,v,x=>by exact x|.fn s,v,x=>by exact x|.tup l,v,x=>by obtain⟨a,B,e,q,n,z⟩:=x;exact⟨a,B,e,h _ _ q,n,aY.mono L h l B z⟩|.lst l,v,x=>by obtain⟨a,B,e,q,n,z⟩:=x;exact⟨a,B,e,h _ _ q,n,aY.mono L h l _ z⟩|.dX l,v,x=>by obtain⟨a,B,e,q,n,z⟩:=x;exact⟨a,B,e,u7 h q,n,aY.mono L h l B z⟩|.b6 l,v,x=>by obtain⟨a,B,e,q,z⟩:=x;exact⟨a,B,e,Cc h q,aY.mono L h l _ z⟩|.aU l,v,x=>by obtain⟨a,G,e,q,n,z⟩:=x;exact⟨a,G,e,h _ _ q,n,cE.mono L h l _ z⟩|.du l,v,x=>by exact x|.bY l,v,x=>by obtain⟨a,G,e,q,n,z⟩:=x;exact⟨a,G,e,h _ _ q,n,cx.mono L h l _ z⟩|.i7 l,v,x=>by obtain⟨a,I,G,e,q,n,z⟩:=x;exact⟨a,I,G,e,h _ _ q,n,cx.mono L h l G z⟩|.obj c l,v,x=>by obtain⟨a,p,fs,e,q,z⟩:=x;exact⟨a,p,fs,e,h _ _ q,dA.mono L h l _ z⟩|.ref n,v,x=>by unfold aG at x⊢;grind
theorem aY.mono(L:lg r r')(h:Le F F'):∀(l:List D)(B:List V),aY T K r F l B→aY T K r' F' l B|[],B,x=>by exact x|d::C,B,x=>by obtain⟨v,ws,e,a,b⟩:=x;exact⟨v,ws,e,aG.mono L h d v a,aY.mono L h _ _ b⟩
theorem cE.mono(L:lg r r')(h:Le F F'):∀(l:List _)(B:List _),cE T K r F l B→cE T K r' F' l B|[],B,x=>by exact x|(k,d)::C,B,x=>by obtain⟨j,v,ws,e,u,a,b⟩:=x;exact⟨j,v,ws,e,u,aG.mono L h d v a,cE.mono L h _ _ b⟩
theorem cx.mono(L:lg r r')(h:Le F F'):∀(l:List (D×D))(B:List _),cx T K r F l B→cx T K r' F' l B|[],B,x=>by exact x|(k,d)::C,B,x=>by obtain⟨j,v,ws,e,u,a,b⟩:=x;exact⟨j,v,ws,e,u,aG.mono L h d v a,cx.mono L h _ _ b⟩
theorem dA.mono(L:lg r r')(h:Le F F'):∀(l:List _)(B:List _),dA T K r F l B→dA T K r' F' l B|[],B,x=>by exact x|(k,d)::C,B,x=>by obtain⟨v,ws,e,a,b⟩:=x;exact⟨v,ws,e,aG.mono L h d v a,dA.mono L h _ _ b⟩
end
end
section
variable(T:Tb)(K:aQ)
def lh(r:[ba])(F H:Hp)(a:ai):aP->[P]|[oN]=>∃p fs,[Lv]|[aV]=>∃B,[CO]|[b3]=>∃e,[Cr]
def ox:([be,HO])->[P]|aa (.fM _)=>False|aa (.ext _)=>False|_=>True
def ig(F H:Hp):[P]:=F T.tab=ag/\(H T.tab=aa (.fM [ca])\/∃c,H T.tab=[Bt]/\H c=aa [pO])
structure a_ (r : List ai) (F H : Hp) (S : aj) : Prop where
 len : r.length = S.length
 nd : r.Nodup
 sub : Le F H
 off : ∀ a ∈ r, F a = ag
 rep : ∀ (n : Nat) (c : aP) (a : ai), S[n]? = aa c → r[n]? = aa a → lh T K r F H a c
 tab : ig T F H
structure bB (r : List ai) (F H : Hp) (r' : List ai) (F' H' : Hp) : Prop where
 keep : ∀ a o, H a = aa o → a ∉ r → H' a = aa o ∨ ∃ ps ps', o = .fM ps ∧ H' a = aa (.fM ps')
 fr : Le F F'
 nf : ∀ a o, F' a = aa o → F a = aa o ∨ H a = ag ∨ ∃ vs, o = .tup vs ∧ H a = aa o ∧ a ∉ r
 pre : lg r r'
 nr : ∀ a ∈ r', a ∈ r ∨ H a = ag
 fL : ∀ a, H' a = ag → H a = ag
def gh(r:[ba])(F H:Hp)(a:ai):D->[P]|[aV]=>∃B,[CO]|[b3]=>∃e,[Cr]|[hs]=>∃e,[es,.dT e]/\[hg]/\[lm,e]|_=>False
def B8(r:[ba])(H:Hp)(a:ai)(B:[ak]):[P]:=∃p i j k,a∉r/\p∉r/\B=[d5,[aP],j,k]/\[es,BY a [pp] (aa p)]/\H p=aa [Im]
def tu(r:[ba])(F H:Hp)(o:ai)(x:[be,V]):Ir.Slot->[P]|[V]=>True|[g0]=>[zQ,x]|[h']=>x=[eq,o]/\F o=ag/\o∉r/\[le,o]|.exc B=>∃a,x=aa [aL]/\B8 T r H a B
structure cJ (r : List ai) (F H : Hp) (σ : L2.St) (e : Ir.Env) (O : Nat → ai) : Prop where
 len : σ.length = e.length
 at_ : ∀ (i : Nat) (s : Ir.Slot) (x : Option V), e[i]? = aa s → σ[i]? = aa x → tu T K r F H (O i) x s
 inj : ∀ (i j : Nat) (d d' : D), e[i]? = aa (.own d) → e[j]? = aa (.own d') → O i = O j → i = j
def wV(r:[ba])(H:Hp)(B:[ak])(W:[kF]):[P]:=(B=[]/\W=ag)\/∃a i j k,B=[d5,[aP],j,k]/\W=aa a/\a∉r/\[es,[Im]]
def al{U:[aI]}(r:[ba])(F H:Hp)(G:Ir.R U)(ok:U->([ba])->Hp->[dL])(E:XK):[P]:=match G with|[bc,a,l]=>∀j x e,bB r F H j x e->a_ T K j x e l->ok a j x e|[iU,l]=>∀j x e W,bB r F H j x e->a_ T K j x e l->wV j e B W->E [m,T.dq c] W e|[aW]=>False
end
section
variable{T:Tb}{K:aQ}{r r1 r2:List ai}{F F1 F2 H H1 H2:Hp}{S:aj}
def Le.refl(H:Hp):Le H H:=[cY]
def Le.trans(a:Le F F1)(b:Le F1 F2):Le F F2:=λx o e=>b x o (a x o e)
def ig.step(t:[rn])(h:∀a,¬ox (H a)->H1 a=H a)(q:F1 T.tab=ag):ig T F1 H1:=by obtain⟨_,t⟩:=t;refine#[q,?_];rcases t with t|⟨c,t,C⟩;rw[av,[J,[bG,h _ [q,t,id],t]],[aC,#[c,[bG,h _ [q,t,id],t],[bG,h _ [q,C,id],C]]]]
def ig.upd(t:[rn])(q:ox (H p)):ig T F [e0,o]:=t.step (λa n=>[dw]) [fE]
def ig.ne(t:[rn])(q:ox (H p)):T.tab≠p:=λz=>by rw[a2];rcases t.2 with t|⟨c,t,C⟩<;>(rw[af,t,q,q])
def ig.lay(t:[rn])(n:[gV]):ig T (L2.upd F p o) (L2.upd H p o):=(t.upd ([jn,n])).step [zo] [hh,t.ne ([jn,n]),[fE]]
def ig.fr(t:[rn])(h:F1 T.tab=ag):ig T F1 H:=t.step (by simp) h
def zU(h:[nw]):ox (H a):=[jn,h]
def JR(h:[es,[ax,B]]):ox (H a):=[jn,h]
def bB.kp(x:[n4])(e:[jQ])(n:a∉r)(t:∀ps,o≠.fM ps):H1 a=[a9]:=(x.keep a o e n).elim id [f]
def bB.refl:bB r F H r F H:=#[λ_ _ e _=>[J,e],[cY],[yY],[cY],[mt],λ_ e=>e]
def bB.L_(x:[n4])(h:a∈r):a∈r1:=[bu,i,q,e,qF.mp h,cG (x.pre i a [f])]
def bB.trans(x:[n4])(y:bB r1 F1 H1 r2 F2 H2):bB r F H r2 F2 H2 where
 keep:=λa o e n=>by have W:=[sV,x.nr a z,n,[f]];rcases x.keep a o e n with q|⟨ps,l,rfl,q⟩;{exact y.keep a o q W};{rcases y.keep a _ q W with w|⟨_,_,_,w⟩<;>exact [aC,[f]]}
 fr:=x.fr.trans y.fr
 nf:=λa o e=>by rcases y.nf a o e with q|q|⟨B,rfl,q,n⟩;rw[av,x.nf a o q,[e7,x.fL a q]];{have j:=λz=>n (x.L_ z);cases h:H a with|none=>grind|some I=>rcases x.keep a _ h j with this|⟨_,_,_,this⟩;(all_goals rw[q]at this);(all_goals cases this);grind}
 pre:=[Kx]
 nr:=λa e=>(y.nr a e).elim (λq=>x.nr a q) λq=>[eL,x.fL a q]
 fL:=λa e=>x.fL a (y.fL a e)
def al.mono{E}(h:al T K r F H G ok E)(q:∀a j C e,ok a j C e->b a j C e):al T K r F H G b E:=by cases G with|ok a l=>exactλj C e x c=>q _ _ _ _ (h _ _ _ x c)|ex c B l=>exact h|bad=>exact h
def al.from(x:[n4])(h:al T K r F H G ok E):al T K r1 F1 H1 G ok E:=by cases G with|ok a l=>exactλj C e y c=>h _ _ _ (x.trans y) c|ex c B l=>exactλj C e d y c=>h _ _ _ d (x.trans y) c|bad=>exact h
def al.bind{f:U->Ir.M J}(h:[hP,G]):[jT,K,G S,λa j C z=>∃l,a_ T K j C z l/\bB r F H j C z/\al T K j C z (f a l) ok E]:=by rw[cf,e,(G>>=f) S=Ir.M.bind G f S,rfl,h];cases q:G S with|ok a l=>rw[af,q,h,λj C z x c=>#[l,c,x,h.from x]]|ex c B l=>rw[af,q,h,h]|bad=>rw[af,q,h,h]
def al.pure{a:U}(c:[bz])(h:[pN,[s3,a]]):ok a r F H:=h r F H .refl c
def al.bad(h:[pN,Ir.bad S]):False:=h
def al.bD(c:[bz])(h:[pN,Ir.bD o S]):∃a,o=aa a/\ok a r F H:=by cases o with|none=>rw[ax,h]|some a=>exact#[a,Y,h r F H .refl c]
def al.ite{p}[Decidable p]{G:Ir.M U}{ok}{E}(h:[pN,([A,p,G,Ir.bad]) S]):p/\[pN,G S]:=by rw[br,q,p];{rw[af,aw q,h,(al.bad h).elim]}
def lh.step(p:lg r r1)(f:Le F F1)(e:H1 a=H a)(h:lh T K r F H a c):lh T K r1 F1 H1 a c:=by cases c with|aX k l=>rw[dG,x,fs,q,z,h,#[x,fs,e.trans q,dA.mono p f _ _ z]]|lst l=>rw[cZ,[m8,p,f,z]]|aU l=>rw[cZ,cE.mono p f _ _ z]
def a_.has(c:[bz])(h:a∈r):∃o,[jQ]:=by rw[M,n,m,e,qF.mp h];rw[V,L,c.len▸m,q,[kB,a,cQ L,[f]]];cases O:S[n]with|aX k l=>rw[O]at q;obtain⟨_,_,q,_⟩:=q;grind|lst l=>rw[dc];grind|aU l=>rw[dc];rw[a']
def gh.step(p:lg r r1)(f:Le F F1)(e:H1 a=H a)(h:[le,a]):gh T K r1 F1 H1 a d:=by cases d with|lst l=>rw[cZ,[m8,p,f,z]]|aU l=>rw[cZ,cE.mono p f _ _ z]|bY l=>rw[cZ,cx.mono p f _ _ z]|_=>exact h
def gh.some(h:[le,a]):∃o,[jQ]:=by cases d with|lst l=>rw[a9,B,q,h];grind|aU l=>rw[a9,B,q,h];grind|bY l=>rw[a9,B,q,h];exact#[_,q]|_=>exact eu h
def gh.agT(h:[le,a])(e:[es,C])(z:C=[bs,B]):False:=by rw[a2];rw[dx,d,h,e]
def gh.abB(h:[le,a])(e:[es,C])(z:C=.fM ps):False:=by rw[a2];rw[dx,d,h,e]
def gh.ord(h:[le,a]):ox (H a):=by cases d with|lst l=>rw[c2]|aU l=>rw[c2]|bY l=>rw[c2]|_=>exact eu h
def lh.ord(h:lh T K r F H a c):ox (H a):=by cases c with|aX k l=>rw[ag,p,fs,q,z,h];rw[jn,q]|lst l=>rw[c2]|aU l=>rw[c2]
def a_.ord(c:[bz])(h:a∈r):ox (H a):=by rw[M,n,q,e,qF.mp h];rw[bh,L,c.len▸q,(c.rep n S[n] a (by simp) [f]).ord]
def a_.Rg(c:[bz]):T.tab∉r:=λz=>c.tab.ne (c.ord z) Y
def ig.Kw(t:[rn])(le:Le H H1)(h:F1 T.tab=ag):ig T F1 H1:=t.step (λa n=>by cases q:H a with|none=>rw[af,q,n,[c8,zm,n]]|some o=>grind) h
def B8.step(x:[n4])(h:B8 T r H a B):B8 T r1 H1 a B:=by obtain⟨p,i,j,k,W,G,e,m,u⟩:=h;exact#[p,i,j,k,[sV,x.nr a z,W,[f]],[sV,x.nr _ z,G,[f]],e,x.kp m W [rX],x.kp u G (by simp)]
def tu.step(x:[n4])(h:tu T K r F H o v s):tu T K r1 F1 H1 o v s:=by cases s with|un=>exact True.intro|val d=>rw[bu,w,e,z,h,#[w,e,[eQ,x.pre,x.fr,z]]]|own d=>(rw[ag,e,W,G,z,h];rw[bF,ob,m,z.some,#[e,?_,λq=>(x.nr o q).elim G [f],z.step x.pre x.fr [bG,x.kp m G λps e=>z.abB m e,m.symm]]];cases q:F1 o with|none=>rfl|some C=>rcases x.nf o C q with w|w|⟨B,u,w,_⟩;rw[ay];rw[ay];{rw[bH,z.agT w u]})|exc B=>rw[bu,a,e,z,h,#[a,e,z.step x]]
def cJ.step(x:[n4])(h:[nE,e]):cJ T K r1 F1 H1 σ e O:=#[h.len,λi s v a b=>(h.at_ i s v a b).step x,h.inj]
def bB.lay(c:[bz])(n:[gV]):bB r F H r (upd F p o) [e0,o]:=by rw[ae,j,F p=ag,[Jx],#[λa C e _=>.inl ?_,[zF],[zF],[cY],[mt],[ou]]];{rw[Y,[dw],e]};{rw[Y,[dw],e]};{rw[aJ,a=p];rw[ay];{rw[aW q]at e;grind}};{rw[cT,a,p,e]}
def a_.lay(c:[bz])(n:[gV]):[pl,upd F p o,[e0,o]]:=by rw[ae,nr,p∉r,λz=>[iQ,C,q,c.has z],[IO,[Ac],G,(bB.lay c n).fr,c.tab.lay n]];{rw[dM,a=p];{rw[aW q]at e|-;exact [fk,e]}};{rw[Y,[dw],c.off a h]}
def bB.own(n:[gV]):bB r F H r F [e0,o]:=by refine#[λa C e _=>.inl ?_,λa C e=>e,λa C e=>[J,e],[cY],[mt],[ou]];{rw[Y,[dw],e]};{rw[cT,a,p,e]}
def a_.own(c:[bz])(n:p∉r)(G:F p=ag)(h:ox (H p):=by first|exact zU ([h4])|exact JR ([h4])):[pl,F,[e0,o]]:=by refine [IO,c.off,q,[gH],c.tab.upd h];rw[Y,[dw],[fk,e]]
end
open Ir(Ex)
section
variable(T:Tb)(K:aQ)
def jz(r:[ba])(F H:Hp):D->V->[P]|[aV],v=>∃a B,v=[aL]/\[CO]|[b3],v=>∃a e,v=[aL]/\[Cr]|[hs],v=>∃a e,v=[aL]/\[es,.dT e]/\[hg]/\[lm,e]|[oE],v=>∃a p fs,v=[aL]/\[Lv]|d,v=>[cL]
def Reads(r:[ba])(F H:Hp)(d:D)(v:V):[P]:=[cL]\/∃o,v=[m,o]/\F o=ag/\o∉r/\[le,o]
def cU(Z:Ir.bL)(E:XK)(e:Ex):TE:=[AW,[hK,K,[qg,e],j,x,q]]
def ky(Z:Ir.bL)(E:XK)(e:Ex):TT:=[ER,[qg,e],∃b,d=[jR]/\Q b q]
def vl(Z:Ir.bL)(E:XK)(e:Ex):TE:=[ER,Ir.rd e env [bt,e] S,∀v,Reads T K j x q d v->Q v q]
end
structure SE (T : Tb) (Z : Ir.bL) (E : XK) (X : Cx) (e : bQ) (e' : Ex) : Prop where
 pe : PE X e (cU T X.K Z E e')
 pt : PT X e (ky T X.K Z E e')
 pr : PE X e (vl T X.K Z E e')
def b9(h:[gA,t])(q:[B4]):[gA,t']:=[uV,z,[zY,[u1]]]
def pX(h:PT X e t)(q:[B4]):PT X e t':=[uV,z,[zY,[u1]]]
section
variable{T:Tb}{K:aQ}{r r1:List ai}{F F1 H H1:Hp}{S:aj}
def Reads.step(x:[n4])(h:[ys]):Reads T K r1 F1 H1 d v:=by rcases h with h|⟨o,e,a,b,c⟩;{exact [J,[eQ,x.pre,x.fr,h]]};{rw[bh,q,tu.step (s:=[h']) x #[Y,a,b,c],[aC,#[o,e,[ae,q],[cP,q],[eT,q]]]]}
def AN(c:[bz])(h:[ys])(e:Ir.bH d S=[bc,f,j]):jz T K r F H f v/\j=S:=by cases d with|ref n=>rcases h with h|⟨o,_,_,_,q⟩;{rw[M,a,rfl,J,h];rw[am,Ir.bH,e];simp only at e;cases L:S[n]? with|none=>grind|some x=>rw[L]at e;have q:=[kB,a,L,J];cases x with|aX k l=>rw[cI];rw[ag,p,fs,q,z,q];rw[aX,#[a,p,fs,Y,q,z]]|lst l=>rw[fD]|aU l=>rw[fD]};{rw[ax,q]}|lst l=>rw[cI];rcases h with h|⟨o,e,_,_,B,q,n,z⟩;{rw[an,a,B,e,q,n,z,h];rw[aX,#[a,B,e,[fk,q],n,z]]};{rw[aX,#[o,B,e,q,n,z]]}|aU l=>rw[cI];rcases h with h|⟨o,e,_,_,G,q,z⟩;{rw[ac,a,G,e,q,z,h];rw[aX,#[a,G,e,[fk,q],z]]};{rw[aX,#[o,G,e,q,z]]}|bY l=>rw[cI];rcases h with h|⟨o,e,_,_,G,q,z⟩;{rw[am,aG,h];rw[ac,a,G,e,q,z,h];rw[aX,#[a,G,e,[fk,q],z]]};{rw[aX,#[o,G,e,q,z]]}|obj k l=>rw[cI];rcases h with h|⟨o,_,_,_,q⟩;{rw[am,aG,h];rw[an,a,p,fs,e,q,z,h];rw[aX,#[a,p,fs,e,[fk,q],z]]};{rw[ax,q]}|i7 l=>rw[b4]|a0=>rw[b4]|bl b=>rw[b4]|int i=>rw[b4]|str s=>rw[b4]|tup l=>rw[b4]|fn k=>rw[b4]|dX l=>rw[b4]|b6 l=>rw[b4]|du l=>rw[b4]
def al.kv{f:D->Ir.M J}(c:[bz])(h:[ys])(a:[hP,Ir.bH d]):∃x,jz T K r F H x v/\[ho,x]:=by rw[cf,e,[pS,Ir.bH d,f],rfl,a];cases q:Ir.bH d S with|ok x l=>rw[iQ,z,rfl,AN c h q]|ex c B l=>rw[aE,Ir.bH,q];{split at q<;>cases q};grind|bad=>rw[bs,q,a]
def al.fX{f:Int->Ir.M J}(a:[hP,[eh,d]]):∃i,d=[aP]/\[ho,i]:=by cases d with|int i=>exact#[i,Y,a]|_=>rw[ax,a]
def al.kh{f:Bool->Ir.M J}(a:[hP,Ir.eP d]):∃i,d=[bh,i]/\[ho,i]:=by cases d with|bl i=>exact#[i,Y,a]|_=>rw[ax,a]
def al.i5{f:U->Ir.M J}(a:[hP,Ir.bD o]):∃x,o=aa x/\[ho,x]:=by cases o with|some x=>exact#[x,Y,a]|none=>rw[ax,a]
def aG.ci(h:[h2,[aP],v]):v=[aP]:=by exact h
def aG.xP(h:[h2,[bh,i],v]):v=[bh,i]:=by exact h
def aG.fZ(h:[h2,[L,i],v]):v=[L,sv i]:=by exact h
def aG.int(i:Int):[h2,[aP],[aP]]:=by rfl
def aG.bl(i:Bool):[h2,[bh,i],[bh,i]]:=by rfl
def aG.str(i:[h]):[h2,[L,i],[L,sv i]]:=by rfl
def aG.a0:[h2,[aX],[aX]]:=by rfl
end
section
variable{T:Tb}{Z:Ir.bL}{E:XK}{X:Cx}
def m7(h:[gA,[fl,J]])(n:∀i,J≠[gY]):[cj,e,vl T X.K Z E J]:=[pA,h,a,[ip,O,by(have q:Ir.rd J env [bt,J] S=[qg,J]:=by unfold Ir.rd;simp);rw[af,q,a,a.mono λd j x W z v m=>z v [J,m]]]]
def WI{ta G:TE}{R:V->V->[dL]}{f:D->D->Ir.M D}{Q:VK}(i:[vf,a,ta σ H Q])(J:[vf,b,G σ H Q])(h:∃env O S r F,[hm]/\[xZ]/\[hK,X.K,(do let x←[bt,a];let y←[bt,b];f x y) S,z,e,q])(j:∀x y r F H S v C,[IT,z,R v C H]):[wR,G σ H1 λy L=>R x y L]:=by rw[cn];rw[aj,i _ _ _ [eI,r1,F1,H1,B,I,U,l],J _ _ _ [il,B,r1,F1,I,U,[sp,n,s,L,p,N,W,hu]]];exact j x y _ _ _ _ v C N [eQ,W.pre,W.fr,l] hu u
def qR(h:ky T X.K Z E J σ H Q):[nR,J,λx z=>∃k,x=[bh,k]/\Q k z]:=by rw[bV,env,O,S,r,F,c,P,a];exact [ip,O,a.mono λd j C z#[b,e,q]v m=>#[b,[af,e,m,m.xP],q]]
def SE.of(h:[gA,[fl,e']])(q:[wJ])(n:∀i,e'≠[gY]):[q0]:=#[h,pX (OH h q) λσ H Q z=>qR z,m7 h n]
def Ao(h:[cj,e,tC v])(q:∀r F,[sv,d])(j:[wJ]):[ap,e,.c d]:=.of [pA,h,a,[Aq,q _ _]] j [f]
def Kp:[ap,.Constant [aP] j pos,[fe,i]]:=[Ag,L7,[aP]]
def agD:[ap,.Constant [c'] j pos,[aR,s.cps.toList]]:=[Ag,aab,by rfl]
def ab3:[ap,.Constant (.bool b) j pos,.c [jR]]:=[Ag,Y',[jR]]
def ac0:[ap,.Constant [aZ] j pos,[tG]]:=[Ag,yy,[aX]]
def aeE(z:[dI])(m:X.mg x=aa C)(I:bC v C)(q:∀r F,[sv,d])(h:Z.fA k=aa d)(hd:[cm]):[ap,[oq],.g k]:=[jg,ad2 z m I hd,a,by have e:[bt,.g k]=Ir.bD _:=rfl;rw[e,h]at a;exact [Aq,q _ _]]
def Ay(hN:[ch])(h:[fQ])(hd:[cm])(B:[f_]):[ap,[oq],[gY]]:=by rw[ae,pe,PE X [oq] [fl,[gY]],[pA,lC hN h hd B,a,by cases q:[kv]with|none=>rw[ct,[k8],Ir.ah]|some s=>cases s with|val d=>rw[c6,[k8]=[bZ,d],Ir.ah];have j:i<[hk]:=[q,P.len,[dA,q]];rw[bu,v,u,h,[y4,j],#[v,by rw[cQ j,u],[Aq,h]]]|un=>rw[ct,[k8],Ir.ah]|own d=>rw[ct,[k8],Ir.ah]|exc d=>rw[ct,[k8],Ir.ah]],#[pe,pX (OH pe [bJ]) λσ H Q z=>qR z,b9 (lC hN h hd B) [Cm,O,a]]];cases q:[kv]with|none=>rw[ct,[uq],Ir.rd]|some s=>rw[aA,j,i<[hk],[a_,P.len],z,[y4,j]];cases s with|val d=>rw[c6,[uq]=[bZ,d],Ir.rd];rw[bu,v,u,h,z,#[v,[f],[Aq,[J,h]]]]|own d=>rw[c6,[uq]=[bZ,d],Ir.rd];rw[dG,u,W,G,h,z,#[[m,O i],[a'],[dO,c,a,[aC,#[O i,Y,W,G,h]]]]]|un=>rw[ct,[uq],Ir.rd]|exc d=>rw[ct,[uq],Ir.rd]
def tI{f:Int->Int->Ir.M D}(L:∀env,Ir.ah Z a env=(do let x←Ir.bo (←Ir.ah Z N env);let y←Ir.bo (←Ir.ah Z p env);f x y))(A:∀i j r F H S Q,a_ T X.K r F H S->al T X.K r F H (f i j S) (λd s z W=>∀v,aG T X.K s z d v->Q v W) E->G (.int i) (.int j) H Q)(h:cU T X.K Z E a σ H Q):kn G (cU T X.K Z E N) (cU T X.K Z E p) σ H Q:=by obtain⟨env,O,S,r,F,c,P,h⟩:=h;rw[L]at h;refine#[env,O,S,r,F,c,P,h.bind.mono λx l J w#[B,I,e,m]v q=>?_];obtain⟨i,rfl,U⟩:=m.fX;refine#[env,O,B,l,J,I,P.step e,U.bind.mono λy k o b#[n,g,t,u]C hu=>?_];obtain⟨j,rfl,g2⟩:=u.fX;rw[q.ci,hu.ci];grind
def ve(e:[dC,j,G])(h:[eb,p])(J:[jz])(q:[wh])(n:∀i,d≠[gY])(st:[vf,d,kn G [fl,p] [fl,l] σ H Q]):[ap,[jc,j],d]:=[bp,pe,[Lt],b9 (xy e h.pe J.pe q) st,#[pe,pX (xr e h.pe J.pe q) [LO],m7 pe n]]
def Ow(x:[hy])(J:[m4]):[uT,.Sub,.sub l e]:=[kP,xI Xy x.pe J.pe,z,[Cu,#[i,j,Y,Y,[dO,c,h,[bK]]]]]
def acQ(x:[hy])(J:[m4]):[uT,.Mult,.mul l e]:=[AY,abV,[J,h.ite.1]]
def acy:[lG,.FloorDiv,rI (λ_ j=>0<j/\j<2^64) [qV,i/j]]:=E2 λi j _ _ _ _ _ O q=>by refine floordiv_int [g] [f] [J,PyProof.noPylong_of_log2 ?_];rw[K,m,j.natAbs≠0,[g],u,j.natAbs<2^64,[g]];exact y4 ((ajI m).mpr u) ([ah])
def aha(x:[hy])(J:[m4]):[uT,.FloorDiv,.mK l e]:=[AY,acy,h.ite.1]
def Vm(x:[hy])(J:[m4]):[uT,.Mod,.mod l e]:=[AY,Z3,h.ite.1]
def abK(J:[hy]):[ap,.UnaryOp .USub a pos,.neg l]:=[jg,agq UB J.pe,h,by rw[ae,e,[b9,.neg l]=(do let x←[eh,←Ir.ah Z _ env];[bZ,[l,-x]]),rfl,[eI,j,C,L,p,B,z,q]];rw[M,i,rfl,u,m.fX];rw[Y,q.ci,#[i,Y,[dO,B,u,Y]]]]
def XE(x:[hy])(J:[m4]):[ap,[jc,.LtE],.le l e]:=[AQ,wQ]
def Yc(x:[hy])(J:[m4]):[ap,[jc,.Gt],.gt l e]:=[AQ,ab4]
def abY(x:[hy])(J:[m4]):[ap,[jc,.GtE],.ge l e]:=[AQ,Wm]
def Af{f:D->D->Ir.M D}(J:∀env,Ir.ah Z a env=(do let x←Ir.ah Z p env;let y←Ir.ah Z l env;f x y))(L:∀x y r F H S v C Q,a_ T X.K r F H S->aG T X.K r F x v->aG T X.K r F y C->al T X.K r F H (f x y S) (λd j e q=>∀v,aG T X.K j e d v->Q v q) E->G v C H Q)(h:cU T X.K Z E a σ H Q):kn G (cU T X.K Z E p) (cU T X.K Z E l) σ H Q:=by obtain⟨env,O,S,r,F,c,P,h⟩:=h;rw[J]at h;exact WI (by simp) (by simp) #[env,O,S,r,F,c,P,h] (by grind)
def ML:ao (V.str (sv a)=V.str (sv b))=(a==b):=[f]
section
variable{K:aQ}{r:List ai}{F H:Hp}{S:aj}
def KS{f:Bool->Ir.M J}(h:[hP,Ir.mY x y]):(∃a b,x=[kK]/\y=[l,b]/\[ho,a==b])\/(∃a b,[rc]/\y=[L,b]/\[ho,a==b])\/∃a b,x=[ax,a]/\y=[ax,b]/\Ir.kz a=ae/\Ir.kz b=ae/\[ho,Ir.ll a b]:=by rw[aE,Ir.mY,h];rw[av,[J,#[_,_,Y,Y,h]],[e7,#[_,_,Y,Y,h]]];{rename_i a b;rw[D,q,Ir.kz a=ae/\Ir.kz b=ae];{rw[af,aJ q,h,[lF,#[_,_,Y,Y,[db],q.2,h]]]};{rw[bs,aw q,h]}};{rw[ax,h]}
def AX(h:Ir.kz l=ae)(q:[co]):∃G,rb K H B G/\zo (.list G)=ae/\[BT,l,G]:=by rw[aE,Ir.kz,h];{rw[bf,q,#[[],[aA],Y,[J,by simp]]]};{rw[aB,s];rw[ac,v,ws,rfl,m,q,q];subst q;rw[ci,m.fZ,#[[[dD]],.cons [dD] [aA],?_,[eL,by simp]]];(have e:Jw [L,[g3]]=ae:=by unfold Jw PyData.strOk;rw[fn,Ir.plain]);unfold zo;simp[Jw,Di,Jx,wx]at e|-;exact e};grind
def MJ(h:[BT,a,l])(J:[BT,b,q]):uN (.list l) (.list q)=Ir.ll a b:=by rcases h with⟨rfl,rfl⟩|⟨s,rfl,rfl⟩<;>rcases J with⟨rfl,rfl⟩|⟨j,rfl,rfl⟩;{rfl};{rfl};{rfl};{rw[h6,(([g3]==sv _)&&ae)=((s==j)&&ae)]}
end
def abd(hu:X.A.units+64<dM)(L:SE T Z E X a e)(J:SE T Z E X b l):SE T Z E X (.Compare a [.Eq] [b] pos) (.eq e l):=ve (cH.or UZ (afR hu)) L J (q7 _) (by grind) λσ H Q z=>Af (λ_=>rfl) (λx y r F H S v C Q c q W h=>by rcases KS h with⟨i,j,rfl,rfl,g⟩|⟨i,j,rfl,rfl,g⟩|⟨i,j,rfl,rfl,f1,f2,g⟩;{rw[q.ci,W.ci];exact .inl #[Y,by rw[A9];exact al.pure c g _ (.bl _)]};{rw[q.fZ,W.fZ];exact .inl #[Y,by rw[ML];exact al.pure c g _ (.bl _)]};{obtain⟨p,B,rfl,m,_,u⟩:=q;obtain⟨n,I,rfl,f,_,U⟩:=W;obtain⟨A,N,s,G⟩:=AX f1 u;obtain⟨P,O,d,w2⟩:=AX f2 U;exact .inr #[_,_,.lst (bp.of (c.sub _ _ m)) N,.lst (bp.of (c.sub _ _ f)) O,s,d,by rw[MJ G w2];exact al.pure c g _ Y]}) z
def aao(hu:X.A.units+64<dM)(L:SE T Z E X a e)(J:SE T Z E X b l):SE T Z E X (.Compare a [.NotEq] [b] pos) (.ne e l):=ve (cH.or ad3 (abC hu)) L J (q7 _) (by grind) λσ H Q z=>Af (λ_=>rfl) (λx y r F H S v C Q c q W h=>by rcases KS h with⟨i,j,rfl,rfl,g⟩|⟨i,j,rfl,rfl,g⟩|⟨i,j,rfl,rfl,f1,f2,g⟩;{rw[q.ci,W.ci];exact .inl #[Y,by rw[A9];exact al.pure c g _ (.bl _)]};{rw[q.fZ,W.fZ];exact .inl #[Y,by rw[ML];exact al.pure c g _ (.bl _)]};{obtain⟨p,B,rfl,m,_,u⟩:=q;obtain⟨n,I,rfl,f,_,U⟩:=W;obtain⟨A,N,s,G⟩:=AX f1 u;obtain⟨P,O,d,w2⟩:=AX f2 U;exact .inr #[_,_,.lst (bp.of (c.sub _ _ m)) N,.lst (bp.of (c.sub _ _ f)) O,s,d,by rw[MJ G w2];exact al.pure c g _ Y]}) z
def Lu{K}(h:[cL]):(d=[aX]/\v=[aX])\/(d≠[aX]/\v≠[aX]):=by cases d<;>unfold aG at h;rw[ay];rw[ay];rw[ay];rw[ay];rw[ay];rw[ay];rw[ay];rw[ay];rw[ay];rw[ay];{obtain⟨a,_,rfl,_⟩:=h;exact [eL,by simp]};rw[ay];rw[ay];rw[cp]
def afS(J:[hy]):[ap,[KW,.Is],.kq l]:=[Fl,.kq l,[bh,ao (x=[aX])],[b9,.kq _],←Ir.ah Z l env,Y,[eO],KB]
def WW(J:[hy]):[ap,[KW,.IsNot],.pQ l]:=[Fl,.pQ l,[bh,! ao (x=[aX])],[bt,.pQ _],←Ir.ah Z l _,[eO],Y,Mb]
end
def me:lim=bS:=by rfl
section
variable{T:Tb}{Z:Ir.bL}{E:XK}{X:Cx}
section
variable{K:aQ}{r:List ai}{F H:Hp}{S:aj}
def aY.length:[hS,[co],[br]=[E]]|[],B,h=>[fn,aY]|d::G,B,h=>by obtain⟨v,ws,rfl,_,q⟩:=h;rw[b7,b7,aY.length q]
def aY.nil:[eP,[],[]]:=by rfl
def aY.cons(h:[cL])(q:[co]):[eP,d::l,v::B]:=[b8,aY]
def aY.fY(h:[eP,[],B]):B=[]:=by exact h
def aY.dO(h:[eP,d::l,B]):∃v ws,B=v::ws/\[cL]/\[eP,l,ws]:=by exact h
def aY.append:∀{l G}{B ws},([co])->([eP,G,ws])->[eP,l++G,B++ws]|[],G,B,ws,h,q=>[q,h.fY,q]|d::x,G,B,ws,h,q=>by rw[cv];exact .cons a (aY.append b q)
def aY.get:∀{l}{B}{n:Nat}{d},([co])->([aQ,l,n,d])->∃v,[aQ,B,n,v]/\[cL]|[],B,n,d,h,q=>by simp at q|x::G,B,0,d,h,q=>by rw[cv];rw[a']|x::G,B,[aw],d,h,q=>by rw[cv];rw[M,w,e,z,aY.get b ([aD,q])];grind
def aY.drop:∀{l}{B}(n:Nat),([co])->[eP,[ed,n],B.drop n]|l,B,0,h=>h|[],B,[aw],h=>[bM,h.fY]|x::G,B,[aw],h=>by rw[cv];exact aY.drop n b
def aY.take:∀{l}{B}(n:Nat),([co])->[eP,l.take n,B.take n]|l,B,0,h=>by rfl|[],B,[aw],h=>[bM,h.fY]|x::G,B,[aw],h=>by rw[cv];exact .cons a (aY.take n b)
def aY.«ints»:[CJ,Ir.eQ l,[jf]]|[],B,ns,h,q=>by rw[bO];rw[a8,h.fY]|[aP]::G,B,ns,h,q=>by(rw[cv];rw[am,Ir.eQ,q];cases e:Ir.eQ G with|none=>grind|some I=>rw[aq,e,q,q];rw[aU,a.ci,aY.«ints» b e])|[aX]::_,_,_,_,q=>[bO]|[eO]::_,_,_,_,q=>[bO]|[dD]::_,_,_,_,q=>[bO]|.tup _::_,_,_,_,q=>[bO]|[b6]::_,_,_,_,q=>[bO]|.aU _::_,_,_,_,q=>[bO]|.obj _ _::_,_,_,_,q=>[bO]|[dP]::_,_,_,_,q=>[bO]|.fn _::_,_,_,_,q=>[bO]|.dX _::_,_,_,_,q=>[bO]|.b6 _::_,_,_,_,q=>[bO]|.bY _::_,_,_,_,q=>[bO]|.i7 _::_,_,_,_,q=>[bO]|.du _::_,_,_,_,q=>[bO]
def aG.OG(n:F p=ag)(U:[hg])(h:[co]):aG T K r (upd F p [bs,B]) [eB] [dp]:=by exact [Hz]
def aG.KI(n:F p=ag)(U:[hg])(h:[co]):aG T K r (upd F p [ax,B]) [aV] [dp]:=by exact [Hz]
def a_.hW(c:[bz])(n:[gV]):F p=ag:=[Jx]
def al.tup{Q:VK}(c:[bz])(h:[hK,K,[s3,D.tup l],j,x,e])(U:[hg])(q:[co])(n:[gV]):Q [dp] [e0,[bs,B]]:=h r _ _ (.lay c n) (c.lay n) _ (.OG [rl] U q)
def al.lst{Q:VK}(c:[bz])(h:[hK,K,[s3,[ic,l]],j,x,e])(U:[hg])(q:[co])(n:[gV]):Q [dp] [e0,[ax,B]]:=h r _ _ (.lay c n) (c.lay n) _ (.KI [rl] U q)
def UQ(a b:[h]):sv a++sv b=sv (a++b):=by show(#[a.toArray++b.toArray]:au)=#[[hc,a++b]];simp
def tF(a:[h]):[Q,sv a]=[bV]:=rfl
end
def Wi:[lG,.Add,[d3,∃a b B,[gy,y=[fZ],cw X.K H a []/\cw X.K H b B/\Q [fZ] H]]]:=by rw[bm,y,C,z,N,h];rw[bV,a,b,B,rfl,rfl,l,J,q];cases z;cases N;rw[bN,az,d,i,[e',l],f,U,p,[e',J]];obtain rfl:az=[]:=d.Bn.mpr Y;obtain⟨⟨cls,j,A,sl⟩,m,O,n,hd⟩:=id i;obtain⟨⟨P,g,data2,u⟩,e,G,W,L⟩:=id p;subst O hd G L;exact Tx #[_,m,Y] [wj] Tz TB TC TD (TF _ _) (tuple_addW0 a b _ _ n _ _ _ _ _ Y) #[m,e,#[[fZ],H,I,Y,q]]
def ade(l:[eb,i])(J:[ap,b,G]):[uT,.Add,.add i G]:=[kP,xI (cH.or ada (cH.or aen (cH.or UA (cH.or aeI Wi)))) l.pe J.pe,z,Af [bJ] (λx y r F H S v C Q c m W h=>by rw[aE,Ir.oH,h];{rw[a3,m.ci,W.ci,[J,#[_,_,Y,Y,[lA,h]]]]};{rw[m.fZ,W.fZ];rw[aG,L,h,h.ite,[e7,#[_,_,Y,Y,by exact L,[q,UQ,[lA,h]]]]]};{rw[R,L,h,h.ite];unfold aG at m W;obtain⟨p,B,rfl,j,_,q⟩:=m;obtain⟨N,I,rfl,f,_,u⟩:=W;exact [eL,[e7,#[p,N,B,I,Y,Y,[fk,j],[fk,f],[a3,q.length,u.length,L],λo n=>al.lst c h [f] (q.append u) n]]]};{rw[R,L,h,h.ite];unfold aG at m W;rw[an,p,B,rfl,j,U,q,m];rw[an,N,I,rfl,f,s,u,W];rw[D,e,B=[]];{subst e;refine [eL,[eL,[lF,#[p,N,I,Y,Y,[jy,j],[jy,f],al.pure c h _ ?_]]]];rw[ajJ [dH,q.length],wb];rw[b8,aG]};{refine [eL,[eL,[e7,#[p,N,B,I,Y,Y,[jy,j],[jy,f],e,by rw[q.length,u.length,<-me];exact L,λz=>al.pure c h _ ?_,λz o n=>al.tup c h [q,cO,L] (q.append u) n]]]];rw[a2];rw[ajJ [dH,u.length],iu];rw[b8,aG]}};{rw[ax,h]}) z]
def RE:∀(a b:[h]),HT.lexLt a b=Ir.lexLt a b|[],[]=>rfl|[],[d4]=>rfl|[d4],[]=>rfl|x::G,y::B=>[aU,HT.PU,RE _ _]
def Ym(hu:X.A.units<dM)(L:[eb,j])(J:[jz]):[ap,[jc,.Lt],.lt j l]:=[D5,cH.or aaQ (Xa hu),L,Af [bJ] (λx y r F H S v C Q c q W h=>by rw[aE,Ir.xA,h];{rw[a3,q.ci,W.ci,[J,#[_,_,Y,Y,[lA,h]]]]};{rw[aO,ns,m,h,h.i5,G,d,h,h.i5];rw[an,p,B,rfl,e,U,u,q];rw[an,N,I,rfl,f,s,O,W];rw[u.«ints» m]at e;rw[af,O.«ints» d,f,[aC,#[p,N,ns,G,Y,Y,[jy,e],[jy,f],[q,RE,[lA,h]]]]]};{rw[ax,h]}) z]
def WG(J:[hy]):[ap,[CV],.not l]:=by rw[K,e,∀env,[bt,.not _]=(do let x←Ir.eP (←Ir.ah Z l _);[bZ,[bh,! x]]),[bJ],pe,PE X (.UnaryOp _ a pos) [fl,.not l],[pA,aaK J.pe,h,by refine [eI,j,C,L,p,B,z,I];rw[bu,i,rfl,u,m.kh,#[i,I.xP,[dO,B,u,Y]]]]];rw[aj,#[pe,pX (aeY J.pt) [wx,O],m7 pe [f]],[jS,λx j C L#[p,B,z,m]=>?_]];rw[aO,i,rfl,u,m.kh,b,d,q,al.pure B u];grind
def abn{l}(g:[eb,N])(B:PE X [kV,b,l] [fl,p])(z:[uB,[kV,b,l],p]):[I2,[kV,a,b::l],.and N p]:=by have e:∀env,[b9,.and N p]=(do let x←Ir.eP (←Ir.ah Z _ env);if x=ae then do [bZ,[bh,←Ir.eP (←Ir.ah Z _ _)]]else [gf]):=[bJ];rw[bb];{rw[fi,abb g.pe B];cases i with|true=>rw[eE]|false=>exact [dO,J,L,Y]};{rw[eV,ZA g.pt z _ _ s _ H Q I ?_];cases i with|true=>rw[aJ Y]at L|-;rw[eD]|false=>rw[M,b,e2,q,al.pure J L];grind}
def Wl{l}(g:[eb,N])(B:PE X [kY,b,l] [fl,p])(z:[uB,[kY,b,l],p]):[I2,[kY,a,b::l],.or N p]:=by have e:∀env,[b9,.or N p]=(do let x←Ir.eP (←Ir.ah Z _ _);if x=ae then [gf]else do [bZ,[bh,←Ir.eP (←Ir.ah Z _ env)]]):=[bJ];rw[bb];{rw[fi,Wr g.pe B];cases i with|false=>rw[aw (by simp)]at L|-;rw[eE]|true=>exact [dO,J,L,Y]};{rw[eV,ZQ g.pt z _ _ s _ H Q I ?_];cases i with|false=>rw[eD]|true=>rw[M,b,e2,q,al.pure J L];grind}
def af'(G:[ap,t,t'])(U:[eb,p])(J:[jz]):[ap,.IfExp t a b pos,.ite t' p l]:=by rw[K,e,∀env,[b9,.ite t' _ _]=(do let x←Ir.eP (←Ir.ah Z _ _);if x=ae then [bt,p]else [b9,l]),[bJ],pe,PE X (.IfExp t a b pos) [fl,.ite t' p l],[pA,V' G.pt U.pe J.pe,h,by refine [KI];rw[aL,i,rfl,u,m.kh,#[i,Y,?_]];cases i with|true=>rw[aJ Y]at u|-;exact [yr]|false=>exact [yr]]];rw[aj,#[pe,λpins s σ H Q I#[env,O,S,r,F,c,P,h]=>?_,m7 pe [f]],isTrue_IfExp (a9 (G.pt _ s _ H (λb C=>[ao,b,ky T X.K Z E p σ C Q,ky T X.K Z E l σ C Q]) I [KI]) λd n#[N,f,W]=>?_)];{rw[aL,i,rfl,u,m.kh,#[i,Y,?_]];cases i with|true=>exact [yr]|false=>rw[aw (by simp)]at u|-;exact [yr]};{cases d with|true=>exact U.pt _ _ _ _ Q f W|false=>exact J.pt _ _ _ _ Q f W}
def X9(f:Tn [.LtE,.LtE] [b,d]=af)(U:[eb,B])(J:[jz])(hd:[ap,d,p]):[ap,.Compare a [.LtE,.LtE] [b,d] pos,.pU B l p]:=by rw[ak,e,∀env,[b9,.pU B l p]=(do let x←[eh,←Ir.ah Z _ _];let y←[eh,←Ir.ah Z _ _];if x<=y then do let z←[eh,←Ir.ah Z _ env];[bZ,[bh,ao (y<=z)]]else [gf]),[bJ],st,[vf,.pU B l p,FA [su,ao _] (oF _) [y8] [y8] [y8] _ H Q],λσ H Q#[env,O,S,r,F,c,P,h]=>by refine [eI,r1,o,H1,G,N,L,g];rw[aL,i,rfl,g1,m.fX,[il,G,r1,o,N,L,g1.bind.mono λy r2 n H2#[s,I,a2,u]C hu=>?_]];rw[aL,j,rfl,g2,u.fX,#[i,j,g.ci,hu.ci,_,Y,?_]];rw[D,q,i<=j];{rw[aJ q]at g2;rw[ci,uK q,#[env,O,s,r2,n,I,[fy,L].step a2,[LJ,t,a3]]];rw[bu,k,rfl,g3,A.fX,#[j,k,hu.ci,W.ci,[dO,t,g3,Y]]]};{rw[aw q]at g2;rw[Y,nV q,[dO,I,g2,Y]]},pe,[Lt],b9 (Wz wQ wQ U.pe J.pe hd.pe f) st];exact [wV,ZK wQ wQ U.pe J.pe hd.pe f]
def ib(T:Tb)(K:aQ)(Z:Ir.bL)(E:XK)(l:[iR]):TA:=[AW,[jT,K,Ir.cD Z l env S,λG j x e=>[go]=[E]->∀B,aY T K j x G B->Q B e]]
def Lj(h:PA X l t)(q:[B4]):PA X l t':=λpos pins s σ H Q I z=>h _ _ s _ H Q I [u1]
def JS:[wG,[],[]]:=Lj js λσ H Q#[env,O,S,r,F,c,P,h]=>al.pure c h Y _ [aA]
def FF(i:[ii,a])(f:[tv])(j:[id,a]):[wG,e::a,J::l]:=Lj (iZ f.pe j i) λσ H Q#[env,O,S,r,F,c,P,h]=>by have w:Ir.cD Z (J::l) _=(do let x←[vp];let G←[te,l];[bZ,x::G]):=rfl;rw[aj,[eI,d,C,A,p,I,L,W],[il,p,d,C,I,L,m.bind.mono λG g n y#[s,N,z,u]U B q=>?_]];exact al.pure N u [f] _ (.cons [eQ,z.pre,z.fr,W] q)
def Mz(U:[hg])(h:[id,a]):[ap,.Tuple a k pos,[eB]]:=[jg,Q9 h,h,[bp,e,[bt,[eB]]=(do [bZ,[bs,←Ir.cD Z l _]]),rfl,[A5,G,al.tup I m [f] q n]]]
def agm(U:[hg])(h:[id,a]):[ap,.List a pos,[aV]]:=[jg,NN h,h,[bp,e,[b9,[aV]]=(do [bZ,[W,←Ir.cD Z l env]]),rfl,[A5,G,al.lst I m [f] q n]]]
def VH:[ap,[yL],.iS b]:=by refine .of ?_ [bJ] [f];cases b with|false=>rw[bp,e,[yp,af],[bJ],b9 P0 λσ H Q#[env,O,S,r,F,c,P,h]p n=>[d8,[xe],[xD]]]|true=>rw[bp,e,[yp,ae],[bJ],b9 OL λσ H Q#[env,O,S,r,F,c,P,h]p n=>by rw[e]at h;refine [xe];rw[h5,aG,[xD]]]
end
structure iX (T : Tb) (P : cP) (w : cz) (K : aQ) : Prop where
 cls : ∀ c, kl K (T.eB c)
 AQ : ∀ c f, f < T.nf → oB K (T.eB c) (T.eZ f)
 xW : ∀ f g, T.eZ f = T.eZ g → f = g
 kd : ∀ a l, T.du a l → ∃ kvs, (∀ r F, cE T K r F l kvs) ∧ ∀ h, K.In h → (a == iA) = af ∧ ∃ vs, KV kvs vs ∧ h.DictOf (gB P w) a vs
section
variable{T:Tb}{K:aQ}{r:List ai}{F H:Hp}{S:aj}
def pz(h:d.atom=ae):∃k,gW d=aa k:=by cases d<;>first|exact [gS]|rw[a5]
def pF(h:gW d=aa k)(q:[cL]):v=kV k:=by cases d<;>first|(rw[a5];first|exact q.ci|exact q.fZ)|rw[a5]
def AV(L:gW x=aa i)(h:gW y=aa j):x.beq y=ao (i=j):=by(cases x<;>first|cases L|skip);{rw[c7,y];{rw[b8,Ir.D.beq]};rfl};{rw[c7,y];{rfl};{rw[b8,Ir.D.beq]}}
def La:∀{l G}{i j},ii l=aa i->ii G=aa j->Ir.ll l G=ao (i=j)|[],[],i,j,h,q=>by rw[a5];rw[bO];rfl|[],y::G,i,j,h,q=>by(rw[am,ii,q];cases e:gW y with|none=>grind|some k=>rw[e]at q;cases z:ii G with|none=>grind|some B=>rw[aq,z,q,q];rw[a5];rfl)|[gz],[],i,j,h,q=>by(rw[am,ii,h];cases e:gW x with|none=>grind|some k=>rw[e]at h;cases z:ii l with|none=>grind|some B=>rw[aq,z,h,h];rw[bO];rfl)|[gz],y::G,i,j,h,q=>by unfold ii at h q;cases e:gW x with|none=>grind|some k=>cases z:ii l with|none=>grind|some B=>cases L:gW y with|none=>grind|some C=>cases I:ii G with|none=>grind|some a=>rw[e,z]at h;rw[L,I]at q;rw[a5];rw[bO];unfold Ir.ll;rw[AV e L,La z I];simp
def Eo(L:mL x=aa i)(h:mL y=aa j):x.beq y=ao (i=j):=by(cases x<;>first|cases L|skip);rw[c7,y];exact La L h
def RS:∀{l},([u8])->∃k,ii l=aa k|[],_=>#[[],Y]|[gz],h=>by rw[e8,aF]at h;rw[R,k,e,pz [dJ]];rw[aG,B,z,RS [cU],#[k::B,[b8,ii]]]
def Ep(h:d.jo=ae):∃k,mL d=aa k:=by cases d<;>first|exact RS h|rw[a5]
def OA:∀{l}{k}{B},ii l=aa k->([co])->B=k.map kV|[],k,B,h,q=>by rw[a5];rw[a8,q.fY]|[gz],k,B,h,q=>by rw[ac,v,ws,rfl,a,b,q.dO];rw[am,ii,h];cases e:gW x with|none=>grind|some j=>cases z:ii l with|none=>grind|some f=>rw[e,z]at h;rw[a5];rw[aU,pF e a,OA z b]
def DJ(h:mL d=aa k)(q:[cL]):∃a,v=[aL]/\F a=[og]:=by rw[c7,d];obtain⟨a,B,e,z,_,u⟩:=q;exact#[a,e,by rw[z,OA h u]]
def cE.get:[GB,[lg,B],gW x]|[],B,x,j,h,e=>[bf,h,[LV]]|[fY,d],B,x,j,h,e=>by rw[am,cE,h];rw[fk,cE.get L e,AV O e];rw[aJ,i=j];{rw[a_,xZ q]};{rw[a_,w9 q]}
def cx.get:[GB,[lm,B],mL x]|[],B,x,j,h,e=>[bf,h,[LV]]|[fY,d],B,x,j,h,e=>by rw[am,cx,h];rw[fk,cx.get L e,Eo O e];rw[aJ,i=j];{rw[uK q]at b;rw[a_,xZ q]};{rw[a_,w9 q]}
def dA.get(inj:∀f g,[kG]=T.eZ g->f=g):∀{l}{fs}{f}{d},([r'])->Ir.eV l f=aa d->[zQ,[lo,[kG]]]|[],fs,f,d,h,q=>[bO]|[fY,x],fs,f,d,h,q=>by rw[ac,v,ws,rfl,m,L,h];rw[am,Ir.eV,q];rw[br,e,k=f];{rw[aw e]at q;rw[M,a,z,u,dA.get inj L q];grind}
def aY.at(h:[co])(q:Ir.at_ l i=aa d):[zQ,oY B i]:=by rw[am,Ir.at_,q];rw[dU,L2.oY,h.length];have e:oa [E] i=Ir.place _ i:=rfl;cases z:[vt,i]with|none=>grind|some j=>rw[z]at q;rw[M,v,m,u,h.get [aB,[cb,l,d],q]];grind
end
section
variable{T:Tb}{Z:Ir.bL}{E:XK}{X:Cx}
def afo(hu:[kH]):k_ X [d3,∃a v,[gy,pC H a y [cV],Q v H]]:=by intro d O pins s σ H x y v C Q I m N h J;rw[ac,a,z,rfl,g,q,h];rw[aT,m,I_ (YS I g) ajK.lookup (Wo hu I g N λj G e L=>#[z,H,e,L,q]) J]
def V1(P:cP)(w:cz)(K:aQ):R2:=[d3,∃a e k v,[gy,y=kV k,(∀h,K.In h->[wE,e,P,w])/\fP e k=[cV]/\Q v H]]
def aad:k_ X (V1 X.prog X.w X.K):=by intro d O pins s σ H x y v C Q I m N h e;obtain⟨a,G,k,z,rfl,rfl,hd,l,q⟩:=h;cases m;rw[ag,u,B,J,j,hd _ I.dY];rw[bu,f,W,L,hU.yu ([bB,l,[lv]]),I_ j.typeIs ajK.lookup (ajn (oU N) j.mapOf W #[z,H,[hl],L,q]) e]
def OJ(ft:[g9])(hu:[kH])(ha:[eb,s])(J:[ap,b,t])(W:GA b):[ap,.Subscript a b pos,.ix s t]:=[jg,PZ (k_.or aeC (k_.or (afo hu) aad)) ha.pr J.pe W,h,by have e:[bt,.ix s t]=(do let x←Ir.rd s env [bt,s];let y←[bt,t];Ir.eC (←Ir.bH x) y):=rfl;rw[aj,[eI,r1,F1,H1,o,A,a1,hv],[il,o,r1,F1,A,a1,[sp,r2,F2,H2,S2,N,a2,z]]];rw[M,d,hd,g,al.kv N (hv.step a2) u];rw[aE,Ir.eC,g];{rw[dz,[J,#[p,B,_,w,Y,Y,[cJ,W],f,I w G]]]};{rw[dz,[e7,#[p,B,_,w,Y,Y,cw.of (N.sub _ _ W),f,I w G]]]};{rw[ac,p,B,rfl,W,q,hd];rw[fF];exact [J,[e7,#[p,B,_,w,Y,Y,Cc N.sub W,f,I w G]]]};{unfold jz aG at hd;rw[dz,[J,#[p,B,_,w,Y,Y,[J,u7 N.sub W],f,I w G]]]};{rw[am,jz,hd];rw[hd.fZ,z.ci];rw[R,U,g,g.ite];rw[aO,x,j,I,al.bD N g,n,f,e3,lE.mp j];rw[bf,e3,[J,[lF,#[_,_,n,Y,Y,by rw[tF,<-me];grind,f,I _ [L,[n]]]]]]};{rw[fm,pz i];rw[bu,w,f,G,[tk].1 _ j,[e7,#[p,w,Y,[J,#[l,k,[J,W],pF L z,f.symm]],I w G]]]};{rw[fm,Ep i];rw[aO,b,ey,eb,DJ L z,w,f,G,[tk].1 _ j];exact [e7,#[p,w,Y,[aC,#[l,k,b,[J,W],ey,N.sub _ _ eb,f.symm]],I w G]]};{rw[R,i,g,g.ite];rw[R,k,L,pz i];rw[aO,x,j,I,al.bD N g,p,rfl,hd,hd];rw[aO,l,hr,hh,ft.kd p _ hd,w,f,G,((hr r2 F2).get L).1 _ j];exact [lF,#[p,l,k,w,Y,pF L z,hh,f,I w G]]};{rw[aN]}]
def aem(ft:[g9])(W:f<T.nf)(J:[eF,a,[kG]])(L:[eb,j]):[ap,.Attribute a [kG] pos,.av j f]:=[jg,aaH L.pe J,h,by rw[ae,e,[bt,.av j f]=(do match←Ir.bH (←Ir.ah Z _ _)with|.obj _ l=>Ir.bD (Ir.eV l f)|_=>Ir.bad),rfl,[eI,y,n,A,s,B,N,I]];rw[M,d,hd,g,al.kv B [J,I] m];rw[aC,g];{rw[an,p,G,fs,rfl,U,q,hd];rw[aO,x,u,z,al.bD B g,w,i,C,q.get ft.xW u];exact#[p,_,G,fs,w,Y,U,ft.cls _,ft.AQ _ f W,i,z w C]};{rw[aN]}]
section
variable{K:aQ}{r:List ai}{F H:Hp}{S:aj}
def Bo(h:d.atom=ae)(q:[cL]):oV v=ae:=by cases d<;>first|(rw[a8,q.ci])|(rw[a8,q.fZ])|rw[a5]
def abN(h:d.atom=ae)(x:e.atom=ae)(q:[cL])(z:[h2,e,C]):oE v C=d.beq e:=by rw[c7,d];{(cases e<;>first|cases x|skip);{rw[aU,q.ci,z.ci]};{rw[aU,q.ci,z.fZ]}};{(cases e<;>first|cases x|skip);{rw[aU,q.fZ,z.ci]};{rw[q.fZ,z.fZ];unfold Ir.D.beq oE;grind}}
def Bl:[hS,[u8],([co])->B.all oV=ae]|[],B,h,q=>[bM,q.fY]|d::l,B,h,q=>by rw[ac,v,ws,rfl,a,b,q.dO];rw[e8,aF]at h;rw[e8,Bo [dJ] a,Bl [cU] b];rfl
def BI(h:[jq])(q:[h2,x,v]):[hS,[u8],([co])->AG v B=Ir.j1 x l]|[],B,h,q=>[bM,q.fY]|d::l,B,i,z=>by rw[ac,C,ws,rfl,a,b,z.dO];rw[e8,aF]at i;have e:=BI h q i.2 b;unfold AG Ir.j1 at e|-;rw[n3,n3,abN [fD] h a q,e]
def LB(sub:Le F H)(h:x.pair=ae)(q:[h2,x,v]):∃i j,x=[bi,[aP],[c0]]/\Dp K H v [wN]:=by rw[aE,Ir.D.pair,h];{rename_i i j;obtain⟨a,B,rfl,e,_,q⟩:=q;rw[ac,G,C,rfl,z,q,q.dO];rw[ac,d,w2,rfl,u,q,q.dO];rw[q.fY,z.ci,u.ci]at e;exact#[i,j,Y,.tup (cw.of (sub _ _ e)) (.cons [aP] (.cons [c0] [aA]))]};grind
def L1(sub:Le F H):[hS,[js,Ir.D.pair],([co])->∃G,rb K H B G/\Di G=ae/\wx G<=8/\∀i j,G.any (λy=>uN y [wN])=Ir.j1 [bi,[aP],[c0]] l]|[],B,h,q=>[q,q.fY,#[[],[aA],Y,[ah],[zo]]]|d::l,B,h,q=>by rw[ac,v,ws,rfl,a,b,q.dO];rw[e8,aF]at h;rw[ag,i,j,rfl,hd,LB sub [dJ] a];rw[ac,G,m,u,L,z,L1 sub [cU] b];refine#[.tuple _::G,.cons hd m,?_,?_,λx U=>?_];{simp[Di,Jw,u,lG]};{(have e:Jx [wN]<=8:=by rw[aa,Jx,wx];rw[ah]);rw[b0,wx]};{rw[aU,n3,z _ _]}
end
def ag7(hu:[pi])(neg:Bool):[dC,[ul],[d3,[FM]]]:=by rw[bm,y,C,z,N,h];rw[bV,i,j,l,m,u,e,U,q];rw[R,L,J,Dp.reads I _ x v m z];rw[bl,bs,d,Dp.reads I _ y C u N,hd,X.A.units+1+el (wx l) (Jx [wN])<dM,[f]];rw[Dn,SeqAt.in_list_reads d J e Y hd [lb,I],SeqAt.notIn_list_reads d J e Y hd [lb,I]]
def aeJ(hu:[kH])(neg:Bool):[dC,[ul],[d3,[G']]]:=by rw[bm,y,C,d,N,h];rw[ac,a,o,rfl,g,q,h];cases N;rw[Dn,ads hu I g d λj B=>[lb,B],afP hu I g d λj B=>[lb,B]]
def Ya(neg:Bool):[dC,[ul],[d3,[Ge]]]:=by rw[bm,y,C,d,N,h];obtain⟨a,e,k,rfl,rfl,hd,q⟩:=h;cases N;rw[ag,m,B,J,j,hd _ I.dY];cases neg with|false=>refine wpAny_in_of (oU d) m j.mapOf ?_;rw[bB,[lv].tz,[lb,[hl]]]|true=>refine ajo (oU d) m j.mapOf ?_;rw[bB,[lv].tz,[lb,[hl]]]
def afx(neg:Bool):[dC,[ul],AB X.K neg]:=[Dn,ahb,afJ]
def Bc(X:Cx)(neg:Bool):R2:=[d3,AB X.K neg x y H Q\/[G']\/[Ge]\/[FM]]
def BR(hu:[pi])(neg:Bool):[dC,[ul],Bc X neg]:=cH.or (afx _) (cH.or (aeJ [g] _) (cH.or (Ya _) (ag7 hu _)))
def L4(ft:[g9])(h:∃env O S r F,[hm]/\[xZ]/\[hK,X.K,(do let x←[bt,a'];let y←Ir.bH (←Ir.rd t env (Ir.ah Z t env));let G←Ir.gy x y;[bZ,D.bl [A,neg,! G,G]]) S,r',F',H']):kn (Bc X neg) [fl,a'] (vl T X.K Z E t) σ H Q:=by rw[cn];rw[aj,[eI,r1,F1,H1,o,b,a1,I],[il,o,r1,F1,b,a1,[sp,r2,F2,H2,S2,a,A,W]]];rw[M,d,hd,g,al.kv a W u];have I:=[eQ,A.pre,A.fr,I];rw[aE,Ir.gy,g];{rw[aB,l];rw[aJ,[jq]];{rw[ar,aJ q,g,k,L,pz q];rw[b_,p,f,rfl,U,z];rw[aZ,J,[dO,a,g,[eO]],[e7,#[p,_,Y,[J,#[f,k,[J,U],pF L I,Y]],?_]]];have e:[Mf]:=[GJ];rw[af,e,J,J]};{rw[bs,aw q,g]}};{rw[aB,l];rw[aJ,[jq]];{rw[ar,aJ q,g,k,L,pz q];rw[aO,p,rfl,hd,hd,f,hr,hh,ft.kd p _ hd];rw[V,z,hr r2 F2,J,[dO,a,g,[eO]]];refine [eL,[e7,#[p,f,k,Y,pF L I,hh,?_]]];rw[eW,e,[Mf],[GJ]]};{rw[bs,aw q,g]}};{rw[aB,l];rw[D,q,([jq]/\[u8])\/(x.pair=ae/\[js,Ir.D.pair])];{rw[aJ q]at g;have J:=[dO,a,g,Y];rw[b_,p,B,rfl,U,z];rcases q with⟨N,n⟩|⟨N,n⟩;{exact [J,#[p,B,Y,[J,[cJ,U]],Bo N I,Bl n z,[q,BI N I n z,J]]]};{rw[ag,i,j,rfl,dx,LB a.sub N I];rw[ac,ds,m,u,h3,h4,L1 a.sub n z];exact [eL,[lF,#[i,j,ds,dx,.lst [cJ,U] m,u,h3,[f]]]]}};{rw[bs,aw q,g]}};{rw[aB,l];rw[b_,p,B,rfl,U,z];rw[ex,cw.of (a.sub _ _ U),[eO]]};{rw[aB,l];unfold jz aG at hd;rw[ac,p,B,rfl,U,z,hd];rw[ex,Cc a.sub U,Y]};{rw[aN]}
def agf(ft:[g9])(hu:[pi])(q:r_ .In b=af)(x:[hy])(J:[m4]):[ap,[jc,.In],.mem l e]:=by rw[aA,st,∀σ H Q,cU T _ Z E (.mem l e) σ H Q->kn (Bc X af) _ _ _ H Q,λσ H Q h=>L4 ft h,pe,[Kh,af]];exact [wV,xr (BR hu af) x.pe J.pr q]
def adk(ft:[g9])(hu:[pi])(q:r_ .NotIn b=af)(x:[hy])(J:[m4]):[ap,[jc,.NotIn],.oj l e]:=by rw[aA,st,∀σ H Q,cU T _ Z E (.oj l e) _ H Q->kn (Bc X ae) _ _ σ H Q,λσ H Q h=>L4 ft h,pe,[Kh,ae]];exact [wV,xr (BR hu ae) x.pe J.pr q]
section
variable{K:aQ}{r:List ai}{F H:Hp}{S:aj}
def B3(n d:Nat)(o:[fP]):HT.dP n d o=(o.map (Ir.clip n)).getD d:=[bx,o]
def aY.cut(lo q:[fP])(h:[co]):[eP,Ir.cut l [mR,lo.map [zm]] [DS,[zm]],vL B lo q]:=by unfold vL Ir.cut;rw[h.length,B3,B3];exact(h.drop _).take _
def F7(l:[gu])(a b:Nat):[aN,Ir.cut l a b,[E]]:=[b8,Ir.cut]
end
def Z7(K:aQ):[t9]:=λx lo q H Q=>N0 K x lo q H Q\/MG K x lo q H Q
def Gr{lo h}(c:[hm])(hd:jz T X.K r F H x v)(g:[hK,X.K,Ir.gu x lo h S,j,C,W]):Z7 X.K v lo h H Q:=by rw[aE,Ir.gu,g];{rw[ch,e,hd,[J,#[p,B,Y,[J,u7 c.sub e],λo n=>al.lst c g [Dt] (q.cut _ _) n]]]};{rw[ch,e,hd,[J,#[p,B,Y,[cJ,e],λo n=>al.lst c g [Dt] (q.cut lo h) n]]]};{rw[an,p,B,rfl,e,U,q,hd];rw[aB,l];rw[D,z,[mR,lo.map [zm]]=0/\(h.map [zm]).getD [E]=[E]];{rw[af,aJ z,g,g.bad.elim]};{rw[aw z]at g;rw[<-q.length,<-B3,<-B3]at z;exact [aC,#[p,B,Y,[jy,e],z,λo n=>al.tup c g [Dt] (q.cut lo _) n]]}};{rw[aN]}
def af9(n:[eb,B])(J:[jz])(hd:[ap,d,G]):[ap,[CT,aa b,aa d,p2],.kx B l G]:=[jg,Fm (n'.or G0 Ew) n.pr (Bf J.pe) (Bf hd.pe),h,by have e:[b9,.kx _ l G]=(do let x←Ir.rd B env _;let y←[eh,←Ir.ah Z _ _];let z←[eh,←Ir.ah Z _ _];Ir.gu (←Ir.bH x) (aa y) (aa z)):=rfl;rw[aj,[eI,t,o,H1,I,U,q,s],[il,I,t,o,U,q,[sp,r2,N,H2,L,c2,f,hu]]];rw[M,i,rfl,g2,u.fX];rw[aj,#[i,hu.ci,?_],#[env,O,L,r2,N,c2,[fy,q].step f,[LJ,p,k]]];rw[aL,j,rfl,g3,A.fX,#[j,W.ci,?_]];rw[bu,d,hd,g,al.kv p ((s.step f).step k) g3,Gr p hd g]]
def YX(L:[eb,p])(J:[jz]):[ap,[CT,aa b,ag,t],.ry p l]:=[FI,Bf J.pe,N9,[b9,.ry _ l]=(do let x←Ir.rd p env _;let y←[eh,←Ir.ah Z _ _];Ir.gu (←Ir.bH x) (aa y) _)]
def adp(L:[eb,p])(J:[jz]):[ap,[CT,ag,aa b,t],.lX p l]:=[FI,N9,Bf J.pe,[bt,.lX p l]=(do let x←Ir.rd _ _ _;let y←[eh,←Ir.ah Z _ _];Ir.gu (←Ir.bH x) _ (aa y))]
def al.lb{K}{f:[zT]}(c:[bz])(h:[ys])(a:[hP,Ir.lb d]):(∃p,v=[dp]/\GZ H p)/\[ho,()]:=by rw[c',Ir.lb d,Ir.lb];cases q:Ir.bH d S with|ok x j=>(rw[R,z,rfl,AN c h q];rw[q]at a;cases x with|aU l=>obtain⟨p,G,e,m,_⟩:=z;rw[aS,#[p,e,[J,#[G,[J,m]]]],a]|bY l=>obtain⟨p,G,e,m,_⟩:=z;rw[aS,#[p,e,[aC,#[G,[J,m]]]],a]|_=>rw[ax,a])|ex c B j=>rw[bs,q,a]|bad=>rw[bs,q,a]
def aeb(hu:[kH])(G:M2 X a "get" yB b d im)(ha:[eb,a'])(J:[ap,b,b'])(hd:[ap,d,d']):[ap,[em,a,"get",yB,[b,d],im],.i6 a' b' d']:=[jg,Xl hu ha.pr J.pe hd.pe G,h,by rw[ae,e,[b9,.i6 _ _ _]=(do let x←Ir.rd a' _ _;Ir.lb x;let y←[b9,b'];let z←[bt,d'];match←Ir.bH x with|[b3]=>[ao,y.atom,[bZ,[vU].getD z],Ir.bad]|[hs]=>[ao,y.jo,[bZ,[vU].getD z],Ir.bad]|_=>Ir.bad),rfl,[eI,r1,F1,H1,S1,n,A,t]];obtain⟨⟨p,rfl,j⟩,g1⟩:=m.lb n t;rw[aj,#[p,Y,j,?_],[il,S1,r1,F1,n,A,g1.bind.mono λy r2 F2 H2#[S2,c2,o,u]C hu=>?_]];refine#[env,O,S2,r2,F2,c2,[fy,A].step o,u.bind.mono λz r3 F3 H3#[S3,I,s,h3]w W=>?_];rw[M,d,hd,g,al.kv I ((t.step o).step s) h3];have hu:=[eQ,s.pre,s.fr,hu];rw[aC,g];{rw[fu,pz U];rw[bq,fP _ k,[J,#[i,k,[J,j],pF L hu,Y]]];have f:=al.pure I g;rw[eo]};{rw[fu,Ep U];rw[aL,b,ey,eb,DJ L hu,#[fP _ k,[aC,#[i,k,b,[J,j],ey,I.sub _ _ eb,Y]],?_]];have f:=al.pure I g;rw[eo]};{rw[aN]}]
def Vc(A:PE X o g)(p:[gA,ty])(G:M1 X o "get" t e v):[cj,[em,o,"get",t,[e],v],λσ H Q=>g σ H λx z=>∃a l,[gy,[LC,l],ty σ z λy L=>∃k,y=kV k/\Q ((fP l k).getD [aX]) L]]:=by rw[bR,Q,Jg G.base G.kz G.line Jh Dc ajr (a9 (A pins s σ H _ I h) λC i#[x,z,P,rx,a,l,ex,d,W]=>?_),ex,C=da a,rx];rw[ag,U,B,J,j,d i.heap P.dY];rw[bq,j.typeIs,λb q=>?_];{rw[bO];obtain⟨ob,_,_,m,u,_⟩:=j;exact#[ob,m,[ae,u]]};rw[ci,G.trees,zl Y (Jc (C2 (a9 (p pins i σ z _ P W) λO c#[y,L,f,N,k,n,w]=>IX ?_)))];subst n;rw[ag,U,B,J,j,d c.heap f.dY];refine TR Dc j.typeIs TU Y (meets_dict_get _ a (oU N) U) #[_,j.mapOf,#[_,L,f.tok _,[lv].getD [aB,bC [aX] qD,rfl],w]]
def VB(ft:[g9])(G:M1 X a "get" t b im)(i:[eb,j])(J:[ap,b,f]):[ap,[em,a,"get",t,[b],im],.rj j f]:=by rw[cs,Vc i.pe J.pe G,O];rw[ae,e,[b9,.rj _ _]=(do match←Ir.ah Z j _ with|[jE]=>(do let y←[bt,f];if y.atom=ae then [bZ,[vU].getD _]else Ir.bad)|_=>Ir.bad),rfl,[eI,A,s,H1,B,I,z,W]];cases x with|du l=>(rw[M,p,rfl,hd,W];rw[aL,fS,U,hh,ft.kd p _ hd,#[p,fS,Y,hh,env,O,B,A,s,I,[fy,z],[sp,o,N,H2,S2,w,a2,hu]]];rw[R,n,g,u.ite];rw[R,k,L,pz n];rw[bq,k,pF L hu];rw[V,d,al.pure w g,q,U o N];cases e:[vU]with|none=>rw[[tk].2 e];rw[af,e,d,d _ [aX]]|some x=>rw[M,w',e2,q2,[tk].1 x e];grind)|_=>rw[ax,m]
def fF.or(h:fF X f r)(x:fF X f j):[sI,f,G,r G H Q\/j G H Q]:=by intro pins s σ H G us Q I rs q;rw[d_,q,q,q,h _ s _ H _ _ Q I rs q,x _ s _ H _ _ Q I rs q]
structure Bt (X : Cx) (x : au) (u : aq) : Prop where
 gl : Gl X x
 mg : X.mg x = ag
 bt : hl x = aa u
 nm : x ≠ "__name__"
 db : (x == ("__debug__" : au)) = af
def P9(J:[AV,z])(h:[nR,.b1 o a,Q]):[CD,a,tp]:=by rw[cn];rw[ae,e,[b9,.b1 o a]=(do Ir.dn o (←Ir.bH (←Ir.rd _ env _))),rfl,[eI,s,I,u,p,B,L,q]];rw[bu,d,hd,g,al.kv B q m,J d _ _ _ _ v Q B hd g]
def u5{id}(b:[ik,id])(O:[j_,id,G])(I:[dS])(J:[d'])(h:[AV,q]):[j3,o]:=[kP,D2 O b.gl b.mg b.bt (iZ J.pr js I) b.nm b.db I,z,P9 h z]
def Bi{id}(b:Bt X x [bR,id])(O:fF X [bR,id] G)(I:[dS])(J:[d'])(h:[AV,q]):[j3,o]:=[kP,[xq,O,J.pr,I],z,P9 h z]
section
variable{K:aQ}{r:List ai}{F H:Hp}{S:aj}
def aY.sE:[CJ,Ir.oW l,ns.map V.bl]|[],B,ns,h,q=>by rw[bO];rw[a8,h.fY]|d::G,B,ns,h,q=>[Ie,Ir.oW,Ir.oW G,a.xP,aY.sE b e]
def aY.strs:[CJ,Ir.pE l,[S,ns.map sv,V.str]]|[],B,ns,h,q=>by rw[bO];rw[a8,h.fY]|d::G,B,ns,h,q=>[Ie,Ir.pE,Ir.pE G,a.fZ,aY.strs b e]
def aY.Ad:∀(ns:[h]),aY T K r F (ns.map .int) [jf]|[]=>[aA]|i::ns=>.cons Y (aY.Ad _)
def aY.Ei:∀(ns:[h]),[eP,ns.map .str,[S,ns.map sv,V.str]]|[]=>[aA]|i::ns=>.cons Y (aY.Ei _)
end
def UP(b:[ik,"len"])(I:[dS])(h:[d']):[j3,.len]:=u5 b (fF.or ag0 VY) I h λd r F H S v Q c hd g=>by cases d with|lst l=>rw[dC,[J,[cJ,m]],[bK]]|dX l=>rw[dC,[J,[J,u7 c.sub m]],Y]|tup l=>rw[dC,[eL,[jy,m]],[bK]]|str l=>rw[am,jz,hd];rw[c3];rw[Y,hd.fZ,[aC,#[_,Y,by rw[tF,<-me];grind,by exact [dO,c,g,[bK]]]]]|_=>rw[aN]
def aa0(O:[cF])(b:[ik,"sum"])(I:[dS])(h:[d']):[j3,.sum]:=[Au,Y0 O,q.«ints» e]
def abg(O:[cF])(b:[ik,"any"])(I:[dS])(h:[d']):[j3,.any]:=[Au,XM O,q.sE e]
def Y1(O:[cF])(b:[ik,"all"])(I:[dS])(h:[d']):[j3,.all]:=[Au,acd O,q.sE e]
def adw(b:Bt X x [je])(I:[dS])(h:[d']):[j3,[lX]]:=Bi b RY I h λd r F H S v Q c hd g=>[FN,al.lst c g U q n]
def afF(b:Bt X x [od])(I:[dS])(h:[d']):[j3,.tuple]:=Bi b aeP I h λd r F H S v Q c hd g=>by cases d with|lst l=>rw[ch,m,hd,#[p,B,Y,[J,#[[cJ,m],λo n=>al.tup c g U q n]]]]|_=>rw[aN]
def tE(x:Int):∀l,(Ir.l3 x l).Perm [gz]|[]=>.refl _|y::r=>by unfold Ir.l3;split;{rfl};{exact [bG,List.Perm.cons y (tE x r),[f]]}
def sF:∀l,(Ir.pT l).Perm l|[]=>.refl _|[bn]=>by exact [cw,tE x _,.cons x (sF r)]
def x8(x:Int):∀{l},[B6,(·<=·),Ir.l3 x l]|[],_=>[b8,Ir.l3]|y::r,h=>by unfold Ir.l3;rw[kM]at h;split;{rw[gJ,.cons [zN] (.cons [dJ] [cU])]};{refine .cons [zN] (x8 x [cU]);rw[fr]}
def wS:∀l,(Ir.pT l).Pairwise (·<=·)|[]=>[aA]|[bn]=>by exact x8 x (wS r)
def N4:[H2,[a0],(·<=·)]|[],G,p,_,_=>p.nil_eq|[gz],[],p,_,_=>[f',p.length_eq]|[gz],y::G,p,m,u=>by rw[kM]at m u;(have e:x=y:=by rw[V,a,p.mem_iff.mp (qx),b,p.mem_iff.mpr (qx)];grind);subst e;rw[N4 (ajL p) m.2 u.2]
def aaJ(b:[ik,"sorted"])(I:[dS])(h:[ap,e,j]):[ap,[fC,[e]],.b1 .sorted j]:=u5 b ad9 I h λd r F H S v Q c hd g=>by cases d with|lst l=>rw[an,p,B,rfl,m,U,q,hd];rw[M,ns,e,g,al.i5 [wP]];rw[R,L,g,g.ite];rw[q.«ints» e]at m;refine#[p,ns,Y,[cJ,m],L,λN o i a n=>?_];have z:=N4 (i.trans [dH,sF _]) a (wS _);rw[a2];refine al.lst c g ?_ (aY.Ad _) n;rw[aR,(sF _).length_eq];have:64<=lim:=[ah];omega|_=>rw[aN]
end
def Ze:∀c,c<128->Unicode.isDigit c=Ir.lj c:=[dy]
def Xg:∀c,c<128->Unicode.isAlpha c=(Ir.pJ c||Ir.pP c):=[dy]
def WC:∀c,c<128->Unicode.isAlnum c=(Ir.lj c||(Ir.pJ c||Ir.pP c)):=[dy]
def Er(h:Ir.plain s=ae)(e:∀c,c<128->f c=g c):[g3].cps.all f=s.all g:=by(have q:[g3].cps.all f=s.all f:=by simp);rw[am,Ir.plain,h];rw[ck]at h;grind
def Hu(s:[h]):ao ([Q,[g3]]>0)=! s.isEmpty:=[a_,tF]
def Zk(i:Int)(h:0<=i):(iP (kI i))=sv (Ir.digits i.toNat):=by rw[R,G,rfl,Int.eq_ofNat_of_zero_le h];rw[a8,Str.ofString_eq_toList]
def aee(s:[h]):ajM s=Ir.xo s:=by unfold ajM Ir.xo;grind
def F9(c:Nat):∀(l N:[h]),TL.gx [c] 0 N l=[ya,Ir.jw c l,N,N++w]|[],N=>by rw[TL.Nn];unfold Ir.jw;simp|[bn],N=>by unfold Ir.jw;rw[D,e,x=c];{subst e;rw[TL.PX [aB,TL.pre _ [bn]=ae,TL.agC _ r],TL.Fk,aiJ,g',F9 x r _];rw[e9,x,r]};{rw[TL.RN (TL.UV _ r e),F9 c r _];grind}
def QI(c:Nat)(s:[h])(O:c<128):zr [g3] (sv [c])=[S,Ir.jw c s,sv]:=by apply TL.Kf;rw[al,h,¬pq [g3]<pq (sv [c]),by rw[al,e,pq (sv [c])=1,[dU,pq,aJ ([bC])],e];rw[b8,pq],TL.We _ _ (by simp) h];rw[F9,cq];(have e:(TL.tl∘sv)=id:=by rfl);rw[e,v5];rw[e9,c,s]
def Px(y:[h]):∀ws,TL.wW y ws=Ir.l9 y ws|[]=>rfl|[w]=>rfl|w::v::r=>by show w++(y++TL.wW y _)=w++y++Ir.l9 y _;rw[Px y _,en]
def aaG(y:[h])(ws:[h]):Jm (sv y) [hw,sv]=sv (Ir.l9 y ws):=by apply TL.Pw;rw[TL.aaB,TL.L8,cq];(have e:(TL.tl∘sv)=id:=by rfl);rw[a3,e,v5,Px y _]
def DB(c:Nat):∀s,[aN,Ir.jw c s,s.length+1]|[]=>by unfold Ir.jw;simp|[bn]=>by have q:=DB c r;rw[b8,Ir.jw]
section
variable{T:Tb}{Z:Ir.bL}{E:XK}{X:Cx}
def afh(b:Bt X x [bR,"str"])(I:[dS])(h:[d']):[j3,.str]:=Bi b VF I h λd r F H S v Q c hd g=>by cases d with|int i=>rw[am,jz,hd];rw[c3];rw[ci,hd.ci,#[i,Y,?_,?_]];{rw[D,z,i.natAbs=0];{rw[a']};{exact y4 ((ajI z).mpr [ge,i.natAbs<2^64]) ([ah])}};{rw[Y,Zk i U.1,[lA,g]]}|_=>rw[aN]
def aa7(b:Bt X x [bR,"int"])(I:[dS])(h:[d']):[j3,.int]:=Bi b aa5 I h λd r F H S v Q c hd g=>by cases d with|str s=>rw[am,jz,hd];rw[c3];rw[ci,hd.fZ,#[_,Ir.xo s,Y,?_,[cx,tF],[lA,g]]];rw[<-aee];refine PySem.intText_digits (λc O=>?_) [lj] ([cx,tF]);{have:=ck.mp U.1 c O;rw[am,Ir.lj,this];grind};grind|_=>rw[aN]
def adJ(b:[ik,"ord"])(I:[dS])(h:[d']):[j3,.ord]:=u5 b ae1 I h λd r F H S v Q c hd g=>by cases d with|str s=>(rw[am,jz,hd];match s,hd,g with|[k],hd,g=>rw[Y,hd.fZ,#[_,Y,Y,[lA,g]]]|[],hd,g=>rw[aN]|_::[d4],hd,g=>rw[aN])|_=>rw[aN]
def Em{id}{f:au->Bool}{g:([h])->Bool}(slot:Slot "str" I id)(ty:[tT])(rule:[w7,id,G,f a])(W:[eF,e,I])(C:[hM,[oX]])(J:[ap,e,l])(U:∀s,Ir.plain s=ae->f [g3]=g s)(L:∀d,Ir.dn o d=[d6,d,[c'],[ao,Ir.plain s,[bZ,[bh,g s]],Ir.bad],Ir.bad]):[ap,[em,e,I,t,[],pos],.b1 o l]:=[jg,acD slot ty rule J.pr W C,h,by rw[ae,q,[b9,.b1 o l]=(do Ir.dn o (←Ir.bH (←Ir.rd _ env _))),rfl,[eI,i,N,n,p,B,j,z]];rw[M,d,hd,k,al.kv B z m];rw[L]at k;cases d with|str s=>rw[am,jz,hd];rw[R,u,k,k.ite];rw[Y,hd.fZ,#[[gS],_,Y,Y,True.intro,[q,U s u,[dO,B,k,Y]]]]|_=>rw[ax,k]]
def abR(W:[eF,e,"isdigit"])(B:[hM,S.endLine])(J:[d']):[C0,"isdigit",.isdigit]:=[Bq,PySem.F.slot_str_isdigit,PySem.F.type_str_isdigit,Z5,ajx,Ze]
def abH(W:[eF,e,"isalpha"])(B:[hM,S.endLine])(J:[d']):[C0,"isalpha",.isalpha]:=[Bq,PySem.F.slot_str_isalpha,PySem.F.type_str_isalpha,US,ajy,Xg]
def adC(W:[eF,e,"isalnum"])(B:[hM,S.endLine])(J:[d']):[C0,"isalnum",.isalnum]:=[Bq,PySem.F.slot_str_isalnum,PySem.F.type_str_isalnum,Xz,ajz,WC]
def al.FK{K}{f:[zT]}(m:o=[nq]\/o=.join)(e:Reads T K r F H x v)(h:[hP,Ir.sJ o x]):∃s,x=[c']/\v=[L,[g3]]/\[ho,()]:=by cases x with|str s=>refine#[s,Y,?_,?_];{rcases e with e|⟨_,_,_,_,q⟩;{exact e.fZ};{rw[ax,q]}};{rw[u5,m,h]}|_=>rw[u5,m,[tI,h]]
def aea(i:[q'])(W:[eF,a,"split"])(G:[hM,f.endLine])(L:[eb,A])(J:[jz]):[ap,[em,a,"split",f,[b],pos],.b2 [nq] A l]:=[jg,M0 L.pr J.pe i W G,h,[Fm,w,o,a2,al.lst N g ?_ (aY.Ei _) n]]
def Vv(ws:[h]):[S,[hw,sv],(·.length)].sum=[hw,mu].sum:=[bM,cq]
def ab6(A:[q'])(W:[eF,a,"join"])(G:[hM,[oX]])(i:[eb,k])(J:[ap,b,o]):[ap,[em,a,"join",t,[b],pos],.b2 .join k o]:=[jg,ae9 i.pr J.pe A W G,h,by refine [eI,n,N,H1,z,I,d,f];rw[ag,s,rfl,rfl,w,m.FK [aC,Y] f];refine#[[gS],env,O,z,n,N,I,[fy,d],w.bind.mono λy r2 F2 H2#[S2,j,a2,u]C hu=>?_];have g:=[aB,[pG],u];cases y with|lst l=>rw[M,ws,e,g,al.i5 [aB,[pG],g]];rw[R,U,g,g.ite];obtain⟨p,B,rfl,L,_,q⟩:=hu;rw[q.strs e]at L;refine#[_,p,ws.map _,Y,Y,[J,[cJ,j.sub _ _ L]],?_,?_];{rw[a3,Vv,aR,U]};{rw[Y,aaG,[dO,j,g,Y]]}|_=>rw[aN]]
def Lq(J:o=.min\/o=.max)(s:∀i j r F H S Q,([hm])->([hK,X.K,Ir.jl o [aP] [c0] S,z,e,q])->G [[aP],[c0]] H Q)(h:[nR,.b2 o A l,Q]):[CD,A,wD [fl,l] tp]:=by rw[cn];refine [eI,L,a,N,B,W,U,f];rw[ae,p,al T X.K L a N ((do let y←[bt,l];Ir.jl o (←Ir.bH x) y) B) (λd z e q=>[tN,X.K,z,e,q]) E,[u5,J,m],[il,B,L,a,W,U,p.bind.mono λy k w b#[t,I,n,u]C hu=>?_]];rw[M,d,hd,g,al.kv I (f.step n) u];cases d with|int i=>(cases y with|int j=>rw[am,jz,hd];rw[a3,hd.ci,hu.ci,s i j _ _ _ _ Q I g]|_=>rw[u5,J,[tI,g]])|_=>rw[u5,J,[tI,g]]
def Zo(O:[cF])(bt:[ik,"min"])(m:[CP])(u:[q'])(q:[jD,[b]])(h:[eb,B])(J:[jz]):[ap,[fC,[ib]],.b2 .min B l]:=[F5,afn O,[fa],j<i,el i j]
def abt(O:[cF])(bt:[ik,"max"])(m:[CP])(u:[q'])(q:[jD,[b]])(h:[eb,B])(J:[jz]):[ap,[fC,[ib]],.b2 .max B l]:=[F5,acP O,[aC,Y],j>i,fk i j]
end
def cb(n0:Nat)(r:[ba])(F H:Hp):Hp:=λa=>[gn,F a,o,[a9],[A,a∈r.drop n0,H a,ag]]
section
variable{T:Tb}{K:aQ}{r:List ai}{F H:Hp}{S:aj}{n0:Nat}
def kC:Le F (cb n0 r F H):=λa o e=>[dU,cb,e]
def YC(s:Le F H):Le (cb n0 r F H) H:=λa o e=>by rw[am,cb,e];grind
def XB(n:F a=ag)(h:a∈r.drop n0):cb n0 r F H a=H a:=[b8,cb]
def Al(h:¬n<n0)(e:[At]):a∈r.drop n0:=[gJ,cG (i:=n-n0) ?_]
mutual
theorem aG.eK(le:Le F F1):∀(d:D)(v:V),aG T K r F d v→d.low n0=ae→aG T K (r.take n0) F1 d v|.a0,v,x,_=>by exact x|.bl b,v,x,_=>by exact x|.int i,v,x,_=>by exact x|.str s,v,x,_=>by exact x|.fn s,v,x,_=>by exact x|.du l,v,x,_=>by exact x|.tup l,v,x,h=>by unfold aG at x⊢;unfold Ir.D.low at h;obtain⟨a,B,e,q,n,z⟩:=x;exact⟨a,B,e,le _ _ q,n,aY.eK le l B z h⟩|.lst l,v,x,h=>by obtain⟨a,B,e,q,n,z⟩:=x;exact⟨a,B,e,le _ _ q,n,aY.eK le l B z h⟩|.dX l,v,x,h=>by unfold aG at x⊢;unfold Ir.D.low at h;obtain⟨a,B,e,q,n,z⟩:=x;exact⟨a,B,e,u7 le q,n,aY.eK le l _ z h⟩|.b6 l,v,x,h=>by obtain⟨a,B,e,q,z⟩:=x;exact⟨a,B,e,Cc le q,aY.eK le l B z h⟩|.aU l,v,x,h=>by obtain⟨a,B,e,q,n,z⟩:=x;exact⟨a,B,e,le _ _ q,n,cE.eK le l B z h⟩|.bY l,v,x,h=>by obtain⟨a,B,e,q,n,z⟩:=x;exact⟨a,B,e,le _ _ q,n,cx.eK le l B z h⟩|.i7 l,v,x,h=>by obtain⟨a,I,B,e,q,n,z⟩:=x;exact⟨a,I,B,e,le _ _ q,n,cx.eK le l B z h⟩|.obj c l,v,x,h=>by obtain⟨a,p,fs,e,q,z⟩:=x;exact⟨a,p,fs,e,le _ _ q,dA.eK le l fs z h⟩|.ref n,v,x,h=>by unfold aG at x⊢;unfold Ir.D.low at h;grind
theorem aY.eK(le:Le F F1):∀(l:List D)(B:List V),aY T K r F l B→Ir.eM n0 l=ae→aY T K (r.take n0) F1 l B|[],B,x,_=>by exact x|d::G,B,x,h=>by unfold Ir.eM at h;rw[aF]at h;obtain⟨v,ws,e,a,b⟩:=x;exact⟨v,ws,e,aG.eK le d v a h.1,aY.eK le _ ws b h.2⟩
theorem cE.eK(le:Le F F1):∀(l:List (D×D))(B:List _),cE T K r F l B→Ir.lowP n0 l=ae→cE T K (r.take n0) F1 l B|[],B,x,_=>by exact x|(k,d)::G,B,x,h=>by unfold Ir.lowP at h;rw[aF]at h;obtain⟨j,v,ws,e,u,a,b⟩:=x;exact⟨j,v,ws,e,u,aG.eK le d v a h.1,cE.eK le G ws b h.2⟩
theorem cx.eK(le:Le F F1):∀(l:List _)(B:List _),cx T K r F l B→Ir.lowP n0 l=ae→cx T K (r.take n0) F1 l B|[],B,x,_=>by exact x|(k,d)::G,B,x,h=>by unfold Ir.lowP at h;rw[aF]at h;obtain⟨j,v,ws,e,u,a,b⟩:=x;exact⟨j,v,ws,e,u,aG.eK le d v a h.1,cx.eK le G ws b h.2⟩
theorem dA.eK(le:Le F F1):∀(l:List _)(B:List _),dA T K r F l B→Ir.iT n0 l=ae→dA T K (r.take n0) F1 l B|[],B,x,_=>by exact x|(k,d)::G,B,x,h=>by unfold Ir.iT at h;rw[aF]at h;obtain⟨v,ws,e,a,b⟩:=x;exact⟨v,ws,e,aG.eK le d v a h.1,dA.eK le G ws b h.2⟩
end
def Az(O:[BL,j]):∀{l J}{B},Ir.cM f l=aa J->([co])->aY T K j Q J B/\J.length=[E]|[],J,B,e,h=>by rw[cI];rw[Y,h.fY,#[[aA],Y]]|d::l,J,B,e,h=>by rw[ac,v,ws,rfl,a,b,h.dO];rw[am,Ir.cM,e];cases q:f d with|none=>grind|some y=>cases u:Ir.cM f l with|none=>grind|some G=>rw[gE,q,u,e];rw[aG,z1,z2,Az O u b,#[.cons [f] z1,[f]]]
def Hn{f:D->[be,D]}(O:[BL,L]):∀{l J}{B},[xg]=aa J->([lg,B])->cE T K L Q J B/\J.length=[E]|[],J,B,e,h=>[aT,e,#[h,Y]]|[fY,d],J,B,e,h=>by obtain⟨j,v,ws,rfl,m,a,b⟩:=h;rw[am,Ir.cM,e];simp only at e;cases q:f d with|none=>rw[aq,q,e,e]|some y=>cases u:[xg]with|none=>grind|some G=>rw[gE,q,u,e];rw[aG,z1,z2,Hn O u b,#[[b8,cE],[f]]]
def GN{f:D->[be,D]}(O:[BL,j]):∀{l J}{B},[xg]=aa J->dA T K r F l B->dA T K j Q J B|[],J,B,e,h=>[aT,e,h]|[fY,d],J,B,e,h=>by rw[ac,v,ws,rfl,a,b,h];rw[am,Ir.cM,e];cases q:f d with|none=>grind|some y=>cases u:[xg]with|none=>grind|some G=>rw[q,u]at e;rw[aT,e,#[v,ws,Y,O d y v q a,GN O u b]]
def NI(c:[bz]):∀(k:Nat)(d x:D)(v:V),Ir.cp n0 S k d=aa x->([cL])->aG T K (r.take n0) (cb n0 r F H) x v|0,d,x,v,e,h=>[cI]|[an],d,x,v,e,h=>by have U:=NI c k;rw[am,Ir.cp,e];cases d with|ref n=>simp only at e;rw[D,q,n<n0];{rw[aq,aJ q,e,e];unfold aG at h|-;grind};{rw[aw q]at e;rw[M,a,rfl,z,h];cases C:S[n]? with|none=>rw[a']|some G=>rw[C]at e;rw[ai,O,[kB,a,C,z],f,cb _ r F H a=H a,XB (c.off a (cG z)) (Al q z)];cases G with|aX W l=>rw[ag,p,fs,m,u,O];rw[bu,J,L,rfl,lE.mp e,#[a,p,fs,Y,f.trans m,GN U L u]]|lst l=>rw[ag,B,m,j,u,O];rw[dn];rw[R,z1,z2,Az U L u];rw[b8,aG]|aU l=>rw[ag,B,m,j,u,O];rw[dn];rw[R,z1,z2,Hn U L u];rw[h5,aG,#[a,B,Y,f.trans m,[q,z2,j],z1]]}|tup l=>rw[dt,Az U L u]|lst l=>rw[dt,Az U L u]|aU l=>rw[dt,Hn U L u]|obj W l=>rw[dn];unfold aG at h|-;rw[an,a,p,fs,rfl,m,u,h];exact#[a,p,fs,Y,kC _ _ m,GN U L u]|bY l=>rw[cI]|i7 l=>rw[cI]|dX l=>rw[cI]|b6 l=>rw[cI]|a0=>rw[cQ]|bl b=>rw[cQ]|int i=>rw[cQ]|str s=>rw[cQ]|fn s=>rw[cQ]|du s=>rw[cQ]
end
section
variable{T:Tb}{K:aQ}{r:List ai}{F H:Hp}{S:aj}{E:XK}
def EG(p:lg r j):j.take [gm]=r:=by apply mw;grind
def N2(c:[bz])(a:bB r F H h O W)(p:a_ T K h O W B):bB r F H r (cb [ab] h O W) W where
 keep:=a.keep
 fr:=a.fr.trans kC
 nf:=λx o e=>by rw[am,cb,e];cases q:O x with|some C=>rw[df,q,e,a.nf x _ q]|none=>rw[bE,q,e];rw[aC,e];{rw[aB,z];rw[aQ,c.len,z];rw[aK,a.nr x (S0 z),y,y];{exfalso;rw[aO,i,U,L,qF.mp y,j,J,d,qF.mp z];rw[List.getElem_drop]at d;rw[eR,[f],p.nd]};{exact [e7,y]}};{rw[cI]}
 pre:=[cY]
 nr:=[mt]
 fL:=a.fL
def Pt(c:[bz])(a:bB r F H h Q W)(C:a_ T K h Q W p)(low:[hR,p.take [ab],c,[q3]]=ae):a_ T K r (cb [ab] h Q W) W (p.take [ab]):=by rw[a1,e,h.take [ab]=r,[bB,c.len,EG a.pre],N,[gm]<=h.length,by rw[<-e,o7];omega,#[?_,c.nd,YC C.sub,[gG],λn G x m u=>?_,C.tab.fr (by unfold cb;rw[Y,C.tab.1,aw λz=>C.Rg (S0 z)])]];{rw[o7,<-C.len,<-c.len];omega};{(have d:=by rw[aQ,e,L];exact Ie L);rw[dU,cb,C.off x d];rw[bt];split;{rw[aB,z];rw[aQ,c.len,z];rw[aO,i,s,O,qF.mp L,j,g,J,qF.mp z];rw[eR,by rw[cQ s,O],C.nd]};rfl};{rw[aA,f,n<[ab],[f],U,ck.mp low _ (cG m)];rw[ai6 f]at m;have q:=C.rep n _ x m (a.pre n x u);cases G with|aX k l=>rw[ag,P,fs,O,J,q];rw[hr,z,dA.eK (F1:=cb [ab] h _ W) kC l _ J U,e,#[P,fs,O,z]]|lst l=>rw[ag,B,O,I,J,q];rw[hr,z,aY.eK (F1:=cb [ab] h Q W) kC l _ J U,e,#[B,O,I,z]]|aU l=>rw[ag,B,O,I,J,q];rw[hr,z,cE.eK (F1:=cb [ab] h Q W) kC l B J U,e,#[B,O,I,z]]}
def wV.adi(p:lg r q)(h:wV q H B W):wV r H B W:=by rcases h with h|⟨a,i,j,k,e,m,n,u⟩;{exact [J,h]};{refine [aC,#[a,i,j,k,e,m,λz=>n ?_,u]];rw[bu,G,O,e,qF.mp z,cG (p G _ [f])]}
def al.fW{Q:VK}(c:[bz])(h:[hK,K,Ir.fW G S,j,C,L]):[hK,K,G S,j,C,L]:=by rw[am,Ir.fW,h];cases q:G S with|ok d l=>(rw[bE,q,h];cases e:Ir.cp _ _ 8 d with|none=>rw[bs,e,h]|some x=>rw[bE,e,h];rw[a6];{rw[aB,low];intro j C L a i v m;rw[hr,z,NI i 8 d x v e m,show j.take _=r by rw[bB,c.len,EG a.pre],h r _ _ (N2 c a i) (Pt c a i low) v z]};{rw[ax,h]})|ex k B l=>rw[bE,q,h];rw[a6];{rw[aB,low];intro j C L W a i x;exact h r _ _ _ (N2 c a i) (Pt c a i low.1) (x.adi a.pre)};{rw[ax,h]}|bad=>grind
end
def qL(T:Tb)(K:aQ)(G:([ak])->Ir.M D)(np:Nat):Sp:=λB H Q E=>∃l S r F,[bz]/\[co]/\[E]=np/\[hK,K,G l S,j,x,e]
structure rA (T : Tb) (Z : Ir.bL) (X : Cx) (E : XK) (f np : Nat) : Prop where
 ex : ∃ k fd ps, lT X.prog X.w X.K X.mg X.base (kD X.prog X.w) k (T.cS f) fd ps (qL T X.K (Z.call f) np) ∧ eI (k + 1) X.A ∧ k7 X.K fd ps []
 kp : jg X.K (.ref (T.cS f)) = ae
 ps : lz (kD X.prog X.w) X E
section
variable{T:Tb}{Z:Ir.bL}{E:XK}{X:Cx}
def adc(ff:[vY,[E]])(d:[dI])(i:[fm,[gP]])(j:[cm])(U:[ii,q])(N:[jD,q])(L:[id,e::q]):[ap,[fC,e::q],[bX,f,l]]:=by rw[an,k,y,ps,F,z,J,ff.ex];rw[cs,acE F (z.mono (by simp)) d i ff.kp J [aA] ff.ps L j U N,O];rw[ae,e,[b9,[bX,f,l]]=(do Z.call f (←Ir.cD Z l env)),rfl,[jS,λG s C n#[a,I,g,m]u B W=>?_]];show qL T _ _ _ _ _ Q E;rw[Y,iu,#[G,a,s,C,I,W,u,m]]
def Ux(ff:[vY,0])(m:[dI])(q:[fm,[gP]])(j:[cm]):[ap,[fC,[]],[bX,f,[]]]:=by rw[an,k,l,ps,F,L,J,ff.ex];rw[cs,aeF F (L.mono (by simp)) m q ff.kp J [aA] ff.ps j,O];rw[aA,e,[bt,[bX,f,[]]]=(do Z.call f _),rfl,a,h];exact#[[],S,r,F,c,[aA],Y,a]
end
def fy(h:[qE]):bb (e::l) env=(af,[tF])::bb l env:=[nQ,e]
def sV:∀{l},([js,noStar])->[t7,l].any (·.1)=af|[],_=>rfl|e::l,h=>by rw[e8,aF]at h;rw[Y,fy [dJ],sV [cU]]
def Qe:∀{l},([js,noStar])->[kl,[t7,l],λx=>! [R]]|[],_=>rfl|e::l,h=>by rw[e8,aF]at h;rw[Y,fy [dJ],Qe [cU]]
def agx(h:[js,noStar])(U:[E]<30):ajN ([E]+[Q,([]:List nZ)]) [t7,l] (jh pos (ji [] env))=ae:=by rw[dU,ajN,Qe h];rw[fN,jh,ji]
def MZ(J:eF o G env (aM o env)=aM o env)(h:[js,noStar])(q:[E]<30)(U:[hM,e.endLine]):[Fs,o,G,e,l,env,x,e.atName,do return(←importBound o env).getD ae]:=by show(do let x←eF o G _ _;pd _;methodCall o G _ _ _ _ _ _ _)=_;rw[J];unfold methodCall calleeOf methodCallPos;rw[aU,agx h q,U]
section
variable{T:Tb}{K:aQ}{r:List ai}{F H:Hp}{S:aj}{E:XK}{Z:Ir.bL}
def a_.hx(c:[bz])(n:H x=ag):x∉r:=λz=>[iQ,C,q,c.has z]
def PY(e:[aQ,r++[x],n,a]):[At]\/(n=[gm]/\a=x):=[f]
def sG(r:[h])(x:ai):lg r (r++[x]):=λn a e=>[f]
def bB.made(W:H x=ag)(G:[gV]):bB r F H (r++[x]) F [xs,p,x,C]:=by rw[ae,kp,∀a o,([jQ])->upd [e0,[bl,x]] x (.aX C p []) a=[a9],λa o e=>[a3,[dw],[dw],e],#[λa o e _=>[J,kp a o e],λa o e=>e,[y6],sG r x,[Ac],[ou]]];rw[ay];{cases q:H a with|none=>rfl|some o=>grind}
def a_.made(c:[bz])(W:H x=ag)(G:[nw]):a_ T K (r++[x]) F [xs,a,x,[gU]] (S++[.aX k []]):=by refine#[by rw[cO,cO,c.len];rfl,?_,[k2],λb h=>?_,λn d b m u=>?_,(c.tab.upd (zU G)).upd (by rw[aJ,x=a];(rw[q,bW];trivial);(rw[aW q,W];trivial))];{rw[ci,g8,[J4]];rw[af,dL.mp L,e,c.hx W (e▸J)]};{have z:=c.sub b o e;rw[a3,[dw],[dw],z]};{rw[a0,cs.mp h,h,h,c.off b h];{rw[Y,dL.mp h,c.hW W]}};{rw[bZ,PY u,u,rfl,rfl];{(have U:n<[ab]:=by rw[<-c.len];grind);rw[ar,lI U,m,o,j,c.has (cG u)];exact [kB,b,m,u].step (sG r x) [gH] (by rw[[dw],[dw]])};{rw[c.len,[zx],Jy]at m;rw[aT,m,#[a,[],bW,by rfl]]}}
def al.newD{Q:VK}(c:[bz])(h:[hK,K,Ir.newD Z k l S,j,C,J])(e:[co])(u:[E]+1=np)(W:H x=ag)(G:[gV]):qL T K (Z.call (Z.init k)) np ([eA]::B) [xs,p,x,[gU]] (λv L=>v=[aX]/\Q [eA] L) E:=by rw[aZ,a,bB.made (r:=r) (F:=F) (C:=[gU]) W G,#[[hd]::l,S++[.aX k _],r++[x],F,c.made W G,.cons ?_ [m8,a.pre,a.fr,e],[f],?_]];{rw[bq,x,Y];rw[<-c.len,[zx],Jy];rfl};{rw[am,Ir.newD,h];cases q:Z.call _ _ _ with|ok d m=>(rw[q]at h;cases d with|a0=>intro s O L z I v e;rw[aj,#[e,h _ _ _ [iJ,z] I _ ?_],#[x,Y,z.pre _ _ ?_]];rw[<-c.len,nT [f],Jy];rfl|_=>rw[ax,h])|ex _ _ _=>rw[b1]|bad=>rw[b1]}
end
structure DE (T : Tb) (Z : Ir.bL) (X : Cx) (E : XK) (c np : Nat) : Prop where
 nj : Mk X.K (T.eB c) (T.cS (Z.init c))
 ff : rA T Z X E (Z.init c) np
section
variable{T:Tb}{Z:Ir.bL}{E:XK}{X:Cx}
def OQ(cf:DE T Z X E k ([E]+1))(f:[dI])(w:[fm,[gU]])(j:[cm])(N:[ii,q])(A:[jD,q])(U:[id,e::q]):[ap,[fC,e::q],.new k l]/\[ap,[fC,e::q],.lO k l]:=by rw[an,o,t,ps,F,C,J,cf.ff.ex];have pe:=adr (p:=p) cf.nj F C f w J [aA] cf.ff.ps U j N A;rw[bb];{rw[cs,pe,O];rw[e_,[bt,.new k l]=(do Ir.newD Z k (←Ir.cD Z l _)),m]};{refine .of (b9 pe [wx,O]) [bJ] (by simp);rw[e_,[bt,.lO k l]=(do let i←Ir.cD Z l _;Ir.fW _),m.fW I]}
def aep(cf:DE T Z X E k 1)(m:[dI])(q:[fm,[gU]])(j:[cm]):[ap,[fC,[]],.new k []]:=by rw[an,B,l,ps,F,L,J,cf.ff.ex];rw[cs,WP cf.nj F L m q J [aA] cf.ff.ps j,O];intro x e a G W;exact al.newD c (h) [aA] Y a G
def al.lc{K}{f:[zT]}(c:[bz])(h:[cL])(a:[hP,Ir.lc k d]):(∃p x fs l,v=[dp]/\H p=aa (.aX [gU] x fs)/\[r'])/\[ho,()]:=by rw[c',Ir.lc k d,Ir.lc];cases q:Ir.bH d S with|ok s j=>(rw[R,z,rfl,AN c [J,h] q];rw[q]at a;cases s with|obj G l=>simp only at a;rw[D,e,G=k];{rw[an,p,x,fs,e,m,z,z];grind};{rw[bs,aw e,a]}|_=>rw[ax,a])|ex c B j=>rw[bs,q,a]|bad=>rw[bs,q,a]
def dA.FY{K}(m:∀f,[kG]≠G):∀{l}{fs},([r'])->[lo,G]=ag|[],fs,h=>[fn,dA]|[fY,d],fs,h=>by obtain⟨v,ws,rfl,_,q⟩:=h;rw[aa,uG,ut.mpr λz=>m k z.symm];exact dA.FY m q
def acR(ft:[g9])(ff:[vY,[E]+1])(hm:pK X.K [gU] G [gP])(O:∀f,[kG]≠G)(b:[kl,e::a,noStar])(z:[Q,e::a]<30)(U:[hM,[oX]])(ho:[ap,[s6],i])(g:[id,e::a]):[ap,[em,[s6],G,t,e::a,pos],.bG k i f l]:=by rw[an,kk,fd,ps,F,A,J,ff.ex];refine .of (b9 (acu ho.pe (ft.cls k) hm F (A.mono (by simp)) J [aA] ff.ps g (fy [f]) (sV [f]) (MZ Y b z U)) [wx,j]) [bJ] (by simp);rw[ae,e,[b9,.bG k _ f l]=(do let x←[b9,i];Ir.lc k x;let y←[te,l];Z.call f (x::y)),rfl,[ip,j,[to,λx w o H1#[L,I,N,m]v W=>?_]]];obtain⟨⟨p,dx,fs,fl,rfl,hp,hf⟩,g1⟩:=m.lc I W;refine#[p,dx,fs,Y,hp,hf.FY O,env,j,L,w,o,I,[fy,N],g1.bind.mono λds r2 n H2#[s,c2,d,u]z B q=>?_];show qL T _ _ _ _ _ Q E;rw[Y,iu,#[x::ds,s,r2,n,c2,.cons [eQ,d.pre,d.fr,W] q,by rw[b7,z],u]]
def YY(ft:[g9])(ff:[vY,1])(l:pK X.K [gU] G [gP])(O:∀f,[kG]≠G)(U:[hM,[oX]])(s:[ap,[s6],a]):[ap,[em,[s6],G,t,[],pos],.bG k a f []]:=by rw[an,o,A,ps,F,L,J,ff.ex];rw[cs,aaw s.pe (ft.cls k) l F (L.mono (by simp)) J [aA] ff.ps (MZ Y Y ([ah]) U),B];rw[ae,e,[b9,.bG k _ f []]=(do let x←[bt,a];Ir.lc k x;let y←[te,[]];Z.call f _),rfl,[ip,B,[to,λx d z n#[j,I,g,m]v q=>?_]]];obtain⟨⟨p,i,fs,fl,rfl,W,N⟩,u⟩:=m.lc I q;rw[bh,g2,u,#[p,i,fs,Y,W,N.FY O,[x],j,d,z,I,.cons q [aA],Y,g2]]
def X5{ok:Nat->[P]}(m:PE X [dx] G)(P:∀k,ok k->rA T Z X E k np)(O:PA X (e::l) t)(U:[ii,l])(f:[jD,l]):[cj,[fC,e::l],λσ H Q=>G σ H λy z=>∃k,y=[m,T.cS k]/\ok k/\t σ z λB i=>qL T X.K (Z.call k) np B i Q E]:=by rw[bR,Q,nY (a9 (m _ s _ H _ I h) λC L#[y,o,a,N,k,d,W,q]=>?_),d,C=da _,N];have ff:=P k W;rw[an,A,g,ps,F,u,J,ff.ex];rw[d8,C5 I.ok.mod.tj ff.kp [ev,O _ _ _ _ _ _ a q,us,n,B,z,j,r,q,#[j.dY,?_]] U f,yx F (u.mono (by simp)) J [aA] ff.ps j r [f]]
def aeS(w:∀k,Z.ar k=[E]->rA T Z X E k [E])(z:[ap,[dx],G])(U:[id,e::j])(a:[kl,e::j,noStar]):[ap,[fC,e::j],.ly G l]:=by rw[e8,aF]at a;rw[cs,X5 z.pe w U (fy a.1) (sV a.2),O];rw[ae,e,[b9,.ly G l]=(do match←Ir.ah Z _ env with|[pv]=>(if Z.ar f=[E]then do Z.call f (←Ir.cD Z l _)else Ir.bad)|_=>Ir.bad),rfl,[eI,s,d,o,I,J,L,W]];cases x with|fn k=>rw[R,N,n,[u',m]];rw[d8,#[k,W,N,env,O,I,s,d,J,[fy,L],n.bind.mono λA y C b#[i,g,t,u]z B q=>?_],#[A,i,y,C,g,q,z,u]]|_=>rw[ax,m]
end
def jW(T:Tb)(K:aQ)(J:It)(Q:[ba])(I:Hp)(l:[ak]):[P]:=∀(r:[ba])(F H:Hp),lg Q r->Le I F->Le F H->(J.stop [E] H)/\[lU,i,d,D,[aY,l,d],J.go i H/\∀x e,J.Bz i H x e->∃C,Le F C/\Le C e/\Le H e/\[Cb,C a,F a,H a,[jQ]]/\[sF,e a=ag]/\aG T K r C d x]
def j4 (T : Tb) (K : aQ) (Z : Ir.bL) (E : XK) (k : Nat) (l : List Ex) : TI := fun σ H R => ∃ env O S r F, a_ T K r F H S ∧ cJ T K r F H σ env O ∧
 al T K r F H ((do Ir.eA k (← Ir.cD Z l env)) S) (fun B j x e => B.length ≤ lim → ∀ J, jW T K J j x B → R J e) E
section
variable{T:Tb}{K:aQ}{r:List ai}{F H:Hp}{S:aj}
def a_.BH(c:[bz])(h:a∈r)(e:H a=[hJ,B]):False:=by rw[M,n,m,z,qF.mp h];rw[V,L,c.len▸m,q,[kB,a,cQ L,[f]]];cases O:S[n]with|aX k l=>rw[O]at q;obtain⟨_,_,q,_⟩:=q;grind|lst l=>rw[dc];grind|aU l=>rw[dc];grind
def jW.LJ(c:[bz])(m:Le F x)(u:Le x W)(U:Le H W)(L:[Cb,x a,F a,H a,[jQ]])(O:[sF,W a=ag]):bB r F H r x W/\[pl,x,W]:=by rw[a7,#[λa o e _=>[J,U a o e],m,λa o e=>(L a o e).imp id (Or.imp id λ#[B,h,j]=>#[B,h,j,λz=>c.BH z (h▸j)]),[cY],[mt],O],#[c.len,c.nd,u,λa J=>?_,λn G a h j=>?_,c.tab.Kw U (by cases q:x _ with|none=>rfl|some o=>rcases L _ o q with z|z|⟨B,h,z⟩;{rw[aq,c.tab.1,z,z]};rw[av,[c8,Y,c.tab.ne (zU z)],[c8,Y,c.tab.ne (by rw[z,h];trivial)]])]];{cases q:x a with|none=>rfl|some o=>rcases L a o q with z|z|⟨B,h,z⟩;{rw[aq,c.off a J,z,z]};{rw[iQ,C,e,c.has J]};{rw[bH,c.BH J (h▸z)]}};{rw[aG,o,d,c.has (cG j),[kB,a,h,j].step [cY] m [f]]}
def aeZ(h:[vN])(q:[co]):[mV,B' K a,l]:=[FL,[cJ,e]]
def W9(h:F a=[hJ,B])(q:[co]):[mV,FC K a,l]:=[FL,cw.of e]
def Pd(lo:Int)(n:Nat):[mV,xV lo n,[jx,n,[l,lo+i]]]:=by intro j C W p f s;rw[a7,by show n<=_;simp,[st]];rw[dR]at hd;have h:i<n:=[f];rw[gE,cQ [f],ud,hd];rw[a7,h,λx L#[z,q]=>?_];subst z q;exact#[C,[gH],s,[gH],[y6],λ_ e=>e,[bK]]
def ace(s:[h]):[mV,Fw [g3],s.map λc=>[L,[c]]]:=by intro j C W p f z;rw[a7,by show [g3].cps.size<=_;simp,[st]];rw[dR]at hd;cases e:s[i]? with|none=>rw[a']|some c=>rw[aq,e,hd,hd];rw[a7,[h6,i<[g3].cps.size],λx L#[h,G,q,I]=>?_];subst h I;(have:[g3].cps[i]?=s[i]?:=by simp);rw[this,e]at q;rw[aT,q,#[C,[gH],z,[gH],[y6],λ_ e=>e,[dD]]]
def wH(s:Le C z)(n:z t=ag)(hd:aG T K h C d x)(O:aG T K h C e y):∃J,Le C J/\Le J (upd z t [ku])/\Le z (upd z t [ku])/\[Cb,J a,C a,z a,z a=[a9]]/\(∀a,upd z t [ku] a=ag->z a=ag)/\aG T K h J [bi,d,e] [m,t]:=by rw[a1,j,C t=ag,by cases q:C t with|none=>rfl|some o=>grind,l,Le C (upd _ t [ku]),λa o e=>[nh,e],#[upd _ t _,l,[sE],[sE],[sE],[ou],?_]];{rw[dM,a=t];{rw[aW q]at e|-;grind}};{rw[Y,aW (iH e n),e]};{rw[aJ,a=t];rw[ay];{rw[aW q]at e;grind}};{rw[cT,a,t,e]};{exact .OG j (by show 2<=lim;rw[ah]) (.cons hd (.cons O [aA]))}
def afN(h:[vN])(q:[co]):[mV,Hw K a,[rQ,[X]]]:=[FA,W,Q]
def Vn(h:[vN])(m:F b=[ln,ws])(q:[eP,N,B])(O:[eP,l,ws]):[mV,Dv K a b,[fc,N.zip l,[nY]]]:=[Fi,[cJ,G]]
end
section
variable{T:Tb}{Z:Ir.bL}{E:XK}{X:Cx}
def rn(h:PI X B e t)(q:∀σ H R,t' σ H R->t σ H R):PI X B e t':=λpins s σ H R I z=>h _ s _ H R I [u1]
def aa6(U:PE X l tl):PI X i l (λσ H R=>tl σ H λx z=>(∃a,[gy,∃G,bp X.K z a G,R (B' X.K a) z])\/∃a,[gy,∃G,cw X.K z a G,R (FC X.K a) z]):=by rw[aV,R,h,[cN,[yT],v,L,x,z,j,d,u]];rcases u with⟨a,e,⟨G,m⟩,q⟩|⟨a,e,⟨G,m⟩,q⟩;{subst e;cases d;rw[ag,az,W,p,B,j.list m];rw[aj,sf [ky] ?_,#[L.heap.objs.size,[[ga]],_,_,z,Y,j.kept (t':=L.toks) [rh],JZ a _,[mu],[fI],q]];have e:b=[ga]:=[f];rw[bf,e,j.jC (by simp) (j.aO.fresh (by simp))]};{subst e;cases d;rw[ag,az,W,p,B,j.tuple m];rw[aj,ajP [aB,L.heap.IsTuple a _,p] ?_,#[L.heap.objs.size,[[ga]],_,_,z,Y,j.kept [rh],Yw a _,[mu],[fI],q]];rw[cP,j.jC [f] (j.aO.fresh (by simp))]}
def GM{a:V->[dL]}(h:j4 T X.K Z E k [C] σ H R)(L:∀d r F H S v,([hm])->([sv,d])->([jT,X.K,Ir.eA k [d] S,λl j q z=>([hg])->∀J,jW T X.K J j q l->R J z])->a v H):[nR,C,a]:=by rw[cn];(have e:(do [lI,←Ir.cD Z [C] env])=(do let x←[bt,C];[lI,[x]]):=by funext S;show [mJ,Ir.M.bind _ _,S]=[qA,S];unfold Ir.M.bind Ir.M.pure;rw[bx,[zs]]);rw[af,e,h,[jS,[f]]]
def ac3(O:[d']):[ka,i,e,0,[a]]:=[oo,aa6 O.pe,GM h λd r F H S v c I g=>by cases d with|lst l=>rw[ch,m,I,[J,#[p,Y,#[B,[cJ,[fk,m]]],al.pure c g U _ (aeZ m q)]]]|tup l=>rw[ch,m,I,[aC,#[p,Y,#[B,[jy,m]],al.pure (a:=l) c g U _ (W9 m q)]]]|_=>rw[aN]]
def Y4(q:[d']):[ka,B,e,7,[a]]:=[oo,agV q.pe,GM h λd r F H S v c m g=>by cases d with|str s=>rw[aG,U,g,al.ite [wP],#[_,m.fZ,[uL,ace s]]]|_=>rw[aN]]
def wO(h:j4 T X.K Z E k l σ H R)(q:∀G r F H S B,([hm])->aY T X.K r F G B->([jT,X.K,Ir.eA k G S,λG j x e=>[go]<=lim->∀J,jW T X.K J j x G->R J e])->a B H):ib T X.K Z E l σ H a:=by rw[cn];exact [jS,[f]]
def Y7(e:[An])(O:[zc])(J:[id,[a]])(x:[pz,a,a]):[ka,I,[kN,"range",[a]],1,l]:=[oo,adF e O J x,wO h λG r F H S B c q g=>by match G,q,g with|[d],q,g=>(cases d with|int n=>rw[c3];rw[ac,v,ws,rfl,m,u,q.dO];rw[u.fY,m.ci];rw[ae,z,lim<[km],[ah],#[n,Y,U.1,[g],al.pure c g [f] _ ?_]];rw[cd,Pd (T:=T) (K:=X.K) (r:=r) (F:=F) 0 [fu]]|_=>rw[aN])|[],q,g=>rw[aN]|[_,_],q,g=>rw[aN]|[om],q,g=>rw[aN]]
def XJ(O:[An])(W:[zc])(J:[id,[ib]])(x:[Ji])(z:[q']):[ka,I,[kN,"range",[ib]],2,l]:=[oo,adI O W J x z,wO h λs r F H S B c q g=>by match s,q,g with|[d,e],q,g=>(cases d with|int G=>(cases e with|int n=>rw[c3];rw[ac,v,ws,rfl,m,u,q.dO];rw[ac,C,i,rfl,j,L,u.dO];rw[L.fY,m.ci,j.ci];exact#[G,n,Y,#[U.1.1,U.1.2,[ae,U].1,[ae,U].2],[uL,Pd G _]]|_=>rw[aN])|_=>rw[aN])|[],q,g=>rw[aN]|[_],q,g=>rw[aN]|[om],q,g=>rw[aN]]
def XZ(z:[y9])(W:[yu])(J:[id,[a]])(x:[pz,a,a]):[ka,.Tuple I f t,[kN,"enumerate",[a]],3,l]:=[oo,WA z W J x,[Fx,afN L O]]
end
def gT(K:aQ):([aj])->TG|[i]=>lx i|[i,j]=>MW K 2 (EK (lx i) (EK (lx j) M'))|_=>λ_ _ _ _=>False
section
variable{T:Tb}{K:aQ}{r:List ai}{F H:Hp}{S:aj}
def cJ.set(h:[nE,e])(I:[cL]):cJ T K r F H [oj,v] [qe] O:=by refine [B1,h.len,m,u,B,L];{rw[aJ,i=j];{subst q;rw[D,z,i<e.length];{rw[rZ z]at m;rw[aq,rZ [q,h.len,z],u,m];rw[aT,u,#[v,Y,I]]};rw[a']};{rw[gk q]at m u;exact h.at_ j s x m u}};{rw[bp,a,[oc,C,D,[qe],[bl,C],[cb,e,[bl,C]]],[HG],h.inj j k _ _ (a j _ m) (a k _ u) L]}
def cJ.b4(h:[nE,e]):∀t,cJ T K r F H [qJ] [vQ] O|[]=>h|i::t=>by have U:=cJ.b4 h t;unfold L2.b4 Ir.b4;refine [B1,U.len,m,u,d,L];{rw[aJ,i=j];{subst q;rw[D,z,i<[Q,[vQ]]];{rw[df,rZ z,m,True.intro]};rw[a']};{rw[gk q]at m u;exact U.at_ j s x m u}};{rw[bp,a,[oc,C,D,[vQ].set i [V],[bl,C],[cb,[vQ],[bl,C]]],[HG],U.inj j k _ _ (a j _ m) (a k _ u) L]}
inductive xG(σ:L2.St):([aj])->L2.St->[P]|one(i:Nat)(v:V):xG σ [i] [oj,v]|two(i j:Nat)(v w:V):xG σ [i,j] ([oj,v].set j (aa w))
def PQ(c:[bz])(h:[nE,e])(I:[h2,d,x])(J:Ir.gc e t d=aa C)(q:∀G,cJ T K r F H G C O->xG σ t G->Q G H):gT K t x σ H Q:=by match t,J with|[],J=>cases J|[i],J=>rw[aT,J,q _ (h.set I) (.one i x)]|[i,j],J=>(cases d with|tup l=>(match l,J with|[y,z],J=>cases J;obtain⟨a,B,rfl,L,_,U⟩:=I;rw[ac,v,ws,rfl,m,u,U.dO];rw[ac,w,us,rfl,f,W,u.dO];rw[af,W.fY,L,#[a,[v,w],Y,[jy,L],Y,v,[w],Y,w,[],Y,Y,q _ ((h.set m).set f) (.two i j v w)]]|[],J=>cases J|[_],J=>cases J|[om],J=>cases J)|_=>cases J)|[om],J=>cases J
def yt(σ:L2.St)(j:Nat):∀t,[qJ][j]?=[A,j∈t/\j<[hk],aa ag,σ[j]?]|[]=>by rfl|i::t=>by unfold L2.b4;rw[aJ,i=j];{subst q;rw[D,z,i<[hk]];{rw[rZ [q,qZ,z],aJ [f]]};{rw[mx ([eH,qZ]),[nz],mx [g]]}};{rw[gk q,(yt _ j t)];grind}
def A6(h:i∈t):L2.b4 (σ.set i y) t=[qJ]:=by apply mw;intro j;rw[yt,yt];grind
def Gz(σ:L2.St)(t:[h]):L2.b4 [qJ] t=[qJ]:=by apply mw;intro j;rw[yt,qZ,yt];grind
def xG.U1(h:xG [qJ] t B):L2.b4 B t=[qJ]:=by cases h with|one i v=>rw[A6 (by simp),Gz]|two i j v w=>rw[A6 (by simp),A6 (by simp),Gz]
end
def bB.put(a:bB j Q z r F H)(n:z p=ag):bB j Q z r F [e0,o]:=by refine#[λb C e nb=>?_,a.fr,a.nf,a.pre,a.nr,λb e=>?_];{rw[Y,[dw],a.keep b C e nb]};{rw[cT,b,p,a.fL b e]}
def EF:XK:=[ED]
def f' (Z : Ir.bL) (I : Ex) (t : List Nat) (a : List Ex) (w : Ir.Env) (d : D) : Ir.M (Option D) := do
 let e ← Ir.bD (Ir.gc w t d)
 match a with
 | [] => do Ir.M.pure (aa (← Ir.ah Z I e))
 | c :: _ => do
  let b ← Ir.eP (← Ir.cg (Ir.ah Z c e))
  if b = ae then do Ir.M.pure (aa (← Ir.ah Z I e)) else Ir.M.pure ag
def aeQ:Ir.ah Z [yC] e=(do let B←[lI,←Ir.cD Z it e];let l←Ir.eJ (f' Z I t d [vQ]) B;[bZ,[aV]]):=[bx,d]
def qT(T:Tb)(K:aQ)(Z:Ir.bL):([iR])->TT|[]=>u9|c::_=>ky T K Z EF c
section
variable{T:Tb}{Z:Ir.bL}{E:XK}{K:aQ}
inductive mR(T:Tb)(K:aQ)(H0:Hp)(Q:VK):(D->([ba])->Hp->[dL])->[P]|fz:mR T K H0 Q λd r' F' H'=>[tN,K,r',F',H']|ow:mR T K H0 Q λd r' F' H'=>∀p,H0 p=ag->F' p=ag->p∉r'->gh T K r' F' H' p d->Q [dp] H'
def fB(T:Tb)(K:aQ)(Z:Ir.bL)(E:XK)(e:Ex):TE:=λσ H Q=>∃env O S r F a,mR T K H Q a/\[bz]/\[iH]/\[jT,K,[qg,e],a]
def tFr(T:Tb)(K:aQ)(Z:Ir.bL)(E:XK)(e:Ex):TE:=[ER,[qg,e],∀p,([gV])->x p=ag->p∉j->gh T K j x q p d->Q [dp] q]
def w3(h:cU T K Z E e σ H Q):fB T K Z E e σ H Q:=[Jv,.fz]
def E8(h:tFr T K Z E e σ H Q):fB T K Z E e σ H Q:=[Jv,.ow]
def mR.lst(v:mR T K t Q X)(h:∀i s W,bB N O d i s W->a_ T K i s W I->X [aV] i s W)(G:t p=ag)(n1:d p=ag)(s1:Le O d)(a:bB N O d L x m)(c:a_ T K L x m I)(nr:p∉L)(j:x p=ag)(u:m p=[ln,B])(U:[hg])(f:aY T K L x l B):Q [dp] m:=by(have g:O p=ag:=by cases q:O p with|none=>rfl|some C=>grind);cases v with|ow=>exact h _ _ _ a c p G j nr #[B,u,U,f]|fz=>rw[K,A,bB N O d L (upd x p [ax,B]) m,[F3],y,a_ T K L (upd x p [ax,B]) m I,[FP,k,P,[dB,[hh,[i_,z,j,e],e]],JR u,u]];exact h _ _ _ A y _ (.KI j U f)
def al.xQ(O:mR T K I Q a)(c:[bz])(h:[jT,K,[s3,[ic,l]],a])(U:[hg])(q:[co])(G:I p=ag)(n:[gV]):Q [dp] [e0,[ax,B]]:=O.lst h G n c.sub [bl,n] [xn] (c.hx n) [rl] bW U q
def DS(h:fB T K Z E (.comp I t k it d_) σ H Q):sI (j4 T K Z E k it) (gT K t) (qT T K Z d_) (cU T K Z E I) t σ H Q:=by obtain⟨env,hX,S,r,F,R3,nw,c,P,h⟩:=h;rw[aeQ]at h;rw[aI,e0,(do let ds←[lI,←Ir.cD Z it env];let l←[uo,ds];[bZ,[ic,l]])=(do let ds←(do [lI,←Ir.cD Z it env]);let l←[uo,ds];[bZ,[ic,l]]),by funext S;rw[bL,Ir.M.bind [te,it] (λx=>Ir.M.bind [lI,x] _) S=[mJ,Ir.M.bind [te,it] λx=>[lI,x],S]];rw[bx,Ir.cD Z it env S],e0,h];refine [ip,hX,[to,λds r1 F1 H1#[S1,c1,a1,m]U qj hJ=>?_]];intro A nA;generalize Si:(do let l←[uo,ds];[bZ,[ic,l]]) S1=X at m;rw[bq,λi G H'=>∃r F S N B,G=[hX]-i/\i<=[hX]/\[AA,H',H' A,N,[et],i],#[ds.length,r1,F1,S1,[],[],by simp,[f6],(bB.refl).put nA,c1.own (c1.hx nA) (c1.hW nA),c1.hx nA,c1.hW nA,bW,[aA],[f6],[aD,Si]]];rintro i G H2⟨r2,F2,S2,N,B,rfl,hi,a2,c2,nr,j,hA,vV,gF,u⟩;rw[R,y1,y2,[K7]];rw[aJ,i=[hX]];{subst q;refine [J,#[y1,?_]];rw[Jl]at u;rw[aI,u,Ir.R.ok [ic,N++[]] S2=X,u,iu,u];rw[aQ,u,m];exact nw.lst m (a1.fL A nA) nA c1.sub a2 c2 nr j hA [g] vV};{rw[eC,i<[hX],ds.drop i=d::[sO]];rw[K,step,∀(o:[be,D])(S3:aj),[r4]=[bc,o,S3]->(do let l←[uo,[sO]];[bZ,[ic,(N++o.toList)++l]]) S3=X,λo S3 e=>by rw[<-u];rw[bL,[mJ,Ir.eJ _ _,S3]=[AI]];rw[e];rw[bt];cases Ir.eJ (f' Z I t d_ [pV]) [sO] S3 with|ok l s=>cases o<;>simp[Ir.M.pure]|ex _ _ _=>rfl|bad=>rfl,stop,∀(f:Nat)(xs:[ak])(S3:aj),[r4]=.ex f xs S3->X=.ex f xs S3,λf xs S3 e=>by rw[<-u];rw[bL,[AI]=_];rw[e]];rw[ae,w,[r4]≠[aW],λe=>by(have:X=[aW]:=by rw[<-u];rw[bL,[AI]=_];rw[e]);rw[af,this,m,m],[aC,#[go,λH'=>∃r F S N B,[Y]<=[hX]/\[AA,H',H' A,N,[et],[Y]],λH'#[r,F,S,N,B,z1,z2,z3,z4,z5,z6,z7,z8,z9]=>#[[hX]-[Y],[g],r,F,S,N,B,Y,z1,z2,z3,z4,z5,z6,z7,z8,z9],λx H3 L=>?_]]];rw[e6];rw[ai,Ct,a2.trans a3,Sj,F3 A=ag,by cases q:F3 A with|none=>rfl|some o=>rcases l4 A o q with z|z|⟨_,e1,z⟩;{rw[aq,j,z,z]};{rw[aq,z,hA,hA]};{rw[gE,hA,e1,z]}];rw[V,O,n _ _ hA,Sk,[m8,[cY],l1,vV]];cases J:Ir.gc [pV] t d with|none=>exfalso;apply w;unfold f';rw[a8,J]|some e2=>refine PQ c3 (([fy,a1].b4 t).step Ct) v3 J λCh Cm bd=>#[bd.U1,?_];(have fj:∀(r5:[ba])(F5 H5:Hp)(S5:aj),bB r2 F3 H3 r5 F5 H5->a_ T K r5 F5 H5 S5->(∀y a,[qG,S5]=[bc,y,a]->[r4]=[bc,aa y,a])->(∀f xs a,[qG,S5]=.ex f xs a->[r4]=.ex f xs a)->([qG,S5]=[aW]->[r4]=[aW])->cU T K Z E I Ch H5 λy H4=>∃N,H4 A=[ln,N]/\[et]<bS/\(∃r F S HR B,[Y]<=[hX]/\[AA,upd H4 A [W,N++[y]],(upd H4 A [W,N++[y]]) A,HR,HR.length,[Y]]):=by intro r5 F5 H5 S5 a5 c5 k1 k2 k3;refine#[e2,hX,S5,r5,F5,c5,Cm.step a5,?_];cases ev:[qG,S5]with|ok y a=>intro r6 F6 H6 a6 c6 v hv;rw[V,v4,a5.trans a6,Sn,[sV,v4.nr A z,nr,λz=>[aq,z,O,O]]];rw[aA,So,F6 A=ag,by cases q:F6 A with|none=>rfl|some o=>rcases v4.nf A o q with z|z|⟨_,e1,z,_⟩;{rw[aq,Sj,z,z]};{rw[aq,z,O,O]};{rw[gE,O,e1,z]},hA6,v4.kp O nr [rX]];refine#[B,hA6,by rw[vV.length,<-me];omega,r6,F6,a,N++[y],B++[v],C,?_,c6.own Sn So,Sn,So,bW,[m8,v4.pre,v4.fr,Sk].append (.cons hv [aA]),by rw[cO];rw[bC],?_];rw[av,(Ct.trans v4).put nA,step (aa y) a (k1 y a ev)]|ex f xs a=>intro r6 F6 H6 W a6 c6 L;rw[af,stop f xs a (k2 f xs a ev),m,m r6 F6 H6 W [bG,Ct.trans a5,a6] c6 L]|bad=>exact w (k3 ev));match d_,J,step,stop,w,fj,u,Si with|[],J,step,stop,w,fj,_,_=>rw[[iM,qT T K Z []=u9]];unfold u9;dsimp only;rw[aJ Y];rw[bp,e5,∀S,f' Z I t [] [pV] d S=[Le,S],λS=>by rw[dU,f',J];rw[bL,[mJ,Ir.ah Z I e2,S]=_];rw[bx,[qG,S]],fj r2 F3 H3 S2 .refl c3 (λy a e=>by rw[e5,e]) (λf xs a e=>by rw[e5,e]) (λe=>by rw[e5,e])]|g::gs,J,step,stop,w,fj,_,_=>rw[al,e5,∀S,f' Z I t (g::gs) [pV] d S=[gg,Ir.ah Z g e2 S,[bc,[bh,ae],S'],[Le,S'],[bc,[bh,af],S'],[bc,ag,S'],[aW]],λS=>by rw[dU,f',J];show [mJ,Ir.cg (Ir.ah Z g e2),S]=_;unfold Ir.M.bind Ir.cg;cases Ir.ah Z g e2 S with|ok b S'=>(cases b with|bl b=>(cases b with|true=>rw[bL,[mJ,Ir.ah Z I e2,S']=_];cases hq:[qG,S']<;>simp only[hq]<;>rfl|false=>rfl)|_=>rfl)|ex _ _ _=>rfl|bad=>rfl,[iM,qT T K Z (g::gs)=ky T K Z EF g]];refine#[e2,hX,S2,r2,F3,c3,Cm,?_];cases ev:Ir.ah Z g e2 S2 with|ok b s=>(intro r4 p H4 a4 c4;cases b with|bl b=>(rw[bq,b,Y];cases b with|true=>rw[Y,aJ Y,fj r4 p H4 s a4 c4 (λy a e=>by rw[e5,ev];rw[ab,e]) (λf xs a e=>by rw[e5,ev];rw[ab,e]) (λe=>by rw[e5,ev];rw[ab,e])]|false=>rw[aw iN];rw[ae,nF4,p A=ag,by cases q:p A with|none=>rfl|some o=>rcases a4.nf A o q with z|z|⟨_,e1,z,_⟩;{rw[aq,Sj,z,z]};{rw[aq,z,O,O]};{rw[gE,O,e1,z]},#[r4,p,s,N,B,C,Ct.trans a4,c4,[sV,a4.nr A z,nr,λz=>[aq,z,O,O]],nF4,a4.kp O nr [rX],[m8,a4.pre,a4.fr,Sk],[g],?_]];have:=step ag s (by rw[e5,ev]);rw[aD,this])|_=>rw[bH,[DE]])|ex f xs s=>rw[bH,[DE]]|bad=>rw[bH,[DE]]}
end
section
variable{T:Tb}{Z:Ir.bL}{E:XK}{X:Cx}
def ae0(U:[hg])(h:[id,a]):[l2,.List a pos,[aV]]:=b9 (NN h) λσ H Q#[env,O,S,r,F,d,G,c,P,h]=>[bp,e,[b9,[aV]]=(do [bZ,[W,←Ir.cD Z l env]]),rfl,[A5,i,al.xQ G I m [f] q (z.fL p n) n]]
def RF(J:∀H0 a d r F H S v Q,mR T X.K H0 Q a->(∀p,([gV])->H0 p=ag)->[Lq,[jT,X.K,Ir.dn o d S,a]])(h:fB T X.K Z E (.b1 o l) σ H Q):[CD,l,tp]:=by obtain⟨env,O,S,r,F,a,I,c,P,h⟩:=h;rw[ae,e,[bt,.b1 o _]=(do Ir.dn o (←Ir.bH (←Ir.rd l _ _))),rfl,[eI,L,C,u,j,B,z,q]];rw[bu,d,hd,g,al.kv B q m,J H _ d _ _ _ _ v Q I z.fL B hd g]
def Xj(b:Bt X x [je])(I:[dS])(h:[d']):[l2,[fC,[e]],.b1 [lX] a]:=b9 [xq,RY,h.pr,I] λσ H Q z=>RF (λH0 C d r F H S v Q G W c hd g=>[FN,al.xQ G c g U q (W o n) n]) z
def afK(i:[q'])(W:[eF,a,"split"])(G:[hM,f.endLine])(L:[eb,o])(J:[ap,b,A]):[l2,[em,a,"split",f,[b],pos],.b2 [nq] o A]:=b9 (M0 L.pr J.pe i W G) λσ H Q#[env,O,S,r,F,R3,w,c,P,h]=>[Fm,F2,S2,l,al.xQ w N g ?_ (aY.Ei _) ((e.trans l).fL p n) n]
def agp:[l2,[yL],.iS b]:=by cases b with|false=>(rw[ae,e,[yp,af],[bJ],b9 P0 [Bs,a]];rw[e]at h;cases G with|fz=>rw[d8,[xe],[xD]]|ow=>exact [Hi])|true=>rw[ae,e,[yp,ae],[bJ],b9 OL [Bs,a]];cases G with|fz=>refine [xe];rw[h5,aG,[xD]]|ow=>exact [Hi]
def fc(H0:Hp)(e:Ir.Env)(O:Nat->ai):[P]:=[lU,i,d,D,[aY,e,[h']],H0 (O i)=ag]
def gE(T:Tb)(K:aQ)(H0:Hp)(N:lS):Ir.Flow->([ba])->Hp->[dL]:=λf r F H=>match f with|.nx e=>∀σ O,([nE,e])->fc H0 e O->N.nx σ H|.bk e=>∀σ O,([nE,e])->fc H0 e O->N.bk σ H|[po]=>∀v,([cL])->N.rt v H
def Mq(T:Tb)(K:aQ)(E:XK)(G:Ir.Env->[vn]):TS:=λN σ H=>∃r0 F0 H0 env O S r F,[n3]/\[bz]/\[iH]/\[s0]/\[k4,K,r0,F0,H0,G env S]
def dW(T:Tb)(K:aQ)(Z:Ir.bL)(E:XK)(s:Ir.Sm):TS:=Mq T K E (Ir.bE Z s)
def l7(T:Tb)(K:aQ)(Z:Ir.bL)(E:XK)(l:List Ir.Sm):TS:=Mq T K E (Ir.bh Z l)
def eL(h:PS X s t)(q:[Lu]):PS X s t':=[I7]
def RM(h:fQ X s t)(q:[Lu]):fQ X s t':=[I7]
def MI:[qd,[],[]]:=[I1,age,[Dp]]
def Qr(m:PS X s [rB,G])(u:[qd,C,l]):[qd,s::C,G::l]:=[I1,adm m u,by refine#[r0,F0,H0,env,O,S,r,F,a,c,P,A,?_];rw[aI,e,Ir.bh Z (G::l) env S=(match [qi,G]with|[dz,z,p]=>Ir.bh Z l z p|[bc,f,p]=>[bc,f,p]|[iU,p]=>[iU,p]|[aW]=>[aW]),by rw[bL,[qA,S]=_];cases Ir.bE Z _ _ S with|ok f p=>rw[bx,f]|ex _ _ _=>rfl|bad=>rfl,e,h];cases q:Ir.bE Z _ _ S with|ok f p=>(rw[q]at h;cases f with|nx z=>intro J Q L I i U j W x;exact#[r0,F0,H0,z,j,p,J,Q,I,i,W,x,h]|bk z=>exact h|rt d=>exact h)|ex _ _ _=>rw[af,q,h,h]|bad=>rw[af,q,h,h]]
def f_{m:D->Ir.M U}(a:[n3])(c:[hm])(P:[xZ])(h:[J0])(k:∀d j Q z p v,[Hh,aG T X.K j Q d v,([k4,X.K,r0,F0,H0,f d p])->G v z]):[nR,J,G]:=by rw[fl];cases q:[zs]with|ok d p=>rw[af,q,h,λj Q z L I v u=>k d _ _ _ _ v L [iJ,L] I [fy,L] u h]|ex c B p=>rw[af,q,h,λj Q z W L I x=>h _ _ _ _ [iJ,L] I x]|bad=>rw[b1]
def fc.set(h:fc H0 e O):fc H0 [qe] O:=λj C z=>by rw[aJ,i=j];rw[ay];{rw[af,gk q,z,h j _ z]}
def Xe(hN:X.N.Nodup)(j:[ch])(L:[o4])(f:[j4,e,aa [dx]])(m:[l1])(W:∀G,Ir.jm J G=G)(U:[tv]):[ei,.Assign [[dx]] e pos,[cD,i,J]]:=[du,yA hN j L U.pe f m,r0,F0,H0,O,c,by have z:[J',J]:=rfl;rw[z,W]at h;exact f_ (m:=[l']) a c P h λd l Q n u v C I B s q g=>[KB]]
def afg(x:[j4,e,ag])(q:[tv]):[ei,.Expr e pos,.ex J]:=[du,wU q.pe x,r0,F0,H0,O,c,[bp,u,[hQ,.ex J]=(do let _←Ir.ah Z _ env;[gf]),rfl,f_ (m:=[l']) a c P h λd j Q L p v z I B s m g=>g _ _ _ I B _ O s A]]
def MY(a:[n3])(c:[hm])(P:[xZ])(h:[J0])(k:∀d j Q z p,[Hh,[k4,X.K,r0,F0,H0,f d p],∃b,d=[jR]/\G b z]):ky T X.K Z E J σ H G:=by rw[fl];rw[er,Q,z,L]
def adK(L:[ap,t,t'])(x:[qd,a,p])(J:[qd,b,l]):[ei,.If t a b pos,.iff t' p l]:=[du,aaf L.pt x J,r0,F0,H0,O,c,by rw[ae,m,[hQ,.iff _ _ _]=(do let k←Ir.eP (←Ir.ah Z t' _);if k=ae then Ir.bh Z p _ else Ir.bh Z l env),rfl,MY a c P h λd j q u B z I e s g=>?_];rw[aL,k,rfl,g2,g.kh,#[k,Y,?_]];cases k with|true=>exact [IX]|false=>exact [IX]]
def Wb:[ei,.Break pos,.brk]:=[du,afG,r0,F0,H0,O,c,[Dp]]
def agd:[ei,.Pass pos,.ex [tG]]:=[du,aft,r0,F0,H0,O,c,[Dp]]
section
variable{K:aQ}{r0 r:List ai}{F0 H0 F H:Hp}{S:aj}{σ:L2.St}{env:Ir.Env}{O:Nat->ai}
noncomputable def lK(P:[gK])(env:Ir.Env)(O:Nat->ai)(F H:Hp):Hp:=open Classical inλa=>[A,∃i d,P i=ae/\[ot,d]/\O i=a,H a,F a]
def oy(P:[gK])(env:Ir.Env):Ir.Env:=env.mapIdx λi s=>[ao,P i,s.cb,s]
def Fh(P:[gK])(c:[bz]):Le F (lK P env O F H):=λa o e=>by unfold lK;split;rw[bU,c.sub a o e]
def ab5(N:P i=ae)(h:[ot,d]):lK P env O F H (O i)=H (O i):=[dU,lK,aJ [f]]
def L'(G:[gK])(c:[bz])(P:[iH]):[pl,lK G env O F H,H]:=by refine#[c.len,c.nd,[sE],[Ac],λn x a m u=>[kB,a,m,u].step [f] (Fh G c) Y,c.tab.fr (by rw[dU,lK,aw];{exact c.tab.1};{rintro⟨i,d,_,q,z⟩;rw[bp,U,i<[hk],[a_,P.len],c.tab.ne [eT,[y4,U]].ord (by rw[z])]})];{rw[aE,lK,e];rw[av,e,c.sub a o e]};{unfold lK;split;{rw[aB,z];obtain⟨i,d,_,q,rfl⟩:=z;rw[bp,U,i<[hk],[q,P.len,[dA,q]],[c8,h,[cP,[y4,U]]]]};{exact c.off a h}}
def K9(P:[gK])(c:[bz])(a:[n3])(A:[s0]):bB r0 F0 H0 r (lK P env O F H) H:=by refine#[a.keep,a.fr.trans (Fh P c),[k2],a.pre,a.nr,a.fL];rw[aE,lK,e];{rw[aB,z];obtain⟨i,d,_,q,rfl⟩:=z;exact [e7,A i d q]};{exact a.nf b o e}
def MN(G:[gK])(c:[bz])(P:[iH]):cJ T K r (lK G env O F H) H σ (oy G env) O:=by rw[ae,a,[lU,i,s,Ir.Slot,[aY,oy G env,s],∃L,[aY,env,L]/\s=[ao,G i,L.cb,L]],λi s e=>by rw[am,oy,e];grind,#[by unfold oy;rw[Y,List.length_mapIdx,P.len],λi s x J p=>?_,λi j d Q J p I=>?_]];{rw[M,L,C,rfl,a i s J];rw[V,q,P.at_ i _ x C p,le,Fh (env:=env) (O:=O) G c];cases L with|un=>split<;>exact True.intro|val d=>rw[M,v,I,z,q];split<;>exact#[v,I,[eQ,[cY],le,z]]|exc B=>split<;>exact q|own d=>rw[ag,I,y,W,z,q];rw[D,N,G i=ae];{rw[aJ N];rw[bq,[dP],I];have w:=ab5 (F:=F) (H:=H) (O:=O) N C;cases d with|lst l=>rw[dE,[m8,[cY],le,U]]|aU l=>rw[dE,cE.mono [cY] le _ _ U]|bY l=>rw[dE,cx.mono [cY] le _ _ U]|_=>exact eu z};{rw[ci,aw N,#[I,?_,W,z.step [cY] le Y]];rw[dU,lK,aw];{exact y};{rintro⟨j,Q,A,g,n⟩;have:=P.inj j i _ d g C n;subst this;rw[a']}}};{rw[aO,L,C,h0,a i _ J,t,h,m,a j _ p];rw[aI,f,∀(b:Bool)(s:Ir.Slot)(d:D),Ir.Slot.own d=[ao,b,s.cb,s]->s=[h'],λb s d e=>by cases b with|true=>cases s<;>cases e|false=>grind,f _ _ _ h0,C];rw[af,f _ _ _ m,h,P.inj i j d _ C h I]}
def Yh(P:[gK])(A:[s0]):fc H0 (oy P env) O:=λi d e=>by rw[am,oy,e];rw[ajQ]at e;cases q:[kv]with|none=>grind|some L=>rw[eM,q,e];rw[D,N,P i=ae];{rw[aJ N]at e;cases L<;>cases e};{exact A i d [f]}
end
def Zg(env:Ir.Env):oy (λ_=>ae) env=env.map Ir.Slot.cb:=by unfold oy;apply mw;simp
def ad0(j:[tv]):[ei,.Return (aa e) pos,[bj,J]]:=[du,EY j.pe,r0,F0,H0,O,c,by rw[aA,m,[qw,.ret _]=(do let d←[b9,J];[gf]),rfl,W,MN (λ_=>ae) c P];rw[af,Zg,W,f_ (m:=[l']) (K9 _ c a A) (L' _ c P) W h λd L Q x p v z I B s q g=>g _ _ _ I B v q]]
def WO(h:[ot,d]):oy (λj=>j==i) env=[o9,[g0]]:=by unfold oy;apply mw;intro j;rw[ajQ];rw[aJ,i=j];{subst q;rw[rZ [f],h];simp[Ir.Slot.cb]};grind
def Za(J:PS X s [rB,G]):PS X s [rB,.fz i G]:=[du,J,r0,F0,H0,O,c,by rw[aI,e,[hQ,.fz i G]=(do let d←[ox];Ir.bE Z _ _),rfl,e,h];cases q:[kv]with|none=>exact [AS]|some sl=>cases sl with|own d=>rw[aI,z,[ox]=[bZ,d],by simp[Ir.dg,q],z,h];rw[V,W,MN (λj=>j==i) c P,x,Yh (λj=>j==i) A];rw[WO q]at W x;exact#[r0,F0,H0,_,O,S,r,_,K9 _ c a A,L' _ c P,W,x,h]|un=>exact [AS]|val d=>exact [AS]|exc d=>rw[bH,show False by(have:[ox]=Ir.bad:=by simp[Ir.dg,q]);rw[af,this,h,h]]]
end
section
variable{T:Tb}{K:aQ}{r r0:List ai}{F F0 H H0:Hp}{S:aj}{σ:L2.St}{env:Ir.Env}{O:Nat->ai}{i:Nat}
def kj{U:[aI]}{l:[gu]}{x y}(h:[cb,l.set i x,y]):(j=i/\y=x/\i<[E])\/(j≠i/\[cb,l,y]):=[f]
def cJ.slot(P:[iH])(h:[aY,env,s]):∃x,[cS,σ]/\tu T K r F H (O i) x s:=[bp,U,i<[hk],[a_,P.len],#[σ[i],cQ _,P.at_ i _ _ h (by simp)]]
def cJ.FH(P:[iH])(W:[ot,C])(v:gh T K r F [Ad] (O i) N):cJ T K r F [Ad] σ [pQ,N] O:=by rw[an,x0,h,A,f0,G,I,P.slot W];refine#[[q,jJ,P.len],λj s x U J=>?_,λj k L db U J g=>?_];{rcases kj U with⟨rfl,rfl,_⟩|⟨ne,U⟩;{rw[df,h,J,#[A,f0,G,v]]};{have q:=P.at_ j s x U J;cases s with|un=>exact True.intro|val d=>exact q|own d=>rw[dG,a,b,c,z,q,#[a,b,c,z.step [cY] [gH] (aW λe=>ne (P.inj j i d _ U W e))]]|exc B=>obtain⟨a,X,p,i',y,t,o,Q,e,m,u⟩:=q;rw[K,na,a≠O i,λe=>by rw[e]at m;cases C with|lst l=>rw[dZ]|aU l=>rw[dZ]|bY l=>rw[dZ]|_=>exact eu I,nd,p≠O i,λe=>by rw[e]at u;rw[dx,C,I,u]];exact#[a,X,p,i',y,t,o,Q,e,[a_,aW na],[a_,aW nd]]}};{have f:[oc,d,D,[pQ,N],[h'],∃w,[cb,env,[bl,w]]]:=[H_,#[C,W],#[d,e]];obtain⟨_,n⟩:=f j _ U;obtain⟨_,q2⟩:=f k _ J;exact P.inj j k _ _ n q2 g}
def fc.FH(A:[s0])(q:[ot,C]):fc H0 [pQ,z] O:=[H_,A j _ q,A j d e]
def sK(a:[n3])(c:[bz])(P:[iH])(A:[s0])(q:[ot,C])(e:gh T K r F [Ad] (O i) d1)(g:[k4,K,r0,F0,H0,[s3,Ir.Flow.nx [pQ,d1]]]):N.nx σ [Ad]:=by rw[an,x0,h,z,f0,G,I,P.slot q];exact g r F _ (a.put (A i _ q)) (c.own G f0 I.ord) _ O (P.FH q e) (A.FH q)
def cJ.Fb(P:[iH])(n:[Ln])(f:F p=ag)(nr:p∉r)(m:[le,p]):cJ T K r F H (σ.set i [eq,p]) [pQ,d] [Mh]:=by refine [B1,P.len,q,z,B,h];{rcases kj q with⟨rfl,rfl,_⟩|⟨ne,q⟩;{rcases kj z with⟨_,rfl,_⟩|⟨ne,_⟩;{rw[bt];exact#[Y,f,nr,m]};{rw[bi,Y,ne]}};{rcases kj z with⟨e,_,_⟩|⟨_,z⟩;rw[ay];{rw[ab,aw ne];exact P.at_ j s x q z}}};{rcases kj q with⟨I,_,_⟩|⟨ne,f1⟩;rw[ay];{rcases kj z with⟨u,_,_⟩|⟨g,f2⟩;{simp[aJ u,aw ne]at h;rw[bi,h,n j _ f1]};{simp[aw ne,aw g]at h;exact P.inj j k _ _ f1 f2 h}}}
def fc.Fb(A:[s0])(q:H0 p=ag):fc H0 [pQ,d] [Mh]:=λj a e=>by rcases kj e with⟨rfl,_,_⟩|⟨ne,e⟩;rw[ay];{simp[aw ne];exact A j _ e}
def cJ.ZD(P:[iH])(m:[gV]):[Ln]:=λj a e q=>by obtain⟨_,_,_,_,_,z⟩:=P.slot e;rw[iQ,o,h,z.some]
def bB.cell(h:a∈r):bB r F H r F [f3,ob]:=by refine#[λb o e nb=>?_,[cY],[yY],[cY],[mt],λb e=>?_];{rw[a_,[dw]]};{rw[aJ,b=a];{subst q;rw[aq,bW,e,e]};{rw[af,aW q,e,e]}}
def a_.cell(c:[bz])(h:[At])(q:lh T K r F [f3,ob] a B):a_ T K r F [f3,ob] [dl,n,B]:=by refine#[[q,jJ,c.len],c.nd,[k2],c.off,λG d b m u=>?_,c.tab.upd (c.ord (cG h))];{rw[Y,aW [i_,z,c.off a (cG h),e],c.sub b o e]};{rcases kj m with⟨rfl,rfl,_⟩|⟨ne,m⟩;rw[ay];{rw[bp,nb,b≠a,λz=>ne ([af,z,u,(v8 [f] c.nd).mp [f]]),(c.rep G _ b m u).step [f] [gH] (aW nb)]}}
def a_.push(c:[bz])(f:F p=ag)(nr:p∉r)(q:lh T K r F H p B):a_ T K (r++[p]) F H (S++[B]):=by refine#[by rw[cO,cO,c.len];rfl,?_,c.sub,λb h=>?_,λn G b m u=>?_,c.tab];{rw[ci,g8,[J4]];grind};{rw[sw,h,c.off b h]};{rw[bZ,PY u,u,rfl,rfl];{(have z:n<[ab]:=by rw[<-c.len];grind);rw[af,lI z,m,[kB,b,m,u].step (sG r p) [gH] Y]};{rw[c.len,[zx],Jy]at m;rw[aT,m,q.step (sG r b) [gH] Y]}}
def bB.push(a:[n3])(h:H0 p=ag):bB r0 F0 H0 (r++[p]) F H:=#[a.keep,a.fr,a.nf,λn b e=>sG r p n b (a.pre n b e),λb J=>(cs.mp J).elim (a.nr b) [f],a.fL]
def gh.cell(h:[le,p])(e:Ir.iI d S=[bc,I,B]):lh T K r F H p I/\B=S:=by cases d with|lst l=>rw[aT,e,#[h,Y]]|aU l=>rw[aT,e,#[h,Y]]|_=>rw[cI]
end
section
variable{T:Tb}{K:aQ}{r:List ai}{F H:Hp}{S:aj}{E:XK}{β:Type}{Z:Ir.bL}
def al.Ri{f:D->Ir.M β}(a:[hP,[k8]]):∃d,[aY,env,[g0]]/\[ho,d]:=by cases q:[kv]with|none=>rw[c6,[k8]=Ir.bad,Ir.ah];rw[ax,a]|some s=>cases s with|val d=>(have e:[k8]=[bZ,d]:=by simp[Ir.ah,q]);rw[af,e,a,#[d,Y,a]]|_=>rw[aI,e,[k8]=Ir.bad,by simp[Ir.ah,q],e,a];rw[ax,a]
def al.uW{f:D->Ir.M β}(a:[hP,[ox]]):∃d,[ot,d]/\[ho,d]:=by cases q:[kv]with|none=>rw[c6,[ox]=Ir.bad,Ir.dg];rw[ax,a]|some s=>cases s with|own d=>(have e:[ox]=[bZ,d]:=by simp[Ir.dg,q]);rw[af,e,a,#[d,Y,a]]|_=>rw[aI,e,[ox]=Ir.bad,by simp[Ir.dg,q],e,a];rw[ax,a]
def al.tW{f:([ak])->Ir.M β}(a:[hP,Ir.fV d]):∃l,d=[aV]/\[ho,l]:=by cases d with|lst i=>exact#[i,Y,a]|_=>rw[ax,a]
def al.vh{f:([rr])->Ir.M β}(a:[hP,Ir.fR d]):∃n c,d=[m,n]/\[aQ,S,n,c]/\[ho,(n,c)]:=by cases d with|ref n=>(rw[c',Ir.fR [m,n],Ir.fR];cases q:S[n]? with|none=>rw[aH,q,a];rw[ax,a]|some c=>grind)|_=>rw[ax,a]
def al.Am{f:Unit->Ir.M β}(a:[hP,Ir.ti b]):b=ae/\[ho,()]:=by cases b with|true=>rw[aS,Y,a]|false=>rw[ax,a]
end
section
variable{T:Tb}{K:aQ}{r:List ai}{F H:Hp}
def dA.put(inj:∀f g,[kG]=T.eZ g->f=g)(e:[cL]):∀{l}{fs},([r'])->dA T K r F (Ir.dV l f d) (iE [kG] v fs)|[],fs,h=>[bf,h,#[v,[],Y,e,by rfl]]|[fY,x],fs,h=>by rw[ac,w,ws,rfl,W,L,h];unfold Ir.dV iE;rw[aJ,k=f];{rw[b8,dA]};{rw[a3,aw q,[nz],#[w,_,Y,W,dA.put inj e L]]}
def dA.length:∀{l}{fs},([r'])->[tr]=[E]|[],fs,h=>[fn,dA]|[fY,x],fs,h=>by rw[ac,w,ws,rfl,W,q,h];rw[b7,b7,dA.length q]
def cE.length:[hS,[lg,B],[br]=[E]]|[],fs,h=>[fn,cE]|[fY,x],fs,h=>by obtain⟨j,w,ws,rfl,_,W,q⟩:=h;rw[b7,b7,cE.length q]
def cx.length:[hS,[lm,B],[br]=[E]]|[],fs,h=>[fn,cx]|[fY,x],fs,h=>by obtain⟨j,w,ws,rfl,_,W,q⟩:=h;rw[b7,b7,cx.length q]
def cE.any(L:gW x=aa j):[hS,[lg,B],[JB]]|[],B,h=>[fn,cE]|[fY,d],B,h=>by obtain⟨i,v,ws,rfl,e,m,q⟩:=h;rw[n3,n3,cE.any L q,AV e L]
def cx.any(L:mL x=aa j):[hS,[lm,B],[JB]]|[],B,h=>[fn,cx]|[fY,d],B,h=>by obtain⟨i,v,ws,rfl,e,m,q⟩:=h;rw[n3,n3,cx.any L q,Eo e L]
def cE.map(L:gW x=aa j)(m:[cL]):[hS,[lg,B],cE T K r F [aS,[rU,x,d]] [Ku]]|[],B,h=>by subst h;rfl|[fY,a],B,h=>by obtain⟨i,w,ws,rfl,e,W,O⟩:=h;rw[bT,bT];rw[V,b,AV e L,u,cE.map L m O];rw[aJ,i=j];{rw[b8,cE]};{rw[b8,cE]}
def cx.map(L:mL x=aa j)(m:[cL]):[hS,[lm,B],cx T K r F [aS,[rU,x,d]] [Ku]]|[],B,h=>by subst h;rfl|[fY,a],B,h=>by obtain⟨i,w,ws,rfl,e,W,O⟩:=h;rw[bT,bT];rw[V,b,Eo e L,u,cx.map L m O];rw[aJ,i=j];{rw[uK q]at b;simp[b,aJ q];rw[b8,cx]};{rw[b8,cx]}
def cE.snoc(L:gW x=aa j)(q:[cL]):[hS,[lg,B],cE T K r F (l++[(x,d)]) (B++[(j,v)])]|[],B,h=>[bf,h,[Me]]|[fY,a],B,h=>by obtain⟨i,w,ws,rfl,e,W,O⟩:=h;exact#[i,w,_,Y,e,W,cE.snoc L q O]
def cx.snoc(L:mL x=aa j)(q:[cL]):[hS,[lm,B],cx T K r F (l++[(x,d)]) (B++[(j,v)])]|[],B,h=>[bf,h,[Me]]|[fY,a],B,h=>by obtain⟨i,w,ws,rfl,e,W,O⟩:=h;exact#[i,w,_,Y,e,W,cx.snoc L q O]
def cE.put(L:gW x=aa j)(q:[cL])(h:[lg,B]):cE T K r F [sG] (jt B j v):=[II]
def cx.put(L:mL x=aa j)(q:[cL])(h:[lm,B]):cx T K r F [sG] (jt B j v):=[II]
def m2(l:[h])(x d:D):[aN,[sG],[E]+1]:=[b8,Ir.cB]
def aY.set(q:[cL]):∀{l}{B}{j},([co])->[eP,l.set j d,B.set j v]|[],B,j,h=>[bM,h.fY]|[gz],B,0,h=>by rw[dl];exact .cons q u|[gz],B,[cT],h=>by rw[dl];exact .cons m (aY.set q u)
def aY.dropLast:[hS,[co],[eP,[v5],B.dropLast]]|[],B,h=>[bM,h.fY]|[x],B,h=>by rw[dl];rw[a8,u.fY]|x::y::l,B,h=>by rw[dl];rw[ac,d,i,rfl,e,q,u.dO];exact .cons m (aY.dropLast [f])
end
section
variable{T:Tb}{Z:Ir.bL}{E:XK}{X:Cx}
inductive qU(E:XK)(e:Ex):XK->[P]|same:(∀m,Ir.jm e m=m)->qU E e E|cg:(∀m,Ir.jm e m=Ir.cg m)->qU E e EF
def Hh{K}(C:qU E i u)(a:bB Q m U r F H)(P:[iH])(h:[k4,K,Q,m,U,(Ir.jm i [bt,i]>>=f) S])(k:∀d j J L p,bB r F H j J L->bB Q m U j J L->a_ T K j J L p->cJ T K j J L σ env O->([k4,K,Q,m,U,f d p])->G d j J L):al T K r F H [qg,i] G u:=by rw[cf,e,[pS,Ir.jm i [bt,i],f],rfl,h];cases C with|same l=>rw[l]at h;rw[er,J,L,z]|cg l=>rw[l]at h;rw[am,Ir.cg,h];cases q:Ir.ah Z i _ S with|ok d p=>rw[af,q,h,λj J L z I=>k d j _ _ _ z [iJ,z] I [fy,z] h]|ex c B p=>rw[b1]|bad=>rw[b1]
def QJ{st}(C:qU E e u)(z:[CU,u]):PS X st [rB,.own i e]:=[du,z,Q,n,U,O,c,by rw[ae,m,[qw,.own i _]=(do let d←Ir.jm _ _;if e.fresh=ae/\Ir.vk d=ae then [gf]else Ir.bad),rfl,E8 [ip,O,Hh C a P h λd x J W j L I B s g p np f nr q=>?_]];obtain⟨_,g⟩:=al.ite g;exact g _ _ _ I B _ _ (s.Fb (P.ZD np) f nr q) (A.Fb (a.fL p np))]
def abF{st}(C:qU E e u)(z:[CU,u]):PS X st [rB,[cD,i,e]]:=[du,z,Q,f,j,O,c,[bp,m,[J',e],rfl,w3 [ip,O,Hh C a P h λd x J W p L I B s g v q=>[KB]]]]
def ad8{st}(x:∀G,Ir.jm e G=G)(W:[CU,E]):PS X st [rB,.mO i e]:=[du,W,Q,t,o,j,c,by rw[aI,U,[qw,.mO i e]=(do let d←Ir.jm e [bt,e];if e.fresh=ae then(do let r←Ir.rl (←Ir.iI d);[bZ,.nx [o9,[b_,r]]])else Ir.bad),[bM,x],U,h];refine E8 [ip,j,Hh (.same x) a P h λd y n v m L I J s g p np f nr l=>?_];obtain⟨_,g⟩:=al.ite g;cases q:Ir.iI d m with|ok C z=>rw[R,O,rfl,l.cell q];rw[aI,u,(do let r←Ir.rl (←Ir.iI d);[u_,[o9,[b_,r]]]) z=[dz,[o9,[c6,z.length]],z++[C]],by rw[bL,Ir.M.bind _ _ _=_];rw[a8,q],u,g];rw[d8,g _ _ _ (I.push (a.fL p np)) (J.push f nr O) _ j ([fy,L.push np].set ?_) A.set,#[p,Y,by rw[<-J.len];simp]]|ex k B z=>cases d<;>cases q|bad=>rw[aI,u,(do let r←Ir.rl (←Ir.iI d);[u_,[o9,[b_,r]]]) m=[aW],by rw[bL,[Mc]];rw[q],u,g];rw[aN]]
def Z1(hN:X.N.Nodup)(z:[ch])(L:[o4])(f:[l1])(U:[tv]):[ei,.AugAssign [dx] .Add e pos,.inc i J]:=[Fy,QT,.inc i _,.nx [o9,[ay,x+y]]]
def afE(hN:X.N.Nodup)(z:[ch])(L:[o4])(f:[l1])(U:[tv]):[ei,.AugAssign [dx] .Sub e pos,.dec i J]:=[Fy,Ln,.dec i _,.nx [o9,[ay,x-y]]]
def Ce(h:[qE]):[AG,q,bb [e] env,env,[e]]:=[bM,fy h]
def lw{r r1:[ba]}{F F1 H H1:Hp}{K}(P:[iH])(h:[ot,d]):[aY,σ,[eq,O i]]/\[le,O i]:=by obtain⟨x,ex,a,_,_,z⟩:=P.slot h;grind
def agZ(v:[ch])(n:[fQ])(hd:[cm])(G:[f_])(q:[qE])(J:[eF,[dx],"append"])(U:[cB,[oX],j.line])(hs:[j4,[zd,[dx],j],ag])(k:[ap,e,C]):[ei,.Expr [zd,[dx],j] pos,.ei i C]:=[du,[CX,TN,ajR,NQ,lC v n hd G,k.pe,q],Q,F0,H0,O,c,by have e1:[hQ,.ei i C]=(do let o←[tj];let l←Ir.fV o;let d←[vp];if [lr]then [qz,[W,l++[d]]]else Ir.bad):=rfl;rw[aO,o,L,m,h.uW,l,rfl,u,m.tW];rw[ac,b,B,hp,U,hr,[kR,P,L]];refine#[_,b,[zk,hp],[tC,u,y]];rw[R,dQ,g2,al.ite g];obtain⟨_,f,mr,_,z⟩:=[kR,s,L];exact#[O i,f,w,Y,Y,mr,[q,z.length,dQ],sK (d1:=D.lst _) I y s A L #[f++[w],bW,[bC],[D',W]] g2]]
def agn(hi:[ch])(hv:[fQ])(hd:[cm])(v:[f_])(L:[qE])(J:[eF,[dx],"extend"])(U:[cB,[oX],k.line])(hs:[j4,[L7],ag])(he:[ap,e,n]):[ei,.Expr [L7] pos,.ej i n]:=[du,[CX,aje,PySem.F.type_list_extend,aeq,lC hi hv hd v,he.pe,L],Q,F0,H0,O,c,by have e1:[hQ,.ej i _]=(do let o←[tj];let l←Ir.fV o;let d←[b9,n];let x←Ir.fV d;if [E]+[eV]<=lim then [qz,[W,l++x]]else Ir.bad):=rfl;rw[aO,o,j,m,h.uW,l,rfl,u,m.tW];rw[ac,es,B,hp,U,hr,[kR,P,j]];refine#[_,es,[zk,hp],[tC,u,C]];rw[M,G,rfl,g1,g.tW];rw[R,y,g2,al.ite g1];obtain⟨_,f,mr,_,z⟩:=[kR,s,j];obtain⟨b,ws,rfl,J,_,q⟩:=W;exact#[O i,b,f,ws,Y,Y,mr,C.sub _ _ J,[a3,z.length,q.length,y],sK (d1:=D.lst _) I C s A j #[f++ws,bW,[q,cO,y],z.append q] g2]]
def aaX(d:[ch])(I:[fQ])(hd:[cm])(W:[f_])(J:[eF,[dx],"pop"])(U:[cB,e.endLine,j.line])(f:[j4,[em,[dx],"pop",e,[],j],ag]):[ei,.Expr [em,[dx],"pop",e,[],j] pos,.rq i]:=[du,wU (adj Jz ajf PySem.F.type_list_pop adq (lC d I hd W) J U) f,Q,n,s,O,c,by have C:[hQ,.rq i]=(do let o←[tj];let l←Ir.fV o;if l.isEmpty=ae then Ir.bad else [qz,[ax,[v5]]]):=rfl;rw[aO,o,z,m,h.uW,l,rfl,u,m.tW];rw[ac,G,B,L,U,q,[kR,P,z]];rw[aC,u];{rw[ax,u]};{rw[ai,g,q.length,pos,0<[E],[f]];exact#[_,G,[zk,L],O i,B,B[[br]-1],Y,Y,L,cQ _,sK (d1:=D.lst _) a c P A z #[B.dropLast,bW,[cx,ajg],q.dropLast] u]}]
def Lo:Nw X (Fp X.K):=by rw[bm,y,C,d,N,h];rw[dL,G,a,J,d,P,[eD,a]];rw[an,j,m,u,g,B,O,zO J];rw[M,w,F,L,r.get u];rw[V,U,r.length,f,ss];have e:EP X _ _ Q w s:=#[z,H,I,L,q];rw[dA,i,W,O,m,wpAny_getItem_list [mQ] h0 [g] ([a']) e,B,[LY,e]]
def B0{K}(h:[co])(m:[vt,k]=aa j)(hd:[cb,l,d]):∃v,L2.oY B k=[cV]/\[cL]/\oa [br] k=aa j:=by have e:oa [br] k=aa j:=[q,h.length,m];rw[bu,v,q,z,h.get hd,#[v,[b8,L2.oY],z,e]]
def WX(hi:[ch])(hv:[fQ])(hd:[cm])(gX:[f_])(hk:[ap,k,k'])(he:[q0])(ha:∀ov O new,[wO,k,ov]):[Lb,.Add,.mQ i k' e']:=[GX,QT,.mQ i _ _,do let o←[tj];let l←Ir.fV o;let kd←[b9,k'];let G←[eh,kd];let j←Ir.bD [vt,G];let xd←Ir.bD l[j]?;let x←[eh,xd];let B←[b9,e'];let y←[eh,B];[qz,[wa,[l,x+y]]]]
def VI(hi:[ch])(hv:[fQ])(hd:[cm])(gX:[f_])(hk:[ap,k,k'])(he:[q0])(ha:∀ov O new,[wO,k,ov]):[Lb,.Sub,.pO i k' e']:=[GX,Ln,.pO i _ _,do let o←[tj];let l←Ir.fV o;let kd←[b9,k'];let G←[eh,kd];let j←Ir.bD [vt,G];let xd←Ir.bD l[j]?;let x←[eh,xd];let B←[b9,e'];let y←[eh,B];[qz,[wa,[l,x-y]]]]
def acM:Ag:=λo i v H Q=>(∃a e,o=[aL]/\p7 H a i v e/\Q e)\/J8 o i v H Q
def RP(hu:[kH]):BN X acM:=by intro pins s σ H o i v x O C Q I ro z J h;rcases h with⟨a,e,rfl,g,q⟩|h;{rw[aT,ro,Yo hu I g z J [f]]};{exact El _ s _ H o i v _ _ C Q I ro z J h}
def FT (X : Cx) (o i : bQ) (pos : et) : Prop := ∀ v, uC (.Subscript o i pos) X.env v = (do
   let x ← iC [v] (aM o X.env)
   let O ← iC [v, x] (aM i X.env)
   pd pos
   iC [v, x, O] (uE x O v)
   zd [v, x, O] [])
def ZE(hu:[kH])(hi:[ch])(hv:[fQ])(hd:[cm])(gX:[f_])(hk:[ap,k,k'])(he:[q0])(ha:FT X [dx] k t)(hs:[C2,[mj,[dx]]])(W:IT [mj,[dx]] e X.env=bx ag)(m:[IN,[dx]]):[zl,[mj,[dx]],.j2 i k' e']:=[du,[K1,[EJ]],Q,F0,H0,O,c,by rw[ae,e1,[hQ,.j2 i _ e']=(do let d←[vp];let o←[tj];let x←[b9,k'];match o with|[b3]=>[A,[jq]/\[lr],[qz,[cc,[sG]]],Ir.bad]|[hs]=>[A,x.jo=ae/\[lr],[qz,.bY [sG]],Ir.bad]|_=>Ir.bad),rfl,[tC,h,c1]];rw[M,o,B,g1,g.uW];obtain⟨es,_⟩:=[kR,s,B];refine#[_,es,f_ (m:=[l']) I c1 s g1 λx r2 F2 H2 S2 C a2 v f G hu g=>?_];obtain⟨_,z⟩:=[kR,G,B];have y:=[eQ,a2.pre,a2.fr,W];cases o with|aU l=>obtain⟨⟨L,U⟩,g2⟩:=[u',g];obtain⟨fS,n,_,q⟩:=z;rw[R,j,u,pz L];rw[ci,pF u hu,[J,#[O i,_,Y,p7.k n [q,q.length,U],[Jp,D.aU _]]]];rw[aM,m2 l x d]|bY l=>obtain⟨⟨L,U⟩,g2⟩:=al.ite [aB,al T X.K _ _ _ _ _ E,g];obtain⟨fS,n,_,q⟩:=z;rw[R,j,u,Ep L];rw[aL,b,rfl,J,DJ u hu,[J,#[O i,_,Y,p7.t n (f.sub _ _ J) [q,q.length,U],[Jp,D.bY _]]]];rw[aM,m2 l x d]|_=>rw[aN]]
def x9{K}(a:bB Q B I r F H)(c:[bz])(P:[iH])(A:fc I env O)(J:[aQ,r,n,b])(q:lh T K r F [cu,b,ob] b c1)(g:[k4,K,Q,B,I,(do Ir.jX n c1;[u_,env]) S]):N.nx σ [cu,b,ob]:=[bp,x,bB r F H r F [cu,b,ob],.cell [f],(g) r F _ [iJ,x] (c.cell J q) _ O [fy,x] A]
def Xb(hu:[kH])(ho:[ap,o,o'])(hk:[ap,k,k'])(he:[q0])(ha:FT X o k t)(hs:[C2,[mj,o]])(W:IT [mj,o] e X.env=bx ag)(m:[IN,o]):[zl,[mj,o],.put o' k' e']:=[du,[K1,ho.pe],Q,F0,H0,O,c,by have e1:[hQ,.put o' _ _]=(do let d←[b9,e'];let G←Ir.ah Z _ env;let x←[b9,k'];let nc←Ir.fR G;match nc.2 with|[b3]=>[A,[jq]/\[lr],do [s8,[cc,[sG]]];[gf],Ir.bad]|[aV]=>(do let xi←[eh,x];let j←Ir.bD [vt,xi];[s8,[wa,d]];[gf])|_=>Ir.bad):=rfl;rw[aj,[tC,h,c1],[Ck,g,o,v,hv,g1]];refine f_ (m:=[l']) ny c2 j6 g1 λx r3 F3 H3 S3 C u i c3 y hu g2=>?_;rw[ac,n,cc,rfl,hn,g3,g2.vh];have f:=[eQ,(a2.trans u).pre,(a2.trans u).fr,W];rw[M,b,rfl,J,[eQ,u.pre,u.fr,hv]];have q:=c3.rep n _ b hn J;cases cc with|aU l=>obtain⟨⟨L,U⟩,g4⟩:=[u',g3];obtain⟨fS,hp,_,z⟩:=q;rw[R,j,p,pz L];rw[ci,pF p hu,[J,#[b,_,Y,p7.k hp [q,z.length,U],x9 i c3 y A J (c1:=.aU _) #[_,bW,?_,z.put p f] g4]]];rw[aM,m2 l x d]|lst l=>rw[aO,xi,rfl,g4,al.fX [aB,[pG],g3],j,p,g5,g4.i5];rw[ag,B,hp,U,z,q];refine [aC,#[b,B,xi,j,Y,hu.ci,hp,[q,z.length,p],x9 i c3 y A J (c1:=[b6]) #[_,bW,[q,jJ,U],z.set f] g5]]|aX k l=>rw[ax,g3]]
def al.ZG{K}{f:[zT]}(c:[bz])(h:[cL])(a:al T K Q j I ((Ir.qV d>>=f) S) ok E):(∃b B,v=[fZ]/\H b=[ln,B])/\al T K Q j I (f () S) ok E:=by rw[c',Ir.qV d,Ir.qV];cases q:Ir.bH d S with|ok x p=>(rw[ar,q,a,z,rfl,AN c [J,h] q];cases x with|lst l=>obtain⟨b,B,m,u,_⟩:=z;grind|_=>rw[ax,a])|ex k B p=>rw[bs,q,a]|bad=>rw[bs,q,a]
def aeK(q:[qE])(J:[eF,o,"append"])(U:[cB,[oX],im.line])(hs:[j4,[zd,o,im],ag])(ho:[ap,o,C])(he:[ap,e,i]):[ei,.Expr [zd,o,im] pos,.app C i]:=[du,[CX,TN,ajR,NQ,ho.pe,he.pe,q],Q,F0,H0,O,c,by rw[ae,e1,[hQ,.app _ _]=(do let G←[bt,C];Ir.qV _;let d←[b9,i];let nc←Ir.fR _;match nc.2 with|[aV]=>[A,[lr],do [s8,[W,l++[d]]];[gf],Ir.bad]|_=>Ir.bad),rfl,[AB,h,o,v,j,m]];obtain⟨⟨b,B,rfl,f⟩,g1⟩:=al.ZG j m g;rw[a7,[zk,f],f_ (m:=[l']) I j s g1 λd r2 F2 H2 S2 w p ny x j6 W g2=>?_];rw[ac,n,cc,rfl,q,u,g2.vh];rw[M,b',e2,y,[eQ,p.pre,p.fr,m]];cases e2;cases cc with|lst l=>rw[R,U,g4,[u',u]];obtain⟨L,hp,_,z⟩:=(x.rep n _ b q y);exact#[b,L,w,Y,Y,hp,[q,z.length,U],x9 ny x j6 A y (c1:=[b6]) #[_,bW,[bC],[D',W]] g4]|aX k l=>rw[ax,u]|aU l=>rw[ax,u]]
def ZO(ft:[g9])(hf:f<T.nf)(hs:[j4,e,aa [xJ]])(ho:[ap,o,B])(he:[ap,e,C]):[zl,[[xJ]],.dv B f C]:=[du,Pp ho.pe he.pe hs,Q,F0,H0,O,c,by have e1:[qw,.dv _ f _]=(do let d←[b9,C];let od←[b9,B];let nc←Ir.fR od;match nc.2 with|[rg]=>(do Ir.ti (ao [m2]);[s8,[r9,d]];[gf])|_=>Ir.bad):=rfl;rw[aj,[tC,h,m],f_ (m:=[l']) I m s g λo r2 F2 H2 S2 v z i j t x g1=>?_];rw[ac,n,G,rfl,L,u,g1.vh];have y:=[eQ,z.pre,z.fr,W];rw[M,b,rfl,J,x];cases G with|aX k l=>rw[R,U,g4,al.Am [aB,[pG],u]];rw[ag,p,fs,hp,q,j.rep n _ b L J];rw[bh,U,bz U,#[b,_,p,fs,Y,hp,ft.cls k,ft.AQ k f hf,[cx,q.length],x9 i j t A J (c1:=.aX k _) #[p,_,bW,q.put ft.xW y] g4]]|lst l=>rw[ax,u]|aU l=>rw[ax,u]]
def aeG(ft:[g9])(hf:f<T.nf)(ho:[ap,o,o'])(he:[q0]):[ei,.AugAssign (.Attribute o [kG] t) .Add e pos,.la o' f e']:=[du,Zv ho.pe he.pe aez,Q,F0,H0,hX,c,by rw[ae,e1,[qw,.la _ f _]=(do let x←[b9,o'];let nc←Ir.fR x;match nc.2 with|.aX k0 l=>(do let B←Ir.bD (Ir.eV l f);let y←[eh,B];let G←[b9,e'];let z←[eh,G];let nc←Ir.fR x;match nc.2 with|[rg]=>(do Ir.ti (ao ([m2]/\k=k0));[s8,[r9,[l,y+z]]];[gf])|_=>Ir.bad)|_=>Ir.bad),rfl,[AB,h,o,v,c1,hv]];rw[ac,n,cc,rfl,hn,g1,g.vh];rw[M,b,rfl,J,hv];cases cc with|aX k l=>(rw[aO,B,hy,g2,al.i5 [aB,[pG],g1],y,rfl,g3,g2.fX];rw[ag,dx,fs,hp,hr,c1.rep n _ b hn J];rw[aL,yv,e2,u,hr.get ft.xW hy,#[b,_,dx,fs,yv,Y,hp,ft.cls k,ft.AQ k f hf,e2,[Ck,g3,z,w,W,g4]]];rw[M,i,rfl,g5,g4.fX];rw[ac,n2,C,e3,L,m,g5.vh];cases e3;rw[aZ,j,a2.pre n b J,#[y,i,u.ci,W.ci,?_]];cases C with|aX k2 l2=>rw[R,U,p,al.Am [aB,[pG],m]];rw[ag,d,O,fG,q,c2.rep n _ b L j];rw[aG,U,rfl,bz U,#[d,O,fG,[cx,q.length],x9 ny c2 j6 A j (c1:=.aX _ _) #[d,_,bW,q.put ft.xW [bK]] p]]|lst l=>rw[ax,m]|aU l=>rw[ax,m])|lst l=>rw[ax,g1]|aU l=>rw[ax,g1]]
end
section
variable{T:Tb}{K:aQ}{r0 r1 r:List ai}{F0 F1 F H0 H1 H:Hp}
def bB.base(x:[Dj]):bB r1 F1 H0 r1 F1 H1:=#[λa o e n=>x.keep a o e λz=>n ([bu,i,h,q,qF.mp z,cG (x.pre i a [f])]),[gH],[yY],[cY],[mt],x.fL]
def bB.chain(x:[Dj])(y:[Ej]):[n3]:=#[λa o e n=>y.keep a o e [sV,x.nr a z,n,[f]],x.fr.trans y.fr,λa o e=>(y.nf a o e).elim (x.nf a o) λq=>[eL,q.imp id λ#[B,m,u,n]=>#[B,m,u,λz=>n (x.L_ z)]],[Kx],λa e=>(y.nr a e).elim (x.nr a) .inr,y.fL]
def al.V_(x:[Dj])(h:al T K r0 F0 H0 G ok E):al T K r1 F1 H0 G ok E:=by cases G with|ok a S=>exactλj C e y c=>h _ _ _ (x.chain y) c|ex c B S=>exactλj C e d y c=>h _ _ _ d (x.chain y) c|bad=>exact h
end
section
variable{T:Tb}{Z:Ir.bL}{E:XK}{X:Cx}
def ae3(ft:[g9])(hf:f<T.nf)(hs:[j4,e,aa [xJ]])(ho:[ap,o,o'])(he:[gA,[Ai,u]]):[zl,[[xJ]],.eN o' f u]:=[du,Pp ho.pe he hs,r0,F0,H0,I,c,by rw[aI,e1,[hQ,.eN o' f _]=(do let d←[bt,u];let od←[vp];let nc←Ir.fR od;match nc.2 with|[rg]=>[A,u.fresh=ae/\[m2],do let G←Ir.iI d;let r←Ir.rl G;[s8,[r9,r]];[gf],Ir.bad]|_=>Ir.bad),rfl,e1,h];refine E8 #[env,I,S,r,F,c,P,?_];rw[cf,e2,∀(g:D->[vn]),[pS,[bt,u],g],[bJ],h];cases q:[zs]with|ex c B S1=>rw[af,q,h,λr1 F1 H1 W z y x=>h r1 _ _ _ [iJ,z] y x]|bad=>rw[b1]|ok d S1=>rw[q]at h;intro r1 F1 H1 z y p np fp nr ow;refine f_ (m:=[l']) [iJ,z] y [fy,z] h λod r2 F2 H2 S2 v a2 ny t j6 hv g1=>?_;rw[ac,n,G,rfl,hn,g3,g1.vh];obtain⟨_,i,m,s⟩:=(tu.step (s:=[h']) a2 #[Y,fp,nr,ow]);rw[M,b,rfl,J,hv];have qq:=t.rep n G b hn J;cases G with|aX k l=>(obtain⟨⟨_,U⟩,L⟩:=[u',g3];rw[ag,dx,fs,hp,hr,qq];cases Q:Ir.iI d S2 with|ok c3 C=>rw[R,O,rfl,s.cell Q];rw[aI,w,(do let G←Ir.iI d;let r←Ir.rl G;Ir.jX n [r9,r];[u_,env]) C=[dz,env,(C++[c3]).set n [r9,[m,[iG]]]],by rw[bL,[qA,C]=_];rw[a8,Q],w,L];rw[ai,j,sG r2 p n b J,x2,∀ob,bB _ F2 H2 _ F2 (upd _ b ob),λob=>.cell (cG j)];rw[aj,#[b,_,dx,fs,Y,hp,ft.cls k,ft.AQ k f hf,[cx,hr.length],?_],L _ _ _ [cw,ny.push (a.fL p np),x2 _] ((t.push i m O).cell j #[dx,_,bW,(dA.mono (sG r2 p) [gH] _ _ hr).put ft.xW ?_]) σ I [fy,[cw,(z.trans a2).push np,x2 _]] A];exact#[p,Y,by rw[<-t.len];simp]|ex k B C=>cases d<;>cases Q|bad=>rw[aI,w,(do let G←Ir.iI d;let r←Ir.rl G;Ir.jX n [r9,r];[u_,env]) S2=[aW],by rw[bL,[Mc]];rw[Q],w,L];rw[ax,L])|lst l=>rw[ax,g3]|aU l=>rw[ax,g3]]
def iY(h:Ir.gc e t d=aa q):Ir.cW b t (d::l) e S=(match b q S with|[dz,z,a]=>Ir.cW b t l z a|[bc,.bk z,a]=>[dz,z,a]|[bc,.rt x,a]=>[bc,.rt x,a]|[iU,a]=>[iU,a]|[aW]=>[aW]):=by show [qA,S]=_;rw[h];rw[bL,[mJ,b _,S]=_];cases b _ S with|ok f a=>rw[bx,f]|ex _ _ _=>rfl|bad=>rfl
def fc.bind(h:fc H0 e O)(J:Ir.gc e t d=aa q):fc H0 q O:=by match t,J with|[],J=>cases J|[i],J=>rw[aT,J,h.set]|[i,j],J=>(cases d with|tup l=>(match l,J with|[y,z],J=>rw[aT,J,h.set.set]|[],J=>cases J|[_],J=>cases J|[om],J=>cases J)|_=>cases J)|[om],J=>cases J
def Xp(hp:[sr,X.xe])(O:[cF])(hi:[ka,tg,it,k,l])(hg:PG X tg (gT X.K t))(J:[qd,body,b])(hs:∀x,nX it X.env x=bx x):[ei,.For tg it body [] pos,.cT t k l b]:=[du,adD hp O hi hg J hs,r0,F0,H0,hX,c,by rw[aI,e1,[qw,.cT t k l b]=(do let ds←(do [lI,←Ir.cD Z l env]);Ir.cW (λe=>Ir.bh Z b e) t ds env),by funext S;show Ir.M.bind _ (λx=>Ir.M.bind _ _) S=[mJ,Ir.M.bind _ _,S];rw[b8,Ir.M.bind],e1,h];refine#[env,hX,S,r,F,c,P,?_];rw[cf,e2,∀(g:([ak])->[vn]),[pS,do [lI,←Ir.cD Z l env],g],[bJ],h];cases q:(do [lI,←Ir.cD Z l env]) S with|ex c B S1=>rw[af,q,h,λr1 F1 H1 W a1 c1 x=>h r1 F1 H1 W [iJ,a1] c1 x]|bad=>rw[b1]|ok ds S1=>rw[q]at h;intro r1 F1 H1 a1 c1 U qj hJ;have I:=[iJ,a1];rw[bq,λi G σ H=>∃m j r F S,G=[hX]-i/\i<=[hX]/\[Ej]/\[hm]/\cJ T X.K r F H σ m j/\fc H0 m j/\al T X.K r1 F1 H0 (Ir.cW _ t (ds.drop i) m S) _ E,#[ds.length,env,hX,r1,F1,S1,Y,[f6],I.base,c1,[fy,a1],A,[aD,h.V_ I]]];rintro i G Ch H2⟨Q,o,r2,F2,S2,rfl,hi,a2,c2,j6,w,u⟩;rw[R,y1,y2,[K7]];rw[aJ,i=[hX]];{subst q;refine [J,#[y1,?_]];rw[af,Jl,u,u r2 F2 H2 a2 c2 Ch o j6 w]};{rw[eC,i<[hX],ds.drop i=d::[sO]];refine [aC,#[go,λσ H=>∃m j r F S,[Y]<=[hX]/\[Ej]/\[hm]/\cJ T X.K r F H σ m j/\fc H0 m j/\al T X.K r1 F1 H0 _ _ E,λmq H'#[e',j,r',F',S',z1,z2,z3,z4,z5,z6]=>#[[hX]-[Y],[g],e',j,r',F',S',Y,z1,z2,z3,z4,z5,z6],λx H3 L=>?_]];rw[e6];cases J:Ir.gc _ t d with|none=>exfalso;(have:Ir.cW (λe=>Ir.bh Z b e) t (d::[sO]) Q S2=[aW]:=by show [qA,S2]=_;rw[a8,J]);rw[af,this,u,u]|some e3=>rw[iY J]at u;rw[aj,PQ c3 (j6.step a3) v3 J λz y _=>?_,#[r1,F1,H0,e3,o,S2,r2,F3,a2.trans a3,c3,y,w.bind J,?_]];cases q4:Ir.bh Z b e3 S2 with|ok f s=>(rw[q4]at u;cases f with|nx e4=>exactλr4 p H4 a4 c4 σ4 O4 Cm on4=>#[e4,O4,r4,p,s,C,a4,c4,Cm,on4,u]|bk e4=>exact u|rt v=>exact u)|ex k B s=>rw[af,q4,u,u]|bad=>rw[af,q4,u,u]}]
def abc(hp:[sr,X.xe])(O:[ap,c,e])(J:[qd,body,b]):[ei,.While c body [] pos,.lU e b]:=[du,afD hp O.pt J,r0,F0,H0,I,c,by rw[ae,e1,[hQ,.lU e b]=Ir.jY _ _ _ env,rfl,#[λG σ H=>∃m j r F S,bB r0 _ _ r F H/\a_ T _ r F H S/\cJ T _ r F H σ m j/\fc _ m j/\al T _ _ _ _ (Ir.jY _ _ G m S) _ E,#[Z.fuel,env,I,r,F,S,a,c,P,A,h],?_]];rintro G Ch H2⟨Q,o,r2,F2,S2,a2,c2,U,w,u⟩;cases G with|zero=>rw[ax,u]|succ G=>refine MY a2 c2 U u λd n F3 H3 q a3 i x y g=>?_;rw[aL,k,rfl,g2,g.kh,#[k,Y,?_]];cases k with|false=>exact g2 _ _ _ i x _ _ y w|true=>rw[aJ Y]at g2|-;refine#[λσ H=>∃m j r F S,bB _ _ _ r F H/\a_ T _ r F H S/\cJ T _ r F H σ m j/\fc H0 m j/\al T X.K _ _ _ _ _ E,λmq H' z=>#[G,ajS _,z],r0,F0,H0,Q,o,q,n,F3,i,x,y,w,?_];rw[cf,e2,∀(g:Ir.Flow->[vn]),(Ir.bh Z b Q>>=g) q=Ir.M.bind _ g _,[bJ],g2];cases q4:Ir.bh Z b _ _ with|ok f s=>(rw[q4]at g2;cases f with|nx L=>exactλl p H4 a4 C σ4 O4 t W=>#[L,O4,l,p,s,a4,C,t,W,g2]|bk L=>exact g2|rt v=>exact g2)|ex k B s=>rw[af,q4,g2,g2]|bad=>rw[af,q4,g2,g2]]
def acJ(hh:[sn])(hex:[kb])(t:[lZ])(xc:XC X.K (T.dq c) N ag)(z:[dI])(m:[fm,T.dq c])(hd:[cm]):[ei,[w3,[],j],.hC c []]:=[du,acC hh hex t xc z m hd,Q,B,I,O,q,by rw[aI,e,[qi,.hC c []]=[nu,Ir.ki c _,.ex c _ S],rfl,e,h];rw[a6];{exact h r F H _ a q [J,by simp]};{rw[ax,h]}]
def ac4(h:Ir.ki c [C,d,y]=ae):c=9/\∃i j k,C=[aP]/\d=[c0]/\y=[l,k]:=by rw[aE,Ir.ki,h];rw[ay];rw[cp]
def UH{C N v:ai}{st}(hh:[sn])(hr:[vV])(hex:[kb])(t:[lZ])(c:X3 X.K [pp] N v fd qual st "line" "place" "why" q1 q2 q3)(hg:[dI])(hm:[fm,[pp]])(hk:jg X.K [m,[pp]]=ae)(U:[E]=3)(ha:[id,e::s])(hd:[cm])(he:[ii,s])(rF:[wy,im,s]):[ei,[w3,e::s,im],.hC 9 l]:=[du,aau hh hr hex t c hg hm hk ha hd he rF,Q,F0,H0,O,n,by rw[ae,e1,[hQ,.hC 9 l]=(do let B←[te,l];λS=>[nu,Ir.ki 9 B,.ex 9 B S]),rfl,#[env,O,S,r,F,n,P,?_]];have h:al T _ _ _ H0 [qA,S] _ E:=h;rw[am,Ir.M.bind,h];cases q:Ir.cD Z l _ S with|ex c B w=>rw[af,q,h,λg J H1 W f z x=>h g J _ _ [iJ,f] z x]|bad=>rw[b1]|ok ds w=>rw[q]at h;intro g J H1 f z p B I;rw[U]at p;match ds,p,I,h with|[d1,d2,y],_,I,h=>dsimp only at h;rw[a6];{rw[aB,ok];obtain⟨_,i,j,k,rfl,rfl,rfl⟩:=ac4 ok;rw[ac,G,w1,rfl,m,I,I.dO];rw[ac,v2,w2,rfl,u,I,I.dO];rw[ac,d,L,rfl,h3,I,I.dO];rw[I.fY,m.ci,u.ci,h3.ci];rw[d8,#[_,_,_,Y,λdx nd=>?_],h _ J _ _ [cw,[iJ,f],[bl,nd]] (z.own (z.hx nd) (z.hW nd)) [aC,#[dx,i,j,k,Y,Y,z.hx nd,bW]]]};{rw[ax,h]}]
def sH(T:Tb)(K:aQ)(Z:Ir.bL)(E:XK)(n:Nat)(h:List Ir.Sm):lS->XK:=λN cls W H=>∃c B Q j I r F S,cls=[m,T.dq c]/\bB Q j I r F H/\[bz]/\wV r H B W/\[k4,K,Q,j,I,Ir.pI Z h c B (fH n Ir.Slot.un) S]
def afj{K}(h:[hk]=n):[nE,fH n [V]]:=by rw[ae,un,[lU,i,s,Ir.Slot,[aY,fH n Ir.Slot.un,s],s=[V]],λi s e=>[f],#[[f],λi s x e _=>?_,λi j d a e _ _=>?_]];{rw[Y,un i s e,True.intro]};grind
def Xn:fc I (fH n [V]) O:=λi d e=>[f]
def E3(h:PH X a t)(q:∀D cls W H,t' D cls W H->t D cls W H):PH X a t':=λD pins σ H s I cls W T fl x z=>h D _ _ H s _ _ _ T _ x [f]
def acp(t:[lZ]):[w0,[],[]]:=E3 (adL t) λN cls W H#[c,B,Q,I,d,r,F,S,e,a,q,x,h]=>[q,e,h r F H _ a q x]
structure Bq (T : Tb) (K : aQ) : Prop where
 xc : ∀ c, 5 ≤ c → c ≤ 12 → ∃ N eE, XC K (T.dq c) N eE
 inj : ∀ c k, 5 ≤ c → c ≤ 12 → 5 ≤ k → k ≤ 12 → T.dq c = T.dq k → c = k
def Qs{K}(L:y.rt=N.rt)(h:[k4,K,Q,j,I,(do match←Ir.cg (Ir.bh Z b e)with|[po]=>[bZ,Ir.Flow.rt d]|_=>Ir.bad) S]):al T K Q j I (Ir.bh Z b e S) (gE T K I y) EF:=by rw[aI,z,∀(g:Ir.Flow->[vn]),[pS,Ir.cg (Ir.bh Z b e),g],[bJ],z,h];unfold Ir.M.bind Ir.cg at h;cases q:Ir.bh Z b e S with|ex c B p=>rw[b1]|bad=>rw[b1]|ok f p=>rw[q]at h;cases f with|nx _=>rw[ax,h]|bk _=>rw[ax,h]|rt d=>intro r F H a c v m;rw[Y,L,h r F H a c v m]
def RW:Ir.pI Z (.hd k i b::r) c B e=[A,k=c,do Ir.ti (i.isNone||(k==9&&[br]==3));match←Ir.cg (Ir.bh Z b (match i with|aa i=>e.set i (.exc B)|ag=>e))with|[po]=>[bZ,[po]]|_=>Ir.bad,[A,5<=c/\c<=12,Ir.pI Z r c B e,Ir.bad]]:=rfl
def WS{l}(xt:Bq T X.K)(L:5<=k)(j:k<=12)(J:[dI])(f:[fm,T.dq k])(U:[JA])(O:[w0,l,i])(hd:[cm]):[wZ,ag,s,l,[E0,.hd k ag b::i]]:=by rw[aL,n,eE,xc,xt.xc k L j,E3 (XQ xc J f U O hd) [Ko,m,d]];rw[RW]at h;rw[aJ,k=c];{subst q;rw[aJ Y]at h;obtain⟨_,u⟩:=h.Am;refine#[T.dq k,n,eE,e,xc,?_];rw[Y,aJ Y,λσ P=>#[Q,m,d,_,[hY],S,r,F,a,G,afj P,Xn,Qs Y u]]};{rw[ei,k,L,j,m,d]}
def acr{J}(xt:Bq T X.K)(v:[dI])(hm:[fm,[pp]])(hN:X.N.Nodup)(hi:[aY,X.N,nm])(U:[wc,nm]=[fj])(hs:[JA])(t:[w0,J,y])(hd:[cm]):[wZ,aa nm,s,J,[E0,.hd 9 (aa i) b::y]]:=by rw[aL,n,eE,xc,xt.xc 9 ([ah]) ([ah]),E3 (Xd xc v hm hN hi U hs t hd) [Ko,C,O]];rw[RW]at h;rw[aJ,9=c];{subst q;rw[bF,g,u,h.Am,#[[pp],n,eE,e,xc,?_]];rw[aJ Y];intro σ ea P m;refine#[Q,C,O,(fH _ _).set i _,[hY],S,r,F,a.put (a.fL _ m),G.own (G.hx m) (G.hW m),?_,?_,Qs (N:=N) Y u];{refine#[[f],λj s x' L e2=>?_,λj k d d' L _ _=>?_];{rcases kj L with⟨rfl,rfl,_⟩|⟨ne,L⟩;{rcases kj e2 with⟨_,rfl,_⟩|⟨ne,_⟩;{rcases x with⟨rfl,_⟩|⟨dx,i',o,k',rfl,rfl,f,l⟩;{cases g};{exact#[ea,Y,dx,i',o,k',G.hx m,f,Y,bW,[nv,l,m]]}};{rw[bi,Y,ne]}};{rw[C6]at L;rw[aC,L];{rw[aT,L,True.intro]};{cases L}}};{rcases kj L with⟨_,z,_⟩|⟨_,L⟩;{cases z};{rw[C6]at L;split at L<;>cases L}}};{intro j d L;rcases kj L with⟨_,z,_⟩|⟨_,L⟩;{cases z};{rw[C6]at L;split at L<;>cases L}}};{rw[ei,9,[ah],[ah],C,O]}
def VZ{g}(l:[gq]=w::g)(y:[sM])(d:[yX])(hex:[kb])(J:[Gj,l7 T X.K Z E b])(hh:[w0,h0::i,h]):[ei,.Try body (h0::i) [] [] pos,.tr b h]:=by rw[aV,N,#[Q,j,e,env,O,S,r,F,a,c,P,A,z],afQ l y d hex J hh _ s _ H N I #[Q,j,e,env,O,S,r,F,a,c,P,A,?_]];rw[K,U,[qi,.tr b h]=[cX,Ir.bh Z b _ S,[iU,t],Ir.pI Z h c _ _ _,r,r],rfl,n,(env.map λ_=>Ir.Slot.un)=fH [ve] Ir.Slot.un,by rw[<-I.len,P.len];exact List.map_const' ..];rw[U,n]at z;cases q:Ir.bh Z b _ S with|ok f p=>rw[af,q,z,z]|bad=>rw[af,q,z,z]|ex k B p=>rw[af,q,z,λG C v W m u x=>#[k,B,Q,j,e,G,C,p,Y,m,u,x,z]]
def Kv{r}{pos}{I}{t}{k}(tk:[lZ])(hex:[kb])(W:[gq]=w::r)(A:[sM])(d:[yX])(O:[cF])(hN:X.N.Nodup)(a:[ka,B,F,k,it])(ok:[ld,S])(j:[k0]=t)(m:[t6,z,u,PG [qW,S] B (gT X.K t)])(q:[jX,z,u,[ba],lY [qW,S] G (qT T X.K Z e)])(J:[FV,[fl,I]])(U:[kX]):[l2,[rR,G],[uJ]]:=[bf,j,b9 (abi tk hex W A d O hN a ok m q J U) λσ H Q h=>DS h]
def Xt(h:[l2,[rR,d],[uJ]]):[ap,[rR,d],[uJ]]:=[kP,h,z,w3 z]
def adE{i:Nat}{G}{f}{I}{t}{k}(O:[cF])(hN:X.N.Nodup)(W:[aY,X.N,y])(L:L2.lq [i7] y)(g:[AF,y])(r:b=ae->[jU,y]=[fj])(B:[C5,[Kn]]=bx b)(j:PI X a F (j4 T X.K Z EF k it))(ok:[ld,f])(p:[k0]=t)(m:[jX,z,u,[ba],PG [qW,f] a (gT X.K t)])(q:[jX,z,u,[h],lY [qW,f] d (qT T X.K Z e)])(J:[t6,z,u,PE [qW,f] l (cU T X.K Z EF I)])(U:[kX]):[sj,[si],[Kn],S,[t0,EF,[uJ]],lx i]:=by subst p;cases b with|true=>exact eL (Lf O hN W (r Y) B j ok m q J U) λN σ H h=>DS h|false=>exact eL (yA hN W L (FV O hN j ok m q J U) B g) λN σ H h=>DS h
def ab2:qU E [uJ] EF:=.cg [bJ]
def V6:lY X [] (qT T X.K Z []):=AF
def aeD(h:SE T Z EF X c a):lY X [c] (qT T X.K Z [a]):=ZY h.pt
def Hg{x f:au}(hN:[ch])(I:[fQ])(hd:[cm])(W:[f_])(xc:XC X.K [pp] N eE)(L:(k=0/\f="line")\/(k=1/\f="place")\/(k=2/\f="why"))(ns:[HE,X.K])(tl:[pD,f]):[ap,.Attribute [dx] f pos,.mX i k]:=.of [pA,ab8 (lC hN I hd W) Y,h,by cases q:[kv]with|none=>have e:[bt,.mX i k]=Ir.bad:=[aa,Ir.ah,q];rw[af,e,h,h.bad.elim]|some s=>cases s with|exc B=>rw[aI,e,[bt,.mX i k]=Ir.bD B[k]?,by simp[Ir.ah,q],e,h];obtain⟨U,ex,a,rfl,j,G,J,C,_,_,rfl,m,u⟩:=P.slot q;rw[aL,d,hd,z,al.bD c h,#[_,ex,a,[pp],N,eE,j,xT "line" "place" "why" [l,G] [l,J] [l,C],?_]];rcases L with⟨rfl,rfl⟩|⟨rfl,rfl⟩|⟨rfl,rfl⟩;{rw[aT,hd,[B8,[bK]]]};{rw[aT,hd,[B8,[bK]]]};{rw[aT,hd,[B8,Y]]}|_=>(have e:[bt,.mX i k]=Ir.bad:=by simp[Ir.ah,q]);rw[af,e,h,h.bad.elim]] [bJ] (by simp)
def aae(h:k<n):oa n k=aa k:=[b8,oa]
def Qm{f}:∀{l}{G:List J},Ir.cM f l=aa G->[go]=[E]/\[lU,i,x,U,[cS,l],∃y,f x=aa y/\[aY,G,y]]|[],G,h=>by rw[a5];grind|[gz],G,h=>by rw[am,Ir.cM,h];cases e:f x with|none=>grind|some y=>cases q:Ir.cM f l with|none=>grind|some B=>rw[e,q]at h;rw[a5];rw[R,m,u,Qm q];rw[a7,by simp[m],λi z O=>?_];cases i with|zero=>rw[aT,O,#[y,e,Y]]|succ i=>exact u i z O
def NJ:∀{vs:[cQ]}{P:Nat->V->V->[P]},([oc,w,V,vs,w,∃C,P j w C])->∃ws:[cQ],[gD]=vs.length/\[oc,w,V,vs,w,∃C,[cb,ws,C]/\P j w C]|[],P,_=>#[[],Y,λj w e=>[cI]]|v::vs,P,h=>by rw[R,C,hu,h 0 v Y];rw[aL,ws,U,W,NJ λj w e=>h [cT] w e,#[C::ws,[f],λj w e=>?_]];cases j with|zero=>grind|succ j=>exact W j w e
def MH{K}:∀{G}{ws},[gD]=[go]->(∀(j:Nat)(d:D)(C:V),([cb,G,d])->([cb,ws,C])->[h2,d,C])->[eP,G,ws]|[],ws,U,_=>[bM,uf.mp U]|d::G,[],U,_=>[f]|d::G,w::ws,U,h=>.cons (h 0 d w Y Y) (MH [f] λj d C e z=>h [cT] d C e z)
def Q6(hi:i<[hk])(h:fB T X.K Z u (.proj a' k) σ H Q):sI (QA X.K (cU T X.K Z u a')) (lx i) u9 [KO] [i] σ H Q:=by obtain⟨env,O,S,r,F,R3,nw,c,P,h⟩:=h;rw[aI,e,[bt,.proj a' k]=(do let x←[bt,a'];let y←Ir.bH x;let l←Ir.fV y;let G←Ir.bD (Ir.cM (Ir.tX k) l);[bZ,[ax,G]]),rfl,e,h];refine [eI,r1,t,H1,S1,c1,a1,hv];rw[aO,y,hy,g,al.kv c1 [J,hv] m,l,rfl,g2,g.tW];rw[M,G,hm,g3,g2.i5];rw[an,a,B,rfl,ha,U,hr,hy];rw[R,ml,mg,Qm hm];rw[aA,step,[oc,w,V,B,w,∃b us d C,[LB,[cb,G,d]/\aG T X.K r1 t d C]],λj w ew=>by have hj:j<[E]:=[bB,hr.length,[dA,ew]];rw[M,w',e1,W,hr.get (cQ hj)];rw[aq,ew,e1,e1];rw[M,d,hd,I,mg j _ (cQ hj)];cases p:l[j]with|tup q=>rw[p]at W hd;obtain⟨b,us,rfl,J,_,hq⟩:=W;rw[bu,C,hu,o,hq.get [aB,[aQ,q,k,d],hd],#[b,us,d,C,Y,J,hu,I,o]]|_=>rw[aq,p,hd,hd],z,hr.length];rw[M,ws,v0,i6,NJ (vs:=B) (P:=λj w C=>∃b us,[LB,∀d,([cb,G,d])->aG T X.K r1 t d C]) λj w e=>[f]];(have s:aY T X.K r1 t G ws:=MH [g] λj d C e1 e2=>by have hj:j<[br]:=[bB,v0,[dA,e2]];obtain⟨N,e3,b,us,_,_,_,hu⟩:=i6 j _ (cQ hj);rw[df,e2,e3,hu d e1]);rw[aj,#[a,Y,#[B,[cJ,ha]],λA nA=>?_],#[λj n H'=>n=[br]-j/\j<=[br]/\H'=[D6,j],#[B.length,by simp,[f6],by simp],?_]];rintro j n H'⟨rfl,hj,rfl⟩;have f:bp X.K [D6,j] a B:=[cJ,[nv,ha,nA]];rw[aJ,j=[br]];{subst q;refine [J,#[#[B,f,[dq]],?_]];rw[Y,gH [g],al.xQ (l:=G) (E:=u) nw c1 g3 [g] s (a1.fL A nA) nA]};{rw[ae,L,j<[br],[g],[aC,#[#[B,B[j],f,cQ L],λH'=>H'=[D6,[cT]],λH' e=>#[[br]-[cT],[g],Y,L,e],λx H3#[e3,e4]=>?_]]];subst e3;have ex:=e4 B f;rw[aq,cQ L,ex,ex];obtain⟨C,W,b,us,e5,J,hu,_⟩:=i6 j _ (cQ L);refine#[by rw[A6 qx,Gz],?_];unfold u9;dsimp only;rw[ci,aJ Y,#[B[j],rZ [q,qZ,hi],b,us,k,C,e5,Y,cw.of ?_,?_,ws.take j,bW,?_,?_]];{rw[Y,aW (iH (c1.sub _ _ J) nA),c1.sub _ _ J]};{unfold L2.oY;rw[Y,aae [dA,hu],hu]};{rw[o7,<-me];omega};{rw[acT,List.take_add_one,W];rfl}}
def RA(h:[ch]):i<[ve]:=[dA,h]
def EC{i k:Nat}(hN:[ch])(q:[fQ])(hd:[cm])(e:[f_]):[cj,[Db,a,.Constant [l,k] n z],[KO]]:=PZ Nl (lC hN q hd e) L7 [zo]
def NE{i k n:Nat}(O:[cF])(hN:X.N.Nodup)(m:[ap,F,p])(ok:[ld,S])(j:[k0]=[i])(L:[ch])(U:(sB S [i7]).names.lookup x=[fj])(hd:[cm])(e:[f_])(J:[kX]):[l2,.ListComp [Db,G,.Constant [l,k] n r] [#[.Name x a,F,[],0]] S pos,.proj p k]:=by rw[bJ];have q:=Q6 [q,I.len,RA L] h;rw[aQ,j,q];exact FV O hN (FN m.pe) ok [Bz] [D1] [Cg,[pC,S,z,C,l],e] J _ s _ H Q I q
def adZ(h:[l2,[rR,[]],.proj e k]):[ap,[rR,[]],.proj e k]:=[kP,h,z,w3 z]
def afy{i j k n:Nat}(O:[cF])(hN:X.N.Nodup)(W:[cb,X.N,y])(Q:L2.lq [i7] y)(d:[AF,y])(A:b=ae->[jU,y]=[fj])(B:[C5,[Go]]=bx b)(m:SE T Z EF X F o)(ok:[ld,e])(f:[k0]=[i])(L:[ch])(U:(sB e [i7]).names.lookup x=[fj])(hd:[cm])(u:[f_])(J:[kX]):[sj,[si],[Go],S,[t0,EF,.proj o k],lx j]:=by intro pins s σ H N I h;have q:=Q6 [q,I.len,RA L] [aB,fB T _ Z _ _ _ H _,h];rw[aQ,f,q];cases b with|true=>exact Lf O hN W (A Y) B (FN m.pe) ok [Bz] [D1] [Cg,X.bZ s H _ (dN _ z C _) _,u] J pins s _ H N I q|false=>exact yA hN W Q (FV O hN (FN m.pe) ok [Bz] [D1] [Cg,X.bZ s H e (dN e z C _) l,u] J) B d pins s _ H N I q
def WY:qU E (.proj a k) EF:=.cg [bJ]
def mR.put{K}(F:mR T K I Q A)(h:∀S s W,bB u O L S s W->a_ T K S s W i->A d S s W)(G:I p=ag)(k:L p=ag)(v:Le O L)(a:bB u O L r x H)(c:a_ T K r x H i)(nr:p∉r)(j:x p=ag)(ow:gh T K r x H p d):Q [dp] H:=by(have g:O p=ag:=by cases q:O p with|none=>rfl|some C=>grind);rw[R,ob,m,ow.some];cases F with|ow=>grind|fz=>rw[K,f,Le x (upd _ p ob),[dB,[nh,e]],y,bB u O L r (upd x p ob) H,[F3]];rw[ae,P,a_ T K r (upd x p ob) H i,[FP,t,N,f,ow.ord,m],h _ _ _ y P _ ?_];cases d with|lst l=>rw[dD,[m8,[cY],f,z]]|aU l=>rw[dD,cE.mono [cY] f _ _ z]|bY l=>rw[dD,cx.mono [cY] f _ _ z]|_=>exact eu ow
def mR.at{K}(O:mR T K I Q a)(c:[bz])(h:[jT,K,[s3,d],a])(G:I p=ag)(n:[gV])(ow:gh T K r F [e0,ob] p d):Q [dp] [e0,ob]:=O.put h G n c.sub [bl,n] [xn] (c.hx n) [rl] ow
def abl:[sI,[bR,"dict"],G,∃p a,G=[[dp]]/\H p=aa (.dK a)/\[jY,l,.dK a]]:=by intro pins s σ H G us Q I r h;rw[ac,p,a,rfl,m,q,h];rw[M,C,rfl,N,mo r];cases N;rw[ac,z,hd,B,J,j,RQ I.aO m];refine kt_call_dict hd j ([bB,J.length,z]) λi e x=>?_;rw[bh,u,by have:=I.Br;exact ut.mpr (gj this),#[[dP],_,[uE,λb o q=>[cw,x.2 b (di (bF q)),[kD]],[aB,c7 _ _ _ _ _ (.dK _),#[z,u,B,J,e]]],Y,q _ I.fresh]]
def KO(b:Bt X x [bR,"dict"])(I:[dS])(h:[d']):[l2,[fC,[e]],.b1 .dict a]:=b9 [xq,abl,h.pr,I] λσ H Q z=>RF (λj C d r F H S v Q G W c hd g=>by cases d with|aU l=>rw[ch,m,hd,#[p,B,Y,m,λo n=>G.at c g (W o n) n #[B,bW,U,q]]]|_=>rw[aN]) z
def YW(h:[gA,[Ai,a]])(q:[wJ])(n:∀i,a≠[gY]):[d']:=.of (b9 h λσ H Q z=>w3 z) q n
end
end Snd
namespace Zt
open PySem PySem.Spec PyProof.Rows L2
section
variable{prog:cP}{w:cz}{A:dc}{E:aq->aD->Prop}{s:aD}
def XX(q:s.heap.IsTupleIter it t i)(m:[mG,t,G])(L:[cS,G])(I:∀j,j.IsTupleIter it t [Y]->wj it s.heap j->Q x [ct,j]):[dR,ajT [gO]]:=by rw[ag,o,e,O,hd,id q];rw[el,q.typeIs,e];rw[ao,zt e hd (by simp) (bg #[x,Y,bg (I _ ?_ (zu ..))])];exact#[_,mH _ e (T1 (Df hd _)),[bG,ajC ..,O],[bM,Df hd]]
def ac_(hh:[gh])(j:s.heap.IsTupleIter it t i)(m:[mG,t,G])(L:G[i]?=ag)(C:∀x e,T_ it s.heap x->[I_,x.get? e,x]):[dR,ajT [gO]]:=by rw[ag,o,q,O,hd,id j];rw[el,j.typeIs,q];rw[fg,wy [aJ,zt q hd (by simp) ?_],Dk Y ?_];(first|rfl|rw[hh]);rw[ao,bg (T7 ?_)];exact C _ _ [Jg] #[_,[cq],Y]
def EU{h j:bP}(x:h.IsTupleIter a t i)(k:∀o,([rb])->j.get? a=[a9]):j.IsTupleIter a t i:=[vJ,e,r,x,k o e]
def ab1{z TI TO P t l1 l2}{Q:[el]}(D:Jj z TI TO P t l1 l2)(X:uQ s.heap z TI TO [aZ])(j:kZ s.heap TI [m,P] [m,t])(n:kZ s.heap TO a b)(m:s.heap.IsListIter P l1 k1)(u:s.heap.IsTupleIter t l2 k2)(yC:s.heap.IsList l1 xs)(qk:[mG,l2,ys])(L:[aQ,xs,k1,x])(hy:[aQ,ys,k2,y])(hQ:∀S,uQ S z TI TO (fv [ar])->kZ S TO x y->S.IsListIter P l1 (k1+1)->S.IsTupleIter t l2 (k2+1)->kZ S [ar] x y->S.objs.size=[bL]->([wW,P,t,S.get? c])->Q [fq] [ct,S]):[mB,[Jm],λfj s'=>∃v,fj=.done [bj,v]/\Q v s',s]:=by rw[eB,X,[mP]];rw[ab,bI];rw[ao,[Ip,X,W]];replace T:=T;rw[aW,[Am],T' (m.extBut W.extBut D.i1z) (yC.extBut W.extBut D.l1z) L λJ i N=>[cp]];have g:=N.extBut _ _ D.TOi1 [vO,D.TOz,n];rw[ao,k4 g Y [aJ,Ua g λO h Z=>?_]];replace h:=h;rw[aW,mI (bg [aJ,[Am]]),XX (((u.extBut W.extBut D.i2z).extBut N.extBut D.i12.symm).extBut Z.extBut D.TOi2.symm) (((qk.extBut W.extBut D.l2z).extBut N.extBut D.l2i1).extBut Z.extBut D.l2TO) hy λhd r s4=>[cp]];have d:=s4.extBut _ _ D.TOi2 h;rw[ao,k4 d Y [aJ,Ua d λU q s5=>?_]];replace q:kZ U TO x y:=q;rw[aW,mI (bg [cp]),k4 q Y [aJ,JC ?_]];(have kH:U.objs.size=[ar]:=by rw[s5.1,s4.1,Z.1,N.1,W.1]);rw[ai,l,[IG,D.TOz.symm,D.i2z.symm,D.i1z.symm,T],F,[wW,P,t,U.get? c],λc o I c2 c3 c4 e=>[IG,c2,c4,c3,[vO,I,e]]];rw[aZ,G,bF l,[hV]];have H:uQ (U.push [rE,x,y]) z TI TO .ellipsis:=[dQ,l];rw[ao,[n_,H,hf,p,s7]];replace p:=p;refine [n_,p,hg,B,s8];replace B:=B;have f:∀c o,c≠z->U.get? c=[a9]->hg.get? c=[a9]:=λc o I e=>s8.extBut _ _ I (s7.extBut _ _ I [gQ]);rw[ai,C,s8.extBut _ _ (gj G) (s7.extBut _ _ (gj G) [cq]),k,hg.objs.size=U.objs.size+1,by rw[s8.1,s7.1,gm]];rw[kH]at B C k;refine bg [z4];rw[Y,kH,hQ hg B (f _ _ D.TOz q) ((((i.extBut Z.extBut D.TOi1.symm).extBut s4.extBut D.i12).extBut s5.extBut D.TOi1.symm).at λo e=>f _ o D.i1z e) (EU (r.extBut s5.extBut D.TOi2.symm) λo e=>f _ o D.i2z e) C k λc o I c2 c3 c4 e=>f c o I (F c o I c2 c3 c4 e)]
def ab9{z TI TO r I N F}(hh:[gh])(D:Jj z TI TO r I N F)(U:uQ s.heap z TI TO [aZ])(j:kZ s.heap TI [bw] [m,I])(n:kZ s.heap TO a b)(m:s.heap.IsListIter r N k1)(u:s.heap.IsTupleIter I F k)(y:s.heap.IsList N v)(qk:[mG,F,t])(R6:v[k1]?=ag\/t[k]?=ag)(C:∀S e,([wW,r,I,S.get? c])->[I_,S.get? e,S]):[dR,[Jm]]:=by rw[eB,U,[mP]];rw[aW,[Ip,U,q],[Am]];cases L:v[k1]? with|none=>rw[ao,Ub hh [Ma] [L'] L λJ e W Z=>?_];rw[M,l,d,X,Z];have p:=W _ _ D.i1z.symm T;rw[ae,f,e≠z,λx=>[f],n8 p (by simp) λO _ G=>C O e (λc o B _ P _ x=>G.extBut _ _ B (W _ _ P [vP,B,x])) #[l,G.extBut _ _ f d,X]]|some x=>have hy:t[k]?=ag:=[f];rw[ao,T' [Ma] [L'] L λJ i W=>[cp]];have g:=[vO,D.TOi1,[vP,D.TOz,n]];rw[aW,k4 g Y [aJ,Ua g λO h G=>?_],mI (bg [aJ,[Am]])];rw[ao,ac_ hh (((u.extBut q.extBut D.i2z).extBut W.extBut D.i12.symm).extBut G.extBut D.TOi2.symm) (((qk.extBut q.extBut D.l2z).extBut W.extBut D.l2i1).extBut G.extBut D.l2TO) hy λhd e s4 Z=>?_];rw[M,l,d,X,Z];have H:=s4 _ _ D.i2z.symm (G.extBut _ _ D.TOz.symm [vO,D.i1z.symm,T]);rw[ae,f,e≠z,λx=>[f],n8 H (by simp) λhf _ s5=>C hf e (λc o B c2 P c4 x=>s5.extBut _ _ B (s4 _ _ c4 (G.extBut _ _ c2 [vO,P,[vP,B,x]]))) #[l,s5.extBut _ _ f d,X]]
end
abbrev z1(h:bP)(l:ai):bP:=h.push [Fp]
abbrev z2(h:bP)(l C:ai):bP:=(z1 h l).push [pW,"tuple_iterator",[[iO],.int 0 0]]
abbrev z3(h:bP)(l C:ai):bP:=(z2 h l C).push [rE,[m,[c7]],[m,[dg,z1 h l]]]
abbrev z4(h:bP)(l C:ai):bP:=(z3 h l C).push [rE,[aZ],[aZ]]
abbrev z5(h:bP)(l C:ai):bP:=(z4 h l C).push [pW,"zip",[[aZ],[mP],[mP],[m,[dg,z2 h l C]],[m,[dg,z3 h l C]]]]
def Vs(l C:ai)(G B:[lw]):zk (Builtin.«zip.__new__» #[[[bR,"zip"],[hA],[iO]],[]]) (λ_ R s=>[sb]/\[mG,C,B]/\R [iy,[m,[dg,z4 s.heap l C]]] [ct,z5 s.heap l C]):=.of_wp λprog w A R s h=>by rw[ac,m,g,d,tk,os,s];rw[M,a,q,h,h];rw[ai,H,sub_zip,e,Heap.IsTuple (ajX #[m.push [Fp],g,d,tk,os]) C B,aqV q _];wp_walk using sf (a),ajP e;exact#[_,Y,h]
section
variable{prog:cP}{w:cz}{A:dc}{E:aq->aD->Prop}{s:aD}
def aaW(p:[sb])(B:[mG,C,S])(h:∀a,uQ a ([ar]+4) ([ar]+2) ([ar]+3) [aZ]->kZ a ([ar]+2) [fq] [m,[bL]]->kZ a ([ar]+3) [aZ] [aZ]->a.IsListIter [ar] l 0->a.IsTupleIter [bL] C 0->(∀c o,([bH,c,o])->a.get? c=[a9])->Q [m,[ar]+4] [ct,a]):[dR,gR [bR,"zip"] [[hA],[iO]]]:=by refine callType_new F.called_zip (by rfl) (F.typeCall_zip_2 _ _) (F.newCall_zip_2 _ _) (λobj=>F.args_object_init_3 obj _ _) F.entry_zip_new (Vs l C G S) #[p,B,?_];rw[K,e,[dg,z1 s.heap l]=[bL],gm ..,j,[dg,z2 s.heap l C]=[ar]+2,by simp];rw[K,z,[dg,z3 s.heap l C]=[ar]+3,by simp,q,[dg,z4 s.heap l C]=[ar]+4,by simp];rw[K,L,[xu],[cq],u,[xu],bA _ [cq]];rw[ak,m,[xu],[dQ,bA _ [cq]],g2,[xu],[qY,bA _ [cq]],O,(z5 s.heap l C).get? [ar]=[cf],[qY,[dQ,bA _ [cq]]]];rw[j,z,q]at L;rw[e,j]at m;rw[z]at u;rw[e]at g2;rw[Y,q,#[#[_,L,Y],h _ L m u #[_,O,Y,Y] #[_,g2,Y,Y] λc o x=>[qY,[qY,[dQ,x]]]]]
end
end Zt
namespace Snd
open PySem PySem.Spec PyProof.Rows L2
open Ir(D aP aj lim Ex)
def EB(K:aQ)(a b:ai):It:=[FJ,G,B,cw K H b B,e,[go],[br]]
def adA{K}{a b z TI TO v i2}(D:Jj z TI TO v i2 a b):m5 f w K [DR] (EB K a b) [z,TI,TO,v,i2] z [G2,v,i2,h.IsTupleIter i2 b i]where
 mem:=by simp
 obj:=[Gz,hz]
 keep:=λi h g st k=>[KH,hz,m,u,m.at [ub,v],Zt.EU u [ub,i2]]
 item:=by rw[ez,hz,m,u,[e',qo],C];rw[K,hT,s.TypeIs [m,z] "zip",#[_,hz,Y],go,∀Q,(∀g,uQ g z TI TO (fv [ar])->kZ g TO C u2->g.IsListIter v a [Y]->g.IsTupleIter i2 b [Y]->kZ g [ar] C u2->g.objs.size=[bL]->([wW,v,i2,g.get? c])->Q [eq,[ar]] [ct,g])->aE [c4] X.A (je [m,z]) Q E s,λQ hQ=>[h5,je,[aJ,[H0,Zt.ab1 D hz j n m u [ky] [aB,[mG,b,ql.toArray],p2] (x:=C) (y:=u2) ([aD,hu]) ([aD,R7]) λg a1 a2 a3 a4 a5 a6 P=>bg (hQ g a1 a2 a3 a4 a5 a6 P)]]]];rw[aj,go _ λg z' HK G Hx hT kH hk=>?_,[J_,g]];have new:[k7,[ar],[ku],nu,[ku]]:=[tM,C,u2,ru,HJ,Cq];rw[d2,v,i2,d,[q,I.vR U qm,L],I.J2 U qo,C,Zt.EU Hx [uQ,sb.2 _ D.i2z],m,u]
 done:=by rw[eL,hz,m,u,[e',qo]];rw[K,he,[Kc],[f],hT,s.TypeIs [m,z] "zip",#[_,hz,Y]];unfold je;rw[ao,[H0,Zt.ab9 [e5] D hz j n m u [ky] [aB,[mG,b,ql.toArray],p2] he λg e hk ho=>?_]];rw[M,o,ho,hcs,ho];rw[ao,[Ce,#[o,ho,hcs],Ud]];exact bg [Ki,v,i2,d,J [f]]
 self:=[LK]
def agX(K:aQ)(ta:TA):TI:=λσ H R=>[ng,B,e,∃a b,B=[[aL],[fZ]]/\((∃G l,bp K e a G/\bp K e b l/\R (Dv K a b) e)\/∃G l,bp K e a G/\cw K e b l/\R (EB K a b) e)]
def Wx(w:Gl X "zip")(hm:X.mg "zip"=ag)(g:PA X [e,O] ta)(hs:[pE,[e,O]]=[Fw,e,[O]])(rF:[jD,[O]]):PI X [DR] [kN,"zip",[e,O]] (agX X.K ta):=by rw[aV,R,h,Call_ (oX I w hm acG (CY [cN,g _ _ s _ H _ I h,us,L,B,x,f,r1,l] hs rF))];rw[ag,a,b,ex,q,l];subst ex;cases r1 with|cons r G=>cases G with|cons r' G=>cases G;cases r;cases r';rcases q with⟨k,v,P,C,q⟩|⟨k,v,P,C,q⟩;{rw[bN,az,y,i,f.list P,ql,o,J,f.list C];refine call_zip_2 i.isList J.isList λQ U j n m u kH W=>Jk U ?_;rw[ae,I2,ak X _ _ _ _,f.kept (t':=L.toks) W,#[[ga]+4,[JF],_,_,x,Y,I2,aex (aj0 _ a b (i.lt) (J.lt)),#[U,j,#[_,_,n],m,u],λc A=>?_,q]];rw[bp,N,[ga]<=c,[f],f.jC N (f.aO.fresh N)]};{rw[bN,az,y,i,f.list P,ql,o,J,f.tuple C];have d:b<[ga]:=J.lt;rw[aj,Zt.aaW i.isList [aB,L.heap.IsTuple b _,J] λQ U j n m u W=>Jk U ?_,#[[ga]+4,[JF],_,_,x,Y,(f.kept W),adA (aj0 _ a b (i.lt) d),#[U,j,#[_,_,n],m,u],λc A=>?_,q]];rw[ai,e',[aD,A],N,[ga]<=c,by rcases e' with z|z|z|z|z<;>rw[z]<;>omega];exact f.jC N (f.aO.fresh N)}
section
variable{T:Tb}{K:aQ}{r:List ai}{F H:Hp}{S:aj}
def Z'(h:[vN])(m:F b=[hJ,ws])(q:[eP,N,B])(O:[eP,l,ws]):[mV,EB K a b,[fc,N.zip l,[nY]]]:=[Fi,cw.of G]
end
section
variable{T:Tb}{Z:Ir.bL}{E:XK}{X:Cx}
def YH(s:Gl X "zip")(y:X.mg "zip"=ag)(x:[id,[ib]])(N:[CP])(P:[jD,[b]]):[ka,.Tuple k w t,[kN,"zip",[ib]],5,l]:=[oo,Wx s y x N P,wO h λA r F H S B c z g=>by match A,z,g with|[d,e],z,g=>(rw[ac,v,ws,rfl,m,u,z.dO];rw[ac,o,i,rfl,J,C,u.dO];rw[C.fY];cases d with|lst G=>(rw[an,q,B,rfl,L,U,O,m];cases e with|lst n=>rw[an,j,I,rfl,f,W,Q,J];exact#[q,j,Y,[J,#[B,I,[cJ,[fk,L]],[cJ,[fk,f]],[uL,Vn L f O Q]]]]|tup n=>rw[an,j,I,rfl,f,W,Q,J];exact#[q,j,Y,[aC,#[B,I,[cJ,[fk,L]],[jy,f],[uL,Z' L f O Q]]]]|_=>rw[aN])|_=>rw[aN])|[],z,g=>rw[aN]|[_],z,g=>rw[aN]|[om],z,g=>rw[aN]]
end
end Snd
namespace Mm
open PySem PySem.Spec PyProof.Rows L2
section
variable{prog:cP}{w:cz}{A:dc}{R:zi->aD->Prop}{I:ai}{fp wr:List ai}{n:Nat}{P:Nat->aq->Prop}{St:Nat->bP->Prop}
def Vy(W:[Kv])(bt:Nat->[gK])(i:CmpOf prog w A.in1 .Gt P bt)(S:ai)(g:S∉fp)(d:aq):[Fr,"max.loop"]:=by rw[ai,y,λh=>g (W.sub _ h),B,[Lj],[ah]];intro k;induction k with|zero=>rw[eg,Ue,wz]|succ k X=>rw[eu,[cT]<n,Ue,wz,[cT],.Gt];cases J:bt [cT] (fb bt j)with|true=>rw[ab,bI];rw[ao,qH H Y [aJ,mI ?_]];rw[Y,B,[m6,wz,X [cT] _ v _ [g] T (W.frame _ _ _ O [xb]) (by rw[ad,fb,J,bI];exact N) [vI] [F8,[C1]]]]|false=>rw[ek,wz]
end
def Zy(a v:aq):JE "max" #[[a],[(iP "default",v)]]:=by kernel_rfl
section
variable{prog:cP}{w:cz}{A:dc}{E:aq->aD->Prop}{s:aD}
def afw{val:Nat->Int}(hh:[gh])(U:[sb])(a:[Jo])(h0:[Iw])(m:[G1,val i>val j]):[dR,gR (.builtin "max") [[hA]] [uI]]:=by rw[ae,B,[Lj],by rfl,kmk_tree F.kind_max F.plain_max F.entry_max (Zy _ _) ?_];show [Di,Uf "max" ["key","default"] 0 #[[],[uI]]];rw[aW,[Gu,"max"],pi ?_];rw[bc,B,lt,l<[ar],[p0,e,U]];rw[d0,wz,Ue,Vy S [n2,val i>val j] (CmpOf.ints_gt val a) [bL] g d _ 0 _ v _ Y L (S.frame _ _ _ O [xb]) N [vI] λJ T q p u=>?_]
end
section
variable{prog:cP}{w:cz}{A:dc}{R:zi->aD->Prop}{I:ai}{fp wr:List ai}{n:Nat}{P:Nat->aq->Prop}{St:Nat->bP->Prop}
def aeT(W:[Kv])(bt:Nat->[gK])(i:CmpOf prog w A.in1 .Lt P bt)(S:ai)(g:S∉fp)(d:aq):[Fr,"min.loop"]:=by rw[ai,y,λh=>g (W.sub _ h),B,[Lk],by rfl];intro k;induction k with|zero=>rw[eg,Ug,wB]|succ k X=>rw[eu,[cT]<n,Ug,wB,[cT],.Lt];cases J:bt [cT] (fb bt j)with|true=>rw[ab,bI];rw[ao,qH H Y [aJ,mI ?_]];rw[Y,B,[m6,wB,X [cT] _ v _ [g] T (W.frame _ _ _ O [xb]) (by rw[ad,fb,J,bI];grind) [vI] [F8,[C1]]]]|false=>rw[ek,wB]
end
def agY(a v:aq):JE "min" #[[a],[(iP "default",v)]]:=by kernel_rfl
section
variable{prog:cP}{w:cz}{A:dc}{E:aq->aD->Prop}{s:aD}
def VW{val:Nat->Int}(hh:[gh])(U:[sb])(a:[Jo])(h0:[Iw])(m:[G1,val i<val j]):[dR,gR (.builtin "min") [[hA]] [uI]]:=by(have B:[Lk]:=by rfl);rw[aj,kmk_tree F.kind_min F.plain_min F.entry_min (agY _ _) ?_,am [Gu,"min"]];rw[ao,pi ?_];rw[bc,B,lt,l<[ar],[p0,e,U]];rw[d0,wB,Ug,aeT S [n2,val i<val j] (CmpOf.ints_lt val a) [bL] g d _ 0 _ v _ Y L (S.frame _ _ _ O [xb]) N [vI] λJ T q p u=>?_]
end
end Mm
namespace Snd
open PySem PySem.Spec PyProof.Rows L2
open Ir(D aP aj lim Ex Sm)
def OV:[h0,l,x,Int,l≠[],Ir.j3 (l++[x])=fk (Ir.j3 l) x]|[],_,h=>[c8,Y,h]|[a],x,_=>rfl|a::b::r,x,_=>by show fk a (Ir.j3 (b::r++[x]))=fk (fk a _) x;rw[cx,OV _ x (by simp)]
def Mp:[h0,l,x,Int,l≠[],Ir.og (l++[x])=el (Ir.og l) x]|[],_,h=>[c8,Y,h]|[a],x,_=>rfl|a::b::r,x,_=>by show el a (Ir.og (b::r++[x]))=el (el a _) x;rw[cx,Mp _ x (by simp)]
section
variable{T:Tb}{Z:Ir.bL}{E:XK}{X:Cx}
def Lk{ns:[h]}(h:i<[gI]):[aY,[jf],[l,[kM]]]:=[f]
def wI(P:V->[dL])(B:[cQ])(H:Hp):[P]:=[d6,B,[v],P v H,False]
def Fo(h:wI P B H):∃v,B=[v]/\P v H:=[fn,wI]
def K6(ns:[a0]):[HV,[kM]>[md,j],Ir.j3 (ns.take [an])]|0,h=>[LA]|[an],h=>by rw[bl,m,u,K6 ns k [g],e,[IQ],[a']];rw[e,OV _ _ (by rw[Ne,<-uf,o7];omega)];rw[eW,a,fb [n2,[kM]>[md,j]] [an]=[ao,ao (ns.getD _ 0>ns.getD _ 0),[an],fb _ k],rfl]
def adY(O:[cF])(b:[ik,"max"])(N:[dS])(g:[gA,ta]):[GL,Ir.j3 ns]:=[Iu,Mm.afw (val:=λi=>[kM]) (S.ok.hd O) [mQ] (λi v m=>?_) (λh0 r tk u=>?_) λv r tk h0 m u=>?_,by rw[U];rw[aD,h0],K6 ns ([gI]-1) [g],[kM]>[md,j]]
def agh(O:[cF])(b:[ik,"max"])(u:[dS])(J:[d']):[ap,[AO],.b1 .vK a]:=[kP,adY O b u J.pr,h,[Fv,.vK,←Ir.bH (←Ir.rd _ _ _)]]
def KU(ns:[a0]):[HV,[kM]<[md,j],Ir.og (ns.take [an])]|0,h=>[LA]|[an],h=>by rw[bl,m,u,KU ns k [g],e,[IQ],[a']];rw[e,Mp _ _ (by rw[Ne,<-uf,o7];omega)];rw[eW,a,fb [n2,[kM]<[md,j]] [an]=[ao,ao _,[an],fb _ k],rfl]
def ZS(O:[cF])(b:[ik,"min"])(N:[dS])(g:[gA,ta]):[GL,Ir.og ns]:=[Iu,Mm.VW (val:=λi=>[kM]) (S.ok.hd O) [mQ] (λi v m=>?_) (λh0 r tk u=>?_) λv r tk h0 m u=>?_,[f],KU ns ([gI]-1) [g],[kM]<[md,j]]
def ael(O:[cF])(b:[ik,"min"])(u:[dS])(J:[d']):[ap,[AO],.b1 .vg a]:=[kP,ZS O b u J.pr,h,[Fv,.vg,←Ir.bH (←Ir.rd _ _ _)]]
end
end Snd
namespace Sp
open PySem PySem.Spec PyProof.Rows L2
open AutoSeq1(wpAny_loadPart')
section
variable{prog:cP}{w:cz}{A:dc}{E:aq->aD->Prop}{s:aD}
def V9(a v:aq):checkTypeCall "enumerate" #[[a],[EF]]=bx ():=by kernel_rfl
def ZZ(a v:aq):Jv "enumerate.__new__" #[[[EW],a],[EF]]=bx ():=by kernel_rfl
def Wq(o a v:aq):JE "object.__init__" #[[o,a],[EF]]:=by kernel_rfl
def ad5(l:ai)(G:[lw])(n:Nat)(bY:[kF])(sl:Array [gM])(t:iz):zk (Builtin.«enumerate.__new__» #[[[EW],[hA]],[(iP "start",.int 1 t)]]) (λ_ R s=>[bH,l,[rM,[je],bY,.seq G n,sl]]/\R [iy,[m,[dg,[sA]]]] [ct,[sA].push [A7]]):=.of_wp λprog w A R s h=>by rw[ac,q,g,d,tk,os,s];rw[R,U,h,h];rw[ai,H,sub_enumerate,z,Heap.IsList (ajX #[q,g,d,tk,os]) l G,#[_,U,Y,n,Y]];wp_walk using[Ef];refine wpAny_stack_any λst=>[cp];split;{rename_i c _ _ _ _ _;cases(c==uy "enumerate");{rw[dF]};{rw[dF]}};{rw[dF]}
def Y5{r}(U:iO [ix] "__init__"=bx [gC,"object.__init__"])(m:Bind.madeBy [ix]=bx (aa f))(u:(aa f !=aa "object.__new__")=ae):zk (Builtin.«object.__init__» #[self::r,[k]]) (λ_ R s=>s.TypeIs self T/\R [iy,[aZ]] s):=by refine Meets.of_wp λprog w A R s h=>?_;rw[R,q,z,h];cases r with|nil=>(repeat(any_goals(first|rfl|wp_step)));grind|cons a r=>rw[cJ];grind
def VN{T f a:String}{i p:Builtin}{j:[dV]}{J:[fw,aq]}{S:PySem.Spec}{Q R:[el]}(ft:TypeCalled T f a)(y:checkTypeCall T #[j,J]=bx ())(l:Jv f #[[ix]::j,J]=bx ())(O:entryFor table f=aa i)(P:entryFor table a=aa p)(g:zk (i #[[ix]::j,J]) S)(h:S A.in1 (wants R E) s)(L:∀o G,R o G->G.TypeIs o T/\JE a #[o::j,J]/\∃d,zk (p #[o::j,J]) d/\d A.in1 (wants (λr W=>r=[aZ]/\Q o W) E) G):[dR,gR [ix] j J]:=by rw[M,c,tl,v,ft.mro];rw[V,k,ft.made,H,ft.sub];refine C4 (codeAny_of_tree ?_);show [sq,callAny [ix] _];refine bg #[Code.quiet_builtin _ ([dy]),pu F.entry_type_call ?_];rw[Around.under_plain (weight_type_call_type T j J) (units_type_call_type T j J)];rw[V,m,ft.notType,u,ft.canCreate];rw[cJ];refine wp (Jt ft.plain O (Dk l (g prog w A.in1 _ s h))) λr G U=>?_;cases r with|error e=>exact U|ok fl=>cases fl with|ret obj=>(rw[ac,I,aO,d,n,t,L _ _ U];rw[V,z,ft.init.lookup,C,ft.init.bind obj];rw[cJ];refine wp (Jt ft.init.plain P (ft.init.check _ _ _ _ _ _ _ _ I aO (n prog w A.in1 _ G t))) λB W q=>?_;cases B with|error e=>exact q|ok x=>cases x with|ret r=>rw[R,rfl,N,q];rw[cJ]|_=>exact q.elim)|_=>exact U.elim
def XO{l:ai}{G:[lw]}{t:iz}{Q:[el]}(W:[sb])(h:∀i,Dd i [bL] [ar] 1 [aZ]->i.IsListIter [ar] l 0->i.objs.size=[ar]+2->([mx,i.get? b])->Q [m,[bL]] [ct,i]):[dR,gR [EW] [[hA]] [(iP "start",.int 1 t)]]:=by obtain⟨⟨c,bY,a,sl⟩,U,O,n,hd⟩:=W;replace O:c=[je]:=O;replace hd:a=.seq G n:=hd;subst O hd;refine VN Ui (V9 _ _) (ZZ _ _) F.entry_enumerate_new F.entry_object_init (ad5 l G n bY sl t) (R:=λo j=>j.TypeIs o "enumerate"/\Q o j) #[U,?_] λo j L=>#[L.1,Wq o _ _,_,Y5 Ui.init.lookup Ui.made ([ah]),L.1,Y,L.2];have q:[dg,[sA]]=[bL]:=gm ..;show _/\_;rw[q];rw[bp,e,Dd ([sA].push [A7]) [bL] [ar] 1 [aZ],[hr,z,cZ [sA] (o:=[A7]) Y,q,z],#[[wj],h _ e #[_,bA _ [cq],Y,Y] (by rw[gm,q]) λb o x=>[qY,x]]]
end
end Sp
namespace Snd
open PySem PySem.Spec PyProof.Rows L2
open Ir(D aP aj lim Ex)
def ae'{l}(h:aE M A (spliced [wk]) (λB j=>aE M A (evalAll [hU,[r8]]) (λG C=>aE M A (gR [ix] B (([r8].filterMap (·.1)).zip G)) Q E C) E j) E s)(O:[wk]=(af,[tF])::[t7,l])(L:[wk].any (·.1)=af)(J:[kl,[r8],(·.1.isSome)])(q:[r8].any (·.1.isNone)=af):[eG,M,zh pos [ix] [] [wk] [r8]]:=by(have x:aE M A (evalArgs [ix] ae [wk] [r8]) (λa j=>aE M A (gR [ix] ([]++a.pos) a.kw) Q E j) E s:=by rw[O]at h|-;exact aqW J h);rw[ao,kc (gQ x (λa j m=>[aJ,wk ?_]) (by simp))];simp[L,q];rw[ao,[cp]];exact [aJ,gQ m (λr C z=>[aJ,kc (wpAny_point (bg z))]) (by simp)]
def abu(hh:[gh])(it l:ai)(u:l≠it)(G:Array _):Draws prog w A it [it,l] (G.size+1) (λj v=>∃i,j=[Y]/\[aY,G,v]) (λj h=>∃i,j=[Y]/\[ws,it,l]/\h.IsList l G)where
 live:=λ_ _#[_,_,st,_]=>let#[o,m,_]:=st;#[o,m]
 frame:=λ_ _ _#[i,e,H,L]O=>#[i,e,H.at [f],L.at [f]]
 item:=λj s Q E z#[i,e,H,L]I=>by subst e;rw[bp,d,i<G.size,[g],T' H L (x:=G[i]) (by simp) λa q x=>I _ _ _ (by simp) #[[Y],Y,q,L.extBut x.extBut u] x]
 done:=λs Q E#[i,e,H,L]C=>Ub hh H L [f] C
def DL(K:aQ)(a:ai):It:=[F0,G,e,[am,[bb,i]+1],[go]]
def ae7{K}(a e it:ai):[Hs,apN,t,DL K a,[Y]]where
 mem:=by simp
 obj:=[Hj,he]
 keep:=[HQ,he,kG]
 item:=by rw[e7,he,kG,C];rw[a4,j,bF he,G,it<[ar],[p0,q,nl],m,e≠a,λz=>by obtain⟨o,ho,dw,_⟩:=p.isList;grind];rw[K,c,a≠it,λz=>by rw[bN,o,ho,dw,p.isList,o2,ho2,hc2,nl];grind,dQ,i<[oW],[f]];rw[ae,l,Dd s.heap e it [bb,[Y]] S,he,wpAny_pyNext_enum_itemD (abu (prog:=X.prog) (w:=X.w) (A:=X.A.in1) [e5] it a c [hb]) l #[i,Y,nl,p.isList] ([bC]) kG (by simp[kG,m]) λx' h' tk#[i',y,d]ho j5 hT kH hk=>?_];have u:i'=i:=[g];subst u;(have P:x'=C:=by have f:=[aD,d];rw[aq,hu,f,f];rfl);subst P;obtain⟨j',g,HI,_⟩:=j5;have v:j'=i'+1:=[g];subst v;refine#[_,Y,ajt (s:=[l3,h',tk+1]) ho [E8]];rw[aA,new,[k7,[ar],[bi,[l,i'+1],x],nu,[bi,[l,(i')+1],x]],[tM,.int (i'+1) tk,x',[gS],ru,j],I1,I.yf (t':=tk+1) (ch:=[e,it]) [GE] hf [dq] new];refine#[[fq],_,I1,Y,[H4],#[#[x',?_],HI.at [uQ,sb.2 it (dt kG)],kG],[fI]];{exact n};{rw[fB]}
 done:=by rw[b3,hf,hg];rw[eK,he,kG];rw[ai,U,rv.length,c,a≠it,λz=>by rw[bN,o,ho,dw,p.isList,o2,ho2,hc2,nl];rw[a']];unfold je;have hT:s.TypeIs [m,e] "enumerate":=#[_,he,Y];rw[ao,zv (uM (name:=iP "__next__") hT aj2 (sm aj2 hT F.entry_enumerate_next ?_ (F.args_enumerate_next_1 _)))];show [sq,Dj [m,e] 2>>=_];rw[aW,fu he Y (x:=[gO]) Y ?_,Ub [e5] nl [ky] ([bC]) λh' x eb d=>?_];rw[M,o,ho,vX,d];rw[ao,[Ce,#[o,ho,vX],Ud]];exact bg [JM,λb o J q=>eb b o J q]
 self:=[JP,he]
def Yk(K:aQ)(ta:TA):TI:=[LE,e,G,DL K a]
def Yr(m:[y9])(C:[yu])(l:PA X [e] ta)(x:[dS]):PI X (.Tuple k o t) [G0,e] (Yk X.K ta):=by intro pins s σ H R I h;rw[aj,nY (oX I m C aju ?_),ae' [cN,l _ _ s _ H _ I h,us,L,B,W,S,d,z] [bM,x] [bM,x] Y Y];rw[ac,a,A,ex,P,q,z];subst ex;cases d with|cons r G=>cases G;cases r;refine JF (IP (JG ?_));rw[ag,az,n,i,c,S.list P];have Q:ak X _ _ _ [tH,L,L.toks+1]:=S.tok _;rw[aj,Sp.XO i.isList λg O U y u=>Ji O ?_,#[[ga]+1,[[ga]+1,[ga]],_,_,W,Y,(Q.kept u),ae7 a _ _,#[#[[aZ],O],U,ajv _],[fI],q]];rw[bp,N,[ga]<=b,[f],S.jC N (S.aO.fresh N)]
section
variable{T:Tb}{K:aQ}{r:List ai}{F:Hp}
def ZU(h:[vN])(q:[co]):[mV,DL K a,[rQ,[X]+1]]:=[FA,H,W]
end
section
variable{T:Tb}{Z:Ir.bL}{E:XK}{X:Cx}
def aa9(z:[y9])(W:[yu])(J:[id,[a]])(x:[pz,a,a]):[ka,.Tuple I i t,[G0,a],4,l]:=[oo,Yr z W J x,[Fx,ZU L O]]
end
def Xc(tk a:TE):TE:=λσ H Q=>∀p,([gV])->tk σ [e0,.dT []] λx e=>a σ e λy q=>q p=aa (.dT [])/\∃(b:ai)(B:[iE]),x=[fZ]/\q b=[hJ,[eE,kV]]/\Q [dp] (upd q p (.dT [(B,y)]))
def afv(hu:[kH])(g:PE X k tk)(W:PE X v a):[cj,.Dict [aa k] [v] pos,Xc tk a]:=by intro pins s σ H Q I q;rw[arm_eval_Dict,zip_pairTrees [aa k] [v] X.env pos Y Y,dictDisplay_pairs _ (by simp[pairTrees]) (by simp[pairTrees])];rw[aW,wk [hV],wpAny_alloc ?_];rw[aW,kc ?_,pairTrees_cons_walk [ev,g pins _ σ _ _ (I.laid (o:=.dT []) (t':=s.toks) [uh] [dq] (O9 s.heap I.Br)) (q _ [j1,dz [ar]]),C,i,x,r,f,t,m,[ev,W pins i σ r _ f m,w2,s2,y,A,d,N,n,pairTrees_nil_walk ?_]]];rw[an,e,b,w,ex,L,P,n];subst ex;cases [aB,C=da b,t];refine kc ?_;rw[ac,z,hd,xs,J,j,Ka d.aO e];cases J;rw[aj,[aJ,[aJ,[aJ,wpAny_dictSet_heap (hsz:=[f6]) [aB,(zb (gB X.prog X.w)).room X.A,aj3 hu] (tG d.aO L) j λh' G p=>[cp]]]],bg (bg (bg (bg #[[fq],_,?_,Y,P])))];obtain⟨o,l,S,h,u,B,U,_,O⟩:=G;refine FI d [yF] p #[o,h] #[by show 1<=bS;rw[ah],hd,_,(KT.put [aB,KT A [] [],ajh] w L N).keeps λc ys F=>?_,o,l,S,h,u,B,U,O];rw[a_,aW (ahg F e [uU])]
section
variable{T:Tb}{Z:Ir.bL}{E:XK}{X:Cx}
def K'(hu:[kH])(j:[ch])(I:[fQ])(hd:[cm])(B:[f_]):[l2,[BN,f],[By]]:=by rw[aj,b9 (afv hu (Q9 js) (lC j I hd B)) [Bs,C],#[[f6],λq m=>?_]];rw[aA,J,q≠p,[i_,z,bW,m],a,[af,aW J,m,m]];cases U:[kv]with|none=>rw[eN]|some s=>cases s with|val d=>(rw[aI,e,[qg,[By]]=[Z,.bY [([h9],d)]],[gt,Ir.ah,Ir.cD,U],e,h];rw[ac,w,N,v,rfl,u,P.slot U];refine#[v,N,by rw[aW (dt J),bW],q,[],Y,bW,?_];rw[al,W,upd (upd [e0,.dT []] q [h9]) p [u7]=upd [e0,[u7]] q [h9],by funext b;rw[b8,upd],W];have L:([e0,[u7]]) q=ag:=[hh,J,a];cases G with|fz=>refine h r (upd F p [u7]) _ [cw,bB.lay c n,[bl,L]] (((c.lay n).own (c.hx a) [hh,J,c.hW a])) _ ?_;unfold aG;refine#[p,[([],v)],Y,bW,by show 1<=lim;rw[ah],?_];rw[h5,cx,#[[],v,[],Y,Y,[eQ,(bB.lay (o:=[u7]) c n).pre,(bB.lay c n).fr,u],by unfold cx;rfl]]|ow=>refine h r F _ [cw,bB.own n,[bl,L]] ([xn].own (c.hx a) (c.hW a)) p n [rl] (c.hx n) #[[([],v)],by rw[aW (dt J),bW],by show 1<=lim;rw[ah],?_];rw[h5,cx,#[[],v,[],Y,Y,u,by unfold cx;rfl]])|_=>rw[eN]
def aew{x:au}{i B:Nat}{A p pos:et}(hu:[kH])(q:[ch])(h:[fQ])(hd:[jZ])(e:[xS]=af):[ap,[BN,B],[By]]:=.of (b9 (K' hu q h hd e) λσ H Q z=>w3 z) [bJ] (by intro i z;cases z)
end
abbrev rf(x0 x1:aq)(d:ai)(i n ep:Nat)(ok ov:aq):bn:=[rM,[bR,"dict_itemiterator"],ag,.fields [fg,[x0,x1,[m,d],.int i 0,.int n 0,.int ep 0,ok,ov]],[ca]]
section
variable{prog:cP}{w:cz}{A:dc}{E:aq->aD->Prop}{s:aD}{d it:ai}{od:bn}{es:Array pp}{i n ep:Nat}{ok ov x0 x1:aq}
def DK(I:[x9,x0,x1])(l:[oI])(z:[mf])(W:[fv]=n)(L:[aY,es,P])(B:∀(C:bP)(m:dc)(x:[el])(R:[el]),C.get? it=aa (rf x0 x1 d [Y] n ep ok ov)->wj it s.heap C->(∀v S,Q [cV] S->R v S)->aE [g6] m (Uj [gO] 6 P.key P.val) R x [ct,C]):[Ao]:=by
 rw[ac,h,g,r,tk,os,s];have U:aj4 _ [gO] _:=#[_,I,Y];rw[fA,U];first|rw[ao,JH U [cp]]|grind
 rw[eQ,I,[Cx]];rw[R,f,c,Jr.mp L];rw[aa,Uo,aj8 f];refine [hV];first|rw[ao,JH U [cp]]|rfl
 rw[ao,Up U ?_];show [sq,TZ _ 3 _>>=_];rw[ao,[n_,I,C,j,u]];have a:aj4 #[C,g,r,tk,os] [gO] _:=#[_,j,Y];rw[aW,kc ?_,Up a ?_];rw[ao,Up a ?_];rw[Y,c,B C _ _ _ j u λv S q=>bg #[_,Y,bg q]]
def Dt(hh:[gh])(L:[x9,x0,x1])(l:[oI])(z:[mf])(W:[fv]=n)(g:n<=i)(I:[Kt]):[Ao]:=by
 have q:s.TypeIs [gO] "dict_itemiterator":=#[_,L,Y];rw[fA,q];first|rw[ao,JH q [cp]]|rfl
 rw[eQ,L,[Cx]];have a:[fv]<=i:=[f];rw[aa,Uo,ajs a];refine [hV];first|rw[ao,JH q [cp]]|grind
 show [sx,TZ [gO] 2 [aZ]>>=_];rw[fg,zt L Y (by simp) ?_,Dk (a:=qD) (by rfl) ?_];rw[[aB,A.in1.handled=ag,hh]];rw[aW,bg (T7 ?_),[Ce,#[_,[cq],Y],Ud]];exact bg (I _ [Jg])
def Oj(I:[x9,[aZ],[mP]])(W:∀C,C.get? it=aa (rf (fv [ar]) [mP] d i n ep k v)->[Ii,[kr],R [fq] [ct,C]]):[mB,Uj [gO] 6 k v,R,s]:=by rw[ac,U,g,r,tk,os,s];rw[ao,JC ?_];rw[aA,h,(U.push [kr]).get? it=[cf],[dQ,I],G,bF I];rw[ak,u,[o_,U.push _]=aa [kr],[cq],m,[dg,U.push [kr]]=U.objs.size+1,gm _ _,c,[h3,it,U.get? b=[a9],[k_,U.push [kr]]],[iq,[gQ]]];rw[cG,fu h Y Y [cp]];rw[aW,fu h Y Y ?_,fu h Y Y ?_];rw[aW,[n_,h,j,p,q],[n_,p,L,x,a]];replace x:L.get? it=aa (rf _ _ d i n _ k v):=x;rw[aW,[n_,x,O,H,f],[n_,H,z,B,l]];rw[ao,mI (bg (W _ B ?_ ?_ ?_))];{exact l.extBut _ _ (gj G) (f.extBut _ _ (gj G) (a.extBut _ _ [f] [vP,[f],u]))};{rw[l.1,f.1,a.1,[db],m]};{exact [iq,l.extBut b o J (f.extBut b o J (a.extBut b o J [LQ]))]}
def adH{a:ai}(I:[x9,fv a,.bool f])(O:[bH,a,G])(z:∀x,x.get? it=aa (rf (fv a) (.bool ae) d i n ep ok ov)->x.get? [ar]=aa [kr]->x.objs.size=[bL]->([dh,b≠it,[l7,x.get? b]])->R [fq] [ct,x]):[mB,Uj [gO] 6 k v,R,s]:=by rw[ac,L,g,r,tk,os,s];rw[ao,JC ?_];rw[K,h,[o_,L.push [kr]]=[cf],[dQ,I],l,(L.push [kr]).get? a=[cf],[dQ,O]];rw[ak,u,[o_,L.push _]=aa [kr],[cq],m,[dg,L.push [kr]]=L.objs.size+1,gm _ _,c,[h3,it,L.get? b=[a9],[k_,L.push [kr]]],[iq,[gQ]]];generalize L.push _=N at h u m c l|-;rw[cG,fu h Y Y ?_];show aE _ _ _ _ _ _;rw[aW,PySem.W.kdx_alive l ?_,fu h Y (x:=.bool f) Y ?_];have C:∀j,j.get? it=[cf]->wj _ _ j->R _ _:=λj p q=>z _ p [vP,[f],u] (by rw[[db],m]) [iq,[LQ]];cases f with|true=>rw[d8,[cp],bg [f]]|false=>rw[aj,am [n_,h,j,p,q],[cp]];rw[bt];exact bg (C _ p q)
def ED(q:[yO,m])(h:[oI])(z:[mf])(I:Q [fq] [ct,[LH]]):[dR,ze [m,m]]:=by rw[ag,ov,H,a,B,id q];rw[aj,wpAny_pyIter_slot q.typeIs aj9 (sm aj9 q.typeIs PySem.F.entry_dict_items_iter ?_ (PySem.F.args_dict_items_iter_1 _)),am [cp]];rw[cG,fu H B Y [cp]];rw[cG,Ul h z ?_];rw[ao,Um h z ?_];(have e:[Cx]:=by rfl);rw[aa,e,bI];refine pi (bg #[_,Y,"dict_itemiterator",_,#[_,[cq],Y],Dl.lookup,?_]) (by rw[aY,sizeOk,aj_,pj,cO,b7,gK,kX];omega);simpa[fv,aj_]using I
end
def Np(d:ai)(hd:[bE,d,iA]):MeetsIn prog w (Builtin.«dict.items» #[[[m,d]],[]]) (λ_ R s=>s.TypeIs [m,d] "dict"/\R [iy,[fq]] [ct,[Ax,"dict_items",[fg,[[m,d]]]]]):=.of_wp λA R s#[q,h]=>by rw[cG,wpAny_notOrdered_dict q ?_];refine [cp];rw[dU,aqX,[nz]];rw[ao,[cp]];exact [aJ,pi (bg [f])]
section
variable{X:Cx}{pins:List (ai×bn)}{σ:L2.St}{H:Hp}{s:aD}{d:ai}{o:bn}
def xh(I:[ac])(h:H d=[ue]):[bE,d,iA]/\[bH,d,o]/\o.ExactDict/\[br]<=bS/\∃(l:Array _)(a:Nat),o.data=.dict l a/\l.size=[br]/\∀(i:Nat)(k:[h])(v:V),([aY,B,(k,v)])->∃(P:pp)(q:ai),[aY,l,P]/\P.key=[jP]/\H q=[og]/\bC v P.val:=by obtain⟨hd,z,x,S,pr,C,l,a,m,L,G,O,_⟩:=I.aO d _ h;rw[aq,hd,m,m];refine#[x,hd,L,z,l,a,G,?_,λi k v e=>?_];{rw[V,f,size_of_entries O,N,IJ pr];omega};{rw[ac,b,J,U,u,j,Z9 pr e];rw[hr,q,entry_at O i,J,#[_,[ae,b],q,Y,u,j]]}
end
def EX(d:ai)(o:bn)(B:[vD]):It:=[zW,H d=[ue]/\i<[br],x,e,∃T k v q,[aY,B,(k,v)]/\x=[m,T]/\H T=ag/\H q=[og]/\k.length<=bS/\e=[cu,T,[bi,[jP],v]],H d=[ue]/\[br]<=i]
def af3{K}(it:ai)(l:[yf]):m5 C w K [DR] (EX d o fS) [it] it (λi h=>∃ok g,IsItemIter h it d i fS.length ep ok g)where
 mem:=by simp
 obj:=λi h st b J=>[f]
 keep:=[qr,let#[ok,g,e]:=st;#[ok,g,k it (by simp) _ e]]
 item:=by rw[dp,hf,hg];rw[R,hd,hi,hg];rw[fe];obtain⟨⟨k,v⟩,a⟩:∃p,[aY,fS,p]:=#[fS[i],cQ hi];rw[an,P,q,c,ahu,hq,ru,y i k v a];rw[M,ok,g,he,st];rw[aZ,dQ,bF he,DK he f G kH c λahn m x R j u hR=>Oj j λh' ho hT hz hk=>hR _ _ ?_];rw[(u.1)]at ho hT hz|-;refine#[_,Y,wpAny_letOwnedTupleGo_items ho [E8]];rw[aA,new,c7 X.prog X.w [cu,[ar],[bi,[jP],v]] nu _ [bi,[jP],v],[tM,P.key,P.val,ahu,ru,dQ],I1,I.yf (t':=s.toks) (λb ob J e=>[cw,[Eu,sb],hk b ob ([aD,J]) [ha,[Eu,u]]]) hf (by simp) new];refine#[[dP],_,I1,Y,#[_,k,v,q,a,Y,[mr],hq,[jK,z,[aB,c7 _ X.w H _ q _,I.aO q _ hq].1],Y],#[P.key,P.val,n],[fI]];have e:=[aD,J];rw[a3,e,aW (di dQ),[M,[Es]]]
 done:=by rw[b3,hf,hg];rw[R,hd,hi,hg];rw[an,f0,f1,f2,f3,f4,f5,[Es]];rw[fe];rw[bu,ok,g,he,st,Dt [e5] he f G kH hi λh' eb=>#[Y,[tQ,ob,e,eb b ob J e]]]
 self:=λA i s Q E st h=>let#[_,_,e]:=st;PySem.W.kcp_self e h
def Xs(g:TE):TI:=λσ H R=>[JG,R (EX d o B) e]
def aet{S i}{B}{p}{t}(U:[gA,g])(W:[eF,e,"items"]:=by rfl)(J:[cB,S.endLine,i.line]:=by rfl):PI X (.Tuple B p t) [em,e,"items",S,[],i] (Xs g):=by rw[bR,R,Jg (T:="dict") (id:="dict.items") W Y J Jh JI aj' (a9 (U pins s σ H _ I h) λC j#[x,Q,u,P,d,o,c,ex,hd,q]=>?_),ex,C=da d,P];obtain⟨l,f,L,_,A,n,G,z,y⟩:=xh u hd;rw[ae,O,j.TypeIs [m,d] "dict",#[o,f,L.1],#[O,[JR],?_]];rw[K,N,[c5,Q,[mM,j,j.heap.push [Cs]]],u.kept (t':=j.toks) [E7],m,[gb,ze [m,[sf]],AU X pins σ (.Tuple B p t) R,[mM,j,j.heap.push [Cs]]],by refine ED (d:=d) [mu] [dQ,f] G (GJ (tk:=j.toks) N _ (af3 _ G) #[[aZ],[aZ],?_] q);rw[bB,z,[cq]]];exact aka JI akb Y (C_ #[Y,O,akc _,_,Np d l,O,m])
section
open Ir(D aP aj lim Ex)
variable{T:Tb}{K:aQ}{r:List ai}{F H:Hp}
def WB(h:gW d=aa k):[h2,d,kV k]:=by cases d<;>simp[gW]at h<;>cases h<;>(rfl)
def G3:∀{l}{j},ii l=aa j->[eP,l,j.map kV]/\j.length=[E]|[],j,h=>[aT,h,#[[aA],Y]]|[gz],j,h=>by rw[am,ii,h];cases e:gW x with|none=>grind|some k=>rw[e]at h;cases z:ii l with|none=>grind|some B=>rw[aq,z,h,h];rw[aG,z1,z2,G3 z,#[.cons (WB e) z1,[f]]]
def cx.at_:∀(l:[h])(B:[h])(i:Nat),([lm,B])->([aY,l,(k,d)])->∃j v,[aY,B,(j,v)]/\mL k=aa j/\[cL]|[],_,_,_,e=>[cI]|(x,C)::l,B,i,h,e=>by obtain⟨j,v,ws,rfl,q,u,z⟩:=h;cases i with|zero=>grind|succ i=>exact cx.at_ l _ i z e
def ZB(h:F a=aa (.cb o (.dT S)))(q:[lm,S]):[mV,EX a o S,[pk,[nY]]]:=by intro r' Q A p f s;rw[aZ,e,[yW],#[#[e,[a3,aR,q.length,[dq]]],[st]]];rw[dR]at hd;cases I:l[i]? with|none=>grind|some pr=>rw[R,k,x,pr];rw[aq,I,hd,hd];rw[ac,j,v,u,J,W,q.at_ _ _ _ I];rw[a7,#[e,[dA,u]],λy H2#[t,j',v',c,L,P,n,O,U,C]=>?_];rw[aq,u,L,L];subst P C;rw[K,same,∀o,Q c=[a9]->o=[bs,j.map kV],λo z=>[f],B,Le Q (upd Q c _),λb o z=>by rw[D,w,b=c];{subst w;rw[bW,same o z]};{rw[Y,aW w,z]}];rw[K,l2,Le (upd Q c _) A,λb o z=>by rw[D,w,b=c];{subst w;rw[df,bW,z,O]};{rw[af,aW w,z,s _ _ z]},g,aG T K r' (upd Q c [bs,j.map kV]) k [l0],by cases k with|tup G=>rw[R,z1,z2,G3 J];rw[h5,aG,#[c,_,Y,bW,[bB,z2,U],z1]]|_=>cases J];obtain⟨N,g1,g2,g3,g4,g5,m⟩:=wH l2 n g [eQ,p,f.trans B,W];refine#[N,B.trans g1,g2,g3,λb o z=>?_,g5,m];rcases g4 b o z with w|w|w;{rw[D,w2,b=c];{subst w2;rw[df,bW,w,[lF,#[_,Y,O]]]};{rw[af,aW w2,w,[J,w]]}};rw[av,[e7,w],[lF,w]]
end
section
open Ir(D aP aj lim Ex)
variable{T:Tb}{Z:Ir.bL}{E:XK}{X:Cx}
def aaF(J:[eb,p])(W:[eF,a,"items"])(B:[cB,f.endLine,G.line]):[ka,.Tuple I i t,[em,a,"items",f,[],G],6,[p]]:=[oo,aet J.pe W B,GM h λd r F H S v c m g=>by cases d with|i7 l=>obtain⟨q,j,x,rfl,e,U,L⟩:=m;exact#[q,j,x,Y,[fk,e],[uL,ZB e L]]|_=>rw[aN]]
end
open PySem.Calls PyProof.V
open PySem.W(KdxSt kdx_hint)
section
variable{prog:cP}{w:cz}{A:dc}{E:aq->aD->Prop}{s:aD}{d it S:ai}{od:bn}{es:Array pp}{i ep:Nat}
def ago(H:[LF])(g:S<[ar])(l:[oI])(z:[mf])(L:[aY,es,P])(Z:∀C,KdxSt C it d S [Y] [fv] ep->[Ii,[rE,P.key,P.val],Q [eq,[ar]] [ct,C]]):[Ao]:=by rcases H with⟨rfl,ok,n,I⟩|⟨ok,n,a,f,G,I,N,h,q⟩;{refine DK I l z Y L λT m x R j u p=>Oj j λC W U B O=>p _ _ ?_;have z1:T.objs.size=[ar]:=u.1;rw[z1]at W U B|-;exact Z C [aC,#[_,_,_,af,_,W,U,gj (bF I),gj g]] U B [L1]};{refine DK I l z Y L λT m x R j u p=>adH j [bG,u.2 a h,N] λC W U B O=>p _ _ ?_;rw[(u.1)]at U B|-;exact Z _ [aC,#[_,_,a,ae,G,W,O a _ h [bG,u.2 a h,N],h,q]] U B [L1]}
def afb(hh:[gh])(W:[LF])(l:[oI])(z:[mf])(L:[fv]<=i)(I:[Kt]):[Ao]:=by rcases W with⟨rfl,ok,j,q⟩|⟨ok,j,a,f,G,q,_,_,_⟩;rw[av,Dt hh q l z Y L I,Dt hh q l z Y L I]
end
abbrev xN(N:[lw])(c:Nat):bn:=[EL,N,c]
abbrev wJ(P:pp):bn:=[rE,P.key,P.val]
section
variable{prog:cP}{w:cz}{A:dc}{s:aD}{R:zi->aD->Prop}{od:bn}{es:Array pp}{ep:Nat}
def agM(hh:[gh])(Q:S<I)(a:d≠S)(l:d≠I)(z:[mf])(hn:[fv]<=bS)(X:aq){h₁:bP}(hR:[Ay,B,b≠S,b≠I->h₁.get? b=[a9]->B.get? b=[a9],B.get? S,I,B.get? (I+1+j),R [iy,X] [cR,B]]):∀(k i:Nat)(h:bP)(tk c:Nat)(N:[lw]),[fv]-i=k->i<=[fv]->KdxSt h I d S i [fv] ep->([dd,d,od])->([h3,S,b≠I,h₁.get? b=[a9]->[ks]])->([dd,S,xN N c])->([CL,i,I+1])->(∀j P,j<i->([cb,es,P])->[dd,I+1+j,wJ P])->[c7]=I+1+i->[HB,[m,I]]:=by rw[a4,y,di Q,nI,∀j,I+1+j≠I,λj=>gj [g],nS,∀j,I+1+j≠S,λj=>gj (hc Q [g])];intro k;induction k with|zero=>intro i h tk c N hk hi v T W Z F U n;have C:i=[fv]:=[g];subst C;refine pu akd ?_;rw[sq Dm _];rw[aj,[aJ,afb (s:=[cR,h]) (A:=A.in1) hh v T z [dq] λB t=>?_],bg (hR B tk N c (λb o m u e=>t b o u (W b o m u e)) (t S _ y Z) F λj P hj=>t _ _ (nI j) (U j P [M,Jr.mp hj] hj))]|succ k ih=>intro i h tk c N hk hi v T W Z F U n;have dQ:i<[fv]:=[g];obtain⟨P,L⟩:∃p,[aY,es,p]:=#[es[i],aj8 dQ];rw[ae,kH,N.size=i,by rw[<-Uq,F,aR,gY],pu akd ?_];rw[sq Dm _];rw[cY,je [m,I]];rw[ao,ago (s:=[cR,h]) (S:=S) v (bF Z) T z L λB O ht G x=>?_];rw[ai,H,x S _ y Z,f,[h3,S,B.get? b=[a9],[k_,[IW]]],[EE]];rw[aj,[hV],qH H Y [m6,Dm,ih [Y] _ tk _ (N.push (da [c7])) [g] dQ (O.keep f (dt y)) (f d od a (x d od l T)) (λb o m u e=>f b o m (x b o u (W b o m u e))) [vI] (by rw[Array.toList_push,F,uc,de,n];rfl) (λj e' hj g=>?_) ?_] [g] ([cx,ake])];{rw[D,q,j<i];{exact f _ _ (nS j) (x _ _ (nI j) (U j e' q g))};{have:j=i:=[g];subst this;rw[aq,L,g,g];rw[bB,n,f _ _ (gj (bF Z)) ht]}};{rw[bI,[dg,[IW]]=B.objs.size,akf ..]}
end
section
variable{prog:cP}{w:cz}{A:dc}{E:aq->aD->Prop}{s:aD}{r d:ai}{od:bn}{es:Array pp}{ep:Nat}
def aaT(hh:[gh])(I:[yO,r])(l:[oI])(z:[mf])(S:ai)(q:S≠r)(a:d≠S)(X:aq)(x:Nat)(F:[bH,S,[sC,[ca],x]])(n:[Ay,G,b≠S,[l7,G.get? b],G.get? S,[ar],G.get? ([bL]+j),R [iy,X] [cR,G]])(y:[fv]<=bS):[HP,akg [lY] [bw] X,v,C,T,T.quiet]:=by rw[ai,Q,bF F,key,∀(h:bP)(p tk:Nat),([h3,S,[k_,[LH]],[ks]])->([dd,S,[sC,[ca],p]])->[c7]=[bL]->[HB,[fq]],by intro h p tk L W t;rw[bh,k,L [ar] _ (gj Q) [cq],agM (od:=od) (es:=es) (ep:=ep) (s:=s) (h₁:=s.heap) hh Q a (di (bF l)) z y X (λG B N c Z H vV U=>n G B N c [iq,Z b o J [ts] e] H vV U) [fv] 0 h tk p [ca] (akh _) [f6] [J,#[Y,[aZ],[aZ],k]] (L d _ a [dQ,l]) (λb o J _ e=>L b o J [gQ]) W Y (λj P hj=>[c8,hj,Nat.not_lt_zero _]) t]];unfold akg;rw[ao,wpAny_typeOf (T:="dict_items") I.typeIs ?_];rw[ak,m,aki [lY] [bw]=af,by simp[aki,q],u,[bE,uy "dict_items",uy "list"],[ah],h3,[bE,uy "dict_items",uy "tuple"],[ah]];simp only[m,u,h3,Bool.or_false,dj,b8];rw[ao,ED I l z ?_];have W:=bA [i5,"dict_itemiterator",.fields [FX]] F;rw[aj,[aJ,kc (kdx_hint (let#[o,ho,O,_]:=I;#[o,[dQ,ho],O]) ?_)],wpAny_ite_split (λ_=>?_) (λ_=>[m6,Dm,key _ x _ (λb o _ e=>e) W (gm _ _)])];rw[aj,[aJ,wy ?_],[hV]];show [sq,zw S (·.push .none)>>=λ_=>zw S (·.pop)];rw[ao,qH W Y ?_];have g:=mH (lJ (·.push qD)) W Y;rw[aj,qH (hz:=by seq_fits) g Y ?_,[m6,Dm,key _ _ _ (λb o J e=>?_) (mH (lJ (·.pop)) g Y) ?_]];{exact [cw,[k9,J],[ha,[k9,J]]]};simp
def XY(hh:[gh])(I:[yO,r])(l:[oI])(z:[mf])(S:ai)(q:S≠r)(a:d≠S)(L:[bH,S,[kU,[ca]]])(u:∀h tk N c,([h3,S,[gk],[ks]])->([dd,S,xN N c])->([CL,[fv],[bL]])->(∀j P,([cb,es,P])->[dd,[bL]+j,wJ P])->R [iy,[aZ]] [cR,h])(m:[fv]<=bS):[HP,Builtin.«list.__init__» #[[[lY],[bw]],[]],O,G,C,C.quiet]:=by rw[cG,k4 L Y [cp]];rw[ao,qH L Y ?_];rw[a1,g,[dh,b≠S,[l7,[ss,S,lJ [sY]].get? b]],[EE],W,[dg,[ss,S,lJ [sY]]]=[ar],akf ..,aaT (od:=od) (es:=es) (ep:=ep) hh [vJ,B,x,I,g r o q.symm B] (g d _ a l) z S q a [aZ] _ (mH _ L Y) (λh tk N c p H Q U=>?_) m];grind
def acb(hh:[gh])(h:[yO,r])(l:[oI])(z:[mf])(m:[fv]<=bS)(I:[Ay,a,[gk],a.get? b=[a9],a.get? [ar],[bL],a.get? [vT],Q [fq] [cR,a]]):[dR,gR [je] [[bw]]]:=by refine callType_codes (Q₁:=λobj W=>obj=[dP]/\W=[ct,[oh]]) PySem.F.called_list (PySem.F.typeCall_list_1 _) PySem.F.entry_list_init (code_list_new _ #[Y,Y]) λobj W C=>?_;rw[R,rfl,rfl,C];rw[ae,L,[o_,[oh]]=aa [kU,[ca]],[cq],#[#[_,L,Y],PySem.F.args_list_init_2 _ _,XY (A:=A.in1) hh [vJ,q,x,h,[kD]] [dQ,l] z _ (gj (let#[_,q,_]:=h;bF q)) (di (bF l)) L (λa tk N c O H B U=>?_) m]];have u:[dg,[hN,[kU,[ca]]]]=[bL]:=gm _ _;rw[u]at B U;rw[aS,Y,I _ _ _ c [dB,O b o [ts] [gQ]] H B U]
end
section
variable{X:Cx}{pins:List (ai×bn)}{σ:L2.St}{H H':Hp}{s:aD}{h':bP}
def aaa(I:[ac])(k:∀b C,[sH,C])(le:[qf,H' b=aa C])(new:[H3,[ar]<=b]):[j',H']:=by refine I.un #[λb o q _ _ _=>k b o q,λb o q _ _ _=>#[o.slots,k b o q],λb o q n _=>?_,λb o q _=>#[o,k b o q],λb G q=>[q9],λb o C q=>[q9],λb ps q=>#[[ca],[f]]] [vg];{cases z:H' b with|none=>rfl|some C=>rw[aK,new b C z,w,w];rw[ay];{rw[bi,hc (bF q) w.1,qy _]}};{rw[a0,new b C e,w,w,(I.aO b C w).jT (λc v _ q=>k c v q) (λc q=>[q9]) λc G q=>[q9]];rw[a']}
end
def oN(H:Hp)(S I:ai)(l:[ba])(B:[vD]):Hp:=λa=>[fd,a,S,[dv,br [br],λj=>[m,I+1+j]],[A,@uT Nat _ I a/\@uT Nat _ a (I+1+[br]),aa [bi,[m,[lC,a-(I+1)]],[eE,(·.2)].getD (a-(I+1)) [aX]],H a]]
def aeO(g:TE):TE:=λσ H Q=>[JG,∀m,e m=ag->Q [m,m] (upd e m [rS,d])]
section
variable{X:Cx}
def U_{t i}(U:[gA,g])(W:[eF,e,"items"]:=by rfl)(N:[cB,[oX],i.line]:=by rfl):[cj,[em,e,"items",t,[],i],aeO g]:=by rw[bR,Q,Jg (T:="dict") W Y N Jh JI aj' (a9 (U pins s σ H _ I h) λC J#[x,Z,S,r,d,o,n,ex,hd,q]=>?_),ex,C=da d,r];obtain⟨l,f,L,_,T,F,G,P,y⟩:=xh S hd;have j:J.TypeIs [m,d] "dict":=#[o,f,L.1];rw[aj,#[j,[JR],?_],aka JI akb Y (C_ #[Y,j,akc _,_,Np d l,j,?_])];rw[ae,z,(J.heap.push [Cs]).IsItemsView _ d,[mu],#[[dP],_,S.laid [uh] [dq] ?_,Y,q _ S.fresh]];exact#[z,#[_,z.choose_spec.1],λm u#[o,O,p,B]k=>#[o,k o O,p,B]]
def UJ(O:[cF]):[sI,[je],T,∃(m d:ai)(o:bn)(B:[vD]),T=[[m,m]]/\H m=aa [rS,d]/\H d=[ue]/\∀(S I:ai)(x:[ba]),S<I->H S=ag->([sF,I<=a])->[eV]=[br]->([HS,B,x,H q])->Q [lY] (oN H S I x B)]:=by intro pins s σ H T us Q I r h;rw[bV,m,d,o,B,rfl,g,hd,q];rw[M,C,rfl,rx,mo r];cases rx;obtain⟨hs,f,L,U,F,ep,G,W,y⟩:=xh I hd;let x:=F.toList.map λP=>[d6,P.key,[jP],q,0];rw[a1,hq,∀(j:Nat)(k:[iE])(v:V),([cb,B,(k,v)])->∃P q,[cb,F,P]/\[cb,x,q]/\P.key=[jP]/\H q=[cf]/\bC v P.val,λj k v e=>by rw[an,P,q,u,p,e3,e4,y j k v e];refine#[P,q,u,?_,p,e3,e4];simp only[x,dR,Ur,u,g6,p],hn,F.size<=bS,[q,W,U],acb [e5] [Je,m,g] f G hn λh' tk N c kp hS A hT=>?_];rw[W]at A;rw[K,fr,[sF,[ar]<=a],λa i=>[j1,i],lt,∀a C,([es,C])->a<[ar],λa C e=>I.aO.lt e];rw[K,nS,∀j,[vT]≠[ar],λj=>[g],atT,∀j(h:j<[br]),oN H [ar] [bL] x B _=[cf],λj h=>by unfold oN;rw[aw (nS j),aJ [Ap],Us]];rw[ae,le,[qf,oN H [ar] [bL] x B b=aa C],λb C e=>by have J:=lt b C e;unfold oN;rw[a3,aw (di J),aw (λz=>[c8,y4 J (aj3 [cA]),qy _]),e],#[[fq],oN H [ar] _ x B,aaa I kp le [vg],Y,q _ _ x (ajS _) (fr _ [dq]) (λa i=>fr a (TQ i)) (by simp[x,W]) λj k v q u p=>?_]];{rw[aE,oN,e];{rw[aB,z];rw[cI];rw[a2];rw[aj,[aC,#[[dq],?_]],#[[a3,aR,gY,U],N.toList,c,?_,[aD,hS]]];rw[A];(have:∀l:[aj],bq [aS,λj=>V.ref [vT]] [aS,λj=>da [vT]]:=λl=>by induction l with|nil=>exact [aA]|cons a l ih=>exact .cons Y ih);exact this _};{rw[aC,e];{rw[aB,z];obtain⟨j,rfl⟩:∃j,b=[vT]:=#[b-([bL]+1),by have:=[cA];exact [dH,Nat.add_sub_cancel' this]];have E:=Nat.lt_of_add_lt_add_left z.2;rw[aq,Us,e,e];obtain⟨P,q1,w,g2,t,Z,n⟩:=hq j B[j].1 B[j].2 (cQ E);refine [aC,#[[g],by show 2<=bS;rw[ah],[P.key,P.val],.cons ?_ (.cons ?_ [aA]),#[_,hT j P w,Y,_,Y]]];{rw[hY,g2,t];rfl};{rw[hY,dR,cQ E];exact n}};{exact [J,e]}}};{obtain⟨P,q1,w,g2,t,Z,n⟩:=hq j k v u;rw[aq,p,g2,g2];refine#[Z,?_];have z:=[aB,c7 X.prog X.w H s.heap q _,I.aO q _ Z].1;rwa [aR]at z}
end
section
variable{T:Tb}{K:aQ}{r r0:List ai}{F F0 H H0 H':Hp}{S:aj}
def Rr(a:[n3])(c:[bz])(j:F p=ag)(nr:p∉r)(G:H0 p=ag)(h:ox (H p)):bB r0 F0 H0 r [x7] [e0,.cb od u]/\[pl,[x7],[e0,.cb od u]]/\Le F [x7]:=by rw[ae,le,Le F [x7],[dB,[nh,e]],#[#[λb o e n=>?_,a.fr.trans le,[k2],a.pre,a.nr,λb e=>?_],#[c.len,c.nd,[k2],[fI],λn d b L m=>?_,(c.tab.upd h).fr [hh,c.tab.ne h,c.tab.1]],le]];{rw[Y,[dw],a.keep b o e n]};{rw[cT,b,p,a.nf b o e]};{rw[cT,b,p,a.fL b e]};{rw[dM,b=p];{rw[aW q]at e|-;exact c.sub b o e}};{rw[Y,[dw],c.off b J]};{exact [kB,b,L,m].step [f] le (aW [aB,b≠p,λz=>nr (z▸cG m)])}
open Classical in def V2(P:ai->[P])(c:[bz])(le:Le H H')(N:∀a,P a->[nw]\/∃B,H a=[hJ,B]):∃x,bB r F H r x H'/\[pl,x,H']/\Le F x/\∀a,P a->x a=H' a:=by let x:=λa=>[xC];rw[a1,l,Le F x,λa o e=>by show [xC]=_;rw[Y,aJ [J,[q,e,[uU]]],le _ _ [fk,e]],nt,∀a∈r,¬P a,λa h m=>by rw[bZ,N a m,z,B,z];{rw[R,o,e,c.has h];rw[aq,z,e,e]};{exact c.BH h z},#[x,#[λa o e _=>[J,le a o e],l,[sE],[cY],[mt],[ou]],#[c.len,c.nd,(λa o e=>by have e:[xC]=[a9]:=e;rw[aC,e];{exact e};{rw[cI]}),[Ac],λn G a L u=>?_,c.tab.Kw le ?_],l,λa m=>aJ [aC,m]]];{cases q:F a with|some I=>rw[a']|none=>grind};{cases q:H a with|none=>rfl|some o=>rw[aq,[q9],e,e]};{show [xC]=ag;rw[aw (λz=>z.elim (λw=>w (c.off a h)) (nt a h))]};{rw[aG,o,J,c.has (cG u),[kB,a,L,u].step [cY] l [bG,le a o J,J.symm]]};{show [A,F _≠ag\/P _,H' _,ag]=ag;rw[aw (λz=>z.elim (λw=>w c.tab.1) λw=>(N _ w).elim (λz=>c.tab.ne (zU z) Y) λ#[B,z]=>c.tab.ne ([jn,z]) Y)]}
def K1:[hS,[E]=[br],(∀(j:Nat)(d:D)(v:V),([cb,l,d])->([cb,B,v])->[cL])->[co]]|[],[],_,_=>[aA]|[],[d4],h,_=>[a5]|[d4],[],h,_=>[a5]|d::l,v::B,h,q=>.cons (q 0 d v Y Y) (K1 [f] λj d v e z=>q [cT] d v e z)
end
section
variable{T:Tb}{Z:Ir.bL}{E:XK}{X:Cx}
def adN(C:[ch])(W:[fQ])(hd:[cm])(u:[f_]):[ei,.Return (aa [dx]) pos,.qf i]:=by intro pins s σ H N I#[r0,F0,H0,env,O,S,r,F,a,c,P,A,h];cases q:[kv]with|none=>rw[bH,[HR,.qf i]]|some sl=>have bad:Ir.bE Z _ _ S=[aW]->False:=λz=>[af,z,h,h];cases sl with|own d=>(cases d with|bY l=>rw[aI,e,[qi,.qf i]=[iw,.i7 l],[wU],e,h];obtain⟨w,f,rfl,n,G,y,m,U,J⟩:=P.slot q;rw[R,j,Q,I.lock m True.intro];rw[aL,L,B,le,Rr a c n G (A i _ q) ([jn,m]),EY (lC C W hd u) _ s σ _ N Q #[_,f,h r _ _ L B _ ?_]];exact#[O i,j,y,Y,bW,U,cx.mono [f] le _ _ J]|_=>rw[bH,[y7]])|_=>rw[bH,[y7]]
def afC(O:[cF])(b:Bt X y [je])(tY:[pz,[BM],[BM]])(W:[eF,[s6],"items"])(ahm:[cB,yB.endLine,im.line])(hi:[ch])(hv:[fQ])(hd:[cm])(gX:[f_]):[ei,.Return (aa [kN,y,[[BM]]]) Sr,.ot i]:=by intro pins s σ H N I#[r0,F0,H0,env,hX,S,r,F,a,c,P,A,h];cases q:[kv]with|none=>rw[bH,[HR,.ot i]]|some sl=>have bad:[qi,.ot i]=[aW]->False:=λz=>[af,z,h,h];cases sl with|own d=>(cases d with|bY l=>(rw[aI,e,[qi,.ot i]=[DP],[wU],e,h];obtain⟨w,ew,rfl,n1,n2,fS,hp,U,hr⟩:=P.slot q;rw[R,od,I',I.lock hp True.intro];rw[M,a1,c1,le,Rr (od:=od) (u:=.dT fS) a c n1 n2 (A i _ q) ([jn,hp])];have hr:=cx.mono [cY] le _ _ hr;generalize upd F (hX i) [yi]=F1 at a1 c1 le hr;have g:upd H (hX i) [yi] (hX i)=aa [yi]:=bW;generalize [cu,hX i,[yi]]=H1 at a1 c1 I' g;rw[aj,EY [xq,UJ O,U_ [EJ] W ahm,tY] pins s σ _ N I' #[_,ew,hX i,od,fS,Y,g,λm nv=>?_],#[m,hX i,od,fS,Y,bW,[nv,g,nv],λSl t qs Q nS nI hql hqs=>?_]];rw[K,f,Le H1 (upd H1 m [rS,hX i]),[dB,[nv,e,nv]],nn,∀b,upd H1 m [rS,hX i] b=ag->H1 b=ag,λb e=>by cases z:H1 b with|none=>rfl|some o=>rw[aq,f _ _ z,e,e]];rw[K,L,[HS,fS,qs,H1 q],λj k v q e1 e2=>by rw[R,z1,z2,hqs j k v q e1 e2];rw[D,w,q=m];{subst w;rw[aq,bW,z1,z1]};{rw[af,aW w,z1,#[z1,z2]]},nh,∀b,([Bl,b])->upd H1 m [rS,hX i] b=ag,λb z=>nI b (yQ [cA])];rw[K,n,Le H1 (oN (upd H1 m [rS,hX i]) Sl t qs fS),[dB,by have e':=f _ _ e;unfold oN;rw[a3,aw [i_,z,nS,e'],aw (λz=>[aq,nh b z,e',e']),e']],hkq,∀b,b∈qs->∃B,H1 b=[hJ,B],λb J=>by rw[R,j,hj,Dn.mp J];rw[bp,hj2,j<fS.length,[f],#[_,[M,L j fS[j].1 fS[j].2 b (cQ hj2) hj]]]];rw[ac,F2,a2,c2,l4,HU,V2 (λb=>b=Sl\/[Bl,b]\/b∈qs) c1 n λb J=>by rcases J with z|z|z;{rw[bf,z,[J,nn _ nS]]};rw[av,[J,nn _ (nh b z)],[eL,hkq b z]]];refine h r F2 _ (a1.trans a2) c2 _ ?_;unfold aG;refine#[Sl,_,Y,[cw,HU Sl [fa],aJ Y],[q,aR,U],K1 (by rw[aR,aR,gY,(hr.length)]) λj d v e1 e2=>?_];rw[dR]at e1 e2;cases e0:l[j]? with|none=>rw[aq,e0,e1,e1]|some pr=>rw[R,k,xd,pr];rw[aq,e0,e1,e1];rw[ac,jk,v',g1,g2,g3,hr.at_ _ _ _ e0];have hj:=[dA,g1];rw[gE,cQ [q,gY,hj],ud,e2];obtain⟨u,HV⟩:∃u,[cb,qs,u]:=#[_,cQ [q,hql,hj]];rw[R,z1,z2,L j jk v' u g1 HV];rw[K,rg,[Bl,t+1+j],[Ap],m1,F2 (t+1+j)=aa [bi,[m,u],v'],by rw[HU (t+1+j) [e7,rg]];unfold oN;rw[aw (λz=>[hr,w,y4 Q rg.1,z,qy _ w]),aJ rg,Us,hY,HV,hY,dR,g1];rfl];unfold aG;refine#[t+1+j,_,Y,m1,by show 2<=lim;rw[ah],.cons ?_ (.cons [eQ,[cY],l4,g3] [aA])];cases k with|tup G=>rw[R,y1,y2,G3 (T:=T) (K:=X.K) (r:=r) (F:=F2) g2];rw[h5,aG,#[u,_,Y,[cw,HU u [eL,[eL,cG HV]],n _ _ z1],by rw[<-y2,me];exact z2,y1]]|_=>cases g2)|_=>rw[bH,[y7]])|_=>rw[bH,[y7]]
end
section
variable{prog:cP}{w:cz}{A:dc}{E:aq->aD->Prop}{s:aD}{a kS:ai}{P:PySem.Fin->aD->Prop}
def Rb{st}(q:[bH,kS,[jC,l,e]])(J:[bH,a,[jC,[ca],z]])(u:kS≠a)(O:failedOf st=ag)(d:l.size<64)(m:(sr st).size<64)(h:∀x c,[Gf]):[mB,ksk_tail a af z [m,kS] st,P,s]:=by rw[V,j,zu s.heap kS (lJ [sY]),B,[bG,j.2 a [f],J]];rw[aW,JJ q Y ?_ ([cx,kX]) (by simp),mI ?_];rw[aW,seqEpoch_at B Y ?_,JJ B Y ?_ (by simp) (by show [fO,sr _].size<=_;rw[Array.size_map,kX];omega)];rw[ey,O];rw[d8,bg (h _ _ (λb o W G e=>?_) (Ut B _)),[cw,(zu _ a _).2 b G,[ha,j.2 b W]]]
open PyProof.Rows.G in def abQ{vs B fs:[h]}(m:[bH,kS,[jC,[kp],e]])(J:[bH,a,[jC,[ca],W]])(O:kS≠a)(U:[br]=vs.length)(C:vs.length<64)(L:TupsOf s.heap shape B fs)(d:∀v,v∈B->∃l,zx s.heap shape v=aa l)(h:∀(st:SortSt)x c,(sr st).Perm [Cl]->Uu (JK s.heap shape) (sr st) vs.length->[Gf]):[mB,ksk_end a af vs.toArray W [m,kS] [kp],P,s]:=by rw[ak,f,[Cl].size=vs.length,[f],g,B.toArray.size<64,[f],h0,KeysOf (JK _ shape) [Cl],λp q=>[af,Array.toList_zip,q,d [H] ([aD,[M,j9 [aB,([H],[X])∈_,q]]])]];unfold ksk_end;dsimp only;rw[D,u,vs.toArray.size<2];{rw[aJ u,aJ u];rw[aj,am [cp],Rb m J O Y g (by show(B.toArray.zip _).size<64;omega) λx c kp z=>h _ x c (by simp) ?_ kp z];intro i j H F;(have:i=j:=by rw[pj]at u;omega);rw[bf,this,KeyOrd.kle_refl _]};{rw[aw u,aw u];rw[pj]at u;rw[aW,tup_kind ([cx,TupsOf.length L]) L ?_,gQ (wpS_sortRunsSt (Q:=λ_ I=>(sr I).Perm _/\failedOf I=ag/\Uu _ (sr I) _) (tupC_ltAt ae (KeepsTups.refl _)) h0 #[Array.Perm.refl _,Y,Y] Y (Stable.refl _) [g] λI S N r T=>#[S,N,r]) ?_ [cY]];rintro⟨⟨⟩,I⟩Q⟨rfl,q,Z,G⟩;rw[af,f,G,Rb m J O Z g ([a3,q.size_eq,f,C]) λx c kp z=>h I x c q G kp z]}
def U5{n:Nat}(hh:[gh])(L:IsRange s.heap r 0 n 1 t C v)(m:n<64)(h:∀j tk N,([mx,j.get? b])->ItemsOf (λi v=>∃t,v=.int (0+i*1) t) N n->R N.toList [cR,j]):[mB,collect [bw],R,s]:=by rw[aW,wpAny_runValue (pu entry_proto_collect' ?_),pi ?_];refine [m6,akj,pu entry_list_iadd' ?_];rw[sq akj _];rw[ae,W,[o_,[oh]]=aa [kU,[ca]],[cq],[pr,wpAny_extend_range (s:=[ct,[oh]]) (R:=λq d=>∃(j:bP)(tk:Nat)(N:Array _)(G:Nat),q=.ok _/\d=[cR,j]/\[mx,j.get? b]/\j.get? _=aa [EL,N,G]/\ItemsOf _ N n) hh [dQ,L] (small_one [g] [g] [g] [g]) ([a_,rangeSize_one]) [g] _ _ 0 W (λj tk N G O H B=>#[j,tk,N,G,Y,Y,[dB,O b o [ts] [gQ]],H,B]),J,d,x,λe d x=>?_]];{cases J with|done f=>obtain⟨j,tk,N,G,e,rfl,O,H,B⟩:=x;rw[aT,e,[aJ,Tl H (bg [f])]]|again p=>rw[a7,[R],wp [bD] λq S y=>?_];obtain⟨j,tk,N,G,rfl,rfl,O,H,B⟩:=y;exact [aJ,Tl H (bg (h _ _ _ O B))]};grind
end
open PySem.W(kla_fn kla_obj kla_eval kla_makeFunction kla_makeFunctionHit kla_callFunE kla_codeExpr envX tabObj CodeHd)
section
variable{X:Cx}{pins:List (ai×bn)}{σ:L2.St}{H H':Hp}{s:aD}{h':bP}
def acI{ch:[h]}(I:[ac])(h:[qu,ch,H])(k:∀b C,([hu])->[sH,C])(le:[qf,H' b=aa C])(new:[H3,b∈ch\/[ar]<=b]):[j',H']:=by rw[ae,j,[qf,[hu]],λb C e z=>[aq,[M,h b z],e,e],[F7,h b J,λb o O e n=>?_,λb B e=>le _ _ e,λb o C e=>le _ _ e,[ey,le _ _ e],G,C]];{cases z:H' b with|none=>rfl|some C=>rcases new b C z with w|⟨w|w,_⟩;{rw[aq,n,w,w]};rw[av,[c8,w,O],[f',hc [ee] w]]};{rw[ac,o,l,a,m,r,U];exact#[o,l,a,k _ o [uR,h _ z] m,r]};{rw[aK,new b C e,w,w];{rw[gJ,(I.aO b C w).jT [BB] (λc q=>[q9]) λc B q=>[q9]]};{exact w.2}}
def aaY{P c:ai}(I:[ac])(N:H P=aa (.fM ps))(k:∀b C,b≠P->[sH,C])(p:[iZ,P]=aa (JL (ps++B)))(O:[ar]<=c)(d:c7 X.prog X.w [Jl] h' c (.ext j)):[j',[Jl]]:=by rw[a4,h,[j1,O],f,[qf,b≠P->upd [cu,c,.ext j] P (.fM (ps++B)) b=aa C],λb C e n=>[a3,aW n,[dw],e],a,[qf,(∀q,C≠.fM q)->b≠P],λb C e n z=>by rw[z,N]at e;rw[aT,e,n _ Y]];rw[ae,G,∀b,([fx])->b≠P,λb e z=>[gE,z,N,e],I.un #[λb o q n _ _=>k b o (G b n) q,λb o q n _ _=>#[o.slots,k b o (G b n) q],λb o q n _=>?_,λb o q _=>?_,λb l q=>[CN],λb o C q=>[CN],λb S q=>?_] [vg]];{rw[a3,aW (G b n),aW (di (hc (bF q) O)),n]};{rw[D,z,b=P];{rw[bf,z,#[_,p]]};{rw[aS,o,k b o z q]}};{rw[D,z,b=P];{rw[a2];rw[df,N,q,#[B,bW]]};{rw[aS,[ca],[ey,f _ _ q z]]}};{rw[D,z,b=P];{rw[a2];rw[df,bW,e,p]};{rw[D,y,b=c];{subst y;rw[aW z,bW]at e;rw[aT,e,d]};{rw[aW z,aW y]at e;rw[gJ,(I.aO b C e).jT (λx v L q=>k x v ?_ q) (λx q=>f _ _ q (a _ _ q (by simp))) λx l q=>[CN]]}}}
end
structure Ko (T : Tb) (X : Cx) (params : so) (body : bQ) (scope : fo) (pos : et) (clos : List (au × ai)) : Prop where
 dw : C' scope X.env = bx clos
 code : ∃ c, X.env.code = .ref c ∧ akk X.base c T.tab
 blt : X.base.BuiltinsAt X.mg T.tab
 gP : iB ≠ T.tab
 dflt : defaultsOf params X.env = ([], [])
 line : pos.line = T.tl
 col : pos.col = T.tc
 qual : X.env.qual ++ "<lambda>" = T.tq
def BuiltinsAt.keep{h h':bP}(x:h.BuiltinsAt mg P)(k:[dh,[ks],[ma,o]]):h'.BuiltinsAt mg P:=let#[bm,o,a,b,c,d,e,f]:=x;#[bm,o,a,b,c,d,k _ _ e,f]
section
variable{T:Tb}{X:Cx}{pins:List (ai×bn)}{σ:L2.St}{F H:Hp}{s:aD}{E:aq->aD->Prop}{params:so}{body:bQ}{scope:fo}{pos:et}{clos:List (au×ai)}
def aa'(L:Ko T X params body scope pos clos)(I:[ac])(N:[rn])(h:∀f c U H' G,([c5,H',G])->([Jj])->([sF,H' a=ag])->H' T.tab=[Bt]->H' c=aa [pO]->G.heap.get? f=aa [GO]->hG X pins H' f->Q [hx] G):[Eb,.Lambda params body scope pos]:=by rw[M,A,d,g,L.code];rw[V,j,g.keeps I.bk,W,[yl]];rw[aZ,J,BuiltinsAt.keep L.blt I.bk,kla_eval L.dflt ?_];rw[L.qual];rcases N.2 with t|⟨c,t,C⟩;{refine kla_makeFunction L.dw I.ok.fA W d j (I.aO _ _ t) zm Y L.gP J λc U h' tk x ge lt cr p=>?_;rw[L.line,L.col]at p;rw[K,S,ak X _ _ (upd [cu,c,[pO]] _ _) [cR,h'],aaY I t (λb C n e=>x b C n e) p ge #[cr,let#[l,o,_,_,e,q,_]:=cr;#[o,[aT,e,q]],λm u#[l,o,B,P,e,q,r]k=>#[l,o,B,P,e,[aT,e,k o q],r]],Z,ak X _ _ _ [cR,h'.push [GO]],S.kept λb C q=>[kD]];have O:=[j1,ge];rw[ae,i,c≠T.tab,λz=>[f],h _ c _ _ _ Z (λa o e n=>[a3,aW n,aW (iH e O),e]) [ou] bW (by rw[aW i,bW]) [cq] (S.jC [dq] [Bm])];rw[D,z,a=T.tab];{rw[a2];rw[aq,bW,e,e]};{rw[aW z]at e;rw[D,y,a=c];{rw[bf,y,O]};{rw[af,aW y,e,e]}}};{refine kla_makeFunctionHit (cv:=[l0]) L.dw I.ok.fA W d j (I.aO _ _ t) zm ?_ J λU h' tk kp sz=>?_;{rw[<-L.line,<-L.col];exact codeAmong_snoc [] zm Y};rw[bh,S,I.kept (t':=tk) kp,h _ c _ _ _ (S.kept λb C q=>[kD]) (λa o e _=>e) (by simp) t C [cq] [C7]]}
end
def Fx(X:Cx)(A:dc)(env:jd)(N:[dE])(s:aD)(H:Hp):Cx:={X with A:=A.deeper env,N:=N,eD:=s,sA:=H,env:=env,outer:=X.stack,stack:=env::[gq],ex:=[],fn:=λ_=>af,cg:=ae,pn:=[],xe:=[qb]}
abbrev px(p x:au)(j k:Nat)(J i q d O a A:et):bQ:=.Tuple [.BinOp (.Constant [iW] j J) .Sub [Db,i,.Name p q] O,.Name p a] k A
structure vA (p x : au) (scope : fo) (params : so) : Prop where
 kind : scope.kind = .function
 co : scope.isCoroutine = af
 gen : scope.isGenerator = af
 cell : ∀ y ∈ scope.names, y.2 ≠ .cell
 pl : scope.names.lookup p = aa .local
 xf : scope.names.lookup x = aa .free
 only : ∀ y, scope.names.lookup y = aa .free → y = x
 bind : ∀ (name qual : au) (body : bQ) (cl : List (au × ai)) (pm cd ct u : aq), IZ (kla_fn name qual params body scope cl pm cd ct) ⟨[u], []⟩ = bx [(p, u)]
 nd : (p == ("__debug__" : au)) = af ∧ (x == ("__debug__" : au)) = af
 nc : (p == ("__classdict__" : au)) = af ∧ (x == ("__classdict__" : au)) = af
section
variable{T:Tb}{X:Cx}{pins:List (ai×bn)}{σ:L2.St}{H:Hp}{s:aD}{p x:au}{scope:fo}{params:so}
def XD{i:Nat}(r:[yv])(I:[ac])(N:[EG])(hd:[gh])(w:[ch])(L:[vE])(E:[wi])(P:[sL])(Q:bC [c0] C)(o0:S.Ns [ar] (λy=>[(p,C)].reverse.lookup y))(k:[mx,S.get? b])(tk:Nat):ak [Hq] [] [aa [c0],[cV]] H [cR,S]:=by have h:=I.Ey;rw[ak,Z,∀b,b∉([]:[ba]),λb z=>(nomatch z),lk,∀y d,[ra].lookup y=aa d->y=x/\d=cr,λy d e=>by rw[pk]at e;rw[aC,e];{rw[aB,z];rw[aT,e,#[[aD,z],Y]]};{rw[cI]},J,[ra].lookup x=aa cr,by rw[pk,ux]];rw[aO,G,hm,U,I.loc,l,rx,g,U i x v w P [e7,L]];rw[a1,B,s.heap.IsCell cr (aa l),by rcases g with⟨z,_⟩|⟨_,c',F,e2⟩;{rw[gE,[iM,[wc,x]=[jU,x]],L,z]};{rw[df,E,F,e2]},O,S.IsCell _ _,[vJ,a,b,B,k _ _ a],#[#[h.mod,r.kind,Y,Y,[dq],λy z d m u=>[bG,[M,lk y d m],[dH,[M,lk z d u]]],λy W=>?_,λy d z=>(by cases z),λ_=>hd,ai5 N,[aC,#[Y,Y]],[yx],h.bs,h.lM,λb _ _=>Z b,[yx],h.ko,h.qh],Y,h.bare,Un.kept k,#[_,o0,λi' y v' m u h3=>?_],λy d e=>#[aa l,[q,[bo,lk y d e],O]],h.aO.fresh [dq],λy d e=>[q,[bo,lk y d e],I.ie x _ E],λq t=>[f',[aB,q∈[],t]],h.aO.kept k,Y]];{rw[d_,W,W,W,[c8,Y,r.cell _ (jN W)],#[cr,[q,r.only y W,J]]]};{match i',m,u with|0,m,u=>cases m;rw[aT,u,#[C,Q,[J,[qT,r.pl]]]]|1,m,u=>cases m;rw[aT,u,#[l,rx,[aC,#[[aC,r.xf],cr,J,O]]]]|n+2,m,u=>rw[aH,Fx,m]}
def agy{E}{A:dc}{f c cr}{i k S:Nat}{v}{Q}(B:[yv])(I:[ac])(ft:[g9])(N:[EG])(hd:[gh])(G:A.depth<uH)(hu:∀env,(A.deeper env).units+1<dM)(hi:[ch])(L:[vE])(t:[wi])(P:[sL])(F:bC [c0] C)(ho:[bH,f,[DW,[xI,S],[ra],pm,U]])(O:H c=aa [pO])(W:cU T X.K Z E [JW] [aa [c0],[cV]] H Q):aE [c4] A (gR [hx] [C]) [ji] r s:=by refine C4 (kla_callFunE G ho Y B.co B.gen Y [Je,c,O] ?_);rw[ci,B.bind,bg (wpAny_newFunctionEnv B.cell (λy hy=>[q,dL.mp hy,B.pl]) (λahn o0 m=>#[I.nolimit.fresh _ m,?_]) B.kind)];rw[K,u,gd scope p,[J,B.pl],g,gd scope x,[lF,B.xf]];rw[ae,se,SE T Z E [Hq] [xI,S] [bi,.sub _ (.ix [al] [aK]),[aK]],Mz ([ah]) (FF Y (Ow Kp (OJ ft (hu _) (Ay Y g B.nd.2 B.nc.2) [LR] [zo])) (FF Y [LR] JS)),kla_codeExpr (gQ (se.pe [] _ _ _ _ (XD (c:=c) (A:=A) B I N hd hi L t P F o0 [dB,m.extBut b o [ts] [gQ]] _) W) (λw s'#[l,H',d,n,q]=>?_) [Er])];exact I.after #[l,H',d.os,d.bare,d.base,d.aO,n,q]
end
def JO:[H2,[h],Ir.lp rs]|[],G,p,_,_=>p.nil_eq|[gz],[],p,_,_=>[f',p.length_eq]|[gz],y::G,p,m,u=>by rw[kM]at m u;(have e:x=y:=by rw[a0,[c1,p.mem_iff.mp (qx)],a,a,a];{rw[aK,[c1,p.mem_iff.mpr (qx)],b,b];rw[ay];{rw[bi,Ir.FL (m.1 y b) (u.1 x a),Ir.EM]}});subst e;rw[JO (ajL p) m.2 u.2]
abbrev qS:[gK]:=λ_=>af
def s0(rs:[a0])(j:Nat):List (Int ⊕ [aj]):=[[J,0-[fK,j]],[J,j]]
def Zh(h:akl itemOrd (s0 rs j) (s0 rs i)=af)(n:i≠j):Ir.lp rs i j:=by simp only[s0,akl,itemLt,Bool.or_eq_false_iff,Bool.and_eq_false_iff,Bool.not_eq_false',decide_eq_false_iff_not,d0]at h;unfold Ir.lp;omega
def K5{U:[aI]}{f}{g}:∀(l:[gu]),([gw,bC (f x) (g x)])->bq [gZ] [aS,g]|[],_=>[aA]|a::l,h=>.cons [f] (K5 l [f])
open PyProof.Rows.G in def aeU{a B:[dV]}(U:[bV]=[fM])(x:[br]=[fM])(Z:[yZ,a,zx h qS k=aa (s0 rs j)])(O:∀(j:Nat)v,([cb,B,v])->∃t,v=.int j t)(d:l.Perm (a.toArray.zip [kp]))(r:Uu (JK h qS) l [fM]):bq [l5,[ro],j,V.int j] [aS,(·.2)].toList:=by let g:Keyed->Nat:=[aF,[d6,[X],.int i _,i.toNat,0]];rw[K,P,(a.toArray.zip [kp]).toList=a.zip B,by simp,W,l.toList.Perm (a.zip B),[bB,P,d.toList]];rw[K,I,[g1,l.toList,∃(j:Nat)(t:iz),[X]=.int j t/\g p=j/\zx h qS [H]=aa (s0 rs j)],λp f=>by rw[R,j,J,Dn.mp (W.mem_iff.mp f)];rw[R,z1,z2,CB.mp J];rw[aG,t,e,O j _ z2,#[j,t,e,by rw[aa,g,e];rfl,Z j _ z1]],f,[S,a.zip B,g]=br [fM],by apply mw;intro j;rw[dR];rw[D,J,j<[fM]];{rw[K,m,j<[bV],[g],u,j<[br],[g]];have:[cb,a.zip B,(a[j],B[j])]:=CB.mpr (by simp);rw[R,t,e,O j _ (cQ u)];rw[this,cQ ([aD,J]),ud];rw[ab,e];rfl};{rw[aU,[zX,mB],mx ([aD,J])]}];rw[ak,pr,(l.toList.map g).Perm (br [fM]),[bB,f,W.map g],sz,l.toList.length=[fM],by rw[W.length_eq,mB,U,x,aiG],pw,(l.toList.map g).Pairwise (Ir.lp rs),by rw[aiq];intro i j C L H;rw[aR]at C L;rw[ai,q,r i j (yQ H) [g],S,∀(i:Nat)(O:i<l.toList.length),KK (JK h qS) l i=s0 rs (g [Ab]),λi O=>by obtain⟨j,t,_,G,N⟩:=I [Ab] (SK O);(have:[aY,l,[Ab]]:=by rw[<-Ur,cQ O]);rw[dU,KK,this];show(zx h qS [Ab].1).getD []=_;rw[aU,N,G]];rw[S i C,S j L]at q;rw[JM,JM];refine Zh q [lj];rw[aM,(aiQ (h₀:=[q,aR,C]) (h₁:=[q,aR,L]) (pr.nodup_iff.mpr SH)).mp ([a3,JM,JM,z])]];rw[R,s,T,Ir.yc rs];rw[<-JO (pr.trans T.symm) pw s,cq,Array.toList_map];exact K5 _ λp d=>by obtain⟨j,t,F,G,_⟩:=I p d;rw[aS,t,[f]]
def afu(p:lg r j)(h:j.length=[gm]):j=r:=[cd,EG p]
def AT(T:Tb)(X:Cx)(pins:[eJ])(σ:L2.St)(r:[ba])(S:aj)(F0 H0:Hp)(rs:[a0])(a kS f c:ai)(e1:Nat)(d:bn)(i:Nat)(s:aD):[P]:=∃F H B e,[ac]/\bB r F0 H0 r F H/\[hm]/\[qu,[kS,a,f],H]/\[bH,kS,[jC,Do B,e]]/\[bH,a,[jC,[ca],e1]]/\[bH,f,d]/\H c=aa [pO]/\[br]=i/\[Hg]
section
variable{T:Tb}{X:Cx}{pins:List (ai×bn)}{σ:L2.St}{p x:au}{scope:fo}{params:so}{r:List ai}{S:aj}{F0 H0:Hp}{rs:List Int}{a kS f c cr:ai}{e1 i jj kk:Nat}{s:aD}{pm ctv:aq}{v:V}{E':aq->aD->Prop}{p0 p1 p2 p3 p4 p5 p6:et}
def afV(ik:[yv])(ft:[g9])(hh:[sn])(hr:X.A.depth<uH)(hu:[tS,8])(hi:[ch])(L:[vE])(vZ:[wi])(P:[sL])(hv:aG T X.K r F0 [W,[qy]] v)(ne:kS≠a/\kS≠f)(hn:n<[fM])(yD:[fM]<64)(I:[LI,n,s]):aE [c4] X.A.in1.in1 (gR [hx] [.int n t]) (λk s'=>aE [c4] X.A.in1.in1 (aqY [m,kS] (·.push k)) (λ_ R4=>[LI,[aw],R4]) E' s') E' s:=by obtain⟨F,H,ks,e,I,A,cl,hf,hk,ha,t9,O,U,key⟩:=I;rw[aA,ob,[eu,[kS,a,f],[J6]],λb J=>[f],N,[eQ,A.pre,A.fr,hv]];obtain⟨h,hrn⟩:∃z,[aQ,rs,n,z]:=#[rs[n],cQ hn];have hg:[fK,n]=h:=[f];let Z:Ir.bL:=#[λ_ _=>Ir.bad,[hY],[mW],0,[hY]];rw[ae,ev,Ir.ah Z [JW] [[ay,n],[fG,[qy]]] S=[Z,[ir,0-h,n]],by(have at_:Ir.at_ [qy] n=aa [l,h]:=by unfold Ir.at_ Ir.place;rw[aR,aJ [g],aJ [g]];show [qy][[hf,[kL]]]?=_;rw[Uo,dR,hrn];rfl);simp only[Ir.ah,Ir.cD,Ir.rd,Ir.bH,Ir.eC,bind,Ir.M.bind,Ir.M.pure,Ir.bo,rL,IB,at_,Ir.bD],gQ (agy (Z:=Z) (E:=[ED]) (j:=n) (v:=v) (Q:=λl H'=>∃F',bB r F H r F' H'/\a_ T X.K r F' H' S/\aG T X.K r F' [ir,0-h,n] l) ik (I.pinned hf ob) ft I.ok.frames hh hr (λenv=>by show X.A.units+1+1+3+1<dM;omega) hi L vZ P #[t,Y] t9 O #[[[ay,n],[fG,[qy]]],[hY],S,r,F,cl,#[Y,λj sl y e1 e2=>?_,λj k d d' e1=>?_],?_]) (λk s'#[l,H',qj,rv,F',HW,E,Q]=>?_) [vr]];{match j,e1,e2 with|0,e1,e2=>cases e1;rw[aT,e2,#[_,Y,[bK]]]|1,e1,e2=>cases e1;rw[aT,e2,#[_,Y,N]]|G+2,e1,e2=>simp at e1};{match j,e1 with|0,e1=>cases e1|1,e1=>cases e1|G+2,e1=>simp at e1};{rw[ev];intro r' F' H' a1 c1 w W;have er:=afu a1.pre (by rw[c1.len,cl.len]);rw[bf,er,#[F',a1,c1,W]]};{rw[am,aG,Q];obtain⟨q,B,rfl,hq,_,hre⟩:=Q;rw[ac,w1,ws,rfl,m,u,hre.dO];rw[ac,w2,ws,rfl,h3,h4,u.dO];rw[h4.fY,m.ci,h3.ci]at hq;obtain rfl:k=[jP]:=rv;rw[K,eH,[dh,b∈[kS,a,f],([gk])->[DB]/\[iL]],[iq,by have z:=qj.eH (b,o) [xW];rw[aS,[cA],[fB]]],C,[qu,[kS,a,f],H'],λb J=>by rw[a9,o,e,ob b J];rw[aS,[bo,eH b o J e],[bo,hf b J]]];obtain⟨k1,_⟩:=eH kS _ (by simp) hk;obtain⟨k2,_⟩:=eH a _ (by simp) ha;obtain⟨k3,_⟩:=eH f _ (by simp) t9;rw[a1,g,[h3,kS,[DB],[k_,s'.heap.update kS (lJ (·.push (da q)))]],[EE],ea,(Do ks).push (da q)=Do (ks++[da q]),by simp,JJ k1 Y #[F',H',ks++[[jP]],_,((qj.u8).BP (t':=s'.toks) (ch:=[kS]) [iq,g b o ([aD,J]) e] λb J=>C b ([ey,dL.mp J])),A.trans HW,E,C,[bB,ea,Ut k1 (·.push (da q))],g _ _ (dt ne.1) k2,g _ _ (dt ne.2) k3,HW.kp O (λz=>by have:=cl.ord z;rw[af,O,this,this]) [rX],[aU,cO,U],λj k e=>?_] (by rw[pj,kX];omega) (by show((Do ks).push (da q)).size<=_;rw[ake,pj,kX];omega)];rw[D,hj,j<ks.length];{rw[lI hj]at e;rw[bu,q',z1,z2,key j k e,#[q',z1,HW.kp z2 (λz=>cl.BH z z2) [rX]]]};{rw[nT [g]]at e;rw[D,z,j-ks.length=0];{rw[aq,z,e,e];obtain rfl:j=n:=[g];rw[Y,hg,#[q,Y,E.sub _ _ hq]]};{rw[aq,mx ([bC]),e,e]}}}
end
section
variable{T:Tb}{X:Cx}{pins:List (ai×bn)}{σ:L2.St}{H:Hp}{s:aD}
open PyProof.Rows.G in def afd(I:[ac])(key:[Hg]):(∃fs,TupsOf s.heap qS B fs)/\[yZ,B,zx s.heap qS k=aa (s0 rs j)]:=by rw[ae,one,[yZ,B,∃q o t t' n,k=[jP]/\[bH,q,o]/\o.cls=[od]/\o.data=.seq [fg,[.int _ t,.int j t']] n],λj k e=>by rw[M,q,rfl,a,key j k e];obtain⟨_,az,J,o,m,O,n,hd⟩:=[aB,c7 _ _ H _ q _,I.aO q _ a];cases J with|cons d J=>cases J with|cons C J=>cases J;rw[cw,d,C,#[q,o,t,t',n,Y,m,O,hd]],#[?_,λj k e=>?_]];{(have:∀l,(∀k∈l,∃q o x y t t' n,k=da q/\[bH,q,o]/\o.cls=.type _/\o.data=.seq [fg,[.int x t,.int y t']] n)->∃fs,TupsOf _ qS l fs:=λl=>by induction l with|nil=>exactλ_=>#[[],[aA]]|cons k l U=>intro h;rw[R,fs,r,U λk L=>h k [oZ]];obtain⟨q,o,x,y,t,t',n,e,m,O,hd⟩:=[gF,k];rw[aS,.int x t::fs,.cons #[q,o,_,n,e,m,O,hd,Y,λ_=>[v1],[uU]] r]);exact this _ λk L=>by rw[R,j,W,Dn.mp L];rw[an,q,o,t,t',n,e,one j k W];exact#[q,o,_,_,t,t',n,e]};{obtain⟨q,o,t,t',n,rfl,m,O,hd⟩:=one j k e;unfold zx;have:isTupObj s.heap [jP]=ae:=[gt,isTupObj,m,O];rw[aJ this];rw[gt,tupKey,m,hd]}
end
section
variable{T:Tb}{X:Cx}{pins:List (ai×bn)}{σ:L2.St}{p x:au}{scope:fo}{params:so}{r:List ai}{S:aj}{F H:Hp}{rs:List Int}{f c cr rg:ai}{i jj kk:Nat}{s:aD}{pm ctv:aq}{v:V}{E':aq->aD->Prop}{p0 p1 p2 p3 p4 p5 p6:et}{t u w:iz}{Q:VK}
def YU(ik:[yv])(ft:[g9])(hh:[sn])(hr:X.A.depth<uH)(hu:[tS,8])(hi:[ch])(L:[vE])(vZ:[wi])(P:[sL])(hv:[sv,[W,[qy]]])(yD:[fM]<64)(I:[ac])(cl:[hm])(hf:hG X pins H f)(t9:[bH,f,[wz]])(O:H c=aa [pO])(HX:IsRange s.heap rg 0 [fM] 1 t u w)(hQ:∀F' H' o,bB r F H r F' H'->a_ T X.K r F' H' S->H' o=ag->Q [m,o] (upd H' o [dv,[ro],[E',j]])):aE [c4] X.A (gR (.builtin "sorted") [[m,rg]] [(iP "key",[hx])]) [ji] E' s:=by refine call_function_entry_kw kind_sorted plain_sorted entry_sorted (ksk_s1 _ _) ?_;unfold aqZ;rw[aj,am (m:=checkCount "sorted" 1 1 _) [cp],[aJ,U5 hh HX yD λh' tk N kp G=>?_]];have g:N.toList.length=[fM]:=[q,Uq,G.1];rw[ao,wpAny_newList ?_ (by rw[g,kX];omega)];rw[ai,I1,I.kept (t':=tk) kp,B,[pK].get? h'.objs.size=aa [jC,N.toList.toArray,0],[cq]];show aE _ _ _ _ _ [cR,[pK]];rw[ao,kc (wpAny_call_entry_kw slot_list_sort #[_,B,Y] entry_list_sort ?_ (ksk_l1 _ _))];rw[ksk_t1];rw[V,fD,I1.jC [dq] (I1.aO.fresh [dq]),dQ,[dB,bF (kp b o e)]];generalize hD:h'.objs.size=D at*;rw[aA,I2,[c5,H,[cR,[pK]]],I1.kept (t':=tk) λb o q=>[kD],s1,zu [pK] D (lJ [sY])];obtain⟨e1,l⟩:∃e1,([pK].update D (lJ λ_=>([ca]:[lw]))).get? D=aa [jC,[ca],e1]:=#[_,Ut B [sY]];unfold ksk_tree;rw[aW,listItems_at B Y ?_,JJ B Y ?_ (by rw[pj,g,kX];omega) [f6]];rw[ao,seqEpoch_at l Y ?_];rw[V,I3,ak.BP (s:=[cR,[pK]]) (t':=tk) (ch:=[D]) I2 [iq,[ha,[Eu,s1]]] λb J=>[q,dL.mp J,fD],n,[cw,s1.2 f (di (dQ f _ t9)),[dQ,kp f _ t9]]];rw[bj,[pK].update D (lJ [sY]),h3];rw[aW,JC ?_ (by rw[Uq,pj,g,kX];omega),wpAny_newList ?_ [f6]];refine kc ?_;rw[K,I4,[c5,H,[cR,[pB]]],I3.kept (t':=tk) λb o q=>[kD],I5,[c5,H,[cR,[uc,[]]]],I4.kept (t':=tk) λb o q=>[kD]];rw[ak,hk5,[uc,([]:[dV])].get? [dg,[pB]]=aa [jC,Do [],0],[cq],m,[dg,[pB]]≠D/\[dg,[pB]]≠f,#[gj (bF [dQ,l]),gj (bF [dQ,n])],st0,AT T X pins σ r S F H rs D [dg,[pB]] f c e1 [wz] 0 [cR,[uc,[]]],#[F,H,[],0,I5,.refl,cl,λb J=>by rw[a0,[c1,J],rfl,J,I4.jC [dq] (I4.aO.fresh [dq])];{rw[a0,[c1,J],rfl,J,fD];{rw[Y,dL.mp J,hf]}},hk5,[qY,l],[qY,n],O,Y,λj k e=>by simp at e]];show aE _ _ _ _ _ [cR,[uc,([]:[dV])]];rw[bj,[uc,([]:[dV])],h5];rw[bj,[dg,[pB]],kS];unfold ksk_rest;rw[ao,wy ?_];(first|rw[List.forIn_toArray]|(rw[<-Array.forIn_toList];rw[ab,List.toList_toArray])|rw[<-Array.forIn_toList]);have a:∀(j:Nat)y,([cb,N.toList,y])->∃t,y=.int j t:=λj y e=>[aG,t,q,G.2 j y ([bB,Ur,e]),#[t,by rw[q];rw[bA];omega]];rw[ao,ksk_fold (AT T X pins σ r S F H rs D kS f c e1 [wz]) N.toList 0 _ st0 (λj y s' hy hI=>?_) λs' hI=>?_];{rw[kL]at hI|-;rw[bl,ty,rfl,a j y hy,hj,j<[fM],[bB,g,[dA,hy]]];rw[ao,zv [pr,afV (E':=[qb]) ik ft hh hr hu hi L vZ P hv m hj yD hI,k,R4,q,[Er]]];exact [aJ,gQ q (λ_ s3 z=>bg #[Y,z]) [Er]]};{rw[kL,g]at hI;obtain⟨F',H',ks,e,qj,A,E,C,Z,ha',apU,_,U,key⟩:=hI;rw[ao,listItems_at Z Y ?_];obtain⟨⟨fs,ht⟩,d⟩:=afd qj key;refine abQ (vs:=N.toList) Z ha' m.1 [g] [g] ht (λk hk=>?_) λst h6 c6 pm W kp6 hA=>?_;{rw[aG,j,hj,Dn.mp hk,#[_,d j k hj]]};{rw[g]at W;rw[aj,#[_,Y,bg #[_,Y,[jO],upd H' D [dv,[ro],[E',j]],?_,Y,hQ F' H' D A E [M,C D (by simp)]]],acI (t':=s'.toks) (ch:=[kS,D]) qj (λb J=>C b (by rw[aK,[c1,J],rfl,J];(simp);(rw[ey,dL.mp J]))) [iq,kp6 b o [uW] [uW] e] [dB,[nv,e,[M,C D (by simp)]]] [k2]];rw[D,z,b=D];{rw[a2];rw[aq,bW,e,e];refine [aC,#[[J,by simp],?_,[hU,sr st].toList,c6,(aeU [g] g d a pm W),[q,akm,hA]]];rw[aR,[bo,Ir.yc rs].length_eq,gY,kX];omega};{rw[af,aW z,e,[J,e]]}}}
end
def M9:∀{l}{rs},Ir.eQ l=aa rs->l=[qy]|[],rs,h=>by rw[a5];rfl|d::l,rs,h=>by cases d with|int i=>(rw[am,Ir.eQ,h];cases e:Ir.eQ l with|none=>grind|some ns=>rw[aq,e,h,h];rw[a8,M9 e])|_=>rw[a5]
def ado:[sI,[bR,"range"],G,∃n,G=[[dm]]/\[jY,p,.nh 0 n]]:=by intro pins s σ H G us Q I r h;rw[M,n,rfl,q,h];rw[dG,C,rfl,t,rfl,mo r,call_range_1 #[[dP],_,I.laid (o:=.nh 0 n) [uh] (by simp) #[_,_,_,[cq]],Y,q _ I.fresh]]
section
variable{T:Tb}{K:aQ}{r:List ai}{F H H':Hp}{S:aj}{c:ai}
def af6(q:[bz])(k:[Jj])(C:[sF,H' a=ag])(j:H' T.tab=[Bt])(O:H' c=aa [pO]):bB r F H r F H'/\[pl,F,H']:=by rw[a7,#[λa o e _=>?_,[gH],[yY],[cY],[mt],C],#[q.len,q.nd,[sE],q.off,λn G a L u=>?_,q.tab.1,[aC,#[c,j,O]]]];{rw[D,z,a=T.tab];{rw[a2];rcases q.tab.2 with t|⟨_,t,_⟩<;>(rw[df,t,e,[aC,#[_,_,Y,j]]])};grind};{exact k a o (q.sub a o e) [i_,z,q.tab.1,e]};{rw[aG,o,m,q.has (cG u),(q.rep n _ a L u).step [f] [gH] [bG,k a o m λz=>q.Rg (z▸cG u),m.symm]]}
end
def EA (env : Ir.Env) (i : Nat) (n : Int) : Ir.M D := match env[i]? with
 | aa (.val (.lst l)) => (do
  let rs ← Ir.bD (Ir.eQ l)
  if n = (rs.length : Int) ∧ rs.length < 64 then Ir.M.pure (.lst ((Ir.iG rs).map fun (j : Nat) => .int (j : Int))) else Ir.bad)
 | _ => Ir.bad
section
variable{T:Tb}{Z:Ir.bL}{E:XK}{X:Cx}
def Zu(t4:[cF])(b:Bt X y (.builtin "sorted"))(b':Bt X N [bR,"range"])(tY:[dS])(LA:∀cr,([wi])->Ko T X vY [xI,kk] c8 ah0 [ra])(ik:vA p x c8 vY)(ft:[g9])(hr:X.A.depth<uH)(hu:[tS,8])(hi:[ch])(L:[vE])(ha:[ap,e,a']):[ap,.Call [si] [.Call (.Name N rp) [e] [] Sr] [#[aa "key",.Lambda vY [xI,kk] c8 ah0,apV]] im,.rz a' i]:=by refine SE.of (e':=.rz a' i) ?_ [bJ] [f];intro pins s σ H Q I#[env,hX,S,r,F,cl,P,h];rw[bl,cr,vZ,I.ok.has x [J,L],e1,[bt,.rz a' i]=(do let d←[bt,a'];let n←[eh,d];EA env i n),rfl];rw[aj,[Jq],Uh [cN,(iZ (xY (pos:=Sr) (p:=rp) ado b'.gl b'.mg b'.bt (iZ ha.pe js tY) b'.nm b'.db tY) js Y) im pins s σ H (wI λv H2=>∃r2 F2 S2 n J,v=[m,J]/\bB r F H r2 F2 H2/\a_ T X.K r2 F2 H2 S2/\H2 J=aa (.nh 0 n)/\al T X.K r2 F2 H2 (EA env i n S2) (λd r' F' H'=>[tN,X.K,r',F',H']) E) I ?_,us,s1,B,H1,I1,r1,q1] Y Y];{refine#[env,hX,S,r,F,cl,P,[to,λd r1 F1 H1#[S1,c1,a1,m]w W=>?_]];cases d with|int n=>rw[ci,W.ci,#[n,Y,λp np=>#[r1,F1,S1,n,p,Y,a1.trans [bl,np],c1.own (c1.hx np) (c1.hW np),bW,?_]]];exact al.from [bl,np] m|_=>rw[ax,m]};obtain⟨w,rfl,r2,F2,S2,n,pg,rfl,a2,c2,HY,u⟩:=Fo q1;rw[M,C,rfl,ru,mo r1];cases ru;refine JF (aa' (LA cr vZ) I1 c2.tab λf c U H3 s3 I3 kp dm ht O t9 hf=>JG ?_);rw[R,a3,c3,af6 c2 kp dm ht O];rw[ag,t1,t2,t3,HX,[aB,c7 X.prog X.w H3 s3.heap pg (.nh 0 n),I3.aO pg _ (kp _ _ HY λz=>by rw[a2];rcases c2.tab.2 with t|⟨_,t,_⟩<;>(rw[aq,t,HY,HY]))]];rw[am,EA,u];cases q:[kv]with|none=>rw[bs,q,u]|some sl=>rw[q]at u;cases sl with|val d=>(cases d with|lst l=>rw[M,rs,ers,h5,al.i5 [aB,al T X.K r2 F2 H1 _ _ E,u]];obtain⟨⟨hn,yD⟩,h6⟩:=h5.ite;subst hn;rw[ac,y0,ey,v,rfl,hv,[fy,a2].slot q];rw[M9 ers]at hv;refine YU ik ft (I3.ok.hd t4) hr hu hi L vZ ey hv yD I3 c3 hf t9 O HX λF' H' o a4 c4 no=>?_;rw[a4,g,al.from (a3.trans a4) h6,A,[S,[ro],[E',j]]=[S,[l5,[ro],j,[am,j]],V.int],[bM,cq],ed,[S,[ro],[sR,j,j]]=[S,[l5,[ro],j,[am,j]],D.int],[bM,cq]];rw[A];rw[ed]at g;refine al.lst c4 g ?_ (aY.Ad _) no;rw[aR,aR,[bo,Ir.yc rs].length_eq,gY];have:64<=lim:=[ah];omega|_=>rw[ax,u])|_=>rw[ax,u]
end
open Ir(Sm)
def Lp:∀{ps:[dE]}{us:[dV]}{n},n∈ps->([zq])->[er,[EV]]=ae|[],_,_,h,_=>[a5]|p::ps,[],_,_,U=>[f]|p::ps,C::us,n,h,U=>by rw[rS,pk];cases q:(n==p)with|true=>rfl|false=>rw[gJ,Lp ?_ [f]]
def ON{U J:[aI]}{f g:U->[be,J]}:∀{l:[h]},([gw,f x=g x])->l.filterMap f=l.filterMap g|[],_=>rfl|[gz],h=>by rw[rO,rO,[gF,x],ON λy L=>h y [f]]
def OM:∀{ps:[dE]}{us:[dV]},ps.Nodup->([zq])->(ps.filterMap λn=>[cl,[EV],v,(n,v)])=[sD]|[],us,_,U=>rfl|p::ps,[],_,U=>[f]|p::ps,C::us,nd,U=>by rw[mv]at nd;rw[rS,rO,pk,ux];simp;rw[bA];rw[ON];rw[bU,OM nd.2 [f]]
def AD(q:oO l.params=aa ps)(hd:l.defaults=[aZ])(nd:ps.Nodup)(U:[zq]):IZ l #[us,[]]=bx [sD]:=by obtain⟨nm,L,pr,body,sc,gl,z,c,kd,I,pm,C,G,ct,bt⟩:=l;simp only at q hd;subst hd;rw[aE,oO,q];{rw[aB,j];rw[bO];unfold IZ;rw[ad,uo,wb,iu];rw[al,m,wA qD=bx _,rfl,m];rw[bj,Ix _ _,ps];rw[K,u,ah' (λn=>[EV].isNone) ps=[],by rw[Cv];intro n h;have:=Lp h U;rw[a'],e,ao (us.length>[mF])=af,nV [g]];simp only[pure_bind,Option.getD_none,gK,akh,Nat.zero_sub,g',nK,u,e,nF,dj,b8,aia,Il,Jl,ai',List.forIn_nil,OM nd U]};grind
def agQ(q:oO A=aa ps):defaultsOf A env=([],[]):=by rw[aE,oO,q];{rfl};grind
def P4(h:(! b)=ae):b=af:=[f]
def Xq(h:F4 p x S=ae)(U:oO A=aa [p])(nd:[bE,p,"__debug__"]/\[cm])(nc:[bE,p,"__classdict__"]/\[f_]):vA p x S A/\∀(env:jd)(cr:ai),env.cells.lookup x=aa cr->C' S env=bx [ra]:=by rw[cr,F4];rw[co,m,u,j,e,P,h];rw[ai,q,bz m,W,S.kind=[kj],by rw[aC,u];{rw[h4]};{cases u}];(have g:=by have:p≠x:=λz=>[a'];exact ut.mpr (dt this));rw[ae,J,S.names.lookup x=aa [ec],by rw[q,pk,g,pk,ux],#[#[W,P4 e,P4 j,λy L=>?_,by rw[q,pk,ux],J,λy L=>?_,λI qual body a pm G ct C=>?_,nd,nc],λenv cr O=>?_]];{rw[q]at L;rw[a0,[c1,L],rfl,L,[uU]];{rw[Y,dL.mp L,[uU]]}};rw[ay];{exact AD (ps:=[p]) U Y (by simp) Y};{rw[dU,C',q];simp[Je,O]}
def kF(h:p8 o=ae):eF o G env whole=whole:=by rw[aE,p8,h];{rw[a5]};{unfold eF;simp}
def sN(h:rC e=ae):∀x,nX e env x=bx x:=by intro x;rw[nQ,e]
def Eg(h:rC e=ae):r_ j e=af:=[nQ,e]
def Yg(h:qK e=ae):GA e:=by intro o i;rw[nQ,e]
def LK(h:qK i=ae):∀x O new,[wO,i,x]:=by intro x O new;rw[nQ,i]
def Ar(h:xj e=ae):jM e t n env=bx af:=[nQ,e]
def ij(h:[qE]):bb [e] env=[(af,[tF])]:=fy h
open Ir(Sm)
structure FnX (T : Tb) (Z : Ir.bL) (X : Cx) (f np : Nat) : Prop where
 ex : ∃ k fd ps, lT X.prog X.w X.K X.mg X.base (kD X.prog X.w) k (T.cS f) fd ps (qL T X.K (Z.call f) np) ∧ eI (k + 1) X.A ∧ k7 X.K fd ps []
 kp : jg X.K (.ref (T.cS f)) = ae
def acf(T:Tb)(Z:Ir.bL)(X:Cx)(x:au):GV->[P]|.fn k=>[fm,T.cS k]|.cls k=>[fm,[gU]]|.exc k=>[fm,T.dq k]|.dh k=>∃d v C,X.mg x=aa C/\bC v C/\(∀r F,[sv,d])/\Z.fA k=aa d|[vC]=>[wf]
structure Rs (T : Tb) (X : Cx) : Prop where
 x0 : ∀ k, 5 ≤ k → k ≤ 12 → k ≠ 9 → ∃ N, XC X.K (T.dq k) N ag
 x3 : ∃ N fI fd qual st q1 q2 q3, X3 X.K (T.dq 9) N fI fd qual st "line" "place" "why" q1 q2 q3
 k9 : jg X.K (.ref (T.dq 9)) = ae
 rm : ∃ k, eI (k + 1) X.A
 xt : Bq T X.K
structure Bd (T : Tb) (X : Cx) (E : XK) : Prop where
 tk : gC X E
 hex : ∀ b ∈ X.ex, ∃ o, (b, o) ∈ X.pn
 st : ∃ fe rest L, X.stack = fe :: rest ∧ fe.frame = aa L ∧ X.env.frame = aa L
 po : sd (aK X.prog X.w) X.A X.env X.xe
 hh : X.A.handled = ag
 rs : Rs T X
structure V3 (T : Tb) (X : Cx) : Prop where
 code : ∃ c, X.env.code = .ref c ∧ akk X.base c T.tab
 blt : X.base.BuiltinsAt X.mg T.tab
 gP : iB ≠ T.tab
 qual : X.env.qual ++ "<lambda>" = T.tq
 room : X.A.depth < uH
structure Gx (T : Tb) (Z : Ir.bL) (W : gz) (c : Ck) (X : Cx) (E : XK) : Prop where
 ft : iX T X.prog X.w X.K
 hu : X.A.units + 64 < dM
 hN : X.N = c.N
 nd : c.N.Nodup
 sc : X.env.scope = c.sc
 gv : ∀ x g, W.gn x = aa g → acf T Z X x g
 mt : ∀ k m f, W.mt k m = aa f → pK X.K (T.eB k) m (T.cS f) ∧ ∀ j, T.eZ j ≠ m
 fx : c.bU = af → ∀ f np, W.ar f = aa np → FnX T Z X f np
 nj : ∀ k np, W.eE k = aa np → Mk X.K (T.eB k) (T.cS (Z.init k)) ∧ W.ar (Z.init k) = aa np
 za : ∀ k, Z.ar k ≠ 0 → W.ar k = aa (Z.ar k)
 wf : ∀ f, W.fn f = T.eZ f
 wn : W.nf = T.nf
 wl : W.tl = T.tl ∧ W.tc = T.tc
 ps : c.bU = af → lz (kD X.prog X.w) X E
 cm : c.bU = af → X.cg = ae
 bd : c.bU = af → c.bZ = af → Bd T X E
 fn : c.bZ = af → ∀ x, c.sc.names.lookup x = aa .cell → X.fn x = ae
 lam : c.lam = ae → c.bZ = af → V3 T X
 xe : ∃ N eE, XC X.K (T.dq 9) N eE ∧ ∀ f ∈ [("line" : au), "place", "why"], (∀ y ∈ [("__getattribute__" : au), "__getattr__", f], gq X.K N y = aa ag) ∧ iO (.type "Exception") f = bx ag
section
variable{T:Tb}{Z:Ir.bL}{E:XK}{X:Cx}{W:gz}{c:Ck}
def Gx.gl(g:[eo])(h:zB [nL]=ae):[dI]:=by rw[aE,zB,h];{rw[aB,q];show [jU,x]=_;rw[Y,g.sc,q]};grind
def Gx.Ho(g:[eo])(h:D5 [nL]=ae):[fQ]:=by rw[dU,gd,g.sc];rw[fn,D5]
def Gx.Wp(g:[eo])(h:[Lp]=ae):L2.lq [i7] x/\[l1]:=by rw[dU,L2.lq,g.sc];rw[aK,(kN _ _).mp h,h,h];{rw[fn,yg]};{rw[aF]at h;rw[aE,xg,h];rw[ay];{rw[aS,[aC,[f]],[J,g.fn [f] x [f]]]};grind}
def sU(h:tM x=ae):[cm]:=[fn,tM]
def not_of(h:(! b)=ae):b=af:=[f]
def Gx.mJ(g:[eo])(h:c.var i x=ae):[ch]/\[fQ]/\[cm]/\[f_]:=by rw[cr,Ck.var];obtain⟨⟨⟨m,u⟩,e⟩,q⟩:=h;exact#[[a_,g.hN],g.Ho u,sU e,[hB,q]]
def Gx.qd(g:[eo])(h:c.loc i x=ae):[ch]/\L2.lq [i7] x/\[l1]:=by rw[cr,Ck.loc];rw[aS,[a_,g.hN],g.Wp [cU]]
def Gx.vU(g:[eo])(h:c.dh x=ae):[dI]/\[cm]:=by rw[am,Ck.dh,h];rw[hE];rw[aS,g.gl [dJ],sU [cU]]
def Gx.vT(g:[eo])(h:c.bt W x y=ae):x=y/\[dI]/\[wf]:=by rw[cr,Ck.bt];obtain⟨⟨m,u⟩,e⟩:=h;rw[bq,bz m,g.gl u];rw[aE,MT,e];{rw[aB,q];exact g.gv x _ q};grind
def Gx.zI(g:[eo])(hh:c.bU=af)(h:W.ar f=aa np):[vY,np]:=let z:=g.fx hh f _ h;#[z.ex,z.kp,g.ps hh]
def Gx.MM(g:[eo])(hh:c.bU=af)(h:W.eE k=aa np):DE T Z X E k np:=let#[a,b]:=g.nj k _ h;#[a,g.zI hh b]
def X4:gC X EF:=λ_ _ _ _ _ _ _ _ _ h=>h.elim
def Kr:lz (kD X.prog X.w) X EF:=by intro pins σ H s e S I h;obtain⟨_,_,_,_,_,_,_,_,_,_,_,_,_,_,_,q⟩:=h;exact q.elim
def Gx.ef(g:[eo]):Gx T Z W c X EF:=[wF,g.sc,g.fx,λ_=>Kr,g.cm,λa b=>let z:=g.bd a b;#[X4,z.hex,z.st,z.po,z.hh,z.rs],g.fn,g.lam]
def Gx.lm(g:Gx T Z W c X E)(hh:c.bU=af){xe}(A:∀b∈l,∃o,(b,o)∈pn)(tk:gC (X.lm s H S (dN S q C X.env) l xe pn) E):Gx T Z W (c.yk S) (X.lm s H S (dN S q C X.env) l xe pn) E:=#[g.ft,g.hu,g.hN,g.nd,by show sB _ _=_;rw[g.sc];rfl,g.gv,g.mt,λ_ f np h=>let z:=g.fx hh f _ h;#[z.ex,z.kp],g.nj,g.za,g.wf,g.wn,g.wl,λ_=>Fd A tk,λ_=>g.cm hh,(λ_ z=>by cases z),(λz=>by cases z),(λ_ z=>by cases z),g.xe]
def Gx.bZ(g:Gx T Z W c X E)(hh:c.bU=af):Gx T Z W (c.yk S) (X.bZ s H S (dN S q C X.env) l) EF:=#[g.ft,g.hu,g.hN,g.nd,by show sB _ _=_;rw[g.sc];rfl,g.gv,g.mt,λ_ f np h=>let z:=g.fx hh f _ h;#[z.ex,z.kp],g.nj,g.za,g.wf,g.wn,g.wl,λ_=>Kr,λ_=>g.cm hh,(λ_ z=>by cases z),(λz=>by cases z),(λ_ z=>by cases z),g.xe]
end
def Qo:[o2]|.BoolOp _ _ _=>ae|_=>af
structure SB (T : Tb) (Z : Ir.bL) (E : XK) (X : Cx) (e : bQ) (e' : Ex) : Prop where
 se : SE T Z E X e e'
 pw : Qo e = ae → PW X e (ky T X.K Z E e')
def SB.of(h:[q0])(n:Qo e=af):SB T Z E X e e':=#[h,λq=>[f]]
section
variable{T:Tb}{Z:Ir.bL}{E:XK}{X:Cx}{W:gz}{c:Ck}
def Zm(h:isFn k o=ae):o=aa (.fn k):=[fn,isFn]
def R1(h:zM k o=ae):o=aa (.cls k):=[fn,zM]
def aac(h:EH k o=ae):o=aa (.dh k):=[fn,EH]
def LG(h:zQ k o=ae):o=aa (.exc k):=[fn,zQ]
def Ge(h:n<=100):n<=lim:=by have:100<=lim:=[ah];omega
def ae5(h:[qE])(u:noStar f=ae):[AG,q,bb [e,f] env,env,[e,f]]:=[aU,fy h,fy u]
def Ax(g:[eo])(O:[cF])(h:Aw c t B=ae):PG X B (gT X.K t):=by rw[aE,Aw,h];{rw[bu,m,u,q,g.qd h,vC [u6] m u q]};{rw[aF]at h;rw[aO,m,u,q,g.qd [dJ],z,j,e,g.qd [cU]];rw[bp,nd,X.N.Nodup,[u6],adX O (Rz (vC nd m u q) (Rz (vC nd z j e) aam))]};grind
def Ba(g:[eo])(f:∀l,L l=ae->[wG,l,it])(O:∀e,L [e]=ae->∃a,it=[a]/\[d'])(h:zD W c k I F L=ae):[ka,I,F,k,it]:=by rw[aE,zD,h];{rw[bu,a,rfl,z,O _ h,ac3 z]};{rw[bu,a,rfl,z,O _ h,Y4 z]};{rw[bv];obtain⟨⟨m,u⟩,q⟩:=h;rw[bu,rfl,gl,mg,g.vT u,Y7 gl mg (f _ q) (ij m)]};{rw[bv];obtain⟨⟨⟨m,G⟩,u⟩,q⟩:=h;rw[bu,rfl,gl,mg,g.vT u,XJ gl mg (f _ q) ([aU,fy m,fy G]) (ij G)]};{rw[bv];obtain⟨⟨⟨m,G⟩,u⟩,q⟩:=h;rw[M,rfl,gl,mg,g.vT u];rw[aE,rh,G];rw[bU,XZ gl mg (f _ q) (ij m)]};{rw[c0,m,j,u,J,B,q];rw[M,rfl,gl,mg,g.vT u];rw[V,J,bz J,B,bz B];subst J B;rw[aE,rh,j];rw[bU,aa9 gl mg (f _ q) (ij m)]};{rw[bv];rw[co,m,G,j,u,q,h];rw[M,rfl,gl,mg,g.vT u];rw[aE,rh,j];rw[bU,YH gl mg (f _ q) (fy m) [bM,ij G]]};{rw[bv];rw[co,j,x,U,d,q,h];have d:=bz d;subst d;rw[M,a,rfl,z,O _ q];rw[aE,rh,j];rw[bU,aaF z (kF x) U]};grind
def vy(g:[eo])(h:Av c S B t=ae):lZ X.N [i7] S [y']/\[hU,[y']]=t:=by rw[am,Av,h];rw[af,aF,h,#[[a3,g.hN,g.sc,acX [dJ]],bz [cU]]]
def Wu:hl "len"=[gC,"len"]:=[dy]
def aeV:hl "sum"=[gC,"sum"]:=[dy]
def agz:hl "any"=[gC,"any"]:=[dy]
def aba:hl "all"=[gC,"all"]:=[dy]
def Xo:[uA,"int"]:=[dy]
def Ye:[uA,"str"]:=[dy]
def ag5:hl "ord"=[gC,"ord"]:=[dy]
def EE:hl "list"=aa [je]:=[dy]
def Wt:hl "tuple"=aa [od]:=[dy]
def Q':[uA,"dict"]:=[dy]
def NY:hl "sorted"=[gC,"sorted"]:=[dy]
def UR:[uA,"range"]:=[dy]
def YB(h:BB a=ae):a=[h9]:=[fn,BB]
def Yt(h:AH b=aa i):b=[gY]:=[fn,AH]
def MK(g:[eo]){e:bQ}(h:[gX,e,.Dict [aa (.Tuple [] _ _)] [.Name x _] _,BB a&&[gn,AH b,i,c.var i x,af]]=ae):∃B A x p pos i,e=[BN,B]/\a=[h9]/\b=[gY]/\[ch]/\[fQ]/\[cm]/\[f_]:=by rw[a6];{rw[ar,aF,h,m,u,h];rw[aC,u];{rw[aB,q];exact#[_,_,_,_,_,_,Y,YB m,Yt q,g.mJ u]};grind};grind
def Om:hl "min"=[gC,"min"]:=[dy]
def KR:hl "max"=[gC,"max"]:=[dy]
def Gx.bt(g:[eo])(h:c.bt W x y=ae)(J:hl y=aa C)(nm:y≠"__name__")(db:[bE,y,"__debug__"]):Bt X x C:=[bu,rfl,gl,mg,g.vT h,#[gl,mg,J,nm,db]]
end
def KD{r}(h:[hy])(B:PE X [kV,b,r] [fl,e])(z:[uB,[kV,b,r],e]):SB T Z E X [kV,a,b::r] (.and l e):=[JE,abn h B z]
def Qu{r}(h:[hy])(B:PE X [kY,b,r] [fl,e])(z:[uB,[kY,b,r],e]):SB T Z E X [kY,a,b::r] (.or l e):=[JE,Wl h B z]
section
variable{T:Tb}{Z:Ir.bL}{W:gz}
mutual
theorem bf:∀(e':Ex)(c:Ck)(e:bQ),aL W e' c e=ae→∀(X:Cx)(E:XK),Gx T Z W c X E→SB T Z E X e e'|.c d,c,e,h,X,E,g=>by unfold aL at h;split at h;{split at h;{rw[←bz h];exact .of Kp Y};{cases h}};{split at h;{rw[←bz h];exact .of agD Y};{cases h}};{split at h;{rw[←gp h];exact .of ab3 Y};{cases h}};{split at h;{exact .of ac0 Y};{cases h}};{cases h}|.v i,c,e,h,X,E,g=>by unfold aL at h;split at h;{obtain⟨m,u,h3,h4⟩:=g.mJ h;exact .of (Ay m u h3 h4) Y};{cases h}|.g k,c,e,h,X,E,g=>by unfold aL at h;split at h;{rw[aF]at h;obtain⟨gl,db⟩:=g.vU h.1;obtain⟨d,v,C,m,u,h3,h4⟩:=g.gv _ _ (aac h.2);exact .of (aeE gl m u h3 h4 db) Y};{cases h}|.add a b,c,e,h,X,E,g=>by unfold aL at h;split at h;{rw[aF]at h;exact .of (ade (bf a c _ h.1 X E g).se (bf b c _ h.2 X E g).se) Y};{cases h}|.sub a b,c,e,h,X,E,g=>by unfold aL at h;split at h;{rw[aF]at h;exact .of (Ow (bf a c _ h.1 X E g).se (bf b c _ h.2 X E g).se) Y};{cases h}|.mul a b,c,e,h,X,E,g=>by unfold aL at h;split at h;{rw[aF]at h;exact .of (acQ (bf a c _ h.1 X E g).se (bf b c _ h.2 X E g).se) Y};{cases h}|.mK a b,c,e,h,X,E,g=>by unfold aL at h;split at h;{rw[aF]at h;exact .of (aha (bf a c _ h.1 X E g).se (bf b c _ h.2 X E g).se) Y};{cases h}|.mod a b,c,e,h,X,E,g=>by unfold aL at h;split at h;{rw[aF]at h;exact .of (Vm (bf a c _ h.1 X E g).se (bf b c _ h.2 X E g).se) Y};{cases h}|.neg a,c,e,h,X,E,g=>by unfold aL at h;split at h;{exact .of (abK (bf a c _ h X E g).se) Y};{cases h}|.lt a b,c,e,h,X,E,g=>by unfold aL at h;split at h;{rw[aF]at h;exact .of (Ym (by have:=g.hu;omega) (bf a c _ h.1 X E g).se (bf b c _ h.2 X E g).se) Y};{cases h}|.le a b,c,e,h,X,E,g=>by unfold aL at h;split at h;{rw[aF]at h;exact .of (XE (bf a c _ h.1 X E g).se (bf b c _ h.2 X E g).se) Y};{cases h}|.gt a b,c,e,h,X,E,g=>by unfold aL at h;split at h;{rw[aF]at h;exact .of (Yc (bf a c _ h.1 X E g).se (bf b c _ h.2 X E g).se) Y};{cases h}|.ge a b,c,e,h,X,E,g=>by unfold aL at h;split at h;{rw[aF]at h;exact .of (abY (bf a c _ h.1 X E g).se (bf b c _ h.2 X E g).se) Y};{cases h}|.eq a b,c,e,h,X,E,g=>by unfold aL at h;split at h;{rw[aF]at h;exact .of (abd g.hu (bf a c _ h.1 X E g).se (bf b c _ h.2 X E g).se) Y};{cases h}|.ne a b,c,e,h,X,E,g=>by unfold aL at h;split at h;{rw[aF]at h;exact .of (aao g.hu (bf a c _ h.1 X E g).se (bf b c _ h.2 X E g).se) Y};{cases h}|.kq a,c,e,h,X,E,g=>by unfold aL at h;split at h;{exact .of (afS (bf a c _ h X E g).se) Y};{cases h}|.pQ a,c,e,h,X,E,g=>by unfold aL at h;split at h;{exact .of (WW (bf a c _ h X E g).se) Y};{cases h}|.mem a b,c,e,h,X,E,g=>by unfold aL at h;split at h;{simp only[aF]at h;exact .of (agf g.ft g.hu (Eg h.1.1) (bf a c _ h.1.2 X E g).se (bf b c _ h.2 X E g).se) Y};{cases h}|.oj a b,c,e,h,X,E,g=>by unfold aL at h;split at h;{simp only[aF]at h;exact .of (adk g.ft g.hu (Eg h.1.1) (bf a c _ h.1.2 X E g).se (bf b c _ h.2 X E g).se) Y};{cases h}|.pU a b d,c,e,h,X,E,g=>by unfold aL at h;split at h;{simp only[aF]at h;exact .of (X9 (Eg h.1.1.1) (bf a c _ h.1.1.2 X E g).se (bf b c _ h.1.2 X E g).se (bf d c _ h.2 X E g).se) Y};{cases h}|.and a b,c,e,h,X,E,g=>by unfold aL at h;split at h;{rw[aF]at h;have J:=(bf b c _ h.2 X E g).se;exact KD (bf a c _ h.1 X E g).se (KE J.pe) (UC J.pt)};{rw[aF]at h;have J:=bf b c _ h.2 X E g;exact KD (bf a c _ h.1 X E g).se J.se.pe (J.pw Y)};{cases h}|.or a b,c,e,h,X,E,g=>by unfold aL at h;split at h;{rw[aF]at h;have J:=(bf b c _ h.2 X E g).se;exact Qu (bf a c _ h.1 X E g).se (KE J.pe) (aer J.pt)};{rw[aF]at h;have J:=bf b c _ h.2 X E g;exact Qu (bf a c _ h.1 X E g).se J.se.pe (J.pw Y)};{cases h}|.not a,c,e,h,X,E,g=>by unfold aL at h;split at h;{exact .of (WG (bf a c _ h X E g).se) Y};{cases h}|.ite t a b,c,e,h,X,E,g=>by unfold aL at h;split at h;{simp only[aF]at h;exact .of (af' (bf t c _ h.1.1 X E g).se (bf a c _ h.1.2 X E g).se (bf b c _ h.2 X E g).se) Y};{cases h}|.tup l,c,e,h,X,E,g=>by unfold aL at h;split at h;{rw[aF]at h;exact .of (Mz (Ge (bz h.2)) (kB l c _ h.1 X E g)) Y};{cases h}|.lst l,c,e,h,X,E,g=>by unfold aL at h;split at h;{rw[aF]at h;exact .of (agm (Ge (bz h.2)) (kB l c _ h.1 X E g)) Y};{cases h}|.iS b,c,e,h,X,E,g=>by unfold aL at h;split at h;{exact .of VH Y};{cases h}|.lv a b,c,e,h,X,E,g=>by unfold aL at h;obtain⟨kk,A,x,p,pos,i,rfl,rfl,rfl,m,u,h3,h4⟩:=MK g h;exact .of (aew (by have:=g.hu;omega) m u h3 h4) Y|.ix a i,c,e,h,X,E,g=>by unfold aL at h;split at h;{simp only[aF]at h;exact .of (OJ g.ft (by have:=g.hu;omega) (bf a c _ h.1.2 X E g).se (bf i c _ h.2 X E g).se (Yg h.1.1)) Y};{cases h}|.kx a lo hi,c,e,h,X,E,g=>by unfold aL at h;split at h;{simp only[aF]at h;exact .of (af9 (bf a c _ h.1.1 X E g).se (bf lo c _ h.1.2 X E g).se (bf hi c _ h.2 X E g).se) Y};{cases h}|.ry a lo,c,e,h,X,E,g=>by unfold aL at h;split at h;{simp only[aF]at h;exact .of (YX (bf a c _ h.1 X E g).se (bf lo c _ h.2 X E g).se) Y};{cases h}|.lX a hi,c,e,h,X,E,g=>by unfold aL at h;split at h;{simp only[aF]at h;exact .of (adp (bf a c _ h.1 X E g).se (bf hi c _ h.2 X E g).se) Y};{cases h}|.av a f,c,e,h,X,E,g=>by unfold aL at h;split at h;{simp only[aF]at h;obtain⟨⟨⟨m,u⟩,h3⟩,h4⟩:=h;rw[bz h3,g.wf];exact .of (aem g.ft (by rw[←g.wn];exact bz u) (kF m) (bf a c _ h4 X E g).se) Y};{cases h}|.mX i k,c,e,h,X,E,g=>by unfold aL at h;split at h;{rw[aF]at h;obtain⟨m,u,h3,h4⟩:=g.mJ h.1;obtain⟨N,eE,xc,q⟩:=g.xe;have hk:=h.2;simp only[kN,aF,d0]at hk;rcases hk with(⟨rfl,rfl⟩|⟨rfl,rfl⟩)|⟨rfl,rfl⟩;{obtain⟨q1,q2⟩:=q "line" (by simp);exact .of (Hg m u h3 h4 xc (.inl ⟨Y,Y⟩) q1 q2) Y};{obtain⟨q1,q2⟩:=q "place" (by simp);exact .of (Hg m u h3 h4 xc (.inr (.inl ⟨Y,Y⟩)) q1 q2) Y};{obtain⟨q1,q2⟩:=q "why" (by simp);exact .of (Hg m u h3 h4 xc (.inr (.inr ⟨Y,Y⟩)) q1 q2) Y}};{cases h}|.call f l,c,e,h,X,E,g=>by unfold aL at h;split at h;{simp only[aF]at h;obtain⟨⟨⟨⟨⟨m,u⟩,h3⟩,h4⟩,h5⟩,h6⟩:=h;obtain⟨gl,db⟩:=g.vU u;have ff:=g.zI (not_of m) (bz h4);have mg:=g.gv _ _ (Zm h3);rename_i es _;cases es with|nil=>(cases l with|nil=>exact .of (Ux ff gl mg db) Y|cons _ _=>unfold fO at h6;cases h6)|cons y es=>rw[e8,aF]at h5;exact .of (adc ff gl mg db (fy h5.1) (sV h5.2) (kB l c _ h6 X E g)) Y};{cases h}|.lO k l,c,e,h,X,E,g=>by unfold aL at h;split at h;{simp only[aF]at h;obtain⟨⟨⟨⟨⟨m,u⟩,h3⟩,h4⟩,h5⟩,h6⟩:=h;obtain⟨gl,db⟩:=g.vU u;rw[e8,aF]at h5;exact .of (OQ (g.MM (not_of m) (bz h4)) gl (g.gv _ _ (R1 h3)) db (fy h5.1) (sV h5.2) (kB l c _ h6 X E g)).2 Y};{cases h}|.ly a l,c,e,h,X,E,g=>by unfold aL at h;split at h;{simp only[aF]at h;obtain⟨⟨⟨m,u⟩,h3⟩,h4⟩:=h;(have U:l.length≠0:=by cases l with|nil=>unfold fO at h3;cases h3|cons _ _=>simp);exact .of (aeS (fun k hk=>g.zI (not_of m) (by rw[←hk];exact g.za k (by rw[hk];exact U))) (bf a c _ h4 X E g).se (kB l c _ h3 X E g) u) Y};{cases h}|.new k l,c,e,h,X,E,g=>by unfold aL at h;split at h;{simp only[aF]at h;obtain⟨⟨⟨⟨⟨m,u⟩,h3⟩,h4⟩,h5⟩,h6⟩:=h;obtain⟨gl,db⟩:=g.vU u;have cf:=g.MM (not_of m) (bz h4);have mg:=g.gv _ _ (R1 h3);rename_i es _;cases es with|nil=>(cases l with|nil=>exact .of (aep cf gl mg db) Y|cons _ _=>unfold fO at h6;cases h6)|cons y es=>rw[e8,aF]at h5;exact .of (OQ cf gl mg db (fy h5.1) (sV h5.2) (kB l c _ h6 X E g)).1 Y};{cases h}|.bG k a f l,c,e,h,X,E,g=>by unfold aL at h;split at h;{simp only[aF]at h;obtain⟨⟨⟨⟨⟨⟨⟨m,u⟩,h3⟩,h4⟩,h5⟩,h6⟩,P⟩,B⟩:=h;obtain⟨m1,F⟩:=g.mt _ _ _ (bz u);have ff:=g.zI (not_of m) (bz h3);have n:=(bf a c _ P X E g).se;rename_i es _;cases es with|nil=>(cases l with|nil=>exact .of (YY g.ft ff m1 F h6 n) Y|cons _ _=>unfold fO at B;cases B)|cons y es=>exact .of (acR g.ft ff m1 F h4 (bz h5) h6 n (kB l c _ B X E g)) Y};{cases h}|.b1 o a,c,e,h,X,E,g=>by unfold aL at h;split at h;{simp only[aF]at h;obtain⟨⟨m,u⟩,h3⟩:=h;have sa:=(bf a c _ u X E g).se;have st:=ij (env:=X.env) m;split at h3;{exact .of (UP (g.bt h3 Wu (by decide) (by decide)) st sa) Y};{rw[aF]at h3;exact .of (aa0 (g.cm (not_of h3.1)) (g.bt h3.2 aeV (by decide) (by decide)) st sa) Y};{rw[aF]at h3;exact .of (abg (g.cm (not_of h3.1)) (g.bt h3.2 agz (by decide) (by decide)) st sa) Y};{rw[aF]at h3;exact .of (Y1 (g.cm (not_of h3.1)) (g.bt h3.2 aba (by decide) (by decide)) st sa) Y};{exact .of (aa7 (g.bt h3 Xo (by decide) (by decide)) st sa) Y};{exact .of (afh (g.bt h3 Ye (by decide) (by decide)) st sa) Y};{exact .of (adJ (g.bt h3 ag5 (by decide) (by decide)) st sa) Y};{exact .of (adw (g.bt h3 EE (by decide) (by decide)) st sa) Y};{exact .of (afF (g.bt h3 Wt (by decide) (by decide)) st sa) Y};{exact .of (YW (KO (g.bt h3 Q' (by decide) (by decide)) st sa) (fun _=>rfl) (by intro i z;cases z)) Y};{exact .of (aaJ (g.bt h3 NY (by decide) (by decide)) st sa) Y};{cases h3}};{simp only[aF]at h;obtain⟨⟨⟨m,u⟩,h3⟩,h4⟩:=h;have sa:=(bf a c _ h3 X E g).se;split at h4;{rw[bz h4];exact .of (adC (kF m) u sa) Y};{rw[bz h4];exact .of (abH (kF m) u sa) Y};{rw[bz h4];exact .of (abR (kF m) u sa) Y};{cases h4}};{simp only[aF]at h;obtain⟨⟨⟨⟨⟨h0,m⟩,u⟩,hk⟩,hj⟩,h3⟩:=h;have sa:=(bf a c _ u X E g).se;have st:=ij (env:=X.env) m;have hk:=bz hk;have hj:=bz hj;subst hk hj;split at h3;{exact .of (ael (g.cm (not_of h0)) (g.bt h3 Om (by decide) (by decide)) st sa) Y};{exact .of (agh (g.cm (not_of h0)) (g.bt h3 KR (by decide) (by decide)) st sa) Y};{cases h3}};{cases h}|.b2 o a b,c,e,h,X,E,g=>by unfold aL at h;split at h;{simp only[aF]at h;obtain⟨⟨⟨⟨⟨h0,m⟩,u⟩,h3⟩,h4⟩,h5⟩:=h;have sa:=(bf a c _ h3 X E g).se;have sb:=(bf b c _ h4 X E g).se;have cm:=g.cm (not_of h0);split at h5;{exact .of (Zo cm (g.bt h5 Om (by decide) (by decide)) (fy m) (ij u) (by rw[ij u];rfl) sa sb) Y};{exact .of (abt cm (g.bt h5 KR (by decide) (by decide)) (fy m) (ij u) (by rw[ij u];rfl) sa sb) Y};{cases h5}};{simp only[aF]at h;obtain⟨⟨⟨⟨⟨h0,m⟩,u⟩,h3⟩,h4⟩,h5⟩:=h;have sa:=(bf a c _ h3 X E g).se;have sb:=(bf b c _ h4 X E g).se;split at h5;{rw[bz h5];exact .of (aea (ij m) (kF h0) u sa sb) Y};{rw[bz h5];exact .of (ab6 (ij m) (kF h0) u sa sb) Y};{cases h5}};{cases h}|.i6 a b d,c,e,h,X,E,g=>by unfold aL at h;split at h;{simp only[aF]at h;obtain⟨⟨⟨⟨⟨⟨⟨m,u⟩,h3⟩,h4⟩,h5⟩,h6⟩,P⟩,B⟩:=h;rw[bz h5];exact .of (aeb (by have:=g.hu;omega) ⟨kF m,ae5 u h3,h4,by rw[fy u,ij h3];rfl⟩ (bf a c _ h6 X E g).se (bf b c _ P X E g).se (bf d c _ B X E g).se) Y};{cases h}|.rj a b,c,e,h,X,E,g=>by unfold aL at h;split at h;{simp only[aF]at h;obtain⟨⟨⟨⟨⟨m,u⟩,h4⟩,h5⟩,h6⟩,P⟩:=h;rw[bz h5];exact .of (VB g.ft ⟨kF m,Ce u,h4,by rw[ij u];rfl⟩ (bf a c _ h6 X E g).se (bf b c _ P X E g).se) Y};{cases h}|.comp I t k it d_,c,e,h,X,E,g=>by unfold aL at h;split at h;{simp only[aF]at h;obtain⟨⟨⟨⟨⟨⟨⟨m,u⟩,h3⟩,h4⟩,h5⟩,h6⟩,P⟩,B⟩:=h;have hh:=not_of u;have bd:=g.bd hh (not_of m);obtain⟨w,rE,ik,s1,s2,s3⟩:=bd.st;obtain⟨ok,ho⟩:=vy g h4;refine .of (Xt (Kv bd.tk bd.hex s1 s2 s3 (g.cm hh) (by rw[g.hN];exact g.nd) (Ba g (fun es q=>kB it c es q X E g) (fun e q=>?_) B) ok ho (fun s H iJ cl fp=>Ax (g.bZ hh) (g.cm hh) h5) (fun s H iJ cl fp=>E5 d_ _ _ P _ (g.bZ hh)) (fun s H iJ cl fp xe pn hp tk=>(bf I _ _ h6 _ _ (g.lm hh hp tk)).se.pe) (sN h3))) Y;match it,q with|[],q=>unfold fO at q;cases q|a::l,q=>unfold fO at q;simp only[aF]at q;match l,q with|[],q=>exact⟨a,Y,(bf a c _ q.1.2 X E g).se⟩|_::_,q=>unfold fO at q;cases q.2};{cases h}|.rz a i,c,e,h,X,E,g=>by unfold aL at h;split at h;{simp only[aF]at h;obtain⟨⟨⟨⟨⟨⟨⟨⟨⟨⟨h0,m⟩,u⟩,hk⟩,hz⟩,hp⟩,h3⟩,h4⟩,h5⟩,h6⟩,P⟩:=h;have hk:=bz hk;have hz:=bz hz;have hp:=bz hp;subst hk hz hp;unfold N_ at P;simp only[aF]at P;obtain⟨⟨⟨⟨⟨⟨⟨⟨⟨q1,q2⟩,q3⟩,q4⟩,L⟩,q6⟩,G⟩,q8⟩,q9⟩,Q⟩:=P;obtain⟨ik,cf⟩:=Xq q2 (bz q1) ⟨sU L,sU q6⟩ ⟨not_of G,not_of q8⟩;have S:=g.lam u (not_of m);exact .of (Zu (g.cm (not_of h0)) (g.bt h3 NY (by decide) (by decide)) (g.bt h4 UR (by decide) (by decide)) (ij h5) (fun cr O=>⟨cf _ _ O,S.code,S.blt,S.gP,(agQ (env:=X.env) (bz q1)),(bz q9).trans g.wl.1,(bz Q).trans g.wl.2,S.qual⟩) ik g.ft S.room (by have:=g.hu;omega) (by rw[g.hN];exact bz q3) (by rw[g.sc];exact bz q4) ((bf a c _ h6 X E g).se)) Y};{cases h}|.proj a k,c,e,h,X,E,g=>by unfold aL at h;split at h;{simp only[aF]at h;obtain⟨⟨⟨⟨⟨m,u⟩,h3⟩,h4⟩,h5⟩,h6⟩:=h;split at h6;{simp only[aF]at h6;obtain⟨⟨⟨⟨q1,q2⟩,q3⟩,q4⟩,L⟩:=h6;obtain⟨ok,ho⟩:=vy g q1;have j:=bz h3;have r:=bz h4;subst j r;exact .of (adZ (NE (g.cm (not_of m)) (by rw[g.hN];exact g.nd) (bf a c _ h5 X E g).se ok ho (by rw[g.hN];exact bz q3) (by rw[g.sc];exact bz q2) (sU q4) (not_of L) (sN u))) Y};{cases h6}};{cases h}
theorem kB:∀(l:List Ex)(c:Ck)(es:List bQ),fO W l c es=ae→∀(X:Cx)(E:XK),Gx T Z W c X E→PA X es (ib T X.K Z E l)|[],c,es,h,X,E,g=>by unfold fO at h;split at h;{exact JS};{cases h}|a::l,c,es,h,X,E,g=>by unfold fO at h;split at h;{simp only[aF]at h;exact FF (fy h.1.1) (bf a c _ h.1.2 X E g).se (kB l c _ h.2 X E g)};{cases h}
theorem E5:∀(l:List Ex)(c:Ck)(es:List bQ),Bw W l c es=ae→∀(X:Cx),Gx T Z W c X EF→lY X es (qT T X.K Z l)|[],c,es,h,X,g=>by unfold Bw at h;split at h;{exact V6};{cases h}|a::l,c,es,h,X,g=>by unfold Bw at h;split at h;{rw[aF]at h;cases l with|nil=>exact aeD (bf a c _ h.1 X EF g).se|cons _ _=>cases h.2};{cases h}
end
end
section
variable{T:Tb}{Z:Ir.bL}{W:gz}{c:Ck}{X:Cx}{E:XK}
def Fs(g:[eo])(q:fO W it c [e]=ae):∃a,it=[a]/\[d']:=by match it,q with|[],q=>rw[bO]|a::l,q=>rw[am,fO,q];simp at q;match l,q with|[],q=>exact#[a,Y,[uC,[db].2]]|[d4],q=>rw[am,fO,q];grind
def EO(g:[eo])(h:aL W d c e=ae)(N:d.fresh=ae):[gA,[Ai,d]]:=by cases d with|lst l=>rw[aE,aL,h];{rw[af,aF,h,ae0 (Ge (bz [cU])) (kB l c _ [dJ] X E g)]};{rw[a5]}|iS b=>rw[aE,aL,h];{exact agp};{rw[a5]}|lv a b=>rw[am,aL,h];obtain⟨kk,A,x,p,pos,i,rfl,rfl,rfl,m,u,z,U⟩:=MK g h;exact K' ([aM,g.hu]) m u z U|comp I t k it v=>rw[aE,aL,h];{rw[bv];obtain⟨⟨⟨⟨⟨⟨⟨m,u⟩,z⟩,U⟩,J⟩,O⟩,P⟩,B⟩:=h;rw[V,hh,[hB,u],bd,g.bd hh [hB,m]];rw[an,w,rE,G,F,s2,s3,bd.st];rw[aG,ok,f,vy g U,Kv bd.tk bd.hex F s2 s3 (g.cm hh) [u6] (Ba g (λy q=>kB it c y q X E g) (λe q=>Fs g q) B) ok f (λs H C Q S=>Ax [wm] (g.cm hh) J) (λs H C Q S=>E5 v _ _ P _ [wm]) (λs H C Q S xe pn hp tk=>(bf I _ _ O _ _ (g.lm hh hp tk)).se.pe) (sN z)]};{rw[a5]}|proj a k=>rw[aE,aL,h];{rw[c0,m,u,z,U,J,O];rw[aC,O];{rw[ap,aF,O];rw[co,n,q2,q3,q4,L,O];rw[R,ok,f,vy g n];rw[V,j,bz z,r,bz U];subst j r;exact NE (g.cm [hB,m]) [u6] [uC,J] ok f [q,g.hN,bz q3] [q,g.sc,bz q2] (sU q4) [hB,L] (sN u)};{cases O}};{rw[a5]}|b1 o a=>(cases o<;>first|(cases N;done)|skip);{rw[eZ,Xj [L0,EE] (ij m) [uC,u]]};{rw[eZ,KO [L0,Q'] (ij m) [uC,u]]}|b2 o a b=>(cases o<;>first|(cases N;done)|skip);rw[aE,aL,h];{rw[bv];cases [cU]};{rw[c0,h0,m,u,z,U,J];rw[Y,bz J,afK (ij m) (kF h0) u [uC,z] (bf b c _ U X E g).se]};{rw[a5]}|_=>cases N
def Oe:∃b,jM (.ListComp l B S pos) (aa [si]) n env=bx b/\(b=ae->env.scope.names.lookup y=[fj]):=#[_,Y,λh=>by rw[hE];exact [dJ].1.2]
def Kl(g:[eo])(U:c.loc i x=ae)(h:aL W l c v=ae)(O:rD l=ae):[sj,[dx],v,pos,[t0,EF,l],lx i]:=by rw[M,F,y,n,g.qd U];have nd:X.N.Nodup:=[u6];cases l with|comp I t k it d_=>rw[aE,aL,h];{rw[bv];obtain⟨⟨⟨⟨⟨⟨⟨m,u⟩,N⟩,G⟩,J⟩,z⟩,P⟩,B⟩:=h;have hh:=[hB,u];rw[R,ok,S,vy g G];rw[bu,b,d,f,Oe,adE (g.cm hh) nd F y n f d (Ba g.ef (λw q=>kB _ c _ q X _ g.ef) (λe q=>Fs g.ef q) B) ok S (λs H C A Q=>Ax [wm] (g.cm hh) J) (λs H C A Q=>E5 _ _ _ P _ [wm]) (λs H C A Q=>(bf _ _ _ z _ _ [wm]).se.pe) (sN N)]};grind|proj a k=>rw[aE,aL,h];{rw[c0,m,u,N,G,J,z];rw[aC,z];{rw[ap,aF,z];rw[co,o,q2,q3,q4,L,z];rw[R,ok,S,vy g o];rw[V,j,bz N,r,bz G];subst j r;rw[bu,b,d,f,Oe,afy (g.cm [hB,m]) nd F y n f d (bf a c _ J X _ g.ef).se ok S ([a_,g.hN]) ([a_,g.sc]) (sU q4) [hB,L] (sN u)]};grind};grind|_=>cases O
def KG(h:rD e=ae):qU E e EF:=by cases e with|comp _ _ _ _ _=>exact ab2|proj _ _=>exact WY|_=>rw[a5]
def EN(h:rD e=af):∀G,Ir.jm e G=G:=by intro G;cases e with|comp _ _ _ _ _=>rw[a5]|proj _ _=>rw[a5]|_=>rfl
def Gx.bU(g:[eo])(J:c.bZ=af)(e:aq):Gx T Z W {c with bU:=ae} [mZ] EF:=[wF,g.sc,[u3],[u3],[u3],[u3],g.fn,[Hl]]
def Gx.tr(g:[eo])(hh:c.bU=af)(J:c.bZ=af){xe}(tk:gC [zR] r)(po:[sr,xe])(hex:[rD,X.ex,pn]):Gx T Z W c [zR] r:=[wF,g.sc,[If],λ_=>Fd hex tk,g.cm,λa b=>let z:=g.bd a b;#[tk,hex,z.st,po,z.hh,#[z.rs.x0,z.rs.x3,z.rs.k9,z.rs.rm,z.rs.xt]],g.fn,[Hl]]
end
section
variable{T:Tb}{Z:Ir.bL}{W:gz}
def PR(h:qK i=ae):FT X o i pos:=by intro v;rw[nQ,i]
def NL:IS [mj,o] v n env=bx af:=[bx,v]
def QL:IT [mj,o] v env=bx ag:=rfl
def PB:jM v (aa (.Attribute o f p)) n env=bx af:=[bx,v]
mutual
theorem MD:∀(y:Sm)(c:Ck)(s:kW),ek W y c s=ae→∀(X:Cx)(E:XK),Gx T Z W c X E→PS X s (dW T X.K Z E y)|.set i e,c,s,h,X,E,g=>by unfold ek at h;split at h;{simp only[aF]at h;obtain⟨⟨m,u⟩,z⟩:=h;obtain⟨H,F,n⟩:=g.qd m;cases q:rD e with|true=>exact abF (KG q) (Kl g m u q)|false=>rw[q,CG]at z;exact Xe (by rw[g.hN];exact g.nd) H F (Ar z) n (EN q) (bf e c _ u X E g).se};{cases h}|.own i e,c,s,h,X,E,g=>by unfold ek at h;split at h;{simp only[aF]at h;obtain⟨⟨⟨m,u⟩,z⟩,O⟩:=h;obtain⟨H,F,n⟩:=g.qd m;cases q:rD e with|true=>exact QJ (KG q) (Kl g m u q)|false=>rw[q,CG]at z;exact QJ (.same (EN q)) (yA (by rw[g.hN];exact g.nd) H F (EO g u O) (Ar z) n)};{cases h}|.mO i e,c,s,h,X,E,g=>by unfold ek at h;split at h;{simp only[aF]at h;obtain⟨⟨⟨⟨m,u⟩,z⟩,O⟩,P⟩:=h;obtain⟨H,F,n⟩:=g.qd m;exact ad8 (EN (not_of O)) (yA (by rw[g.hN];exact g.nd) H F (EO g u P) (Ar z) n)};{cases h}|.fz i y,c,s,h,X,E,g=>by unfold ek at h;exact Za (MD y c s h X E g)|.dv a f e,c,s,h,X,E,g=>by unfold ek at h;split at h;{simp only[aF]at h;obtain⟨⟨⟨m,u⟩,z⟩,O⟩:=h;rw[bz u,g.wf];exact ZO g.ft (by rw[←g.wn];exact bz m) PB (bf a c _ z X E g).se (bf e c _ O X E g).se};{cases h}|.eN a f e,c,s,h,X,E,g=>by unfold ek at h;split at h;{simp only[aF]at h;obtain⟨⟨⟨⟨m,u⟩,z⟩,O⟩,P⟩:=h;rw[bz u,g.wf];exact ae3 g.ft (by rw[←g.wn];exact bz m) PB (bf a c _ z X E g).se (EO g O P)};{cases h}|.la a f e,c,s,h,X,E,g=>by unfold ek at h;split at h;{simp only[aF]at h;obtain⟨⟨⟨m,u⟩,z⟩,O⟩:=h;rw[bz u,g.wf];exact aeG g.ft (by rw[←g.wn];exact bz m) (bf a c _ z X E g).se (bf e c _ O X E g).se};{cases h}|.inc i e,c,s,h,X,E,g=>by unfold ek at h;split at h;{rw[aF]at h;obtain⟨H,F,n⟩:=g.qd h.1;exact Z1 (by rw[g.hN];exact g.nd) H F n (bf e c _ h.2 X E g).se};{cases h}|.dec i e,c,s,h,X,E,g=>by unfold ek at h;split at h;{rw[aF]at h;obtain⟨H,F,n⟩:=g.qd h.1;exact afE (by rw[g.hN];exact g.nd) H F n (bf e c _ h.2 X E g).se};{cases h}|.mQ i k e,c,s,h,X,E,g=>by unfold ek at h;split at h;{simp only[aF]at h;obtain⟨⟨⟨m,u⟩,z⟩,O⟩:=h;obtain⟨G,S,d,j⟩:=g.mJ m;exact WX G S d j (bf k c _ z X E g).se (bf e c _ O X E g).se (LK u)};{cases h}|.pO i k e,c,s,h,X,E,g=>by unfold ek at h;split at h;{simp only[aF]at h;obtain⟨⟨⟨m,u⟩,z⟩,O⟩:=h;obtain⟨G,S,d,j⟩:=g.mJ m;exact VI G S d j (bf k c _ z X E g).se (bf e c _ O X E g).se (LK u)};{cases h}|.j2 i k e,c,s,h,X,E,g=>by unfold ek at h;split at h;{simp only[aF]at h;obtain⟨⟨⟨m,u⟩,z⟩,O⟩:=h;obtain⟨G,S,d,j⟩:=g.mJ m;exact ZE (by have:=g.hu;omega) G S d j (bf k c _ u X E g).se (bf e c _ z X E g).se (PR O) NL QL Y};{cases h}|.put a k e,c,s,h,X,E,g=>by unfold ek at h;split at h;{simp only[aF]at h;obtain⟨⟨⟨m,u⟩,z⟩,O⟩:=h;exact Xb (by have:=g.hu;omega) (bf a c _ m X E g).se (bf k c _ u X E g).se (bf e c _ z X E g).se (PR O) NL QL Y};{cases h}|.ei i e,c,s,h,X,E,g=>by unfold ek at h;split at h;{simp only[aF]at h;obtain⟨⟨⟨⟨m,u⟩,z⟩,O⟩,P⟩:=h;obtain⟨G,S,d,j⟩:=g.mJ u;rw[bz m];exact agZ G S d j z Y O Y (bf e c _ P X E g).se};{cases h}|.app a e,c,s,h,X,E,g=>by unfold ek at h;split at h;{simp only[aF]at h;obtain⟨⟨⟨⟨⟨m,u⟩,z⟩,O⟩,P⟩,I⟩:=h;rw[bz m];exact aeK z (kF u) O Y (bf a c _ P X E g).se (bf e c _ I X E g).se};{cases h}|.ej i e,c,s,h,X,E,g=>by unfold ek at h;split at h;{simp only[aF]at h;obtain⟨⟨⟨⟨m,u⟩,z⟩,O⟩,P⟩:=h;obtain⟨G,S,d,j⟩:=g.mJ u;rw[bz m];exact agn G S d j z Y O Y (bf e c _ P X E g).se};{cases h}|.rq i,c,s,h,X,E,g=>by unfold ek at h;split at h;{simp only[aF]at h;obtain⟨⟨m,u⟩,z⟩:=h;obtain⟨G,S,d,j⟩:=g.mJ u;rw[bz m];exact aaX G S d j Y z Y};{cases h}|.ex e,c,s,h,X,E,g=>by unfold ek at h;split at h;{rw[aF]at h;exact afg (Ar h.2) (bf e c _ h.1 X E g).se};{split at h;{exact agd};{cases h}};{cases h}|.ret e,c,s,h,X,E,g=>by unfold ek at h;split at h;{exact ad0 (bf e c _ h X E g).se};{cases h}|.qf i,c,s,h,X,E,g=>by unfold ek at h;split at h;{obtain⟨m,u,z,O⟩:=g.mJ h;exact adN m u z O};{cases h}|.ot i,c,s,h,X,E,g=>by unfold ek at h;split at h;{simp only[aF]at h;obtain⟨⟨⟨⟨h0,v⟩,U⟩,J⟩,hv⟩:=h;have v:=bz v;subst v;obtain⟨m,u,z,O⟩:=g.mJ hv;exact afC (g.cm (not_of h0)) (g.bt J EE (by decide) (by decide)) Y Y U m u z O};{cases h}|.iff t a b,c,s,h,X,E,g=>by unfold ek at h;split at h;{simp only[aF]at h;exact adK (bf t c _ h.1.1 X E g).se (pR a c _ h.1.2 X E g) (pR b c _ h.2 X E g)};{cases h}|.cT t k it b,c,s,h,X,E,g=>by unfold ek at h;split at h;{simp only[aF]at h;obtain⟨⟨⟨⟨⟨m,u⟩,z⟩,O⟩,P⟩,I⟩:=h;have hh:=not_of m;exact Xp (g.bd hh (not_of u)).po (g.cm hh) (Ba g (fun es q=>kB it c es q X E g) (fun e q=>Fs g q) P) (Ax g (g.cm hh) O) (pR b c _ I X E g) (sN z)};{cases h}|.lU t b,c,s,h,X,E,g=>by unfold ek at h;split at h;{simp only[aF]at h;obtain⟨⟨⟨m,u⟩,z⟩,O⟩:=h;exact abc (g.bd (not_of m) (not_of u)).po (bf t c _ z X E g).se (pR b c _ O X E g)};{cases h}|.brk,c,s,h,X,E,g=>by unfold ek at h;split at h;{exact Wb};{cases h}|.hC k l,c,s,h,X,E,g=>by unfold ek at h;split at h;{simp only[aF]at h;obtain⟨⟨⟨⟨⟨m,u⟩,z⟩,O⟩,P⟩,I⟩:=h;have bd:=g.bd (not_of m) (not_of u);obtain⟨gl,db⟩:=g.vU z;have mg:=g.gv _ _ (LG O);have p:=bz P;split at I;{rw[aF]at I;cases l with|nil=>obtain⟨N,xc⟩:=bd.rs.x0 k p.1 p.2 (bz I.1);exact acJ bd.hh bd.hex bd.tk xc gl mg db|cons _ _=>cases I.2};{simp only[aF]at I;obtain⟨⟨⟨o,q2⟩,Q⟩,q4⟩:=I;have A:=bz o;subst A;obtain⟨N,fI,fd,qual,st,a1,a2,a3,x3⟩:=bd.rs.x3;obtain⟨kk,rm⟩:=bd.rs.rm;rw[e8,aF]at Q;exact UH (C:=0) bd.hh rm bd.hex bd.tk x3 gl mg bd.rs.k9 (bz q2) (kB l c _ q4 X E g) db (fy Q.1) (sV Q.2)}};{cases h}|.tr b h',c,s,h,X,E,g=>by unfold ek at h;split at h;{simp only[aF]at h;obtain⟨⟨⟨m,u⟩,z⟩,O⟩:=h;have hh:=not_of m;have J:=not_of u;have bd:=g.bd hh J;obtain⟨w,rE,B,s1,s2,s3⟩:=bd.st;exact VZ s1 s2 s3 bd.hex (fun r xe pn tk po L=>pR b c _ z _ r (g.tr hh J tk po L)) (Fi h' c _ O X E g hh J)};{cases h}|.hd _ _ _,c,s,h,X,E,g=>by unfold ek at h;cases h
theorem pR:∀(l:List Sm)(c:Ck)(C:List kW),l0 W l c C=ae→∀(X:Cx)(E:XK),Gx T Z W c X E→fQ X C (l7 T X.K Z E l)|[],c,C,h,X,E,g=>by unfold l0 at h;split at h;{exact MI};{cases h}|a::l,c,C,h,X,E,g=>by unfold l0 at h;split at h;{rw[aF]at h;exact Qr (MD a c _ h.1 X E g) (pR l c _ h.2 X E g)};{cases h}
theorem Fi:∀(l:List Sm)(c:Ck)(x:List T6),d7 W l c x=ae→∀(X:Cx)(E:XK),Gx T Z W c X E→c.bU=af→c.bZ=af→PH X x (sH T X.K Z E X.N.length l)|[],c,x,h,X,E,g,hh,J=>by unfold d7 at h;split at h;{exact acp (g.bd hh J).tk};{cases h}|.hd k i b::l,c,x,h,X,E,g,hh,J=>by unfold d7 at h;split at h;{simp only[aF]at h;obtain⟨⟨⟨⟨⟨m,u⟩,z⟩,O⟩,P⟩,I⟩:=h;have bd:=g.bd hh J;obtain⟨gl,db⟩:=g.vU u;have mg:=g.gv _ _ (LG z);have p:=bz m;split at I;{exact WS bd.rs.xt p.1 p.2 gl mg (fun e=>pR b _ _ O _ EF (g.bU J e)) (Fi l c _ P X E g hh J) db};{simp only[aF]at I;obtain⟨⟨o,q2⟩,Q⟩:=I;have A:=bz o;subst A;exact acr bd.rs.xt gl mg (by rw[g.hN];exact g.nd) (by rw[g.hN];exact bz q2) (by show X.env.scope.names.lookup _=_;rw[g.sc];exact bz Q) (fun e=>pR b _ _ O _ EF (g.bU J e)) (Fi l c _ P X E g hh J) db};{cases I}};{cases h}|.set _ _::_,c,x,h,X,E,g,hh,J=>by unfold d7 at h;cases h|.own _ _::_,c,x,h,X,E,g,hh,J=>by unfold d7 at h;cases h|.mO _ _::_,c,x,h,X,E,g,hh,J=>by unfold d7 at h;cases h|.fz _ _::_,c,x,h,X,E,g,hh,J=>by unfold d7 at h;cases h|.dv _ _ _::_,c,x,h,X,E,g,hh,J=>by unfold d7 at h;cases h|.eN _ _ _::_,c,x,h,X,E,g,hh,J=>by unfold d7 at h;cases h|.la _ _ _::_,c,x,h,X,E,g,hh,J=>by unfold d7 at h;cases h|.inc _ _::_,c,x,h,X,E,g,hh,J=>by unfold d7 at h;cases h|.dec _ _::_,c,x,h,X,E,g,hh,J=>by unfold d7 at h;cases h|.mQ _ _ _::_,c,x,h,X,E,g,hh,J=>by unfold d7 at h;cases h|.pO _ _ _::_,c,x,h,X,E,g,hh,J=>by unfold d7 at h;cases h|.j2 _ _ _::_,c,x,h,X,E,g,hh,J=>by unfold d7 at h;cases h|.put _ _ _::_,c,x,h,X,E,g,hh,J=>by unfold d7 at h;cases h|.ei _ _::_,c,x,h,X,E,g,hh,J=>by unfold d7 at h;cases h|.app _ _::_,c,x,h,X,E,g,hh,J=>by unfold d7 at h;cases h|.ej _ _::_,c,x,h,X,E,g,hh,J=>by unfold d7 at h;cases h|.rq _::_,c,x,h,X,E,g,hh,J=>by unfold d7 at h;cases h|.ex _::_,c,x,h,X,E,g,hh,J=>by unfold d7 at h;cases h|.ret _::_,c,x,h,X,E,g,hh,J=>by unfold d7 at h;cases h|.qf _::_,c,x,h,X,E,g,hh,J=>by unfold d7 at h;cases h|.ot _::_,c,x,h,X,E,g,hh,J=>by unfold d7 at h;cases h|.iff _ _ _::_,c,x,h,X,E,g,hh,J=>by unfold d7 at h;cases h|.cT _ _ _ _::_,c,x,h,X,E,g,hh,J=>by unfold d7 at h;cases h|.lU _ _::_,c,x,h,X,E,g,hh,J=>by unfold d7 at h;cases h|.brk::_,c,x,h,X,E,g,hh,J=>by unfold d7 at h;cases h|.hC _ _::_,c,x,h,X,E,g,hh,J=>by unfold d7 at h;cases h|.tr _ _::_,c,x,h,X,E,g,hh,J=>by unfold d7 at h;cases h
end
end
structure Hl (T : Tb) (W : gz) (K : aQ) (f : Nat) (F : Ir.Fn) (fd : uI) (ps : List au) : Prop where
 ex : ∃ name qual params body scope kV doc pm an cdv ct oc od osl N, fd = zj name qual params body scope .none kV doc pm an cdv ct ∧ K.lookup (T.cS f) = aa ⟨oc, od, .func fd, osl⟩ ∧ sj K cdv qual = ae ∧ Aj N ps scope ∧ oO params = aa ps ∧ N.length = F.ns ∧ l0 W F.body ⟨N, scope, af, af, f == W.lf⟩ body = ae ∧ ((f == W.lf) = ae → ∃ c, cdv = .ref c ∧ Dq K c T.tab = ae ∧ (qual ++ (".<locals>." : au)) ++ ("<lambda>" : au) = T.tq)
 kp : jg K (.ref (T.cS f)) = ae
 nd : ps.Nodup
 np : ps.length = F.np
def QK(T:Tb)(G:Ir.q_)(K:aQ)(mg:[o8])(x:au):GV->[P]|.fn k=>mg x=[eq,T.cS k]|.cls k=>mg x=[eq,[gU]]|.exc k=>mg x=[eq,T.dq k]|.dh k=>∃d v C,mg x=aa C/\bC v C/\(∀r F,[cL])/\G.fA k=aa d|[vC]=>mg x=ag
structure NP (T : Tb) (W : gz) (G : Ir.q_) (P : cP) (w : cz) (K : aQ) (mg : au → Option aq) : Prop where
 ft : iX T P w K
 gv : ∀ x g, W.gn x = aa g → QK T G K mg x g
 mt : ∀ k m f, W.mt k m = aa f → pK K (T.eB k) m (T.cS f) ∧ ∀ j, T.eZ j ≠ m
 nj : ∀ k np, W.eE k = aa np → Mk K (T.eB k) (T.cS (G.init k)) ∧ W.ar (G.init k) = aa np
 za : ∀ k, G.ar k ≠ 0 → W.ar k = aa (G.ar k)
 ar : ∀ f np, W.ar f = aa np → ∃ F, G.fns[f]? = aa F ∧ F.np = np
 wf : ∀ f, W.fn f = T.eZ f
 wn : W.nf = T.nf
 wl : W.tl = T.tl ∧ W.tc = T.tc
 ba : ∃ bm o, mg "__builtins__" = aa (.ref bm) ∧ bm ≠ pc ∧ bm ≠ iB ∧ bm ≠ T.tab ∧ K.lookup bm = aa o ∧ o.cls = .type "module" ∧ o.dict = aa pc ∧ o.data = .plain
 gP : iB ≠ T.tab
 xe : ∃ N eE, XC K (T.dq 9) N eE ∧ ∀ f ∈ [("line" : au), "place", "why"], (∀ y ∈ [("__getattribute__" : au), "__getattr__", f], gq K N y = aa ag) ∧ iO (.type "Exception") f = bx ag
 x0 : ∀ k, 5 ≤ k → k ≤ 12 → k ≠ 9 → ∃ N, XC K (T.dq k) N ag
 x3 : ∃ N fI fd qual st q1 q2 q3, X3 K (T.dq 9) N fI fd qual st "line" "place" "why" q1 q2 q3
 k9 : jg K (.ref (T.dq 9)) = ae
 xt : Bq T K
 fn : ∀ f F, G.fns[f]? = aa F → ∃ fd ps, Hl T W K f F fd ps
section
variable{T:Tb}{W:gz}{G:Ir.q_}{P:cP}{w:cz}{K:aQ}{mg:au->Option aq}{base:bP}
def Yp(h:[co]):cJ T K r F H ([eE,aa]++fH n ag) [BW,n] [hY]:=by rw[aZ,U,h.length,#[by simp[U],λi s x e z=>?_,λi j d a e _ _=>?_]];{rw[D,q,i<[E]];{rw[lI ([aD,q]),dR,cQ q]at e;rw[cI];rw[M,v,L,m,h.get (cQ q)];rw[lI (by simp[U];exact q),dR,L]at z;rw[aT,z,#[v,Y,m]]};{rw[nT ([aD,q]),C6]at e;rw[aC,e];{rw[aT,e,True.intro]};{rw[cI]}}};grind
def aa2{l:[ak]}:fc I [BW,n] O:=λi d e=>[f]
def ac'(h:al T K r m H (Ir.jZ Z F l S) (λd j x z=>[tN,K,j,x,z]) E):al T K r m H (Ir.bh Z F.body [BW,F.ns-F.np] S) (gE T K H {nx:=λ_ z=>Q [aX] z,rt:=Q}) E:=by rw[cf,e,Ir.jZ Z F l S=[qA,S],rfl,h];cases q:Ir.bh Z _ _ S with|ok f p=>(rw[q]at h;cases f with|nx u=>exactλj x z a c σ O _ _=>h _ _ _ a c _ [aX]|rt d=>exact h|bk u=>rw[ax,h])|ex k B p=>rw[af,q,h,h]|bad=>rw[af,q,h,h]
def Q3(S:NP T W G P w K mg)(hB:K.In base):∀(n f:Nat)(F:Ir.Fn)(fd:uI)(ps:[dE]),([aQ,G.fns,f,F])->Hl T W K f F fd ps->lT P w K mg base (kD P w) (2*n) [gP] fd ps (qL T K (Ir.run G n f) F.np)|0,f,F,fd,ps,hF,s=>#[λB H Q E#[ds,a,r,m,c,hr,hn,h]=>[tI,h],λA outer s H j us B Q E _ _ _ _#[ds,a,r,m,c,hr,hn,h]=>[tI,h]]|[aw],f,F,fd,ps,hF,s=>by obtain⟨I,qual,vY,body,c8,kV,rG,pm,an,O,ct,oc,od,t5,N,rfl,lk,gX,sc,X,o0,Ss,i⟩:=s.ex;refine Z2 (k:=2*n+1) lk gX sc (λB H Q E#[ds,a,r,m,c,hr,hn,h]=>by rw[hr.length,hn,s.np]) λA outer L H B Q E hr#[ds,a,r,m,c,v3,hn,h]=>?_;let Z:Ir.bL:=#[Ir.run G n,G.init,G.fA,G.fuel,G.ar];rw[ae,g,Gx T Z W #[N,c8,af,af,f==W.lf] [wH,kD P w,c8,[gP],O,L,H] E,by refine#[S.ft,hr.units,Y,sc.nd,Y,λx gv hg=>?_,S.mt,λ_ e q ha=>?_,S.nj,S.za,S.wf,S.wn,S.wl,λ_=>X0,[bJ],λ_ _=>#[OE,[C4,[]],#[_,_,_,Y,Y,Y],aed,hr.hd,#[S.x0,S.x3,S.k9,#[2*n,hr],S.xt]],λ_ _ _=>rfl,λU _=>?_,S.xe];{have:=S.gv x gv hg;cases gv with|fn k=>rw[b2]|cls k=>rw[b2]|exc k=>rw[b2]|dh k=>rw[b2]|blt=>rw[b2]};{rw[aO,F',p,rfl,S.ar e q ha,C,l,s',S.fn e F' p];obtain⟨apW,apX,apY,apZ,ap0,kV',ap2,pm',an',ap5,ct',oc',od',ap9,y,rfl,lk',ap',sc',z,ah2,aqb,_⟩:=id s'.ex;rw[aS,#[2*n,_,l,Q3 S hB n e F' _ l p s',hr,.all λus U=>AD z Y s'.nd U],s'.kp]};{rw[ag,c0,e1,e2,e3,i U];obtain⟨bm,o,b1,b2,v,t,b5,d⟩:=S.ba;exact#[#[c0,e1,akn hB e2],#[bm,o,b1,b2,v,t,hB _ _ b5,d],S.gP,e3,hr.depth]},#[l7 T K Z E F.body,pR F.body _ _ Ss _ E g,?_]];rw[aI,e1,Ir.run G [aw] f ds a=[ao,F.sc,Ir.fW (Ir.jZ Z F ds) a,Ir.jZ Z F ds a],by show([gn,G.fns[f]?,F,[A,[hX]=F.np,[ao,F.sc,Ir.fW (Ir.jZ Z F ds),Ir.jZ Z F ds],Ir.bad],Ir.bad]) a=_;rw[a_,hF],e1,h];rw[aZ,u,by rw[a6];rw[bU,h.fW c],#[r,m,H,_,[hY],a,r,m,.refl,c,?_,aa2,ac' u]];unfold L2.start;rw[o0,v3.length,hn];exact(Yp (T:=T) (K:=K) (H:=H) (n:=F.ns-F.np) v3)
end
section
variable{T:Tb}{W:gz}{K:aQ}
def FJ{v:aq}(h:AI v=ae):v=[aZ]:=[nQ,v]
def U'{N ps:[dE]}{sc:fo}(h:G1 N ps sc=ae):Aj N ps sc:=by rw[cr,G1];obtain⟨⟨⟨⟨⟨⟨m,u⟩,B⟩,j⟩,O⟩,f⟩,P⟩:=h;refine#[?_,[hB,u],[hB,B],bz j,bz O,[gG],λy e z=>?_];{rw[aC,m];{rw[h4]};{cases m}};{have q:=ck.mp f x L;rw[aE,xg,q];rw[av,[J,[h4]],[eL,[h4]]];{rw[bO]}};{have q:=ck.mp P y e;rw[aq,z,q,q]}
def Xk{f:Nat}{F:Ir.Fn}{N:[dE]}(h:vi T W K f F N=ae):∃l ps,Hl T W K f F l ps:=by rw[aE,vi,h];{rename_i Q x l r lk;rw[a6];{rename_i body J;rw[a6];{rename_i ps L;rw[bv];obtain⟨⟨⟨⟨⟨⟨⟨⟨⟨⟨⟨m,u⟩,e⟩,z⟩,q⟩,a⟩,P⟩,B⟩,g⟩,Z⟩,O⟩,j⟩:=h;obtain⟨nm,p,pr,bd,sc,gl,H,c,kd,I,pm,C,G,ct,bt⟩:=l;simp only at J L m u e z q a O j;rw[V,i,gp m,g2,ako.mp u];rw[V,S,FJ e,d,gp z];subst J i g2 S d;refine#[_,ps,#[nm,p,pr,body,sc,kd,I,pm,C,G,ct,Q,x,r,N,Y,lk,q,U' a,L,bz P,j,λU=>?_],Z,bz g,bz B];rw[U]at O;rw[aP,Il,CG,O];rw[aC,O];{rw[af,aF,O,#[_,Y,O.1,bz O.2]]};{cases O}};{rw[a5]}};{rw[a5]}};{rw[a5]}
mutual
theorem Gk:∀(n:Nat)(d:D)(C:aq),vw T K n d C=ae→∃v,bC v C∧∀r F,aG T K r F d v|0,d,C,h=>by unfold vw at h;cases h|n+1,d,C,h=>by unfold vw at h;split at h;{rw[FJ h];exact⟨.a0,Y,fun r F=>.a0⟩};{split at h;{rw[←gp h];exact⟨.bl _,Y,fun r F=>.bl _⟩};{cases h}};{split at h;{rw[←bz h];exact⟨.int _,⟨_,Y⟩,fun r F=>.int _⟩};{cases h}};{split at h;{rw[bz h];exact⟨.str _,⟨_,Y⟩,fun r F=>.str _⟩};{cases h}};{split at h;{rw[gp h];exact⟨.ref _,Y,fun r F=>by unfold aG;rfl⟩};{cases h}};{rename_i l;split at h;{rename_i a;split at h;{rename_i c j G sl lk;simp only[aF]at h;obtain⟨⟨m,u⟩,e⟩:=h;obtain⟨B,I,L⟩:=Kd n l _ e;refine⟨.ref a,Y,fun r F=>?_⟩;unfold aG;refine⟨a,B,Y,.inr ⟨_,j,G,lk,by rw[gp m],Y,?_,I⟩,L r F⟩;have:=bz u;rw[kX];omega};{cases h}};{cases h}};{cases h}
theorem Kd:∀(n:Nat)(x:List D)(us:List aq),vO T K n x us=ae→∃B,bq B us∧∀r F,aY T K r F x B|n,[],[],_=>⟨[],.nil,fun r F=>.nil⟩|n,[],_::_,h=>by unfold vO at h;cases h|n,_::_,[],h=>by unfold vO at h;cases h|n,d::x,C::us,h=>by unfold vO at h;rw[aF]at h;obtain⟨v,J,q⟩:=Gk n d C h.1;obtain⟨B,z,O⟩:=Kd n x us h.2;exact⟨v::B,.cons J z,fun r F=>.cons (q r F) (O r F)⟩
end
def vx{a:ai}{x:[be,[gM]]}(h:oD a x=ae):x=aa (aa [aL]):=by rw[aE,oD,h];{rw[gp h]};{rw[a5]}
def vm{x:[be,[gM]]}(h:qe x=ae):x=aa ag:=by rw[aE,qe,h];{rfl};{rw[a5]}
def agR{n:String}{x:[be,[gM]]}(h:GO n x=ae):x=aa [gC,n]:=by rw[aE,GO,h];{rw[gp h]};{rw[a5]}
def VD{C:ai}(h:mj K C=ae):[Mb,C]:=by rw[cr,mj];rw[co,m,u,e,q,z,h];rw[aS,#[m,u,e,agR q],λf O=>vm (ck.mp z f O)]
def Vz{G:au}(h:jR.all (λx=>!(x==G))=ae)(u:G.cps.size≠1):∀j,oG j≠G:=λj z=>by rw[aE,oG,z];{rename_i x L;have q:=ck.mp h x (cG L);rw[eM,z,q]};{rw[aQ,z,u];exact u Y}
def Y9{k f:Nat}{G:au}(q:T.eZ=oG)(h:Ak T K k G f=ae):pK K [gU] G [gP]/\∀j,T.eZ j≠G:=by rw[cr,Ak];rw[co,m,u,e,z,O,h];rw[aS,#[vx m,u,e],[q,q,Vz z (bz O)]]
def Vk{k f:Nat}(h:FE T K k f=ae):Mk K [gU] [gP]:=by rw[cr,FE];exact#[[dJ].1.1,vx [dJ].1.2,[dJ].2,[cU]]
def aak(hd:jR.Nodup)(m:[b7,jR,[ta]≠1\/∃c,x.cps=[fg,[c]]/\c<2000000]):∀f g,oG f=oG g->f=g:=λf g e=>by rw[am,oG,e];cases h:jR[f]? with|some x=>(rw[h]at e;cases q:jR[g]? with|some y=>rw[bE,q,e];rw[bf,e,(v8 [dA,h] hd).mp (h.trans q.symm)]|none=>rw[bE,q,e];exfalso;rcases m x (cG h)with z|⟨c,z,l⟩;{rw[af,e,z,z Y]};{rw[e]at z;rw[uF,λa:Array Nat=>a[0]?,z]})|none=>rw[h]at e;cases q:jR[g]? with|some y=>rw[bE,q,e];exfalso;rcases m y (cG q)with z|⟨c,z,l⟩;{rw[aQ,e,z];exact z Y};{rw[aQ,e,z];rw[uF,λa:Array Nat=>a[0]?,z]}|none=>rw[bE,q,e];rw[uF,λs:au=>s.cps[0]?,e]
def YP{d:D}{C:aq}{k:dF}(h:Bx d C=aa k):gW d=aa k/\qg k C=ae:=by rw[aE,Bx,h];{rw[fx,Te]};{rw[fx,Tf]};{rw[a5]}
def OR:∀{l:[dj]}{x:List pp}{G:[iE]},q5 T K l x=aa G->∃(z:[f9,dF,V])(B:[f9,dF,aq]),(∀r F,[lg,z])/\KV z B/\[vW]=G/\[eV]=[go]/\∀(P:cP)(w:cz),Pairs [m7] x B/\∀(i:Nat)e k,([aY,x,e])->([aY,G,k])->[m7].is k e.key=ae|[],[],G,h=>by rw[am,q5,h];rw[aT,h,#[[],[],λr F=>by unfold cE;rfl,[aA],Y,Y,λP w=>#[[aA],λi e k q=>by simp at q]]]|[],[d4],G,h=>by rw[am,q5,h];rw[a5]|[d4],[],G,h=>by rw[am,q5,h];rw[a5]|[fY,d],e::x,G,h=>by rw[aE,q5,h];{rw[aB,O];cases m:Bx k e.key with|none=>rw[aq,m,h,h]|some j=>rw[m]at h;cases u:q5 T K l x with|none=>rw[aq,u,h,h]|some f=>rw[aq,u,h,h];obtain⟨z,B,I,S,N,q4,L⟩:=OR u;rw[M,v,U,J,Gk 5 d e.val O];rw[bF,H,Z,YP m,#[(j,v)::z,(j,e.val)::B,λr F=>?_,.cons #[Y,U] S,by rw[bT,N],by rw[b7,b7,q4],λP w=>#[.cons Z Y [M,L P w],λi C p a b=>?_]]];{rw[h5,cE,#[j,v,z,Y,H,J r F,I r F]]};{cases i with|zero=>cases a;rw[aT,b,Z]|succ i=>exact(L P w).2 i C p a b}};{rw[a5]}
def Vf{a:ai}{l:[dj]}{P:cP}{w:cz}(h:B4 T K a l=ae)(hh:xC K a=[S,Cd l,Bj w]):∃j,(∀r F,[lg,j])/\∀h,K.In h->[wE,j,P,w]:=by rw[aE,B4,h];{rename_i t x d sl lk;rw[bv];obtain⟨⟨⟨m,u⟩,q⟩,J⟩:=h;rw[aC,q];{rename_i S C;rw[aF]at q;rw[V,nd,bz [db],c,bz q.2];obtain⟨j,B,I,p,N,q4,L⟩:=OR C;refine#[j,I,λh X=>#[[hB,J],B,p,_,x,d,X _ _ lk,#[by rw[gp m],Y,?_],Y,λe f=>?_,[M,L P w],[q,N,nd]]];{rw[aD,u]};{rw[R,i,O,Dn.mp (Array.mem_toList_iff.mpr f)];rw[ae,U,i<[ab],[bB,q4,[dA,O]],#[S[i],(L P w).2 i e _ O (cQ U),?_]];have z:xC K a=x.toList.map (·.hash):=[dU,xC,lk];rw[z,<-c]at hh;have:=jK (λG:[a0]=>G[i]?) hh;simp only[dR,O,cQ U,g6,cX]at this;rw[b2]}};{rw[bO]}};{rw[a5]}
def AM{q:ai}(h:s6 K q=ae):(∃p k,[e9,q]=aa (iV q (jp K q) p k))/\Js K (jp K q)=ae:=by rw[aE,s6,h];{rename_i t j G sl lk;rw[c0,m,u,U,L,O,v];rw[al,P,jp K q=G.ns,[dU,jp,lk],P];refine#[?_,v];obtain⟨nm,bs,c,ns,r,d,s,sub,X,col,f⟩:=G;simp only at u U L O;rw[aC,L];{rename_i a x y z;rw[ap,aF,L];obtain⟨⟨⟨I,w⟩,A⟩,E⟩:=L;rw[aC,O];{rename_i i H N B n Z F;rw[V,l,gp m,o,[hB,U]];rw[V,J,gp I,Q,gp w];rw[V,g,gp A,C,gp E];have e:=gp O;subst l u o J Q g C e;(have S:sl=[fg,[i,H,N,B,[gC,"Exception.__new__"],Z]]:=by rw[<-akm (xs:=sl),F]);rw[bf,S,#[(nm,r,bs,s,sub,X,col,j),(i,H,N,B,Z),lk]]};{cases O}};{cases L}};{rw[a5]}
def Yq{C:ai}(h:s6 K C=ae)(q:qe [un,C]=ae):XC K C (jp K C) ag:=#[[M,AM h],[bo,AM h],vm q]
def Q0{C f:ai}(h:s6 K C=ae)(q:oD f [un,C]=ae):XC K C (jp K C) [eq,f]:=#[[M,AM h],[bo,AM h],vx q]
end
section
variable{K:aQ}
def X8:[pD,("line":au)]:=by rw[Uv,Uw];kernel_rfl
def Vl:[pD,("place":au)]:=by rw[Uv,Uw];kernel_rfl
def afs:[pD,("why":au)]:=by rw[Uv,Uw];kernel_rfl
def Ls:[b7,[L_],[pD,x]]:=λx L=>by rw[cg,L];rcases L with rfl|rfl|rfl;rw[b9,X8,Vl,afs]
def abv(h:Gi K=ae)(he:s6 K 269=ae)(hi:oD [q5] [un,269]=ae)(X:[b7,[L_],[EA,x]=ae])(hs:[EA,"__setattr__"]=ae):∃N fI S qual st Q n T,X3 K 269 N fI S qual st "line" "place" "why" Q n T:=by rw[aE,Gi,h];{rename_i oc od S t5 lk;rw[a6];{rename_i s1 p1 a1 p2 Q p3 p4 s2 a a2 p6 n l p s3 r a3 s T y z J;rw[bv];obtain⟨⟨⟨⟨⟨⟨⟨⟨⟨⟨⟨⟨⟨⟨⟨⟨⟨⟨⟨⟨⟨b1,b2⟩,v⟩,t⟩,b5⟩,d⟩,H⟩,W⟩,i⟩,f⟩,m⟩,u⟩,E⟩,F⟩,I⟩,h6⟩,P⟩,B⟩,g⟩,Z⟩,O⟩,j⟩:=h;obtain⟨nm,qn,pr,bd,sc,gl,cl,c,kd,rG,pm,o,G,ct,bt⟩:=S;simp only at J f m u E F I B g Z O j;rw[V,e1,bz b1,e2,bz b2];rw[V,e3,bz v,e4,bz t];rw[V,b,bz b5,C,bz d];rw[V,e,bz H,k,bz W];rw[V,A,bz i,w,bz f];rw[V,g1,gp m,g2,ako.mp u];rw[V,g3,FJ E,g4,gp F];have hp:=bz B;subst J e1 e2 e3 e4 b C e k A w g1 g2 g3 g4;rw[ae,hk,sc.kind=[kj],by rw[aC,g];{rw[h4]};{cases g},#[_,[q5],_,qn,.FunctionDef "__init__" pr _ [] ag [] sc ag "__init__" p4,"line","place","why",Q0 he hi,#[#[oc,od,kd,rG,pm,o,G,ct,t5,Y,lk,I],h6],P,#[_,_,_,Y,[EH],[EH],[EH]],.all λus U=>AD hp Y ([ah]) U,#[hk,[hB,Z],[hB,O]],[gG],[ah],λx L=>#[vm (X x L),Ls x L],vm hs,[ah],[ah]]];have q:=ck.mp j x L;rw[aE,yg,q];{rw[h4]};{rw[bO]}};{rw[a5]}};{rw[a5]}
def WH{h:bP}{mg:[o8]}(X:K.In h)(S:h.Ns iB mg){x:au}{g:GV}(q:xE K x g=ae):QK T0 Ir.prog K mg x g:=by cases g with|fn k=>exact zy X S (vx q)|cls k=>exact zy X S (vx q)|exc k=>exact zy X S (vx q)|blt=>exact PySem.W.mg_none_of X S (vm q)|dh k=>rw[ap,xE,q];rw[aC,q];{rename_i C l z e;rw[aC,q];{rw[aB,a];exact#[[jE],[aL],[aL],zy X S z,Y,λr F=>[h5,aG,#[a,Y,k,[aD,q],e]],e]};{rw[bO]}};{rename_i C d _ z e;rw[bu,v,r,m,Gk 5 d C q,#[d,v,C,zy X S z,r,m,e]]};{rw[bO]}
def afz{h:bP}{mg:[o8]}(X:K.In h)(S:h.Ns iB mg)(q:A3 K=ae):∃bm o,mg "__builtins__"=[eq,bm]/\bm≠pc/\bm≠iB/\bm≠T0.tab/\[e9,bm]=[a9]/\o.cls=[bR,"module"]/\o.dict=aa pc/\o.data=.plain:=by rw[aE,A3,q];{rename_i bm O;rw[ap,aF,q];obtain⟨⟨⟨m,u⟩,L⟩,e⟩:=q;rw[aC,e];{rename_i t d sl lk;rw[af,aF,e,#[bm,_,zy X S O,λz=>[eM,z,m],λz=>[eM,z,u],λz=>[fo,z,L,T0],lk,by rw[gp e.1],by rw[gp e.2],Y]]};{rw[cI]}};{rw[bO]}
def agJ{J:[aI]}{l:[fw,J]}{x:au}{b:J}(h:[EN]):(x,b)∈l:=jN h
def adv{l:[jN,Nat×au]}{x:Nat×au}{b:Nat}(h:[EN]):(x,b)∈l:=by induction l with|nil=>rw[a5]|cons p l e=>rw[eY]
def mP{l:[ba]}{d:ai}(h:d∈l)(k:Nat):l.getD k d∈l:=by rw[hY];cases q:l[k]? with|none=>exact h|some a=>exact cG q
def aa8{h:bP}{mg:[o8]}{P:cP}{w:cz}(X:K.In h)(S:h.Ns iB mg)(q:zJ K=ae)(hh:DY w K):NP T0 W0 Ir.prog P w K mg:=by rw[am,zJ,q];rw[ap,aF,q];obtain⟨⟨⟨⟨⟨⟨⟨⟨b1,b2⟩,v⟩,t⟩,b5⟩,d⟩,H⟩,W⟩,i⟩:=q;have O:∀c,[Mb,T0.eB c]:=λc=>VD (ck.mp t _ (mP ([ah]) c));rw[am,Fy,d];rw[ap,aF,d];rw[co,x1,b,x3,J,x5,d];rw[a4,x3,ck.mp x3,n,∀k,5<=k->k<=12->k≠9->XC K [tw] (jp K [tw]) ag,λk m u E=>by rw[aA,G,k∈[Cz],[bC],z,ck.mp H k G];rw[am,GR,z];rw[af,aF,z,Yq [cA] z.2],A,T0.dq 9=269,rfl];rw[a1,r,XC K (T0.dq 9) (jp K 269) [eq,[q5]],[q,A,Q0 x1 b],gF,Ir.fns.length=147,[dy],#[#[λc=>[M,O c],λc f Z=>?_,aak ([dy]) ?_,λa l#[k,B,Q]=>?_],λx g Q=>WH X S (ck.mp b2 (x,g) (agJ Q)),λk G f hm=>Y9 Y (ck.mp v _ (adv hm)),λk np p=>?_,λk B=>?_,λf np s=>?_,λf=>rfl,Y,#[Y,Y],afz X S i,[ah],#[_,_,r,λf Z=>#[λy o=>vm (x3 y ?_),Ls f Z]],λk m u E=>#[_,n k m u E],?_,[q,A,x5],#[λc m u=>?_,λc k m u E h4=>?_],λf F T=>?_]];{refine(O c).2 _ ?_;have U:f<jR.length:=Z;show oG f∈jR;unfold oG;rw[Y,cQ U,SK U]};{have:[b7,jR,ao ([ta]≠1)=ae]:=ck.mp ([dy]:jR.all (λx=>decide ([ta]≠1))=true);exactλx L=>[J,bz (this x L)]};{rw[hr,z,ck.mp W _ B,Q,Vf z (hh _ B l Q)]};{(have I:k<16:=by rw[D,B,k<16];{exact B};{have:Ir.vN[k]?=ag:=mx [ge,16<=k];rw[aI,p,[IE]=aa np,p,this,p];split at p<;>cases p});rw[ai,z,ck.mp b5 k (i9.mpr I),C,BD k=aa np,p];rw[am,DQ,z];rw[C]at z;simp only[o_,Il,CG]at z;refine#[Vk z,?_];rw[aE,BD,C];{cases C};{show BX (Ir.vN.getD k 999)=_;rw[hY];cases q:Ir.vN[k]? with|none=>rw[aq,q,C,C]|some j=>rw[af,q,C,C]}};{show [DM,k]=_;unfold Ir.q_.ar at B|-;have e:Ir.prog.fns=Ir.fns:=rfl;rw[e]at B|-;cases q:Ir.fns[k]? with|none=>rw[af,q,B,[c8,Y,B]]|some F=>rfl};{have s:[DM,f]=aa np:=s;cases q:Ir.fns[f]? with|none=>rw[aq,q,s,s]|some F=>rw[df,q,s,#[F,q,Y]]};{simp only[bX,dS,d5]at o Z|-;rcases o with rfl|rfl|rfl;{simp};{simp};{rcases Z with rfl|rfl|rfl<;>simp}};{rw[Y,A,abv J x1 b (λx L=>x3 x (by simp only[bX,dS,d5]at L|-;rcases L with rfl|rfl|rfl<;>simp)) (x3 _ (by simp))]};{rw[D,z,c=9];{rw[bf,z,#[_,_,r]]};{exact#[_,_,n c m u z]}};{intro e;have:∀c∈[L3],∀k∈[L3],T0.dq c=[tw]->c=k:=[ah];exact this c ([bC]) k ([bC]) e};{rw[K,T,[aQ,Ir.fns,f,F],T,U,f<147,[bB,gF,[dA,T]]];have z:=ck.mp b1 f (i9.mpr U);rw[am,tN,z];rw[T]at z;rw[aC,z];{rename_i F' N e1 e2;rw[aT,e1,Xk z]};{cases z}}
end
open PySem.W(WellAll Well WData ReadsW ReadsAllW)
def AL:∀l:[a0],Ir.eQ [oB]=aa l|[]=>rfl|i::l=>by show [S,Ir.eQ [oB],(i::·)]=_;rw[a8,AL l]
def Y3:W0.gn "answers"=aa (.fn 146):=by rfl
def ahc{K:aQ}{a:ai}{o:bn}(h:(K.all [Bi])=ae)(e:[e9,a]=[a9]):o.cls≠[je]:=λz=>by have q:=ck.mp h (a,o) (BV e);rw[eM,[aB,(a,o).2.cls=_,z],q]
def P3{P:Params}{h:bP}:∀{l:[a0]}{B:[dV]},WellAll P h B [aS,JN]->mG B l|[],_,[aA]=>[aA]|i::l,_,.cons x y=>[aT,x,.cons _ _ (P3 y)]
def RR{cl:au->[kF]}{h:bP}:∀{l:[a0]}{us:[dV]},bq [aS,V.int] us->∃L,ReadsAllW [] cl h us [aS,JN] L|[],_,[aA]=>#[_,[aA]]|i::l,_,.cons x y=>by rw[R,t,rfl,x];rw[aG,L,z,RR y,#[_,.cons [sl] z]]
def ZV{P:cP}{w:cz}{K:aQ}{mg mb:[o8]}{W:aD}{a s:ai}{B:[dV]}{l f:[a0]}{cl:au->[kF]}(KX:K.In W.heap)(o0:W.heap.Ns iB mg)(J:W.heap.Ns pc mb)(hbb:∀x:au,([zp])->mb x=hl x)(nq:W.heap.NoLimit)(hg:W.gens=[ca])(ha:W.heap.get? a=aa [kU,[kp]])(hi:mG B l)(U:[E]<=16000)(ht:W.heap.get? 622=aa (JL [ca]))(tb:w4 K=ae)(hh:DY w K)(hfa:mg "answers"=[eq,s])(y:∃S',[Lc]=[bc,[W,f.map D.int],S']):jf (aK P w) callerA (.call [m,s] #[[[aL]],[]]) (λr s'=>∃C L,r=[iy,C]/\ReadsW [] cl [jG] C (.list (f.map JN)) L/\OldK W.heap [jG]/\s'.os=W.os/\uz s'.gens) W:=by rw[am,w4,tb];rw[ap,aF,tb];obtain⟨⟨q,h⟩,j⟩:=tb;rw[aA,j,[e9,622]=ag,[aD,j],S,aa8 (P:=P) KX o0 q hh];rw[K,na,[e9,a]=ag,by cases e:[e9,a]with|none=>rfl|some o=>have z:=KX a o e;rw[df,ha,z,[c8,Y,ahc h e]],n6,a≠622,[i_,z,ht,ha]];let lo:bn:=[kU,[kp]];let H:Hp:=λb=>[fd,b,a,[DN],[fd,b,622,.fM [ca],ag]];rw[ak,Q,[es,[DN]],aJ Y,H6,H 622=aa (.fM [ca]),by show [BE]=_;rw[aw (dt n6),aJ Y],g,∀b,b≠a->b≠622->[fx],λb m u=>by show [BE]=_;rw[aw m,aw u]];rw[V,rv,NW hi,aqc,hi.length];rw[K,Su,[E]<=bS,[cx,kX],aO,cV P w H W.heap,λb C e=>by rw[D,m,b=a];{subst m;rw[df,Q,e,#[ha,[q,aR,Su],B,_,rv,ha]]};{rw[D,u,b=622];{subst u;rw[df,H6,e,ht]};{rw[aq,g b m u,e,e]}}];rw[K,kF,∀{b:ai}{o:bn},W.heap.get? b=[a9]->([fx])->[k_,[sJ]],λe n=>UX e n,Z,∀{b:ai}{o:bn}{es:Array pp}{ep:Nat},W.heap.get? b=[a9]->([yf])->[fx],λ{b o es ep}e d=>by refine g b [lj] [lj];{rw[a2];rw[aq,ha,e,e];cases d};{rw[a2];rw[aq,ht,e,e];cases d}];rw[K,k,∀{b:ai}{G:[o8]},W.heap.Ns b G->[sJ].Ns b G,λ{b G}#[o,es,ep,e,d,r]=>#[o,es,ep,kF e (Z e d),d,r],Sv,K.In [sJ],[dB,kF (KX b o e) (g b [i_,z,na,e] [i_,z,j,e])]];rw[ak,hM,Mod K mg [sJ],#[Sv,k o0,#[mb,k J,hbb],let#[mc,m,u]:=nq;#[mc,k m,u]],e0,sx P w K mg [sJ] callerA [] W H,#[Y,hM,[dB,agB e],uO (acZ _ _),zm,[C4,([]:[ba])],aO,.of_eq hg],hF,[aQ,Ir.prog.fns,146,Ir.zL],rfl];rw[M,fd,ps,fs,S.fn 146 _ hF];rw[ai,ok,Q3 (base:=[sJ]) S Sv 40 146 _ fd ps hF fs,efa,s=T0.cS 146,by have z:mg "answers"=[eq,T0.cS 146]:=S.gv "answers" (.fn 146) Y3;rw[aq,hfa,z,z];rfl];subst efa;obtain⟨I,qual,vY,body,c8,kV,rG,pm,an,O,ct,oc,od,t5,N,efd,lk,gX,sc,X,ah2,Ss,i⟩:=id fs.ex;have HM:IY W fd #[[[aL]],[]] (ps.zip [[aL]]):=[bf,efd,.of_eq (AD X Y fs.nd [bM,fs.np])];rw[R,S',y,y];let F:Hp:=λb=>[fd,b,a,[DN],ag];rw[ae,Ci,qL T0 K (Ir.run Ir.prog 40 146) Ir.zL.np [[aL]] H (λv H'=>∃p,v=[dp]/\H' p=aa [W,f.map V.int]) [ED],by refine#[[[rP]],[],[],F,#[Y,[aA],[k2],λb J=>[f',J],λn c b e=>by simp at e,#[aw (dt n6),[J,H6]]],.cons ?_ [aA],Y,?_];{have e:(if b=a then _ else ag)=[a9]:=e;rw[aC,e];{rw[aB,z];rw[cI];rw[Y,z,Q]};{rw[cI]}};{unfold aG;refine#[a,[aS,V.int],Y,[aC,#[lo,aJ Y]],?_,aY.Ad l];rw[a3,aR,me,Su]};{rw[y];intro r' F' H' A E v hv;rw[am,aG,hv];obtain⟨p,ws,rfl,hp,_,hr⟩:=hv;rw[af,hr.«ints» (AL f),hp,#[p,Y,E.sub _ _ hp]]},wp (ok.run callerA [] W H #[[[aL]],[]] [[aL]] [[aL]] _ _ #[Y,[ah],[ah]] e0 HM (.cons Y [aA]) Ci) λr s' x=>?_];cases r with|error e=>obtain⟨_,_,_,_,_,_,_,_,_,_,_,_,_,_,_,q⟩:=x;exact eu q|ok fl=>cases fl with|next=>exact eu x|brk=>exact eu x|cont=>exact eu x|ret C=>obtain⟨v,H',os,bare,un,t,r',p,rfl,hp⟩:=x;obtain rfl:C=da p:=r';obtain⟨_,az,n,rv',hpo⟩:=[aB,c7 P w H' [jG] p [b6],t p _ hp];rw[bF,L,T,RR (cl:=cl) (h:=s'.heap) rv',#[[dp],_,Y,.list hpo Y Y ([aD,T]),#[[k2],[k2]],os,bare]];{rw[D,m,b=a];{subst m;rw[df,ha,e,[J,[M,t b _ (un.lB b _ _ Q)]]]};{rw[D,u,b=622];{subst u;rw[aq,ht,e,e];rw[R,Hy,z,un.lR 622 _ H6];rw[M,fd1,ps1,fs1,S.fn 61 _ [aB,[aQ,Ir.prog.fns,61,Ir.A_],rfl]];obtain⟨_,_,_,_,_,_,_,_,_,_,_,_,_,_,_,_,_,_,_,_,_,_,yC⟩:=fs1.ex;obtain⟨c,_,e2,_⟩:=yC Y;obtain⟨co,cvs,_,_,_,_,_,_,_,g1,g2,g3,g4,_⟩:=akn KX e2;exact [e7,#[#[c,co,cvs,g1,g2,g3,g4],Y,[ca],Hy,Y,t 622 _ z]]};{exact [J,un.keep b o e (g b m u) (by intro z;exact [f',[aB,b∈([]:[ba]),z]]) (by simp)]}}};{exact un.there b o e (by simp)}
open PySem.W(Codec OpenSpec)
def amZ(f:Int->WData)(l:[a0]):aq1 f l=.list [gZ]:=rfl
def ak_{q:cP}{i:[dE]}{p:([o8])->bP->[P]}{d:DefRec}{r:[fw,bQ]}(g:z_.wellSaid=ae)(O:d.name="answers")(y:∀l:[a0],II l=ae->∃t,[Lc]=[bc,[dv,Td l,D.int],t]):PySem.W.WalkOS q i p BL z_ d r (λf B=>gR f B):=by intro w eD W mg mb S x s o pm G rG F kV ho hd gX hD e A j b L h c k v0 J;rw[M,a,Q,N,PySem.W.os_pre_some h];rw[R,I,Z,Codec.encAll_of_decAll z_.args j a Q];obtain⟨⟨K,KX,P,hh⟩,H⟩:=x;rw[R,l,C,a];rw[ak,U,[aN,(l:[a0]),16000],by rw[V,z,[M,akp.mp Z],z,[M,akp.mp z]];exact [bo,aq2.mp z],I,j=[.list [S,(l:[a0]),JN]],I,N,II l=ae,N];subst I;cases v0 with|cons m u=>cases u;cases m;rename_i a B c1 X v;rw[O]at e;refine PySem.W.enter_call (wp (ZV (P:=z_.prog) (w:=w) (cl:=classAt eD.heap) KX S.T.g S.T.b S.T.builtins S.T.nolimit A X (P3 v) U H P hh e (y l N)) λr' s' hq=>?_);obtain⟨C,n,rfl,m,u,E,T⟩:=hq;exact#[[J,#[C,_,n,Y,[bJ],m,(OpenSpec.post_iff g Z _ _).mpr Y,λz=>Bool.noConfusion [tn,z]]],u,E,T]
end Snd
end
namespace Snd
theorem hrun (l : List Int) (h : PyVbmoad.answers_asked l = true) : ∃ S', Ir.run Ir.prog 40 146 [.dX (l.map Ir.D.int)] [] = .ok (.lst ((PyVbmoad.answers l).map Ir.D.int)) S' := Ir.akU l h 26
end Snd
theorem PySem.Challenge.cw_pricebook_s01_answers_holds : PySem.Challenge.rw_pricebook_s01_answers.Holds := by
  exact Snd.top fun h => Snd.ak_ Snd.wS h Snd.hrun
