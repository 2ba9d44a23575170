import Derived.Test.YtfkfccpjfagamaaGreatDoorZq1
import Derived.KernelRfl
set_option linter.all false
namespace Ex
open Go
theorem nthN_q : @nthN = @nthNQ := by
  kernel_rfl
theorem dropN_q : @dropN = @dropNQ := by
  kernel_rfl
theorem farN_q : @farN = @farNQ := by
  delta farN
  rewrite [nthN_q, dropN_q]
  kernel_rfl
theorem nthT_q : @nthT = @nthTQ := by
  kernel_rfl
theorem dropT_q : @dropT = @dropTQ := by
  kernel_rfl
theorem farT_q : @farT = @farTQ := by
  delta farT
  rewrite [nthT_q, dropT_q]
  kernel_rfl
theorem nthG_q : @nthG = @nthGQ := by
  kernel_rfl
theorem dropG_q : @dropG = @dropGQ := by
  kernel_rfl
theorem farG_q : @farG = @farGQ := by
  delta farG
  rewrite [nthG_q, dropG_q]
  kernel_rfl
theorem nthD_q : @nthD = @nthDQ := by
  kernel_rfl
theorem infoP_q : @infoP = @infoPQ := by
  rewrite [infoP_f]
  delta infoPF
  rewrite [farT_q]
  kernel_rfl
theorem undS_q : @undS = @undSQ := by
  delta undS
  rewrite [infoP_q]
  kernel_rfl
theorem undP_q : @Go.Program.underlying = @undPQ := by
  rewrite [undP_e]
  rewrite [undP_f]
  delta undPF
  rewrite [infoP_q, undS_q]
  kernel_rfl
theorem cellsP_q : @Go.Program.cellsOf = @cellsPQ := by
  rewrite [cellsP_e]
  rewrite [cellsP_f]
  delta cellsPF
  rewrite [infoP_q]
  kernel_rfl
theorem K.succ_q : @K.succ = @K.succQ := by
  kernel_rfl
theorem K.beq_q : @K.beq = @K.beqQ := by
  kernel_rfl
theorem keyS_q : @keyS = @keySQ := by
  kernel_rfl
theorem keyN_q : @keyN = @keyNQ := by
  delta keyN
  rewrite [keyS_q]
  kernel_rfl
theorem key_q : @key = @keyQ := by
  delta key
  rewrite [keyN_q]
  kernel_rfl
theorem keyed_q : @keyed = @keyedQ := by
  delta keyed
  rewrite [key_q]
  kernel_rfl
theorem T.val_q : @T.val = @T.valQ := by
  kernel_rfl
theorem T.getV_q : @T.get V = @T.getVQ := by
  rewrite [T.getV_f]
  kernel_rfl
theorem T.getO_q : @T.get Ob = @T.getOQ := by
  rewrite [T.getO_f]
  kernel_rfl
theorem T.setV_q : @T.set V = @T.setVQ := by
  rewrite [T.setV_f]
  kernel_rfl
theorem T.setO_q : @T.set Ob = @T.setOQ := by
  rewrite [T.setO_f]
  kernel_rfl
theorem T.del0_q : @T.del0 = @T.del0Q := by
  kernel_rfl
theorem T.delL_q : @T.delL = @T.delLQ := by
  kernel_rfl
theorem T.delR_q : @T.delR = @T.delRQ := by
  kernel_rfl
theorem T.del_q : @T.del = @T.delQ := by
  delta T.del
  rewrite [T.del0_q, T.delL_q, T.delR_q]
  kernel_rfl
theorem nthLS_q : @nthLS = @nthLSQ := by
  kernel_rfl
theorem nthL_q : @nthL = @nthLQ := by
  rewrite [nthL_f]
  delta nthLF
  rewrite [farN_q]
  kernel_rfl
theorem lenL_q : @lenL = @lenLQ := by
  kernel_rfl
theorem appL_q : @appL = @appLQ := by
  kernel_rfl
theorem takeLS_q : @takeLS = @takeLSQ := by
  kernel_rfl
theorem takeL_q : @takeL = @takeLQ := by
  delta takeL
  rewrite [takeLS_q]
  kernel_rfl
theorem dropLS_q : @dropLS = @dropLSQ := by
  kernel_rfl
theorem dropL_q : @dropL = @dropLQ := by
  delta dropL
  rewrite [dropLS_q]
  kernel_rfl
theorem H.get_q : @H.get = @H.getQ := by
  delta H.get
  rewrite [T.getO_q]
  kernel_rfl
theorem H.set_q : @H.set = @H.setQ := by
  delta H.set
  rewrite [T.setO_q]
  kernel_rfl
theorem H.new_q : @H.new = @H.newQ := by
  delta H.new
  rewrite [K.succ_q, T.setO_q]
  kernel_rfl
theorem H.del_q : @H.del = @H.delQ := by
  delta H.del
  rewrite [T.del_q]
  kernel_rfl
theorem V.len_q : @V.len = @V.lenQ := by
  kernel_rfl
theorem V.app_q : @V.app = @V.appQ := by
  kernel_rfl
theorem V.nthS_q : @V.nthS = @V.nthSQ := by
  kernel_rfl
theorem V.nth_q : @V.nth = @V.nthQ := by
  delta V.nth
  rewrite [V.nthS_q]
  kernel_rfl
theorem V.takeS_q : @V.takeS = @V.takeSQ := by
  kernel_rfl
theorem V.take_q : @V.take = @V.takeQ := by
  delta V.take
  rewrite [V.takeS_q]
  kernel_rfl
theorem V.dropS_q : @V.dropS = @V.dropSQ := by
  kernel_rfl
theorem V.drop_q : @V.drop = @V.dropQ := by
  delta V.drop
  rewrite [V.dropS_q]
  kernel_rfl
theorem V.cells_q : @V.cells = @V.cellsQ := by
  kernel_rfl
theorem cellAt_q : @cellAt = @cellAtQ := by
  delta cellAt
  rewrite [keyed_q, T.getV_q]
  kernel_rfl
theorem getCellsS_q : @getCellsS = @getCellsSQ := by
  delta getCellsS
  rewrite [cellAt_q]
  kernel_rfl
theorem getCells_q : @getCells = @getCellsQ := by
  delta getCells
  rewrite [getCellsS_q]
  kernel_rfl
theorem putAt_q : @putAt = @putAtQ := by
  delta putAt
  rewrite [keyed_q, T.setV_q]
  kernel_rfl
theorem putCells_q : @putCells = @putCellsQ := by
  delta putCells
  rewrite [putAt_q]
  kernel_rfl
theorem convS_q : @convS = @convSQ := by
  kernel_rfl
theorem convLS_q : @convLS = @convLSQ := by
  delta convLS
  rewrite [convS_q]
  kernel_rfl
theorem convL_q : @convL = @convLQ := by
  delta convL
  rewrite [convLS_q]
  kernel_rfl
theorem conv_q : @conv = @convQ := by
  delta conv
  rewrite [convL_q, convS_q]
  kernel_rfl
theorem GB_q : @GB = @GBQ := by
  kernel_rfl
theorem opd_q : @opd = @opdQ := by
  delta opd
  rewrite [key_q, conv_q, GB_q, T.getV_q]
  kernel_rfl
theorem opdsS_q : @opdsS = @opdsSQ := by
  delta opdsS
  rewrite [opd_q]
  kernel_rfl
theorem opds_q : @opds = @opdsQ := by
  delta opds
  rewrite [opdsS_q]
  kernel_rfl
theorem agg?_q : @agg? = @agg?Q := by
  delta agg?
  rewrite [undP_q]
  kernel_rfl
theorem zero_q : @zero = @zeroQ := by
  delta zero
  rewrite [conv_q]
  kernel_rfl
theorem loadV_q : @loadV = @loadVQ := by
  delta loadV
  rewrite [cellsP_q, H.get_q, agg?_q, getCells_q, cellAt_q]
  kernel_rfl
theorem plainV_q : @plainV = @plainVQ := by
  kernel_rfl
theorem storeV_q : @storeV = @storeVQ := by
  delta storeV
  rewrite [cellsP_q, H.get_q, plainV_q, V.len_q, V.cells_q, H.set_q, putCells_q]
  kernel_rfl
theorem newRow_q : @newRow = @newRowQ := by
  delta newRow
  rewrite [H.new_q, putCells_q, V.len_q]
  kernel_rfl
theorem newV_q : @newV = @newVQ := by
  delta newV
  rewrite [plainV_q, newRow_q, V.cells_q]
  kernel_rfl
theorem fillS_q : @fillS = @fillSQ := by
  delta fillS
  rewrite [plainV_q, V.len_q, V.cells_q, V.app_q, V.take_q, V.drop_q]
  kernel_rfl
theorem fillAt_q : @fillAt = @fillAtQ := by
  delta fillAt
  rewrite [fillS_q]
  kernel_rfl
theorem rep_q : @rep = @repQ := by
  delta rep
  rewrite [V.app_q]
  kernel_rfl
theorem wrapI_q : @wrapI = @wrapIQ := by
  kernel_rfl
theorem beqLS_q : @beqLS = @beqLSQ := by
  kernel_rfl
theorem isNilL_q : @isNilL = @isNilLQ := by
  kernel_rfl
theorem beqL_q : @beqL = @beqLQ := by
  delta beqL
  rewrite [isNilL_q, beqLS_q]
  kernel_rfl
theorem ltLS_q : @ltLS = @ltLSQ := by
  kernel_rfl
theorem ltL_q : @ltL = @ltLQ := by
  delta ltL
  rewrite [isNilL_q, ltLS_q]
  kernel_rfl
theorem kindN_q : @kindN = @kindNQ := by
  kernel_rfl
theorem kindB_q : @kindB = @kindBQ := by
  delta kindB
  rewrite [kindN_q]
  kernel_rfl
theorem eqI_q : @eqI = @eqIQ := by
  kernel_rfl
theorem leI_q : @leI = @leIQ := by
  kernel_rfl
theorem unfrozen_q : @unfrozen = @unfrozenQ := by
  delta unfrozen
  rewrite [H.get_q]
  kernel_rfl
theorem roAt_q : @roAt = @roAtQ := by
  delta roAt
  rewrite [H.get_q]
  kernel_rfl
theorem farOk_q : @farOk = @farOkQ := by
  delta farOk
  rewrite [unfrozen_q, roAt_q]
  kernel_rfl
theorem partV_q : @partV = @partVQ := by
  delta partV
  rewrite [cellsP_q, agg?_q, V.take_q, V.drop_q, V.nth_q]
  kernel_rfl
theorem eqFS_q : @eqFS = @eqFSQ := by
  delta eqFS
  rewrite [partV_q]
  kernel_rfl
theorem eqF_q : @eqF = @eqFQ := by
  delta eqF
  rewrite [eqFS_q]
  kernel_rfl
theorem V.onPtr_q : @V.onPtr = @V.onPtrQ := by
  kernel_rfl
theorem V.onInt_q : @V.onInt = @V.onIntQ := by
  kernel_rfl
theorem V.onStr_q : @V.onStr = @V.onStrQ := by
  kernel_rfl
theorem V.onIS_q : @V.onIS = @V.onISQ := by
  kernel_rfl
theorem V.onSl_q : @V.onSl = @V.onSlQ := by
  kernel_rfl
theorem V.onOne_q : @V.onOne = @V.onOneQ := by
  kernel_rfl
theorem onStruct_q : @onStruct = @onStructQ := by
  kernel_rfl
theorem onSlice_q : @onSlice = @onSliceQ := by
  kernel_rfl
theorem onIST_q : @onIST = @onISTQ := by
  kernel_rfl
theorem eqS0_q : @eqS0 = @eqS0Q := by
  rewrite [eqS0_f]
  delta eqS
  rewrite [undP_q, cellsP_q, kindB_q, eqI_q, beqL_q, K.beq_q, farOk_q, eqF_q]
  kernel_rfl
theorem eqI1_q : @eqI1 = @eqI1Q := by
  delta eqI1
  rewrite [V.onInt_q, eqS0_q, kindB_q, eqI_q]
  kernel_rfl
theorem eqT1_q : @eqT1 = @eqT1Q := by
  delta eqT1
  rewrite [V.onStr_q, eqS0_q, beqL_q]
  kernel_rfl
theorem eqS_q : @eqS = @eqSQ := by
  rewrite [eqS_f]
  delta eqSF
  rewrite [undP_q, onIST_q, eqS0_q, eqI1_q, eqT1_q]
  kernel_rfl
theorem eqV_q : @eqV = @eqVQ := by
  delta eqV
  rewrite [eqS_q]
  kernel_rfl
theorem isC_q : @isC = @isCQ := by
  kernel_rfl
theorem binI2_q : @binI2 = @binI2Q := by
  delta binI2
  rewrite [wrapI_q, eqI_q, leI_q]
  kernel_rfl
theorem binI_q : @binI = @binIQ := by
  delta binI
  rewrite [kindB_q, binI2_q]
  kernel_rfl
theorem binS_q : @binS = @binSQ := by
  delta binS
  rewrite [lenL_q, appL_q, beqL_q, ltL_q]
  kernel_rfl
theorem eqG_q : @eqG = @eqGQ := by
  delta eqG
  rewrite [isC_q]
  kernel_rfl
theorem binE_q : @binE = @binEQ := by
  delta binE
  rewrite [eqG_q, eqV_q]
  kernel_rfl
theorem plainN_q : @plainN = @plainNQ := by
  kernel_rfl
theorem binV0_q : @binV0 = @binV0Q := by
  rewrite [binV0_f]
  delta binV
  rewrite [binI_q, binS_q, plainN_q, binE_q]
  kernel_rfl
theorem binV_q : @binV = @binVQ := by
  rewrite [binV_f]
  delta binVF
  rewrite [V.onIS_q, binV0_q, V.onInt_q, binI_q, V.onStr_q, binS_q]
  kernel_rfl
theorem natI_q : @natI = @natIQ := by
  kernel_rfl
theorem natO_q : @natO = @natOQ := by
  delta natO
  rewrite [natI_q]
  kernel_rfl
theorem bnds_q : @bnds = @bndsQ := by
  delta bnds
  rewrite [natO_q]
  kernel_rfl
theorem sliceV_q : @sliceV = @sliceVQ := by
  delta sliceV
  rewrite [undP_q, cellsP_q, bnds_q, lenL_q, takeL_q, dropL_q]
  kernel_rfl
theorem opdO_q : @opdO = @opdOQ := by
  delta opdO
  rewrite [opd_q]
  kernel_rfl
theorem bytS_q : @bytS = @bytSQ := by
  kernel_rfl
theorem bytesOfCells_q : @bytesOfCells = @bytesOfCellsQ := by
  delta bytesOfCells
  rewrite [bytS_q]
  kernel_rfl
theorem cellsOfBytes_q : @cellsOfBytes = @cellsOfBytesQ := by
  kernel_rfl
theorem rowOf_q : @rowOf = @rowOfQ := by
  delta rowOf
  rewrite [H.get_q, getCells_q]
  kernel_rfl
theorem bytesRow_q : @bytesRow = @bytesRowQ := by
  delta bytesRow
  rewrite [undP_q, rowOf_q, bytesOfCells_q]
  kernel_rfl
theorem placed_q : @placed = @placedQ := by
  delta placed
  rewrite [H.get_q]
  kernel_rfl
theorem typed_q : @typed = @typedQ := by
  delta typed
  rewrite [cellsP_q, H.get_q]
  kernel_rfl
theorem convertV_q : @convertV = @convertVQ := by
  delta convertV
  rewrite [undP_q, cellsP_q, bytesRow_q, placed_q, typed_q]
  kernel_rfl
theorem itemOk_q : @itemOk = @itemOkQ := by
  delta itemOk
  rewrite [cellsP_q, zero_q, plainV_q, V.len_q, V.cells_q]
  kernel_rfl
theorem growOk_q : @growOk = @growOkQ := by
  kernel_rfl
theorem regrow_q : @regrow = @regrowQ := by
  delta regrow
  rewrite [cellsP_q, H.get_q, growOk_q, rowOf_q, newRow_q, H.del_q, V.app_q]
  kernel_rfl
theorem inPlace_q : @inPlace = @inPlaceQ := by
  delta inPlace
  rewrite [cellsP_q, H.get_q, H.set_q, putCells_q]
  kernel_rfl
theorem appendV_q : @appendV = @appendVQ := by
  delta appendV
  rewrite [cellsP_q, itemOk_q, V.len_q, growOk_q, newRow_q, inPlace_q, rowOf_q, V.app_q, regrow_q]
  kernel_rfl
theorem findKS_q : @findKS = @findKSQ := by
  delta findKS
  rewrite [beqL_q]
  kernel_rfl
theorem findK_q : @findK = @findKQ := by
  delta findK
  rewrite [findKS_q]
  kernel_rfl
theorem setKS_q : @setKS = @setKSQ := by
  delta setKS
  rewrite [beqL_q]
  kernel_rfl
theorem setK_q : @setK = @setKQ := by
  delta setK
  rewrite [setKS_q]
  kernel_rfl
theorem mapS_q : @mapS = @mapSQ := by
  delta mapS
  rewrite [undP_q]
  kernel_rfl
theorem findIS_q : @findIS = @findISQ := by
  delta findIS
  rewrite [kindB_q, eqI_q]
  kernel_rfl
theorem findI_q : @findI = @findIQ := by
  delta findI
  rewrite [findIS_q]
  kernel_rfl
theorem setIS_q : @setIS = @setISQ := by
  delta setIS
  rewrite [kindB_q, eqI_q]
  kernel_rfl
theorem setI_q : @setI = @setIQ := by
  delta setI
  rewrite [setIS_q]
  kernel_rfl
theorem mapI_q : @mapI = @mapIQ := by
  delta mapI
  rewrite [undP_q, kindB_q]
  kernel_rfl
theorem ixS_q : @ixS = @ixSQ := by
  kernel_rfl
theorem ixL_q : @ixL = @ixLQ := by
  delta ixL
  rewrite [ixS_q]
  kernel_rfl
theorem ixV_q : @ixV = @ixVQ := by
  delta ixV
  rewrite [ixL_q]
  kernel_rfl
theorem callF0_q : @callF0 = @callF0Q := by
  rewrite [callF0_f]
  delta callF
  rewrite [key_q, K.beq_q, ixV_q]
  kernel_rfl
theorem callF_q : @callF = @callFQ := by
  rewrite [callF_f]
  delta callFF
  rewrite [farG_q, callF0_q]
  kernel_rfl
theorem invokeV_q : @invokeV = @invokeVQ := by
  delta invokeV
  rewrite [undP_q, callF_q]
  kernel_rfl
theorem zipS_q : @zipS = @zipSQ := by
  kernel_rfl
theorem zipF_q : @zipF = @zipFQ := by
  delta zipF
  rewrite [zipS_q]
  kernel_rfl
theorem fillZ_q : @fillZ = @fillZQ := by
  delta fillZ
  rewrite [zipF_q, fillAt_q]
  kernel_rfl
theorem oval_q : @oval = @ovalQ := by
  kernel_rfl
theorem ovalh_q : @ovalh = @ovalhQ := by
  kernel_rfl
theorem opMove_q : @opMove = @opMoveQ := by
  delta opMove
  rewrite [oval_q, opd_q]
  kernel_rfl
theorem opPick_q : @opPick = @opPickQ := by
  delta opPick
  rewrite [opd_q, oval_q]
  kernel_rfl
theorem opAlloc_q : @opAlloc = @opAllocQ := by
  delta opAlloc
  rewrite [zero_q, ovalh_q, newV_q]
  kernel_rfl
theorem opBox_q : @opBox = @opBoxQ := by
  delta opBox
  rewrite [opd_q, ovalh_q, newV_q]
  kernel_rfl
theorem opBuild_q : @opBuild = @opBuildQ := by
  delta opBuild
  rewrite [undP_q, cellsP_q, opds_q, zero_q, plainV_q, fillZ_q, V.cells_q]
  kernel_rfl
theorem opBuildslice_q : @opBuildslice = @opBuildsliceQ := by
  delta opBuildslice
  rewrite [undP_q, cellsP_q, opds_q, zero_q, plainV_q, V.len_q, V.cells_q, fillZ_q, rep_q, newRow_q]
  kernel_rfl
theorem opLoad_q : @opLoad = @opLoadQ := by
  delta opLoad
  rewrite [opd_q, oval_q, loadV_q]
  kernel_rfl
theorem opStore_q : @opStore = @opStoreQ := by
  delta opStore
  rewrite [opd_q, storeV_q]
  kernel_rfl
theorem opNilcheck_q : @opNilcheck = @opNilcheckQ := by
  delta opNilcheck
  rewrite [opd_q]
  kernel_rfl
theorem opBinop_q : @opBinop = @opBinopQ := by
  delta opBinop
  rewrite [opd_q, oval_q, binV_q]
  kernel_rfl
theorem opUnop_q : @opUnop = @opUnopQ := by
  delta opUnop
  rewrite [opd_q]
  kernel_rfl
theorem opConvert_q : @opConvert = @opConvertQ := by
  delta opConvert
  rewrite [opd_q, ovalh_q, convertV_q]
  kernel_rfl
theorem opMakeinterface_q : @opMakeinterface = @opMakeinterfaceQ := by
  delta opMakeinterface
  rewrite [undP_q, opd_q]
  kernel_rfl
theorem opMakefunc_q : @opMakefunc = @opMakefuncQ := by
  delta opMakefunc
  rewrite [opds_q]
  kernel_rfl
theorem opMakemap0_q : @opMakemap0 = @opMakemap0Q := by
  delta opMakemap0
  rewrite [H.new_q]
  kernel_rfl
theorem opMakemap_q : @opMakemap = @opMakemapQ := by
  delta opMakemap
  rewrite [undP_q, opd_q, H.new_q]
  kernel_rfl
theorem opMakeslice_q : @opMakeslice = @opMakesliceQ := by
  delta opMakeslice
  rewrite [undP_q, opd_q, natI_q, itemOk_q, growOk_q, zero_q, newRow_q, rep_q, V.cells_q]
  kernel_rfl
theorem opSlice_q : @opSlice = @opSliceQ := by
  delta opSlice
  rewrite [opd_q, opdO_q, oval_q, sliceV_q]
  kernel_rfl
theorem faS_q : @faS = @faSQ := by
  delta faS
  rewrite [cellsP_q, nthD_q]
  kernel_rfl
theorem opFieldaddr_q : @opFieldaddr = @opFieldaddrQ := by
  rewrite [opFieldaddr_f]
  delta opFieldaddrF
  rewrite [undP_q, opd_q, V.onPtr_q, onStruct_q, faS_q]
  kernel_rfl
theorem opField_q : @opField = @opFieldQ := by
  delta opField
  rewrite [undP_q, opd_q, oval_q, partV_q]
  kernel_rfl
theorem idxAt_q : @idxAt = @idxAtQ := by
  delta idxAt
  rewrite [cellsP_q]
  kernel_rfl
theorem opIndexaddr0_q : @opIndexaddr0 = @opIndexaddr0Q := by
  rewrite [opIndexaddr0_f]
  delta opIndexaddr
  rewrite [undP_q, opd_q, natI_q, idxAt_q]
  kernel_rfl
theorem iaS_q : @iaS = @iaSQ := by
  delta iaS
  rewrite [idxAt_q]
  kernel_rfl
theorem opIndexaddr_q : @opIndexaddr = @opIndexaddrQ := by
  rewrite [opIndexaddr_f]
  delta opIndexaddrF
  rewrite [undP_q, opd_q, onSlice_q, opIndexaddr0_q, V.onSl_q, iaS_q, natI_q]
  kernel_rfl
theorem opIndex_q : @opIndex = @opIndexQ := by
  delta opIndex
  rewrite [undP_q, cellsP_q, opd_q, natI_q, oval_q, partV_q, nthL_q]
  kernel_rfl
theorem pairV_q : @pairV = @pairVQ := by
  kernel_rfl
theorem lookS_q : @lookS = @lookSQ := by
  delta lookS
  rewrite [mapS_q, zero_q, pairV_q, H.get_q, findK_q]
  kernel_rfl
theorem lookI_q : @lookI = @lookIQ := by
  delta lookI
  rewrite [mapI_q, zero_q, pairV_q, H.get_q, findI_q]
  kernel_rfl
theorem opLookup_q : @opLookup = @opLookupQ := by
  delta opLookup
  rewrite [opd_q, lookS_q, lookI_q]
  kernel_rfl
theorem updS_q : @updS = @updSQ := by
  delta updS
  rewrite [mapS_q, H.get_q, setK_q, H.set_q]
  kernel_rfl
theorem updI_q : @updI = @updIQ := by
  delta updI
  rewrite [mapI_q, H.get_q, setI_q, H.set_q]
  kernel_rfl
theorem opMapupdate_q : @opMapupdate = @opMapupdateQ := by
  delta opMapupdate
  rewrite [opd_q, updS_q, updI_q]
  kernel_rfl
theorem opRange_q : @opRange = @opRangeQ := by
  delta opRange
  rewrite [undP_q, opd_q, H.new_q]
  kernel_rfl
theorem opNext_q : @opNext = @opNextQ := by
  delta opNext
  rewrite [opd_q, H.get_q, nthL_q, H.set_q]
  kernel_rfl
theorem lacks_q : @lacks = @lacksQ := by
  kernel_rfl
theorem failsV_q : @failsV = @failsVQ := by
  delta failsV
  rewrite [zero_q]
  kernel_rfl
theorem opTypeassert_q : @opTypeassert = @opTypeassertQ := by
  delta opTypeassert
  rewrite [undP_q, opd_q, lacks_q, failsV_q, pairV_q]
  kernel_rfl
theorem opExtract_q : @opExtract = @opExtractQ := by
  delta opExtract
  rewrite [opd_q, oval_q, V.nth_q]
  kernel_rfl
theorem opPanic_q : @opPanic = @opPanicQ := by
  delta opPanic
  rewrite [opd_q]
  kernel_rfl
theorem opDefer_q : @opDefer = @opDeferQ := by
  delta opDefer
  rewrite [opds_q, opd_q, V.app_q]
  kernel_rfl
theorem bi_len0_q : @bi_len0 = @bi_len0Q := by
  rewrite [bi_len0_f]
  delta bi_len
  rewrite [undP_q, lenL_q, H.get_q]
  kernel_rfl
theorem lenR_q : @lenR = @lenRQ := by
  kernel_rfl
theorem bi_len_q : @bi_len = @bi_lenQ := by
  rewrite [bi_len_f]
  delta bi_lenF
  rewrite [undP_q, V.onOne_q, bi_len0_q, onSlice_q, onIST_q, V.onStr_q, lenR_q, lenL_q, V.onSl_q]
  kernel_rfl
theorem bi_cap_q : @bi_cap = @bi_capQ := by
  delta bi_cap
  rewrite [undP_q]
  kernel_rfl
theorem bi_append_q : @bi_append = @bi_appendQ := by
  delta bi_append
  rewrite [undP_q, cellsP_q, ovalh_q, appendV_q, lenL_q, cellsOfBytes_q, rowOf_q]
  kernel_rfl
theorem clearRow_q : @clearRow = @clearRowQ := by
  delta clearRow
  rewrite [cellsP_q, itemOk_q, zero_q, H.get_q, H.set_q, putCells_q, rep_q, V.cells_q]
  kernel_rfl
theorem bi_clear_q : @bi_clear = @bi_clearQ := by
  delta bi_clear
  rewrite [undP_q, clearRow_q, H.get_q, H.set_q]
  kernel_rfl
theorem bi_max_q : @bi_max = @bi_maxQ := by
  delta bi_max
  rewrite [leI_q]
  kernel_rfl
theorem bi_min_q : @bi_min = @bi_minQ := by
  delta bi_min
  rewrite [leI_q]
  kernel_rfl
theorem bi_recover_q : @bi_recover = @bi_recoverQ := by
  kernel_rfl
theorem bi_unsafeSliceData_q : @bi_unsafeSliceData = @bi_unsafeSliceDataQ := by
  kernel_rfl
theorem bi_unsafeString_q : @bi_unsafeString = @bi_unsafeStringQ := by
  delta bi_unsafeString
  rewrite [undP_q, cellsP_q, H.get_q, rowOf_q, bytesOfCells_q, H.set_q]
  kernel_rfl
theorem opBuiltin_q : @opBuiltin = @opBuiltinQ := by
  delta opBuiltin
  rewrite [bi_len_q, bi_cap_q, bi_append_q, bi_clear_q, bi_max_q, bi_min_q, bi_recover_q, bi_unsafeSliceData_q, bi_unsafeString_q]
  kernel_rfl
theorem opCall_q : @opCall = @opCallQ := by
  delta opCall
  rewrite [opds_q, opd_q, callF_q, V.app_q, invokeV_q, opBuiltin_q]
  kernel_rfl
theorem opMM_q : @opMM = @opMMQ := by
  delta opMM
  rewrite [opMakemap0_q, opMakemap_q]
  kernel_rfl
theorem evOp_q : @evOp = @evOpQ := by
  rewrite [evOp_f]
  delta evOpF
  rewrite [opMove_q, opPick_q, opAlloc_q, opBox_q, opBuild_q, opBuildslice_q, opMapupdate_q, opLoad_q, opStore_q, opNilcheck_q, opBinop_q, opUnop_q, opConvert_q, opMakeinterface_q, opMakefunc_q, opMM_q, opMakeslice_q, opSlice_q, opFieldaddr_q, opField_q, opIndexaddr_q, opIndex_q, opLookup_q, opRange_q, opNext_q, opTypeassert_q, opExtract_q, opCall_q, opDefer_q, opPanic_q]
  kernel_rfl
theorem initEnv_q : @initEnv = @initEnvQ := by
  delta initEnv
  rewrite [key_q, T.setV_q]
  kernel_rfl
theorem putD_q : @putD = @putDQ := by
  delta putD
  rewrite [key_q, T.setV_q]
  kernel_rfl
theorem delD_q : @delD = @delDQ := by
  delta delD
  rewrite [putD_q]
  kernel_rfl
theorem resS_q : @resS = @resSQ := by
  delta resS
  rewrite [key_q, loadV_q, T.getV_q]
  kernel_rfl
theorem resV_q : @resV = @resVQ := by
  delta resV
  rewrite [resS_q]
  kernel_rfl
theorem wantV_q : @wantV = @wantVQ := by
  kernel_rfl
theorem wantedB_q : @wantedB = @wantedBQ := by
  rewrite [wantedB_f]
  delta wantedBF
  rewrite [wantV_q, key_q, T.getV_q]
  kernel_rfl
theorem afterCall_q : @afterCall = @afterCallQ := by
  delta afterCall
  rewrite [putD_q]
  kernel_rfl
theorem afterOp_q : @afterOp = @afterOpQ := by
  rewrite [afterOp_f]
  delta afterOpF
  rewrite [putD_q, delD_q, afterCall_q]
  kernel_rfl
theorem regOp_q : @regOp = @regOpQ := by
  delta regOp
  rewrite [opd_q, putD_q, opPick_q, afterOp_q, opAlloc_q, opBox_q, opBuild_q, opBuildslice_q, opMapupdate_q, V.onPtr_q, loadV_q, opStore_q, opNilcheck_q, binV_q, opUnop_q, opConvert_q, opMakeinterface_q, opMakefunc_q, opMM_q, opMakeslice_q, opSlice_q, opFieldaddr_q, opField_q, opIndexaddr_q, opIndex_q, opLookup_q, opRange_q, opNext_q, opTypeassert_q, opExtract_q, opCall_q, opDefer_q, opPanic_q]
  kernel_rfl
theorem regS_q : @regS = @regSQ := by
  rewrite [regS_f]
  delta regSF
  rewrite [regOp_q, wantedB_q, delD_q]
  kernel_rfl
theorem reg_q : @reg = @regQ := by
  delta reg
  rewrite [regS_q]
  kernel_rfl
theorem evSeq_q : @evSeq = @evSeqQ := by
  kernel_rfl
theorem evCond_q : @evCond = @evCondQ := by
  kernel_rfl
theorem evBlk_q : @evBlk = @evBlkQ := by
  kernel_rfl
theorem boolB_q : @boolB = @boolBQ := by
  kernel_rfl
theorem eqLS_q : @eqLS = @eqLSQ := by
  kernel_rfl
theorem eqL_q : @eqL = @eqLQ := by
  delta eqL
  rewrite [isNilL_q, eqLS_q]
  kernel_rfl
theorem vq_bool_q : @vq_bool = @vq_boolQ := by
  delta vq_bool
  rewrite [boolB_q]
  kernel_rfl
theorem vq_int_q : @vq_int = @vq_intQ := by
  delta vq_int
  rewrite [kindB_q, eqI_q]
  kernel_rfl
theorem vq_str_q : @vq_str = @vq_strQ := by
  delta vq_str
  rewrite [eqL_q]
  kernel_rfl
theorem vq_nilp_q : @vq_nilp = @vq_nilpQ := by
  kernel_rfl
theorem vq_ptr_q : @vq_ptr = @vq_ptrQ := by
  delta vq_ptr
  rewrite [K.beq_q]
  kernel_rfl
theorem vq_nils_q : @vq_nils = @vq_nilsQ := by
  kernel_rfl
theorem vq_sl_q : @vq_sl = @vq_slQ := by
  delta vq_sl
  rewrite [K.beq_q]
  kernel_rfl
theorem vq_slu_q : @vq_slu = @vq_sluQ := by
  delta vq_slu
  rewrite [K.beq_q]
  kernel_rfl
theorem vq_nilmap_q : @vq_nilmap = @vq_nilmapQ := by
  kernel_rfl
theorem vq_map_q : @vq_map = @vq_mapQ := by
  delta vq_map
  rewrite [K.beq_q]
  kernel_rfl
theorem vq_nilfn_q : @vq_nilfn = @vq_nilfnQ := by
  kernel_rfl
theorem vq_fn_q : @vq_fn = @vq_fnQ := by
  kernel_rfl
theorem vq_yld_q : @vq_yld = @vq_yldQ := by
  delta vq_yld
  rewrite [K.beq_q]
  kernel_rfl
theorem vq_sle_q : @vq_sle = @vq_sleQ := by
  kernel_rfl
theorem vq_nili_q : @vq_nili = @vq_niliQ := by
  kernel_rfl
theorem vq_iface_q : @vq_iface = @vq_ifaceQ := by
  kernel_rfl
theorem vq_agg_q : @vq_agg = @vq_aggQ := by
  kernel_rfl
theorem vq_tup_q : @vq_tup = @vq_tupQ := by
  kernel_rfl
theorem vq_nil_q : @vq_nil = @vq_nilQ := by
  kernel_rfl
theorem vq_cons_q : @vq_cons = @vq_consQ := by
  kernel_rfl
theorem V.beq_q : @V.beq = @V.beqQ := by
  delta V.beq
  rewrite [vq_bool_q, vq_int_q, vq_str_q, vq_nilp_q, vq_ptr_q, vq_nils_q, vq_sl_q, vq_slu_q, vq_nilmap_q, vq_map_q, vq_nilfn_q, vq_fn_q, vq_yld_q, vq_sle_q, vq_nili_q, vq_iface_q, vq_agg_q, vq_tup_q, vq_nil_q, vq_cons_q]
  kernel_rfl
theorem bit_q : @bit = @bitQ := by
  kernel_rfl
theorem alwG_q : @alwG = @alwGQ := by
  kernel_rfl
theorem gcG_q : @gcG = @gcGQ := by
  kernel_rfl
theorem txG_q : @txG = @txGQ := by
  kernel_rfl
theorem getN_q : @getN = @getNQ := by
  delta getN
  rewrite [nthL_q]
  kernel_rfl
theorem mskS_q : @mskS = @mskSQ := by
  delta mskS
  rewrite [alwG_q, getN_q]
  kernel_rfl
theorem mskE_q : @mskE = @mskEQ := by
  delta mskE
  rewrite [mskS_q]
  kernel_rfl
theorem msks_q : @msks = @msksQ := by
  delta msks
  rewrite [appL_q, mskE_q]
  kernel_rfl
theorem lightB_q : @lightB = @lightBQ := by
  kernel_rfl
theorem isAl_q : @isAl = @isAlQ := by
  kernel_rfl
theorem isAlG_q : @isAlG = @isAlGQ := by
  delta isAlG
  rewrite [isAl_q]
  kernel_rfl
theorem rws_q : @rws = @rwsQ := by
  delta rws
  rewrite [getN_q, lightB_q]
  kernel_rfl
theorem dropR_q : @dropR = @dropRQ := by
  kernel_rfl
theorem lateR_q : @lateR = @lateRQ := by
  delta lateR
  rewrite [bit_q, dropR_q]
  kernel_rfl
theorem isFa_q : @isFa = @isFaQ := by
  delta isFa
  rewrite [bit_q]
  kernel_rfl
theorem faMask_q : @faMask = @faMaskQ := by
  delta faMask
  rewrite [isAlG_q]
  kernel_rfl
theorem behindS_q : @behindS = @behindSQ := by
  delta behindS
  rewrite [bit_q]
  kernel_rfl
theorem behindFa_q : @behindFa = @behindFaQ := by
  delta behindFa
  rewrite [behindS_q]
  kernel_rfl
theorem chainR_q : @chainR = @chainRQ := by
  delta chainR
  rewrite [behindFa_q, isFa_q]
  kernel_rfl
theorem freeS_q : @freeS = @freeSQ := by
  delta freeS
  rewrite [isAlG_q, chainR_q, faMask_q, lateR_q]
  kernel_rfl
theorem freeR_q : @freeR = @freeRQ := by
  delta freeR
  rewrite [chainR_q, faMask_q, freeS_q]
  kernel_rfl
theorem ordR_q : @ordR = @ordRQ := by
  delta ordR
  rewrite [freeR_q, lateR_q]
  kernel_rfl
theorem topoR_q : @topoR = @topoRQ := by
  delta topoR
  rewrite [bit_q]
  kernel_rfl
theorem tmpU_q : @tmpU = @tmpUQ := by
  kernel_rfl
theorem tmpsU_q : @tmpsU = @tmpsUQ := by
  delta tmpsU
  rewrite [tmpU_q]
  kernel_rfl
theorem guardU_q : @guardU = @guardUQ := by
  kernel_rfl
theorem usesR_q : @usesR = @usesRQ := by
  delta usesR
  rewrite [guardU_q, tmpsU_q]
  kernel_rfl
theorem hasN_q : @hasN = @hasNQ := by
  kernel_rfl
theorem dstIn_q : @dstIn = @dstInQ := by
  delta dstIn
  rewrite [hasN_q]
  kernel_rfl
theorem sameD_q : @sameD = @sameDQ := by
  rewrite [sameD_f]
  kernel_rfl
theorem pairOk_q : @pairOk = @pairOkQ := by
  delta pairOk
  rewrite [sameD_q, dstIn_q, usesR_q, bit_q]
  kernel_rfl
theorem pairsA_q : @pairsA = @pairsAQ := by
  delta pairsA
  rewrite [pairOk_q]
  kernel_rfl
theorem pairsR_q : @pairsR = @pairsRQ := by
  delta pairsR
  rewrite [pairsA_q]
  kernel_rfl
theorem edgeOk_q : @edgeOk = @edgeOkQ := by
  delta edgeOk
  rewrite [gcG_q]
  kernel_rfl
theorem edgesOk_q : @edgesOk = @edgesOkQ := by
  delta edgesOk
  rewrite [edgeOk_q]
  kernel_rfl
theorem textOk_q : @textOk = @textOkQ := by
  delta textOk
  rewrite [edgesOk_q]
  kernel_rfl
theorem gcEdges_q : @gcEdges = @gcEdgesQ := by
  delta gcEdges
  rewrite [txG_q, bit_q]
  kernel_rfl
theorem gcAt_q : @gcAt = @gcAtQ := by
  delta gcAt
  rewrite [gcEdges_q]
  kernel_rfl
theorem gcTopo_q : @gcTopo = @gcTopoQ := by
  delta gcTopo
  rewrite [bit_q, gcAt_q]
  kernel_rfl
theorem gcOk_q : @gcOk = @gcOkQ := by
  delta gcOk
  rewrite [gcTopo_q]
  kernel_rfl
theorem ordOf_q : @ordOf = @ordOfQ := by
  delta ordOf
  rewrite [ordR_q, rws_q, msks_q]
  kernel_rfl
theorem faOf_q : @faOf = @faOfQ := by
  delta faOf
  rewrite [faMask_q, rws_q, msks_q]
  kernel_rfl
theorem regOkS_q : @regOkS = @regOkSQ := by
  delta regOkS
  rewrite [topoR_q, ordOf_q, pairsR_q, chainR_q, faOf_q, textOk_q, gcOk_q]
  kernel_rfl
theorem evL_q : @evL = @evLQ := by
  delta evL
  rewrite [evOp_q]
  kernel_rfl
theorem postS_q : @postS = @postSQ := by
  delta postS
  rewrite [evL_q, putD_q]
  kernel_rfl
theorem deadS_q : @deadS = @deadSQ := by
  delta deadS
  rewrite [putD_q]
  kernel_rfl
theorem postD_q : @postD = @postDQ := by
  delta postD
  rewrite [bit_q, deadS_q, wantedB_q, postS_q]
  kernel_rfl
theorem panD_q : @panD = @panDQ := by
  delta panD
  rewrite [postD_q, putD_q]
  kernel_rfl
theorem sameAt_q : @sameAt = @sameAtQ := by
  delta sameAt
  rewrite [evL_q, V.beq_q]
  kernel_rfl
theorem hEnd_q : @hEnd = @hEndQ := by
  kernel_rfl
theorem eEnd_q : @eEnd = @eEndQ := by
  delta eEnd
  rewrite [putD_q]
  kernel_rfl
theorem delT_q : @delT = @delTQ := by
  delta delT
  rewrite [T.del_q, key_q]
  kernel_rfl
theorem delAll_q : @delAll = @delAllQ := by
  delta delAll
  rewrite [delT_q]
  kernel_rfl
theorem toR_q : @toR = @toRQ := by
  delta toR
  rewrite [eEnd_q, hEnd_q]
  kernel_rfl
theorem contF_q : @contF = @contFQ := by
  delta contF
  rewrite [putD_q]
  kernel_rfl
theorem callDF_q : @callDF = @callDFQ := by
  delta callDF
  rewrite [contF_q, toR_q, panD_q]
  kernel_rfl
theorem heavyF_q : @heavyF = @heavyFQ := by
  delta heavyF
  rewrite [contF_q, callDF_q, toR_q, panD_q]
  kernel_rfl
theorem runS1_q : @runS1 = @runS1Q := by
  delta runS1
  rewrite [evOp_q, heavyF_q, evL_q, contF_q]
  kernel_rfl
theorem runSG_q : @runSG = @runSGQ := by
  delta runSG
  rewrite [runS1_q, wantedB_q, contF_q]
  kernel_rfl
theorem runDF_q : @runDF = @runDFQ := by
  rewrite [runDF_f]
  delta runDG
  rewrite [runSG_q]
  kernel_rfl
theorem segF_q : @segF = @segFQ := by
  kernel_rfl
theorem lvlM_q : @lvlM = @lvlMQ := by
  delta lvlM
  rewrite [bit_q, sameAt_q]
  kernel_rfl
theorem lvlKF_q : @lvlKF = @lvlKFQ := by
  delta lvlKF
  rewrite [lvlM_q]
  kernel_rfl
theorem lvlAF_q : @lvlAF = @lvlAFQ := by
  delta lvlAF
  rewrite [lvlKF_q]
  kernel_rfl
theorem finF_q : @finF = @finFQ := by
  delta finF
  rewrite [delAll_q]
  kernel_rfl
theorem regD_q : @regD = @regDQ := by
  rewrite [regD_f]
  delta regDF
  rewrite [regOkS_q, runDF_q, ordOf_q, lvlAF_q, segF_q, finF_q]
  kernel_rfl
theorem rfJump_q : @rfJump = @rfJumpQ := by
  kernel_rfl
theorem rfEnd_q : @rfEnd = @rfEndQ := by
  delta rfEnd
  rewrite [H.get_q, rfJump_q, H.set_q]
  kernel_rfl
theorem rfRet_q : @rfRet = @rfRetQ := by
  delta rfRet
  rewrite [rfEnd_q]
  kernel_rfl
theorem rfCall_q : @rfCall = @rfCallQ := by
  delta rfCall
  rewrite [rfRet_q]
  kernel_rfl
theorem rfS_q : @rfS = @rfSQ := by
  delta rfS
  rewrite [callF_q, H.new_q, V.app_q, rfCall_q]
  kernel_rfl
theorem evS_q : @evS = @evSQ := by
  rewrite [evS_f]
  delta evSF
  rewrite [regD_q, reg_q, evSeq_q, opd_q, evCond_q, evBlk_q, rfS_q]
  kernel_rfl
theorem ev_q : @ev = @evQ := by
  delta ev
  rewrite [evS_q]
  kernel_rfl
theorem regDX_q : @regDX = @regDXQ := by
  delta regDX
  rewrite [runDF_q, ordOf_q, lvlAF_q, segF_q, finF_q]
  kernel_rfl
theorem codeRegs_q : @codeRegs = @codeRegsQ := by
  delta codeRegs
  rewrite [regOkS_q]
  kernel_rfl
theorem regsB_q : @regsB = @regsBQ := by
  delta regsB
  rewrite [codeRegs_q]
  kernel_rfl
theorem evXS_q : @evXS = @evXSQ := by
  delta evXS
  rewrite [regDX_q, reg_q, evSeq_q, opd_q, evCond_q, evBlk_q, rfS_q]
  kernel_rfl
theorem evX_q : @evX = @evXQ := by
  delta evX
  rewrite [evXS_q]
  kernel_rfl
theorem leaveD_q : @leaveD = @leaveDQ := by
  delta leaveD
  rewrite [H.get_q, H.del_q]
  kernel_rfl
theorem oneV_q : @oneV = @oneVQ := by
  kernel_rfl
theorem leave0_q : @leave0 = @leave0Q := by
  delta leave0
  rewrite [resV_q, oneV_q]
  kernel_rfl
theorem leave_q : @leave = @leaveQ := by
  delta leave
  rewrite [leave0_q, leaveD_q]
  kernel_rfl
theorem recQ_q : @recQ = @recQQ := by
  kernel_rfl
theorem isNilV_q : @isNilV = @isNilVQ := by
  kernel_rfl
theorem afterBody_q : @afterBody = @afterBodyQ := by
  delta afterBody
  rewrite [leave_q, isNilV_q, leave0_q, recQ_q]
  kernel_rfl
theorem setPsS_q : @setPsS = @setPsSQ := by
  delta setPsS
  rewrite [key_q, T.setV_q]
  kernel_rfl
theorem setPs_q : @setPs = @setPsQ := by
  delta setPs
  rewrite [isNilV_q, setPsS_q]
  kernel_rfl
theorem rdSet_q : @rdSet = @rdSetQ := by
  delta rdSet
  rewrite [H.get_q, H.set_q]
  kernel_rfl
theorem rdEnd_q : @rdEnd = @rdEndQ := by
  delta rdEnd
  rewrite [rdSet_q]
  kernel_rfl
theorem rdBody_q : @rdBody = @rdBodyQ := by
  delta rdBody
  rewrite [isNilV_q, H.get_q, ev_q, H.set_q, rdEnd_q]
  kernel_rfl
theorem roundS_q : @roundS = @roundSQ := by
  delta roundS
  rewrite [H.get_q, setPs_q, ev_q, rdBody_q]
  kernel_rfl
theorem callS_q : @callS = @callSQ := by
  delta callS
  rewrite [ev_q, initEnv_q, afterBody_q]
  kernel_rfl
theorem callT_q : @callT = @callTQ := by
  delta callT
  rewrite [callS_q, roundS_q]
  kernel_rfl
theorem call0_q : @call0 = @call0Q := by
  kernel_rfl
theorem call_q : @call = @callQ := by
  delta call
  rewrite [call0_q, callT_q]
  kernel_rfl
theorem callOS_q : @callOS = @callOSQ := by
  delta callOS
  rewrite [callS_q]
  kernel_rfl
theorem callOT_q : @callOT = @callOTQ := by
  delta callOT
  rewrite [callOS_q, roundS_q]
  kernel_rfl
theorem callO_q : @callO = @callOQ := by
  delta callO
  rewrite [call0_q, callOT_q]
  kernel_rfl
theorem regOneM_q : @regOneM = @regOneMQ := by
  delta regOneM
  rewrite [codeRegs_q]
  kernel_rfl
theorem regsML_q : @regsML = @regsMLQ := by
  delta regsML
  rewrite [regOneM_q]
  kernel_rfl
theorem regsM_q : @regsM = @regsMQ := by
  delta regsM
  rewrite [regsML_q]
  kernel_rfl
theorem inM_q : @inM = @inMQ := by
  kernel_rfl
theorem callXS_q : @callXS = @callXSQ := by
  delta callXS
  rewrite [farG_q, evX_q, initEnv_q, afterBody_q]
  kernel_rfl
theorem callXM_q : @callXM = @callXMQ := by
  delta callXM
  rewrite [inM_q, callS_q, callXS_q]
  kernel_rfl
theorem callXT_q : @callXT = @callXTQ := by
  delta callXT
  rewrite [callXS_q, roundS_q]
  kernel_rfl
theorem callX_q : @callX = @callXQ := by
  delta callX
  rewrite [call0_q, callXT_q]
  kernel_rfl
theorem callXO1_q : @callXO1 = @callXO1Q := by
  delta callXO1
  rewrite [callXS_q]
  kernel_rfl
theorem callXOT_q : @callXOT = @callXOTQ := by
  delta callXOT
  rewrite [callXO1_q, roundS_q]
  kernel_rfl
theorem callXO_q : @callXO = @callXOQ := by
  delta callXO
  rewrite [call0_q, callXOT_q]
  kernel_rfl
theorem preS_q : @preS = @preSQ := by
  kernel_rfl
theorem preN_q : @preN = @preNQ := by
  delta preN
  rewrite [preS_q]
  kernel_rfl
theorem hitN_q : @hitN = @hitNQ := by
  delta hitN
  rewrite [preN_q]
  kernel_rfl
theorem inN_q : @inN = @inNQ := by
  delta inN
  rewrite [isNilL_q, hitN_q, appL_q]
  kernel_rfl
theorem shortN_q : @shortN = @shortNQ := by
  delta shortN
  rewrite [lenL_q]
  kernel_rfl
theorem orcIn2_q : @orcIn2 = @orcIn2Q := by
  delta orcIn2
  rewrite [isNilV_q, shortN_q, inN_q]
  kernel_rfl
theorem orcIn_q : @orcIn = @orcInQ := by
  delta orcIn
  rewrite [orcIn2_q]
  kernel_rfl
theorem orcW_q : @orcW = @orcWQ := by
  delta orcW
  rewrite [orcIn_q, isNilV_q]
  kernel_rfl
theorem callYS_q : @callYS = @callYSQ := by
  delta callYS
  rewrite [callXM_q]
  kernel_rfl
theorem callYT_q : @callYT = @callYTQ := by
  delta callYT
  rewrite [callYS_q, roundS_q]
  kernel_rfl
theorem callY_q : @callY = @callYQ := by
  delta callY
  rewrite [call0_q, callYT_q]
  kernel_rfl
theorem pkS_q : @pkS = @pkSQ := by
  delta pkS
  rewrite [V.beq_q]
  kernel_rfl
theorem pkV_q : @pkV = @pkVQ := by
  delta pkV
  rewrite [pkS_q]
  kernel_rfl
theorem pkG_q : @pkG = @pkGQ := by
  kernel_rfl
theorem orcGrp_q : @orcGrp = @orcGrpQ := by
  delta orcGrp
  rewrite [pkG_q, pkV_q]
  kernel_rfl
theorem isV_q : @isV = @isVQ := by
  delta isV
  rewrite [V.beq_q]
  kernel_rfl
theorem flatB_q : @flatB = @flatBQ := by
  kernel_rfl
theorem memS_q : @memS = @memSQ := by
  delta memS
  rewrite [boolB_q, eqL_q]
  kernel_rfl
theorem memT_q : @memT = @memTQ := by
  delta memT
  rewrite [memS_q]
  kernel_rfl
theorem orcA_q : @orcA = @orcAQ := by
  delta orcA
  rewrite [memT_q]
  kernel_rfl
theorem orcT_q : @orcT = @orcTQ := by
  delta orcT
  rewrite [isNilV_q, orcA_q]
  kernel_rfl
theorem isT_q : @isT = @isTQ := by
  kernel_rfl
end Ex
