/-
  fullingkeep.Text answers some text, for every input of bounded capacity: by equations on values.
-/
import Derived.Test.YtpkchglfgkkcbaaDoorVsPrt
import Derived.Test.YtpkchglfgkkcbaaDoorLexRef
import Derived.KernelRfl
namespace Go.Proofs.YtpkchglfgkkcbaaDoor.Vs
open Go.Proofs.YtpkchglfgkkcbaaDoor.Ev
noncomputable section
def an_kp_Text : An := .two (.reg [0,1,2]) (.two (.reg [1,2,7]) (.two (.two (.reg [1,2,7,15]) (.two (.two (.reg [6]) (.o)) (.o))) (.two (.reg [1,2,7,8]) (.two (.reg [1,2,7,8,9]) (.two (.two (.reg [1,2,7,8,9]) (.reg [6])) (.o))))))
def an_kp_Pick : An := .two (.reg [0,1]) (.two (.reg [0,1]) (.two (.two (.reg [0,1,9]) (.two (.reg [0]) (.o))) (.two (.reg [4]) (.o))))
def an_r3_Print : An := .two (.reg [1]) (.two (.two (.reg [1,9]) (.two (.two (.reg [2]) (.o)) (.o))) (.two (.reg [1,3]) (.two (.two (.reg [1,3,4]) (.blk (.loop [] [1,3,4] (.two (.two (.reg [1,3,4,14]) (.two (.o) (.o))) (.two (.blk (.two (.reg [1,3,4]) (.reg [1,3,4]))) (.reg [1,3,4])))))) (.two (.two (.reg [1,3,5]) (.blk (.loop [] [1,3,5] (.two (.two (.reg [1,3,5,40]) (.two (.o) (.o))) (.two (.blk (.two (.reg [1,3,5,6]) (.two (.two (.reg [1,3,5,6]) (.reg [1,3,5,6])) (.two (.two (.reg [1,3,5,6,62]) (.two (.reg [1,3,5,6]) (.o))) (.two (.reg [1,3,5,6]) (.reg [1,3,5])))))) (.reg [1,3,5])))))) (.two (.reg [2]) (.o))))))
def an_kp_Program : An := .two (.reg [0,2]) (.two (.reg [2,3]) (.two (.reg [2,3,4]) (.two (.reg [2,3,5]) (.two (.reg [2,3,5]) (.two (.two (.reg [2,3,5]) (.reg [2,3,5])) (.two (.two (.reg [2,3,5]) (.reg [2,3,5])) (.two (.two (.reg [2,3,5]) (.reg [2,3,5])) (.two (.two (.reg [2,3,5]) (.reg [2,5])) (.two (.reg [2]) (.o))))))))))
def an_r1_isLetter : An := .two (.reg [0]) (.two (.reg [2]) (.o))
def an_r1_isDigit : An := .two (.reg [0]) (.two (.reg [2]) (.o))
def an_r3_Check : An := .two (.reg [1]) (.two (.blk (.two (.reg [1,8]) (.two (.two (.reg [2]) (.o)) (.two (.reg [1,11]) (.two (.two (.reg [2]) (.o)) (.two (.reg [1,15]) (.two (.two (.reg [2]) (.o)) (.o)))))))) (.two (.two (.reg [1,3]) (.blk (.loop [] [1,3] (.two (.two (.reg [1,3,19]) (.two (.o) (.o))) (.two (.blk (.two (.reg [1,3,4]) (.blk (.loop [] [1,3,4] (.two (.two (.reg [1,3,4,26]) (.two (.o) (.o))) (.two (.blk (.two (.reg [1,3,4,5]) (.two (.two (.reg [1,3,4,5]) (.reg [1,3,4,5,6])) (.two (.two (.reg [1,3,4,5,6,7]) (.blk (.loop [] [1,3,4,5,6,7] (.two (.two (.reg [1,3,4,5,6,7,47]) (.two (.o) (.o))) (.two (.blk (.two (.reg [1,3,4,5,6,7]) (.reg [1,3,4,5,6,7]))) (.reg [1,3,4,5,6,7])))))) (.two (.two (.reg [1,3,4,5,6,76]) (.two (.two (.reg [2]) (.o)) (.o))) (.two (.reg [1,3,4,85]) (.two (.two (.reg [2]) (.o)) (.o)))))))) (.reg [1,3,4]))))))) (.reg [1,3])))))) (.two (.reg [2]) (.o))))
def an_r1_Text : An := .two (.reg [0]) (.two (.two (.reg [0,4]) (.two (.two (.reg [2]) (.o)) (.o))) (.two (.reg [2]) (.o)))
def an_r3_join : An := .two (.reg [0]) (.two (.reg [0,3]) (.two (.two (.reg [0,3,4]) (.blk (.loop [] [0,3,4] (.two (.two (.reg [0,3,4,8]) (.two (.o) (.o))) (.two (.blk (.two (.two (.reg [0,3,4,12]) (.two (.reg [0,3,4]) (.o))) (.reg [0,3,4]))) (.reg [0,3,4])))))) (.two (.reg [2]) (.o))))
def an_r3_formatStmts : An := .two (.reg [0,1]) (.two (.reg [0,1,5]) (.two (.two (.reg [0,1,5,6]) (.blk (.loop [] [0,1,5,6] (.two (.two (.reg [0,1,5,6,13]) (.two (.o) (.o))) (.two (.blk (.two (.reg [0,1,5,6,7]) (.two (.reg [0,1,5,6,7]) (.two (.reg [0,1,5,6,7,24]) (.blk (.two (.reg [0,1,5,6,7,24,54]) (.two (.two (.reg [0,1,5,6,7]) (.reg [0,1,5,6])) (.two (.reg [0,1,5,6,7,24,66]) (.two (.two (.reg [0,1,5,6,7]) (.reg [0,1,5,6])) (.two (.reg [0,1,5,6,7,24,83]) (.two (.reg [0,1,5,6]) (.two (.reg [0,1,5,6,7,24,92]) (.two (.reg [0,1,5,6]) (.two (.reg [0,1,5,6,7,24,101]) (.two (.two (.reg [0,1,5,6,7]) (.reg [0,1,5,6])) (.two (.reg [0,1,5,6,7,119]) (.two (.two (.two (.reg [0,1,5,6,7]) (.reg [0,1,5,6,7])) (.two (.two (.reg [0,1,5,6,7,140]) (.two (.reg [0,1,5,6]) (.o))) (.reg [0,1,5,6]))) (.two (.reg [0,1,5,6,7,8]) (.two (.two (.reg [0,1,5,6,7,8,9]) (.blk (.loop [(8,1)] [0,1,5,6,7,8,9] (.two (.two (.reg [0,1,5,6,7,8,9,29]) (.two (.o) (.o))) (.two (.blk (.reg [0,1,5,6,7,8,9])) (.reg [0,1,5,6,7,8,9])))))) (.two (.reg [0,1,5,6,7,8]) (.reg [0,1,5,6]))))))))))))))))))))) (.reg [0,1,5,6])))))) (.two (.reg [4]) (.o))))
def an_r3_formatExpr : An := .two (.reg [1]) (.two (.blk (.two (.reg [1,3]) (.two (.two (.reg [2]) (.o)) (.two (.reg [1,10]) (.two (.two (.reg [2]) (.o)) (.two (.reg [1,16]) (.two (.two (.two (.reg [1]) (.reg [2])) (.o)) (.two (.reg [1,30]) (.two (.two (.two (.reg [1]) (.reg [2])) (.o)) (.two (.reg [1,53]) (.two (.two (.reg [2]) (.o)) (.two (.reg [1,63]) (.two (.two (.reg [2]) (.o)) (.o)))))))))))))) (.two (.two (.reg [1]) (.reg [2])) (.o)))
def an_kp_Reader_Next : An := .two (.reg [0]) (.two (.two (.reg [0,9]) (.two (.two (.reg [2]) (.o)) (.o))) (.two (.reg [0,3]) (.two (.reg [3]) (.two (.reg [2]) (.o)))))
def an_kp_Reader_Stmts : An := .two (.reg [0,1,2,3]) (.two (.reg [0,1,2,3,9]) (.two (.two (.reg [0,1,2,9,10]) (.blk (.loop [(9,17)] [0,1,2,9,10] (.two (.two (.reg [0,1,2,9,10,25]) (.two (.o) (.o))) (.two (.blk (.reg [0,1,2,9,10])) (.reg [0,1,2,9,10])))))) (.two (.reg [8]) (.o))))
def an_kp_Reader_Expr : An := .two (.reg [0,1,2,6]) (.two (.reg [0,1,2,6,7]) (.two (.reg [0,1,2,6,7,8]) (.two (.reg [0,1,2,6,7,8,9]) (.two (.reg [0,1,2,6,7,8,9,10]) (.two (.blk (.two (.reg [0,1,2,6,7,8,9,10,20]) (.two (.two (.two (.reg [6,7,8,10,37]) (.two (.two (.reg [6]) (.o)) (.o))) (.two (.reg [6]) (.o))) (.two (.reg [0,1,2,6,9,10,50]) (.two (.two (.two (.reg [0,1,2,6,10]) (.reg [6])) (.o)) (.two (.reg [0,1,2,6,9,10,65]) (.two (.two (.reg [6]) (.o)) (.two (.reg [0,1,2,6,10,85]) (.two (.two (.two (.reg [0,1,2,6,10]) (.reg [6])) (.o)) (.o)))))))))) (.two (.reg [6]) (.o)))))))
def an_r3_exceedsLimits : An := .two (.reg [1]) (.two (.two (.reg [1,18]) (.two (.two (.reg [2]) (.o)) (.o))) (.two (.two (.reg [1,3]) (.blk (.loop [] [1,3] (.two (.two (.reg [1,3,23]) (.two (.o) (.o))) (.two (.blk (.two (.reg [1,3,41]) (.two (.two (.reg [2]) (.o)) (.o)))) (.reg [1,3])))))) (.two (.two (.reg [1,4]) (.blk (.loop [] [1,4] (.two (.two (.reg [1,4,46]) (.two (.o) (.o))) (.two (.blk (.two (.reg [1,4,5]) (.two (.reg [1,4,5,6,7,8]) (.two (.reg [1,4,93]) (.two (.two (.reg [2]) (.o)) (.o)))))) (.reg [1,4])))))) (.two (.reg [2]) (.o)))))
def an_r3_wellFormed : An := .two (.reg [1]) (.two (.two (.reg [1,3]) (.blk (.loop [] [1,3] (.two (.two (.reg [1,3,12]) (.two (.o) (.o))) (.two (.blk (.two (.reg [1,3,22]) (.two (.two (.reg [2]) (.o)) (.o)))) (.reg [1,3])))))) (.two (.two (.reg [1,4]) (.blk (.loop [] [1,4] (.two (.two (.reg [1,4,27]) (.two (.o) (.o))) (.two (.blk (.two (.reg [1,4,5]) (.two (.two (.reg [1,4,5]) (.reg [1,4,5,6])) (.two (.two (.reg [1,4,5,6,7]) (.blk (.loop [] [1,4,5,6,7] (.two (.two (.reg [1,4,5,6,7,47]) (.two (.o) (.o))) (.two (.blk (.two (.reg [1,4,5,6,7,55]) (.two (.two (.reg [2]) (.o)) (.o)))) (.reg [1,4,5,6,7])))))) (.two (.reg [1,4,65]) (.two (.two (.reg [2]) (.o)) (.o))))))) (.reg [1,4])))))) (.two (.reg [2]) (.o))))
def an_r3_hasDuplicates : An := .two (.reg [1]) (.two (.reg [1,3,4]) (.two (.two (.reg [1,3,4,5]) (.blk (.loop [(3,1)] [1,3,4,5] (.two (.two (.reg [1,3,4,5,15]) (.two (.o) (.o))) (.two (.blk (.two (.two (.reg [1,3,4,5,25]) (.two (.two (.reg [2]) (.o)) (.o))) (.reg [1,3,4,5]))) (.reg [1,3,4,5])))))) (.two (.two (.reg [1,3,4,6]) (.blk (.loop [(4,1)] [1,3,4,6] (.two (.two (.reg [1,3,4,6,39]) (.two (.o) (.o))) (.two (.blk (.two (.reg [1,3,4,6,7]) (.two (.two (.reg [1,3,4,6,7,50]) (.two (.two (.reg [2]) (.o)) (.o))) (.two (.reg [1,3,4,6,7]) (.two (.reg [1,3,4,6,7,8]) (.two (.two (.reg [1,3,4,6,7,8]) (.reg [1,3,4,6,8,9])) (.two (.reg [1,3,4,6,8,9,10]) (.blk (.loop [(8,1)] [1,3,4,6,8,9,10] (.two (.two (.reg [1,3,4,6,8,9,10,69]) (.two (.o) (.o))) (.two (.blk (.two (.two (.reg [1,3,4,6,8,9,10,77]) (.two (.two (.reg [2]) (.o)) (.o))) (.reg [1,3,4,6,8,9,10]))) (.reg [1,3,4,6,8,9,10])))))))))))) (.reg [1,3,4,6])))))) (.two (.reg [2]) (.o)))))
def an_r3_scope_checkStmts : An := .two (.reg [1,2,3]) (.two (.two (.reg [1,2,3,7]) (.blk (.loop [] [1,2,3,7] (.two (.two (.reg [1,2,3,7,12]) (.two (.o) (.o))) (.two (.blk (.two (.reg [1,2,3,7,8]) (.two (.two (.reg [1,2,3,7,8,19]) (.two (.two (.two (.reg [1,2,3,7,8]) (.reg [1,2,3,7,8,40])) (.two (.two (.reg [6]) (.o)) (.o))) (.two (.reg [1,2,3,7,8,44]) (.two (.two (.reg [6]) (.o)) (.o))))) (.two (.reg [1,2,3,7,58]) (.two (.two (.reg [6]) (.o)) (.o)))))) (.reg [1,2,3,7])))))) (.two (.reg [6]) (.o)))
def an_r3_scope_definedExpr : An := .two (.reg [2,3]) (.two (.two (.reg [2,3,5]) (.blk (.loop [] [2,3,5] (.two (.two (.reg [2,3,5,10]) (.two (.o) (.o))) (.two (.blk (.two (.two (.reg [2,3,5]) (.reg [2,3,5,20])) (.two (.two (.reg [4]) (.o)) (.o)))) (.reg [2,3,5])))))) (.two (.reg [4]) (.o)))
def an_r1_formatUint : An := .two (.reg [0]) (.two (.two (.reg [0,4]) (.two (.two (.reg [2]) (.o)) (.o))) (.two (.two (.reg [0]) (.reg [2])) (.o)))
def an_r3_formatOperand : An := .two (.reg [1,2]) (.two (.two (.reg [2,20]) (.two (.two (.reg [4]) (.o)) (.o))) (.two (.reg [4]) (.o)))
def an_r3_operatorText : An := .two (.reg [0]) (.two (.reg [2]) (.o))
def an_kp_Reader_Stmt : An := .two (.reg [0,1,2,6]) (.two (.reg [0,1,2,6,7]) (.two (.reg [0,1,2,6,7,8]) (.two (.reg [0,1,2,6,7,8,9]) (.two (.reg [0,1,2,6,8,9,10]) (.two (.two (.reg [0,1,2,6,8,9,10,44]) (.two (.reg [0,1,2,6,8,9,10]) (.o))) (.two (.blk (.two (.reg [0,1,2,6,8,9,10,45]) (.two (.two (.two (.reg [0,1,6,8,9]) (.reg [6])) (.o)) (.two (.reg [0,1,2,6,8,9,10,59]) (.two (.two (.two (.reg [0,1,6,9]) (.reg [6])) (.o)) (.two (.reg [0,1,2,6,8,9,10,74]) (.two (.two (.reg [0,1,2,6,11]) (.two (.reg [0,1,2,6,11]) (.two (.reg [6,11]) (.two (.reg [6]) (.o))))) (.two (.reg [0,1,2,6,8,9,10,94]) (.two (.two (.reg [0,1,2,6]) (.two (.reg [0,1,2,6,12]) (.two (.reg [6,12]) (.two (.reg [6]) (.o))))) (.two (.reg [0,1,6,8,9,10,115]) (.two (.two (.reg [6]) (.o)) (.two (.reg [0,1,6,8,9,122]) (.two (.two (.two (.reg [0,1,6,8,9]) (.reg [0,1,6,9,13])) (.two (.two (.reg [0,1,6,9,13,14]) (.blk (.loop [] [0,1,6,9,13,14] (.two (.two (.reg [0,1,6,9,13,14,142]) (.two (.o) (.o))) (.two (.blk (.two (.reg [0,1,6,9,13,14]) (.reg [0,1,6,9,13,14]))) (.reg [0,1,6,9,13,14])))))) (.two (.reg [6]) (.o)))) (.o)))))))))))))) (.two (.reg [6]) (.o))))))))
def an_kp_names : An := .two (.reg [0]) (.two (.two (.reg [4]) (.two (.two (.reg [2]) (.o)) (.o))) (.two (.reg [2]) (.o)))
def an_kp_Word : An := .two (.reg [0,1]) (.two (.reg [0,1,5]) (.two (.reg [0,1,5,6]) (.two (.blk (.two (.reg [0,1,5,6,10]) (.two (.two (.reg [4]) (.o)) (.two (.reg [0,1,17]) (.two (.two (.reg [4]) (.o)) (.o)))))) (.two (.reg [4]) (.o)))))
def an_r3_Reserved : An := .two (.reg [0]) (.two (.reg [0,3]) (.two (.two (.reg [0,3,4]) (.blk (.loop [] [0,3,4] (.two (.two (.reg [0,3,4,9]) (.two (.o) (.o))) (.two (.blk (.two (.reg [0,3,4,17]) (.two (.two (.reg [2]) (.o)) (.o)))) (.reg [0,3,4])))))) (.two (.reg [2]) (.o))))
def an_r3_countStmts : An := .two (.reg [0,1]) (.two (.reg [0,1,7,8,9]) (.two (.two (.reg [0,1,7,8,9,10]) (.blk (.loop [] [0,1,7,8,9,10] (.two (.two (.reg [0,1,7,8,9,10,20]) (.two (.o) (.o))) (.two (.blk (.two (.reg [0,1,7,8,9,10]) (.two (.reg [0,1,7,8,9,10]) (.two (.two (.reg [0,1,7,8,9,10,33]) (.two (.reg [0,1,7,8,9,10]) (.o))) (.two (.reg [0,1,7,8,9,10,11,12,13]) (.two (.reg [0,1,7,8,9,10,11,12,13,14,15,16]) (.reg [0,1,7,8,9,10]))))))) (.reg [0,1,7,8,9,10])))))) (.two (.reg [4,5,6]) (.o))))
def an_r3_tooDeep : An := .two (.reg [0]) (.two (.two (.reg [0,3]) (.blk (.loop [] [0,3] (.two (.two (.reg [0,3,9]) (.two (.o) (.o))) (.two (.blk (.two (.reg [0,3,4]) (.two (.two (.reg [0,3,4,35]) (.two (.two (.reg [2]) (.o)) (.o))) (.two (.reg [0,3,4,5]) (.blk (.loop [] [0,3,4,5] (.two (.two (.reg [0,3,4,5,40]) (.two (.o) (.o))) (.two (.blk (.two (.reg [0,3,4,5,49]) (.two (.two (.reg [2]) (.o)) (.o)))) (.reg [0,3,4,5]))))))))) (.reg [0,3])))))) (.two (.reg [2]) (.o)))
def an_r3_depth : An := .two (.reg [1]) (.two (.reg [1,3]) (.two (.two (.reg [1,3,4]) (.blk (.loop [] [1,3,4] (.two (.two (.reg [1,3,4,9]) (.two (.o) (.o))) (.two (.blk (.reg [1,3,4])) (.reg [1,3,4])))))) (.two (.reg [2]) (.o))))
def an_r3_ValidName : An := .two (.reg [0]) (.two (.reg [2]) (.o))
def an_r3_wellFormedStmts : An := .two (.reg [0]) (.two (.two (.reg [0,3]) (.blk (.loop [] [0,3] (.two (.two (.reg [0,3,7]) (.two (.o) (.o))) (.two (.blk (.two (.reg [0,3,33]) (.two (.two (.reg [2]) (.o)) (.o)))) (.reg [0,3])))))) (.two (.reg [2]) (.o)))
def an_r3_wellFormedExpr : An := .two (.reg [1]) (.two (.two (.reg [1,3]) (.blk (.loop [] [1,3] (.two (.two (.reg [1,3,9]) (.two (.o) (.o))) (.two (.blk (.two (.reg [1,3,18]) (.two (.two (.reg [2]) (.o)) (.o)))) (.reg [1,3])))))) (.two (.reg [1,4]) (.two (.two (.reg [1,4,23]) (.blk (.two (.reg [1,4,23,24]) (.two (.two (.reg [2]) (.o)) (.two (.reg [1,4,23,38]) (.two (.two (.reg [2]) (.o)) (.two (.reg [1,4,23,57]) (.two (.two (.reg [2]) (.o)) (.two (.reg [1,4,23,76]) (.two (.two (.reg [2]) (.o)) (.two (.reg [1,4,109]) (.two (.two (.reg [2]) (.o)) (.o))))))))))))) (.two (.reg [2]) (.o)))))
def an_r3_contains : An := .two (.reg [0,1]) (.two (.two (.reg [0,1,5]) (.blk (.loop [] [0,1,5] (.two (.two (.reg [0,1,5,9]) (.two (.o) (.o))) (.two (.blk (.two (.reg [0,1,5,17]) (.two (.two (.reg [4]) (.o)) (.o)))) (.reg [0,1,5])))))) (.two (.reg [4]) (.o)))
def an_r3_FindFunc : An := .two (.reg [1,2]) (.two (.two (.reg [1,2,5]) (.blk (.loop [] [1,2,5] (.two (.two (.reg [1,2,5,10]) (.two (.o) (.o))) (.two (.blk (.two (.reg [1,2,5,20]) (.two (.two (.reg [4]) (.o)) (.o)))) (.reg [1,2,5])))))) (.two (.reg [4]) (.o)))
def an_r3_scope_definedStmt : An := .two (.reg [2,3]) (.two (.two (.reg [2,3,5]) (.blk (.loop [] [2,3,5] (.two (.two (.reg [2,3,5,10]) (.two (.o) (.o))) (.two (.blk (.two (.two (.reg [2,3,5]) (.reg [2,3,5,20])) (.two (.two (.reg [4]) (.o)) (.o)))) (.reg [2,3,5])))))) (.two (.two (.reg [2,3,32]) (.two (.two (.reg [4]) (.o)) (.o))) (.two (.two (.reg [2,3,34]) (.blk (.two (.reg [2,3,34,35]) (.two (.two (.reg [4]) (.o)) (.two (.reg [2,3,34,42]) (.two (.two (.reg [4]) (.o)) (.two (.reg [2,3,57]) (.two (.two (.reg [4]) (.o)) (.o))))))))) (.two (.reg [4]) (.o)))))
def an_r1_IsName : An := .two (.reg [0]) (.two (.two (.reg [0,3]) (.blk (.loop [] [0,3] (.two (.two (.reg [0,3,7]) (.two (.o) (.o))) (.two (.blk (.two (.reg [0,3,25]) (.two (.two (.reg [2]) (.o)) (.o)))) (.reg [0,3])))))) (.two (.reg [2]) (.o)))
def an_r3_wellFormedStmt : An := .two (.reg [1]) (.two (.two (.reg [1,3]) (.blk (.loop [] [1,3] (.two (.two (.reg [1,3,9]) (.two (.o) (.o))) (.two (.blk (.two (.reg [1,3,18]) (.two (.two (.reg [2]) (.o)) (.o)))) (.reg [1,3])))))) (.two (.reg [1,4]) (.two (.two (.reg [1,4,30]) (.blk (.two (.reg [1,4,30,31]) (.two (.two (.reg [2]) (.o)) (.two (.reg [1,4,30,65]) (.two (.two (.reg [2]) (.o)) (.two (.reg [1,4,30,99]) (.two (.two (.reg [2]) (.o)) (.two (.reg [1,4,30,108]) (.two (.two (.reg [2]) (.o)) (.two (.reg [1,4,30,123]) (.two (.two (.reg [2]) (.o)) (.two (.reg [1,4,30,135]) (.two (.two (.reg [2]) (.o)) (.two (.reg [1,4,163]) (.two (.two (.reg [2]) (.o)) (.o))))))))))))))))) (.two (.reg [2]) (.o)))))
def an_r3_IsBinaryOp : An := .two (.reg [0]) (.two (.reg [2]) (.o))
def an_r3_isZero : An := .two (.reg [1]) (.two (.reg [2]) (.o))
def an_r3_onlyValue : An := .two (.reg [1]) (.two (.reg [2]) (.o))
def an_all : List (Nat × An × Fl) := [(F_kp_Pick, an_kp_Pick, ⟨fun _ => false, false⟩), (F_kp_Program, an_kp_Program, ⟨fun d => Nat.beq d 34, false⟩), (F_kp_Reader_Expr, an_kp_Reader_Expr, ⟨fun _ => false, false⟩), (F_kp_Reader_Next, an_kp_Reader_Next, ⟨fun _ => false, false⟩), (F_kp_Reader_Stmt, an_kp_Reader_Stmt, ⟨fun _ => false, false⟩), (F_kp_Reader_Stmts, an_kp_Reader_Stmts, ⟨fun _ => false, false⟩), (F_kp_Text, an_kp_Text, ⟨fun _ => false, false⟩), (F_kp_Word, an_kp_Word, ⟨fun _ => false, false⟩), (F_kp_names, an_kp_names, ⟨fun _ => false, false⟩), (F_r1_IsName, an_r1_IsName, ⟨fun _ => false, false⟩), (F_r1_Text, an_r1_Text, ⟨fun _ => false, false⟩), (F_r1_formatUint, an_r1_formatUint, ⟨fun _ => false, false⟩), (F_r1_isDigit, an_r1_isDigit, ⟨fun _ => false, false⟩), (F_r1_isLetter, an_r1_isLetter, ⟨fun _ => false, false⟩), (F_r3_Check, an_r3_Check, ⟨fun _ => false, false⟩), (F_r3_FindFunc, an_r3_FindFunc, ⟨fun _ => false, false⟩), (F_r3_IsBinaryOp, an_r3_IsBinaryOp, ⟨fun _ => false, false⟩), (F_r3_Print, an_r3_Print, ⟨fun _ => false, false⟩), (F_r3_Reserved, an_r3_Reserved, ⟨fun _ => false, false⟩), (F_r3_ValidName, an_r3_ValidName, ⟨fun _ => false, false⟩), (F_r3_contains, an_r3_contains, ⟨fun _ => false, false⟩), (F_r3_countStmts, an_r3_countStmts, ⟨fun _ => false, false⟩), (F_r3_depth, an_r3_depth, ⟨fun _ => false, false⟩), (F_r3_exceedsLimits, an_r3_exceedsLimits, ⟨fun _ => false, false⟩), (F_r3_formatExpr, an_r3_formatExpr, ⟨fun _ => false, false⟩), (F_r3_formatOperand, an_r3_formatOperand, ⟨fun _ => false, false⟩), (F_r3_formatStmts, an_r3_formatStmts, ⟨fun _ => false, false⟩), (F_r3_hasDuplicates, an_r3_hasDuplicates, ⟨fun _ => false, false⟩), (F_r3_isZero, an_r3_isZero, ⟨fun _ => false, false⟩), (F_r3_join, an_r3_join, ⟨fun _ => false, false⟩), (F_r3_onlyValue, an_r3_onlyValue, ⟨fun _ => false, false⟩), (F_r3_operatorText, an_r3_operatorText, ⟨fun _ => false, false⟩), (F_r3_scope_checkStmts, an_r3_scope_checkStmts, ⟨fun _ => false, false⟩), (F_r3_scope_definedExpr, an_r3_scope_definedExpr, ⟨fun _ => false, false⟩), (F_r3_scope_definedStmt, an_r3_scope_definedStmt, ⟨fun _ => false, false⟩), (F_r3_tooDeep, an_r3_tooDeep, ⟨fun _ => false, false⟩), (F_r3_wellFormed, an_r3_wellFormed, ⟨fun _ => false, false⟩), (F_r3_wellFormedExpr, an_r3_wellFormedExpr, ⟨fun _ => false, false⟩), (F_r3_wellFormedStmt, an_r3_wellFormedStmt, ⟨fun _ => false, false⟩), (F_r3_wellFormedStmts, an_r3_wellFormedStmts, ⟨fun _ => false, false⟩)]
def anOf (l : List (Nat × An × Fl)) (f : FuncId) : Option (An × Fl) := match l.find? fun x => Nat.beq x.1 f with
  | some x => some x.2
  | none => none
theorem low_kp_Pick : lowF Tryd.prog [] (anOf an_all) F_kp_Pick = some sf_kp_Pick := by kernel_rfl
theorem low_kp_Program : lowF Tryd.prog [] (anOf an_all) F_kp_Program = some sfProgram := by kernel_rfl
theorem low_kp_Reader_Expr : lowF Tryd.prog [] (anOf an_all) F_kp_Reader_Expr = some sf_kp_Reader_Expr := by kernel_rfl
theorem low_kp_Reader_Next : lowF Tryd.prog [] (anOf an_all) F_kp_Reader_Next = some sf_kp_Reader_Next := by kernel_rfl
theorem low_kp_Reader_Stmt : lowF Tryd.prog [] (anOf an_all) F_kp_Reader_Stmt = some sf_kp_Reader_Stmt := by kernel_rfl
theorem low_kp_Reader_Stmts : lowF Tryd.prog [] (anOf an_all) F_kp_Reader_Stmts = some sf_kp_Reader_Stmts := by kernel_rfl
theorem low_kp_Text : lowF Tryd.prog [] (anOf an_all) F_kp_Text = some sf_kp_Text := by kernel_rfl
theorem low_kp_Word : lowF Tryd.prog [] (anOf an_all) F_kp_Word = some sf_kp_Word := by kernel_rfl
theorem low_kp_names : lowF Tryd.prog [] (anOf an_all) F_kp_names = some sf_kp_names := by kernel_rfl
theorem low_r1_IsName : lowF Tryd.prog [] (anOf an_all) F_r1_IsName = some sf_r1_IsName := by kernel_rfl
theorem low_r1_Text : lowF Tryd.prog [] (anOf an_all) F_r1_Text = some sf_r1_Text := by kernel_rfl
theorem low_r1_formatUint : lowF Tryd.prog [] (anOf an_all) F_r1_formatUint = some sf_r1_formatUint := by kernel_rfl
theorem low_r1_isDigit : lowF Tryd.prog [] (anOf an_all) F_r1_isDigit = some sf_r1_isDigit := by kernel_rfl
theorem low_r1_isLetter : lowF Tryd.prog [] (anOf an_all) F_r1_isLetter = some sf_r1_isLetter := by kernel_rfl
theorem low_r3_Check : lowF Tryd.prog [] (anOf an_all) F_r3_Check = some sf_r3_Check := by kernel_rfl
theorem low_r3_FindFunc : lowF Tryd.prog [] (anOf an_all) F_r3_FindFunc = some sf_r3_FindFunc := by kernel_rfl
theorem low_r3_IsBinaryOp : lowF Tryd.prog [] (anOf an_all) F_r3_IsBinaryOp = some sf_r3_IsBinaryOp := by kernel_rfl
theorem low_r3_Print : lowF Tryd.prog [] (anOf an_all) F_r3_Print = some sf_r3_Print := by kernel_rfl
theorem low_r3_Reserved : lowF Tryd.prog [] (anOf an_all) F_r3_Reserved = some sf_r3_Reserved := by kernel_rfl
theorem low_r3_ValidName : lowF Tryd.prog [] (anOf an_all) F_r3_ValidName = some sf_r3_ValidName := by kernel_rfl
theorem low_r3_contains : lowF Tryd.prog [] (anOf an_all) F_r3_contains = some sf_r3_contains := by kernel_rfl
theorem low_r3_countStmts : lowF Tryd.prog [] (anOf an_all) F_r3_countStmts = some sf_r3_countStmts := by kernel_rfl
theorem low_r3_depth : lowF Tryd.prog [] (anOf an_all) F_r3_depth = some sf_r3_depth := by kernel_rfl
theorem low_r3_exceedsLimits : lowF Tryd.prog [] (anOf an_all) F_r3_exceedsLimits = some sf_r3_exceedsLimits := by kernel_rfl
theorem low_r3_formatExpr : lowF Tryd.prog [] (anOf an_all) F_r3_formatExpr = some sf_r3_formatExpr := by kernel_rfl
theorem low_r3_formatOperand : lowF Tryd.prog [] (anOf an_all) F_r3_formatOperand = some sf_r3_formatOperand := by kernel_rfl
theorem low_r3_formatStmts : lowF Tryd.prog [] (anOf an_all) F_r3_formatStmts = some sf_r3_formatStmts := by kernel_rfl
theorem low_r3_hasDuplicates : lowF Tryd.prog [] (anOf an_all) F_r3_hasDuplicates = some sf_r3_hasDuplicates := by kernel_rfl
theorem low_r3_isZero : lowF Tryd.prog [] (anOf an_all) F_r3_isZero = some sf_r3_isZero := by kernel_rfl
theorem low_r3_join : lowF Tryd.prog [] (anOf an_all) F_r3_join = some sf_r3_join := by kernel_rfl
theorem low_r3_onlyValue : lowF Tryd.prog [] (anOf an_all) F_r3_onlyValue = some sf_r3_onlyValue := by kernel_rfl
theorem low_r3_operatorText : lowF Tryd.prog [] (anOf an_all) F_r3_operatorText = some sf_r3_operatorText := by kernel_rfl
theorem low_r3_scope_checkStmts : lowF Tryd.prog [] (anOf an_all) F_r3_scope_checkStmts = some sf_r3_scope_checkStmts := by kernel_rfl
theorem low_r3_scope_definedExpr : lowF Tryd.prog [] (anOf an_all) F_r3_scope_definedExpr = some sf_r3_scope_definedExpr := by kernel_rfl
theorem low_r3_scope_definedStmt : lowF Tryd.prog [] (anOf an_all) F_r3_scope_definedStmt = some sf_r3_scope_definedStmt := by kernel_rfl
theorem low_r3_tooDeep : lowF Tryd.prog [] (anOf an_all) F_r3_tooDeep = some sf_r3_tooDeep := by kernel_rfl
theorem low_r3_wellFormed : lowF Tryd.prog [] (anOf an_all) F_r3_wellFormed = some sf_r3_wellFormed := by kernel_rfl
theorem low_r3_wellFormedExpr : lowF Tryd.prog [] (anOf an_all) F_r3_wellFormedExpr = some sf_r3_wellFormedExpr := by kernel_rfl
theorem low_r3_wellFormedStmt : lowF Tryd.prog [] (anOf an_all) F_r3_wellFormedStmt = some sf_r3_wellFormedStmt := by kernel_rfl
theorem low_r3_wellFormedStmts : lowF Tryd.prog [] (anOf an_all) F_r3_wellFormedStmts = some sf_r3_wellFormedStmts := by kernel_rfl
noncomputable def theT : FuncId → Option SF := lowT Tryd.prog (tabsOf []) [] (anOf an_all)
theorem tab_of {f : FuncId} {sf : SF} (h : lowF Tryd.prog [] (anOf an_all) f = some sf) : theT f = some sf := h
theorem htext_of {T : FuncId → Option SF} (t_kp_Pick : T F_kp_Pick = some sf_kp_Pick) (t_kp_Program : T F_kp_Program = some sfProgram) (t_kp_Reader_Expr : T F_kp_Reader_Expr = some sf_kp_Reader_Expr) (t_kp_Reader_Next : T F_kp_Reader_Next = some sf_kp_Reader_Next) (t_kp_Reader_Stmt : T F_kp_Reader_Stmt = some sf_kp_Reader_Stmt) (t_kp_Reader_Stmts : T F_kp_Reader_Stmts = some sf_kp_Reader_Stmts) (t_kp_Text : T F_kp_Text = some sf_kp_Text) (t_kp_Word : T F_kp_Word = some sf_kp_Word) (t_kp_names : T F_kp_names = some sf_kp_names) (t_r1_IsName : T F_r1_IsName = some sf_r1_IsName) (t_r1_Text : T F_r1_Text = some sf_r1_Text) (t_r1_formatUint : T F_r1_formatUint = some sf_r1_formatUint) (t_r1_isDigit : T F_r1_isDigit = some sf_r1_isDigit) (t_r1_isLetter : T F_r1_isLetter = some sf_r1_isLetter) (t_r3_Check : T F_r3_Check = some sf_r3_Check) (t_r3_FindFunc : T F_r3_FindFunc = some sf_r3_FindFunc) (t_r3_IsBinaryOp : T F_r3_IsBinaryOp = some sf_r3_IsBinaryOp) (t_r3_Print : T F_r3_Print = some sf_r3_Print) (t_r3_Reserved : T F_r3_Reserved = some sf_r3_Reserved) (t_r3_ValidName : T F_r3_ValidName = some sf_r3_ValidName) (t_r3_contains : T F_r3_contains = some sf_r3_contains) (t_r3_countStmts : T F_r3_countStmts = some sf_r3_countStmts) (t_r3_depth : T F_r3_depth = some sf_r3_depth) (t_r3_exceedsLimits : T F_r3_exceedsLimits = some sf_r3_exceedsLimits) (t_r3_formatExpr : T F_r3_formatExpr = some sf_r3_formatExpr) (t_r3_formatOperand : T F_r3_formatOperand = some sf_r3_formatOperand) (t_r3_formatStmts : T F_r3_formatStmts = some sf_r3_formatStmts) (t_r3_hasDuplicates : T F_r3_hasDuplicates = some sf_r3_hasDuplicates) (t_r3_isZero : T F_r3_isZero = some sf_r3_isZero) (t_r3_join : T F_r3_join = some sf_r3_join) (t_r3_onlyValue : T F_r3_onlyValue = some sf_r3_onlyValue) (t_r3_operatorText : T F_r3_operatorText = some sf_r3_operatorText) (t_r3_scope_checkStmts : T F_r3_scope_checkStmts = some sf_r3_scope_checkStmts) (t_r3_scope_definedExpr : T F_r3_scope_definedExpr = some sf_r3_scope_definedExpr) (t_r3_scope_definedStmt : T F_r3_scope_definedStmt = some sf_r3_scope_definedStmt) (t_r3_tooDeep : T F_r3_tooDeep = some sf_r3_tooDeep) (t_r3_wellFormed : T F_r3_wellFormed = some sf_r3_wellFormed) (t_r3_wellFormedExpr : T F_r3_wellFormedExpr = some sf_r3_wellFormedExpr) (t_r3_wellFormedStmt : T F_r3_wellFormedStmt = some sf_r3_wellFormedStmt) (t_r3_wellFormedStmts : T F_r3_wellFormedStmts = some sf_r3_wellFormedStmts) : HText T := by
  repeat' first | assumption | constructor
theorem htext : HText theT := htext_of (tab_of low_kp_Pick) (tab_of low_kp_Program) (tab_of low_kp_Reader_Expr) (tab_of low_kp_Reader_Next) (tab_of low_kp_Reader_Stmt) (tab_of low_kp_Reader_Stmts) (tab_of low_kp_Text) (tab_of low_kp_Word) (tab_of low_kp_names) (tab_of low_r1_IsName) (tab_of low_r1_Text) (tab_of low_r1_formatUint) (tab_of low_r1_isDigit) (tab_of low_r1_isLetter) (tab_of low_r3_Check) (tab_of low_r3_FindFunc) (tab_of low_r3_IsBinaryOp) (tab_of low_r3_Print) (tab_of low_r3_Reserved) (tab_of low_r3_ValidName) (tab_of low_r3_contains) (tab_of low_r3_countStmts) (tab_of low_r3_depth) (tab_of low_r3_exceedsLimits) (tab_of low_r3_formatExpr) (tab_of low_r3_formatOperand) (tab_of low_r3_formatStmts) (tab_of low_r3_hasDuplicates) (tab_of low_r3_isZero) (tab_of low_r3_join) (tab_of low_r3_onlyValue) (tab_of low_r3_operatorText) (tab_of low_r3_scope_checkStmts) (tab_of low_r3_scope_definedExpr) (tab_of low_r3_scope_definedStmt) (tab_of low_r3_tooDeep) (tab_of low_r3_wellFormed) (tab_of low_r3_wellFormedExpr) (tab_of low_r3_wellFormedStmt) (tab_of low_r3_wellFormedStmts)
theorem no_exts : ExtOK Tryd.prog [] := fun f x args c hx _ => by cases hx
end
end Go.Proofs.YtpkchglfgkkcbaaDoor.Vs
namespace Go.Proofs.YtpkchglfgkkcbaaDoor
open Go.RowKit Go.ChangeShapes Go.WideShapes
theorem no_count : Ev.NoCount Tryd.prog := by
  have h : (Tryd.prog.funcs.toList.all fun fn => !(fn.name == "runtime.NumGoroutine")) = true := by kernel_rfl
  intro f fn hf
  have := List.all_eq_true.1 h fn (by rw [Array.mem_toList_iff]; exact Array.mem_of_getElem? hf)
  simpa using this
/-- A slice of integers as it is handed in. -/
def ArgInts (w : World) (v : Value) (xs : List Int) : Prop :=
  (∀ n, n ∈ xs → Vs.InR n) ∧ ((v = .slice none 0 0 ∧ xs = []) ∨
  (∃ b off cap, v = .slice (some ⟨b, off, none⟩) xs.length cap ∧ b < w.heap.size ∧ xs.length ≤ cap ∧ cap ≤ 140737488355328 ∧ ∀ i, i < xs.length → w.cell? ⟨b, off + i, none⟩ = some (.int .i64 (xs.getD i 0))))
theorem ArgInts.keep {w w' : World} {v : Value} {xs : List Int} (h : ArgInts w v xs) (hb : Bel w w') : ArgInts w' v xs := by
  obtain ⟨hr, h | ⟨b, off, cap, rfl, h0, h1, h2, hc⟩⟩ := h
  · exact ⟨hr, .inl h⟩
  · refine ⟨hr, .inr ⟨b, off, cap, rfl, Nat.lt_of_lt_of_le h0 hb.size, h1, h2, fun i hi => ?_⟩⟩
    rw [← hc i hi]
    exact Below.cell hb (p := ⟨b, off + i, none⟩) h0
theorem prs_ints (xs : List Int) : Vs.PRs (fun _ => none) (xs.map fun n => [Vs.PV.int .i64 n]).flatten (xs.map (Value.int .i64)) := by
  induction xs with
  | nil => exact .nil
  | cons a l ih => exact .cons .int ih
theorem text_any {w : World} {v : Value} {xs : List Int} (h : ArgInts w v xs) (how at_ : Int) : TextIs w v how at_ := by
  intro w' hb
  obtain ⟨hr, h⟩ := h.keep hb
  letI : Ev.Syms := Ev.noSyms
  have key : ∀ (pv : Vs.PV), Vs.IntsV xs pv → Vs.ArgW w' [.p pv, .i how, .i at_] [v, .int .i64 how, .int .i64 at_] → Calls Tryd.prog 8 #[v, .int .i64 how, .int .i64 at_] w' fun e w'' => ∃ s : ByteArray, e = .returned (.string s) ∧ s.size ≤ maxLen ∧ Bel w' w'' := fun pv hp ha => by
    obtain ⟨s, h1, h2⟩ := Vs.keep_text Vs.htext xs pv hp hr how at_ []
    refine (Vs.str_of_go (P := Tryd.prog) (gl := 0) (next := Tryd.prog.globals.size) (gs := []) (by kernel_rfl) no_count (by kernel_rfl) rfl Vs.no_exts ha Vs.low_kp_Text h1 (fun _ _ h => by cases h)).mono ?_
    rintro e w'' ⟨rfl, hb2⟩
    refine ⟨_, rfl, ?_, hb2⟩
    rw [← size_len]
    show s.length ≤ _
    unfold maxLen
    omega
  rcases h with ⟨rfl, rfl⟩ | ⟨b, off, cap, rfl, h0, h1, h2, hc⟩
  · exact key .nils .nil (.pure .nils rfl (.pure .int rfl (.pure .int rfl .nil)))
  · refine key (.list false 1 (xs.map fun n => [.int .i64 n])) .list ?_
    have hl : (xs.map fun n => [Vs.PV.int .i64 n]).length = xs.length := List.length_map ..
    have ha := Vs.ArgW.slice (w := w') (es := 1) (b := b) (off := off) (cap := cap) (rows := xs.map fun n => [.int .i64 n]) (cs := xs.map (Value.int .i64)) h0 (by rw [hl]; exact h1) (by unfold Ev.ucap; omega) (prs_ints xs) (by simp) (by simp) (fun i v hi => by
      rw [List.getElem?_map] at hi
      obtain ⟨n, hn, rfl⟩ := Option.map_eq_some_iff.1 hi
      have hlt : i < xs.length := (List.getElem?_eq_some_iff.1 hn).1
      have h3 := hc i hlt
      rw [List.getD_eq_getElem?_getD, hn] at h3
      exact ⟨h3, rfl⟩) (.pure (x := .int .i64 how) .int rfl (.pure (x := .int .i64 at_) .int rfl .nil))
    rw [hl] at ha
    exact ha
theorem inR_of_wf {n : Int} (h : (Lit.int .i64 n).wf = true) : Vs.InR n := by
  have h2 : (decide (IntKind.i64.min ≤ n) && decide (n ≤ IntKind.i64.max)) = true := h
  rw [Bool.and_eq_true, decide_eq_true_eq, decide_eq_true_eq] at h2
  have e1 : IntKind.i64.min = -9223372036854775808 := by decide
  have e2 : IntKind.i64.max = 9223372036854775807 := by decide
  rw [e1, e2] at h2
  exact h2
theorem block_of_shape {w : World} {b : Nat} {x : TypeId × Nat} (h : w.shape? b = some x) : b < w.heap.size := by
  unfold World.shape? at h
  cases hq : w.heap[b]? with
  | none => rw [hq] at h; cases h
  | some o => exact (Array.getElem?_eq_some_iff.1 hq).1
set_option maxRecDepth 100000 in
theorem argInts_of {H : Type} {enc : TypeId × Value → H} {W : World} {t : TypeId} {v : Value} {d : DataW H} {p : List MemPlace} {r : Reach} {base : Nat} (ht : Tryd.prog.underlying t = some (.slice 3)) (hv : Value.okWide Tryd.prog W r base t v)
    (h : DataW.Trod enc Tryd.prog W 0 (fun _ => true) true t v d p) (hb : ∀ x, x ∈ DataW.weights Tryd.prog t d → x ≤ reachBytes) : ∃ xs, IntsIs W v xs ∧ ArgInts W v xs := by
  obtain ⟨a0, len, cap, rfl⟩ := okWide_slice ht hv
  obtain ⟨fuel, hf⟩ := h
  rcases open_ints ht Tryd.underlying3 (by kernel_rfl) hf with ⟨hcs, hx⟩ | ⟨a, len', cap', zs, hcs, _, hl, hm, hz, hx, hcell, hwz⟩
  · simp [Value.cells] at hcs
    obtain ⟨rfl, rfl, rfl⟩ := hcs
    exact ⟨[], Or.inl ⟨⟨_, _, rfl⟩, rfl⟩, ⟨(fun n hn => absurd hn (by simp)), Or.inl ⟨rfl, rfl⟩⟩⟩
  · simp [Value.cells] at hcs
    obtain ⟨rfl, rfl, rfl⟩ := hcs
    simp only [if_true] at hz
    have hd : d = .slice (lits .i64 (zs.take len)) (lits .i64 (zs.drop len)) := (Prod.mk.inj hx).1
    subst hd
    have hok : len ≤ cap ∧ (cap : Int) ≤ IntKind.i64.max ∧ W.has Tryd.prog r base a 3 cap := by
      simp only [Value.okWide, ht, Cell.okWide, Cell.ok] at hv
      exact hv
    obtain ⟨-, -, -, hspot, row, cells, hsh, -⟩ := hok
    have hbl := block_of_shape hsh
    have hby : Tryd.prog.bytesOf 3 = 8 := by kernel_rfl
    have hcap : cap ≤ 140737488355328 := by
      have h3 : (lits (H := H) .i64 (zs.take len)).length + (lits (H := H) .i64 (zs.drop len)).length = zs.length := by simp [lits]; omega
      have h4 := hb (((lits (H := H) .i64 (zs.take len)).length + (lits (H := H) .i64 (zs.drop len)).length) * Tryd.prog.bytesOf 3) (by simp only [DataW.weights, ht]; exact List.mem_cons_self ..)
      rw [hby, h3] at h4
      unfold reachBytes at h4
      omega
    obtain ⟨b, off, spot⟩ := a
    simp only at hspot
    subst hspot
    have hlen : (zs.take len).length = len := by rw [List.length_take]; omega
    have hcells : ∀ i, i < (zs.take len).length → W.cell? ⟨b, off + i, none⟩ = some (.int .i64 ((zs.take len).getD i 0)) := fun i hi => by
      rw [← add_plain, hcell i (by omega)]
      rw [hlen] at hi
      simp [List.getD_eq_getElem?_getD, hi]
    refine ⟨zs.take len, ?_, ⟨fun n hn => inR_of_wf (hwz n (List.mem_of_mem_take hn)), Or.inr ⟨b, off, cap, by rw [hlen], hbl, by omega, hcap, hcells⟩⟩⟩
    by_cases h0 : len = 0
    · subst h0
      exact Or.inl ⟨⟨_, _, rfl⟩, by simp⟩
    · exact Or.inr ⟨b, off, cap, by rw [hlen], by omega, by omega, hcells⟩
end Go.Proofs.YtpkchglfgkkcbaaDoor
