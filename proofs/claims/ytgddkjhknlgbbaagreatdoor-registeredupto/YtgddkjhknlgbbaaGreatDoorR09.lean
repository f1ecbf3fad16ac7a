import Derived.Test.YtgddkjhknlgbbaaGreatDoorR08
import Derived.Test.YtgddkjhknlgbbaaGreatDoorM15
import Derived.Test.YtgddkjhknlgbbaaGreatDoorR04
set_option linter.unusedVariables false
set_option linter.unusedSimpArgs false

namespace Go.Proofs.YtgddkjhknlgbbaaGreatDoor
set_option linter.unusedVariables false
set_option linter.unusedSimpArgs false
open Go.RowKit Go.Maps Go.Sort Go.Shelf

theorem Tryz.info147:(Tryz.prog.info? 147).map (fun i=>(i.zero,i.size,i.bytes))=some (some (.agg #[.int .u8 0,.string ⟨#[]⟩,.int .i64 0]),3,32):=by kernel_rfl

def pcL (x:Pc):List Value:=[.int .u8 x.m,.string x.s,.int .i64 x.i]
def pcCells (ps:List Pc):List Value:=ps.flatMap pcL
theorem pcCells_snoc (ps:List Pc) (x:Pc):pcCells (ps ++ [x])=pcCells ps ++ pcL x:=by simp [pcCells]

theorem digitR_any (c:Nat) (w:World) (hc:c≤255):Calls Tryz.prog 97 #[.int .u8 c] w fun e w'=>e=.returned (.bool (isDg c))∧w'=w:=by
 by_cases h1:48≤c
 ·by_cases h2:c≤57
  ·have g1:(48:Int)≤(c:Int):=by omega
   have g2:(c:Int)≤57:=by omega
   have e:isDg c=true:=by simp [isDg,h1,h2]
   go_enter Tryz.func97,Tryz.ntmps97
   go_wp2
   go_ret
   exact ⟨by first|rfl|(rw [e];rfl)|rw [e],rfl⟩
  ·have g1:(48:Int)≤(c:Int):=by omega
   have g2:¬ (c:Int)≤57:=by omega
   have e:isDg c=false:=by simp [isDg,h1,h2]
   go_enter Tryz.func97,Tryz.ntmps97
   go_wp2
   go_ret
   exact ⟨by first|rfl|(rw [e];rfl)|rw [e],rfl⟩
 ·have g1:¬ (48:Int)≤(c:Int):=by omega
  have e:isDg c=false:=by simp [isDg,h1]
  go_enter Tryz.func97,Tryz.ntmps97
  go_wp2
  go_ret
  exact ⟨by first|rfl|(rw [e];rfl)|rw [e],rfl⟩
theorem smallR_any (c:Nat) (w:World) (hc:c≤255):Calls Tryz.prog 63 #[.int .u8 c] w fun e w'=>e=.returned (.bool (isLt c))∧w'=w:=small_any c w hc

theorem sliceS (s:ByteArray) (q0 q:Nat) (h1:q0≤q) (h2:q≤s.size):∀ w,(Instr.slice 9 (.string s) (some (.int .i64 q0)) (some (.int .i64 q)) none).run Tryz.prog w=.ok (.string (s.extract q0 q)) w:=fun w=>(run_sliceAt_string _ _ _ _ _ _ Tryz.underlying9).symm.trans (strSlice s q0 q h1 h2 w)

/-- The pieces so far. -/
structure PcsB (W:World) (s:ByteArray) (p:Nat) (ps:List Pc) (v:Value) (wr:World):Prop where
 le:p≤s.size
 len:ps.length≤p
 own:wr.ownsRow W.heap.size 147 3 v ps.length (pcCells ps)
 cut:Cut (bytesL s) 0 (ps.map tokP) p
 wf:∀ x∈ps,WfPc x
 bel:Below W.heap.size W wr

theorem PcsB.blank {W:World} {s:ByteArray} {p:Nat} {ps:List Pc} {v:Value} {wr:World} (h:PcsB W s p ps v wr) (hb:byteAt s p=32):PcsB W s (p+1) ps v wr:=by
 obtain ⟨hc,hp⟩:=byte_is hb (by omega)
 refine ⟨by omega,by have:=h.len;omega,h.own,?_,h.wf,h.bel⟩
 have h1:Cut (bytesL s) p [] (p+1):=by
  unfold Cut
  rw [drop_at hc]
  show qToks p (32 :: _)=_
  rw [toks_blank]
  cases qToks (p+1) ((bytesL s).drop (p+1)) <;> simp
 simpa using h.cut.trans h1
theorem PcsB.more {W:World} {s:ByteArray} {p q:Nat} {ps:List Pc} {v v':Value} {wr w2:World} {x:Pc} (h:PcsB W s p ps v wr) (hpq:p<q) (hq:q≤s.size) (ho:w2.ownsRow W.heap.size 147 3 v' (ps.length+1) (pcCells ps ++ pcL x)) (hk:Cut (bytesL s) p [tokP x] q) (hw:WfPc x) (hb:Below W.heap.size W w2):PcsB W s q (ps ++ [x]) v' w2:=by
 refine ⟨hq,by have:=h.len;simp;omega,?_,?_,fun y hy=>?_,hb⟩
 ·rw [pcCells_snoc];simpa using ho
 ·simpa using h.cut.trans hk
 ·rcases List.mem_append.1 hy with hy|hy
  ·exact h.wf y hy
  ·rw [List.mem_singleton.1 hy];exact hw

def PiecesSaid (W:World) (s:ByteArray) (e:Ending) (w':World):Prop:=
 (qToks 0 (bytesL s)=none∧e=.returned (.tuple #[.slice none 0 0,.bool false])∧Below W.heap.size W w') ∨
 (∃ v ps,qToks 0 (bytesL s)=some (ps.map tokP)∧e=.returned (.tuple #[v,.bool true])∧w'.ownsRow W.heap.size 147 3 v ps.length (pcCells ps)∧(∀ x∈ps,WfPc x)∧ps.length≤s.size∧Below W.heap.size W w')

set_option maxRecDepth 100000 in
set_option maxHeartbeats 16000000 in
theorem pieces_any (s:ByteArray) (hs:s.size≤1000) (W:World):Calls Tryz.prog 78 #[.string s] W (PiecesSaid W s):=by
 obtain ⟨i147,hi,hz0,hz1,hz2⟩:=info_parts Tryz.info147
 go_enter Tryz.func78,Tryz.ntmps78
 go_wp2
 go_loopw [4,5] (fun vo i wr=>∃ (p:Nat) (ps:List Pc),i=.int .i64 p∧PcsB W s p ps vo wr) (fun _ i _=>s.size - (intOf i).toNat)
 case atStart=>exact ⟨0,[],rfl,⟨Nat.zero_le _,Nat.zero_le _,World.ownsRow_nil _ _ _ _,Cut.refl _ _,by simp,Below.refl _ _⟩⟩
 case round =>
  obtain ⟨p,ps,rfl,hP⟩:=hrel
  have hBs:=hP.bel.size
  have hpl:=hP.le
  have hpn:=hP.len
  by_cases hlt:p<s.size
  ·have hx:(p:Int)<(s.size:Int):=by omega
   obtain ⟨x,hxe⟩:∃ x,x=s[p].toNat:=⟨_,rfl⟩
   have hbx:byteAt s p=x:=by rw [hxe];exact byteAt_in hlt
   have hx255:x≤255:=by have:=byteAt_lt s p;omega
   have hcx:(bytesL s)[p]? = some (UInt8.ofNat x):=by
    have h1:(bytesL s)[p]? = some s[p]:=List.getElem?_eq_getElem (l:=bytesL s) hlt
    rw [h1,hxe];simp
   have hix:((s[p].toNat:Nat):Int)=(x:Int):=by rw [hxe]
   obtain ⟨vp,vc,rfl⟩:∃ vp vc,u4=.slice vp ps.length vc:=by
    rcases hP.own.2 with ⟨rfl,h0⟩|⟨g,cap',cur,rfl,_⟩
    ·exact ⟨none,0,by rw [h0]⟩
    ·exact ⟨_,_,rfl⟩
   have HP:=hide hP
   have Ho:=hide hP.own
   have HB:=hide hP.bel
   have Hbx:=hide hbx
   have Hcx:=hide hcx
   clear hP hbx hcx hxe
   by_cases h32:x=32
   ·have g32:(x:Int)=32:=by omega
    have HP2:=hide ((unhide HP).blank ((unhide Hbx).trans h32))
    clear h32
    go_wp2
    go_roundw
    case rel=>exact ⟨p+1,ps,by go_num,unhide HP2⟩
    case measure=>simp [intOf];omega
   ·have g32:¬ (x:Int)=32:=by omega
    have k32:((x:Int) == 32)=false:=by simpa using g32
    by_cases h40:x=40
    ·subst h40
     have hnew:=cells3_new wr (.int .u8 40) (.string ⟨#[]⟩) (.int .i64 p) 147
     have Hk:Hid (Cut (bytesL s) p [tokP ⟨40,⟨#[]⟩,p⟩] (p+1)):=cut_sign (unhide Hcx) (.inl ⟨rfl,rfl⟩)
     replace hix:((s[p].toNat:Nat):Int)=40:=hix
     go_wp2_with (first
      | (at_builtin;refine wpList_append_own_at _ rfl _ _ 141 rfl W.heap.size 147 i147 _ 3 32 Tryz.underlying141 hi hz0 hz1 hz2 rfl (by decide) _ _ _ rfl ((unhide Ho).alloc _) ⟨wr.heap.size,0,none⟩ 1 1 [.int .u8 40,.string ⟨#[]⟩,.int .i64 p] rfl rfl hnew (by simp [Value.oneCell']) (by unfold maxLen;omega) (by omega) (by simp;omega) ?_;intro v' w2 ho2 hg2 _ _;have HB2:=hide (((unhide HB).alloc hBs _).grown hg2 (by simp;omega) (fun j e=>(own_block (unhide Ho) j e).1));obtain ⟨g',cap',rfl⟩:=own_succ ho2;have Ho2:=hide ho2;clear ho2 hg2 hnew))
     go_roundw
     case rel=>exact ⟨p+1,_,by go_num,(unhide HP).more (x:=⟨40,⟨#[]⟩,p⟩) (by omega) (by omega) (unhide Ho2) (unhide Hk) (.inl rfl) (unhide HB2)⟩
     case measure=>simp [intOf];omega
    ·have g40:¬ (x:Int)=40:=by omega
     have k40:((x:Int) == 40)=false:=by simpa using g40
     by_cases h41:x=41
     ·subst h41
      have hnew:=cells3_new wr (.int .u8 41) (.string ⟨#[]⟩) (.int .i64 p) 147
      have Hk:Hid (Cut (bytesL s) p [tokP ⟨41,⟨#[]⟩,p⟩] (p+1)):=cut_sign (unhide Hcx) (.inr (.inl ⟨rfl,rfl⟩))
      replace hix:((s[p].toNat:Nat):Int)=41:=hix
      go_wp2_with (first
       | (at_builtin;refine wpList_append_own_at _ rfl _ _ 141 rfl W.heap.size 147 i147 _ 3 32 Tryz.underlying141 hi hz0 hz1 hz2 rfl (by decide) _ _ _ rfl ((unhide Ho).alloc _) ⟨wr.heap.size,0,none⟩ 1 1 [.int .u8 41,.string ⟨#[]⟩,.int .i64 p] rfl rfl hnew (by simp [Value.oneCell']) (by unfold maxLen;omega) (by omega) (by simp;omega) ?_;intro v' w2 ho2 hg2 _ _;have HB2:=hide (((unhide HB).alloc hBs _).grown hg2 (by simp;omega) (fun j e=>(own_block (unhide Ho) j e).1));obtain ⟨g',cap',rfl⟩:=own_succ ho2;have Ho2:=hide ho2;clear ho2 hg2 hnew))
      go_roundw
      case rel=>exact ⟨p+1,_,by go_num,(unhide HP).more (x:=⟨41,⟨#[]⟩,p⟩) (by omega) (by omega) (unhide Ho2) (unhide Hk) (.inr (.inl rfl)) (unhide HB2)⟩
      case measure=>simp [intOf];omega
     ·have g41:¬ (x:Int)=41:=by omega
      have k41:((x:Int) == 41)=false:=by simpa using g41
      by_cases h44:x=44
      ·subst h44
       have hnew:=cells3_new wr (.int .u8 44) (.string ⟨#[]⟩) (.int .i64 p) 147
       have Hk:Hid (Cut (bytesL s) p [tokP ⟨44,⟨#[]⟩,p⟩] (p+1)):=cut_sign (unhide Hcx) (.inr (.inr ⟨rfl,rfl⟩))
       replace hix:((s[p].toNat:Nat):Int)=44:=hix
       go_wp2_with (first
        | (at_builtin;refine wpList_append_own_at _ rfl _ _ 141 rfl W.heap.size 147 i147 _ 3 32 Tryz.underlying141 hi hz0 hz1 hz2 rfl (by decide) _ _ _ rfl ((unhide Ho).alloc _) ⟨wr.heap.size,0,none⟩ 1 1 [.int .u8 44,.string ⟨#[]⟩,.int .i64 p] rfl rfl hnew (by simp [Value.oneCell']) (by unfold maxLen;omega) (by omega) (by simp;omega) ?_;intro v' w2 ho2 hg2 _ _;have HB2:=hide (((unhide HB).alloc hBs _).grown hg2 (by simp;omega) (fun j e=>(own_block (unhide Ho) j e).1));obtain ⟨g',cap',rfl⟩:=own_succ ho2;have Ho2:=hide ho2;clear ho2 hg2 hnew))
       go_roundw
       case rel=>exact ⟨p+1,_,by go_num,(unhide HP).more (x:=⟨44,⟨#[]⟩,p⟩) (by omega) (by omega) (unhide Ho2) (unhide Hk) (.inr (.inr (.inl rfl))) (unhide HB2)⟩
       case measure=>simp [intOf];omega
      ·have g44:¬ (x:Int)=44:=by omega
       have k44:((x:Int) == 44)=false:=by simpa using g44
       by_cases h58:x=58
       ·subst h58
        replace hix:((s[p].toNat:Nat):Int)=58:=hix
        by_cases hp1:p+1<s.size
        ·have hx1:(p:Int)+1<(s.size:Int):=by omega
         by_cases h45:byteAt s (p+1)=45
         ·obtain ⟨hc1,_⟩:=byte_is h45 (by omega)
          have hi1:((s[p+1].toNat:Nat):Int)=45:=by have:=byteAt_in hp1;omega
          have hnew:=cells3_new wr (.int .u8 58) (.string ⟨#[]⟩) (.int .i64 p) 147
          have Hk:Hid (Cut (bytesL s) p [tokP ⟨58,⟨#[]⟩,p⟩] (p+2)):=cut_mark (unhide Hcx) hc1
          clear hc1 h45
          go_wp2_with (first
           | (at_builtin;refine wpList_append_own_at _ rfl _ _ 141 rfl W.heap.size 147 i147 _ 3 32 Tryz.underlying141 hi hz0 hz1 hz2 rfl (by decide) _ _ _ rfl ((unhide Ho).alloc _) ⟨wr.heap.size,0,none⟩ 1 1 [.int .u8 58,.string ⟨#[]⟩,.int .i64 p] rfl rfl hnew (by simp [Value.oneCell']) (by unfold maxLen;omega) (by omega) (by simp;omega) ?_;intro v' w2 ho2 hg2 _ _;have HB2:=hide (((unhide HB).alloc hBs _).grown hg2 (by simp;omega) (fun j e=>(own_block (unhide Ho) j e).1));obtain ⟨g',cap',rfl⟩:=own_succ ho2;have Ho2:=hide ho2;clear ho2 hg2 hnew))
          go_roundw
          case rel=>exact ⟨p+2,_,by go_num,(unhide HP).more (x:=⟨58,⟨#[]⟩,p⟩) (by omega) (by omega) (unhide Ho2) (unhide Hk) (.inr (.inr (.inr (.inl rfl)))) (unhide HB2)⟩
          case measure=>simp [intOf];omega
         ·have hi1:¬ ((s[p+1].toNat:Nat):Int)=45:=by have:=byteAt_in hp1;omega
          have Hnone:=hide ((unhide HP).cut.none (cut_none (unhide Hcx) (by decide) (by decide) (by decide) (by decide) (fun _ e=>h45 (by rw [byte_at e];rfl)) (by decide) (by decide) (by decide) (by decide)))
          have Hsm:∀ w,Hid (Calls Tryz.prog 63 #[.int .u8 58] w fun e w'=>e=.returned (.bool false)∧w'=w):=fun w=>smallR_any 58 w (by omega)
          have Hdg:∀ w,Hid (Calls Tryz.prog 97 #[.int .u8 58] w fun e w'=>e=.returned (.bool false)∧w'=w):=fun w=>digitR_any 58 w (by omega)
          clear h45
          go_wp2_with (first|(go_at_call 63;refine (unhide (Hsm _)).mono ?_;rintro e w' ⟨rfl,hw⟩;replace hw:=hw.symm;subst hw)|(go_at_call 97;refine (unhide (Hdg _)).mono ?_;rintro e w' ⟨rfl,hw⟩;replace hw:=hw.symm;subst hw))
          go_ret2
          exact .inl ⟨unhide Hnone,rfl,unhide HB⟩
        ·have hx1:¬ (p:Int)+1<(s.size:Int):=by omega
         have Hnone:=hide ((unhide HP).cut.none (cut_none (unhide Hcx) (by decide) (by decide) (by decide) (by decide) (fun _ e=>by have:=byte_at e;rw [byteAt_end (by omega)] at this;exact absurd this (by decide)) (by decide) (by decide) (by decide) (by decide)))
         have Hsm:∀ w,Hid (Calls Tryz.prog 63 #[.int .u8 58] w fun e w'=>e=.returned (.bool false)∧w'=w):=fun w=>smallR_any 58 w (by omega)
         have Hdg:∀ w,Hid (Calls Tryz.prog 97 #[.int .u8 58] w fun e w'=>e=.returned (.bool false)∧w'=w):=fun w=>digitR_any 58 w (by omega)
         go_wp2_with (first|(go_at_call 63;refine (unhide (Hsm _)).mono ?_;rintro e w' ⟨rfl,hw⟩;replace hw:=hw.symm;subst hw)|(go_at_call 97;refine (unhide (Hdg _)).mono ?_;rintro e w' ⟨rfl,hw⟩;replace hw:=hw.symm;subst hw))
         go_ret2
         exact .inl ⟨unhide Hnone,rfl,unhide HB⟩
       ·have g58:¬ (x:Int)=58:=by omega
        have k58:((x:Int) == 58)=false:=by simpa using g58
        by_cases hv:isVr x=true
        ·obtain ⟨v1,v2⟩:65≤x∧x≤90:=by simpa [isVr] using hv
         have g65:(65:Int)≤(x:Int):=by omega
         have g90:(x:Int)≤90:=by omega
         have hsl:=sliceS s p (p+1) (by omega) (by omega)
         rw [show (((p+1:Nat)):Int)=(p:Int)+1 from by omega] at hsl
         have hnew:=cells3_new wr (.int .u8 118) (.string (s.extract p (p+1))) (.int .i64 p) 147
         have hq:qVar (UInt8.ofNat x)=true:=by rw [← isVr_q];simpa [Nat.mod_eq_of_lt (show x<256 by omega)] using hv
         have hsz:(s.extract p (p+1)).size=1:=by rw [ByteArray.size_extract];omega
         have Hk:Hid (Cut (bytesL s) p [tokP ⟨118,s.extract p (p+1),p⟩] (p+1)):=by
          have:=cut_var (unhide Hcx) hq
          have e:tokP ⟨118,s.extract p (p+1),p⟩=Sum.inr (Sum.inl (UInt8.ofNat x,p)):=by
           simp only [tokP]
           rw [bytes_extract s p (p+1) (by omega) (by omega),seg_cons (by omega) (unhide Hcx)]
           rfl
          rw [e];exact this
         have Hsz:=hide hsz
         clear hq hsz hv
         go_wp2_with (first
          | (at_builtin;refine wpList_append_own_at _ rfl _ _ 141 rfl W.heap.size 147 i147 _ 3 32 Tryz.underlying141 hi hz0 hz1 hz2 rfl (by decide) _ _ _ rfl ((unhide Ho).alloc _) ⟨wr.heap.size,0,none⟩ 1 1 [.int .u8 118,.string (s.extract p (p+1)),.int .i64 p] rfl rfl hnew (by simp [Value.oneCell']) (by unfold maxLen;omega) (by omega) (by simp;omega) ?_;intro v' w2 ho2 hg2 _ _;have HB2:=hide (((unhide HB).alloc hBs _).grown hg2 (by simp;omega) (fun j e=>(own_block (unhide Ho) j e).1));obtain ⟨g',cap',rfl⟩:=own_succ ho2;have Ho2:=hide ho2;clear ho2 hg2 hnew))
         go_roundw
         case rel=>exact ⟨p+1,_,by go_num,(unhide HP).more (x:=⟨118,s.extract p (p+1),p⟩) (by omega) (by omega) (unhide Ho2) (unhide Hk) (.inr (.inr (.inr (.inr (.inl ⟨rfl,unhide Hsz⟩))))) (unhide HB2)⟩
         case measure=>simp [intOf];omega
        ·have hv':isVr x=false:=by simpa using hv
         have hnv:¬ (65≤x∧x≤90):=fun h=>by simp [isVr,h] at hv'
         have hqv:qVar (UInt8.ofNat x)=false:=by rw [← isVr_q];simpa [Nat.mod_eq_of_lt (show x<256 by omega)] using hv'
         by_cases hl:isLt x=true
         ·have hl9:97≤x∧x≤122:=by simpa [isLt] using hl
          have g65:(65:Int)≤(x:Int):=by omega
          have g90:¬ (x:Int)≤90:=by omega
          have Hsm:∀ w,Hid (Calls Tryz.prog 63 #[.int .u8 x] w fun e w'=>e=.returned (.bool true)∧w'=w):=fun w=>by have:=smallR_any x w hx255;rw [hl] at this;exact this
          have hql:qSmall (UInt8.ofNat x)=true:=by rw [← isLt_q];simpa [Nat.mod_eq_of_lt (show x<256 by omega)] using hl
          have Hk:=hide (cut_name (unhide Hcx) hql hlt)
          clear hl hql hv hv' hqv
          go_wp2_with (first|(go_at_call 63;refine (unhide (Hsm _)).mono ?_;rintro e w' ⟨rfl,hw⟩;replace hw:=hw.symm;subst hw))
          go_loopw [5] (fun i w2=>∃ k:Nat,p+1≤k∧k≤s.size∧i=.int .i64 k∧runP isLt s (p+1)=runP isLt s k∧w2=wr) (fun i _=>s.size - (intOf i).toNat)
          case atStart=>exact ⟨p+1,Nat.le_refl _,by omega,by go_num,rfl,rfl⟩
          case round =>
           obtain ⟨k,hk1,hk2,rfl,hrun,hw⟩:=hrel
           subst hw
           have hgo:(k<s.size∧isLt (byteAt s k)=true)∨(k<s.size∧isLt (byteAt s k)=false)∨k=s.size:=by
            rcases Nat.lt_or_ge k s.size with h|h
            ·cases isLt (byteAt s k)
             ·exact .inr (.inl ⟨h,rfl⟩)
             ·exact .inl ⟨h,rfl⟩
            ·exact .inr (.inr (by omega))
           rcases hgo with ⟨hks,hkt⟩|hstop
           ·have hkz:(k:Int)<(s.size:Int):=by omega
            have hik:((s[k].toNat:Nat):Int)=(byteAt s k:Int):=by have:=byteAt_in hks;omega
            have Hcl:∀ w,Hid (Calls Tryz.prog 63 #[.int .u8 (byteAt s k:Nat)] w fun e w'=>e=.returned (.bool true)∧w'=w):=fun w=>by have:=smallR_any (byteAt s k) w (by have:=byteAt_lt s k;omega);rw [hkt] at this;exact this
            have Hrun:=hide (hrun.trans (runP_go hks hkt))
            clear hrun hkt
            generalize byteAt s k=y at *
            go_wp2_with (first|(go_at_call 63;refine (unhide (Hcl _)).mono ?_;rintro e w' ⟨rfl,hw⟩;replace hw:=hw.symm;subst hw))
            go_roundw
            case rel=>exact ⟨k+1,by omega,by omega,by go_num,unhide Hrun,by first|rfl|trivial⟩
            case measure=>simp [intOf];omega
           ·have hrk:runP isLt s k=k:=by
             rcases hstop with ⟨_,h⟩|h
             ·exact runP_stop h
             ·exact runP_stop (by rw [byteAt_end (by omega)];rfl)
            rw [hrk] at hrun
            rcases hstop with ⟨hks,hkt⟩|hke
            ·have hkz:(k:Int)<(s.size:Int):=by omega
             have hik:((s[k].toNat:Nat):Int)=(byteAt s k:Int):=by have:=byteAt_in hks;omega
             have Hcl:∀ w,Hid (Calls Tryz.prog 63 #[.int .u8 (byteAt s k:Nat)] w fun e w'=>e=.returned (.bool false)∧w'=w):=fun w=>by have:=smallR_any (byteAt s k) w (by have:=byteAt_lt s k;omega);rw [hkt] at this;exact this
             clear hkt
             generalize byteAt s k=y at *
             have hsl:=sliceS s p k (by omega) (by omega)
             have hnew:=cells3_new wr (.int .u8 110) (.string (s.extract p k)) (.int .i64 p) 147
             have hsz:(s.extract p k).size≤1000:=by rw [ByteArray.size_extract];omega
             have Hk2:Hid (Cut (bytesL s) p [tokP ⟨110,s.extract p k,p⟩] k):=by
              have:=unhide Hk
              rw [hrun] at this
              have e:tokP ⟨110,s.extract p k,p⟩=Sum.inr (Sum.inr (Sum.inl (seg (bytesL s) p k,p))):=by
               simp only [tokP]
               rw [bytes_extract s p k (by omega) (by omega)]
               rfl
              rw [e];exact this
             have Hsz:=hide hsz
             clear hsz hrun hrk
             go_wp2_with (first
              | (at_builtin;refine wpList_append_own_at _ rfl _ _ 141 rfl W.heap.size 147 i147 _ 3 32 Tryz.underlying141 hi hz0 hz1 hz2 rfl (by decide) _ _ _ rfl ((unhide Ho).alloc _) ⟨wr.heap.size,0,none⟩ 1 1 [.int .u8 110,.string (s.extract p k),.int .i64 p] rfl rfl hnew (by simp [Value.oneCell']) (by unfold maxLen;omega) (by omega) (by simp;omega) ?_;intro v' w2 ho2 hg2 _ _;have HB2:=hide (((unhide HB).alloc hBs _).grown hg2 (by simp;omega) (fun j e=>(own_block (unhide Ho) j e).1));obtain ⟨g',cap',rfl⟩:=own_succ ho2;have Ho2:=hide ho2;clear ho2 hg2 hnew)
              | (go_at_call 63;refine (unhide (Hcl _)).mono ?_;rintro e w' ⟨rfl,hw⟩;replace hw:=hw.symm;subst hw))
             go_roundw
             case rel=>exact ⟨k,_,by go_num,(unhide HP).more (x:=⟨110,s.extract p k,p⟩) (by omega) (by omega) (unhide Ho2) (unhide Hk2) (.inr (.inr (.inr (.inr (.inr (.inl ⟨rfl,unhide Hsz⟩)))))) (unhide HB2)⟩
             case measure=>simp [intOf];omega
            ·have hkz:¬ (k:Int)<(s.size:Int):=by omega
             clear hke
             have hsl:=sliceS s p k (by omega) (by omega)
             have hnew:=cells3_new wr (.int .u8 110) (.string (s.extract p k)) (.int .i64 p) 147
             have hsz:(s.extract p k).size≤1000:=by rw [ByteArray.size_extract];omega
             have Hk2:Hid (Cut (bytesL s) p [tokP ⟨110,s.extract p k,p⟩] k):=by
              have:=unhide Hk
              rw [hrun] at this
              have e:tokP ⟨110,s.extract p k,p⟩=Sum.inr (Sum.inr (Sum.inl (seg (bytesL s) p k,p))):=by
               simp only [tokP]
               rw [bytes_extract s p k (by omega) (by omega)]
               rfl
              rw [e];exact this
             have Hsz:=hide hsz
             clear hsz hrun hrk
             go_wp2_with (first
              | (at_builtin;refine wpList_append_own_at _ rfl _ _ 141 rfl W.heap.size 147 i147 _ 3 32 Tryz.underlying141 hi hz0 hz1 hz2 rfl (by decide) _ _ _ rfl ((unhide Ho).alloc _) ⟨wr.heap.size,0,none⟩ 1 1 [.int .u8 110,.string (s.extract p k),.int .i64 p] rfl rfl hnew (by simp [Value.oneCell']) (by unfold maxLen;omega) (by omega) (by simp;omega) ?_;intro v' w2 ho2 hg2 _ _;have HB2:=hide (((unhide HB).alloc hBs _).grown hg2 (by simp;omega) (fun j e=>(own_block (unhide Ho) j e).1));obtain ⟨g',cap',rfl⟩:=own_succ ho2;have Ho2:=hide ho2;clear ho2 hg2 hnew))
             go_roundw
             case rel=>exact ⟨k,_,by go_num,(unhide HP).more (x:=⟨110,s.extract p k,p⟩) (by omega) (by omega) (unhide Ho2) (unhide Hk2) (.inr (.inr (.inr (.inr (.inr (.inl ⟨rfl,unhide Hsz⟩)))))) (unhide HB2)⟩
             case measure=>simp [intOf];omega
         ·have hl':isLt x=false:=by simpa using hl
          have Hsm:∀ w,Hid (Calls Tryz.prog 63 #[.int .u8 x] w fun e w'=>e=.returned (.bool false)∧w'=w):=fun w=>by have:=smallR_any x w hx255;rw [hl'] at this;exact this
          have hql:qSmall (UInt8.ofNat x)=false:=by rw [← isLt_q];simpa [Nat.mod_eq_of_lt (show x<256 by omega)] using hl'
          by_cases hm:x=45
          ·subst hm
           replace hix:((s[p].toNat:Nat):Int)=45:=hix
           replace Hsm:∀ w,Hid (Calls Tryz.prog 63 #[.int .u8 45] w fun e w'=>e=.returned (.bool false)∧w'=w):=Hsm
           have Hdg:∀ w,Hid (Calls Tryz.prog 97 #[.int .u8 45] w fun e w'=>e=.returned (.bool false)∧w'=w):=fun w=>digitR_any 45 w (by omega)
           have Hk:=hide (cut_minus (unhide Hcx) hlt)
           clear hl hl' hql hv hv' hqv g32 g40 g41 g44 g58 k32 k40 k41 k44 k58
           go_wp2_with (first|(go_at_call 63;refine (unhide (Hsm _)).mono ?_;rintro e w' ⟨rfl,hw⟩;replace hw:=hw.symm;subst hw)|(go_at_call 97;refine (unhide (Hdg _)).mono ?_;rintro e w' ⟨rfl,hw⟩;replace hw:=hw.symm;subst hw))
           go_loopw [5] (fun i w2=>∃ k:Nat,p+1≤k∧k≤s.size∧i=.int .i64 k∧runP isDg s (p+1)=runP isDg s k∧w2=wr) (fun i _=>s.size - (intOf i).toNat)
           case atStart=>exact ⟨p+1,Nat.le_refl _,by omega,by go_num,rfl,rfl⟩
           case round =>
            obtain ⟨k,hk1,hk2,rfl,hrun,hw⟩:=hrel
            subst hw
            have hgo:(k<s.size∧isDg (byteAt s k)=true)∨(k<s.size∧isDg (byteAt s k)=false)∨k=s.size:=by
             rcases Nat.lt_or_ge k s.size with h|h
             ·cases isDg (byteAt s k)
              ·exact .inr (.inl ⟨h,rfl⟩)
              ·exact .inl ⟨h,rfl⟩
             ·exact .inr (.inr (by omega))
            rcases hgo with ⟨hks,hkt⟩|hstop
            ·have hkz:(k:Int)<(s.size:Int):=by omega
             have hik:((s[k].toNat:Nat):Int)=(byteAt s k:Int):=by have:=byteAt_in hks;omega
             have Hcl:∀ w,Hid (Calls Tryz.prog 97 #[.int .u8 (byteAt s k:Nat)] w fun e w'=>e=.returned (.bool true)∧w'=w):=fun w=>by have:=digitR_any (byteAt s k) w (by have:=byteAt_lt s k;omega);rw [hkt] at this;exact this
             have Hrun:=hide (hrun.trans (runP_go hks hkt))
             clear hrun hkt
             generalize byteAt s k=y at *
             go_wp2_with (first|(go_at_call 97;refine (unhide (Hcl _)).mono ?_;rintro e w' ⟨rfl,hw⟩;replace hw:=hw.symm;subst hw))
             go_roundw
             case rel=>exact ⟨k+1,by omega,by omega,by go_num,unhide Hrun,by first|rfl|trivial⟩
             case measure=>simp [intOf];omega
            ·have hrk:runP isDg s k=k:=by
              rcases hstop with ⟨_,h⟩|h
              ·exact runP_stop h
              ·exact runP_stop (by rw [byteAt_end (by omega)];rfl)
             rw [hrk] at hrun
             rcases hstop with ⟨hks,hkt⟩|hke
             ·have hkz:(k:Int)<(s.size:Int):=by omega
              have hik:((s[k].toNat:Nat):Int)=(byteAt s k:Int):=by have:=byteAt_in hks;omega
              have Hcl:∀ w,Hid (Calls Tryz.prog 97 #[.int .u8 (byteAt s k:Nat)] w fun e w'=>e=.returned (.bool false)∧w'=w):=fun w=>by have:=digitR_any (byteAt s k) w (by have:=byteAt_lt s k;omega);rw [hkt] at this;exact this
              clear hkt
              generalize byteAt s k=y at *
              have hk9:=unhide Hk
              rw [hrun] at hk9
              by_cases h9:1≤k - p - 1∧k - p - 1≤9
              ·have t1:¬ (k:Int) - p - 1<1:=by omega
               have t2:¬ (9:Int)<(k:Int) - p - 1:=by omega
               have hsl:=sliceS s p k (by omega) (by omega)
               have hnew:=cells3_new wr (.int .u8 100) (.string (s.extract p k)) (.int .i64 p) 147
               have hsz:NumS (s.extract p k):=num_minus h9.1 h9.2 hk2 hrun
               have Hk2:Hid (Cut (bytesL s) p [tokP ⟨100,s.extract p k,p⟩] k):=by
                have:=hk9.1 h9
                have e:tokP ⟨100,s.extract p k,p⟩=Sum.inr (Sum.inr (Sum.inr (seg (bytesL s) p k))):=by
                 simp only [tokP]
                 rw [bytes_extract s p k (by omega) (by omega)]
                 rfl
                rw [e];exact this
               have Hsz:=hide hsz
               clear hsz hrun hrk hk9
               go_wp2_with (first
                | (at_builtin;refine wpList_append_own_at _ rfl _ _ 141 rfl W.heap.size 147 i147 _ 3 32 Tryz.underlying141 hi hz0 hz1 hz2 rfl (by decide) _ _ _ rfl ((unhide Ho).alloc _) ⟨wr.heap.size,0,none⟩ 1 1 [.int .u8 100,.string (s.extract p k),.int .i64 p] rfl rfl hnew (by simp [Value.oneCell']) (by unfold maxLen;omega) (by omega) (by simp;omega) ?_;intro v' w2 ho2 hg2 _ _;have HB2:=hide (((unhide HB).alloc hBs _).grown hg2 (by simp;omega) (fun j e=>(own_block (unhide Ho) j e).1));obtain ⟨g',cap',rfl⟩:=own_succ ho2;have Ho2:=hide ho2;clear ho2 hg2 hnew)
                | (go_at_call 97;refine (unhide (Hcl _)).mono ?_;rintro e w' ⟨rfl,hw⟩;replace hw:=hw.symm;subst hw))
               go_roundw
               case rel=>exact ⟨k,_,by go_num,(unhide HP).more (x:=⟨100,s.extract p k,p⟩) (by omega) (by omega) (unhide Ho2) (unhide Hk2) (.inr (.inr (.inr (.inr (.inr (.inr ⟨rfl,unhide Hsz⟩)))))) (unhide HB2)⟩
               case measure=>simp [intOf];omega
              ·have Hnone:=hide ((unhide HP).cut.none (hk9.2 h9))
               clear hk9
               rcases (show (k - p - 1<1)∨(9<k - p - 1) by omega) with h10|h10
               ·have t1:(k:Int) - p - 1<1:=by omega
                clear hrun hrk h9
                go_wp2_with (first|(go_at_call 97;refine (unhide (Hcl _)).mono ?_;rintro e w' ⟨rfl,hw⟩;replace hw:=hw.symm;subst hw))
                go_ret2
                exact .inl ⟨unhide Hnone,rfl,unhide HB⟩
               ·have t1:¬ (k:Int) - p - 1<1:=by omega
                have t2:(9:Int)<(k:Int) - p - 1:=by omega
                clear hrun hrk h9
                go_wp2_with (first|(go_at_call 97;refine (unhide (Hcl _)).mono ?_;rintro e w' ⟨rfl,hw⟩;replace hw:=hw.symm;subst hw))
                go_ret2
                exact .inl ⟨unhide Hnone,rfl,unhide HB⟩
             ·have hkz:¬ (k:Int)<(s.size:Int):=by omega
              clear hke
              have hk9:=unhide Hk
              rw [hrun] at hk9
              by_cases h9:1≤k - p - 1∧k - p - 1≤9
              ·have t1:¬ (k:Int) - p - 1<1:=by omega
               have t2:¬ (9:Int)<(k:Int) - p - 1:=by omega
               have hsl:=sliceS s p k (by omega) (by omega)
               have hnew:=cells3_new wr (.int .u8 100) (.string (s.extract p k)) (.int .i64 p) 147
               have hsz:NumS (s.extract p k):=num_minus h9.1 h9.2 hk2 hrun
               have Hk2:Hid (Cut (bytesL s) p [tokP ⟨100,s.extract p k,p⟩] k):=by
                have:=hk9.1 h9
                have e:tokP ⟨100,s.extract p k,p⟩=Sum.inr (Sum.inr (Sum.inr (seg (bytesL s) p k))):=by
                 simp only [tokP]
                 rw [bytes_extract s p k (by omega) (by omega)]
                 rfl
                rw [e];exact this
               have Hsz:=hide hsz
               clear hsz hrun hrk hk9
               go_wp2_with (first
                | (at_builtin;refine wpList_append_own_at _ rfl _ _ 141 rfl W.heap.size 147 i147 _ 3 32 Tryz.underlying141 hi hz0 hz1 hz2 rfl (by decide) _ _ _ rfl ((unhide Ho).alloc _) ⟨wr.heap.size,0,none⟩ 1 1 [.int .u8 100,.string (s.extract p k),.int .i64 p] rfl rfl hnew (by simp [Value.oneCell']) (by unfold maxLen;omega) (by omega) (by simp;omega) ?_;intro v' w2 ho2 hg2 _ _;have HB2:=hide (((unhide HB).alloc hBs _).grown hg2 (by simp;omega) (fun j e=>(own_block (unhide Ho) j e).1));obtain ⟨g',cap',rfl⟩:=own_succ ho2;have Ho2:=hide ho2;clear ho2 hg2 hnew))
               go_roundw
               case rel=>exact ⟨k,_,by go_num,(unhide HP).more (x:=⟨100,s.extract p k,p⟩) (by omega) (by omega) (unhide Ho2) (unhide Hk2) (.inr (.inr (.inr (.inr (.inr (.inr ⟨rfl,unhide Hsz⟩)))))) (unhide HB2)⟩
               case measure=>simp [intOf];omega
              ·have Hnone:=hide ((unhide HP).cut.none (hk9.2 h9))
               clear hk9
               rcases (show (k - p - 1<1)∨(9<k - p - 1) by omega) with h10|h10
               ·have t1:(k:Int) - p - 1<1:=by omega
                clear hrun hrk h9
                go_wp2
                go_ret2
                exact .inl ⟨unhide Hnone,rfl,unhide HB⟩
               ·have t1:¬ (k:Int) - p - 1<1:=by omega
                have t2:(9:Int)<(k:Int) - p - 1:=by omega
                clear hrun hrk h9
                go_wp2
                go_ret2
                exact .inl ⟨unhide Hnone,rfl,unhide HB⟩
          ·have g45:¬ (x:Int)=45:=by omega
           have k45:((x:Int) == 45)=false:=by simpa using g45
           by_cases hd:isDg x=true
           ·have hd9:48≤x∧x≤57:=by simpa [isDg] using hd
            have g65:¬ (65:Int)≤(x:Int):=by omega
            have Hdg:∀ w,Hid (Calls Tryz.prog 97 #[.int .u8 x] w fun e w'=>e=.returned (.bool true)∧w'=w):=fun w=>by have:=digitR_any x w hx255;rw [hd] at this;exact this
            have hqd:qDigit (UInt8.ofNat x)=true:=by rw [← isDg_q];simpa [Nat.mod_eq_of_lt (show x<256 by omega)] using hd
            have Hk:=hide (cut_digit (unhide Hcx) hqd hlt)
            clear hl hl' hql hv hv' hqv hd hqd
            go_wp2_with (first|(go_at_call 63;refine (unhide (Hsm _)).mono ?_;rintro e w' ⟨rfl,hw⟩;replace hw:=hw.symm;subst hw)|(go_at_call 97;refine (unhide (Hdg _)).mono ?_;rintro e w' ⟨rfl,hw⟩;replace hw:=hw.symm;subst hw))
            go_loopw [5] (fun i w2=>∃ k:Nat,p+1≤k∧k≤s.size∧i=.int .i64 k∧runP isDg s (p+1)=runP isDg s k∧w2=wr) (fun i _=>s.size - (intOf i).toNat)
            case atStart=>exact ⟨p+1,Nat.le_refl _,by omega,by go_num,rfl,rfl⟩
            case round =>
             obtain ⟨k,hk1,hk2,rfl,hrun,hw⟩:=hrel
             subst hw
             have hgo:(k<s.size∧isDg (byteAt s k)=true)∨(k<s.size∧isDg (byteAt s k)=false)∨k=s.size:=by
              rcases Nat.lt_or_ge k s.size with h|h
              ·cases isDg (byteAt s k)
               ·exact .inr (.inl ⟨h,rfl⟩)
               ·exact .inl ⟨h,rfl⟩
              ·exact .inr (.inr (by omega))
             rcases hgo with ⟨hks,hkt⟩|hstop
             ·have hkz:(k:Int)<(s.size:Int):=by omega
              have hik:((s[k].toNat:Nat):Int)=(byteAt s k:Int):=by have:=byteAt_in hks;omega
              have Hcl:∀ w,Hid (Calls Tryz.prog 97 #[.int .u8 (byteAt s k:Nat)] w fun e w'=>e=.returned (.bool true)∧w'=w):=fun w=>by have:=digitR_any (byteAt s k) w (by have:=byteAt_lt s k;omega);rw [hkt] at this;exact this
              have Hrun:=hide (hrun.trans (runP_go hks hkt))
              clear hrun hkt
              generalize byteAt s k=y at *
              go_wp2_with (first|(go_at_call 97;refine (unhide (Hcl _)).mono ?_;rintro e w' ⟨rfl,hw⟩;replace hw:=hw.symm;subst hw))
              go_roundw
              case rel=>exact ⟨k+1,by omega,by omega,by go_num,unhide Hrun,by first|rfl|trivial⟩
              case measure=>simp [intOf];omega
             ·have hrk:runP isDg s k=k:=by
               rcases hstop with ⟨_,h⟩|h
               ·exact runP_stop h
               ·exact runP_stop (by rw [byteAt_end (by omega)];rfl)
              rw [hrk] at hrun
              rcases hstop with ⟨hks,hkt⟩|hke
              ·have hkz:(k:Int)<(s.size:Int):=by omega
               have hik:((s[k].toNat:Nat):Int)=(byteAt s k:Int):=by have:=byteAt_in hks;omega
               have Hcl:∀ w,Hid (Calls Tryz.prog 97 #[.int .u8 (byteAt s k:Nat)] w fun e w'=>e=.returned (.bool false)∧w'=w):=fun w=>by have:=digitR_any (byteAt s k) w (by have:=byteAt_lt s k;omega);rw [hkt] at this;exact this
               clear hkt
               generalize byteAt s k=y at *
               have hk9:=unhide Hk
               rw [hrun] at hk9
               by_cases h9:1≤k - p∧k - p≤9
               ·have t1:¬ (k:Int) - p<1:=by omega
                have t2:¬ (9:Int)<(k:Int) - p:=by omega
                have hsl:=sliceS s p k (by omega) (by omega)
                have hnew:=cells3_new wr (.int .u8 100) (.string (s.extract p k)) (.int .i64 p) 147
                have hsz:NumS (s.extract p k):=num_digit h9.1 h9.2 hk2 (by rw [unhide Hbx];omega)
                have Hk2:Hid (Cut (bytesL s) p [tokP ⟨100,s.extract p k,p⟩] k):=by
                 have:=hk9.1 h9.2
                 have e:tokP ⟨100,s.extract p k,p⟩=Sum.inr (Sum.inr (Sum.inr (seg (bytesL s) p k))):=by
                  simp only [tokP]
                  rw [bytes_extract s p k (by omega) (by omega)]
                  rfl
                 rw [e];exact this
                have Hsz:=hide hsz
                clear hsz hrun hrk hk9
                go_wp2_with (first
                 | (at_builtin;refine wpList_append_own_at _ rfl _ _ 141 rfl W.heap.size 147 i147 _ 3 32 Tryz.underlying141 hi hz0 hz1 hz2 rfl (by decide) _ _ _ rfl ((unhide Ho).alloc _) ⟨wr.heap.size,0,none⟩ 1 1 [.int .u8 100,.string (s.extract p k),.int .i64 p] rfl rfl hnew (by simp [Value.oneCell']) (by unfold maxLen;omega) (by omega) (by simp;omega) ?_;intro v' w2 ho2 hg2 _ _;have HB2:=hide (((unhide HB).alloc hBs _).grown hg2 (by simp;omega) (fun j e=>(own_block (unhide Ho) j e).1));obtain ⟨g',cap',rfl⟩:=own_succ ho2;have Ho2:=hide ho2;clear ho2 hg2 hnew)
                 | (go_at_call 97;refine (unhide (Hcl _)).mono ?_;rintro e w' ⟨rfl,hw⟩;replace hw:=hw.symm;subst hw))
                go_roundw
                case rel=>exact ⟨k,_,by go_num,(unhide HP).more (x:=⟨100,s.extract p k,p⟩) (by omega) (by omega) (unhide Ho2) (unhide Hk2) (.inr (.inr (.inr (.inr (.inr (.inr ⟨rfl,unhide Hsz⟩)))))) (unhide HB2)⟩
                case measure=>simp [intOf];omega
               ·have Hnone:=hide ((unhide HP).cut.none (hk9.2 (by omega)))
                have t1:¬ (k:Int) - p<1:=by omega
                have t2:(9:Int)<(k:Int) - p:=by omega
                clear hk9 hrun hrk h9
                go_wp2_with (first|(go_at_call 97;refine (unhide (Hcl _)).mono ?_;rintro e w' ⟨rfl,hw⟩;replace hw:=hw.symm;subst hw))
                go_ret2
                exact .inl ⟨unhide Hnone,rfl,unhide HB⟩
              ·have hkz:¬ (k:Int)<(s.size:Int):=by omega
               clear hke
               have hk9:=unhide Hk
               rw [hrun] at hk9
               by_cases h9:1≤k - p∧k - p≤9
               ·have t1:¬ (k:Int) - p<1:=by omega
                have t2:¬ (9:Int)<(k:Int) - p:=by omega
                have hsl:=sliceS s p k (by omega) (by omega)
                have hnew:=cells3_new wr (.int .u8 100) (.string (s.extract p k)) (.int .i64 p) 147
                have hsz:NumS (s.extract p k):=num_digit h9.1 h9.2 hk2 (by rw [unhide Hbx];omega)
                have Hk2:Hid (Cut (bytesL s) p [tokP ⟨100,s.extract p k,p⟩] k):=by
                 have:=hk9.1 h9.2
                 have e:tokP ⟨100,s.extract p k,p⟩=Sum.inr (Sum.inr (Sum.inr (seg (bytesL s) p k))):=by
                  simp only [tokP]
                  rw [bytes_extract s p k (by omega) (by omega)]
                  rfl
                 rw [e];exact this
                have Hsz:=hide hsz
                clear hsz hrun hrk hk9
                go_wp2_with (first
                 | (at_builtin;refine wpList_append_own_at _ rfl _ _ 141 rfl W.heap.size 147 i147 _ 3 32 Tryz.underlying141 hi hz0 hz1 hz2 rfl (by decide) _ _ _ rfl ((unhide Ho).alloc _) ⟨wr.heap.size,0,none⟩ 1 1 [.int .u8 100,.string (s.extract p k),.int .i64 p] rfl rfl hnew (by simp [Value.oneCell']) (by unfold maxLen;omega) (by omega) (by simp;omega) ?_;intro v' w2 ho2 hg2 _ _;have HB2:=hide (((unhide HB).alloc hBs _).grown hg2 (by simp;omega) (fun j e=>(own_block (unhide Ho) j e).1));obtain ⟨g',cap',rfl⟩:=own_succ ho2;have Ho2:=hide ho2;clear ho2 hg2 hnew))
                go_roundw
                case rel=>exact ⟨k,_,by go_num,(unhide HP).more (x:=⟨100,s.extract p k,p⟩) (by omega) (by omega) (unhide Ho2) (unhide Hk2) (.inr (.inr (.inr (.inr (.inr (.inr ⟨rfl,unhide Hsz⟩)))))) (unhide HB2)⟩
                case measure=>simp [intOf];omega
               ·have Hnone:=hide ((unhide HP).cut.none (hk9.2 (by omega)))
                have t1:¬ (k:Int) - p<1:=by omega
                have t2:(9:Int)<(k:Int) - p:=by omega
                clear hk9 hrun hrk h9
                go_wp2
                go_ret2
                exact .inl ⟨unhide Hnone,rfl,unhide HB⟩
           ·have hd':isDg x=false:=by simpa using hd
            have Hdg:∀ w,Hid (Calls Tryz.prog 97 #[.int .u8 x] w fun e w'=>e=.returned (.bool false)∧w'=w):=fun w=>by have:=digitR_any x w hx255;rw [hd'] at this;exact this
            have hqd:qDigit (UInt8.ofNat x)=false:=by rw [← isDg_q];simpa [Nat.mod_eq_of_lt (show x<256 by omega)] using hd'
            have hne:∀ n:Nat,n<256→¬ (x:Int)=n→UInt8.ofNat x≠UInt8.ofNat n:=fun n hn h e=>h (by
             have:=(byte_case (unhide Hcx) hn).1 e
             rw [unhide Hbx] at this
             omega)
            have Hnone:=hide ((unhide HP).cut.none (cut_none (unhide Hcx) (hne 32 (by omega) g32) (hne 40 (by omega) g40) (hne 41 (by omega) g41) (hne 44 (by omega) g44) (fun e=>absurd e (hne 58 (by omega) g58)) hqv hql (hne 45 (by omega) g45) hqd))
            clear hl hl' hql hv hv' hqv hd hd' hqd hne
            rcases (show (x<65)∨(90<x) by omega) with hv1|hv1
            ·have g65:¬ (65:Int)≤(x:Int):=by omega
             go_wp2_with (first|(go_at_call 63;refine (unhide (Hsm _)).mono ?_;rintro e w' ⟨rfl,hw⟩;replace hw:=hw.symm;subst hw)|(go_at_call 97;refine (unhide (Hdg _)).mono ?_;rintro e w' ⟨rfl,hw⟩;replace hw:=hw.symm;subst hw))
             go_ret2
             exact .inl ⟨unhide Hnone,rfl,unhide HB⟩
            ·have g65:(65:Int)≤(x:Int):=by omega
             have g90:¬ (x:Int)≤90:=by omega
             go_wp2_with (first|(go_at_call 63;refine (unhide (Hsm _)).mono ?_;rintro e w' ⟨rfl,hw⟩;replace hw:=hw.symm;subst hw)|(go_at_call 97;refine (unhide (Hdg _)).mono ?_;rintro e w' ⟨rfl,hw⟩;replace hw:=hw.symm;subst hw))
             go_ret2
             exact .inl ⟨unhide Hnone,rfl,unhide HB⟩
  ·have hx:¬ (p:Int)<(s.size:Int):=by omega
   have hpe:p=(bytesL s).length:=by rw [bytesL_len];omega
   have hcut:=hP.cut
   rw [hpe] at hcut
   have Hfin:Hid (PiecesSaid W s (.returned (.tuple #[u4,.bool true])) wr):=.inr ⟨u4,ps,hcut.whole,rfl,hP.own,hP.wf,by omega,hP.bel⟩
   clear hP hcut
   go_wp2
   go_ret2
   exact unhide Hfin

end Go.Proofs.YtgddkjhknlgbbaaGreatDoor
