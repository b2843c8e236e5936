/- The numbers under which this program holds sync.RWMutex's reader's side, and that it holds it (Derived.Conc.RwLib): checked by the kernel. -/
import Derived.Test.YtpjcmpfncpnmeaaProg
import Derived.Conc.RwLib
import Derived.KernelRfl
namespace Go.Proofs.Ytpjcmpfncpnmeaa
open Go.Conc.Locks

abbrev rwLink : RwLink := { lock := 0, unlock := 0, ilock := 0, iunlock := 0, lockSlow := 0, unlockSlow := 0, disable := 137, enable := 140, acquire := 141, relMerge := 142, cas32 := 0, add32 := 156, tMutex := 174, tIMutex := 172, tPMutex := 227, tPIMutex := 0, tPI32 := 245, tUP := 226, tNoCopy := 169, tU32 := 170, rlock := 119, runlock := 120, wlock := 0, wunlock := 0, i32add := 138, raceRead := 136, release := 0, rUnlockSlow := 143, semacqR := 139, semacqW := 0, semrel := 158, sfatal := 157, tRW := 179, tPRW := 224, tAI32 := 177, tPAI32 := 243, tPU32 := 230, tANoCopy := 175 }

theorem rwCore : RwCore Try.prog rwLink :=
  ⟨Try.func138, Try.func136, Try.func137, Try.func140, Try.func141, Try.func142, Try.func156,
   Try.underlying179, Try.runUnderlying179, Try.sizeOf179, Try.isAgg179, Try.zeroValue179,
   Try.underlying177, Try.runUnderlying177, Try.sizeOf177, Try.isAgg177, Try.zeroValue177,
   Try.underlying224, Try.runUnderlying224, Try.sizeOf224, Try.isAgg224, Try.zeroValue224,
   Try.underlying243, Try.runUnderlying243, Try.sizeOf243, Try.isAgg243, Try.zeroValue243,
   Try.underlying230, Try.runUnderlying230, Try.sizeOf230, Try.isAgg230, Try.zeroValue230,
   Try.underlying175, Try.runUnderlying175, Try.sizeOf175, Try.isAgg175, Try.zeroValue175,
   Try.underlying170, Try.runUnderlying170, Try.sizeOf170, Try.isAgg170, Try.zeroValue170,
   Try.underlying174, Try.runUnderlying174, Try.sizeOf174, Try.isAgg174, Try.zeroValue174,
   Try.underlying227, Try.runUnderlying227, Try.sizeOf227, Try.isAgg227, Try.zeroValue227,
   Try.underlying245, Try.runUnderlying245, Try.sizeOf245, Try.isAgg245, Try.zeroValue245,
   Try.underlying226, Try.runUnderlying226, Try.sizeOf226, Try.isAgg226, Try.zeroValue226,
   Try.underlying21, Try.runUnderlying21, Try.sizeOf21, Try.isAgg21, Try.zeroValue21,
   (by kernel_rfl), (by kernel_rfl)⟩
theorem rwRLib : RwRLib Try.prog rwLink := ⟨rwCore, Try.func119, Try.func120⟩

end Go.Proofs.Ytpjcmpfncpnmeaa
